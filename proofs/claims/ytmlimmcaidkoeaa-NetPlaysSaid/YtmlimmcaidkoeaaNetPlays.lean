/- NetPlays: for every number and all acts the statement's function tells true and turns nothing that was there. No condition. -/
import Derived.Test.YtmlimmcaidkoeaaDo3
import Derived.Test.YtmlimmcaidkoeaaCalmJ
import Derived.LoopTactic
namespace Go.Proofs.Ytmlimmcaidkoeaa
open Go.ChangeShapes Go.WideShapes Go.ChangeAt Go.RowKit Go.Lib
set_option linter.unusedVariables false
theorem do_go {o w : World} {X R h s : Nat} {u v : Value} {L : List Pk} (a : Act9) (hb : Below o.heap.size o w) (hn : NetInv w o.heap.size X v h L s) (hr : RefInv w o.heap.size R u h (L.map Pk.ab) s) (hd : Sl o o.heap.size a.d a.l.length (bs a.l)) (hs : s < 4611686018427387904) :
    Calls Try.prog 13 #[.pointer (some ⟨X, 0, none⟩), .pointer (some ⟨R, 0, none⟩), .agg #[.int .i64 a.op, .int .i64 a.fr, .int .i64 a.to, .int .i64 a.n, a.d]] w fun e w' => e = .returned (.bool true) ∧ Below o.heap.size o w' ∧ ∃ v' u' L' s', NetInv w' o.heap.size X v' h L' s' ∧ RefInv w' o.heap.size R u' h (L'.map Pk.ab) s' ∧ s' ≤ s + 1 := by
  refine (do_any o.heap.size X R h s u v L a w hb.size hn hr (hd.below hb) hs).mono ?_
  rintro e w' ⟨rfl, v', u', L', s', h1, h2, h3, h4, h5⟩
  refine ⟨rfl, h3.below hb hb.size fun k hk hs => ?_, v', u', L', s', h1, h2, h5⟩
  rcases hs with hs | rfl
  · exact (hn.ns k hs).2.1
  · exact hr.base
theorem few_go (v : Value) (acs : List Act9) (o w : World) (hb : Below o.heap.size o w) (hv : Acts o o.heap.size v acs) :
    Calls Try.prog 10 #[v] w fun e w' => e = .returned (.bool (fewB acs)) ∧ w = w' := by
  refine few_any v acs w ?_
  obtain ⟨A, c, e, h1, h2, h3, h4⟩ := hv.below hb
  refine ⟨A, c, e, h1, h2, fun a ha => ⟨(h3 a ha).op, (h3 a ha).fr, (h3 a ha).to, (h3 a ha).n, (h3 a ha).sl.more hb.size⟩, fun hne => ?_⟩
  obtain ⟨b, off, e5, hlt, hc⟩ := h4 hne
  exact ⟨b, off, e5, Nat.lt_of_lt_of_le hlt hb.size, hc⟩
namespace Plays
set_option maxRecDepth 100000 in
set_option maxHeartbeats 1000000 in
theorem walk (N : Int) (v : Value) (acs : List Act9) (w : World) (hN1 : -9223372036854775808 ≤ N) (hN2 : N ≤ 9223372036854775807) (hv : Acts w w.heap.size v acs) :
    Calls Try.prog 3 #[.int .i64 N, v] w fun e w' => e = .returned (.bool true) ∧ Below w.heap.size w w' := by
  obtain ⟨A0, c0, rfl, hc1, hc2⟩ := hv.form
  have hfew := fun W hW => few_go _ acs w W hW hv
  cases hfw : fewB acs with
  | false =>
    rw [hfw] at hfew
    go_enter Try.func3, Try.ntmps3
    go_wp2_with (first
      | (go_at_call 9; refine (known_any _).mono ?_; rintro e w1 ⟨rfl, hb1⟩)
      | (go_at_call 10; (with_reducible refine (hfew _ hb1).mono ?_); rintro e w2 ⟨rfl, rfl⟩))
    go_ret
    exact ⟨rfl, hb1⟩
  | true =>
    rw [hfw] at hfew
    have hlen : acs.length ≤ 150 := by
      unfold fewB at hfw
      rw [Bool.and_eq_true] at hfw
      exact of_decide_eq_true hfw.1
    have hlenx : (acs.length : Int) ≤ 150 := by omega
    clear hfw
    by_cases hNb : N < 1 ∨ 64 < N
    · have hx := fun W => nnew_no N hNb W
      have hr := fun W => rnew_no N hNb W
      clear hNb
      go_enter Try.func3, Try.ntmps3
      go_wp2_with (first
        | (go_at_call 9; refine (known_any _).mono ?_; rintro e w1 ⟨rfl, hb1⟩)
        | (go_at_call 10; (with_reducible refine (hfew _ hb1).mono ?_); rintro e w2 ⟨rfl, rfl⟩)
        | (go_at_call 11; (with_reducible refine (hx _).mono ?_); rintro e w2 ⟨rfl, rfl⟩)
        | (go_at_call 12; (with_reducible refine (hr _).mono ?_); rintro e w2 ⟨rfl, rfl⟩))
      go_ret
      exact ⟨rfl, hb1⟩
    · obtain ⟨h, rfl⟩ : ∃ h : Nat, N = h := ⟨N.toNat, by omega⟩
      have h1 : 1 ≤ h := by omega
      have h2 : h ≤ 64 := by omega
      clear hNb hN1 hN2
      have hnew : ∀ W, Below w.heap.size w W → Calls Try.prog 11 #[.int .i64 (h : Nat)] W fun e w' => e = .returned (.tuple #[.pointer (some ⟨W.heap.size, 0, none⟩), .int .i64 0]) ∧ NetInv w' w.heap.size W.heap.size (.slice none 0 0) h [] 0 ∧ Below w.heap.size w w' := by
        intro W hW
        refine (netnew_any h h1 h2 W).mono ?_
        rintro e w' ⟨rfl, hn, hb⟩
        exact ⟨rfl, ⟨hW.size, hn.mem, World.ownsRow_nil _ _ _ _, by simp, by simp⟩, hW.trans (hb.mono hW.size)⟩
      have hrnew : ∀ W X, Below w.heap.size w W → NetInv W w.heap.size X (.slice none 0 0) h [] 0 → Calls Try.prog 12 #[.int .i64 (h : Nat)] W fun e w' => e = .returned (.tuple #[.pointer (some ⟨W.heap.size, 0, none⟩), .int .i64 0]) ∧ NetInv w' w.heap.size X (.slice none 0 0) h [] 0 ∧ RefInv w' w.heap.size W.heap.size (.slice none 0 0) h [] 0 ∧ Below w.heap.size w w' := by
        intro W X hW hnW
        refine (rnew_any h h1 h2 W).mono ?_
        rintro e w' ⟨rfl, hn, hb⟩
        exact ⟨rfl, hnW.below hb, ⟨hW.size, hn.mem, World.ownsRow_nil _ _ _ _, by simp, by simp⟩, hW.trans (hb.mono hW.size)⟩
      go_enter Try.func3, Try.ntmps3
      go_wp2_with (first
        | (go_at_call 9; refine (known_any _).mono ?_; rintro e w1 ⟨rfl, hb1⟩)
        | (go_at_call 10; (with_reducible refine (hfew _ hb1).mono ?_); rintro e w2 ⟨rfl, rfl⟩)
        | (go_at_call 11; (with_reducible refine (hnew _ hb1).mono ?_); rintro e w2 ⟨rfl, hn2, hb2⟩)
        | (go_at_call 12; (with_reducible refine (hrnew _ _ hb2 hn2).mono ?_); rintro e w3 ⟨rfl, hn3, hr3, hb3⟩))
      clear hnew hrnew hfew
      generalize w1.heap.size = X at *
      generalize w2.heap.size = R at *
      go_loopw [9] (fun i wr => ∃ (v : Value) (u : Value) (L : List Pk) (s k : Nat), k ≤ acs.length ∧ i = .int .i64 k ∧ NetInv wr w.heap.size X v h L s ∧ RefInv wr w.heap.size R u h (L.map Pk.ab) s ∧ Below w.heap.size w wr ∧ Hid (s ≤ k)) (fun i _ => acs.length - (intOf i).toNat)
      case atStart => exact ⟨_, _, [], 0, 0, by omega, rfl, hn3, hr3, hb3, Lib.hid (Nat.le_refl _)⟩
      case round =>
        clear hn3 hr3 hb3 hn2 hb2 hb1
        obtain ⟨v, u, L, s, k, hk, rfl, hn, hr, hb, HS⟩ := hrel
        by_cases hlt : k < acs.length
        · have hltx : (k : Int) < (acs.length : Int) := by omega
          obtain ⟨b0, f0, rfl, hb0, x0, x1, x2, x3, x4⟩ := hv.at_ hlt
          have hok := hv.ok _ (List.getElem_mem hlt)
          generalize acs[k] = a at *
          have y0 : wr.drew.cell? ⟨b0, f0 + k * 5, none⟩ = _ := (hb.cell (p := ⟨b0, f0 + k * 5, none⟩) hb0).trans x0
          have y1 : wr.drew.cell? ⟨b0, f0 + k * 5 + 1, none⟩ = _ := (hb.cell (p := ⟨b0, f0 + k * 5 + 1, none⟩) hb0).trans x1
          have y2 : wr.drew.cell? ⟨b0, f0 + k * 5 + 2, none⟩ = _ := (hb.cell (p := ⟨b0, f0 + k * 5 + 2, none⟩) hb0).trans x2
          have y3 : wr.drew.cell? ⟨b0, f0 + k * 5 + 3, none⟩ = _ := (hb.cell (p := ⟨b0, f0 + k * 5 + 3, none⟩) hb0).trans x3
          have y4 : wr.drew.cell? ⟨b0, f0 + k * 5 + 4, none⟩ = _ := (hb.cell (p := ⟨b0, f0 + k * 5 + 4, none⟩) hb0).trans x4
          clear x0 x1 x2 x3 x4
          have hbd : Below wr.heap.size wr wr.drew := (Below.refl _ _).drew
          have hdo := do_go a (hb.trans (hbd.mono hb.size)) (hn.below hbd) (hr.below hbd) hok.sl (by have := HS.out; omega)
          have hdo2 : Calls Try.prog 13 #[.pointer (some ⟨X, 0, none⟩), .pointer (some ⟨R, 0, none⟩), .agg #[.int .i64 a.op, .int .i64 a.fr, .int .i64 a.to, .int .i64 a.n, a.d]] wr.drew fun e w' => e = .returned (.bool true) ∧ Below w.heap.size w w' ∧ ∃ v' u' L' s' A' c', NetInv w' w.heap.size X v' h L' s' ∧ RefInv w' w.heap.size R u' h (L'.map Pk.ab) s' ∧ Hid (s' ≤ k + 1) ∧ (∀ W, Below w'.heap.size w' W → W.cell? ⟨R, 1, none⟩ = some (.slice A' L'.length c')) ∧ (∀ W, Below w'.heap.size w' W → W.cell? ⟨R, 2, none⟩ = some (.int .i64 (s' : Nat))) ∧ (∀ W, Below w'.heap.size w' W → Calls Try.prog 14 #[.pointer (some ⟨X, 0, none⟩)] W fun e w2 => e = .returned (.int .i64 (L'.length : Nat)) ∧ W = w2) ∧ (∀ W, Below w'.heap.size w' W → Calls Try.prog 15 #[.pointer (some ⟨X, 0, none⟩)] W fun e w2 => e = .returned (.int .i64 (s' : Nat)) ∧ W = w2) := by
            refine hdo.mono ?_
            rintro e w' ⟨rfl, g1, v', u', L', s', g2, g3, g4⟩
            obtain ⟨A', c', hu, _⟩ := g3.parts
            rw [List.length_map] at hu
            have gm := g3.mem
            rw [hu] at gm
            exact ⟨rfl, g1, v', u', L', s', A', c', g2, g3, Lib.hid (by have := HS.out; omega), fun W hW => (gm.below hW gm.lt).cell 1, fun W hW => (gm.below hW gm.lt).cell 2, fun W hW => waiting_any _ X h s' v' L' W (g2.below hW), fun W hW => sent_any _ X h s' v' L' W (g2.below hW)⟩
          clear hdo
          obtain ⟨k0, k1, k2, k3, hsl⟩ := hok
          obtain ⟨op, fr, to, n, d, l⟩ := a
          simp only at y0 y1 y2 y3 y4 hdo2 hsl
          obtain ⟨Ad, cd, rfl, _⟩ := hsl.form
          clear hn hr k0 k1 k2 k3
          go_wp2_with fail
          refine wp_region_any (by kernel_rfl) ?_
          change wpAny _ _ _ _ _ _ _ (World.drew _)
          refine wpAny_take (i := 0) (oi := { dst := some 46, op := Op.move (Operand.tmp 5), type := 25, pos := "law.go:87", after := #[], guard := none }) (v := (.pointer (some ⟨X, 0, none⟩))) rfl (by kernel_rfl) (by kernel_rfl) (by kernel_rfl) (fun _ _ _ h => h) (Or.inl ⟨by rfl, by intro w; go_simp⟩) ?_
          refine wpAny_take (i := 1) (oi := { dst := some 47, op := Op.move (Operand.tmp 7), type := 29, pos := "law.go:87", after := #[], guard := none }) (v := (.pointer (some ⟨R, 0, none⟩))) rfl (by kernel_rfl) (by kernel_rfl) (by kernel_rfl) (fun _ _ _ h => h) (Or.inl ⟨by rfl, by intro w; go_simp⟩) ?_
          refine wpAny_take (i := 2) (oi := { dst := some 48, op := Op.move (Operand.tmp 1), type := 22, pos := "law.go:87", after := #[], guard := none }) (v := (.slice (some ⟨b0, f0, none⟩) acs.length c0)) rfl (by kernel_rfl) (by kernel_rfl) (by kernel_rfl) (fun _ _ _ h => h) (Or.inl ⟨by rfl, by intro w; go_simp⟩) ?_
          refine wpAny_take (i := 3) (oi := { dst := some 49, op := Op.move (Operand.tmp 9), type := 3, pos := "law.go:87", after := #[], guard := none }) (v := (.int .i64 k)) rfl (by kernel_rfl) (by kernel_rfl) (by kernel_rfl) (fun _ _ _ h => h) (Or.inl ⟨by rfl, by intro w; go_simp⟩) ?_
          refine wpAny_take (i := 4) (oi := { dst := some 50, op := Op.indexAddr 22 (Operand.tmp 48) (Operand.tmp 49), type := 0, pos := "law.go:87", after := #[{ on := 2, ground := Ground.data }, { on := 3, ground := Ground.data }], guard := none }) (v := (.pointer (some ⟨b0, f0 + k * 5, none⟩))) rfl (by kernel_rfl) (by kernel_rfl) (by kernel_rfl) (fun _ _ _ h => h) (Or.inl ⟨by rfl, by intro w; go_simp⟩) ?_
          refine wpAny_ready (rs := [5]) (by kernel_rfl) (by simp) ?_
          refine AllReady.cons (o := { dst := some 51, op := Op.load 35 (Operand.tmp 50), type := 35, pos := "law.go:87", after := #[{ on := 4, ground := Ground.data }], guard := none }) rfl (fun K hK => ?_) AllReady.nil
          go_simp
          (try go_simp)
          refine hK _ _ ?_
          clear hK K
          refine wpAny_ready (rs := [6]) (by kernel_rfl) (by simp) ?_
          refine AllReady.cons (o := { dst := some 52, op := Op.call { callee := Callee.value (Operand.func 13), args := #[Operand.tmp 46, Operand.tmp 47, Operand.tmp 51], argTypes := #[25, 29, 35] }, type := 4, pos := "law.go:87", after := #[{ on := 0, ground := Ground.data }, { on := 1, ground := Ground.data }, { on := 5, ground := Ground.data }], guard := none }) rfl (fun K hK => ?_) AllReady.nil
          (rw [if_pos (by rfl)]; go_simp; go_at_call 13; (with_reducible refine hdo2.mono ?_); rintro e w4 ⟨rfl, hb4, v', u', L', s', A', c', hn4, hr4, HS4, r1, r2, hw4, hs4⟩; dsimp only)
          (try go_simp)
          refine hK _ _ ?_
          clear hK K
          try dsimp only [Act.put]
          try simp only [List.setIfInBounds_toArray, List.set_cons_succ, List.set_cons_zero]
          apply calm_tailJ 26 [0, 1, 2, 3, 4, 5, 6] [.is (.pointer (some ⟨X, 0, none⟩)), .is (.pointer (some ⟨R, 0, none⟩)), .is (.slice (some ⟨b0, f0, none⟩) acs.length c0), .is (.int .i64 k), .is (.pointer (some ⟨b0, f0 + k * 5, none⟩)), .is (.agg #[.int .i64 op, .int .i64 fr, .int .i64 to, .int .i64 n, .slice Ad l.length cd]), .is (.bool true), .is _, .is _, .is _, .is _, .is _, .is _, .is _, .is _, .is _, .is _, .is _, .is _, .is _, .is _, .is _, .is _, .is _, .is _, .is _] [[], [], [], [], [2, 3], [4], [0, 1, 5], [6], [7, 6], [8], [9, 8, 8], [8], [11, 8], [12, 8], [13, 8], [14, 8], [10, 15, 8], [8, 16], [17, 10], [18], [19, 18, 18], [18], [21, 18], [22, 18], [23, 18], [20, 24, 18]] (by kernel_rfl) (by kernel_rfl) rfl (by decide) (by intro i hi o ho; simp only [List.mem_cons, List.not_mem_nil, or_false] at hi; rcases hi with rfl | rfl | rfl | rfl | rfl | rfl | rfl <;> (obtain rfl := Option.some.inj ho; first | exact rfl | exact trivial))
          intro f a1 ha1
          simp only [List.take_succ_cons, List.take_zero, putL, Act.put, List.setIfInBounds_toArray, List.set_cons_succ, List.set_cons_zero] at ha1
          subst ha1
          refine ⟨?_, ?_⟩
          · refine AllCalmX.skip (by decide) ?_
            refine AllCalmX.skip (by decide) ?_
            refine AllCalmX.skip (by decide) ?_
            refine AllCalmX.skip (by decide) ?_
            refine AllCalmX.skip (by decide) ?_
            refine AllCalmX.skip (by decide) ?_
            refine AllCalmX.skip (by decide) ?_
            refine AllCalmX.cons (fun W hB hd => ?_) ?_
            · obtain ⟨h6, -⟩ := hd
              have h6 : f 6 = _ := h6
              rw [h6]
              go_wp2_with (fail)
              exact CalmQ.mk rfl _ rfl (Below.refl _ _) rfl
            refine AllCalmX.cons (fun W hB hd => ?_) ?_
            · obtain ⟨h7, h6, -⟩ := hd
              have h7 : f 7 = _ := h7
              have h6 : f 6 = _ := h6
              rw [h7, h6]
              go_wp2_with (fail)
              exact CalmQ.mk rfl _ rfl (Below.refl _ _) rfl
            refine AllCalmX.cons (fun W hB hd => ?_) ?_
            · obtain ⟨h8, -⟩ := hd
              have h8 : f 8 = _ := h8
              rw [h8]
              go_wp2_with (fail)
              exact CalmQ.mk rfl _ rfl (Below.refl _ _) rfl
            refine AllCalmX.cons (fun W hB hd => ?_) ?_
            · obtain ⟨h9, h8, -, -⟩ := hd
              have h9 : f 9 = _ := h9
              have h8 : f 8 = _ := h8
              rw [h9, h8]
              have kx := hw4 _ hB
              go_wp2_with ((go_at_call 14; (with_reducible refine kx.mono ?_); rintro e w5 ⟨rfl, rfl⟩))
              exact CalmQ.mk rfl _ rfl (Below.refl _ _) rfl
            refine AllCalmX.cons (fun W hB hd => ?_) ?_
            · obtain ⟨h8, -⟩ := hd
              have h8 : f 8 = _ := h8
              rw [h8]
              go_wp2_with (fail)
              exact CalmQ.mk rfl _ rfl (Below.refl _ _) rfl
            refine AllCalmX.cons (fun W hB hd => ?_) ?_
            · obtain ⟨h11, h8, -⟩ := hd
              have h11 : f 11 = _ := h11
              have h8 : f 8 = _ := h8
              rw [h11, h8]
              go_wp2_with (fail)
              exact CalmQ.mk rfl _ rfl (Below.refl _ _) rfl
            refine AllCalmX.cons (fun W hB hd => ?_) ?_
            · obtain ⟨h12, h8, -⟩ := hd
              have h12 : f 12 = _ := h12
              have h8 : f 8 = _ := h8
              rw [h12, h8]
              go_wp2_with (fail)
              exact CalmQ.mk rfl _ rfl (Below.refl _ _) rfl
            refine AllCalmX.cons (fun W hB hd => ?_) ?_
            · obtain ⟨h13, h8, -⟩ := hd
              have h13 : f 13 = _ := h13
              have h8 : f 8 = _ := h8
              rw [h13, h8]
              have kx := r1 _ hB
              go_wp2_with (fail)
              exact CalmQ.mk rfl _ rfl (Below.refl _ _) rfl
            refine AllCalmX.cons (fun W hB hd => ?_) ?_
            · obtain ⟨h14, h8, -⟩ := hd
              have h14 : f 14 = _ := h14
              have h8 : f 8 = _ := h8
              rw [h14, h8]
              go_wp2_with (fail)
              exact CalmQ.mk rfl _ rfl (Below.refl _ _) rfl
            refine AllCalmX.cons (fun W hB hd => ?_) ?_
            · obtain ⟨h10, h15, h8, -⟩ := hd
              have h10 : f 10 = _ := h10
              have h15 : f 15 = _ := h15
              have h8 : f 8 = _ := h8
              rw [h10, h15, h8]
              go_wp2_with (fail)
              exact CalmQ.mk rfl _ rfl (Below.refl _ _) rfl
            refine AllCalmX.cons (fun W hB hd => ?_) ?_
            · obtain ⟨h8, h16, -⟩ := hd
              have h8 : f 8 = _ := h8
              have h16 : f 16 = _ := h16
              rw [h8, h16]
              go_wp2_with (fail)
              exact CalmQ.mk rfl _ rfl (Below.refl _ _) rfl
            refine AllCalmX.cons (fun W hB hd => ?_) ?_
            · obtain ⟨h17, h10, -⟩ := hd
              have h17 : f 17 = _ := h17
              have h10 : f 10 = _ := h10
              rw [h17, h10]
              go_wp2_with (fail)
              exact CalmQ.mk rfl _ rfl (Below.refl _ _) rfl
            refine AllCalmX.cons (fun W hB hd => ?_) ?_
            · obtain ⟨h18, -⟩ := hd
              have h18 : f 18 = _ := h18
              rw [h18]
              go_wp2_with (fail)
              exact CalmQ.mk rfl _ rfl (Below.refl _ _) rfl
            refine AllCalmX.cons (fun W hB hd => ?_) ?_
            · obtain ⟨h19, h18, -, -⟩ := hd
              have h19 : f 19 = _ := h19
              have h18 : f 18 = _ := h18
              rw [h19, h18]
              have kx := hs4 _ hB
              go_wp2_with ((go_at_call 15; (with_reducible refine kx.mono ?_); rintro e w5 ⟨rfl, rfl⟩))
              exact CalmQ.mk rfl _ rfl (Below.refl _ _) rfl
            refine AllCalmX.cons (fun W hB hd => ?_) ?_
            · obtain ⟨h18, -⟩ := hd
              have h18 : f 18 = _ := h18
              rw [h18]
              go_wp2_with (fail)
              exact CalmQ.mk rfl _ rfl (Below.refl _ _) rfl
            refine AllCalmX.cons (fun W hB hd => ?_) ?_
            · obtain ⟨h21, h18, -⟩ := hd
              have h21 : f 21 = _ := h21
              have h18 : f 18 = _ := h18
              rw [h21, h18]
              go_wp2_with (fail)
              exact CalmQ.mk rfl _ rfl (Below.refl _ _) rfl
            refine AllCalmX.cons (fun W hB hd => ?_) ?_
            · obtain ⟨h22, h18, -⟩ := hd
              have h22 : f 22 = _ := h22
              have h18 : f 18 = _ := h18
              rw [h22, h18]
              go_wp2_with (fail)
              exact CalmQ.mk rfl _ rfl (Below.refl _ _) rfl
            refine AllCalmX.cons (fun W hB hd => ?_) ?_
            · obtain ⟨h23, h18, -⟩ := hd
              have h23 : f 23 = _ := h23
              have h18 : f 18 = _ := h18
              rw [h23, h18]
              have kx := r2 _ hB
              go_wp2_with (fail)
              exact CalmQ.mk rfl _ rfl (Below.refl _ _) rfl
            refine AllCalmX.cons (fun W hB hd => ?_) ?_
            · obtain ⟨h20, h24, h18, -⟩ := hd
              have h20 : f 20 = _ := h20
              have h24 : f 24 = _ := h24
              have h18 : f 18 = _ := h18
              rw [h20, h24, h18]
              go_wp2_with (fail)
              exact CalmQ.mk rfl _ rfl (Below.refl _ _) rfl
            exact AllCalmX.nil
          · intro W hB hT
            obtain ⟨h0, h1, h2, h3, h4, h5, h6, h7, h8, h9, h10, h11, h12, h13, h14, h15, h16, h17, h18, h19, h20, h21, h22, h23, h24, h25, -⟩ := hT
            have h0 : f 0 = _ := h0
            have h1 : f 1 = _ := h1
            have h2 : f 2 = _ := h2
            have h3 : f 3 = _ := h3
            have h4 : f 4 = _ := h4
            have h5 : f 5 = _ := h5
            have h6 : f 6 = _ := h6
            have h7 : f 7 = _ := h7
            have h8 : f 8 = _ := h8
            have h9 : f 9 = _ := h9
            have h10 : f 10 = _ := h10
            have h11 : f 11 = _ := h11
            have h12 : f 12 = _ := h12
            have h13 : f 13 = _ := h13
            have h14 : f 14 = _ := h14
            have h15 : f 15 = _ := h15
            have h16 : f 16 = _ := h16
            have h17 : f 17 = _ := h17
            have h18 : f 18 = _ := h18
            have h19 : f 19 = _ := h19
            have h20 : f 20 = _ := h20
            have h21 : f 21 = _ := h21
            have h22 : f 22 = _ := h22
            have h23 : f 23 = _ := h23
            have h24 : f 24 = _ := h24
            have h25 : f 25 = _ := h25
            rw [h0, h1, h2, h3, h4, h5, h6, h7, h8, h9, h10, h11, h12, h13, h14, h15, h16, h17, h18, h19, h20, h21, h22, h23, h24, h25]
            clear h0 h1 h2 h3 h4 h5 h6 h7 h8 h9 h10 h11 h12 h13 h14 h15 h16 h17 h18 h19 h20 h21 h22 h23 h24 h25
            simp only [List.drop_succ_cons, List.drop_zero]
            go_wp2_with fail
            exact ⟨⟨v', u', L', s', k + 1, by omega, by go_num, hn4.below hB, hr4.below hB, hb4.trans (hB.mono hb4.size), HS4⟩, by simp [intOf]; omega⟩
        · obtain rfl : k = acs.length := by omega
          obtain ⟨AR, cR, hu, hcR, _⟩ := hr.parts
          have hrow3 := hr.row
          have hrmem := hr.mem
          rw [hu] at hrow3 hrmem
          have hR1 : ∀ W, Below wr.heap.size wr W → W.cell? ⟨R, 1, none⟩ = some (.slice AR L.length cR) := by
            intro W hW
            have gm := (hr.below hW).mem
            rw [hu, List.length_map] at gm
            exact gm.cell 1
          have hLb : L.length ≤ 4096 := hn.few
          have hwait := fun W (hW : Below wr.heap.size wr W) => waiting_any _ X h s v L W (hn.below hW)
          have hpkA : ∀ W, Below wr.heap.size wr W → ∀ q (hq : q < L.length), Calls Try.prog 16 #[.pointer (some ⟨X, 0, none⟩), .int .i64 (q : Nat)] W fun e w' => ∃ d, e = .returned (.tuple #[.agg #[.int .i64 L[q].fr, .int .i64 L[q].to, d], .bool true]) ∧ Sl w' w'.heap.size d L[q].l.length (bs L[q].l) ∧ Below W.heap.size W w' := fun W hW q hq => packet_ok w.heap.size X h s v L q hq W (hn.below hW)
          have hclA : ∀ W, Below wr.heap.size wr W → ∀ q (hq : q < L.length), ∃ g, AR = some ⟨g, 0, none⟩ ∧ W.cell? ⟨g, q * 3, none⟩ = some (.int .i64 L[q].fr) ∧ W.cell? ⟨g, q * 3 + 1, none⟩ = some (.int .i64 L[q].to) ∧ W.cell? ⟨g, q * 3 + 2, none⟩ = some (.string ⟨L[q].l.toArray⟩) := by
            intro W hW q hq
            obtain ⟨g, h1, _, _, c1, c2, c3⟩ := rrow_at (L := L.map Pk.ab) (owns_below hrow3 hW) (i := q) (by simpa using hq)
            refine ⟨g, h1, ?_, ?_, ?_⟩
            · rw [c1]; simp [Pk.ab]
            · rw [c2]; simp [Pk.ab]
            · rw [c3]; simp [Pk.ab, str]
          go_wp2_with fail
          go_loopw [10] (fun i w2 => ∃ q : Nat, q ≤ L.length ∧ i = .int .i64 q ∧ Below wr.heap.size wr w2) (fun i _ => L.length - (intOf i).toNat)
          case atStart => exact ⟨0, by omega, rfl, Below.refl _ _⟩
          case round =>
            obtain ⟨q, hq, rfl, hbq⟩ := hrel
            by_cases hlq : q < L.length
            · have hlqx : (q : Int) < (L.length : Int) := by omega
              have hpk := hpkA wr hbq q hlq
              have hRc := fun W (hW : Below wr.heap.size wr W) => hR1 W (hbq.trans (hW.mono hbq.size))
              have hcl := fun W (hW : Below wr.heap.size wr W) => hclA W (hbq.trans (hW.mono hbq.size)) q hlq
              clear hpkA hclA hR1
              generalize L[q] = P at *
              obtain ⟨pf, pt, pd, pl⟩ := P
              simp only at hcl hpk
              have hpk2 : Calls Try.prog 16 #[.pointer (some ⟨X, 0, none⟩), .int .i64 (q : Nat)] wr fun e w4 => ∃ Ap cp, e = .returned (.tuple #[.agg #[.int .i64 pf, .int .i64 pt, .slice Ap pl.length cp], .bool true]) ∧ Below wr.heap.size wr w4 ∧ (∀ W, Below (w4.alloc (.cells #[.int .i64 pf, .int .i64 pt, .slice Ap pl.length cp] 41)).heap.size (w4.alloc (.cells #[.int .i64 pf, .int .i64 pt, .slice Ap pl.length cp] 41)) W → Mem W w4.heap.size 41 #[.int .i64 pf, .int .i64 pt, .slice Ap pl.length cp] ∧ Below wr.heap.size wr W ∧ Calls Try.prog 17 #[.agg #[.int .i64 pf, .int .i64 pt, .slice Ap pl.length cp], .agg #[.int .i64 pf, .int .i64 pt, .string ⟨pl.toArray⟩]] W fun e w' => e = .returned (.bool true) ∧ Below W.heap.size W w') := by
                refine hpk.mono ?_
                rintro e w4 ⟨d', rfl, g1, g2⟩
                obtain ⟨Ap, cp, rfl, _⟩ := g1.form
                refine ⟨Ap, cp, rfl, g2, fun W hW => ⟨(Mem.new w4 41 _).below hW (by simp), (g2.alloc g2.size _).trans (hW.mono (g2.alloc g2.size _).size), ?_⟩⟩
                exact same_any pf pt _ pl W ((g1.now ((Below.refl _ _).alloc (Nat.le_refl _) _)).now hW)
              clear hpk
              obtain ⟨gR, hAR, _⟩ := hcl wr (Below.refl _ _)
              subst hAR
              have hcl2 : ∀ W, Below wr.heap.size wr W → W.cell? ⟨gR, q * 3, none⟩ = some (.int .i64 pf) ∧ W.cell? ⟨gR, q * 3 + 1, none⟩ = some (.int .i64 pt) ∧ W.cell? ⟨gR, q * 3 + 2, none⟩ = some (.string ⟨pl.toArray⟩) := by
                intro W hW
                obtain ⟨g', e, c1, c2, c3⟩ := hcl W hW
                injection e with e
                injection e with e
                subst e
                exact ⟨c1, c2, c3⟩
              clear hcl
              have hRw := hRc wr (Below.refl _ _)
              go_wp2_with (go_at_call 16; (with_reducible refine hpk2.mono ?_); rintro e w4 ⟨Ap, cp, rfl, hb4, hW4⟩)
              apply calm_region [.is (.bool true), .is (.bool false), .is (.bool false), .is (.agg #[.int .i64 pf, .int .i64 pt, .slice Ap pl.length cp]), .is (.pointer (some ⟨R, 0, none⟩)), .is (.pointer (some ⟨R, 0, none⟩)), .is _, .is (.slice (some ⟨gR, 0, none⟩) L.length cR), .is (.int .i64 q), .is (.pointer (some ⟨gR, q * 3, none⟩)), .is (.agg #[.int .i64 pf, .int .i64 pt, .string ⟨pl.toArray⟩]), .is (.bool true), .is (.bool false), .is (.bool false)] [[], [0], [1], [2], [2], [4, 2], [5, 2], [6, 2], [2], [7, 8, 2], [9, 2], [3, 10, 2, 2], [11, 2], [2, 12]] (by kernel_rfl) (by kernel_rfl) (by kernel_rfl) rfl
              intro f a1 ha1
              simp only [putL, Act.put, List.setIfInBounds_toArray, List.set_cons_succ, List.set_cons_zero] at ha1
              subst ha1
              refine ⟨?_, ?_⟩
              · refine AllCalm.cons (fun W hB hd => ?_) ?_
                · go_wp2_with (fail)
                  exact CalmQ.mk rfl _ rfl (Below.refl _ _) rfl
                refine AllCalm.cons (fun W hB hd => ?_) ?_
                · obtain ⟨h0, -⟩ := hd
                  have h0 : f 0 = _ := h0
                  rw [h0]
                  go_wp2_with (fail)
                  exact CalmQ.mk rfl _ rfl (Below.refl _ _) rfl
                refine AllCalm.cons (fun W hB hd => ?_) ?_
                · obtain ⟨h1, -⟩ := hd
                  have h1 : f 1 = _ := h1
                  rw [h1]
                  go_wp2_with (fail)
                  exact CalmQ.mk rfl _ rfl (Below.refl _ _) rfl
                refine AllCalm.cons (fun W hB hd => ?_) ?_
                · obtain ⟨h2, -⟩ := hd
                  have h2 : f 2 = _ := h2
                  rw [h2]
                  (obtain ⟨kx, kb, _⟩ := hW4 _ hB; have k0 := kx.cell 0; have k1 := kx.cell 1; have k2 := kx.cell 2)
                  go_wp2_with (fail)
                  exact CalmQ.mk rfl _ rfl (Below.refl _ _) rfl
                refine AllCalm.cons (fun W hB hd => ?_) ?_
                · obtain ⟨h2, -⟩ := hd
                  have h2 : f 2 = _ := h2
                  rw [h2]
                  go_wp2_with (fail)
                  exact CalmQ.mk rfl _ rfl (Below.refl _ _) rfl
                refine AllCalm.cons (fun W hB hd => ?_) ?_
                · obtain ⟨h4, h2, -⟩ := hd
                  have h4 : f 4 = _ := h4
                  have h2 : f 2 = _ := h2
                  rw [h4, h2]
                  go_wp2_with (fail)
                  exact CalmQ.mk rfl _ rfl (Below.refl _ _) rfl
                refine AllCalm.cons (fun W hB hd => ?_) ?_
                · obtain ⟨h5, h2, -⟩ := hd
                  have h5 : f 5 = _ := h5
                  have h2 : f 2 = _ := h2
                  rw [h5, h2]
                  go_wp2_with (fail)
                  exact CalmQ.mk rfl _ rfl (Below.refl _ _) rfl
                refine AllCalm.cons (fun W hB hd => ?_) ?_
                · obtain ⟨h6, h2, -⟩ := hd
                  have h6 : f 6 = _ := h6
                  have h2 : f 2 = _ := h2
                  rw [h6, h2]
                  have k0 := hRc _ (hW4 _ hB).2.1
                  go_wp2_with (fail)
                  exact CalmQ.mk rfl _ rfl (Below.refl _ _) rfl
                refine AllCalm.cons (fun W hB hd => ?_) ?_
                · obtain ⟨h2, -⟩ := hd
                  have h2 : f 2 = _ := h2
                  rw [h2]
                  go_wp2_with (fail)
                  exact CalmQ.mk rfl _ rfl (Below.refl _ _) rfl
                refine AllCalm.cons (fun W hB hd => ?_) ?_
                · obtain ⟨h7, h8, h2, -⟩ := hd
                  have h7 : f 7 = _ := h7
                  have h8 : f 8 = _ := h8
                  have h2 : f 2 = _ := h2
                  rw [h7, h8, h2]
                  go_wp2_with (fail)
                  exact CalmQ.mk rfl _ rfl (Below.refl _ _) rfl
                refine AllCalm.cons (fun W hB hd => ?_) ?_
                · obtain ⟨h9, h2, -⟩ := hd
                  have h9 : f 9 = _ := h9
                  have h2 : f 2 = _ := h2
                  rw [h9, h2]
                  obtain ⟨k0, k1, k2⟩ := hcl2 _ (hW4 _ hB).2.1
                  go_wp2_with (fail)
                  exact CalmQ.mk rfl _ rfl (Below.refl _ _) rfl
                refine AllCalm.cons (fun W hB hd => ?_) ?_
                · obtain ⟨h3, h10, h2, -, -⟩ := hd
                  have h3 : f 3 = _ := h3
                  have h10 : f 10 = _ := h10
                  have h2 : f 2 = _ := h2
                  rw [h3, h10, h2]
                  have kx := (hW4 _ hB).2.2
                  go_wp2_with ((go_at_call 17; (with_reducible refine kx.mono ?_); rintro e w5 ⟨rfl, hb5⟩))
                  exact CalmQ.mk rfl _ rfl hb5 rfl
                refine AllCalm.cons (fun W hB hd => ?_) ?_
                · obtain ⟨h11, h2, -⟩ := hd
                  have h11 : f 11 = _ := h11
                  have h2 : f 2 = _ := h2
                  rw [h11, h2]
                  go_wp2_with (fail)
                  exact CalmQ.mk rfl _ rfl (Below.refl _ _) rfl
                refine AllCalm.cons (fun W hB hd => ?_) ?_
                · obtain ⟨h2, h12, -⟩ := hd
                  have h2 : f 2 = _ := h2
                  have h12 : f 12 = _ := h12
                  rw [h2, h12]
                  go_wp2_with (fail)
                  exact CalmQ.mk rfl _ rfl (Below.refl _ _) rfl
                exact AllCalm.nil
              · intro W hB hT
                obtain ⟨h0, h1, h2, h3, h4, h5, h6, h7, h8, h9, h10, h11, h12, h13, -⟩ := hT
                have h0 : f 0 = _ := h0
                have h1 : f 1 = _ := h1
                have h2 : f 2 = _ := h2
                have h3 : f 3 = _ := h3
                have h4 : f 4 = _ := h4
                have h5 : f 5 = _ := h5
                have h6 : f 6 = _ := h6
                have h7 : f 7 = _ := h7
                have h8 : f 8 = _ := h8
                have h9 : f 9 = _ := h9
                have h10 : f 10 = _ := h10
                have h11 : f 11 = _ := h11
                have h12 : f 12 = _ := h12
                have h13 : f 13 = _ := h13
                rw [h0, h1, h2, h3, h4, h5, h6, h7, h8, h9, h10, h11, h12, h13]
                clear h0 h1 h2 h3 h4 h5 h6 h7 h8 h9 h10 h11 h12 h13
                go_wp2_with fail
                exact ⟨⟨q + 1, by omega, by go_num, (hbq.trans ((hW4 _ hB).2.1.mono hbq.size))⟩, by simp [intOf]; omega⟩
            · obtain rfl : q = L.length := by omega
              go_wp2_with fail
              go_ret
              exact ⟨rfl, hb.trans (hbq.mono hb.size)⟩
set_option maxRecDepth 100000 in
theorem lifted (os : Os) (started : os.Started) (H : Type) (enc : TypeId × Value → H) :
    ReturnsInHanded {} Try.checked os 3 .any (Rows.netPlaysSpec.pre6 enc Try.prog Try.f3 Rows.netPlaysRow.domain false) (Rows.netPlaysSpec.post enc Try.prog Try.f3 false true false false) := by
  refine returnsInHanded_of_change (C := Try.checked) own started (by kernel_rfl) Try.func3
    (ChangeSpec.witness6 (enc := enc) (C := Try.checked) false ⟨#[], #[.int .i64 0, .slice none 0 0], []⟩ 8 (by kernel_rfl) (by kernel_rfl) (by kernel_rfl) (by kernel_rfl)) ?_
  intro W base args ds gs before hval0 hW hcnd _
  have hval : ∀ (j : Nat) t v, Try.f3.params[j]? = some t → args[j]? = some v → Value.okWide Try.prog W .any base t v := hval0
  have hW' := hW
  obtain ⟨p, q, hA0, hV, rfl, hfz, hnd⟩ := hW
  have hA : DataW.TrodAll enc Try.prog W 0 (fun _ => true) true Try.f3.params.toList args.toList ds p := hA0
  rw [Try.params3] at hA hval
  obtain ⟨v0, vs0, d0, ds0, p0, q0, hargs, rfl, rfl, h0, r0⟩ := trodAll_cons hA
  obtain ⟨v1, vs1, d1, ds1, p1, q1, rfl, rfl, rfl, h1, r1⟩ := trodAll_cons r0
  obtain ⟨rfl, rfl, rfl⟩ := trodAll_nil r1
  obtain rfl : args = #[v0, v1] := by cases args; simp_all
  obtain ⟨rfl, rfl⟩ := trodVars_none hV
  obtain ⟨a0, rfl, _, _, w0⟩ := open_int Try.underlying3 (hval 0 3 v0 rfl rfl) h0
  have b0 := bounds_i64 w0
  obtain ⟨acs1, s1⟩ := open_acts (hval 1 22 v1 rfl rfl) h1
  refine (walk a0 v1 acs1 W b0.1 b0.2 s1).mono fun e W' ⟨he, hb⟩ => ?_
  subst he
  exact ⟨_, rfl, law_post laidOut (by kernel_rfl) rfl (by kernel_rfl) Try.underlying4 rfl rfl rfl hW' hb⟩

theorem proved : Rows.NetPlaysSaid :=
  OpenClaim.holds_of_wide 3 Try.f3 rfl rfl rfl rfl rfl rfl rfl ⟨rfl, rfl, rfl, rfl, rfl⟩ rfl rfl rfl rfl rfl (by kernel_rfl) Try.func3 (by kernel_rfl)
    (of_decide_eq_true (by kernel_rfl)) (by unfold Func.isWrapper; first | (rw [if_pos (by decide +kernel)]; kernel_rfl) | (rw [if_neg (by decide +kernel)]; exact ⟨rfl, rfl⟩))
    (fun os started H enc _ => lifted os started H enc)
end Plays
end Go.Proofs.Ytmlimmcaidkoeaa
