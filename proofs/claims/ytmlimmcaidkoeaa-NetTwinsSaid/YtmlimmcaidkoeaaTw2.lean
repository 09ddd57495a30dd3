/- Package net: Twin: contract. -/
import Derived.Test.YtmlimmcaidkoeaaTw1
import Derived.LoopTactic
namespace Go.Proofs.Ytmlimmcaidkoeaa
open Go.ChangeShapes Go.WideShapes Go.ChangeAt Go.RowKit Go.Lib
set_option linter.unusedVariables false
theorem NetInv.mono {w : World} {B C X h s : Nat} {v : Value} {L : List Pk} (hn : NetInv w C X v h L s) (hb : B ≤ C) : NetInv w B X v h L s :=
  ⟨Nat.le_trans hb hn.base, hn.mem, owns_mono hn.row hb, fun p hp => (hn.data p hp).mono hb, hn.few⟩
set_option maxRecDepth 100000 in
set_option maxHeartbeats 1000000 in
theorem twin_any (B X h s : Nat) (v : Value) (L : List Pk) (w : World) (hBb : B ≤ w.heap.size) (hn : NetInv w B X v h L s) :
    Calls Try.prog 18 #[.pointer (some ⟨X, 0, none⟩)] w fun e w' => ∃ T v' L', e = .returned (.pointer (some ⟨T, 0, none⟩)) ∧ w.heap.size ≤ T ∧ NetInv w' w.heap.size T v' h L' s ∧ L'.map Pk.ab = L.map Pk.ab ∧ Below w.heap.size w w' := by
  obtain ⟨i0, hi0, hz0, hz1, hz2⟩ := info_parts pk_info
  obtain ⟨A, c, rfl, hc1, hc2⟩ := hn.parts
  have hLb : L.length ≤ 4096 := hn.few
  have hF : ∀ W, Below w.heap.size w W → W.cell? ⟨X, 0, none⟩ = some (.int .i64 (h : Nat)) ∧ W.cell? ⟨X, 1, none⟩ = some (.slice A L.length c) ∧ W.cell? ⟨X, 2, none⟩ = some (.int .i64 (s : Nat)) := by
    intro W hW
    exact ⟨(hn.below hW).mem.cell 0, (hn.below hW).mem.cell 1, (hn.below hW).mem.cell 2⟩
  have HN := Lib.hid hn
  clear hn
  go_enter Try.func18, Try.ntmps18
  go_wp2
  apply calm_region [.is _, .is _, .is _, .is _, .is _, .is _, .is _, .is _, .is (.agg #[.int .i64 (h : Nat), .slice none 0 0, .int .i64 (s : Nat)]), .of (fun v W => ∃ g, v = .pointer (some ⟨g, 0, none⟩) ∧ w.heap.size ≤ g ∧ Mem W g 58 #[.int .i64 (h : Nat), .slice none 0 0, .int .i64 (s : Nat)]) (fun v W W' hb ⟨g, h1, h2, h3⟩ => ⟨g, h1, h2, h3.below hb h3.lt⟩), .of (fun v W => ∃ g, v = .pointer (some ⟨g, 0, none⟩) ∧ w.heap.size ≤ g ∧ Mem W g 58 #[.int .i64 (h : Nat), .slice none 0 0, .int .i64 (s : Nat)]) (fun v W W' hb ⟨g, h1, h2, h3⟩ => ⟨g, h1, h2, h3.below hb h3.lt⟩)] [[], [0], [1], [2], [], [4], [5], [6], [3, 7], [8], [9, 0, 1, 2, 3, 4, 5, 6, 7, 8, 9]] (by kernel_rfl) (by kernel_rfl) (by kernel_rfl) rfl
  intro f a1 ha1
  simp only [putL, Act.put, List.setIfInBounds_toArray, List.set_cons_succ, List.set_cons_zero] at ha1
  subst ha1
  refine ⟨?_, ?_⟩
  · refine AllCalm.cons (fun W hB hd => ?_) ?_
    · go_wp2_with (fail)
      exact CalmQ.mk rfl _ rfl (Below.refl _ _) rfl
    refine AllCalm.cons (fun W hB hd => ?_) ?_
    · obtain ⟨h0, -⟩ := hd
      have h0 : f 0 = _ := h0
      rw [h0]
      go_wp2_with (fail)
      exact CalmQ.mk rfl _ rfl (Below.refl _ _) rfl
    refine AllCalm.cons (fun W hB hd => ?_) ?_
    · obtain ⟨h1, -⟩ := hd
      have h1 : f 1 = _ := h1
      rw [h1]
      go_wp2_with (fail)
      exact CalmQ.mk rfl _ rfl (Below.refl _ _) rfl
    refine AllCalm.cons (fun W hB hd => ?_) ?_
    · obtain ⟨h2, -⟩ := hd
      have h2 : f 2 = _ := h2
      rw [h2]
      have q := (hF W hB).1
      go_wp2_with (fail)
      exact CalmQ.mk rfl _ rfl (Below.refl _ _) rfl
    refine AllCalm.cons (fun W hB hd => ?_) ?_
    · go_wp2_with (fail)
      exact CalmQ.mk rfl _ rfl (Below.refl _ _) rfl
    refine AllCalm.cons (fun W hB hd => ?_) ?_
    · obtain ⟨h4, -⟩ := hd
      have h4 : f 4 = _ := h4
      rw [h4]
      go_wp2_with (fail)
      exact CalmQ.mk rfl _ rfl (Below.refl _ _) rfl
    refine AllCalm.cons (fun W hB hd => ?_) ?_
    · obtain ⟨h5, -⟩ := hd
      have h5 : f 5 = _ := h5
      rw [h5]
      go_wp2_with (fail)
      exact CalmQ.mk rfl _ rfl (Below.refl _ _) rfl
    refine AllCalm.cons (fun W hB hd => ?_) ?_
    · obtain ⟨h6, -⟩ := hd
      have h6 : f 6 = _ := h6
      rw [h6]
      have q := (hF W hB).2.2
      go_wp2_with (fail)
      exact CalmQ.mk rfl _ rfl (Below.refl _ _) rfl
    refine AllCalm.cons (fun W hB hd => ?_) ?_
    · obtain ⟨h3, h7, -⟩ := hd
      have h3 : f 3 = _ := h3
      have h7 : f 7 = _ := h7
      rw [h3, h7]
      go_wp2_with (fail)
      exact CalmQ.mk rfl _ rfl (Below.refl _ _) rfl
    refine AllCalm.cons (fun W hB hd => ?_) ?_
    · obtain ⟨h8, -⟩ := hd
      have h8 : f 8 = _ := h8
      rw [h8]
      go_wp2_with (fail)
      exact CalmQ.mk rfl _ rfl ((Below.refl _ _).alloc (Nat.le_refl _) _) ⟨_, rfl, hB.size, Mem.new _ _ _⟩
    refine AllCalm.cons (fun W hB hd => ?_) ?_
    · obtain ⟨h9, h0, h1, h2, h3, h4, h5, h6, h7, h8, -, -⟩ := hd
      have h0 : f 0 = _ := h0
      have h1 : f 1 = _ := h1
      have h2 : f 2 = _ := h2
      have h3 : f 3 = _ := h3
      have h4 : f 4 = _ := h4
      have h5 : f 5 = _ := h5
      have h6 : f 6 = _ := h6
      have h7 : f 7 = _ := h7
      have h8 : f 8 = _ := h8
      rw [h0, h1, h2, h3, h4, h5, h6, h7, h8]
      obtain ⟨g, e9, k1, k2⟩ := h9; rw [e9]
      go_wp2_with (fail)
      exact CalmQ.mk rfl _ rfl (Below.refl _ _) ⟨g, rfl, k1, k2⟩
    exact AllCalm.nil
  · intro W hB hT
    obtain ⟨h0, h1, h2, h3, h4, h5, h6, h7, h8, h9, h10, -⟩ := hT
    have h0 : f 0 = _ := h0
    have h1 : f 1 = _ := h1
    have h2 : f 2 = _ := h2
    have h3 : f 3 = _ := h3
    have h4 : f 4 = _ := h4
    have h5 : f 5 = _ := h5
    have h6 : f 6 = _ := h6
    have h7 : f 7 = _ := h7
    have h8 : f 8 = _ := h8
    rw [h0, h1, h2, h3, h4, h5, h6, h7, h8]
    clear h0 h1 h2 h3 h4 h5 h6 h7 h8
    obtain ⟨T, e10, k1, k2⟩ := h10
    rw [e10]
    have hFW := hF W hB
    go_wp2_with fail
    have hnT : NetInv W w.heap.size T (.slice none 0 0) h [] s := ⟨k1, k2, World.ownsRow_nil _ _ _ _, by simp, by simp⟩
    clear k2 hFW
    go_loopw [21] (fun i wr => ∃ (v2 : Value) (L2 : List Pk) (k : Nat), k ≤ L.length ∧ i = .int .i64 k ∧ NetInv wr w.heap.size T v2 h L2 s ∧ Hid (L2.map Pk.ab = (L.map Pk.ab).take k ∧ L2.length = k) ∧ Below w.heap.size w wr) (fun i _ => L.length - (intOf i).toNat)
    case atStart => exact ⟨_, [], 0, by omega, rfl, hnT, Lib.hid ⟨by simp, rfl⟩, hB⟩
    case round =>
      clear hnT
      obtain ⟨v2, L2, k, hk, rfl, hn2, HL, hb⟩ := hrel
      by_cases hlt : k < L.length
      · have hltx : (k : Int) < (L.length : Int) := by omega
        have hLk := HL.out.2
        have hstep : (L.map Pk.ab).take (k + 1) = (L.map Pk.ab).take k ++ [L[k].ab] := by
          rw [List.take_succ_eq_append_getElem (by simpa using hlt), List.getElem_map]
        have hNw := HN.out.below hb
        obtain ⟨g, rfl, hBg, hgl, x1, x2, x3⟩ := row_at hNw.row hlt
        have hdk := hNw.data _ (List.getElem_mem hlt)
        generalize L[k] = P at *
        obtain ⟨pf, pt, pd, pl⟩ := P
        have hd1 := hdk.1
        have hd2 := hdk.2
        simp only at x1 x2 x3 hd1 hd2
        obtain ⟨Ad, cd, rfl, _⟩ := own_form hd1
        obtain ⟨A2, c2, rfl, hk1, hk2⟩ := hn2.parts
        have hL2 : L2.length < 4096 := by omega
        have b3 : L2.length + 1 ≤ maxLen := by unfold maxLen; omega
        have b4 : (L2.length + 1) * 40 ≤ 140737488355328 := by omega
        have HL2 := Lib.hid hLk
        clear hLk
        have hone3 : ∀ A1 c1, ∀ u ∈ ([.int .i64 pf, .int .i64 pt, .slice A1 pl.length c1] : List Value), u.oneCell' = true := by
          intro A1 c1 u hu
          simp at hu
          rcases hu with rfl | rfl | rfl <;> rfl
        have hG : ∀ W, Below ((wr.alloc (.cells #[.int .i64 pf, .int .i64 pt, .slice Ad pl.length cd] 41)).drew).heap.size ((wr.alloc (.cells #[.int .i64 pf, .int .i64 pt, .slice Ad pl.length cd] 41)).drew) W → Below wr.heap.size wr W ∧ W.cell? ⟨T, 1, none⟩ = some (.slice A2 L2.length c2) ∧ Mem W wr.heap.size 41 #[.int .i64 pf, .int .i64 pt, .slice Ad pl.length cd] ∧ W.ownsRow w.heap.size 41 3 (.slice A2 L2.length c2) L2.length (flat L2) ∧ Calls Try.prog 31 #[.agg #[.int .i64 pf, .int .i64 pt, .slice Ad pl.length cd]] W fun e w' => ∃ A1 c1, e = .returned (.agg #[.int .i64 pf, .int .i64 pt, .slice A1 pl.length c1]) ∧ DOk w' w.heap.size ⟨pf, pt, .slice A1 pl.length c1, pl⟩ ∧ Below W.heap.size W w' := by
          intro W hW
          have hx := ((Below.refl wr.heap.size wr).alloc (Nat.le_refl _) (.cells #[.int .i64 pf, .int .i64 pt, .slice Ad pl.length cd] 41)).drew
          have hbW := hx.trans (hW.mono hx.size)
          have hm := Mem.new wr 41 #[.int .i64 pf, .int .i64 pt, .slice Ad pl.length cd]
          refine ⟨hbW, (hn2.below hbW).mem.cell 1, Mem.below (show Mem ((wr.alloc _).drew) _ _ _ from hm) hW hm.lt, (hn2.below hbW).row, ?_⟩
          refine (clone_any pf pt _ pl hd2 W (hdk.below hbW).sl).mono ?_
          rintro e w' ⟨d', rfl, ho, hb'⟩
          obtain ⟨A1, c1, rfl, _⟩ := own_form ho
          exact ⟨A1, c1, rfl, ⟨owns_mono ho (Nat.le_trans hb.size hbW.size), hd2⟩, hb'⟩
        have F6 : ∀ (W : World) (v6 : Value) (w6 : World) A1 c1, Below wr.heap.size wr W → DOk W w.heap.size ⟨pf, pt, .slice A1 pl.length c1, pl⟩ → w6.ownsRow w.heap.size 41 3 v6 (L2.length + 1) (flat L2 ++ [.int .i64 pf, .int .i64 pt, .slice A1 pl.length c1]) → W.grownBy w6 (Value.slice A2 L2.length c2).ownBlock → (v6.ownBlock = (Value.slice A2 L2.length c2).ownBlock ∨ v6.ownBlock = some W.heap.size) →
            ∃ A6 c6, v6 = .slice A6 (L2.length + 1) c6 ∧ w6.cell? ⟨T, 1, none⟩ = some (.slice A2 L2.length c2) ∧ w6.frozen? ⟨T, 1, none⟩ = false ∧ NetInv (w6.setCell ⟨T, 1, none⟩ (.slice A6 (L2.length + 1) c6)) w.heap.size T (.slice A6 (L2.length + 1) c6) h (L2 ++ [⟨pf, pt, .slice A1 pl.length c1, pl⟩]) s ∧ Below w.heap.size w (w6.setCell ⟨T, 1, none⟩ (.slice A6 (L2.length + 1) c6)) := by
          intro W v6 w6 A1 c1 hW hd' ho hg hat
          obtain ⟨A6, c6, rfl, _⟩ := own_form ho
          obtain ⟨_, h6, _, e6, _⟩ := net_pushed (p := ⟨pf, pt, .slice A1 pl.length c1, pl⟩) hn2 hb.size hL2 hW hd' ho hg hat 0
          have hm6 := (hn2.below hW).mem.eff (eff_grown hg) hn2.apart
          exact ⟨A6, c6, rfl, hm6.cell 1, hm6.free 1, h6, e6.below hb hb.size fun k _ hk => (hn2.ns k hk).2.1⟩
        have hbs := hb.size
        clear hNw hdk hd1 hF
        have HN2 := Lib.hid hn2
        clear hn2
        go_wp2_with fail
        refine wp_region_any (by kernel_rfl) ?_
        change wpAny _ _ _ _ _ _ _ (World.drew _)
        refine wpAny_take (i := 0) (oi := { dst := some 25, op := Op.move (Operand.tmp 3), type := 25, pos := "net.go:118", after := #[], guard := none }) (v := (.pointer (some ⟨T, 0, none⟩))) rfl (by kernel_rfl) (by kernel_rfl) (by kernel_rfl) (fun _ _ _ h => h) (Or.inl ⟨by rfl, by intro w; go_simp⟩) ?_
        try dsimp only [Act.put]
        try simp only [List.setIfInBounds_toArray, List.set_cons_succ, List.set_cons_zero]
        apply calm_tailI 8 [0] [.is (.pointer (some ⟨T, 0, none⟩)), .is _, .is _, .is _, .is _, .is _, .of (fun v W => ∃ A1 c1, v = .agg #[.int .i64 pf, .int .i64 pt, .slice A1 pl.length c1] ∧ DOk W w.heap.size ⟨pf, pt, .slice A1 pl.length c1, pl⟩) (fun v W W' hb ⟨A1, c1, h1, h2⟩ => ⟨A1, c1, h1, h2.below hb⟩), .of (fun v W => ∃ g, v = .slice (some ⟨g, 0, none⟩) 1 1 ∧ ∃ A1 c1, Mem W g 41 #[.int .i64 pf, .int .i64 pt, .slice A1 pl.length c1] ∧ DOk W w.heap.size ⟨pf, pt, .slice A1 pl.length c1, pl⟩) (fun v W W' hb ⟨g, h0, A1, c1, h1, h2⟩ => ⟨g, h0, A1, c1, h1.below hb h1.lt, h2.below hb⟩)] [[], [], [1], [2], [3], [], [5], [6]] (by kernel_rfl) (by kernel_rfl) rfl (by decide) (by intro i hi o ho; obtain rfl := List.mem_singleton.1 hi; obtain rfl := Option.some.inj ho; exact rfl)
        intro f a1 ha1
        simp only [List.take_succ_cons, List.take_zero, putL, Act.put, List.setIfInBounds_toArray, List.set_cons_succ, List.set_cons_zero] at ha1
        subst ha1
        refine ⟨?_, ?_⟩
        · refine AllCalm.cons (fun W hB hd => ?_) ?_
          · go_wp2_with (fail)
            exact CalmQ.mk rfl _ rfl (Below.refl _ _) rfl
          refine AllCalm.cons (fun W hB hd => ?_) ?_
          · go_wp2_with (fail)
            exact CalmQ.mk rfl _ rfl (Below.refl _ _) rfl
          refine AllCalm.cons (fun W hB hd => ?_) ?_
          · obtain ⟨h1, -⟩ := hd
            have h1 : f 1 = _ := h1
            rw [h1]
            go_wp2_with (fail)
            exact CalmQ.mk rfl _ rfl (Below.refl _ _) rfl
          refine AllCalm.cons (fun W hB hd => ?_) ?_
          · obtain ⟨h2, -⟩ := hd
            have h2 : f 2 = _ := h2
            rw [h2]
            go_wp2_with (fail)
            exact CalmQ.mk rfl _ rfl (Below.refl _ _) rfl
          refine AllCalm.cons (fun W hB hd => ?_) ?_
          · obtain ⟨h3, -⟩ := hd
            have h3 : f 3 = _ := h3
            rw [h3]
            have q := (hG W hB).2.1
            go_wp2_with (fail)
            exact CalmQ.mk rfl _ rfl (Below.refl _ _) rfl
          refine AllCalm.cons (fun W hB hd => ?_) ?_
          · (have kx := (hG W hB).2.2.1; have q0 := kx.cell 0; have q1 := kx.cell 1; have q2 := kx.cell 2)
            go_wp2_with (fail)
            exact CalmQ.mk rfl _ rfl (Below.refl _ _) rfl
          refine AllCalm.cons (fun W hB hd => ?_) ?_
          · obtain ⟨h5, -⟩ := hd
            have h5 : f 5 = _ := h5
            rw [h5]
            have kx := (hG W hB).2.2.2.2
            go_wp2_with ((go_at_call 31; (with_reducible refine kx.mono ?_); rintro e w5 ⟨A1, c1, rfl, hd5, hb5⟩))
            refine CalmQ.mk rfl _ rfl hb5 ?_; exact ⟨A1, c1, rfl, hd5⟩
          refine AllCalm.cons (fun W hB hd => ?_) ?_
          · obtain ⟨h6, -⟩ := hd
            obtain ⟨A1, c1, e6, hd5⟩ := h6; rw [e6]
            go_wp2_with (fail)
            refine CalmQ.mk rfl _ rfl ((Below.refl _ _).alloc (Nat.le_refl _) _) ?_; exact ⟨_, rfl, A1, c1, Mem.new _ _ _, hd5.below ((Below.refl _ _).alloc (Nat.le_refl _) _)⟩
          exact AllCalm.nil
        · intro W hB hT
          obtain ⟨h0, h1, h2, h3, h4, h5, h6, h7, -⟩ := hT
          have h0 : f 0 = _ := h0
          have h1 : f 1 = _ := h1
          have h2 : f 2 = _ := h2
          have h3 : f 3 = _ := h3
          have h4 : f 4 = _ := h4
          have h5 : f 5 = _ := h5
          rw [h0, h1, h2, h3, h4, h5]
          clear h0 h1 h2 h3 h4 h5
          simp only [List.drop_succ_cons, List.drop_zero]
          obtain ⟨g7, e7, A1, c1, hm7, hd7⟩ := h7
          rw [e7]
          obtain ⟨hbW, _, _, hown, _⟩ := hG W hB
          clear hG
          go_wp2_with (at_builtin; (refine wpList_append_at _ rfl (.tmp 29) (.tmp 32) _ rfl w.heap.size 41 i0 _ 3 40 Try.underlying56 hi0 hz0 hz1 hz2 rfl (by decide) (.slice A2 L2.length c2) L2.length (flat L2) rfl hown ⟨g7, 0, none⟩ 1 1 [.int .i64 pf, .int .i64 pt, .slice A1 pl.length c1] rfl rfl (cells_at3' hm7) (hone3 _ _) b3 b4 (Nat.le_trans hbs hbW.size) ?_); intro v6 w6 ho6 hg6 hat6; obtain ⟨A6, c6, rfl, hx6, hf6, hn6, hb6⟩ := F6 _ _ _ _ _ hbW hd7 ho6 hg6 hat6)
          refine ⟨⟨_, _, _, _, _, _, _, _, _, _, _, _, _, _, _, _, _, ?_, rfl⟩, by simp [intOf]; omega⟩
          exact ⟨_, L2 ++ [⟨pf, pt, .slice A1 pl.length c1, pl⟩], k + 1, by omega, by go_num, hn6, Lib.hid ⟨by rw [List.map_append, HL.out.1, hstep]; rfl, by rw [List.length_append, HL2.out]; rfl⟩, hb6⟩
      · obtain rfl : k = L.length := by omega
        go_wp2_with fail
        go_ret
        exact ⟨T, _, L2, rfl, k1, hn2, by rw [HL.out.1]; exact List.take_of_length_le (by simp), hb⟩
end Go.Proofs.Ytmlimmcaidkoeaa
