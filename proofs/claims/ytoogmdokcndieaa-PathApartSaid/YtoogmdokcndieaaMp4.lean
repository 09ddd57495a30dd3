/- Package mpath: Out, Waiting, Done of a path that was told nothing. -/
import Derived.Test.YtoogmdokcndieaaMp3
namespace Go.Proofs.Ytoogmdokcndieaa
open Go.ChangeShapes Go.WideShapes Go.ChangeAt Go.RowKit Go.Lib
set_option linter.unusedVariables false
set_option linter.unusedSimpArgs false
set_option maxRecDepth 100000
namespace Nw
def rowP (us : List Value) : List Value := us.flatMap fun u => [.int .i64 0, u]
theorem rowP_snoc (us : List Value) (u : Value) : rowP (us ++ [u]) = rowP us ++ [.int .i64 0, u] := by simp [rowP]
theorem rowP_at (l : List Value) (i : Nat) (u : Value) (h : l[i]? = some u) : (rowP l)[i * 2]? = some (.int .i64 0) ∧ (rowP l)[i * 2 + 1]? = some u := by
  induction l generalizing i with
  | nil => simp at h
  | cons a l ih =>
    have e : rowP (a :: l) = [.int .i64 0, a] ++ rowP l := rfl
    cases i with
    | zero =>
      obtain rfl : a = u := by simpa using h
      exact ⟨rfl, rfl⟩
    | succ i =>
      have := ih i (by simpa using h)
      rw [e, show (i + 1) * 2 = i * 2 + 2 by omega, show i * 2 + 2 + 1 = i * 2 + 1 + 2 by omega]
      exact this
/-- What a request's packet bears. -/
def pkS (host : Nat) (x : It) : List UInt8 := Crc.sealS (reqS host x.id 1 x.c x.d)
/-- The packets that were made: each a sealed request. -/
structure Pk (w : World) (B host : Nat) (its : List It) (k : Nat) (us : List Value) : Prop where
  len : us.length = k
  is : ∀ (i : Nat) (x : It) (u : Value), its[i]? = some x → us[i]? = some u → w.ownsRow B 5 1 u (pkS host x).length (bs (pkS host x))
section
variable {w w' : World} {O T O' : Nat → Prop} {X Y host : Nat} {its : List It} {S : List One}
theorem Pk.eff {B k : Nat} {us : List Value} (h : Pk w B host its k us) (he : Eff T w w') (hT : ∀ k, T k → k < B) : Pk w' B host its k us :=
  ⟨h.len, fun i x u h1 h2 => owns_eff (h.is i x u h1 h2) he fun k hk ht => by have := (own_tag (h.is i x u h1 h2) k hk).1; have := hT k ht; omega⟩
theorem Pk.below {B k : Nat} {us : List Value} (h : Pk w B host its k us) (he : Below w.heap.size w w') : Pk w' B host its k us :=
  ⟨h.len, fun i x u h1 h2 => owns_below (h.is i x u h1 h2) he⟩
theorem packet_info : (Try.prog.info? 39).map (fun i => (i.zero, i.size, i.bytes)) = some (some (.agg #[.int .i64 0, .slice none 0 0]), 2, 32) := by kernel_rfl
/-- Its, but for which of them are due. -/
def Like (its l : List It) (k : Nat) : Prop := l.length = its.length ∧ ∀ (i : Nat) (x : It), its[i]? = some x → ∃ b, l[i]? = some { x with due := b } ∧ (k ≤ i → b = x.due)
theorem Like.refl (its : List It) (k : Nat) : Like its its k := ⟨rfl, fun i x h => ⟨x.due, h, fun _ => rfl⟩⟩
theorem Like.off {l : List It} {k : Nat} (h : Like its l k) {x : It} (hx : its[k]? = some x) : ∃ y, l[k]? = some y ∧ y = x ∧ Like its (l.set k { y with due := false }) (k + 1) := by
  obtain ⟨b, h1, h2⟩ := h.2 k x hx
  obtain rfl := h2 (Nat.le_refl _)
  refine ⟨_, h1, rfl, by rw [List.length_set]; exact h.1, fun i z hz => ?_⟩
  by_cases e : i = k
  · subst e
    obtain rfl : x = z := Option.some.inj (hx.symm.trans hz)
    exact ⟨false, by rw [List.getElem?_set_self (List.getElem?_eq_some_iff.1 h1).1], fun h => absurd h (by omega)⟩
  · obtain ⟨b, h3, h4⟩ := h.2 i z hz
    exact ⟨b, by rw [List.getElem?_set_ne (by omega)]; exact h3, fun h => h4 (by omega)⟩
set_option maxHeartbeats 4000000 in
theorem out_any (h : Pt w O X Y host its S) (hn : its.length ≤ 4) (hh : host ≤ 7) (hall : ∀ (i : Nat) (x : It), its[i]? = some x → x.due = true ∧ CmOk x.c ∧ x.d.length ≤ 1024) : Calls Try.prog 7 #[.pointer (some ⟨X, 0, none⟩)] w fun e' w' => ∃ v us its', e' = .returned v ∧ w'.ownsRow w.heap.size 39 2 v its.length (rowP us) ∧ Pk w' w.heap.size host its its.length us ∧ Pt w' O X Y host its' S ∧ its'.length = its.length ∧ Eff O w w' := by
  obtain ⟨i0, hi, hz0, hz1, hz2⟩ := info_parts packet_info
  obtain ⟨hX, ⟨v, hm, hr, hO⟩, hdat, htm, hfew, hcnt, hids⟩ := h
  obtain ⟨A, cv, rfl, hc1, hc2⟩ := own_form hr
  have hnx : (its.length : Int) ≤ 4 := by omega
  have HR := Lib.hid hr
  have x2 := hm.cell 2
  generalize hN : its.length = N at *
  have HN := Lib.hid hN
  clear hN hr
  go_enter Try.func7, Try.ntmps7
  go_wp2
  go_step3
  go_wp2
  go_step3
  go_wp2
  go_loopw [3, 11] (fun l i wr => ∃ (k : Nat) (its' : List It) (us : List Value) (vl : Value), i = .int .i64 k ∧ vl = l ∧ k ≤ N ∧ Like its its' k ∧ wr.ownsRow 0 52 10 (.slice A N cv) N (rowW its') ∧ wr.ownsRow w.heap.size 39 2 vl k (rowP us) ∧ Pk wr w.heap.size host its k us ∧ Eff (fun k => (Value.slice A N cv).ownBlock = some k) w wr) (fun _ i _ => N - (intOf i).toNat)
  case atStart => exact ⟨0, its, [], _, rfl, rfl, Nat.zero_le _, Like.refl _ _, HR.out, World.ownsRow_nil _ _ _ _, ⟨rfl, fun i x u h1 h2 => by simp at h2⟩, Eff.refl _ _⟩
  case round =>
    obtain ⟨k, its', us, vl, rfl, rfl, hk, hlike, hrw, hvl, hpk, hEw⟩ := hrel
    have hmw := hm.eff hEw fun e => (own_tag HR.out _ e).2.2.ne (mem_tag hm) (by decide) rfl
    have hs0 := hEw.size
    by_cases hkN : k < N
    · have hkx : (k : Int) < (N : Int) := by omega
      obtain ⟨x, hx⟩ : ∃ x, its[k]? = some x := ⟨_, List.getElem?_eq_getElem (by have := HN.out; omega)⟩
      obtain ⟨y, hy, rfl, hlike2⟩ := hlike.off hx
      obtain ⟨hdue, hcok, hdl⟩ := hall k y hx
      have hid := hids k y hx
      have hyd := hdat y (List.mem_of_getElem? hx)
      obtain ⟨id, c, vd, d, due⟩ := y
      obtain rfl : due = true := hdue
      have hyw : OwnR wr O 5 vd d.length (bs d) := hyd.eff hEw fun q hq e => (hyd.tag hq).ne (own_tag HR.out q e).2.2 (by decide) rfl
      clear hyd
      obtain ⟨Ad, cd, rfl, _, _⟩ := hyw.form
      obtain ⟨g, rfl⟩ : ∃ g, A = some ⟨g, 0, none⟩ := by
        rcases hrw.2 with ⟨hv, h1⟩ | ⟨g, cap, cur, hv, _⟩
        · omega
        · simp only [Value.slice.injEq] at hv
          exact ⟨g, hv.1⟩
      have r0 : wr.cell? ⟨g, k * 10, none⟩ = some (.int .u64 (id : Nat)) := own_cells hrw (k * 10 + 0) _ (rowW_at its' k 0 _ hy (by omega))
      have r1 : wr.cell? ⟨g, k * 10 + 1, none⟩ = some (.int .i64 c.kind) := own_cells hrw (k * 10 + 1) _ (rowW_at its' k 1 _ hy (by omega))
      have r2 : wr.cell? ⟨g, k * 10 + 2, none⟩ = some (.int .i64 c.at') := own_cells hrw (k * 10 + 2) _ (rowW_at its' k 2 _ hy (by omega))
      have r3 : wr.cell? ⟨g, k * 10 + 3, none⟩ = some (.int .i64 c.n) := own_cells hrw (k * 10 + 3) _ (rowW_at its' k 3 _ hy (by omega))
      have r4 : wr.cell? ⟨g, k * 10 + 4, none⟩ = some (.slice Ad d.length cd) := own_cells hrw (k * 10 + 4) _ (rowW_at its' k 4 _ hy (by omega))
      have r5 : wr.cell? ⟨g, k * 10 + 5, none⟩ = some (.int .u64 (c.key : Nat)) := own_cells hrw (k * 10 + 5) _ (rowW_at its' k 5 _ hy (by omega))
      have r6 : wr.cell? ⟨g, k * 10 + 6, none⟩ = some (.int .u64 (c.new : Nat)) := own_cells hrw (k * 10 + 6) _ (rowW_at its' k 6 _ hy (by omega))
      have r7 : wr.cell? ⟨g, k * 10 + 7, none⟩ = some (.int .i64 c.typ) := own_cells hrw (k * 10 + 7) _ (rowW_at its' k 7 _ hy (by omega))
      have r8 : wr.cell? ⟨g, k * 10 + 8, none⟩ = some (.bool c.force) := own_cells hrw (k * 10 + 8) _ (rowW_at its' k 8 _ hy (by omega))
      have r9 : wr.cell? ⟨g, k * 10 + 9, none⟩ = some (.bool true) := own_cells hrw (k * 10 + 9) _ (rowW_at its' k 9 _ hy (by omega))
      obtain ⟨W1, e1, mb1, b1⟩ : ∃ W1, W1 = wr.alloc (.cells #[.int .u64 (id : Nat), .int .i64 c.kind, .int .i64 c.at', .int .i64 c.n, .slice Ad d.length cd, .int .u64 (c.key : Nat), .int .u64 (c.new : Nat), .int .i64 c.typ, .bool c.force, .bool true] 52) ∧ Mem W1 wr.heap.size 52 #[.int .u64 (id : Nat), .int .i64 c.kind, .int .i64 c.at', .int .i64 c.n, .slice Ad d.length cd, .int .u64 (c.key : Nat), .int .u64 (c.new : Nat), .int .i64 c.typ, .bool c.force, .bool true] ∧ Below wr.heap.size wr W1 := ⟨_, rfl, Mem.new wr _ _, (Below.refl _ wr).alloc (Nat.le_refl _) _⟩
      go_upto_region 5 with (fail)
      rw [← e1]
      clear e1 r0 r1 r2 r3 r4 r5 r6 r7 r8 r9
      have mX1 := hmw.below b1 hmw.lt
      have x2w := mX1.cell 2
      have bb9 := mb1.cell 9
      have hr1 := owns_below hrw b1
      have gf := own_free hr1 (k * 10 + 9)
      have gc : W1.cell? ⟨g, k * 10 + 9, none⟩ = some (.bool true) := own_cells hr1 (k * 10 + 9) _ (rowW_at its' k 9 _ hy (by omega))
      have hgX : g ≠ X := fun e => (own_tag hr1 g rfl).2.2.ne (mem_tag mX1) (by decide) e
      have hgb : g ≠ wr.heap.size := by have := (own_tag hrw g rfl).2.1; omega
      have hle := hlike.1
      obtain ⟨W2, e2, E2, hr2⟩ : ∃ W2, W2 = W1.setCell ⟨g, k * 10 + 9, none⟩ (.bool false) ∧ Eff (fun q => q = g) W1 W2 ∧ W2.ownsRow 0 52 10 (.slice (some ⟨g, 0, none⟩) N cv) N (rowW (its'.set k ⟨id, c, .slice Ad d.length cd, d, false⟩)) := ⟨_, rfl, Eff.setCell (S := fun q => q = g) (Eff.refl _ _) (p := ⟨g, k * 10 + 9, none⟩) rfl _, by
        have q := own_putN hr1 (i := k * 10 + 9) (by omega) (.bool false)
        rw [rowW_off its' k (by have := (List.getElem?_eq_some_iff.1 hy).1; omega) false] at q
        have e : its'[k]'(by have := (List.getElem?_eq_some_iff.1 hy).1; omega) = ⟨id, c, .slice Ad d.length cd, d, true⟩ := (List.getElem?_eq_some_iff.1 hy).2
        rw [e] at q
        exact q⟩
      go_upto_region 7 with (fail)
      rw [← e2]
      clear e2 gf gc x2w bb9
      have E12 : Eff (fun q => q = g) wr W2 := (Eff.of b1).trans E2 fun _ _ h => h
      have mX2 := mX1.eff E2 (fun e => hgX e.symm)
      have mb2 := mb1.eff E2 (fun e => hgb e.symm)
      have hvl2 := owns_eff hvl E12 fun q hq e => (own_tag hvl q hq).2.2.ne (own_tag hrw g rfl).2.2 (by decide) e
      have hpk2 : Pk W2 w.heap.size host its k us := ⟨hpk.len, fun i x u h1 h2 => owns_eff (hpk.is i x u h1 h2) E12 fun q hq e => (own_tag (hpk.is i x u h1 h2) q hq).2.2.ne (own_tag hrw g rfl).2.2 (by decide) e⟩
      have hy2 := hyw.eff E12 fun q hq e => (hyw.tag hq).ne (own_tag hrw g rfl).2.2 (by decide) e
      have c0 : W2.cell? ⟨g, 0, none⟩ = some (.int .u64 1) := by
        obtain ⟨x0, h0⟩ : ∃ x0, its[0]? = some x0 := ⟨_, List.getElem?_eq_getElem (by have := HN.out; omega)⟩
        obtain ⟨b, h1, -⟩ := hlike2.2 0 x0 h0
        have q := own_cells hr2 0 (.int .u64 (x0.id : Nat)) (by rw [show (0 : Nat) = 0 * 10 + 0 from rfl, rowW_at _ 0 0 _ h1 (by omega)]; rfl)
        rw [hids 0 x0 h0] at q
        exact q
      obtain ⟨Al, cl, rfl, _, _⟩ := own_form hvl2
      have hRd : (pkS host ⟨id, c, .slice Ad d.length cd, d, true⟩) = Crc.sealS (reqS host id 1 c d) := rfl
      have hdl' : d.length ≤ 1024 := hdl
      have hidx : id < 18446744073709551616 := by have : id = k + 1 := hid; omega
      have cq : ∀ W, Below W2.heap.size W2 W → Calls Try.prog 14 #[.int .i64 (host : Nat), .int .u64 (id : Nat), .int .u64 1, .agg #[.int .i64 c.kind, .int .i64 c.at', .int .i64 c.n, .slice Ad d.length cd, .int .u64 (c.key : Nat), .int .u64 (c.new : Nat), .int .i64 c.typ, .bool c.force]] W fun e' w' => ∃ v', e' = .returned v' ∧ w'.ownsRow W.heap.size 5 1 v' (pkS host ⟨id, c, .slice Ad d.length cd, d, true⟩).length (bs (pkS host ⟨id, c, .slice Ad d.length cd, d, true⟩)) ∧ Below W.heap.size W w' := fun W hW => request_any host id 1 (by omega) hidx (by decide) c hcok _ d ((hy2.below hW).sl) (by omega)
      obtain ⟨R, hR⟩ : ∃ R, R = pkS host ⟨id, c, .slice Ad d.length cd, d, true⟩ := ⟨_, rfl⟩
      rw [← hR] at cq
      have hwW2 : w.heap.size ≤ W2.heap.size := Nat.le_trans hs0 E12.size
      have HRR := Lib.hid hR
      have HID := Lib.hid hid
      have HALL := Lib.hid hall
      have HX := Lib.hid hx
      clear hRd hR hid hall hidx hcok hgb hgX hdl hx hlike hle hr1 E2 hrw hvl hpk hyw hy mb1 mX1 hmw
      refine wp_region_any (by kernel_rfl) ?_
      change wpAny _ _ _ _ _ _ _ (World.drew _)
      refine wpAny_take (i := 0) (oi := { dst := some 26, op := Op.move (Operand.tmp 3), type := 34, pos := "mpath.go:126", after := #[], guard := none }) (v := (.slice Al k cl)) rfl (by kernel_rfl) (by kernel_rfl) (by kernel_rfl) (fun _ _ _ h => h) (Or.inl ⟨by rfl, by intro w; go_simp⟩) ?_
      try dsimp only [Act.put]
      try simp only [List.setIfInBounds_toArray, List.set_cons_succ, List.set_cons_zero]
      apply calm_tailI 23 [0] [.is (.slice Al k cl), .is _, .is _, .is _, .is _, .is _, .is _, .is _, .is _, .is _, .is _, .is _, .is _, .is _, .is _, .is _, .is _, .is _, .is _, .is _, .of (fun v W => W.ownsRow w.heap.size 5 1 v R.length (bs R)) (fun v W W' hb h => owns_below h hb), .of (fun v W => ∃ u, v = .agg #[.int .i64 0, u] ∧ W.ownsRow w.heap.size 5 1 u R.length (bs R)) (fun v W W' hb ⟨u, h1, h2⟩ => ⟨u, h1, owns_below h2 hb⟩), .of (fun v W => ∃ g, v = .slice (some ⟨g, 0, none⟩) 1 1 ∧ ∃ u, Mem W g 39 #[.int .i64 0, u] ∧ W.ownsRow w.heap.size 5 1 u R.length (bs R)) (fun v W W' hb ⟨g, h1, u, h2, h3⟩ => ⟨g, h1, u, h2.below hb h2.lt, owns_below h3 hb⟩)] [[], [], [1], [2], [3], [], [5], [6], [7], [], [9], [], [11], [12], [13], [14], [15], [16], [], [18], [8, 10, 17, 19], [4, 20], [21]] (by kernel_rfl) (by kernel_rfl) rfl (by decide) (by intro i hi o ho; obtain rfl := List.mem_singleton.1 hi; obtain rfl := Option.some.inj ho; exact rfl)
      intro f a1 ha1
      simp only [List.take_succ_cons, List.take_zero, putL, Act.put, List.setIfInBounds_toArray, List.set_cons_succ, List.set_cons_zero] at ha1
      subst ha1
      refine ⟨?_, ?_⟩
      · refine AllCalm.cons (fun W hB hd => ?_) ?_
        · go_wp2_with (fail)
          exact CalmQ.mk rfl _ rfl (Below.refl _ _) rfl
        refine AllCalm.cons (fun W hB hd => ?_) ?_
        · go_wp2_with (fail)
          exact CalmQ.mk rfl _ rfl (Below.refl _ _) rfl
        refine AllCalm.cons (fun W hB hd => ?_) ?_
        · obtain ⟨h1, -⟩ := hd
          have h1 : f 1 = _ := h1
          rw [h1]
          go_wp2_with (fail)
          exact CalmQ.mk rfl _ rfl (Below.refl _ _) rfl
        refine AllCalm.cons (fun W hB hd => ?_) ?_
        · obtain ⟨h2, -⟩ := hd
          have h2 : f 2 = _ := h2
          rw [h2]
          go_wp2_with (fail)
          exact CalmQ.mk rfl _ rfl (Below.refl _ _) rfl
        refine AllCalm.cons (fun W hB hd => ?_) ?_
        · obtain ⟨h3, -⟩ := hd
          have h3 : f 3 = _ := h3
          rw [h3]
          have k0 := (mX2.below ((Below.refl _ W2).drew.trans hB) mX2.lt).cell 4
          go_wp2_with (fail)
          exact CalmQ.mk rfl _ rfl (Below.refl _ _) rfl
        refine AllCalm.cons (fun W hB hd => ?_) ?_
        · go_wp2_with (fail)
          exact CalmQ.mk rfl _ rfl (Below.refl _ _) rfl
        refine AllCalm.cons (fun W hB hd => ?_) ?_
        · obtain ⟨h5, -⟩ := hd
          have h5 : f 5 = _ := h5
          rw [h5]
          go_wp2_with (fail)
          exact CalmQ.mk rfl _ rfl (Below.refl _ _) rfl
        refine AllCalm.cons (fun W hB hd => ?_) ?_
        · obtain ⟨h6, -⟩ := hd
          have h6 : f 6 = _ := h6
          rw [h6]
          go_wp2_with (fail)
          exact CalmQ.mk rfl _ rfl (Below.refl _ _) rfl
        refine AllCalm.cons (fun W hB hd => ?_) ?_
        · obtain ⟨h7, -⟩ := hd
          have h7 : f 7 = _ := h7
          rw [h7]
          have k0 := (mX2.below ((Below.refl _ W2).drew.trans hB) mX2.lt).cell 0
          go_wp2_with (fail)
          exact CalmQ.mk rfl _ rfl (Below.refl _ _) rfl
        refine AllCalm.cons (fun W hB hd => ?_) ?_
        · go_wp2_with (fail)
          exact CalmQ.mk rfl _ rfl (Below.refl _ _) rfl
        refine AllCalm.cons (fun W hB hd => ?_) ?_
        · obtain ⟨h9, -⟩ := hd
          have h9 : f 9 = _ := h9
          rw [h9]
          have k0 := (mb2.below ((Below.refl _ W2).drew.trans hB) mb2.lt).cell 0
          go_wp2_with (fail)
          exact CalmQ.mk rfl _ rfl (Below.refl _ _) rfl
        refine AllCalm.cons (fun W hB hd => ?_) ?_
        · go_wp2_with (fail)
          exact CalmQ.mk rfl _ rfl (Below.refl _ _) rfl
        refine AllCalm.cons (fun W hB hd => ?_) ?_
        · obtain ⟨h11, -⟩ := hd
          have h11 : f 11 = _ := h11
          rw [h11]
          go_wp2_with (fail)
          exact CalmQ.mk rfl _ rfl (Below.refl _ _) rfl
        refine AllCalm.cons (fun W hB hd => ?_) ?_
        · obtain ⟨h12, -⟩ := hd
          have h12 : f 12 = _ := h12
          rw [h12]
          go_wp2_with (fail)
          exact CalmQ.mk rfl _ rfl (Below.refl _ _) rfl
        refine AllCalm.cons (fun W hB hd => ?_) ?_
        · obtain ⟨h13, -⟩ := hd
          have h13 : f 13 = _ := h13
          rw [h13]
          have k0 := (mX2.below ((Below.refl _ W2).drew.trans hB) mX2.lt).cell 2
          go_wp2_with (fail)
          exact CalmQ.mk rfl _ rfl (Below.refl _ _) rfl
        refine AllCalm.cons (fun W hB hd => ?_) ?_
        · obtain ⟨h14, -⟩ := hd
          have h14 : f 14 = _ := h14
          rw [h14]
          go_wp2_with (fail)
          exact CalmQ.mk rfl _ rfl (Below.refl _ _) rfl
        refine AllCalm.cons (fun W hB hd => ?_) ?_
        · obtain ⟨h15, -⟩ := hd
          have h15 : f 15 = _ := h15
          rw [h15]
          go_wp2_with (fail)
          exact CalmQ.mk rfl _ rfl (Below.refl _ _) rfl
        refine AllCalm.cons (fun W hB hd => ?_) ?_
        · obtain ⟨h16, -⟩ := hd
          have h16 : f 16 = _ := h16
          rw [h16]
          have k0 := (((Below.refl _ W2).drew.trans hB).cell (p := ⟨g, 0, none⟩) (own_tag hr2 g rfl).2.1).trans c0
          go_wp2_with (fail)
          exact CalmQ.mk rfl _ rfl (Below.refl _ _) rfl
        refine AllCalm.cons (fun W hB hd => ?_) ?_
        · go_wp2_with (fail)
          exact CalmQ.mk rfl _ rfl (Below.refl _ _) rfl
        refine AllCalm.cons (fun W hB hd => ?_) ?_
        · obtain ⟨h18, -⟩ := hd
          have h18 : f 18 = _ := h18
          rw [h18]
          have kb := mb2.below ((Below.refl _ W2).drew.trans hB) mb2.lt; have k1 := kb.cell 1; have k2 := kb.cell 2; have k3 := kb.cell 3; have k4 := kb.cell 4; have k5 := kb.cell 5; have k6 := kb.cell 6; have k7 := kb.cell 7; have k8 := kb.cell 8
          go_wp2_with (fail)
          exact CalmQ.mk rfl _ rfl (Below.refl _ _) rfl
        refine AllCalm.cons (fun W hB hd => ?_) ?_
        · obtain ⟨h8, h10, h17, h19, -⟩ := hd
          have h8 : f 8 = _ := h8
          have h10 : f 10 = _ := h10
          have h17 : f 17 = _ := h17
          have h19 : f 19 = _ := h19
          rw [h8, h10, h17, h19]
          have cW := cq W ((Below.refl _ W2).drew.trans hB)
          go_wp2_with ((go_at_call 14; (with_reducible refine cW.mono ?_); rintro e' w3 ⟨v3, rfl, ho3, hb3⟩))
          exact CalmQ.mk rfl _ rfl hb3 (owns_mono ho3 (Nat.le_trans hwW2 hB.size))
        refine AllCalm.cons (fun W hB hd => ?_) ?_
        · obtain ⟨h4, h20, -⟩ := hd
          have h4 : f 4 = _ := h4
          rw [h4]
          have h20' : W.ownsRow w.heap.size 5 1 (f 20) R.length (bs R) := h20; obtain ⟨A3, c3, e3, _, _⟩ := own_form h20'; rw [e3] at h20'; rw [e3]; clear h20 e3
          go_wp2_with (fail)
          exact CalmQ.mk rfl _ rfl (Below.refl _ _) ⟨_, rfl, h20'⟩
        refine AllCalm.cons (fun W hB hd => ?_) ?_
        · obtain ⟨h21, -⟩ := hd
          obtain ⟨u21, e21, o21⟩ := h21; rw [e21]; clear e21
          go_wp2_with (fail)
          exact CalmQ.mk rfl _ rfl ((Below.refl _ _).alloc (Nat.le_refl _) _) ⟨_, rfl, _, Mem.new _ _ _, owns_below o21 ((Below.refl _ _).alloc (Nat.le_refl _) _)⟩
        exact AllCalm.nil
      · intro W hB hT
        obtain ⟨h0, h1, h2, h3, h4, h5, h6, h7, h8, h9, h10, h11, h12, h13, h14, h15, h16, h17, h18, h19, h20, h21, h22, -⟩ := hT
        have h0 : f 0 = _ := h0
        have h1 : f 1 = _ := h1
        have h2 : f 2 = _ := h2
        have h3 : f 3 = _ := h3
        have h4 : f 4 = _ := h4
        have h5 : f 5 = _ := h5
        have h6 : f 6 = _ := h6
        have h7 : f 7 = _ := h7
        have h8 : f 8 = _ := h8
        have h9 : f 9 = _ := h9
        have h10 : f 10 = _ := h10
        have h11 : f 11 = _ := h11
        have h12 : f 12 = _ := h12
        have h13 : f 13 = _ := h13
        have h14 : f 14 = _ := h14
        have h15 : f 15 = _ := h15
        have h16 : f 16 = _ := h16
        have h17 : f 17 = _ := h17
        have h18 : f 18 = _ := h18
        have h19 : f 19 = _ := h19
        rw [h0, h1, h2, h3, h4, h5, h6, h7, h8, h9, h10, h11, h12, h13, h14, h15, h16, h17, h18, h19]
        clear h0 h1 h2 h3 h4 h5 h6 h7 h8 h9 h10 h11 h12 h13 h14 h15 h16 h17 h18 h19
        simp only [List.drop_succ_cons, List.drop_zero]
        have hb8 := (Below.refl _ W2).drew.trans hB
        obtain ⟨g8, e8, u8, m8, o8⟩ := h22
        rw [e8]
        clear e8
        have hvl8 := owns_below hvl2 hb8
        have mX8 := mX2.below hb8 mX2.lt
        have hr8 := owns_below hr2 hb8
        have hpk8 := hpk2.below hb8
        have bN1 : k + 1 ≤ maxLen := by unfold maxLen; omega
        have bN2 : (k + 1) * 32 ≤ 140737488355328 := by omega
        have hbs : w.heap.size ≤ W.heap.size := Nat.le_trans hwW2 hb8.size
        obtain ⟨Au, cu, rfl, _, _⟩ := own_form o8
        go_wp2_with (at_builtin; (refine wpList_append_at _ rfl (.tmp 26) (.tmp 48) _ rfl w.heap.size 39 i0 _ 2 32 Try.underlying34 hi hz0 hz1 hz2 rfl (by decide) (.slice Al k cl) k (rowP us) rfl hvl8 ⟨g8, 0, none⟩ 1 1 [.int .i64 0, .slice Au R.length cu] rfl rfl (cells_newN m8) (by intro u hu; simp at hu; rcases hu with rfl | rfl <;> rfl) bN1 bN2 hbs ?_); intro v9 w9 ho9 hg9 hat9; have he9 := eff_grown hg9; obtain ⟨A9, c9, rfl, _, _⟩ := own_form ho9)
        have hr9 := owns_eff hr8 he9 fun q hq e => (own_tag hr8 q hq).2.2.ne (own_tag hvl8 q e).2.2 (by decide) rfl
        have o9 := owns_eff o8 he9 fun q hq e => (own_tag o8 q hq).2.2.ne (own_tag hvl8 q e).2.2 (by decide) rfl
        have hE9 : Eff (fun q => (Value.slice (some ⟨g, 0, none⟩) N cv).ownBlock = some q) w w9 := ((hEw.trans E12 fun q _ e => by rw [e]; rfl).trans (Eff.of (S := fun _ => False) hb8) fun _ _ h => h.elim).trans he9 fun q hq e => absurd (own_tag hvl8 q e).1 (by omega)
        refine ⟨⟨k + 1, _, us ++ [.slice Au R.length cu], _, by simp, rfl, by omega, hlike2, hr9, by rw [rowP_snoc]; exact ho9, ⟨by rw [List.length_append, hpk8.len]; rfl, fun i x u h1 h2 => ?_⟩, hE9⟩, by simp [intOf]; omega⟩
        by_cases hi : i < k
        · rw [List.getElem?_append_left (by rw [hpk8.len]; exact hi)] at h2
          have q0 := hpk8.is i x u h1 h2
          exact owns_eff q0 he9 fun q hq e => (own_tag q0 q hq).2.2.ne (own_tag hvl8 q e).2.2 (by decide) rfl
        · have hlt := (List.getElem?_eq_some_iff.1 h2).1
          rw [List.length_append, hpk8.len, List.length_singleton] at hlt
          obtain rfl : i = k := by omega
          rw [List.getElem?_append_right (by rw [hpk8.len]; omega), hpk8.len, show i - i = 0 by omega] at h2
          obtain rfl : _ = u := Option.some.inj h2
          obtain rfl : _ = x := Option.some.inj (HX.out.symm.trans h1)
          rw [← HRR.out]
          exact o9
    · obtain rfl : k = N := by omega
      go_wp2
      rw [Exit.noGoto_ret]
      have hO' : ∀ q, (Value.slice A k cv).ownBlock = some q → O q := hO
      have hl := hlike.1.trans HN.out
      have htag : ∀ q, (Value.slice A k cv).ownBlock = some q → ∃ t, Tag w q t ∧ t ≠ 68 ∧ t ≠ 72 := fun q e => ⟨_, (own_tag HR.out q e).2.2, by decide, by decide⟩
      refine bodyPost_ret (v := vl) (by simp [results, Try.results7, go_sem]) rfl ⟨vl, us, its', rfl, hvl, hpk, ⟨hX, ⟨.slice A k cv, ?_, ?_, hO'⟩, ?_, htm.effT hEw htag, ?_, ?_, ?_⟩, hl, hEw.mono fun q _ e => hO' q e⟩
      · rw [hl]; exact hmw
      · rw [hl]; exact hrw
      · intro x hx
        obtain ⟨i, hi⟩ := List.mem_iff_getElem?.1 hx
        obtain ⟨y, hy⟩ : ∃ y, its[i]? = some y := ⟨_, List.getElem?_eq_getElem (by have := (List.getElem?_eq_some_iff.1 hi).1; have := hlike.1; omega)⟩
        obtain ⟨b, h1, -⟩ := hlike.2 i y hy
        obtain rfl : _ = x := Option.some.inj (h1.symm.trans hi)
        have q := hdat y (List.mem_of_getElem? hy)
        exact q.eff hEw fun q' hq e => (q.tag hq).ne (own_tag HR.out q' e).2.2 (by decide) rfl
      · rw [hl]; exact hfew
      · rw [hl]; exact hcnt
      · intro i x hi
        obtain ⟨y, hy⟩ : ∃ y, its[i]? = some y := ⟨_, List.getElem?_eq_getElem (by have := (List.getElem?_eq_some_iff.1 hi).1; have := hlike.1; omega)⟩
        obtain ⟨b, h1, -⟩ := hlike.2 i y hy
        obtain rfl : _ = x := Option.some.inj (h1.symm.trans hi)
        exact hids i y hy
/-- How many wait, and what was told: nothing. -/
theorem done_any (h : Pt w O X Y host its S) : Calls Try.prog 11 #[.pointer (some ⟨X, 0, none⟩)] w fun e' w' => e' = .returned (.slice none 0 0) ∧ Pt w' O X Y host its S ∧ Eff O w w' := by
  obtain ⟨hX, ⟨v, hm, hr, hO⟩, hdat, htm, hfew, hcnt, hids⟩ := h
  have x3 := hm.cell 3
  have f3 := hm.free 3
  go_enter Try.func11, Try.ntmps11
  go_wp2
  have E1 : Eff (fun k => k = X) w (w.setCell ⟨X, 3, none⟩ (.slice none 0 0)) := Eff.setCell (S := fun k => k = X) (Eff.refl _ _) (p := ⟨X, 3, none⟩) rfl _
  refine bodyPost_ret (v := .slice none 0 0) (by simp [results, Try.results11, go_sem]) rfl ⟨rfl, ⟨hX, ⟨v, hm.put 3 _, owns_eff hr E1 fun k hk e => (own_tag hr k hk).2.2.ne (mem_tag hm) (by decide) e, hO⟩, fun x hx => (hdat x hx).eff E1 fun k hk e => ((hdat x hx).tag hk).ne (mem_tag hm) (by decide) e, htm.effT E1 fun k e => ⟨_, e ▸ mem_tag hm, by decide, by decide⟩, hfew, hcnt, hids⟩, E1.mono fun k _ e => e ▸ hX⟩
theorem u64_info : (Try.prog.info? 29).map (fun i => (i.zero, i.size, i.bytes)) = some (some (.int .u64 0), 1, 8) := by kernel_rfl
def idsV (its : List It) : List Value := its.map fun x => .int .u64 (x.id : Nat)
set_option maxHeartbeats 4000000 in
theorem waiting_any (h : Pt w O X Y host its S) (hn : its.length ≤ 4) : Calls Try.prog 10 #[.pointer (some ⟨X, 0, none⟩)] w fun e' w' => ∃ v, e' = .returned v ∧ w'.ownsRow w.heap.size 29 1 v its.length (idsV its) ∧ Below w.heap.size w w' := by
  obtain ⟨i0, hi, hz0, hz1, hz2⟩ := info_parts u64_info
  obtain ⟨hX, ⟨v, hm, hr, hO⟩, hdat, htm, hfew, hcnt, hids⟩ := h
  obtain ⟨A, cv, rfl, hc1, hc2⟩ := own_form hr
  have hnx : (its.length : Int) ≤ 4 := by omega
  have x2 := hm.cell 2
  have hI : ∀ k, idsV (its.take k) = (idsV its).take k := fun k => by simp [idsV, List.map_take]
  have hIL : (idsV its).length = its.length := by simp [idsV]
  have hfin := fun (k : Nat) (x : It) (hx : its[k]? = some x) => show (idsV its).take (k + 1) = (idsV its).take k ++ [.int .u64 (x.id : Nat)] from by
    rw [List.take_add_one, show (idsV its)[k]? = some (.int .u64 (x.id : Nat)) by simp [idsV, hx]]
    rfl
  clear hI
  have HR := Lib.hid hr
  have HF := Lib.hid hfin
  generalize hN : its.length = N at *
  have HN := Lib.hid hN
  have HIL := Lib.hid hIL
  clear hN hr hfin hIL
  go_enter Try.func10, Try.ntmps10
  go_wp2
  go_loopw [3, 11] (fun l i wr => ∃ (k : Nat) (vl : Value), i = .int .i64 k ∧ vl = l ∧ k ≤ N ∧ wr.ownsRow w.heap.size 29 1 vl k ((idsV its).take k) ∧ Below w.heap.size w wr) (fun _ i _ => N - (intOf i).toNat)
  case atStart => exact ⟨0, _, rfl, rfl, Nat.zero_le _, by simpa using World.ownsRow_nil _ _ _ _, Below.refl _ _⟩
  case round =>
    obtain ⟨k, vl, rfl, rfl, hk, hvl, hbw⟩ := hrel
    by_cases hkN : k < N
    · have hkx : (k : Int) < (N : Int) := by omega
      obtain ⟨x, hx⟩ : ∃ x, its[k]? = some x := ⟨_, List.getElem?_eq_getElem (by have := HN.out; omega)⟩
      have hE := HF.out k x hx
      obtain ⟨id, c, vd, d, due⟩ := x
      have hxd : OwnR w O 5 vd d.length (bs d) := hdat _ (List.mem_of_getElem? hx)
      obtain ⟨Ad, cd, rfl, _, _⟩ := hxd.form
      have hrw := owns_below HR.out hbw
      obtain ⟨g, rfl⟩ : ∃ g, A = some ⟨g, 0, none⟩ := by
        rcases hrw.2 with ⟨hv, h1⟩ | ⟨g, cap, cur, hv, _⟩
        · omega
        · simp only [Value.slice.injEq] at hv
          exact ⟨g, hv.1⟩
      have r0 : wr.cell? ⟨g, k * 10, none⟩ = some (.int .u64 (id : Nat)) := own_cells hrw (k * 10 + 0) _ (rowW_at its k 0 _ hx (by omega))
      have r1 : wr.cell? ⟨g, k * 10 + 1, none⟩ = some (.int .i64 c.kind) := own_cells hrw (k * 10 + 1) _ (rowW_at its k 1 _ hx (by omega))
      have r2 : wr.cell? ⟨g, k * 10 + 2, none⟩ = some (.int .i64 c.at') := own_cells hrw (k * 10 + 2) _ (rowW_at its k 2 _ hx (by omega))
      have r3 : wr.cell? ⟨g, k * 10 + 3, none⟩ = some (.int .i64 c.n) := own_cells hrw (k * 10 + 3) _ (rowW_at its k 3 _ hx (by omega))
      have r4 : wr.cell? ⟨g, k * 10 + 4, none⟩ = some (.slice Ad d.length cd) := own_cells hrw (k * 10 + 4) _ (rowW_at its k 4 _ hx (by omega))
      have r5 : wr.cell? ⟨g, k * 10 + 5, none⟩ = some (.int .u64 (c.key : Nat)) := own_cells hrw (k * 10 + 5) _ (rowW_at its k 5 _ hx (by omega))
      have r6 : wr.cell? ⟨g, k * 10 + 6, none⟩ = some (.int .u64 (c.new : Nat)) := own_cells hrw (k * 10 + 6) _ (rowW_at its k 6 _ hx (by omega))
      have r7 : wr.cell? ⟨g, k * 10 + 7, none⟩ = some (.int .i64 c.typ) := own_cells hrw (k * 10 + 7) _ (rowW_at its k 7 _ hx (by omega))
      have r8 : wr.cell? ⟨g, k * 10 + 8, none⟩ = some (.bool c.force) := own_cells hrw (k * 10 + 8) _ (rowW_at its k 8 _ hx (by omega))
      have r9 : wr.cell? ⟨g, k * 10 + 9, none⟩ = some (.bool due) := own_cells hrw (k * 10 + 9) _ (rowW_at its k 9 _ hx (by omega))
      obtain ⟨Al, cl, rfl, _, _⟩ := own_form hvl
      obtain ⟨W1, e1, mb1, b1⟩ : ∃ W1, W1 = wr.alloc (.cells #[.int .u64 (id : Nat), .int .i64 c.kind, .int .i64 c.at', .int .i64 c.n, .slice Ad d.length cd, .int .u64 (c.key : Nat), .int .u64 (c.new : Nat), .int .i64 c.typ, .bool c.force, .bool due] 52) ∧ Mem W1 wr.heap.size 52 #[.int .u64 (id : Nat), .int .i64 c.kind, .int .i64 c.at', .int .i64 c.n, .slice Ad d.length cd, .int .u64 (c.key : Nat), .int .u64 (c.new : Nat), .int .i64 c.typ, .bool c.force, .bool due] ∧ Below wr.heap.size wr W1 := ⟨_, rfl, Mem.new wr _ _, (Below.refl _ wr).alloc (Nat.le_refl _) _⟩
      go_upto_region 5 with (fail)
      rw [← e1]
      clear e1 r0 r1 r2 r3 r4 r5 r6 r7 r8 r9
      have q0 := mb1.cell 0
      have hvl1 := owns_below hvl b1
      have bA : Below W1.heap.size W1 (W1.alloc (.cells #[.int .u64 (id : Nat)] 29)) := (Below.refl _ W1).alloc (Nat.le_refl _) _
      have hvlA := owns_below hvl1 bA
      have bN1 : k + 1 ≤ maxLen := by unfold maxLen; omega
      have bN2 : (k + 1) * 8 ≤ 140737488355328 := by omega
      have bB := hbw.trans ((b1.trans (bA.mono b1.size)).mono hbw.size)
      go_wp2_with (at_builtin; (refine wpList_append_at _ rfl (.tmp 15) (.tmp 18) _ rfl w.heap.size 29 i0 _ 1 8 Try.underlying41 hi hz0 hz1 hz2 rfl (by decide) (.slice Al k cl) k ((idsV its).take k) rfl hvlA ⟨W1.heap.size, 0, none⟩ 1 1 [.int .u64 (id : Nat)] rfl rfl (cells_newN (Mem.new W1 _ _)) (by intro u hu; simp at hu; rcases hu with rfl; rfl) bN1 bN2 bB.size ?_); intro v9 w9 ho9 hg9 hat9; have b9 := below_own bB hg9 bB.size (fun q hq => (own_tag hvlA q hq).1); obtain ⟨A9, c9, rfl, _, _⟩ := own_form ho9)
      exact ⟨⟨k + 1, _, by simp, rfl, by omega, by rw [hE]; exact ho9, b9⟩, by simp [intOf]; omega⟩
    · obtain rfl : k = N := by omega
      go_wp2
      rw [List.take_of_length_le (by rw [HIL.out]; exact Nat.le_refl _)] at hvl
      exact bodyPost_ret (v := vl) (by simp [results, Try.results10, go_sem]) rfl ⟨vl, rfl, hvl, hbw⟩
end
end Nw
end Go.Proofs.Ytoogmdokcndieaa
