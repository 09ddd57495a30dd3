/- Package witness: Encode, Decode: contracts. -/
import Derived.Test.YtccknplmcnahbaaWt1
import Derived.Test.YtccknplmcnahbaaCalmT
namespace Go.Proofs.Ytccknplmcnahbaa
open Go.ChangeShapes Go.WideShapes Go.ChangeAt Go.RowKit Go.Lib
set_option linter.unusedVariables false
set_option linter.unusedSimpArgs false
set_option maxRecDepth 100000
namespace Wt
/-- A register's bytes. -/
def encS (e p m : Nat) : List UInt8 := be e 8 ++ be p 1 ++ be m 1
theorem encS_len (e p m : Nat) : (encS e p m).length = 10 := by simp [encS]
theorem be_one (p : Nat) : be p 1 = [UInt8.ofNat p] := by simp [be, beTo]
def gb (l : List UInt8) (i : Nat) : Nat := (l[i]?.getD 0).toNat
/-- The register that bytes are. -/
def decR (l : List UInt8) : Option (Nat × Nat × Nat) := if l.length = 10 ∧ okR (gb l 8 : Nat) (gb l 9 : Nat) = true then some (beVal (l.take 8), gb l 8, gb l 9) else none
theorem beVal_inj : ∀ (k : Nat) (a b : List UInt8), a.length = k → b.length = k → beVal a = beVal b → a = b := by
  intro k
  induction k with
  | zero => intro a b ha hb _; rw [List.eq_nil_of_length_eq_zero ha, List.eq_nil_of_length_eq_zero hb]
  | succ k ih =>
    intro a b ha hb h
    have hna : a ≠ [] := by rintro rfl; simp at ha
    have hnb : b ≠ [] := by rintro rfl; simp at hb
    have ea := List.dropLast_concat_getLast hna
    have eb := List.dropLast_concat_getLast hnb
    rw [← ea, ← eb, beVal_snoc, beVal_snoc] at h
    have h1 := (a.getLast hna).toNat_lt
    have h2 := (b.getLast hnb).toNat_lt
    have e1 : beVal a.dropLast = beVal b.dropLast := by omega
    have e2 : (a.getLast hna).toNat = (b.getLast hnb).toNat := by omega
    rw [← ea, ← eb, ih _ _ (by rw [List.length_dropLast]; omega) (by rw [List.length_dropLast]; omega) e1, UInt8.toNat_inj.1 e2]
theorem be_val (k : Nat) (l : List UInt8) (h : l.length = k) : be (beVal l) k = l :=
  beVal_inj k _ _ (by simp) h (by rw [beVal_be, Nat.mod_eq_of_lt (beVal_lt k l h)])
theorem dec_enc (e p m : Nat) (he : e < 18446744073709551616) (hp : p < 256) (hm : m < 256) (hok : okR (p : Nat) (m : Nat) = true) : decR (encS e p m) = some (e, p, m) := by
  have h8 : (be e 8 ++ be p 1).length = 9 := by simp
  have e8 : gb (encS e p m) 8 = p := by
    unfold gb encS
    rw [List.getElem?_append_left (by omega), List.getElem?_append_right (by simp), be_one]
    simp
    omega
  have e9 : gb (encS e p m) 9 = m := by
    unfold gb encS
    rw [List.getElem?_append_right (by omega), h8, be_one]
    simp
    omega
  have et : beVal ((encS e p m).take 8) = e := by
    unfold encS
    rw [List.append_assoc, List.take_append_of_le_length (by simp), List.take_of_length_le (by simp), beVal_be]
    exact Nat.mod_eq_of_lt he
  unfold decR
  rw [e8, e9, et, if_pos ⟨encS_len e p m, hok⟩]
theorem gb_lt (l : List UInt8) (i : Nat) : gb l i < 256 := by unfold gb; exact (l[i]?.getD 0).toNat_lt
theorem enc_dec {l : List UInt8} {e p m : Nat} (h : decR l = some (e, p, m)) : encS e p m = l ∧ l.length = 10 ∧ okR (p : Nat) (m : Nat) = true ∧ e < 18446744073709551616 := by
  unfold decR at h
  split at h
  · rename_i hc
    obtain ⟨hl, hk⟩ := hc
    simp only [Option.some.injEq, Prod.mk.injEq] at h
    obtain ⟨rfl, rfl, rfl⟩ := h
    refine ⟨?_, hl, hk, Nat.lt_of_lt_of_le (beVal_lt' 8 _ (by simp; omega)) (by decide)⟩
    unfold encS
    rw [be_val 8 _ (by simp; omega), be_one, be_one]
    match l, hl with
    | [a0, a1, a2, a3, a4, a5, a6, a7, a8, a9], _ => simp [gb]
  · cases h
theorem okR_range {p m : Int} (h : okR p m = true) : 0 ≤ p ∧ p ≤ 1 ∧ 1 ≤ m ∧ m ≤ 3 := by
  have := of_decide_eq_true h
  omega
section
variable {w : World}
set_option maxHeartbeats 2000000 in
theorem encode_any (e p m : Nat) (he : e < 18446744073709551616) (hp : p < 256) (hm : m < 256) (w : World) : Calls Try.prog 8 #[.agg #[.int .u64 (e : Nat), .int .i64 (p : Nat), .int .i64 (m : Nat)]] w fun e' w' => ∃ v, e' = .returned v ∧ w'.ownsRow w.heap.size 5 1 v 10 (bs (encS e p m)) ∧ Below w.heap.size w w' := by
  have hB := (Below.refl _ w).alloc (Nat.le_refl _) (.cells #[.int .u64 (e : Nat), .int .i64 (p : Nat), .int .i64 (m : Nat)] 24)
  have hM := Mem.new w 24 #[.int .u64 (e : Nat), .int .i64 (p : Nat), .int .i64 (m : Nat)]
  have c1 : ∀ W, Below w.heap.size w W → Calls Try.prog 20 #[.slice none 0 0, .int .u64 (e : Nat), .int .i64 8] W fun e' w' => ∃ v', e' = .returned v' ∧ Sl w' w'.heap.size v' (be e 8).length (bs (be e 8)) ∧ Below W.heap.size W w' := fun W hW => put_b (.slice none 0 0) [] _ 8 e 8 rfl rfl W Sl.nil_ he (by simp) (by decide)
  have c2 : ∀ W v, Sl W W.heap.size v (be e 8).length (bs (be e 8)) → Calls Try.prog 20 #[v, .int .u64 (p : Nat), .int .i64 1] W fun e' w' => ∃ v', e' = .returned v' ∧ Sl w' w'.heap.size v' (be e 8 ++ be p 1).length (bs (be e 8 ++ be p 1)) ∧ Below W.heap.size W w' := fun W v hv => put_b v _ _ 1 p 1 rfl rfl W hv (by omega) (by simp) (by decide)
  have c3 : ∀ W v, Sl W W.heap.size v (be e 8 ++ be p 1).length (bs (be e 8 ++ be p 1)) → Calls Try.prog 20 #[v, .int .u64 (m : Nat), .int .i64 1] W fun e' w' => ∃ v', e' = .returned v' ∧ w'.ownsRow W.heap.size 5 1 v' 10 (bs (encS e p m)) ∧ Below W.heap.size W w' := fun W v hv => (put_any v _ m 1 W hv (by omega) (by simp) (by decide) (by decide)).mono fun e' w' ⟨v', h1, h2, h3⟩ => ⟨v', h1, by
    have e1 : putS (be e 8 ++ be p 1) m 1 = encS e p m := by unfold putS; rw [if_neg (by decide)]; rfl
    rw [e1, encS_len] at h2
    exact h2, h3⟩
  have HE := Lib.hid he
  have hpx : (p : Int) ≤ 255 := by omega
  have hmx : (m : Int) ≤ 255 := by omega
  clear he
  go_enter Try.func8, Try.ntmps8
  go_wp2_with (first
    | (go_at_call 20; (with_reducible refine (c1 _ hB).mono ?_); rintro e' w1 ⟨v1, rfl, h1, b1⟩; have B1 := hB.trans (b1.mono hB.size); have m1 := hM.below b1 hM.lt; have z1 := m1.cell 1)
    | (go_at_call 20; (with_reducible refine (c2 _ _ h1).mono ?_); rintro e' w2 ⟨v2, rfl, h2, b2⟩; have B2 := B1.trans (b2.mono B1.size); have m2 := m1.below b2 m1.lt; have z2 := m2.cell 2)
    | (go_at_call 20; (with_reducible refine (c3 _ _ h2).mono ?_); rintro e' w3 ⟨v3, rfl, h3, b3⟩; have B3 := B2.trans (b3.mono B2.size)))
  go_ret
  exact ⟨v3, rfl, owns_mono h3 B2.size, B3⟩
def zr : Array Value := #[.int .u64 0, .int .i64 0, .int .i64 0]
def decV (o : Option (Nat × Nat × Nat)) : Value := match o with
  | none => .tuple #[.agg #[.int .u64 0, .int .i64 0, .int .i64 0], .int .i64 2]
  | some r => .tuple #[.agg #[.int .u64 (r.1 : Nat), .int .i64 (r.2.1 : Nat), .int .i64 (r.2.2 : Nat)], .int .i64 0]
theorem put_any' (W : World) (g : Nat) (ROW : Array Value) : ∃ W2, W2 = W.setRow g ROW ∧ (∀ T cs, Mem W g T cs → Mem W2 g T ROW) ∧ (∀ k T cs, k ≠ g → Mem W k T cs → Mem W2 k T cs) ∧ ∀ B o, Below B o W → B ≤ g → Below B o W2 :=
  ⟨_, rfl, fun T cs h => h.row _, fun k T cs hk h => h.rowFar hk _, fun B o h hg => below_setRow h hg _⟩
set_option maxHeartbeats 4000000 in
theorem decode_any (v : Value) (l : List UInt8) (w : World) (hv : Sl w w.heap.size v l.length (bs l)) : Calls Try.prog 7 #[v] w fun e' w' => e' = .returned (decV (decR l)) ∧ Below w.heap.size w w' := by
  obtain ⟨A, c, rfl, hc1, hc2⟩ := hv.form
  unfold maxLen at hc2
  have hA0 := (Below.refl _ w).alloc (Nat.le_refl _) (.cells #[.int .u64 0, .int .i64 0, .int .i64 0] 24)
  have hM := Mem.new w 24 #[.int .u64 0, .int .i64 0, .int .i64 0]
  by_cases h10 : l.length = 10
  · have e1 : decR l = if okR (gb l 8 : Nat) (gb l 9 : Nat) = true then some (beVal (l.take 8), gb l 8, gb l 9) else none := by
      unfold decR
      by_cases hk : okR (gb l 8 : Nat) (gb l 9 : Nat) = true
      · rw [if_pos ⟨h10, hk⟩, if_pos hk]
      · rw [if_neg (fun h => hk h.2), if_neg hk]
    obtain ⟨b, off, rfl, hb, hcell⟩ := hv.at_ (by omega)
    have hg : ∀ W, Below w.heap.size w W → Calls Try.prog 19 #[.slice (some ⟨b, off, none⟩) l.length c, .int .i64 0, .int .i64 8] W fun e' w' => e' = .returned (.tuple #[.int .u64 (beVal (l.take 8) : Nat), .bool true]) ∧ W = w' := fun W hW => get_b _ l 0 8 0 8 rfl rfl W (hv.now hW) (by omega) (by decide) (by decide) (by omega)
    have x8 : ∀ W, Below w.heap.size w W → W.cell? ⟨b, off + 8, none⟩ = some (.int .u8 (gb l 8 : Nat)) := fun W hW => (hW.cell (p := ⟨b, off + 8, none⟩) hb).trans (hcell 8 _ (by rw [bs_get (by omega)]; unfold gb; rw [List.getElem?_eq_getElem (by omega)]; rfl))
    have x9 : ∀ W, Below w.heap.size w W → W.cell? ⟨b, off + 9, none⟩ = some (.int .u8 (gb l 9 : Nat)) := fun W hW => (hW.cell (p := ⟨b, off + 9, none⟩) hb).trans (hcell 9 _ (by rw [bs_get (by omega)]; unfold gb; rw [List.getElem?_eq_getElem (by omega)]; rfl))
    have h8 := gb_lt l 8
    have h9 := gb_lt l 9
    clear hcell
    rw [e1]
    clear e1
    have hbe : beVal (l.take 8) < 18446744073709551616 := Nat.lt_of_lt_of_le (beVal_lt' 8 _ (by simp; omega)) (by decide)
    have HE := Lib.hid hbe
    clear hbe
    generalize beVal (l.take 8) = e at *
    generalize gb l 8 = p at *
    generalize gb l 9 = m at *
    have hl10 : (l.length : Int) = 10 := by omega
    have hr := fun W => right_any e (p : Nat) (m : Nat) W
    have hpx : (p : Int) ≤ 255 := by omega
    have hmx : (m : Int) ≤ 255 := by omega
    generalize l.length = n at *
    subst h10
    go_enter Try.func7, Try.ntmps7
    go_wp2_with (first
      | (go_at_call 19; (with_reducible refine (hg _ hA0).mono ?_); rintro e' w1 ⟨rfl, rfl⟩))
    generalize hw1 : w.alloc (.cells #[.int .u64 0, .int .i64 0, .int .i64 0] 24) = w1 at *
    have hS1 : w1.heap.size = w.heap.size + 1 := by rw [← hw1]; simp
    apply calm_tail 11 [.is (.int .u64 (e : Nat)), .is (.slice (some ⟨b, off, none⟩) 10 c), .is (.pointer (some ⟨b, off + 8, none⟩)), .is (.int .u8 (p : Nat)), .is (.int .i64 (p : Nat)), .is (.slice (some ⟨b, off, none⟩) 10 c), .is (.pointer (some ⟨b, off + 9, none⟩)), .is (.int .u8 (m : Nat)), .is (.int .i64 (m : Nat)), .is (.agg #[.int .u64 (e : Nat), .int .i64 (p : Nat), .int .i64 (m : Nat)]), .of (fun u W => ∃ g, u = .pointer (some ⟨g, 0, none⟩) ∧ w.heap.size + 1 ≤ g ∧ Mem W g 24 #[.int .u64 0, .int .i64 0, .int .i64 0]) (fun u W W' hb ⟨g, hu, h1, h2⟩ => ⟨g, hu, h1, Mem.below h2 hb (Mem.lt h2)⟩)] [[], [], [1], [2], [3], [], [5], [6], [7], [0, 4, 8], []] (by kernel_rfl) (by kernel_rfl) (by kernel_rfl) rfl
    intro f a1 ha1
    simp only [List.take_succ_cons, List.take_zero, putL, Act.put, List.setIfInBounds_toArray, List.set_cons_succ, List.set_cons_zero] at ha1
    subst ha1
    refine ⟨?_, ?_⟩
    · refine AllCalm.cons (fun W hB hd => ?_) ?_
      · go_wp2_with (fail)
        exact CalmQ.mk rfl _ rfl (Below.refl _ _) rfl
      refine AllCalm.cons (fun W hB hd => ?_) ?_
      · go_wp2_with (fail)
        exact CalmQ.mk rfl _ rfl (Below.refl _ _) rfl
      refine AllCalm.cons (fun W hB hd => ?_) ?_
      · obtain ⟨h1, -⟩ := hd
        have h1 : f 1 = _ := h1
        rw [h1]
        go_wp2_with (fail)
        exact CalmQ.mk rfl _ rfl (Below.refl _ _) rfl
      refine AllCalm.cons (fun W hB hd => ?_) ?_
      · obtain ⟨h2, -⟩ := hd
        have h2 : f 2 = _ := h2
        rw [h2]
        have y8 := x8 W (hA0.trans (hB.mono hA0.size))
        go_wp2_with (fail)
        exact CalmQ.mk rfl _ rfl (Below.refl _ _) rfl
      refine AllCalm.cons (fun W hB hd => ?_) ?_
      · obtain ⟨h3, -⟩ := hd
        have h3 : f 3 = _ := h3
        rw [h3]
        go_wp2_with (fail)
        exact CalmQ.mk rfl _ rfl (Below.refl _ _) rfl
      refine AllCalm.cons (fun W hB hd => ?_) ?_
      · go_wp2_with (fail)
        exact CalmQ.mk rfl _ rfl (Below.refl _ _) rfl
      refine AllCalm.cons (fun W hB hd => ?_) ?_
      · obtain ⟨h5, -⟩ := hd
        have h5 : f 5 = _ := h5
        rw [h5]
        go_wp2_with (fail)
        exact CalmQ.mk rfl _ rfl (Below.refl _ _) rfl
      refine AllCalm.cons (fun W hB hd => ?_) ?_
      · obtain ⟨h6, -⟩ := hd
        have h6 : f 6 = _ := h6
        rw [h6]
        have y9 := x9 W (hA0.trans (hB.mono hA0.size))
        go_wp2_with (fail)
        exact CalmQ.mk rfl _ rfl (Below.refl _ _) rfl
      refine AllCalm.cons (fun W hB hd => ?_) ?_
      · obtain ⟨h7, -⟩ := hd
        have h7 : f 7 = _ := h7
        rw [h7]
        go_wp2_with (fail)
        exact CalmQ.mk rfl _ rfl (Below.refl _ _) rfl
      refine AllCalm.cons (fun W hB hd => ?_) ?_
      · obtain ⟨h0, h4, h8, -⟩ := hd
        have h0 : f 0 = _ := h0
        have h4 : f 4 = _ := h4
        have h8 : f 8 = _ := h8
        rw [h0, h4, h8]
        go_wp2_with (fail)
        exact CalmQ.mk rfl _ rfl (Below.refl _ _) rfl
      refine AllCalm.cons (fun W hB hd => ?_) ?_
      · go_wp2_with (fail)
        exact CalmQ.mk rfl _ rfl ((Below.refl _ W).alloc (Nat.le_refl _) _) ⟨_, rfl, by have := hB.size; omega, Mem.new _ _ _⟩
      exact AllCalm.nil
    · intro W hB hT
      obtain ⟨h0, h1, h2, h3, h4, h5, h6, h7, h8, h9, h10, -⟩ := hT
      have h0 : f 0 = _ := h0
      have h1 : f 1 = _ := h1
      have h2 : f 2 = _ := h2
      have h3 : f 3 = _ := h3
      have h4 : f 4 = _ := h4
      have h5 : f 5 = _ := h5
      have h6 : f 6 = _ := h6
      have h7 : f 7 = _ := h7
      have h8 : f 8 = _ := h8
      have h9 : f 9 = _ := h9
      rw [h0, h1, h2, h3, h4, h5, h6, h7, h8, h9]
      clear h0 h1 h2 h3 h4 h5 h6 h7 h8 h9
      simp only [List.drop_succ_cons, List.drop_zero]
      obtain ⟨g, hgv, hg1, hgm⟩ := h10
      rw [hgv]
      have hM1 := hM.below hB (by omega)
      have hA1 := hA0.trans (hB.mono hA0.size)
      obtain ⟨w2, e2, r2, o2, b2⟩ := put_any' W g #[.int .u64 (e : Nat), .int .i64 (p : Nat), .int .i64 (m : Nat)]
      have m2 := r2 _ _ hgm
      have z2 := o2 w.heap.size _ _ (by omega) hM1
      have B2 := b2 _ _ hA1 (by omega)
      subst e2
      have hrw := hr (W.setRow g #[.int .u64 (e : Nat), .int .i64 (p : Nat), .int .i64 (m : Nat)])
      cases hok : okR (p : Nat) (m : Nat) with
      | true =>
        rw [hok] at hrw
        go_wp2_with (first
          | (refine wpList_store_row rfl 24 (.tmp 6) (.tmp 25) rfl g #[.int .u64 (e : Nat), .int .i64 (p : Nat), .int .i64 (m : Nat)] rfl rfl 24 #[.int .u64 0, .int .i64 0, .int .i64 0] hgm (by kernel_rfl) (by kernel_rfl) (by kernel_rfl) ?_)
          | (refine wpList_load_row rfl 24 (.tmp 6) rfl g rfl 24 #[.int .u64 (e : Nat), .int .i64 (p : Nat), .int .i64 (m : Nat)] (0, 0) _ m2 Try.underlying24 rfl (by kernel_rfl) ?_)
          | (go_at_call 18; (with_reducible refine hrw.mono ?_); rintro e' w3 ⟨rfl, hb3⟩; have m3 := m2.below hb3 m2.lt; have z3 := z2.below hb3 z2.lt; have B3 := B2.trans (hb3.mono B2.size))
          | (refine wpList_load_row rfl 24 (.tmp 6) rfl g rfl 24 #[.int .u64 (e : Nat), .int .i64 (p : Nat), .int .i64 (m : Nat)] (0, 0) _ m3 Try.underlying24 rfl (by kernel_rfl) ?_)
          | (refine wpList_store_row rfl 24 (.tmp 2) (.tmp 30) rfl w.heap.size #[.int .u64 (e : Nat), .int .i64 (p : Nat), .int .i64 (m : Nat)] rfl rfl 24 #[.int .u64 0, .int .i64 0, .int .i64 0] z3 (by kernel_rfl) (by kernel_rfl) (by kernel_rfl) ?_))
        all_goals
          try simp only [Exit.inBlock, Exit.then]
          refine bodyPost_ret (v := decV (some (e, p, m))) ?_ rfl ⟨rfl, below_setRow B3 (Nat.le_refl _) _⟩
          exact (results_cell2 (p := 2) (a := 3) (ty := 24) rfl _ _ w.heap.size 24 _ (0, 0) _ rfl (z3.row #[.int .u64 (e : Nat), .int .i64 (p : Nat), .int .i64 (m : Nat)]) Try.underlying24 rfl (by kernel_rfl)).trans rfl
      | false =>
        rw [hok] at hrw
        go_wp2_with (first
          | (refine wpList_store_row rfl 24 (.tmp 6) (.tmp 25) rfl g #[.int .u64 (e : Nat), .int .i64 (p : Nat), .int .i64 (m : Nat)] rfl rfl 24 #[.int .u64 0, .int .i64 0, .int .i64 0] hgm (by kernel_rfl) (by kernel_rfl) (by kernel_rfl) ?_)
          | (refine wpList_load_row rfl 24 (.tmp 6) rfl g rfl 24 #[.int .u64 (e : Nat), .int .i64 (p : Nat), .int .i64 (m : Nat)] (0, 0) _ m2 Try.underlying24 rfl (by kernel_rfl) ?_)
          | (go_at_call 18; (with_reducible refine hrw.mono ?_); rintro e' w3 ⟨rfl, hb3⟩; have m3 := m2.below hb3 m2.lt; have z3 := z2.below hb3 z2.lt; have B3 := B2.trans (hb3.mono B2.size))
          | (refine wpList_store_row rfl 24 (.tmp 2) (.tmp 29) rfl w.heap.size #[.int .u64 0, .int .i64 0, .int .i64 0] rfl rfl 24 #[.int .u64 0, .int .i64 0, .int .i64 0] z3 (by kernel_rfl) (by kernel_rfl) (by kernel_rfl) ?_))
        all_goals
          try simp only [Exit.inBlock, Exit.then]
          refine bodyPost_ret (v := decV none) ?_ rfl ⟨rfl, below_setRow B3 (Nat.le_refl _) _⟩
          exact (results_cell2 (p := 2) (a := 3) (ty := 24) rfl _ _ w.heap.size 24 _ (0, 0) _ rfl (z3.row #[.int .u64 0, .int .i64 0, .int .i64 0]) Try.underlying24 rfl (by kernel_rfl)).trans rfl
  · have e1 : decR l = none := by unfold decR; rw [if_neg (fun h => h10 h.1)]
    have h10x : ¬ (l.length : Int) = 10 := by omega
    have h10b : ((l.length : Int) != 10) = true := bne_iff_ne.2 h10x
    rw [e1]
    go_enter Try.func7, Try.ntmps7
    go_wp2_with (refine wpList_store_row rfl 24 (.tmp 2) (.tmp 10) rfl w.heap.size #[.int .u64 0, .int .i64 0, .int .i64 0] rfl rfl 24 #[.int .u64 0, .int .i64 0, .int .i64 0] hM (by kernel_rfl) (by kernel_rfl) (by kernel_rfl) ?_)
    try simp only [Exit.inBlock, Exit.then]
    refine bodyPost_ret (v := decV none) ?_ rfl ⟨rfl, below_setRow hA0 (Nat.le_refl _) _⟩
    exact (results_cell2 (p := 2) (a := 3) (ty := 24) rfl _ _ w.heap.size 24 _ (0, 0) _ rfl (hM.row #[.int .u64 0, .int .i64 0, .int .i64 0]) Try.underlying24 rfl (by kernel_rfl)).trans rfl
end
end Wt
end Go.Proofs.Ytccknplmcnahbaa
