/- The document's network: what lies in memory; New, At: contracts. -/
import Derived.Test.YtmlimmcaidkoeaaNt8
namespace Go.Proofs.Ytmlimmcaidkoeaa
open Go.ChangeShapes Go.WideShapes Go.ChangeAt Go.RowKit Go.Lib
set_option linter.unusedVariables false
/-- A packet of the document's: from, to, bytes. -/
structure Ab where
  fr : Int
  to : Int
  l : List UInt8
def Pk.ab (p : Pk) : Ab := ⟨p.fr, p.to, p.l⟩
def str (l : List UInt8) : Value := .string ⟨l.toArray⟩
def Ab.cells (p : Ab) : List Value := [.int .i64 p.fr, .int .i64 p.to, str p.l]
def Ab.val (p : Ab) : Value := .agg #[.int .i64 p.fr, .int .i64 p.to, str p.l]
def ab0 : Value := .agg #[.int .i64 0, .int .i64 0, .string .empty]
def rflat (L : List Ab) : List Value := L.flatMap Ab.cells
theorem rflat_len (L : List Ab) : (rflat L).length = L.length * 3 := by
  induction L with
  | nil => rfl
  | cons p L ih => simp only [rflat, List.flatMap_cons, List.length_append, List.length_cons] at ih ⊢; rw [ih]; simp [Ab.cells]; omega
theorem rflat_app (L K : List Ab) : rflat (L ++ K) = rflat L ++ rflat K := by simp [rflat]
theorem rflat_snoc (L : List Ab) (p : Ab) : rflat (L ++ [p]) = rflat L ++ p.cells := by simp [rflat]
theorem rflat_at (L : List Ab) (i : Nat) (h : i < L.length) (j : Nat) (hj : j < 3) : (rflat L)[3 * i + j]? = (L[i].cells)[j]? := by
  induction L generalizing i with
  | nil => simp at h
  | cons p L ih =>
    have e : rflat (p :: L) = p.cells ++ rflat L := rfl
    rw [e]
    cases i with
    | zero => rw [List.getElem?_append_left (by simp [Ab.cells]; omega)]; simp
    | succ i =>
      rw [List.getElem?_append_right (by simp [Ab.cells]; omega)]
      have := ih i (by simpa using h)
      simp only [List.getElem_cons_succ]
      rw [← this]
      congr 1
      simp [Ab.cells]; omega
theorem rflat_take (L : List Ab) (i : Nat) : (rflat L).take (3 * i) = rflat (L.take i) := by
  induction L generalizing i with
  | nil => simp [rflat]
  | cons p L ih =>
    have e : rflat (p :: L) = p.cells ++ rflat L := rfl
    cases i with
    | zero => simp [rflat]
    | succ i =>
      rw [e, List.take_succ_cons, show rflat (p :: L.take i) = p.cells ++ rflat (L.take i) from rfl, ← ih i, List.take_append]
      rw [List.take_of_length_le (by simp [Ab.cells]; omega)]
      congr 2
theorem rflat_drop (L : List Ab) (i : Nat) : (rflat L).drop (3 * i) = rflat (L.drop i) := by
  induction L generalizing i with
  | nil => simp [rflat]
  | cons p L ih =>
    have e : rflat (p :: L) = p.cells ++ rflat L := rfl
    cases i with
    | zero => simp
    | succ i =>
      rw [e, List.drop_succ_cons, ← ih i, List.drop_append]
      rw [List.drop_of_length_le (by simp [Ab.cells]; omega), List.nil_append]
      congr 1
theorem rflat_one (L : List Ab) : ∀ u ∈ rflat L, u.oneCell' = true := by
  intro u hu
  simp only [rflat, List.mem_flatMap] at hu
  obtain ⟨p, hp, hu⟩ := hu
  simp only [Ab.cells, List.mem_cons, List.not_mem_nil, or_false] at hu
  rcases hu with rfl | rfl | rfl <;> rfl
/-- The document's net in block R, its packets in u's row. -/
structure RefInv (w : World) (B R : Nat) (u : Value) (h : Nat) (M : List Ab) (s : Nat) : Prop where
  base : B ≤ R
  mem : Mem w R 39 #[.int .i64 (h : Nat), u, .int .i64 (s : Nat)]
  row : w.ownsRow B 46 3 u M.length (rflat M)
  few : M.length ≤ 4096
  sizes : ∀ p ∈ M, p.l.length ≤ 8192
theorem RefInv.below {w w' : World} {B R h s : Nat} {u : Value} {M : List Ab} (hn : RefInv w B R u h M s) (hb : Below w.heap.size w w') : RefInv w' B R u h M s :=
  ⟨hn.base, hn.mem.below hb hn.mem.lt, owns_below hn.row hb, hn.few, hn.sizes⟩
theorem RefInv.eff {S : Nat → Prop} {w w' : World} {B R h s : Nat} {u : Value} {M : List Ab} (hn : RefInv w B R u h M s) (hb : Eff S w w') (h1 : ¬ S R) (h2 : ∀ k, S k → ¬ Tag w k 46) : RefInv w' B R u h M s :=
  ⟨hn.base, (hb.block R hn.mem.lt h1).trans hn.mem, owns_eff hn.row hb fun k hk hs => h2 k hs (own_tag hn.row k hk).2.2, hn.few, hn.sizes⟩
def RefStep (w w' : World) (B R : Nat) (u : Value) (h : Nat) (M : List Ab) (s : Nat) : Prop := ∃ u', RefInv w' B R u' h M s ∧ Eff (fun k => k = R) w w' ∧ ∀ k, u'.ownBlock = some k → u.ownBlock = some k ∨ w.heap.size ≤ k
theorem RefInv.step {w w' : World} {B R h s : Nat} {u : Value} {M : List Ab} (hn : RefInv w B R u h M s) (hb : Below w.heap.size w w') : RefStep w w' B R u h M s := ⟨u, hn.below hb, Eff.of hb, fun k hk => .inl hk⟩
theorem RefStep.below {w w' w2 : World} {B R h s : Nat} {u : Value} {M : List Ab} (hn : RefStep w w' B R u h M s) (hb : Below w'.heap.size w' w2) : RefStep w w2 B R u h M s := by
  obtain ⟨u', h1, h2, h3⟩ := hn
  exact ⟨u', h1.below hb, h2.trans (Eff.of (S := fun k => k = R) hb) (fun _ _ h => h), h3⟩
theorem RefInv.parts {w : World} {B R h s : Nat} {u : Value} {M : List Ab} (hn : RefInv w B R u h M s) : ∃ A c, u = .slice A M.length c ∧ M.length ≤ c ∧ c ≤ 9223372036854775807 := by
  obtain ⟨A, c, rfl, h4, h5⟩ := own_form hn.row
  exact ⟨A, c, rfl, h4, by unfold maxLen at h5; omega⟩
theorem RefInv.apart {w : World} {B R h s : Nat} {u : Value} {M : List Ab} (hn : RefInv w B R u h M s) : u.ownBlock ≠ some R := fun hk => (own_tag hn.row R hk).2.2.ne (mem_tag hn.mem) (by decide) rfl
theorem rpk_info : (Try.prog.info? 46).map (fun i => (i.zero, i.size, i.bytes)) = some (some (.agg #[.int .i64 0, .int .i64 0, .string .empty]), 3, 32) := by kernel_rfl
theorem rnew_any (n : Nat) (h1 : 1 ≤ n) (h2 : n ≤ 64) (w : World) : Calls Try.prog 12 #[.int .i64 (n : Nat)] w fun e w' => e = .returned (.tuple #[.pointer (some ⟨w.heap.size, 0, none⟩), .int .i64 0]) ∧ RefInv w' w.heap.size w.heap.size (.slice none 0 0) n [] 0 ∧ Below w.heap.size w w' := by
  have d1 : decide ((n : Int) < 1) = false := decide_eq_false (by omega)
  have d2 : decide ((64 : Int) < (n : Int)) = false := decide_eq_false (by omega)
  go_enter Try.func12, Try.ntmps12
  go_wp2
  go_ret2
  exact ⟨rfl, ⟨Nat.le_refl _, Mem.new w _ _, World.ownsRow_nil _ _ _ _, by simp, by simp⟩, (Below.refl _ _).alloc (Nat.le_refl _) _⟩
theorem rnew_no (n : Int) (h : n < 1 ∨ 64 < n) (w : World) : Calls Try.prog 12 #[.int .i64 n] w fun e w' => e = .returned (.tuple #[.pointer none, .int .i64 1]) ∧ w = w' := by
  by_cases h1 : n < 1
  · clear h
    go_enter Try.func12, Try.ntmps12
    go_wp2
    go_ret2
    exact ⟨rfl, rfl⟩
  · have h2 : 64 < n := by omega
    clear h
    go_enter Try.func12, Try.ntmps12
    go_wp2
    go_ret2
    exact ⟨rfl, rfl⟩
theorem nnew_no (n : Int) (h : n < 1 ∨ 64 < n) (w : World) : Calls Try.prog 11 #[.int .i64 n] w fun e w' => e = .returned (.tuple #[.pointer none, .int .i64 1]) ∧ w = w' := by
  by_cases h1 : n < 1
  · clear h
    go_enter Try.func11, Try.ntmps11
    go_wp2
    go_ret2
    exact ⟨rfl, rfl⟩
  · have h2 : 64 < n := by omega
    clear h
    go_enter Try.func11, Try.ntmps11
    go_wp2
    go_ret2
    exact ⟨rfl, rfl⟩
theorem rrow_at {w : World} {B c : Nat} {A : Option Addr} {L : List Ab} (ho : w.ownsRow B 46 3 (.slice A L.length c) L.length (rflat L)) {i : Nat} (hi : i < L.length) :
    ∃ g, A = some ⟨g, 0, none⟩ ∧ B ≤ g ∧ g < w.heap.size ∧ w.cell? ⟨g, i * 3, none⟩ = some (.int .i64 L[i].fr) ∧ w.cell? ⟨g, i * 3 + 1, none⟩ = some (.int .i64 L[i].to) ∧ w.cell? ⟨g, i * 3 + 2, none⟩ = some (str L[i].l) := by
  rcases ho.2 with ⟨hv, h0⟩ | ⟨g, cap, cur, hv, hBg, hg, hnc, hcm, hcs, htk⟩
  · omega
  simp only [Value.slice.injEq] at hv
  obtain ⟨rfl, _, rfl⟩ := hv
  have hcur : ∀ k, k < 3 → w.cell? ⟨g, 3 * i + k, none⟩ = L[i].cells[k]? := by
    intro k hk
    rw [cell_of_row w g _ cur _ _ hg, ← rflat_at L i hi k hk, ← htk, List.getElem?_take, if_pos (by omega), Array.getElem?_toList]
  refine ⟨g, rfl, hBg, (Array.getElem?_eq_some_iff.1 hg).1, ?_, ?_, ?_⟩
  · rw [show i * 3 = 3 * i + 0 by omega, hcur 0 (by omega)]; rfl
  · rw [show i * 3 + 1 = 3 * i + 1 by omega, hcur 1 (by omega)]; rfl
  · rw [show i * 3 + 2 = 3 * i + 2 by omega, hcur 2 (by omega)]; rfl
set_option maxHeartbeats 2000000 in
theorem at_no (B R h s : Nat) (u : Value) (M : List Ab) (i : Int) (hi : ¬ (0 ≤ i ∧ i < M.length)) (w : World) (hn : RefInv w B R u h M s) :
    Calls Try.prog 29 #[.pointer (some ⟨R, 0, none⟩), .int .i64 i] w fun e w' => e = .returned (.tuple #[ab0, .bool false]) ∧ Below w.heap.size w w' := by
  obtain ⟨A, c, rfl, hc1, hc2⟩ := hn.parts
  have hx0 : ∀ o, (w.alloc o).cell? ⟨R, 1, none⟩ = some (.slice A M.length c) := fun o => Lib.cell?_alloc_some o (hn.mem.cell 1)
  have hm : Mem (w.alloc (.cells #[.int .i64 0, .int .i64 0, .string .empty] 46)) w.heap.size 46 #[.int .i64 0, .int .i64 0, .string .empty] := Mem.new w _ _
  rcases Int.lt_or_le i 0 with h0 | h0
  · go_enter Try.func29, Try.ntmps29
    go_wp2
    refine bodyPost_ret (v := .tuple #[ab0, .bool false]) ?_ rfl ⟨rfl, (Below.refl _ _).alloc (Nat.le_refl _) _⟩
    exact (results_cell2 (p := 4) (a := 5) (ty := 46) rfl _ _ w.heap.size 46 _ (0, 0) _ rfl hm Try.underlying46 rfl (by kernel_rfl)).trans rfl
  · have hge : (M.length : Int) ≤ i := by omega
    have hgn : ¬ i < (M.length : Int) := by omega
    go_enter Try.func29, Try.ntmps29
    go_wp2
    refine bodyPost_ret (v := .tuple #[ab0, .bool false]) ?_ rfl ⟨rfl, (Below.refl _ _).alloc (Nat.le_refl _) _⟩
    exact (results_cell2 (p := 4) (a := 5) (ty := 46) rfl _ _ w.heap.size 46 _ (0, 0) _ rfl hm Try.underlying46 rfl (by kernel_rfl)).trans rfl
set_option maxHeartbeats 2000000 in
theorem at_ok (B R h s : Nat) (u : Value) (M : List Ab) (i : Nat) (hi : i < M.length) (w : World) (hn : RefInv w B R u h M s) :
    Calls Try.prog 29 #[.pointer (some ⟨R, 0, none⟩), .int .i64 (i : Nat)] w fun e w' => e = .returned (.tuple #[M[i].val, .bool true]) ∧ Below w.heap.size w w' := by
  obtain ⟨A, c, rfl, hc1, hc2⟩ := hn.parts
  obtain ⟨g, rfl, hBg, hgl, hx1, hx2, hx3⟩ := rrow_at hn.row hi
  generalize M[i] = p at *
  obtain ⟨fr, to, l⟩ := p
  unfold Ab.val
  unfold str at *
  simp only at hx1 hx2 hx3 ⊢
  have hx0 : ∀ o, (w.alloc o).cell? ⟨R, 1, none⟩ = some (.slice (some ⟨g, 0, none⟩) M.length c) := fun o => Lib.cell?_alloc_some o (hn.mem.cell 1)
  have hy1 := fun o => Lib.cell?_alloc_some o hx1
  have hy2 := fun o => Lib.cell?_alloc_some o hx2
  have hy3 := fun o => Lib.cell?_alloc_some o hx3
  have hix : (i : Int) < (M.length : Int) := by omega
  have hm : Mem (w.alloc (.cells #[.int .i64 0, .int .i64 0, .string .empty] 46)) w.heap.size 46 #[.int .i64 0, .int .i64 0, .string .empty] := Mem.new w _ _
  go_enter Try.func29, Try.ntmps29
  go_wp2_with (first
    | (refine wpList_store_row rfl 46 (.tmp 4) (.tmp 24) rfl w.heap.size #[.int .i64 fr, .int .i64 to, .string ⟨l.toArray⟩] rfl rfl 46 #[.int .i64 0, .int .i64 0, .string .empty] hm (by kernel_rfl) (by kernel_rfl) (by kernel_rfl) ?_))
  try simp only [Exit.inBlock, Exit.then]
  refine bodyPost_ret (v := .tuple #[.agg #[.int .i64 fr, .int .i64 to, .string ⟨l.toArray⟩], .bool true]) ?_ rfl ⟨rfl, below_setRow ((Below.refl _ _).alloc (Nat.le_refl _) _) (Nat.le_refl _) _⟩
  exact (results_cell2 (p := 4) (a := 5) (ty := 46) rfl _ _ w.heap.size 46 _ (0, 0) _ rfl (hm.row _) Try.underlying46 rfl (by kernel_rfl)).trans rfl
theorem own_empty (W : World) (B t n : Nat) (hB : B ≤ W.heap.size) : (W.alloc (.cells #[] t)).ownsRow B t n (.slice (some ⟨W.heap.size, 0, none⟩) 0 0) 0 [] :=
  ⟨by simp, .inr ⟨W.heap.size, 0, #[], rfl, hB, heap_alloc_new W _, Nat.le_refl _, by unfold maxLen; omega, by simp, by simp⟩⟩
/-- The cells of a row, from a place on. -/
theorem own_cells {w : World} {B e sz n c g : Nat} {xs : List Value} (ho : w.ownsRow B e sz (.slice (some ⟨g, 0, none⟩) n c) n xs) : ∀ k u, xs[k]? = some u → w.cell? ⟨g, k, none⟩ = some u := by
  intro k u hk
  rcases ho.2 with ⟨hv, h0⟩ | ⟨g', cap, cur, hv, hBg, hg, hnc, hcm, hcs, htk⟩
  · cases hv
  simp only [Value.slice.injEq, Option.some.injEq, Addr.mk.injEq, and_true, true_and] at hv
  obtain ⟨rfl, rfl⟩ := hv
  have hkl := (List.getElem?_eq_some_iff.1 hk).1
  rw [ho.1] at hkl
  rw [cell_of_row w g k cur _ _ hg, ← hk, ← htk, List.getElem?_take, if_pos hkl, Array.getElem?_toList]
end Go.Proofs.Ytmlimmcaidkoeaa
