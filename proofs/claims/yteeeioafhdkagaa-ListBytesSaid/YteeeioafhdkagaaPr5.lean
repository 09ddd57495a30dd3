/- Package prlist: Keys of any number of keys. -/
import Derived.Test.YteeeioafhdkagaaPrC
namespace Go.Proofs.Yteeeioafhdkagaa
open Go.ChangeShapes Go.WideShapes Go.ChangeAt Go.RowKit
set_option linter.unusedVariables false
set_option maxHeartbeats 2000000 in
theorem Keys_anyB (g : Nat) (v : Value) (l0 l : List Nat) (w : World) (hg : g < 4294967296) (hv0 : Sl w w.heap.size v l0.length (u64s l0)) (hll : 16 < l0.length) (hl0 : l0.take 16 = l) (hl : ∀ x ∈ l, x < 18446744073709551616) :
    Calls Try.prog 22 #[.int .u32 g, v] w fun e w' => ∃ v', e = .returned v' ∧ Sl w' w'.heap.size v' (keysS g l).length (bs (keysS g l)) ∧ Below w.heap.size w w' := by
  obtain ⟨A, c, rfl, hc1, hc2⟩ := hv0.form
  have hv : Sl w w.heap.size (.slice A 16 c) 16 (u64s l) := by
    have h := hv0.take (m := 16) (by omega)
    rw [show (u64s l0).take 16 = u64s l by rw [← hl0]; simp [u64s]] at h
    exact h
  have hL : l.length = 16 := by rw [← hl0, List.length_take]; omega
  unfold maxLen at hc2
  have h16 : ¬ (l0.length : Int) ≤ 16 := by omega
  have h16b : (16 : Int) < l0.length := by omega
  have hmin : min (l0.length : Int) 16 = 16 := by omega
  have c1 := put_b (.slice none 0 0) [] g 4 g 4 rfl rfl w Sl.nil_ (by omega) (by simp) (by omega)
  have c2 : ∀ W v, Sl W W.heap.size v ([] ++ be g 4).length (bs ([] ++ be g 4)) → Calls Try.prog 31 #[v, .int .u64 128, .int .i64 4] W _ := fun W v h => put_b v _ 128 4 (8 * l.length) 4 (by omega) rfl W h (by omega) (by simp) (by omega)
  have c3 : ∀ k (hk : k < l.length) W v, Sl W W.heap.size v (be g 4 ++ be (8 * l.length) 4 ++ catK (l.take k)).length (bs (be g 4 ++ be (8 * l.length) 4 ++ catK (l.take k))) → Calls Try.prog 31 #[v, .int .u64 ((l[k] : Nat) : Int), .int .i64 8] W _ :=
    fun k hk W v h => put_b v _ _ 8 _ 8 rfl rfl W h (hl _ (List.getElem_mem _)) (by rw [List.length_append, catK_len, List.length_take]; simp; omega) (by omega)
  have hMc : (16 : Int) ≤ c := by omega
  clear hl hv0 hl0
  go_enter Try.func22, Try.ntmps22
  go_wp2_with (first
    | (go_at_call 31; with_reducible refine c1.mono ?_; rintro e w1 ⟨v1, rfl, hs1, hb1⟩)
    | (go_at_call 31; with_reducible refine (c2 _ _ hs1).mono ?_; rintro e w2 ⟨v2, rfl, hs2, hb2⟩))
  have hs2' : Sl w2 w2.heap.size v2 (be g 4 ++ be (8 * l.length) 4 ++ catK (l.take 0)).length (bs (be g 4 ++ be (8 * l.length) 4 ++ catK (l.take 0))) := by simpa [catK] using hs2
  have hb12 := bchain hb1 hb2
  clear hs1 hs2 c1 c2 hb1 hb2
  go_loopw [5, 24] (fun pv i wr => ∃ k : Nat, k ≤ l.length ∧ i = .int .i64 k ∧ Sl wr wr.heap.size pv (be g 4 ++ be (8 * l.length) 4 ++ catK (l.take k)).length (bs (be g 4 ++ be (8 * l.length) 4 ++ catK (l.take k))) ∧ Below w.heap.size w wr) (fun _ i _ => 16 - (intOf i).toNat)
  case atStart => exact ⟨0, Nat.zero_le _, rfl, hs2', hb12⟩
  case round =>
    obtain ⟨k, hk, rfl, hsl, hb⟩ := hrel
    by_cases hlt : k < 16
    · obtain ⟨b, off, rfl, hbB, hcell⟩ := hv.at_ (by omega)
      have hkl : k < l.length := by omega
      have hx : wr.cell? ⟨b, off + k, none⟩ = some (.int .u64 ((l[k] : Nat) : Int)) := (hb.cell (p := ⟨b, off + k, none⟩) hbB).trans (hcell _ _ (u64s_get hkl))
      have c4 := c3 k hkl wr _ hsl
      have hsn : catK (l.take (k + 1)) = catK (l.take k) ++ be (l[k]) 8 := by rw [List.take_succ_eq_append_getElem hkl, catK_snoc]
      have HS := Lib.hid hsn
      have hlz : (k : Int) < 16 := by omega
      clear hcell c3 hsn hsl
      go_wp2_with (go_at_call 31; with_reducible refine c4.mono ?_; rintro e w3 ⟨v3, rfl, hs3, hb3⟩)
      refine ⟨⟨k + 1, by omega, by go_num, ?_, bchain hb hb3⟩, by simp [intOf]; omega⟩
      rw [HS.out, ← List.append_assoc]
      exact hs3
    · obtain rfl : k = l.length := by omega
      have hlz : ¬ (l.length : Int) < 16 := by omega
      go_wp2
      go_ret
      rw [List.take_length] at hsl
      exact ⟨_, rfl, hsl, hb⟩
/-- Keys, whatever it is handed. -/
theorem Keys_any (g : Nat) (v : Value) (l : List Nat) (w : World) (hg : g < 4294967296) (hv : Sl w w.heap.size v l.length (u64s l)) (hl : ∀ x ∈ l, x < 18446744073709551616) :
    Calls Try.prog 22 #[.int .u32 g, v] w fun e w' => ∃ v', e = .returned v' ∧ Sl w' w'.heap.size v' (keysS g (l.take 16)).length (bs (keysS g (l.take 16))) ∧ Below w.heap.size w w' := by
  by_cases h : 16 < l.length
  · exact Keys_anyB g v l _ w hg hv h rfl fun x hx => hl x (List.mem_of_mem_take hx)
  · rw [List.take_of_length_le (by omega)]
    exact Keys_any16 g v l w hg hv hl (by omega)
end Go.Proofs.Yteeeioafhdkagaa
