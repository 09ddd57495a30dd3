/- Package gemellaw3: letter and list: contracts. -/
import Derived.Test.YtikehhcbjmcfdaaDoorTxtD
namespace Go.Proofs.YtikehhcbjmcfdaaDoor
open Go.ChangeShapes Go.WideShapes Go.ChangeAt Go.RowKit
set_option linter.unusedVariables false
/-- The letter of a number. -/
def letC (c : UInt8) : UInt8 := UInt8.ofNat (97 + c.toNat % 6)
theorem one_letter (W : World) (c : UInt8) : (convert 35 9 (.slice (some ⟨W.heap.size, 0, none⟩) 1 1)).run Tryd.prog (W.alloc (.cells #[.int .u8 (97 + (c.toNat : Int) % 6)] 5)) = .ok (.string ⟨#[letC c]⟩) (W.alloc (.cells #[.int .u8 (97 + (c.toNat : Int) % 6)] 5)) := by
  have h := Sl.fresh W #[.int .u8 (97 + (c.toNat : Int) % 6)] 5 (n := 1) rfl (by unfold maxLen; omega)
  have e : (#[Value.int .u8 (97 + (c.toNat : Int) % 6)] : Array Value).toList = bs [letC c] := by
    simp only [bs, List.map_cons, List.map_nil]
    congr 2
    have h0 : (letC c).toNat = (97 + c.toNat % 6) % 256 := UInt8.toNat_ofNat'
    rw [h0]
    omega
  rw [e] at h
  exact bytes_str _ _ _ _ Tryd.underlying35 Tryd.underlying5 Tryd.underlying9 _ _ [letC c] _ h
theorem lletter_any (c : UInt8) (w : World) :
    Calls Tryd.prog 17 #[.int .u8 c.toNat] w fun e w' => e = .returned (.string ⟨#[letC c]⟩) ∧ Below w.heap.size w w' := by
  have k1 := one_letter w c
  have hc := c.toNat_lt
  go_enter Tryd.func17, Tryd.ntmps17
  go_wp2
  go_ret
  exact ⟨rfl, (Below.refl _ _).alloc (Nat.le_refl _) _⟩
/-- The letters of the first k of a list, a comma between two. -/
def listTo (l : List UInt8) : Nat → List UInt8
  | 0 => []
  | k + 1 => (if k = 0 then [] else listTo l k ++ [44]) ++ (l[k]?.map letC).toList
theorem listTo_len (l : List UInt8) (k : Nat) : (listTo l k).length ≤ 2 * k := by
  induction k with
  | zero => exact Nat.le_refl _
  | succ k ih =>
    unfold listTo
    have h1 : ((l[k]?.map letC).toList).length ≤ 1 := by cases l[k]? <;> simp
    rw [List.length_append]
    split
    · simp; omega
    · rw [List.length_append]; simp only [List.length_cons, List.length_nil]; omega
theorem list_any (v : Value) (l : List UInt8) (w : World) (hv : Sl w w.heap.size v l.length (bs l)) (hl : l.length ≤ 20) :
    Calls Tryd.prog 16 #[v] w fun e w' => e = .returned (.string ⟨(listTo l l.length).toArray⟩) ∧ Below w.heap.size w w' := by
  obtain ⟨A, c, rfl, hc1, hc2⟩ := hv.form
  unfold maxLen at hc2
  go_enter Tryd.func16, Tryd.ntmps16
  go_wp2
  go_loopw [3, 4] (fun s i wr => ∃ k : Nat, k ≤ l.length ∧ i = .int .i64 k ∧ s = .string ⟨(listTo l k).toArray⟩ ∧ Below w.heap.size w wr) (fun _ i _ => l.length - (intOf i).toNat)
  case atStart => exact ⟨0, Nat.zero_le _, rfl, rfl, Below.refl _ _⟩
  case round =>
    obtain ⟨k, hk, rfl, rfl, hb⟩ := hrel
    have hln := listTo_len l k
    by_cases hlt : k < l.length
    · obtain ⟨b, off, rfl, hbB, hcell⟩ := (hv.below hb).at_ (by omega)
      have hx : wr.cell? ⟨b, off + k, none⟩ = some (.int .u8 (l[k]).toNat) := hcell _ _ (bs_get hlt)
      clear hcell
      have HS : Hid (listTo l (k + 1) = (if k = 0 then [] else listTo l k ++ [44]) ++ [letC l[k]]) := Lib.hid (by rw [listTo, List.getElem?_eq_getElem hlt]; rfl)
      by_cases hk0 : k = 0
      · subst hk0
        rw [Nat.add_zero] at hx
        go_wp2_with (go_at_call 17; refine (lletter_any _ _).mono ?_; rintro e w' ⟨rfl, hb2⟩)
        refine ⟨⟨1, by omega, rfl, ?_, hb.trans (hb2.mono hb.size)⟩, by simp [intOf]; omega⟩
        rw [HS.out, if_pos trivial]
        rfl
      · go_wp2_with (go_at_call 17; refine (lletter_any _ _).mono ?_; rintro e w' ⟨rfl, hb2⟩)
        refine ⟨⟨k + 1, by omega, by go_num, ?_, hb.trans (hb2.mono hb.size)⟩, by simp [intOf]; omega⟩
        rw [HS.out, if_neg hk0]
        congr 1
    · obtain rfl : k = l.length := by omega
      go_wp2
      go_ret
      exact ⟨rfl, hb⟩
end Go.Proofs.YtikehhcbjmcfdaaDoor
