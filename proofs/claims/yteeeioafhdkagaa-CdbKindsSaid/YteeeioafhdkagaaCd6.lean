/- Package cdb: plain facts: the bytes of each kind, and what they tell. -/
import Derived.Test.YteeeioafhdkagaaCd5
namespace Go.Proofs.Yteeeioafhdkagaa
open Go.ChangeShapes Go.WideShapes Go.ChangeAt Go.RowKit
set_option linter.unusedVariables false
theorem list8 {l : List UInt8} (h : l.length = 8) : ∃ x0 x1 x2 x3 x4 x5 x6 x7, l = [x0, x1, x2, x3, x4, x5, x6, x7] := by
  match l, h with
  | [x0, x1, x2, x3, x4, x5, x6, x7], _ => exact ⟨_, _, _, _, _, _, _, _, rfl⟩
theorem list4 {l : List UInt8} (h : l.length = 4) : ∃ x0 x1 x2 x3, l = [x0, x1, x2, x3] := by
  match l, h with
  | [x0, x1, x2, x3], _ => exact ⟨_, _, _, _, rfl⟩
theorem list1 {l : List UInt8} (h : l.length = 1) : ∃ x0, l = [x0] := by
  match l, h with
  | [x0], _ => exact ⟨_, rfl⟩
/-- Bytes that tell a kind, and tell it whole. -/
def Tells1 (k : Nat) (b : List UInt8) : Prop :=
  b.length = 16 ∧ kindS (b.getD 0 0).toNat (b.getD 1 0).toNat = k ∧ (decGo b (flS k) 16 (if (hdS k).2.2.1 then 2 else 1) (0, 0, 0, false)).isSome = true
theorem tells_long (k : Nat) (hk : k = 2 ∨ k = 4 ∨ k = 5) (a n t : Nat) (f : Bool) (ha : a ≤ 4611686018427387904) : Tells1 k (encS k a n t f) := by
  have hb : beVal (be a 8) = a := by rw [beVal_be]; exact Nat.mod_eq_of_lt (by omega)
  obtain ⟨x0, x1, x2, x3, x4, x5, x6, x7, e8⟩ := list8 (be_len a 8)
  obtain ⟨y0, y1, y2, y3, e4⟩ := list4 (be_len n 4)
  rw [e8] at hb
  have hz : be 0 14 = [0, 0, 0, 0, 0, 0, 0, 0, 0, 0, 0, 0, 0, 0] := by decide +kernel
  have he : encS k a n t f = [UInt8.ofNat (hdS k).1, UInt8.ofNat (hdS k).2.1, x0, x1, x2, x3, x4, x5, x6, x7, y0, y1, y2, y3, 0, 0] := by
    have hf : flS k = [(1, 2, 8), (2, 10, 4)] := by rcases hk with rfl | rfl | rfl <;> rfl
    unfold encS encAt
    rw [hf]
    simp only [List.length_cons, List.length_nil, List.take_succ_cons, List.take_zero, List.foldl_cons, List.foldl_nil, valS, hz]
    simp only [show (1 : Nat) ≠ 0 from by omega, if_false, if_true, show (2 : Nat) ≠ 0 from by omega, show (2 : Nat) ≠ 1 from by omega, e8, e4]
    rfl
  rw [he]
  have hm : putB 1 (beVal [x0, x1, x2, x3, x4, x5, x6, x7]) = true := by rw [hb]; unfold putB; simp; exact ha
  rcases hk with rfl | rfl | rfl <;> refine ⟨rfl, by rfl, ?_⟩ <;> simp [decGo, flS, hdS, putB, hb, ha]
theorem force_byte (f : Bool) : ∃ F : UInt8, be (if f then 8 else 0) 1 = [F] ∧ beVal [F] = (if f then 8 else 0) ∧ (F = 0 ∨ F = 8) := by
  cases f
  · exact ⟨0, by decide +kernel, by decide +kernel, .inl rfl⟩
  · exact ⟨8, by decide +kernel, by decide +kernel, .inr rfl⟩
theorem tells_write (a n t : Nat) (f : Bool) (ha : a ≤ 4611686018427387904) : Tells1 3 (encS 3 a n t f) := by
  have hb : beVal (be a 8) = a := by rw [beVal_be]; exact Nat.mod_eq_of_lt (by omega)
  obtain ⟨x0, x1, x2, x3, x4, x5, x6, x7, e8⟩ := list8 (be_len a 8)
  obtain ⟨y0, y1, y2, y3, e4⟩ := list4 (be_len n 4)
  obtain ⟨F, eF, hF, hF2⟩ := force_byte f
  rw [e8] at hb
  have hz : be 0 14 = [0, 0, 0, 0, 0, 0, 0, 0, 0, 0, 0, 0, 0, 0] := by decide +kernel
  have he : encS 3 a n t f = [138, F, x0, x1, x2, x3, x4, x5, x6, x7, y0, y1, y2, y3, 0, 0] := by
    have hf : flS 3 = [(0, 1, 1), (1, 2, 8), (2, 10, 4)] := rfl
    unfold encS encAt
    rw [hf]
    simp only [List.length_cons, List.length_nil, List.take_succ_cons, List.take_zero, List.foldl_cons, List.foldl_nil, valS, hz]
    simp only [show (1 : Nat) ≠ 0 from by omega, if_false, if_true, show (2 : Nat) ≠ 0 from by omega, show (2 : Nat) ≠ 1 from by omega, e8, e4, eF]
    rfl
  rw [he]
  have hm : putB 1 (beVal [x0, x1, x2, x3, x4, x5, x6, x7]) = true := by rw [hb]; unfold putB; simp; exact ha
  have hm0 : putB 0 (beVal [F]) = true := by rw [hF]; cases f <;> rfl
  refine ⟨rfl, ?_, ?_⟩
  · rcases hF2 with rfl | rfl <;> rfl
  · simp [decGo, flS, hdS, hm, hm0]
    simp [putB]
theorem tells_compare (a n t : Nat) (f : Bool) (ha : a ≤ 4611686018427387904) : Tells1 6 (encS 6 a n t f) := by
  have hb : beVal (be a 8) = a := by rw [beVal_be]; exact Nat.mod_eq_of_lt (by omega)
  obtain ⟨x0, x1, x2, x3, x4, x5, x6, x7, e8⟩ := list8 (be_len a 8)
  obtain ⟨y0, e1⟩ := list1 (be_len n 1)
  obtain ⟨F, eF, hF, hF2⟩ := force_byte f
  rw [e8] at hb
  have hz : be 0 14 = [0, 0, 0, 0, 0, 0, 0, 0, 0, 0, 0, 0, 0, 0] := by decide +kernel
  have he : encS 6 a n t f = [137, F, x0, x1, x2, x3, x4, x5, x6, x7, 0, 0, 0, y0, 0, 0] := by
    have hf : flS 6 = [(0, 1, 1), (1, 2, 8), (2, 13, 1)] := rfl
    unfold encS encAt
    rw [hf]
    simp only [List.length_cons, List.length_nil, List.take_succ_cons, List.take_zero, List.foldl_cons, List.foldl_nil, valS, hz]
    simp only [show (1 : Nat) ≠ 0 from by omega, if_false, if_true, show (2 : Nat) ≠ 0 from by omega, show (2 : Nat) ≠ 1 from by omega, e8, e1, eF]
    rfl
  rw [he]
  have hm : putB 1 (beVal [x0, x1, x2, x3, x4, x5, x6, x7]) = true := by rw [hb]; unfold putB; simp; exact ha
  have hm0 : putB 0 (beVal [F]) = true := by rw [hF]; cases f <;> rfl
  refine ⟨rfl, ?_, ?_⟩
  · rcases hF2 with rfl | rfl <;> rfl
  · simp [decGo, flS, hdS, hm, hm0]
    simp [putB]
theorem tells_type (k : Nat) (hk : k = 12 ∨ k = 13 ∨ k = 15) (a n t : Nat) (f : Bool) : Tells1 k (encS k a n t f) := by
  obtain ⟨y0, e1⟩ := list1 (be_len t 1)
  have hz : be 0 14 = [0, 0, 0, 0, 0, 0, 0, 0, 0, 0, 0, 0, 0, 0] := by decide +kernel
  have he : encS k a n t f = [UInt8.ofNat (hdS k).1, UInt8.ofNat (hdS k).2.1, y0, 0, 0, 0, 0, 0, 0, 0, 0, 0, 0, 0, 0, 0] := by
    have hf : flS k = [(3, 2, 1)] := by rcases hk with rfl | rfl | rfl <;> rfl
    unfold encS encAt
    rw [hf]
    simp only [List.length_cons, List.length_nil, List.take_succ_cons, List.take_zero, List.foldl_cons, List.foldl_nil, valS, hz]
    simp only [show (3 : Nat) ≠ 0 from by omega, if_false, show (3 : Nat) ≠ 1 from by omega, show (3 : Nat) ≠ 2 from by omega, e1]
    rfl
  rw [he]
  rcases hk with rfl | rfl | rfl <;> refine ⟨rfl, by rfl, ?_⟩ <;> simp [decGo, flS, hdS, putB]
theorem tells_bare (k : Nat) (hk : flS k = []) (hk2 : (hdS k).2.2.1 = false → (hdS k).2.1 = 0) (hk3 : kindS (hdS k).1 (hdS k).2.1 = k) (a n t : Nat) (f : Bool) : Tells1 k (encS k a n t f) := by
  have hz : be 0 14 = [0, 0, 0, 0, 0, 0, 0, 0, 0, 0, 0, 0, 0, 0] := by decide +kernel
  have he : encS k a n t f = [UInt8.ofNat (hdS k).1, UInt8.ofNat (hdS k).2.1, 0, 0, 0, 0, 0, 0, 0, 0, 0, 0, 0, 0, 0, 0] := by
    unfold encS encAt
    rw [hk, hz]
    rfl
  rw [he]
  obtain ⟨h1, h2⟩ := hdS_lt k
  refine ⟨rfl, ?_, ?_⟩
  · show kindS (UInt8.ofNat (hdS k).1).toNat (UInt8.ofNat (hdS k).2.1).toNat = k
    rw [UInt8.toNat_ofNat', UInt8.toNat_ofNat', Nat.mod_eq_of_lt (by omega), Nat.mod_eq_of_lt (by omega)]
    exact hk3
  · rw [hk]
    by_cases hp : (hdS k).2.2.1 = true
    · rw [if_pos hp]; simp [decGo]
    · rw [if_neg hp]
      have h0 : UInt8.ofNat (hdS k).2.1 = 0 := by
        rw [hk2 (by simpa using hp)]
        rfl
      simp [decGo, h0]
theorem tells_any (k : Nat) (h1 : 1 ≤ k) (h2 : k ≤ 17) (a n t : Nat) (f : Bool) (ha : a ≤ 4611686018427387904) : Tells1 k (encS k a n t f) := by
  have hk : k = 1 ∨ k = 2 ∨ k = 3 ∨ k = 4 ∨ k = 5 ∨ k = 6 ∨ k = 7 ∨ k = 8 ∨ k = 9 ∨ k = 10 ∨ k = 11 ∨ k = 12 ∨ k = 13 ∨ k = 14 ∨ k = 15 ∨ k = 16 ∨ k = 17 := by omega
  rcases hk with rfl | rfl | rfl | rfl | rfl | rfl | rfl | rfl | rfl | rfl | rfl | rfl | rfl | rfl | rfl | rfl | rfl
  · exact tells_bare 1 rfl (fun _ => rfl) rfl a n t f
  · exact tells_long 2 (by omega) a n t f ha
  · exact tells_write a n t f ha
  · exact tells_long 4 (by omega) a n t f ha
  · exact tells_long 5 (by omega) a n t f ha
  · exact tells_compare a n t f ha
  · exact tells_bare 7 rfl (fun _ => rfl) rfl a n t f
  · exact tells_bare 8 rfl (fun _ => rfl) rfl a n t f
  · exact tells_bare 9 rfl (fun _ => rfl) rfl a n t f
  · exact tells_bare 10 rfl (fun h => by cases h) rfl a n t f
  · exact tells_bare 11 rfl (fun h => by cases h) rfl a n t f
  · exact tells_type 12 (by omega) a n t f
  · exact tells_type 13 (by omega) a n t f
  · exact tells_bare 14 rfl (fun h => by cases h) rfl a n t f
  · exact tells_type 15 (by omega) a n t f
  · exact tells_bare 16 rfl (fun h => by cases h) rfl a n t f
  · exact tells_bare 17 rfl (fun h => by cases h) rfl a n t f
end Go.Proofs.Yteeeioafhdkagaa
