/- Package gemellaw3: decimal: contract. -/
import Derived.Test.YtikehhcbjmcfdaaDoorTxt
namespace Go.Proofs.YtikehhcbjmcfdaaDoor
open Go.ChangeShapes Go.WideShapes Go.ChangeAt Go.RowKit
set_option linter.unusedVariables false
/-- The sign of a digit. -/
def digC (k : Nat) : UInt8 := UInt8.ofNat (48 + k)
/-- The digits of a number, the lowest last. -/
def decS (n : Nat) : List UInt8 := if n < 10 then [digC n] else decS (n / 10) ++ [digC (n % 10)]
theorem decS_small {n : Nat} (h : n < 10) : decS n = [digC (n % 10)] := by rw [decS, if_pos h, Nat.mod_eq_of_lt h]
theorem decS_big {n : Nat} (h : ¬ n < 10) : decS n = decS (n / 10) ++ [digC (n % 10)] := by rw [decS, if_neg h]
theorem decS_len (n : Nat) : (decS n).length ≤ n + 1 := by
  induction n using Nat.strongRecOn with
  | ind n ih =>
    by_cases h : n < 10
    · rw [decS_small h]; simp
    · rw [decS_big h, List.length_append]
      have := ih (n / 10) (by omega)
      simp
      omega
/-- What stands ahead of the digits told so far. -/
def decPre (m : Nat) : List UInt8 := if m < 10 then [] else decS (m / 10)
theorem decPre_start (n : Nat) : decS n = decPre n ++ [digC (n % 10)] := by
  unfold decPre
  by_cases h : n < 10
  · rw [if_pos h, decS_small h]; rfl
  · rw [if_neg h, decS_big h]
theorem decPre_step {m : Nat} (h : ¬ m < 10) : decPre m = decPre (m / 10) ++ [digC (m / 10 % 10)] := by
  rw [show decPre m = decS (m / 10) by unfold decPre; rw [if_neg h], decPre_start]
theorem one_digit (W : World) (m : Nat) (hm : m < 10) : (convert 35 9 (.slice (some ⟨W.heap.size, 0, none⟩) 1 1)).run Tryd.prog (W.alloc (.cells #[.int .u8 (48 + (m : Int))] 5)) = .ok (.string ⟨#[digC m]⟩) (W.alloc (.cells #[.int .u8 (48 + (m : Int))] 5)) := by
  have h := Sl.fresh W #[.int .u8 (48 + (m : Int))] 5 (n := 1) rfl (by unfold maxLen; omega)
  have e : (#[Value.int .u8 (48 + (m : Int))] : Array Value).toList = bs [digC m] := by
    simp only [bs, List.map_cons, List.map_nil]
    congr 2
    have h0 : (digC m).toNat = (48 + m) % 256 := UInt8.toNat_ofNat'
    rw [h0]
    omega
  rw [e] at h
  exact bytes_str _ _ _ _ Tryd.underlying35 Tryd.underlying5 Tryd.underlying9 _ _ [digC m] _ h
set_option maxHeartbeats 1000000 in
theorem decimal_any (n : Nat) (w : World) (hn : n ≤ 999999999) :
    Calls Tryd.prog 12 #[.int .i64 n] w fun e w' => e = .returned (.string ⟨(decS n).toArray⟩) ∧ Below w.heap.size w w' := by
  have k1 := one_digit w (n % 10) (by omega)
  rw [show ((n % 10 : Nat) : Int) = (n : Int) % 10 by omega] at k1
  have hlen := decS_len n
  go_enter Tryd.func12, Tryd.ntmps12
  go_wp2
  clear k1
  go_loopw [0, 3] (fun i s wr => ∃ (m : Nat) (r : List UInt8), i = .int .i64 m ∧ m ≤ n ∧ s = .string ⟨r.toArray⟩ ∧ decS n = decPre m ++ r ∧ Below w.heap.size w wr) (fun i _ _ => (intOf i).toNat)
  case atStart => exact ⟨n, _, rfl, Nat.le_refl _, rfl, decPre_start n, (Below.refl _ _).alloc (Nat.le_refl _) _⟩
  case round =>
    obtain ⟨m, r, rfl, hm, rfl, hd, hb⟩ := hrel
    have hr : r.length ≤ 1000000000 := by
      have := congrArg List.length hd
      rw [List.length_append] at this
      omega
    by_cases h10 : m < 10
    · go_wp2
      go_ret
      exact ⟨by rw [hd]; unfold decPre; rw [if_pos h10]; rfl, hb⟩
    · have k2 := one_digit wr (m / 10 % 10) (by omega)
      rw [show ((m / 10 % 10 : Nat) : Int) = (m : Int) / 10 % 10 by omega] at k2
      go_wp2
      refine ⟨⟨m / 10, digC (m / 10 % 10) :: r, by go_num, by omega, ?_, ?_, hb.alloc hb.size _⟩, ?_⟩
      · congr 1
      · rw [hd, decPre_step h10, List.append_assoc]; rfl
      · simp [intOf]
        omega
end Go.Proofs.YtikehhcbjmcfdaaDoor
