/- Package text: Name: contract. -/
import Derived.Test.YtikehhcbjmcfdaaDoorTxtB
import Derived.Test.YtikehhcbjmcfdaaDoorTxtN
namespace Go.Proofs.YtikehhcbjmcfdaaDoor
open Go.ChangeShapes Go.WideShapes Go.ChangeAt Go.RowKit
set_option linter.unusedVariables false
/-- May the sign stand in a name? -/
def nameSign (c : UInt8) : Bool := decide ((97 : Int) ≤ c.toNat ∧ (c.toNat : Int) ≤ 122) || decide ((48 : Int) ≤ c.toNat ∧ (c.toNat : Int) ≤ 57) || decide (0 ≤ Lib.indexByte [46, 45, 58] c)
def nameTail (l : List UInt8) : Bool := decide ((1 : Int) ≤ l.length) && decide ((l.length : Int) ≤ 219) && l.all nameSign
/-- May it be a name? -/
def nameS (l : List UInt8) : Bool := Lib.hasPrefix l [105, 113, 110, 46] && nameTail (Lib.trimPrefix l [105, 113, 110, 46])
set_option maxHeartbeats 1000000 in
theorem Name_any (s : ByteArray) (w : World) (hs : s.size ≤ maxLen) :
    Calls Tryd.prog 18 #[.string s] w fun e w' => e = .returned (.bool (nameS s.data.toList)) ∧ w = w' := by
  have hsz : s.data.toList.length = s.size := by simp
  unfold maxLen at hs
  have htl := trim_len s.data.toList [105, 113, 110, 46]
  obtain ⟨t, ht⟩ : ∃ t : ByteArray, t = ⟨(Lib.trimPrefix s.data.toList [105, 113, 110, 46]).toArray⟩ := ⟨_, rfl⟩
  have htd : Lib.trimPrefix s.data.toList [105, 113, 110, 46] = t.data.toList := by rw [ht]
  have htz : t.data.toList.length = t.size := by simp
  have hts : t.size ≤ 2 ^ 63 - 1 := by rw [← htz, ← htd]; omega
  have hN : Hid (nameS s.data.toList = (Lib.hasPrefix s.data.toList [105, 113, 110, 46] && nameTail t.data.toList)) := Lib.hid (by unfold nameS; rw [htd])
  clear htl htd
  by_cases hp : Lib.hasPrefix s.data.toList [105, 113, 110, 46] = true
  · have hc : ∀ w, Calls Tryd.prog 20 #[.string s, .string ⟨#[105, 113, 110, 46]⟩] w fun e w' => e = .returned (.tuple #[.string t, .bool true]) ∧ w' = w := fun w => by
      have h := Go.Proofs.Tryd.strings_CutPrefix s ⟨#[105, 113, 110, 46]⟩ w
      rw [show (ByteArray.mk #[105, 113, 110, 46]).data.toList = [105, 113, 110, 46] from rfl, ← ht, hp] at h
      exact h
    clear ht
    by_cases hl : (t.size : Int) < 1 ∨ 219 < (t.size : Int)
    · go_enter Tryd.func18, Tryd.ntmps18
      go_wp2_with (go_at_call 20; refine (hc _).mono ?_; rintro e w' ⟨rfl, rfl⟩)
      all_goals go_ret
      all_goals refine ⟨ret_b ?_, rfl⟩
      all_goals
        rw [hN.out, hp]
        unfold nameTail
        rw [htz]
        rcases hl with h | h
        · rw [decide_eq_false (by omega : ¬ (1 : Int) ≤ t.size)]; simp
        · rw [decide_eq_false (by omega : ¬ (t.size : Int) ≤ 219)]; simp
    · have hl1 : ¬ ((t.size : Int) < 1) := by omega
      have hl2 : ¬ (219 < (t.size : Int)) := by omega
      clear hl
      go_enter Tryd.func18, Tryd.ntmps18
      go_wp2_with (go_at_call 20; refine (hc _).mono ?_; rintro e w' ⟨rfl, rfl⟩)
      go_loop [5] (fun i => ∃ k : Nat, k ≤ t.size ∧ i = .int .i64 k ∧ (t.data.toList.take k).all nameSign = true) (fun i => t.size - (intOf i).toNat)
      case atStart => exact ⟨0, Nat.zero_le _, rfl, rfl⟩
      case round =>
        obtain ⟨k, hk, rfl, hx⟩ := hrel
        by_cases hlt : k < t.size
        · have hts := all_take hlt hx
          have HS := Lib.hid hts
          clear hts hx
          go_wp2_with (first
            | (go_at_call 25; refine (low_any _ _).mono ?_; rintro e w' ⟨rfl, rfl⟩)
            | (go_at_call 26; refine (digit_any _ _).mono ?_; rintro e w' ⟨rfl, rfl⟩)
            | (go_at_call 27; refine (Go.Proofs.Tryd.strings_IndexByte _ _ _).mono ?_; rintro e w' ⟨rfl, rfl⟩))
          · rename_i h2 h1 w' h
            have hks : nameSign t[k] = false := by
              have h0 := h.2
              unfold nameSign
              rw [decide_eq_false (by omega : ¬ ((97 : Int) ≤ t[k].toNat ∧ (t[k].toNat : Int) ≤ 122)), decide_eq_false (by omega : ¬ ((48 : Int) ≤ t[k].toNat ∧ (t[k].toNat : Int) ≤ 57))]
              simpa using h0
            go_ret
            refine ⟨ret_b ?_, rfl⟩
            rw [hN.out, hp]
            unfold nameTail
            have h4 := HS.out
            rw [hks] at h4
            rw [all_dead h4, Bool.and_false, Bool.and_false]
          all_goals
            have hks : nameSign t[k] = true := by
              unfold nameSign
              first
                | (rw [decide_eq_true (by omega : (97 : Int) ≤ t[k].toNat ∧ (t[k].toNat : Int) ≤ 122)]; rfl)
                | (rw [decide_eq_true (by omega : (48 : Int) ≤ t[k].toNat ∧ (t[k].toNat : Int) ≤ 57)]; simp)
                | (rename_i h
                   have h0 : (0 : Int) ≤ Lib.indexByte [46, 45, 58] t[k] := by
                     rcases h with h | h
                     · exfalso; simp at h; omega
                     · simpa using h
                   rw [decide_eq_true h0, Bool.or_true])
            refine ⟨⟨k + 1, by omega, by go_num, by rw [HS.out]; exact hks⟩, ?_⟩
            simp [intOf]
            omega
        · obtain rfl : k = t.size := by omega
          rw [List.take_of_length_le (by omega)] at hx
          go_wp2
          go_ret
          refine ⟨ret_b ?_, rfl⟩
          rw [hN.out, hp]
          unfold nameTail
          rw [htz, hx, decide_eq_true (by omega : (1 : Int) ≤ t.size), decide_eq_true (by omega : (t.size : Int) ≤ 219)]
          rfl
  · have hp : Lib.hasPrefix s.data.toList [105, 113, 110, 46] = false := by simpa using hp
    have hc : ∀ w, Calls Tryd.prog 20 #[.string s, .string ⟨#[105, 113, 110, 46]⟩] w fun e w' => e = .returned (.tuple #[.string t, .bool false]) ∧ w' = w := fun w => by
      have h := Go.Proofs.Tryd.strings_CutPrefix s ⟨#[105, 113, 110, 46]⟩ w
      rw [show (ByteArray.mk #[105, 113, 110, 46]).data.toList = [105, 113, 110, 46] from rfl, ← ht, hp] at h
      exact h
    clear ht
    go_enter Tryd.func18, Tryd.ntmps18
    go_wp2_with (go_at_call 20; refine (hc _).mono ?_; rintro e w' ⟨rfl, rfl⟩)
    all_goals go_ret
    all_goals refine ⟨ret_b ?_, rfl⟩
    all_goals rw [hN.out, hp, Bool.false_and]
end Go.Proofs.YtikehhcbjmcfdaaDoor
