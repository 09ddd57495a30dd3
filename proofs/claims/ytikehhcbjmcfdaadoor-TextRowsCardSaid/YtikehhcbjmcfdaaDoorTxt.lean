/- Package text and its second telling: signs and numbers: contracts. -/
import Derived.Test.YtikehhcbjmcfdaaDoorRows
import Derived.Test.YtikehhcbjmcfdaaDoorBase
import Derived.Outline
import Derived.Lib.Hide
import Derived.LoopTactic
namespace Go.Proofs.YtikehhcbjmcfdaaDoor
open Go.ChangeShapes Go.WideShapes Go.ChangeAt Go.RowKit
set_option linter.unusedVariables false

theorem ret_i {k : IntKind} {a b : Int} (h : a = b) : Ending.returned (.int k a) = .returned (.int k b) := by rw [h]
theorem ret_b {a b : Bool} (h : a = b) : Ending.returned (.bool a) = .returned (.bool b) := by rw [h]

theorem low_any (c : Int) (w : World) : Calls Tryd.prog 25 #[.int .u8 c] w fun e w' => e = .returned (.bool (decide (97 ≤ c ∧ c ≤ 122))) ∧ w = w' := by
  go_enter Tryd.func25, Tryd.ntmps25
  go_wp2
  all_goals go_ret
  all_goals exact ⟨ret_b (by simp; omega), rfl⟩
theorem cap_any (c : Int) (w : World) : Calls Tryd.prog 45 #[.int .u8 c] w fun e w' => e = .returned (.bool (decide (65 ≤ c ∧ c ≤ 90))) ∧ w = w' := by
  go_enter Tryd.func45, Tryd.ntmps45
  go_wp2
  all_goals go_ret
  all_goals exact ⟨ret_b (by simp; omega), rfl⟩
theorem digit_any (c : Int) (w : World) : Calls Tryd.prog 26 #[.int .u8 c] w fun e w' => e = .returned (.bool (decide (48 ≤ c ∧ c ≤ 57))) ∧ w = w' := by
  go_enter Tryd.func26, Tryd.ntmps26
  go_wp2
  all_goals go_ret
  all_goals exact ⟨ret_b (by simp; omega), rfl⟩

/-- What a sign counts as a digit, 99 if it is none. -/
def worthS (c : Int) : Int := if 48 ≤ c ∧ c ≤ 57 then c - 48 else if 97 ≤ c ∧ c ≤ 102 then c - 87 else if 65 ≤ c ∧ c ≤ 70 then c - 55 else 99
theorem worth_any (c : Int) (w : World) (h0 : 0 ≤ c) (h1 : c ≤ 255) : Calls Tryd.prog 36 #[.int .u8 c] w fun e w' => e = .returned (.int .i64 (worthS c)) ∧ w = w' := by
  go_enter Tryd.func36, Tryd.ntmps36
  go_wp2_with (go_at_call 26; refine (digit_any _ _).mono ?_; rintro e w' ⟨rfl, rfl⟩)
  all_goals go_ret
  all_goals refine ⟨ret_i ?_, rfl⟩
  all_goals unfold worthS
  all_goals first | (rw [if_pos (by omega)]; done) | (rw [if_neg (by omega), if_pos (by omega)]; omega) | (rw [if_neg (by omega), if_neg (by omega), if_pos (by omega)]; omega) | (rw [if_neg (by omega), if_neg (by omega), if_neg (by omega)]; done) | (split <;> omega)

/-- The number that digits tell to base b, none if one is no digit. -/
def numFrom (b : Int) (a : Option Int) (l : List UInt8) : Option Int := l.foldl (fun a c => a.bind fun v => if worthS (c.toNat : Int) < b then some (v * b + worthS (c.toNat : Int)) else none) a
def numF (b : Int) (l : List UInt8) : Option Int := numFrom b (some 0) l
theorem numFrom_none (b : Int) (l : List UInt8) : numFrom b none l = none := by
  induction l with
  | nil => rfl
  | cons c l ih => exact ih
theorem numFrom_app (b : Int) (a : Option Int) (l r : List UInt8) : numFrom b a (l ++ r) = numFrom b (numFrom b a l) r := by unfold numFrom; rw [List.foldl_append]
theorem numF_snoc (b : Int) (l : List UInt8) (c : UInt8) {v : Int} (h : numF b l = some v) : numF b (l ++ [c]) = if worthS (c.toNat : Int) < b then some (v * b + worthS (c.toNat : Int)) else none := by
  unfold numF at *
  rw [numFrom_app, h]
  rfl
theorem numF_dead (b : Int) (l r : List UInt8) (h : numF b l = none) : numF b (l ++ r) = none := by
  unfold numF at *
  rw [numFrom_app, h, numFrom_none]
theorem worthS_bd (c : Int) : 0 ≤ worthS c ∧ worthS c ≤ 99 := by unfold worthS; (repeat' split) <;> omega
theorem numFrom_bd {b : Int} (hb : 0 < b) (l : List UInt8) : ∀ (a v : Int) (m : Nat), numFrom b (some a) l = some v → 0 ≤ a → a < b ^ m → 0 ≤ v ∧ v < b ^ (m + l.length) := by
  induction l with
  | nil => intro a v m h h0 h1; obtain rfl := Option.some.inj h; exact ⟨h0, h1⟩
  | cons c l ih =>
    intro a v m h h0 h1
    have hw := worthS_bd (c.toNat : Int)
    by_cases hc : worthS (c.toNat : Int) < b
    · have h2 : numFrom b (some (a * b + worthS (c.toNat : Int))) l = some v := by
        rw [← h]; show _ = numFrom b (if worthS (c.toNat : Int) < b then _ else none) l; rw [if_pos hc]
      have h3 : 0 ≤ a * b := Int.mul_nonneg h0 (by omega)
      have h4 : a * b + worthS (c.toNat : Int) < b ^ (m + 1) := by
        have h5 : (a + 1) * b ≤ b ^ m * b := Int.mul_le_mul_of_nonneg_right (by omega) (by omega)
        have h6 : (a + 1) * b = a * b + b := by rw [Int.add_mul, Int.one_mul]
        rw [Int.pow_succ]
        omega
      have := ih _ v (m + 1) h2 (by omega) h4
      rw [List.length_cons, show m + (l.length + 1) = m + 1 + l.length by omega]
      exact this
    · have h2 : numFrom b none l = some v := by
        rw [← h]; show _ = numFrom b (if worthS (c.toNat : Int) < b then _ else none) l; rw [if_neg hc]
      rw [numFrom_none] at h2
      cases h2
/-- What number tells. -/
def numR (b m : Int) (l : List UInt8) : Int × Bool := if (l.length : Int) < 1 ∨ m < l.length then (0, false) else match numF b l with | some v => (v, true) | none => (0, false)
theorem take_snoc (s : ByteArray) (k : Nat) (h : k < s.size) : s.data.toList.take (k + 1) = s.data.toList.take k ++ [s[k]] := by
  rw [List.take_succ_eq_append_getElem (by simpa using h)]; rfl

theorem ret_n {b m : Int} {l : List UInt8} {v : Int} {t : Bool} (h : numR b m l = (v, t)) : Ending.returned (.tuple #[.int .i64 v, .bool t]) = .returned (.tuple #[.int .i64 (numR b m l).1, .bool (numR b m l).2]) := by rw [h]
set_option maxHeartbeats 1000000 in
theorem number_any (s : ByteArray) (b m : Int) (w : World) (hbm : b = 10 ∧ m = 9 ∨ b = 16 ∧ m = 7) (hs : s.size ≤ maxLen) :
    Calls Tryd.prog 21 #[.string s, .int .i64 b, .int .i64 m] w fun e w' => e = .returned (.tuple #[.int .i64 (numR b m s.data.toList).1, .bool (numR b m s.data.toList).2]) ∧ w = w' := by
  unfold maxLen at hs
  have hsz : s.data.toList.length = s.size := by simp
  by_cases hl : (s.size : Int) < 1 ∨ m < s.size
  · have hR : numR b m s.data.toList = (0, false) := by unfold numR; rw [hsz, if_pos hl]
    go_enter Tryd.func21, Tryd.ntmps21
    go_wp2
    all_goals exact bodyPost_ret (v := .tuple #[.int .i64 0, .bool false]) (by simp [results, Tryd.results21, go_sem]) rfl (by first | exact ⟨ret_n hR, rfl⟩ | exact ⟨rfl, rfl⟩)
  · have hl1 : ¬ ((s.size : Int) < 1) := by omega
    have hl2 : ¬ (m < (s.size : Int)) := by omega
    have hR : Hid (numR b m s.data.toList = match numF b s.data.toList with | some v => (v, true) | none => (0, false)) := Lib.hid (by unfold numR; rw [hsz, if_neg hl])
    clear hl
    go_enter Tryd.func21, Tryd.ntmps21
    go_wp2
    go_loop [8, 9] (fun v i => ∃ (k : Nat) (x : Int), k ≤ s.size ∧ i = .int .i64 k ∧ v = .int .i64 x ∧ numF b (s.data.toList.take k) = some x) (fun _ i => s.size - (intOf i).toNat)
    case atStart => exact ⟨0, 0, Nat.zero_le _, rfl, rfl, rfl⟩
    case round =>
      obtain ⟨k, x, hk, rfl, rfl, hx⟩ := hrel
      by_cases hlt : k < s.size
      · have hb0 : 0 < b := by omega
        have hxb := numFrom_bd hb0 _ 0 x 0 hx (Int.le_refl _) (by simp)
        have hxl : (s.data.toList.take k).length = k := by rw [List.length_take]; omega
        rw [hxl, Nat.zero_add] at hxb
        have hx9 : x < 1000000000 := by
          rcases hbm with ⟨rfl, rfl⟩ | ⟨rfl, rfl⟩
          · have : (10 : Int) ^ k ≤ 10 ^ 9 := by
              have h := Nat.pow_le_pow_right (n := 10) (by omega) (show k ≤ 9 by omega)
              exact_mod_cast h
            omega
          · have : (16 : Int) ^ k ≤ 16 ^ 7 := by
              have h := Nat.pow_le_pow_right (n := 16) (by omega) (show k ≤ 7 by omega)
              exact_mod_cast h
            omega
        have hx0 := hxb.1
        clear hxb
        have hw := worthS_bd (s[k].toNat : Int)
        have hc := s[k].toNat_lt
        have hts := take_snoc s k hlt
        have hsn := numF_snoc b (s.data.toList.take k) s[k] hx
        rw [← hts] at hsn
        have HS := Lib.hid hsn
        have HX := Lib.hid hx
        clear hsn hts hx
        by_cases hd : worthS (s[k].toNat : Int) < b
        · have hxm : Hid (x * b + worthS (s[k].toNat : Int) ≤ 99999999999) := Lib.hid (by rcases hbm with ⟨rfl, rfl⟩ | ⟨rfl, rfl⟩ <;> omega)
          rcases hbm with ⟨rfl, rfl⟩ | ⟨rfl, rfl⟩
          all_goals
            go_wp2_with (go_at_call 36; refine (worth_any _ _ (by omega) (by omega)).mono ?_; rintro e w' ⟨rfl, rfl⟩)
            go_round
            case rel => exact ⟨k + 1, _, by omega, by go_num, rfl, by rw [HS.out, if_pos hd]⟩
            case measure => simp [intOf]; omega
        · have hdead : numF b s.data.toList = none := by
            have h := HS.out
            rw [if_neg hd] at h
            have h2 := numF_dead b _ (s.data.toList.drop (k + 1)) h
            rwa [List.take_append_drop] at h2
          have HD := Lib.hid hdead
          clear hdead
          go_wp2_with (go_at_call 36; refine (worth_any _ _ (by omega) (by omega)).mono ?_; rintro e w' ⟨rfl, rfl⟩)
          all_goals exact bodyPost_ret (v := .tuple #[.int .i64 0, .bool false]) (by simp [results, Tryd.results21, go_sem]) rfl ⟨ret_n (by rw [hR.out, HD.out]), rfl⟩
      · obtain rfl : k = s.size := by omega
        rw [List.take_of_length_le (by omega)] at hx
        have HX := Lib.hid hx
        clear hx
        go_wp2
        exact bodyPost_ret (v := .tuple #[.int .i64 x, .bool true]) (by simp [results, Tryd.results21, go_sem]) rfl ⟨ret_n (by rw [hR.out, HX.out]), rfl⟩
end Go.Proofs.YtikehhcbjmcfdaaDoor
