/- Package bits: New: contracts. -/
import Derived.Test.YtflodljccloobaaBt2
namespace Go.Proofs.Ytflodljccloobaa
open Go.ChangeShapes Go.WideShapes Go.ChangeAt Go.RowKit Go.Lib
set_option linter.unusedVariables false
theorem new_no (n : Int) (h : n < 1) (w : World) : Calls Try.prog 28 #[.int .i64 n] w fun e w' => e = .returned (.slice none 0 0) ∧ w = w' := by
  go_enter Try.func28, Try.ntmps28
  go_wp2
  go_ret
  exact ⟨rfl, rfl⟩
theorem new_any (n : Nat) (h1 : 1 ≤ n) (h2 : n ≤ 1048576) (w : World) : Calls Try.prog 28 #[.int .i64 (n : Nat)] w fun e w' => ∃ v, e = .returned v ∧ w'.ownsRow w.heap.size 5 1 v ((n + 7) / 8) (bs (List.replicate ((n + 7) / 8) 0)) ∧ Below w.heap.size w w' := by
  obtain ⟨i0, hi, hz0, hz1, hz2⟩ := info_parts (show (Try.prog.info? 5).map (fun i => (i.zero, i.size, i.bytes)) = some (some (.int .u8 0), 1, 1) by kernel_rfl)
  have h1x : ¬ (n : Int) < 1 := by omega
  have h2x : ¬ (1048576 : Int) < (n : Int) := by omega
  have hK : ((n : Int) + 7) / 8 = (((n + 7) / 8 : Nat) : Int) := by omega
  have hKb : (n + 7) / 8 ≤ 140000 := by omega
  generalize (n + 7) / 8 = K at *
  have HK := Lib.hid hK
  clear hK
  go_enter Try.func28, Try.ntmps28
  go_wp2_with (at_make; refine wpList_make_full _ rfl (.tmp 11) (.tmp 11) 87 rfl w.heap.size 5 i0 _ 1 Try.underlying87 hi hz0 hz1 .i64 .i64 _ _ K rfl rfl HK.out HK.out (by rw [hz2]; omega) (by unfold maxLen; omega) (Nat.le_refl _) ?_; intro w2 hown2 hg2)
  go_ret
  have hb2 : Below w.heap.size w w2 := (Below.refl _ w).grown hg2 (Nat.le_refl _) (fun k hk => by cases hk)
  have e0 : (madeCells (Value.int .u8 0).cells (K * 1)).toList = bs (List.replicate K 0) := by rw [made_bytes]; simp [bs]
  rw [e0] at hown2
  exact ⟨_, rfl, hown2, hb2⟩
/-- A byte's bit turned over. -/
def over (l : List UInt8) (i : Nat) : List UInt8 := l.set (i / 8) (l.getD (i / 8) 0 ^^^ UInt8.ofNat (2 ^ (i % 8)))
theorem over_len (l : List UInt8) (i : Nat) : (over l i).length = l.length := by simp [over]
theorem bit_xor8 (x : Nat) (hx : x < 256) (q r : Nat) (hq : q < 8) (hr : r < 8) : (x ^^^ 2 ^ q) / 2 ^ r % 2 = if r = q then 1 - x / 2 ^ r % 2 else x / 2 ^ r % 2 := by
  have key : ∀ q r : Fin 8, ∀ x : Fin 256, (x.val ^^^ 2 ^ q.val) / 2 ^ r.val % 2 = if r.val = q.val then 1 - x.val / 2 ^ r.val % 2 else x.val / 2 ^ r.val % 2 := by decide +kernel
  exact key ⟨q, hq⟩ ⟨r, hr⟩ ⟨x, hx⟩
theorem over_byte (x : UInt8) (q : Nat) (hq : q < 8) : (x ^^^ UInt8.ofNat (2 ^ q)).toNat = x.toNat ^^^ 2 ^ q := by
  have h2 : 2 ^ q < 256 := Nat.pow_lt_pow_right (by omega) (show q < 8 by omega)
  rw [UInt8.toNat_xor]
  congr 1
  simp [UInt8.toNat_ofNat', Nat.mod_eq_of_lt h2]
theorem bit_over {l : List UInt8} {i : Nat} (h : i < 8 * l.length) (j : Nat) : bit (over l i) j = if j = i then !bit l j else bit l j := by
  have hi : i / 8 < l.length := by omega
  by_cases hj : j / 8 < l.length
  · rw [bit_at (by rw [over_len]; exact hj), bit_at hj]
    have hg : l.getD (i / 8) 0 = l[i / 8] := by rw [List.getD_eq_getElem?_getD, List.getElem?_eq_getElem hi]; rfl
    simp only [over, hg, List.getElem_set]
    by_cases he : i / 8 = j / 8
    · rw [if_pos he, over_byte _ _ (by omega), bit_xor8 _ (UInt8.toNat_lt _) _ _ (by omega) (by omega)]
      simp only [he]
      have hx : (l[j / 8]).toNat / 2 ^ (j % 8) % 2 < 2 := Nat.mod_lt _ (by omega)
      by_cases hji : j = i
      · subst hji
        rw [if_pos rfl, if_pos rfl]
        generalize (l[j / 8]).toNat / 2 ^ (j % 8) % 2 = b at *
        have : b = 0 ∨ b = 1 := by omega
        rcases this with rfl | rfl <;> rfl
      · rw [if_neg (by omega), if_neg hji]
    · rw [if_neg he, if_neg (by rintro rfl; exact he rfl)]
  · rw [bit_far (by rw [over_len]; omega), bit_far (by omega), if_neg (by omega)]
end Go.Proofs.Ytflodljccloobaa
