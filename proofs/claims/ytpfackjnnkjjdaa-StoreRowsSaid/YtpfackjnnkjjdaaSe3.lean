/- Package store: Least, Format. -/
import Derived.Test.YtpfackjnnkjjdaaSe2
import Derived.Test.YtpfackjnnkjjdaaTn5
namespace Go.Proofs.Ytpfackjnnkjjdaa
open Go.ChangeShapes Go.WideShapes Go.ChangeAt Go.RowKit Go.Lib
set_option linter.unusedVariables false
set_option linter.unusedSimpArgs false
set_option maxRecDepth 100000
namespace Se
open Crc Dk Tw
def r0 : Rt := ⟨0, 0, 0, 0, 0, 0, 0, 0⟩
theorem r0_ok : r0.Ok := ⟨by decide, by decide, by decide, by decide, by decide, by decide, by decide, by decide⟩
/-- The journal's sectors made blank, one by one. -/
def blankTo (S : DS) : Nat → DS
  | 0 => S
  | k + 1 => (blankTo S k).wr (98 + k) []
theorem blank_len (S : DS) (k : Nat) : (blankTo S k).last.length = S.last.length := by
  induction k with
  | zero => rfl
  | succ k ih => exact ih
theorem blank_cnt (S : DS) (k : Nat) : (blankTo S k).wtg = S.wtg + k ∧ (blankTo S k).calls = S.calls + k := by
  induction k with
  | zero => exact ⟨rfl, rfl⟩
  | succ k ih =>
    have h1 : (blankTo S (k + 1)).wtg = (blankTo S k).wtg + 1 := rfl
    have h2 : (blankTo S (k + 1)).calls = (blankTo S k).calls + 1 := rfl
    omega
theorem blank_up {S : DS} (h : S.up) (k : Nat) : (blankTo S k).up := by
  induction k with
  | zero => exact h
  | succ k ih => exact ⟨ih.dead, ih.off, ih.arm⟩
section
variable {o w w' : World} {X : Nat} {O : Nat → Prop} {S : DS}
theorem least_any (w : World) : Calls Try.prog 7 #[] w fun e w' => e = .returned (.int .i64 610) ∧ w = w' := by
  go_enter Try.func7, Try.ntmps7
  go_wp2
  go_ret
  exact ⟨rfl, rfl⟩
set_option maxHeartbeats 4000000 in
theorem format_any (h : Dsk o w X O S) (hu : S.up) (hl : S.last.length = 610) (hw : S.wtg ≤ 1000) (hc : S.calls ≤ 100000) : Calls Try.prog 8 #[.pointer (some ⟨X, 0, none⟩)] w fun e w' => ∃ O', e = .returned (.int .i64 0) ∧ Dsk o w' X O' (fmtS (blankTo S 512) 0 (rootB r0)) ∧ Eff O w w' ∧ ∀ k, O' k → O k ∨ w.heap.size ≤ k := by
  have hs := sectors_any h.is.choose_spec
  rw [hl] at hs
  have HL := Lib.hid hl
  clear hl
  go_enter Try.func8, Try.ntmps8
  go_wp2_with (go_at_call 20; (with_reducible refine hs.mono ?_); rintro e w1 ⟨rfl, rfl⟩)
  go_loopw [3] (fun i wr => ∃ (k : Nat) (O' : Nat → Prop), i = .int .i64 ((98 + k : Nat) : Int) ∧ k ≤ 512 ∧ Dsk o wr X O' (blankTo S k) ∧ Eff O w wr ∧ ∀ q, O' q → O q ∨ w.heap.size ≤ q) (fun i _ => 610 - (intOf i).toNat)
  case atStart => exact ⟨0, O, rfl, by omega, h, Eff.refl _ _, fun q hq => .inl hq⟩
  case round =>
    obtain ⟨k, O', rfl, hk, hD, hE, hO⟩ := hrel
    have hcn := blank_cnt S k
    have hln := (blank_len S k).trans HL.out
    by_cases hkl : k < 512
    · have c1 := d_write hD (blank_up hu k) (98 + k) (by omega) (by omega) (by omega) (.slice none 0 0) [] 0 (Nat.zero_le _) Sl.nil_ (by simp) (fun q hq => absurd hq (by omega))
      have hmx : ((98 + k : Nat) : Int) < 610 := by omega
      have hm0 : (0 : Int) ≤ ((98 + k : Nat) : Int) := by omega
      have hnext : ((98 + k : Nat) : Int) + 1 = ((98 + (k + 1) : Nat) : Int) := by omega
      have HN := Lib.hid hnext
      have hms : (98 + k : Nat) < 610 := by omega
      have HMS := Lib.hid hms
      obtain ⟨m, hm⟩ : ∃ m, 98 + k = m := ⟨_, rfl⟩
      rw [hm] at c1 hmx hm0 HN HMS ⊢
      have HM := Lib.hid hm
      clear hcn hln hnext hms hm hD
      go_wp2_with (go_at_call 21; (with_reducible refine c1.mono ?_); rintro e w2 ⟨O2, rfl, hD2, hE2, hO2⟩)
      have hN := HN.out
      have hM := HM.out
      refine ⟨⟨k + 1, O2, by rw [hN], by omega, ?_, hE.trans hE2 fun q hq h1 => (hO q h1).elim id fun h2 => absurd hq (by omega), fun q hq => (hO2 q hq).elim (hO q) fun h2 => .inr (Nat.le_trans hE.size h2)⟩, ?_⟩
      · rw [← hM] at hD2; exact hD2
      · have := HMS.out
        simp only [intOf]
        omega
    · obtain rfl : k = 512 := by omega
      have ce : ∀ W, Calls Try.prog 23 #[.agg #[.int .u64 0, .int .u64 0, .int .u64 0, .int .i64 0, .int .u32 0, .int .i64 0, .int .i64 0, .int .u32 0]] W fun e w' => ∃ v, e = .returned v ∧ w'.ownsRow W.heap.size 5 1 v 37 (bs (rootB r0)) ∧ Below W.heap.size W w' := fun W => encode_any r0 r0_ok
      have cf : ∀ W v, Below wr.heap.size wr W → Sl W W.heap.size v 37 (bs (rootB r0)) → Calls Try.prog 22 #[.pointer (some ⟨X, 0, none⟩), .int .i64 0, v] W fun e w' => ∃ O2, e = .returned (.int .i64 0) ∧ Dsk o w' X O2 (fmtS (blankTo S 512) 0 (rootB r0)) ∧ Eff O' W w' ∧ ∀ q, O2 q → O' q ∨ W.heap.size ≤ q := fun W v hW hv => format_ok (hD.below hW) (blank_up hu 512) 0 (by omega) (by omega) (by omega) v (rootB r0) (by rw [rootB_len]; exact hv) (by rw [rootB_len]; decide)
      have ce1 := ce wr
      clear hcn hln
      go_wp2_with (first
        | (go_at_call 23; (with_reducible refine ce1.mono ?_); rintro e w2 ⟨v2, rfl, hs2, b2⟩; have cf2 := cf w2 v2 b2 (Sl.of_own hs2))
        | (go_at_call 22; (with_reducible refine cf2.mono ?_); rintro e w3 ⟨O3, rfl, hD3, hE3, hO3⟩))
      go_ret
      refine ⟨O3, rfl, hD3, (hE.trans (Eff.of (S := fun _ => False) b2) fun _ _ h => h.elim).trans hE3 fun q hq h1 => (hO q h1).elim id fun h2 => absurd hq (by omega), fun q hq => (hO3 q hq).elim (hO q) fun h2 => .inr (Nat.le_trans hE.size (Nat.le_trans b2.size h2))⟩
end
end Se
end Go.Proofs.Ytpfackjnnkjjdaa
