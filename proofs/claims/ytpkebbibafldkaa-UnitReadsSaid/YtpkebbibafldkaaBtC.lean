/- Package bits: Count: contract. -/
import Derived.Test.YtpkebbibafldkaaBt1
namespace Go.Proofs.Ytpkebbibafldkaa
open Go.ChangeShapes Go.WideShapes Go.ChangeAt Go.RowKit Go.Lib
set_option linter.unusedVariables false
set_option maxHeartbeats 1000000 in
theorem count_any (v : Value) (l : List UInt8) (w : World) (hl : l.length ≤ 1000000) (hd : Sl w w.heap.size v l.length (bs l)) :
    Calls Try.prog 47 #[v] w fun e w' => e = .returned (.int .i64 (cnt l (8 * l.length) : Nat)) ∧ w = w' := by
  obtain ⟨A, c, rfl, hc1, hc2⟩ := hd.form
  have hlx : (l.length : Int) ≤ 1000000 := by omega
  go_enter Try.func47, Try.ntmps47
  go_wp2
  go_loopw [3, 8] (fun n i wr => ∃ k : Nat, k ≤ l.length ∧ n = .int .i64 (cnt l (8 * k) : Nat) ∧ i = .int .i64 k ∧ w = wr) (fun _ i _ => l.length - (intOf i).toNat)
  case atStart => exact ⟨0, by omega, rfl, rfl, rfl⟩
  case round =>
    obtain ⟨k, hk, rfl, rfl, rfl⟩ := hrel
    by_cases hlt : k < l.length
    · have hltx : (k : Int) < (l.length : Int) := by omega
      obtain ⟨b, off, rfl, _, hat⟩ := hd.at_ (by omega)
      have hcl : w.cell? ⟨b, off + k, none⟩ = some (.int .u8 ((l[k]).toNat : Int)) := hat _ _ (bs_get hlt)
      have hstep := Lib.hid (cnt_byte hlt)
      have hcle := cnt_le l (8 * k)
      have hx := (l[k]).toNat_lt
      clear hat
      generalize (l[k]).toNat = x at *
      generalize hC : cnt l (8 * k) = C at *
      clear hC
      have hpx : pop8 x ≤ 8 := by unfold pop8; omega
      go_wp2
      go_loopw [3, 5] (fun n xv w2 => ∃ N X : Nat, X < 256 ∧ N ≤ 8000008 ∧ Hid (N + pop8 X = C + pop8 x) ∧ n = .int .i64 N ∧ xv = .int .u8 X ∧ w = w2) (fun _ xv _ => (intOf xv).toNat)
      case atStart => exact ⟨C, x, by omega, by omega, Lib.hid rfl, rfl, rfl, rfl⟩
      case round =>
        obtain ⟨N, X, hX, hN, HN, rfl, rfl, rfl⟩ := hrel
        rcases Nat.eq_zero_or_pos X with rfl | hX0
        · go_wp2
          have hNe : N = cnt l (8 * (k + 1)) := by
            have h1 := hstep.out
            have h2 := HN.out
            have h3 : pop8 0 = 0 := rfl
            omega
          exact ⟨⟨k + 1, by omega, by rw [← hNe], by go_num, trivial⟩, by simp [intOf]; omega⟩
        · obtain ⟨Y, hY, hYX, HY⟩ := pop_step X hX0 hX
          have hX0x : (0 : Int) < X := by omega
          have HY2 := Lib.hid HY
          clear HY
          go_wp2
          have h1 := HN.out
          have h2 := HY2.out
          exact ⟨⟨N + 1, Y, by omega, by omega, Lib.hid (by omega), by go_num, rfl, trivial⟩, by simp [intOf]; omega⟩
    · obtain rfl : k = l.length := by omega
      go_wp2
      go_ret
      exact ⟨rfl, rfl⟩
end Go.Proofs.Ytpkebbibafldkaa
