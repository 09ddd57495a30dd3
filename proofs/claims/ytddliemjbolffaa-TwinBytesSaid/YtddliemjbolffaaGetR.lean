/- The document's second telling of Get. -/
import Derived.Test.YtddliemjbolffaaPadB
import Derived.Test.YtddliemjbolffaaPutB
namespace Go.Proofs.Ytddliemjbolffaa
open Go.ChangeShapes Go.WideShapes Go.ChangeAt Go.RowKit
set_option linter.unusedVariables false
theorem rget_any (v : Value) (l : List UInt8) (t n : Int) (w : World) (hv : Sl w w.heap.size v l.length (bs l)) (hl : l.length ≤ 140737488355328)
    (hn1 : -9223372036854775808 ≤ n) (hn2 : n ≤ 9223372036854775807) (ht1 : -9223372036854775808 ≤ t) (ht2 : t ≤ 9223372036854775807) :
    Calls Try.prog 24 #[v, .int .i64 t, .int .i64 n] w fun e w' => e = .returned (.tuple #[.int .u64 (getS l t n).1, .bool (getS l t n).2]) ∧ w = w' := by
  obtain ⟨A, c, rfl, hc1, hc2⟩ := hv.form
  by_cases hn : 1 ≤ n ∧ n ≤ 8 ∧ 0 ≤ t ∧ t + n ≤ l.length
  · have hg : getS l t n = (beVal ((l.drop t.toNat).take n.toNat), true) := by unfold getS; rw [if_pos hn]
    rw [hg]
    obtain ⟨m, rfl⟩ : ∃ m : Nat, n = m := ⟨n.toNat, by omega⟩
    obtain ⟨q, rfl⟩ : ∃ q : Nat, t = q := ⟨t.toNat, by omega⟩
    obtain ⟨h1, h8, _, hq⟩ := hn
    clear hn1 hn2 ht1 ht2 hg
    obtain ⟨b, off, rfl, hb, hcell⟩ := hv.at_ (by omega)
    unfold maxLen at hc2
    go_enter Try.func24, Try.ntmps24
    go_wp2
    go_loop [8, 9] (fun v i => ∃ k : Nat, k ≤ m ∧ i = .int .i64 k ∧ v = .int .u64 (beVal ((l.drop q).take k) : Nat)) (fun _ i => m - (intOf i).toNat)
    case atStart => exact ⟨0, by omega, rfl, rfl⟩
    case round =>
      obtain ⟨k, hk, rfl, rfl⟩ := hrel
      have hbd : beVal ((l.drop q).take k) < 256 ^ k := beVal_lt' _ _ (by simp; omega)
      by_cases hlt : k < m
      · have hx : w.cell? ⟨b, off + (q + k), none⟩ = some (.int .u8 (l[q + k]'(by omega)).toNat) := hcell _ _ (bs_get (by omega))
        have hxl := (l[q + k]'(by omega)).toNat_lt
        have hpw : 256 ^ k ≤ 256 ^ 7 := Nat.pow_le_pow_right (by omega) (by omega)
        have hst : (beVal ((l.drop q).take (k + 1)) : Int) = bits BinOp.or IntKind.u64 (IntKind.u64.wrap ((beVal ((l.drop q).take k) : Int) * 256)) ((l[q + k]'(by omega)).toNat : Int) := by
          rw [or_byte _ _ (by omega) (by omega), List.take_succ_eq_append_getElem (by simp; omega), beVal_snoc]
          simp
        have HS := Lib.hid hst
        clear hst hpw
        go_wp2
        go_round
        case rel => exact ⟨k + 1, by omega, by go_num, by rw [HS.out]⟩
        case measure => simp [intOf]; omega
      · go_wp2
        go_ret2
        have hkm : k = m := by omega
        subst hkm
        exact ⟨rfl, rfl⟩
  · have hg : getS l t n = (0, false) := by unfold getS; rw [if_neg hn]
    rw [hg]
    have hlen : l.length ≤ 9223372036854775807 := by omega
    go_enter Try.func24, Try.ntmps24
    go_wp2
    all_goals go_ret2
    all_goals exact ⟨rfl, rfl⟩

end Go.Proofs.Ytddliemjbolffaa
