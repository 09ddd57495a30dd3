/- The document's second telling of Put and Get (cut out of XBinb). -/
import Derived.Test.YteeeioafhdkagaaPr
namespace Go.Proofs.Yteeeioafhdkagaa
open Go.ChangeShapes Go.WideShapes Go.ChangeAt Go.RowKit
set_option linter.unusedVariables false

/-! The document's second telling: it appends to what it is given. -/
theorem rput_any (v : Value) (l : List UInt8) (x : Nat) (n : Int) (w : World) (base : Nat) (hv : w.ownsRow base 5 1 v l.length (bs l)) (hbase : base ≤ w.heap.size) (hx : x < 18446744073709551616) (hl : l.length ≤ 8796093022208)
    (hn1 : -9223372036854775808 ≤ n) (hn2 : n ≤ 9223372036854775807) :
    Calls Try.prog 40 #[v, .int .u64 x, .int .i64 n] w fun e w' => ∃ v', e = .returned v' ∧ w'.ownsRow base 5 1 v' (putS l x n).length (bs (putS l x n)) ∧ Below base w w' := by
  obtain ⟨i0, hi, hz0, hz1, hz2⟩ := info_parts info_u8
  obtain ⟨A, c, rfl, hc1, hc2⟩ := (Sl.of_own hv).form
  by_cases hn : n < 1 ∨ 8 < n
  · go_enter Try.func40, Try.ntmps40
    go_wp2
    all_goals go_ret
    all_goals
      have hp : putS l x n = l := by unfold putS; rw [if_pos hn]
      exact ⟨_, rfl, ownsRow_len hv (by rw [hp]) (by rw [hp]), Below.refl _ _⟩
  · obtain ⟨m, rfl⟩ : ∃ m : Nat, n = m := ⟨n.toNat, by omega⟩
    have hm1 : 1 ≤ m := by omega
    have hm8 : m ≤ 8 := by omega
    clear hn hn1 hn2
    go_enter Try.func40, Try.ntmps40
    go_wp2
    go_loopw [0, 7] (fun v i wr => ∃ k : Nat, k ≤ m ∧ i = .int .i64 ((m : Int) - 1 - k) ∧ wr.ownsRow base 5 1 v (l.length + k) (bs (l ++ beTo x m k)) ∧ Below base w wr) (fun _ i _ => (intOf i + 1).toNat)
    case atStart => exact ⟨0, by omega, by simp, ownsRow_len hv (by omega) (by simp [beTo]), Below.refl _ _⟩
    case round =>
      obtain ⟨k, hk, rfl, hown, hbw⟩ := hrel
      by_cases hlt : k < m
      · obtain ⟨A', c', rfl, hc1', hc2'⟩ := (Sl.of_own hown).form
        have hown2 := hown.alloc (.cells #[.int .u8 ((x : Int) / 2 ^ (8 * (m - 1 - k)) % 256)] 5)
        have hsl := Sl.fresh wr #[.int .u8 ((x : Int) / 2 ^ (8 * (m - 1 - k)) % 256)] 5 (n := 1) rfl (by unfold maxLen; omega)
        have hbs : (#[Value.int .u8 ((x : Int) / 2 ^ (8 * (m - 1 - k)) % 256)] : Array Value).toList = bs [UInt8.ofNat (x / 256 ^ (m - 1 - k))] := by
          simp only [bs, List.map_cons, List.map_nil]; rw [byte_val]
        rw [hbs] at hsl
        clear hbs
        have hbs := hbw.size
        go_wp2_with (at_builtin; refine wpList_append_sl _ rfl (.tmp 21) (.tmp 28) _ rfl base 5 i0 _ Try.underlying24 hi hz0 hz1 (by omega) rfl _ (l.length + k) (bs (l ++ beTo x m k)) rfl hown2 _ _ 1 _ rfl hsl bs_one (by omega) (by simp; omega) ?_; intro v2 w2 hown3 hg3 hat3)
        have hb2 : Below base w w2 := below_own (hbw.alloc (by omega) _) hg3 (by simp; omega) (fun k hk => (hown2.lt k hk).1)
        clear hat3 hg3 hsl hown2
        go_roundw
        case rel => exact ⟨k + 1, by omega, by congr 1; omega, ownsRow_len hown3 (by omega) (by rw [beTo_succ, ← List.append_assoc, bs_app (l ++ beTo x m k)]), hb2⟩
        case measure => simp [intOf]; omega
      · obtain ⟨A', c', rfl, hc1', hc2'⟩ := (Sl.of_own hown).form
        go_wp2_with fail
        go_ret
        have hkm : k = m := by omega
        subst hkm
        have hp : putS l x k = l ++ beTo x k k := by unfold putS be; rw [if_neg (by omega)]; simp
        exact ⟨_, rfl, ownsRow_len hown (by rw [hp]; simp) (by rw [hp]), hbw⟩

theorem rget_any (v : Value) (l : List UInt8) (t n : Int) (w : World) (hv : Sl w w.heap.size v l.length (bs l)) (hl : l.length ≤ 140737488355328)
    (hn1 : -9223372036854775808 ≤ n) (hn2 : n ≤ 9223372036854775807) (ht1 : -9223372036854775808 ≤ t) (ht2 : t ≤ 9223372036854775807) :
    Calls Try.prog 38 #[v, .int .i64 t, .int .i64 n] w fun e w' => e = .returned (.tuple #[.int .u64 (getS l t n).1, .bool (getS l t n).2]) ∧ w = w' := by
  obtain ⟨A, c, rfl, hc1, hc2⟩ := hv.form
  by_cases hn : 1 ≤ n ∧ n ≤ 8 ∧ 0 ≤ t ∧ t + n ≤ l.length
  · have hg : getS l t n = (beVal ((l.drop t.toNat).take n.toNat), true) := by unfold getS; rw [if_pos hn]
    rw [hg]
    obtain ⟨m, rfl⟩ : ∃ m : Nat, n = m := ⟨n.toNat, by omega⟩
    obtain ⟨q, rfl⟩ : ∃ q : Nat, t = q := ⟨t.toNat, by omega⟩
    obtain ⟨h1, h8, _, hq⟩ := hn
    clear hn1 hn2 ht1 ht2 hg
    obtain ⟨b, off, rfl, hb, hcell⟩ := hv.at_ (by omega)
    unfold maxLen at hc2
    go_enter Try.func38, Try.ntmps38
    go_wp2
    go_loop [8, 9] (fun v i => ∃ k : Nat, k ≤ m ∧ i = .int .i64 k ∧ v = .int .u64 (beVal ((l.drop q).take k) : Nat)) (fun _ i => m - (intOf i).toNat)
    case atStart => exact ⟨0, by omega, rfl, rfl⟩
    case round =>
      obtain ⟨k, hk, rfl, rfl⟩ := hrel
      have hbd : beVal ((l.drop q).take k) < 256 ^ k := beVal_lt' _ _ (by simp; omega)
      by_cases hlt : k < m
      · have hx : w.cell? ⟨b, off + (q + k), none⟩ = some (.int .u8 (l[q + k]'(by omega)).toNat) := hcell _ _ (bs_get (by omega))
        have hxl := (l[q + k]'(by omega)).toNat_lt
        have hpw : 256 ^ k ≤ 256 ^ 7 := Nat.pow_le_pow_right (by omega) (by omega)
        have hst : (beVal ((l.drop q).take (k + 1)) : Int) = bits BinOp.or IntKind.u64 (IntKind.u64.wrap ((beVal ((l.drop q).take k) : Int) * 256)) ((l[q + k]'(by omega)).toNat : Int) := by
          rw [or_byte _ _ (by omega) (by omega), List.take_succ_eq_append_getElem (by simp; omega), beVal_snoc]
          simp
        have HS := Lib.hid hst
        clear hst hpw
        go_wp2
        go_round
        case rel => exact ⟨k + 1, by omega, by go_num, by rw [HS.out]⟩
        case measure => simp [intOf]; omega
      · go_wp2
        go_ret2
        have hkm : k = m := by omega
        subst hkm
        exact ⟨rfl, rfl⟩
  · have hg : getS l t n = (0, false) := by unfold getS; rw [if_neg hn]
    rw [hg]
    have hlen : l.length ≤ 9223372036854775807 := by omega
    go_enter Try.func38, Try.ntmps38
    go_wp2
    all_goals go_ret2
    all_goals exact ⟨rfl, rfl⟩

end Go.Proofs.Yteeeioafhdkagaa
