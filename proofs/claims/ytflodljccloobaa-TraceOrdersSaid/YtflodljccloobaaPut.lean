/- Put and Get of package bin: contracts (for seats of other layers: cut out of XBin). -/
import Derived.Test.YtflodljccloobaaRows
import Derived.Test.YtflodljccloobaaBase
import Derived.Outline
import Derived.Lib.Hide
import Derived.Deep.Cut
import Derived.LoopTactic
import Derived.Laws.BitsAllLaws
namespace Go.Proofs.Ytflodljccloobaa
open Go.ChangeShapes Go.WideShapes Go.ChangeAt Go.RowKit
set_option linter.unusedVariables false
theorem ret_i {k : IntKind} {a b : Int} (h : a = b) : Ending.returned (.int k a) = .returned (.int k b) := by rw [h]
theorem ret_b {a b : Bool} (h : a = b) : Ending.returned (.bool a) = .returned (.bool b) := by rw [h]
theorem info_u8 : (Try.prog.info? 5).map (fun i => (i.zero, i.size, i.bytes)) = some (some (.int .u8 0), 1, 1) := by kernel_rfl

/-- The first k of the n bytes of x, the highest first. -/
def beTo (x n k : Nat) : List UInt8 := (List.range k).map fun j => UInt8.ofNat (x / 256 ^ (n - 1 - j))
def be (x n : Nat) : List UInt8 := beTo x n n
@[simp] theorem beTo_len (x n k : Nat) : (beTo x n k).length = k := by simp [beTo]
@[simp] theorem be_len (x n : Nat) : (be x n).length = n := by simp [be]
theorem beTo_succ (x n k : Nat) : beTo x n (k + 1) = beTo x n k ++ [UInt8.ofNat (x / 256 ^ (n - 1 - k))] := by simp [beTo, List.range_succ]
/-- What Put tells. -/
def putS (l : List UInt8) (x : Nat) (n : Int) : List UInt8 := if n < 1 ∨ 8 < n then l else l ++ be x n.toNat

theorem ownsRow_len {w : World} {base e n : Nat} {v : Value} {xs : List Value} (h : w.ownsRow base e 1 v n xs) {m : Nat} (hm : n = m) {ys : List Value} (hy : xs = ys) : w.ownsRow base e 1 v m ys := by subst hm; subst hy; exact h

set_option maxRecDepth 100000 in
theorem put_any (v : Value) (l : List UInt8) (x : Nat) (n : Int) (w : World) (hv : Sl w w.heap.size v l.length (bs l)) (hx : x < 18446744073709551616) (hl : l.length ≤ 8796093022208)
    (hn1 : -9223372036854775808 ≤ n) (hn2 : n ≤ 9223372036854775807) :
    Calls Try.prog 56 #[v, .int .u64 x, .int .i64 n] w fun e w' => ∃ v', e = .returned v' ∧ w'.ownsRow w.heap.size 5 1 v' (putS l x n).length (bs (putS l x n)) ∧ Below w.heap.size w w' := by
  obtain ⟨i0, hi, hz0, hz1, hz2⟩ := info_parts info_u8
  obtain ⟨A, c, rfl, hc1, hc2⟩ := hv.form
  by_cases hn : n < 1 ∨ 8 < n
  · go_enter Try.func56, Try.ntmps56
    go_wp2_with (at_builtin; refine wpList_append_sl _ rfl (.const (.slice none 0 0)) (.tmp 9) _ rfl w.heap.size 5 i0 _ Try.underlying23 hi hz0 hz1 (by omega) rfl (.slice none 0 0) 0 [] rfl (World.ownsRow_nil _ _ _ _) w.heap.size _ l.length (bs l) rfl hv bs_one (by omega) (Nat.le_refl _) ?_; intro v1 w1 hown1 hg1 hat1)
    all_goals go_ret
    all_goals
      have hb1 : Below w.heap.size w w1 := below_own (Below.refl _ _) hg1 (Nat.le_refl _) (by simp [Value.ownBlock])
      have hp : putS l x n = l := by unfold putS; rw [if_pos hn]
      exact ⟨_, rfl, ownsRow_len hown1 (by rw [hp]; omega) (by rw [hp]; simp), hb1⟩
  · obtain ⟨m, rfl⟩ : ∃ m : Nat, n = m := ⟨n.toNat, by omega⟩
    have hm1 : 1 ≤ m := by omega
    have hm8 : m ≤ 8 := by omega
    clear hn hn1 hn2
    go_enter Try.func56, Try.ntmps56
    go_wp2_with (at_builtin; refine wpList_append_sl _ rfl (.const (.slice none 0 0)) (.tmp 9) _ rfl w.heap.size 5 i0 _ Try.underlying23 hi hz0 hz1 (by omega) rfl (.slice none 0 0) 0 [] rfl (World.ownsRow_nil _ _ _ _) w.heap.size _ l.length (bs l) rfl hv bs_one (by omega) (Nat.le_refl _) ?_; intro v1 w1 hown1 hg1 hat1)
    have hb1 : Below w.heap.size w w1 := below_own (Below.refl _ _) hg1 (Nat.le_refl _) (by simp [Value.ownBlock])
    clear hat1 hg1
    go_loopw [7, 8] (fun v i wr => ∃ k : Nat, k ≤ m ∧ i = .int .i64 ((m : Int) - 1 - k) ∧ wr.ownsRow w.heap.size 5 1 v (l.length + k) (bs (l ++ beTo x m k)) ∧ Below w.heap.size w wr) (fun _ i _ => (intOf i + 1).toNat)
    case atStart => exact ⟨0, by omega, by simp, ownsRow_len hown1 (by omega) (by simp [beTo]), hb1⟩
    case round =>
      obtain ⟨k, hk, rfl, hown, hbw⟩ := hrel
      by_cases hlt : k < m
      · obtain ⟨A', c', rfl, hc1', hc2'⟩ := (Sl.of_own hown).form
        have hown2 := hown.alloc (.cells #[.int .u8 ((x : Int) / 2 ^ (8 * (m - 1 - k)) % 256)] 5)
        have hsl := Sl.fresh wr #[.int .u8 ((x : Int) / 2 ^ (8 * (m - 1 - k)) % 256)] 5 (n := 1) rfl (by unfold maxLen; omega)
        have hbs : (#[Value.int .u8 ((x : Int) / 2 ^ (8 * (m - 1 - k)) % 256)] : Array Value).toList = bs [UInt8.ofNat (x / 256 ^ (m - 1 - k))] := by
          simp only [bs, List.map_cons, List.map_nil]; rw [byte_val]
        rw [hbs] at hsl
        clear hbs
        have hbs := hbw.size
        go_wp2_with (at_builtin; refine wpList_append_sl _ rfl (.tmp 24) (.tmp 31) _ rfl w.heap.size 5 i0 _ Try.underlying23 hi hz0 hz1 (by omega) rfl _ (l.length + k) (bs (l ++ beTo x m k)) rfl hown2 _ _ 1 _ rfl hsl bs_one (by omega) (by simp; omega) ?_; intro v2 w2 hown3 hg3 hat3)
        have hb2 : Below w.heap.size w w2 := below_own (hbw.alloc (by omega) _) hg3 (by simp; omega) (fun k hk => (hown2.lt k hk).1)
        clear hat3 hg3 hsl hown2
        go_roundw
        case rel => exact ⟨k + 1, by omega, by congr 1; omega, ownsRow_len hown3 (by omega) (by rw [beTo_succ, ← List.append_assoc, bs_app (l ++ beTo x m k)]), hb2⟩
        case measure => simp [intOf]; omega
      · obtain ⟨A', c', rfl, hc1', hc2'⟩ := (Sl.of_own hown).form
        go_wp2_with fail
        go_ret
        have hkm : k = m := by omega
        subst hkm
        have hp : putS l x k = l ++ beTo x k k := by unfold putS be; rw [if_neg (by omega)]; simp
        exact ⟨_, rfl, ownsRow_len hown (by rw [hp]; simp) (by rw [hp]), hbw⟩

/-- The number that bytes tell. -/
def beVal (l : List UInt8) : Nat := l.foldl (fun v x => v * 256 + x.toNat) 0
/-- What Get tells. -/
def getS (l : List UInt8) (at_ n : Int) : Nat × Bool := if 1 ≤ n ∧ n ≤ 8 ∧ 0 ≤ at_ ∧ at_ + n ≤ l.length then (beVal ((l.drop at_.toNat).take n.toNat), true) else (0, false)

theorem or_byte (V x : Nat) (h : V < 72057594037927936) (hx : x < 256) : bits .or .u64 (IntKind.u64.wrap ((V : Int) * 256)) (x : Int) = ((V * 256 + x : Nat) : Int) := by
  rw [IntKind.wrap_u64, show (V : Int) * 256 % 18446744073709551616 = ((V * 256 : Nat) : Int) by omega, bits_or_u64_nat _ _ (by omega) (by omega), nat_join 8 _ _ (by omega) (by omega)]
theorem beVal_app (a b : List UInt8) : beVal (a ++ b) = b.foldl (fun v x => v * 256 + x.toNat) (beVal a) := by simp [beVal, List.foldl_append]
theorem beVal_snoc (a : List UInt8) (x : UInt8) : beVal (a ++ [x]) = beVal a * 256 + x.toNat := by simp [beVal_app]
theorem beVal_lt : ∀ (k : Nat) (l : List UInt8), l.length = k → beVal l < 256 ^ k := by
  intro k
  induction k with
  | zero => intro l h; obtain rfl : l = [] := List.eq_nil_of_length_eq_zero h; simp [beVal]
  | succ k ih =>
    intro l h
    have hne : l ≠ [] := by rintro rfl; simp at h
    have e := List.dropLast_concat_getLast hne
    rw [← e, beVal_snoc]
    have h1 := ih l.dropLast (by simp [h])
    have h2 := (l.getLast hne).toNat_lt
    rw [Nat.pow_succ]
    omega
theorem beVal_lt' (k : Nat) (l : List UInt8) (h : l.length ≤ k) : beVal l < 256 ^ k :=
  Nat.lt_of_lt_of_le (beVal_lt l.length l rfl) (Nat.pow_le_pow_right (by omega) h)

end Go.Proofs.Ytflodljccloobaa
