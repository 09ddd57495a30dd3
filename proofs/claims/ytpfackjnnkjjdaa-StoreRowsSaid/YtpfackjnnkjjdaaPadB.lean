/- What Pad, and the document's second telling of Put, Get and Pad, give: contracts. -/
import Derived.Test.YtpfackjnnkjjdaaPut
namespace Go.Proofs.Ytpfackjnnkjjdaa
open Go.ChangeShapes Go.WideShapes Go.ChangeAt Go.RowKit
set_option linter.unusedVariables false
set_option maxRecDepth 100000

/-- How many bytes are put in. -/
def padN (n t : Nat) : Nat := (t - n % t) % t
/-- What Pad tells. -/
def padS (l : List UInt8) (t : Int) : List UInt8 := if t < 1 ∨ 4096 < t then l else l ++ List.replicate (padN l.length t.toNat) 0
theorem padN_lt {n t : Nat} (h : 0 < t) : padN n t < t := Nat.mod_lt _ h
theorem padN_zero {n t k : Nat} (h : 0 < t) (hk : k ≤ padN n t) : (n + k) % t = 0 ↔ k = padN n t := by
  unfold padN at *
  have h1 := Nat.mod_lt n h
  have h2 : n = t * (n / t) + n % t := (Nat.div_add_mod n t).symm
  generalize hr : n % t = r at *
  generalize n / t = q at *
  rcases Nat.eq_zero_or_pos r with h0 | h0
  · subst h0
    rw [Nat.sub_zero, Nat.mod_self] at *
    obtain rfl : k = 0 := by omega
    simp [hr]
  · have h3 : (t - r) % t = t - r := Nat.mod_eq_of_lt (by omega)
    rw [h3] at hk ⊢
    have h4 : (n + k) % t = (r + k) % t := by rw [Nat.add_mod, hr, Nat.add_mod r k, Nat.mod_eq_of_lt h1]
    rw [h4]
    constructor
    · intro he
      rcases Nat.lt_or_ge (r + k) t with h5 | h5
      · rw [Nat.mod_eq_of_lt h5] at he; omega
      · omega
    · intro he
      subst he
      rw [show r + (t - r) = t by omega, Nat.mod_self]
theorem pad_ne {n t k : Nat} (h : 0 < t) (hk : k < padN n t) : (((n : Int) + (k : Int)) % (t : Int) == 0) = false := by
  rw [beq_eq_false_iff_ne]
  intro e
  have h1 := (padN_zero (n := n) h (Nat.le_of_lt hk)).1 (by
    have e' : (((n + k) % t : Nat) : Int) = 0 := by rw [Int.natCast_emod]; simpa using e
    omega)
  omega
theorem pad_eq {n t : Nat} (h : 0 < t) : (((n : Int) + (padN n t : Int)) % (t : Int) == 0) = true := by
  rw [beq_iff_eq]
  have h1 := (padN_zero (n := n) h (Nat.le_refl _)).2 rfl
  have e' : (((n + padN n t) % t : Nat) : Int) = 0 := by omega
  rw [Int.natCast_emod] at e'
  simpa using e'
theorem u8_zero : ([Value.int .u8 0] : List Value) = bs [0] := rfl
def lenV : Value → Nat | .slice _ n _ => n | _ => 0

theorem pad_any (v : Value) (l : List UInt8) (t : Int) (w : World) (hv : Sl w w.heap.size v l.length (bs l)) (hl : l.length ≤ 8796093022208)
    (ht1 : -9223372036854775808 ≤ t) (ht2 : t ≤ 9223372036854775807) :
    Calls Try.prog 63 #[v, .int .i64 t] w fun e w' => ∃ v', e = .returned v' ∧ w'.ownsRow w.heap.size 5 1 v' (padS l t).length (bs (padS l t)) ∧ Below w.heap.size w w' := by
  obtain ⟨i0, hi, hz0, hz1, hz2⟩ := info_parts info_u8
  obtain ⟨A, c, rfl, hc1, hc2⟩ := hv.form
  by_cases hn : t < 1 ∨ 4096 < t
  · go_enter Try.func63, Try.ntmps63
    go_wp2_with (at_builtin; refine wpList_append_sl _ rfl (.const (.slice none 0 0)) (.tmp 6) _ rfl w.heap.size 5 i0 _ Try.underlying34 hi hz0 hz1 (by omega) rfl (.slice none 0 0) 0 [] rfl (World.ownsRow_nil _ _ _ _) w.heap.size _ l.length (bs l) rfl hv bs_one (by omega) (Nat.le_refl _) ?_; intro v1 w1 hown1 hg1 hat1)
    all_goals go_ret
    all_goals
      have hb1 : Below w.heap.size w w1 := below_own (Below.refl _ _) hg1 (Nat.le_refl _) (by simp [Value.ownBlock])
      have hp : padS l t = l := by unfold padS; rw [if_pos hn]
      exact ⟨_, rfl, ownsRow_len hown1 (by rw [hp]; omega) (by rw [hp]; simp), hb1⟩
  · obtain ⟨m, rfl⟩ : ∃ m : Nat, t = m := ⟨t.toNat, by omega⟩
    have hm1 : 1 ≤ m := by omega
    have hm8 : m ≤ 4096 := by omega
    have hp : padS l m = l ++ List.replicate (padN l.length m) 0 := by unfold padS; rw [if_neg (by omega)]; simp
    have hpl := padN_lt (n := l.length) (t := m) hm1
    have HP := Lib.hid hp
    clear hn ht1 ht2 hp
    go_enter Try.func63, Try.ntmps63
    go_wp2_with (at_builtin; refine wpList_append_sl _ rfl (.const (.slice none 0 0)) (.tmp 6) _ rfl w.heap.size 5 i0 _ Try.underlying34 hi hz0 hz1 (by omega) rfl (.slice none 0 0) 0 [] rfl (World.ownsRow_nil _ _ _ _) w.heap.size _ l.length (bs l) rfl hv bs_one (by omega) (Nat.le_refl _) ?_; intro v1 w1 hown1 hg1 hat1)
    have hb1 : Below w.heap.size w w1 := below_own (Below.refl _ _) hg1 (Nat.le_refl _) (by simp [Value.ownBlock])
    clear hat1 hg1
    go_loopw [5] (fun v wr => ∃ k : Nat, k ≤ padN l.length m ∧ wr.ownsRow w.heap.size 5 1 v (l.length + k) (bs (l ++ List.replicate k 0)) ∧ Below w.heap.size w wr) (fun v _ => l.length + padN l.length m - lenV v)
    case atStart => exact ⟨0, by omega, ownsRow_len hown1 (by omega) (by simp), hb1⟩
    case round =>
      obtain ⟨k, hk, hown, hbw⟩ := hrel
      obtain ⟨A', c', rfl, hc1', hc2'⟩ := (Sl.of_own hown).form
      by_cases hlt : k < padN l.length m
      · have hne := pad_ne (n := l.length) hm1 hlt
        have hown2 := hown.alloc (.cells #[.int .u8 0] 5)
        have hsl := Sl.fresh wr #[.int .u8 0] 5 (n := 1) rfl (by unfold maxLen; omega)
        rw [show (#[Value.int .u8 0] : Array Value).toList = bs [0] from rfl] at hsl
        have hbs := hbw.size
        go_wp2_with (at_builtin; refine wpList_append_sl _ rfl (.tmp 20) (.tmp 21) _ rfl w.heap.size 5 i0 _ Try.underlying34 hi hz0 hz1 (by omega) rfl _ (l.length + k) (bs (l ++ List.replicate k 0)) rfl hown2 _ _ 1 _ rfl hsl bs_one (by omega) (by simp; omega) ?_; intro v2 w2 hown3 hg3 hat3)
        have hb2 : Below w.heap.size w w2 := below_own (hbw.alloc (by omega) _) hg3 (by simp; omega) (fun k hk => (hown2.lt k hk).1)
        obtain ⟨A2, c2, hv2, _, _⟩ := (Sl.of_own hown3).form
        have hlen : lenV v2 = l.length + k + 1 := by rw [hv2]; rfl
        clear hv2
        refine ⟨⟨k + 1, by omega, ownsRow_len hown3 (by omega) (by rw [← bs_app, List.append_assoc, List.replicate_succ']), hb2⟩, ?_⟩
        rw [hlen]
        simp only [lenV]
        omega
      · obtain rfl : k = padN l.length m := by omega
        have hne := pad_eq (n := l.length) hm1
        go_wp2
        go_ret
        exact ⟨_, rfl, ownsRow_len hown (by rw [HP.out]; simp) (by rw [HP.out]), hbw⟩

/-! The document's second telling: it appends to what it is given. -/
end Go.Proofs.Ytpfackjnnkjjdaa
