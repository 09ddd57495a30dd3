/- Package twin: there, home, Format: contracts. -/
import Derived.Test.YtpfackjnnkjjdaaTn1
import Derived.Test.YtpfackjnnkjjdaaDk9
namespace Go.Proofs.Ytpfackjnnkjjdaa
open Go.ChangeShapes Go.WideShapes Go.ChangeAt Go.RowKit Go.Lib
set_option linter.unusedVariables false
set_option linter.unusedSimpArgs false
namespace Tw
open Dk
section
variable {o w : World} {X : Nat} {O : Nat → Prop} {S : DS}
theorem there_any (h : Dsk o w X O S) (a : Int) : Calls Try.prog 46 #[.pointer (some ⟨X, 0, none⟩), .int .i64 a] w fun e w' => e = .returned (.bool (decide (0 ≤ a ∧ a + 1 < (S.last.length : Int)))) ∧ w = w' := by
  obtain ⟨V, hV⟩ := h.is
  have hs := sectors_any hV
  have hf := h.fine.few
  have hfx : (S.last.length : Int) ≤ 4096 := by omega
  by_cases h0 : 0 ≤ a
  · have hd : decide (0 ≤ a ∧ a + 1 < (S.last.length : Int)) = decide (a < (S.last.length : Int) - 1) := by rw [decide_eq_decide]; omega
    rw [hd]
    have d1 : decide (0 ≤ a) = true := decide_eq_true h0
    go_enter Try.func46, Try.ntmps46
    go_wp2_with (go_at_call 20; (with_reducible refine hs.mono ?_); rintro e w1 ⟨rfl, rfl⟩)
    all_goals go_ret
    all_goals exact ⟨rfl, rfl⟩
  · have hd : decide (0 ≤ a ∧ a + 1 < (S.last.length : Int)) = false := decide_eq_false (by omega)
    rw [hd]
    have d1 : decide (0 ≤ a) = false := decide_eq_false (by omega)
    go_enter Try.func46, Try.ntmps46
    go_wp2_with (go_at_call 20; (with_reducible refine hs.mono ?_); rintro e w1 ⟨rfl, rfl⟩)
    all_goals go_ret
    all_goals exact ⟨rfl, rfl⟩
theorem home_any (a n : Nat) (ha : a ≤ 1000000) (hn : n < 18446744073709551616) (w : World) : Calls Try.prog 48 #[.int .i64 (a : Nat), .int .u64 (n : Nat)] w fun e w' => e = .returned (.int .i64 ((a + n % 2 : Nat) : Int)) ∧ w = w' := by
  have e1 : (n : Int) % 2 = ((n % 2 : Nat) : Int) := by omega
  have e2 : (n : Int).tmod 2 = ((n % 2 : Nat) : Int) := by rw [Int.tmod_eq_emod_of_nonneg (by omega)]; exact e1
  have h2 : n % 2 < 2 := by omega
  have ha2 : (a : Int) ≤ 1000000 := by omega
  have e3 : ((a + n % 2 : Nat) : Int) = (a : Int) + ((n % 2 : Nat) : Int) := by omega
  rw [e3]
  clear hn e3
  have h2x : ((n % 2 : Nat) : Int) < 2 := by omega
  generalize n % 2 = m at *
  go_enter Try.func48, Try.ntmps48
  go_wp2
  go_ret
  exact ⟨rfl, rfl⟩
/-- What Format leaves. -/
def fmtS (S : DS) (a : Nat) (l : List UInt8) : DS := ((S.wr a []).wr (a + 1) (packS 1 l)).flushed
theorem format_no (h : Dsk o w X O S) (a : Int) (v : Value) (hno : ¬ (0 ≤ a ∧ a + 1 < (S.last.length : Int))) : Calls Try.prog 22 #[.pointer (some ⟨X, 0, none⟩), .int .i64 a, v] w fun e w' => e = .returned (.int .i64 1) ∧ w = w' := by
  have ht := there_any h a
  rw [decide_eq_false hno] at ht
  go_enter Try.func22, Try.ntmps22
  go_wp2_with (go_at_call 46; (with_reducible refine ht.mono ?_); rintro e w1 ⟨rfl, rfl⟩)
  go_ret
  exact ⟨rfl, rfl⟩
set_option maxRecDepth 100000 in
set_option maxHeartbeats 1000000 in
theorem format_ok (h : Dsk o w X O S) (hu : S.up) (a : Nat) (ha : a + 1 < S.last.length) (hw : S.wtg ≤ 900000) (hc : S.calls ≤ 1000000000) (v : Value) (l : List UInt8) (hv : Sl w w.heap.size v l.length (bs l)) (hl : l.length ≤ 488) :
    Calls Try.prog 22 #[.pointer (some ⟨X, 0, none⟩), .int .i64 (a : Nat), v] w fun e w' => ∃ O', e = .returned (.int .i64 0) ∧ Dsk o w' X O' (fmtS S a l) ∧ Eff O w w' ∧ ∀ k, O' k → O k ∨ w.heap.size ≤ k := by
  obtain ⟨V, hV⟩ := h.is
  have hfew := h.fine.few
  have ht := there_any h (a : Int)
  rw [decide_eq_true (show 0 ≤ (a : Int) ∧ (a : Int) + 1 < (S.last.length : Int) by omega)] at ht
  have hp := pack_ok 1 (by omega) v l w hv hl
  have hp : Calls Try.prog 47 #[.int .u64 1, v] w fun e w' => ∃ g c, e = .returned (.tuple #[.slice (some ⟨g, 0, none⟩) 512 c, .int .i64 0]) ∧ w'.ownsRow w.heap.size 5 1 (.slice (some ⟨g, 0, none⟩) 512 c) 512 (bs (packS 1 l)) ∧ Below w.heap.size w w' := hp.mono fun e w' ⟨v', h1, h2, h3⟩ => by
    rcases h2.2 with ⟨_, hh⟩ | ⟨g, cap, cur, e1, _⟩
    · omega
    · subst e1; exact ⟨g, cap, h1, h2, h3⟩
  have hh0 : ∀ W, Calls Try.prog 48 #[.int .i64 (a : Nat), .int .u64 0] W fun e w' => e = .returned (.int .i64 (a : Nat)) ∧ W = w' := fun W => home_any a 0 (by omega) (by omega) W
  have hh1 : ∀ W, Calls Try.prog 48 #[.int .i64 (a : Nat), .int .u64 1] W fun e w' => e = .returned (.int .i64 ((a : Int) + 1)) ∧ W = w' := fun W => home_any a 1 (by omega) (by omega) W
  have c1 : ∀ W, Below w.heap.size w W → Calls Try.prog 21 #[.pointer (some ⟨X, 0, none⟩), .int .i64 (a : Nat), .slice none 0 0] W fun e w' => ∃ O', e = .returned (.int .i64 0) ∧ Dsk o w' X O' (S.wr a []) ∧ Eff O W w' ∧ ∀ k, O' k → O k ∨ W.heap.size ≤ k := fun W hW => d_write (h.below hW) hu a (by omega) (by omega) (by omega) _ [] W.heap.size (Nat.le_refl _) Sl.nil_ (by simp) (fun k _ hk => by cases hk)
  have c2 : ∀ W2 W3 O2 g c, Below w.heap.size w W2 → W2.ownsRow w.heap.size 5 1 (.slice (some ⟨g, 0, none⟩) 512 c) 512 (bs (packS 1 l)) → Dsk o W3 X O2 (S.wr a []) → Eff O W2 W3 → (∀ k, O2 k → O k ∨ W2.heap.size ≤ k) → Calls Try.prog 21 #[.pointer (some ⟨X, 0, none⟩), .int .i64 ((a : Int) + 1), .slice (some ⟨g, 0, none⟩) 512 c] W3 fun e w' => ∃ O', e = .returned (.int .i64 0) ∧ Dsk o w' X O' ((S.wr a []).wr (a + 1) (packS 1 l)) ∧ Eff O w w' ∧ ∀ k, O' k → O k ∨ w.heap.size ≤ k := by
    intro W2 W3 O2 g c hb ho hs he hO
    have hgl := own_tag ho g rfl
    have hng : ¬ O g := fun hO => by have := hV.lt g hO; omega
    have ho3 := owns_eff ho he (fun k hk => by obtain rfl := Option.some.inj hk; exact hng)
    refine (d_write hs ⟨hu.dead, hu.off, hu.arm⟩ (a + 1) ha (show S.wtg + 1 ≤ _ by omega) (show S.calls + 1 ≤ _ by omega) _ (packS 1 l) W3.heap.size (Nat.le_refl _) (by rw [packS_len hl]; exact Sl.of_own ho3) (by rw [packS_len hl]; omega) ?_).mono ?_
    · intro k _ hk hOk
      obtain rfl := Option.some.inj hk
      rcases hO g hOk with h1 | h1
      · exact hng h1
      · omega
    · rintro e w' ⟨O', rfl, h1, h2, h3⟩
      have hbs := hb.size
      have hes := he.size
      refine ⟨O', rfl, h1, ((Eff.of (S := O) hb).trans he fun _ _ h => h).trans h2 fun i hi hO2 => ?_, fun k hk => ?_⟩
      · rcases hO i hO2 with h4 | h4
        · exact h4
        · omega
      · rcases h3 k hk with h4 | h4
        · rcases hO k h4 with h5 | h5
          · exact .inl h5
          · exact .inr (by omega)
        · exact .inr (by omega)
  have c3 : ∀ W O', Dsk o W X O' ((S.wr a []).wr (a + 1) (packS 1 l)) → Calls Try.prog 49 #[.pointer (some ⟨X, 0, none⟩)] W fun e w' => e = .returned (.int .i64 0) ∧ Dsk o w' X O' (fmtS S a l) ∧ Eff O' W w' := fun W O' hs => d_flush hs ⟨hu.dead, hu.off, hu.arm⟩ (show S.wtg + 1 + 1 ≤ _ by omega) (show S.calls + 1 + 1 ≤ _ by omega)
  obtain ⟨A, c, rfl, _, _⟩ := hv.form
  go_enter Try.func22, Try.ntmps22
  go_wp2_with (first
    | (go_at_call 46; (with_reducible refine ht.mono ?_); rintro e w1 ⟨rfl, rfl⟩)
    | (go_at_call 47; (with_reducible refine hp.mono ?_); rintro e w2 ⟨g2, cc2, rfl, ho2, hb2⟩)
    | (go_at_call 48; (with_reducible refine (hh0 _).mono ?_); rintro e w1 ⟨rfl, rfl⟩)
    | (go_at_call 48; (with_reducible refine (hh1 _).mono ?_); rintro e w1 ⟨rfl, rfl⟩)
    | (go_at_call 21; (with_reducible refine (c1 _ hb2).mono ?_); rintro e w3 ⟨O3, rfl, s3, e3, k3⟩)
    | (go_at_call 21; (with_reducible refine (c2 _ _ _ _ _ hb2 ho2 s3 e3 k3).mono ?_); rintro e w4 ⟨O4, rfl, s4, e4, k4⟩)
    | (go_at_call 49; (with_reducible refine (c3 _ _ s4).mono ?_); rintro e w5 ⟨rfl, s5, e5⟩))
  go_ret
  refine ⟨O4, rfl, s5, e4.trans e5 fun i hi hO => ?_, k4⟩
  rcases k4 i hO with h1 | h1
  · exact h1
  · omega
end
end Tw
end Go.Proofs.Ytpfackjnnkjjdaa
