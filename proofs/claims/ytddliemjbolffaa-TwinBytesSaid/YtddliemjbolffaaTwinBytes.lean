/- TwinBytes: for all numbers and bytes the statement's function tells true and turns nothing that was there. No condition. -/
import Derived.Test.YtddliemjbolffaaTn7
namespace Go.Proofs.Ytddliemjbolffaa
open Go.ChangeShapes Go.WideShapes Go.ChangeAt Go.RowKit Go.Lib
set_option linter.unusedVariables false
set_option linter.unusedSimpArgs false
namespace Tw
open Dk
set_option maxRecDepth 100000 in
theorem bytes_no (x : Int) (v1 : Value) (l : List UInt8) (v2 : Value) (s : List UInt8) (w : World) (h1 : Sl w w.heap.size v1 l.length (bs l)) (h2 : Sl w w.heap.size v2 s.length (bs s)) (hno : 600 < l.length ∨ 600 < s.length) :
    Calls Try.prog 3 #[.int .u64 x, v1, v2] w fun e w' => e = .returned (.bool true) ∧ Below w.heap.size w w' := by
  obtain ⟨A1, c1, rfl, _, _⟩ := h1.form
  obtain ⟨A2, c2, rfl, _, _⟩ := h2.form
  by_cases g1 : 600 < l.length
  · have g1x : (600 : Int) < (l.length : Int) := by omega
    go_enter Try.func3, Try.ntmps3
    go_wp2_with (go_at_call 5; refine (known_any _).mono ?_; rintro e w1 ⟨rfl, hb1⟩)
    go_ret
    exact ⟨rfl, hb1⟩
  · have g1x : ¬ (600 : Int) < (l.length : Int) := by omega
    have g2x : (600 : Int) < (s.length : Int) := by omega
    go_enter Try.func3, Try.ntmps3
    go_wp2_with (go_at_call 5; refine (known_any _).mono ?_; rintro e w1 ⟨rfl, hb1⟩)
    go_ret
    exact ⟨rfl, hb1⟩
theorem un_c {s : List UInt8} {N : Nat} {V : List UInt8} {E : Nat} (hU : unpackS s = (N, V, E)) (hs : s.length ≤ 1000000) (W : World) (v : Value) (hv : Sl W W.heap.size v s.length (bs s)) :
    Calls Try.prog 8 #[v] W fun e w' => ∃ A c, e = .returned (.tuple #[.int .u64 (N : Nat), .slice A V.length c, .int .i64 (E : Nat)]) ∧ Sl w' w'.heap.size (.slice A V.length c) V.length (bs V) ∧ Below W.heap.size W w' := by
  refine (unpack_any v s W hv hs).mono ?_
  rw [hU]
  rintro e w' ⟨v', rfl, h1, h2⟩
  obtain ⟨A, c, rfl, _, _⟩ := own_form h1
  exact ⟨A, c, rfl, Sl.of_own h1, h2⟩
theorem run_c {s : List UInt8} {N : Nat} {V : List UInt8} {E : Nat} (hU : unpackS s = (N, V, E)) (hs : s.length ≤ 1000000) (W : World) (v : Value) (hv : Sl W W.heap.size v s.length (bs s)) :
    Calls Try.prog 9 #[v] W fun e w' => ∃ A c, e = .returned (.tuple #[.int .u64 (N : Nat), .slice A V.length c, .int .i64 (E : Nat)]) ∧ Sl w' w'.heap.size (.slice A V.length c) V.length (bs V) ∧ Below W.heap.size W w' := by
  refine (runpack_any v s W hv hs).mono ?_
  rw [hU]
  rintro e w' ⟨v', rfl, h1, h2⟩
  obtain ⟨A, c, rfl, _, _⟩ := own_form h1
  exact ⟨A, c, rfl, Sl.of_own h1, h2⟩
set_option maxRecDepth 100000 in
set_option maxHeartbeats 2000000 in
theorem bytes_long (n : Nat) (v1 : Value) (l : List UInt8) (v2 : Value) (s : List UInt8) (w : World) (h1 : Sl w w.heap.size v1 l.length (bs l)) (h2 : Sl w w.heap.size v2 s.length (bs s)) (g1 : l.length ≤ 600) (g2 : s.length ≤ 600) (hl : 488 < l.length) :
    Calls Try.prog 3 #[.int .u64 (n : Nat), v1, v2] w fun e w' => e = .returned (.bool true) ∧ Below w.heap.size w w' := by
  obtain ⟨A1, c1, rfl, _, _⟩ := h1.form
  obtain ⟨A2, c2, rfl, _, _⟩ := h2.form
  have g1x : ¬ (600 : Int) < (l.length : Int) := by omega
  have g2x : ¬ (600 : Int) < (s.length : Int) := by omega
  have cP := fun W (hB : Below w.heap.size w W) => pack_long n _ l W (h1.now hB) hl
  have cR := fun W (hB : Below w.heap.size w W) => rpack_long n _ l W (h1.now hB) hl
  obtain ⟨N, V, E, hU⟩ : ∃ N V E, unpackS s = (N, V, E) := ⟨_, _, _, rfl⟩
  have cU := fun W (hB : Below w.heap.size w W) => un_c hU (by omega) W _ (h2.now hB)
  have cQ := fun W (hB : Below w.heap.size w W) => run_c hU (by omega) W _ (h2.now hB)
  have hVV : (V == V) = true := by simp
  clear hU hl
  go_enter Try.func3, Try.ntmps3
  go_wp2_with (first
    | (go_at_call 5; refine (known_any _).mono ?_; rintro e w1 ⟨rfl, hb1⟩)
    | (go_at_call 6; (with_reducible refine (cP _ hb1).mono ?_); rintro e w2 ⟨rfl, rfl⟩)
    | (go_at_call 7; (with_reducible refine (cR _ hb1).mono ?_); rintro e w2 ⟨rfl, rfl⟩)
    | (go_at_call 8; (with_reducible refine (cU _ hb1).mono ?_); rintro e w4 ⟨A4, c4, rfl, s4, b4⟩; have hb4 := hb1.trans (b4.mono hb1.size))
    | (go_at_call 9; (with_reducible refine (cQ _ hb4).mono ?_); rintro e w5 ⟨A5, c5, rfl, s5, b5⟩; have hb5 := hb4.trans (b5.mono hb4.size); have st4 := str (s4.now b5); have st5 := str s5; have st0 := str (w := w5) (v := .slice none 0 0) (n := 0) (l := []) Sl.nil_))
  go_ret
  exact ⟨rfl, hb5⟩
set_option maxRecDepth 100000 in
set_option maxHeartbeats 2000000 in
theorem bytes_ok (n : Nat) (hn : n < 18446744073709551616) (v1 : Value) (l : List UInt8) (v2 : Value) (s : List UInt8) (w : World) (h1 : Sl w w.heap.size v1 l.length (bs l)) (h2 : Sl w w.heap.size v2 s.length (bs s)) (g2 : s.length ≤ 600) (hl : l.length ≤ 488) :
    Calls Try.prog 3 #[.int .u64 (n : Nat), v1, v2] w fun e w' => e = .returned (.bool true) ∧ Below w.heap.size w w' := by
  obtain ⟨A1, c1, rfl, _, _⟩ := h1.form
  obtain ⟨A2, c2, rfl, _, _⟩ := h2.form
  have g1x : ¬ (600 : Int) < (l.length : Int) := by omega
  have g2x : ¬ (600 : Int) < (s.length : Int) := by omega
  have hX := packS_len (n := n) hl
  have cP : ∀ W, Below w.heap.size w W → Calls Try.prog 6 #[.int .u64 (n : Nat), .slice A1 l.length c1] W fun e w' => ∃ A c, e = .returned (.tuple #[.slice A 512 c, .int .i64 0]) ∧ Sl w' w'.heap.size (.slice A 512 c) 512 (bs (packS n l)) ∧ Below W.heap.size W w' := fun W hB => (pack_ok n hn _ l W (h1.now hB) hl).mono fun e w' ⟨v', e1, h1, h2⟩ => by
    obtain ⟨A, c, rfl, _, _⟩ := own_form h1
    exact ⟨A, c, e1, Sl.of_own h1, h2⟩
  have cR : ∀ W, Below w.heap.size w W → Calls Try.prog 7 #[.int .u64 (n : Nat), .slice A1 l.length c1] W fun e w' => ∃ A c, e = .returned (.tuple #[.slice A 512 c, .int .i64 0]) ∧ Sl w' w'.heap.size (.slice A 512 c) 512 (bs (packS n l)) ∧ Below W.heap.size W w' := fun W hB => (rpack_ok n hn _ l W (h1.now hB) hl).mono fun e w' ⟨v', e1, h1, h2⟩ => by
    obtain ⟨A, c, rfl, _, _⟩ := own_form h1
    exact ⟨A, c, e1, Sl.of_own h1, h2⟩
  obtain ⟨N, V, E, hU⟩ : ∃ N V E, unpackS s = (N, V, E) := ⟨_, _, _, rfl⟩
  have cU := fun W (hB : Below w.heap.size w W) => un_c hU (by omega) W _ (h2.now hB)
  have cQ := fun W (hB : Below w.heap.size w W) => run_c hU (by omega) W _ (h2.now hB)
  have cX : ∀ W A c, Sl W W.heap.size (.slice A 512 c) 512 (bs (packS n l)) → Calls Try.prog 8 #[.slice A 512 c] W fun e w' => ∃ A' c', e = .returned (.tuple #[.int .u64 (n : Nat), .slice A' l.length c', .int .i64 0]) ∧ Sl w' w'.heap.size (.slice A' l.length c') l.length (bs l) ∧ Below W.heap.size W w' := fun W A c hs => un_c (unpack_pack n hn l hl) (by omega) W _ (by rw [hX]; exact hs)
  have hVV : (V == V) = true := by simp
  have hll : (l == l) = true := by simp
  clear hU hl hn hX
  generalize packS n l = X at *
  have hXX : (X == X) = true := by simp
  go_enter Try.func3, Try.ntmps3
  go_wp2_with (first
    | (go_at_call 5; refine (known_any _).mono ?_; rintro e w1 ⟨rfl, hb1⟩)
    | (go_at_call 6; (with_reducible refine (cP _ hb1).mono ?_); rintro e w2 ⟨Aa, ca, rfl, sa, b2⟩; have hb2 := hb1.trans (b2.mono hb1.size))
    | (go_at_call 7; (with_reducible refine (cR _ hb2).mono ?_); rintro e w3 ⟨Ab, cb, rfl, sb, b3⟩; have hb3 := hb2.trans (b3.mono hb2.size))
    | (go_at_call 8; (with_reducible refine (cX _ _ _ sa5).mono ?_); rintro e w6 ⟨A6, c6, rfl, s6, b6⟩; have hb6 := hb5.trans (b6.mono hb5.size); have st6 := str s6; have st7 := str (h1.now hb6))
    | (go_at_call 8; (with_reducible refine (cU _ hb3).mono ?_); rintro e w4 ⟨A4, c4, rfl, s4, b4⟩; have hb4 := hb3.trans (b4.mono hb3.size))
    | (go_at_call 9; (with_reducible refine (cQ _ hb4).mono ?_); rintro e w5 ⟨A5, c5, rfl, s5, b5⟩; have hb5 := hb4.trans (b5.mono hb4.size); have st4 := str (s4.now b5); have st5 := str s5; have sa5 := ((sa.now b3).now b4).now b5; have sta := str sa5; have stb := str ((sb.now b4).now b5)))
  go_ret
  exact ⟨rfl, hb6⟩
theorem walk (x : Int) (v1 : Value) (l : List UInt8) (v2 : Value) (s : List UInt8) (w : World) (_ : 0 ≤ x) (_ : x ≤ 18446744073709551615) (h1 : Sl w w.heap.size v1 l.length (bs l)) (h2 : Sl w w.heap.size v2 s.length (bs s)) :
    Calls Try.prog 3 #[.int .u64 x, v1, v2] w fun e w' => e = .returned (.bool true) ∧ Below w.heap.size w w' := by
  by_cases hno : 600 < l.length ∨ 600 < s.length
  · exact bytes_no x v1 l v2 s w h1 h2 hno
  obtain ⟨n, rfl⟩ : ∃ n : Nat, x = n := ⟨x.toNat, by omega⟩
  by_cases hl : 488 < l.length
  · exact bytes_long n v1 l v2 s w h1 h2 (by omega) (by omega) hl
  · exact bytes_ok n (by omega) v1 l v2 s w h1 h2 (by omega) (by omega)
set_option maxRecDepth 100000 in
theorem lifted (os : Os) (started : os.Started) (H : Type) (enc : TypeId × Value → H) :
    ReturnsInHanded {} Try.checked os 3 .any (Rows.twinBytesSpec.pre6 enc Try.prog Try.f3 Rows.twinBytesRow.domain false) (Rows.twinBytesSpec.post enc Try.prog Try.f3 false true false false) := by
  refine returnsInHanded_of_change (C := Try.checked) own started (by kernel_rfl) Try.func3
    (ChangeSpec.witness6 (enc := enc) (C := Try.checked) false ⟨#[], #[.int .u64 0, .slice none 0 0, .slice none 0 0], []⟩ 8 (by kernel_rfl) (by kernel_rfl) (by kernel_rfl) (by kernel_rfl)) ?_
  intro W base args ds gs before hval0 hW hcnd _
  have hval : ∀ (j : Nat) t v, Try.f3.params[j]? = some t → args[j]? = some v → Value.okWide Try.prog W .any base t v := hval0
  have hW' := hW
  obtain ⟨p, q, hA0, hV, rfl, hfz, hnd⟩ := hW
  have hA : DataW.TrodAll enc Try.prog W 0 (fun _ => true) true Try.f3.params.toList args.toList ds p := hA0
  rw [Try.params3] at hA hval
  obtain ⟨v0, vs0, d0, ds0, p0, q0, hargs, rfl, rfl, h0, r0⟩ := trodAll_cons hA
  obtain ⟨v1, vs1, d1, ds1, p1, q1, rfl, rfl, rfl, h1, r1⟩ := trodAll_cons r0
  obtain ⟨v2, vs2, d2, ds2, p2, q2, rfl, rfl, rfl, h2, r2⟩ := trodAll_cons r1
  obtain ⟨rfl, rfl, rfl⟩ := trodAll_nil r2
  obtain rfl : args = #[v0, v1, v2] := by cases args; simp_all
  obtain ⟨rfl, rfl⟩ := trodVars_none hV
  obtain ⟨a0, rfl, _, _, w0⟩ := open_int Try.underlying22 (hval 0 22 v0 rfl rfl) h0
  have b0 := bounds_u64 w0
  obtain ⟨l1, s1, e1⟩ := open_bytes Try.underlying23 Try.underlying5 (by kernel_rfl) (hval 1 23 v1 rfl rfl) h1
  obtain ⟨l2, s2, e2⟩ := open_bytes Try.underlying23 Try.underlying5 (by kernel_rfl) (hval 2 23 v2 rfl rfl) h2
  refine (walk a0 v1 l1 v2 l2 W b0.1 b0.2 s1 s2).mono fun e W' ⟨he, hb⟩ => ?_
  subst he
  exact ⟨_, rfl, law_post laidOut (by kernel_rfl) rfl (by kernel_rfl) Try.underlying4 rfl rfl rfl hW' hb⟩

theorem proved : Rows.TwinBytesSaid :=
  OpenClaim.holds_of_wide 3 Try.f3 rfl rfl rfl rfl rfl rfl rfl ⟨rfl, rfl, rfl, rfl, rfl⟩ rfl rfl rfl rfl rfl (by kernel_rfl) Try.func3 (by kernel_rfl)
    (of_decide_eq_true (by kernel_rfl)) (by unfold Func.isWrapper; first | (rw [if_pos (by decide +kernel)]; kernel_rfl) | (rw [if_neg (by decide +kernel)]; exact ⟨rfl, rfl⟩))
    (fun os started H enc _ => lifted os started H enc)
end Tw
end Go.Proofs.Ytddliemjbolffaa
