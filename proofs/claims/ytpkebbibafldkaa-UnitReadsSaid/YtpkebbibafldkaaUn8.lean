/- Package lu: bytes: withLength; the table's bytes of nobody. -/
import Derived.Test.YtpkebbibafldkaaUn7
import Derived.Test.YtpkebbibafldkaaUSp6
namespace Go.Proofs.Ytpkebbibafldkaa
open Go.ChangeShapes Go.WideShapes Go.ChangeAt Go.RowKit Go.Lib
set_option linter.unusedVariables false
set_option linter.unusedSimpArgs false
set_option maxRecDepth 100000
namespace Un
open Rv
theorem put_o (v : Value) (l : List UInt8) (X N : Int) (x n : Nat) (hX : X = x) (hN : N = n) (w : World) (hv : Sl w w.heap.size v l.length (bs l)) (hx : x < 18446744073709551616) (hl : l.length ≤ 8796093022208) (hn : 1 ≤ n ∧ n ≤ 8) :
    Calls Try.prog 43 #[v, .int .u64 X, .int .i64 N] w fun e w' => ∃ v', e = .returned v' ∧ w'.ownsRow w.heap.size 5 1 v' (l ++ be x n).length (bs (l ++ be x n)) ∧ Below w.heap.size w w' := by
  subst hX; subst hN
  refine (put_any v l x n w hv hx hl (by omega) (by omega)).mono ?_
  rintro e w' ⟨v', rfl, ho, hb⟩
  rw [putS_is l x n hn] at ho
  exact ⟨v', rfl, ho, hb⟩
/-- Bytes made since w. -/
structure EncS (w W : World) (A : Option Addr) (m c : Nat) (L : List UInt8) : Prop where
  bl : Below w.heap.size w W
  row : W.ownsRow w.heap.size 5 1 (.slice A m c) m (bs L)
  len : L.length = m
  few : m ≤ 100000
section
variable {w w' W W' : World} {B Z X g h Y N : Nat} {D D' M M' : List UInt8} {t t' : RT} {hs : List Value} {A : Option Addr} {m c : Nat} {L : List UInt8}
theorem EncS.below (he : EncS w W A m c L) (hb : Below W.heap.size W W') : EncS w W' A m c L := ⟨he.bl.trans (hb.mono he.bl.size), owns_below he.row hb, he.len, he.few⟩
theorem EncS.sl (he : EncS w W A m c L) : Sl W W.heap.size (.slice A m c) m (bs L) := Sl.of_own he.row
/-- A number is put behind them. -/
theorem EncS.put (he : EncS w W A m c L) (x n : Nat) {X N : Int} (hX : X = x) (hN : N = n) (hx : x < 18446744073709551616) (hn : 1 ≤ n ∧ n ≤ 8) (hm : m ≤ 99000) : Calls Try.prog 43 #[.slice A m c, .int .u64 X, .int .i64 N] W fun e w' => ∃ A' m' c', e = .returned (.slice A' m' c') ∧ EncS w w' A' m' c' (L ++ be x n) ∧ Below W.heap.size W w' := by
  have hl := he.len
  refine (put_o (.slice A m c) L X N x n hX hN W (by rw [hl]; exact he.sl) hx (by omega) hn).mono ?_
  rintro e w' ⟨v', rfl, ho, hb⟩
  obtain ⟨A', c', rfl, _, _⟩ := own_form ho
  exact ⟨A', _, c', rfl, ⟨he.bl.trans (hb.mono he.bl.size), owns_mono ho he.bl.size, rfl, by rw [List.length_append, be_len]; omega⟩, hb⟩
/-- Nothing yet. -/
theorem EncS.put0 (hb : Below w.heap.size w W) (x n : Nat) {X N : Int} (hX : X = x) (hN : N = n) (hx : x < 18446744073709551616) (hn : 1 ≤ n ∧ n ≤ 8) : Calls Try.prog 43 #[.slice none 0 0, .int .u64 X, .int .i64 N] W fun e w' => ∃ A' m' c', e = .returned (.slice A' m' c') ∧ EncS w w' A' m' c' (be x n) ∧ Below W.heap.size W w' := by
  have h0 : EncS w W none 0 0 [] := ⟨hb, World.ownsRow_nil _ _ _ _, rfl, by omega⟩
  exact h0.put x n hX hN hx hn (by omega)
set_option maxHeartbeats 2000000 in
/-- withLength. -/
theorem EncS.part (he : EncS w W A m c L) (hm : m ≤ 50000) (v : Value) (l : List UInt8) (hl : l.length ≤ 40000) (hv : Sl W W.heap.size v l.length (bs l)) : Calls Try.prog 40 #[.slice A m c, v] W fun e w' => ∃ A' m' c', e = .returned (.slice A' m' c') ∧ EncS w w' A' m' c' (L ++ be l.length 2 ++ l) ∧ Eff (fun q => w.heap.size ≤ q) W w' := by
  obtain ⟨i0, hi, hz0, hz1, hz2⟩ := info_parts info_u8
  obtain ⟨Av, cv, rfl, _, _⟩ := hv.form
  have hlx : (l.length : Int) ≤ 40000 := by omega
  have cP := he.put l.length 2 (X := (l.length : Nat)) (N := 2) rfl rfl (by omega) (by decide) (by omega)
  have hLl := he.len
  go_enter Try.func40, Try.ntmps40
  go_wp2_with (first
    | (go_at_call 43; (with_reducible refine cP.mono ?_); rintro e w2 ⟨A2, m2, c2, rfl, e2, b2⟩; have hl2 := e2.len; have hv2 := hv.now b2; have hm2 : m2 ≤ 51000 := (by rw [List.length_append, be_len] at hl2; omega); have hs2 := e2.bl.size)
    | (at_builtin; (refine wpList_append_sl _ rfl (.tmp 9) (.tmp 10) _ rfl w.heap.size 5 i0 _ Try.underlying22 hi hz0 hz1 (by omega) rfl (.slice A2 m2 c2) m2 (bs (L ++ be l.length 2)) rfl e2.row w2.heap.size (.slice Av l.length cv) l.length (bs l) rfl hv2 bs_one (by omega) hs2 ?_); intro v3 w3 ho3 hg3 hat3))
  go_ret
  have b3 := below_own e2.bl hg3 hs2 (own_from e2.row)
  rw [← bs_app] at ho3
  obtain ⟨A3, c3, rfl, _, _⟩ := own_form ho3
  have hE : Eff (fun q => w.heap.size ≤ q) w2 w3 := (eff_grown hg3).mono fun q _ hq => own_from e2.row q hq
  exact ⟨A3, _, c3, rfl, ⟨b3, ho3, by rw [List.length_append, hl2], by omega⟩, (Eff.of (S := fun q => w.heap.size ≤ q) b2).trans hE fun _ _ h => h⟩
theorem zeros_be (k n : Nat) (hn : n = 1 ∨ n = 2 ∨ n = 4 ∨ n = 8) : List.replicate k (0 : UInt8) ++ be 0 n = List.replicate (k + n) 0 := by
  have e : be 0 n = List.replicate n 0 := by rcases hn with rfl | rfl | rfl | rfl <;> rfl
  rw [e, List.replicate_append_replicate]
/-- The bytes of a table of nobody. -/
def tabB : List UInt8 := List.replicate 68 0 ++ [255, 0]
set_option maxHeartbeats 2000000 in
theorem tenc_any (ht : TabM w Y RT.zero) : Calls Try.prog 42 #[.pointer (some ⟨Y, 0, none⟩)] w fun e w' => ∃ A c, e = .returned (.slice A 70 c) ∧ w'.ownsRow w.heap.size 5 1 (.slice A 70 c) 70 (bs tabB) ∧ Below w.heap.size w w' := by
  obtain ⟨i0, hi, hz0, hz1, hz2⟩ := info_parts info_u8
  have hra : ∀ W, Below w.heap.size w W → W.rangeAt Y 0 (kus RT.zero.keys) := by
    intro W hW j v hj
    have h := ht.below hW
    rw [kus_get] at hj
    have hjl : j < 8 := by
      rcases Nat.lt_or_ge j 8 with h1 | h1
      · exact h1
      · rw [List.getElem?_eq_none (by simpa [RT.zero] using h1)] at hj; cases hj
    rw [Nat.zero_add, h.key j hjl]
    rw [List.getElem?_eq_getElem (by simpa [RT.zero] using hjl)] at hj ⊢
    exact hj
  have c10 : w.cell? ⟨Y, 10, none⟩ = some (.int .u32 0) := ht.c10
  have cP : ∀ W A m c k, EncS w W A m c (List.replicate k 0) → m ≤ 1000 → Calls Try.prog 43 #[.slice A m c, .int .u64 0, .int .i64 8] W fun e w' => ∃ A' m' c', e = .returned (.slice A' m' c') ∧ EncS w w' A' m' c' (List.replicate (k + 8) 0) := fun W A m c k he hm => (he.put 0 8 rfl rfl (by decide) (by decide) (by omega)).mono fun e w' ⟨A', m', c', q1, q2, _⟩ => ⟨A', m', c', q1, zeros_be k 8 (by decide) ▸ q2⟩
  have c0 : Calls Try.prog 43 #[.slice none 0 0, .int .u64 0, .int .i64 4] w fun e w' => ∃ A' m' c', e = .returned (.slice A' m' c') ∧ EncS w w' A' m' c' (List.replicate 4 0) := (EncS.put0 (Below.refl _ w) 0 4 (X := 0) (N := 4) rfl rfl (by decide) (by decide)).mono fun e w' ⟨A', m', c', q1, q2, _⟩ => ⟨A', m', c', q1, q2⟩
  go_enter Try.func42, Try.ntmps42
  go_wp2_with (first
    | (go_at_call 43; (with_reducible refine c0.mono ?_); rintro e w2 ⟨A2, m2, c2, rfl, e2⟩; have hra2 := hra w2 e2.bl)
    | (refine wpList_load_mid rfl 104 (.tmp 14) rfl Y 0 rfl (kus RT.zero.keys) _ hra2 Try.underlying104 rfl (by kernel_rfl) ?_))
  go_loopw [3, 16] (fun b x wr => ∃ (j : Nat) (A : Option Addr) (m c : Nat), x = .int .i64 (j : Nat) ∧ j ≤ 8 ∧ b = .slice A m c ∧ EncS w wr A m c (List.replicate (4 + 8 * j) 0)) (fun _ x _ => 8 - (intOf x).toNat)
  case atStart => exact ⟨0, A2, m2, c2, rfl, by omega, rfl, e2⟩
  case round =>
    obtain ⟨j, A, m, c, rfl, hj, rfl, he⟩ := hrel
    by_cases hj8 : j < 8
    · have hjx : (j : Int) < 8 := by omega
      have hm := he.len
      rw [List.length_replicate] at hm
      have cPj := cP wr A m c _ he (by omega)
      have hix : ∀ W, (Instr.index 104 (.agg (kus RT.zero.keys).toArray) (.int .i64 (j : Nat))).run Try.prog W = .ok (.int .u64 0) W := fun W => by
        rw [idx_keys RT.zero.keys rfl j hj8 W]
        have e : RT.zero.keys[j]?.getD 0 = 0 := by
          have : j = 0 ∨ j = 1 ∨ j = 2 ∨ j = 3 ∨ j = 4 ∨ j = 5 ∨ j = 6 ∨ j = 7 := by omega
          rcases this with rfl | rfl | rfl | rfl | rfl | rfl | rfl | rfl <;> rfl
        rw [e]
        rfl
      have hK8 : 4 + 8 * j + 8 = 4 + 8 * (j + 1) := by omega
      rw [hK8] at cPj
      clear hm hj hK8
      go_wp2_with (go_at_call 43; (with_reducible refine cPj.mono ?_); rintro e w5 ⟨A5, m5, c5, rfl, e5⟩)
      exact ⟨⟨j + 1, A5, m5, c5, by simp, by omega, rfl, e5⟩, by simp [intOf]; omega⟩
    · obtain rfl : j = 8 := by omega
      have hm := he.len
      rw [List.length_replicate] at hm
      obtain rfl : m = 68 := by omega
      have c8 : wr.cell? ⟨Y, 8, none⟩ = some (.int .i64 (-1)) := (ht.below he.bl).c8
      have hsl : Sl (wr.alloc (.cells #[.int .u8 255, .int .u8 0] 5)) (wr.alloc (.cells #[.int .u8 255, .int .u8 0] 5)).heap.size (.slice (some ⟨wr.heap.size, 0, none⟩) 2 2) 2 (bs [255, 0]) := Sl.freshM (c := 2) wr #[.int .u8 255, .int .u8 0] _ _ rfl (by decide) (by unfold maxLen; omega)
      have hb1 := (Below.refl _ wr).alloc (Nat.le_refl _) (.cells #[.int .u8 255, .int .u8 0] 5)
      have er := he.below hb1
      have hs1 := er.bl.size
      go_wp2_with (at_builtin; (refine wpList_append_sl _ rfl (.tmp 28) (.tmp 29) _ rfl w.heap.size 5 i0 _ Try.underlying22 hi hz0 hz1 (by omega) rfl (.slice A 68 c) 68 (bs (List.replicate 68 0)) rfl er.row _ (.slice (some ⟨wr.heap.size, 0, none⟩) 2 2) 2 (bs [255, 0]) rfl hsl bs_one (by omega) hs1 ?_); intro v3 w3 ho3 hg3 hat3)
      go_ret
      have b3 := below_own er.bl hg3 hs1 (own_from er.row)
      rw [← bs_app] at ho3
      obtain ⟨A3, c3, rfl, _, _⟩ := own_form ho3
      exact ⟨A3, c3, rfl, ho3, b3⟩
end
end Un
end Go.Proofs.Ytpkebbibafldkaa
