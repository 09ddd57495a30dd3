/- Package twin: what is found behind Format and Put; gemellaw11's known. -/
import Derived.Test.YtddliemjbolffaaTn4
import Derived.Test.YtddliemjbolffaaZ
import Derived.Lib.SlBytesConst
namespace Go.Proofs.Ytddliemjbolffaa
open Go.ChangeShapes Go.WideShapes Go.ChangeAt Go.RowKit Go.Lib
set_option linter.unusedVariables false
set_option linter.unusedSimpArgs false
theorem own : ownKnob Try.prog.godebug = none := by kernel_rfl
theorem laidOut : laidOutB Try.prog = true := by kernel_rfl
namespace Tw
open Dk
theorem now_flushed {S : DS} (hF : Fine S) (i : Nat) : S.flushed.now i = S.now i := by
  rw [DS.now_eq, flushed_wa hF, flushed_la hF]
  rfl
theorem now_wr {S : DS} (hF : Fine S) {n : Nat} (hn : n < S.last.length) (l : List UInt8) (i : Nat) : (S.wr n l).now i = if i = n then l else S.now i := by
  rw [DS.now_eq, wr_wa hF hn]
  split
  · simp
  · rfl
theorem full_pack {n : Nat} {l : List UInt8} (hl : l.length ≤ 488) : full (packS n l) = packS n l := by
  unfold full
  rw [packS_len hl]
  simp
theorem cand_pack {n : Nat} {l : List UInt8} (hn : n < 18446744073709551616) (hl : l.length ≤ 488) (j : Nat) : cand (full (packS n l)) j = if n % 2 = j then some (n, l) else none := by
  unfold cand
  rw [full_pack hl, unpack_pack n hn l hl]
  simp
theorem zero_bad : (unpackS (full [])).2.2 ≠ 0 := by decide +kernel
theorem cand_zero (j : Nat) : cand (full []) j = none := by
  unfold cand
  rw [if_neg (fun h => zero_bad h.1)]
theorem cand_num {s : List UInt8} {j : Nat} {p : Nat × List UInt8} (h : cand s j = some p) : p.1 % 2 = j := by
  unfold cand at h
  split at h
  · rename_i hc
    cases h
    exact hc.2
  · cases h
theorem bestTo_two (S : DS) (a : Nat) : bestTo S a 2 = best (cand (full (S.now a)) 0) (cand (full (S.now (a + 1))) 1) := rfl
theorem fmtS_fine {S : DS} (hF : Fine S) {a : Nat} (ha : a + 1 < S.last.length) (l : List UInt8) : Fine (fmtS S a l) := (((hF.wr (n := a) (by omega) []).wr (n := a + 1) (by exact ha) (packS 1 l))).flushed
theorem best_fmt {S : DS} (hF : Fine S) {a : Nat} (ha : a + 1 < S.last.length) {l : List UInt8} (hl : l.length ≤ 488) : bestTo (fmtS S a l) a 2 = some (1, l) := by
  have h1 := hF.wr (n := a) (by omega) []
  have h2 := h1.wr (n := a + 1) ha (packS 1 l)
  have n0 : (fmtS S a l).now a = [] := by
    show (DS.flushed _).now a = _
    rw [now_flushed h2, now_wr h1 ha, if_neg (by omega), now_wr hF (by omega), if_pos rfl]
  have n1 : (fmtS S a l).now (a + 1) = packS 1 l := by
    show (DS.flushed _).now (a + 1) = _
    rw [now_flushed h2, now_wr h1 ha, if_pos rfl]
  rw [bestTo_two, n0, n1, cand_zero, cand_pack (by omega) hl]
  rfl
theorem best_put {S : DS} (hF : Fine S) {a n : Nat} {l0 l : List UInt8} (ha : a + 1 < S.last.length) (hn : n + 1 < 18446744073709551616) (hl : l.length ≤ 488) (hb : bestTo S a 2 = some (n, l0)) : bestTo (putS S a (n + 1) l) a 2 = some (n + 1, l) := by
  have hq : a + (n + 1) % 2 < S.last.length := by omega
  have h1 := hF.wr (n := a + (n + 1) % 2) hq (packS (n + 1) l)
  have hnow : ∀ i, (putS S a (n + 1) l).now i = if i = a + (n + 1) % 2 then packS (n + 1) l else S.now i := fun i => by
    show (DS.flushed _).now i = _
    rw [now_flushed h1, now_wr hF hq]
  rw [bestTo_two] at hb ⊢
  rcases Nat.mod_two_eq_zero_or_one (n + 1) with hp | hp
  · rw [hnow, hnow, hp, if_pos (by omega), if_neg (by omega), cand_pack hn hl, if_pos hp]
    cases hc : cand (full (S.now (a + 1))) 1 with
    | none => rfl
    | some p =>
      rw [hc] at hb
      have hle : p.1 ≤ n := by
        cases h0 : cand (full (S.now a)) 0 with
        | none => rw [h0] at hb; cases hb; exact Nat.le_refl _
        | some r =>
          rw [h0] at hb
          unfold best at hb
          simp only at hb
          split at hb
          · cases hb; exact Nat.le_refl _
          · cases hb; omega
      unfold best
      simp only
      rw [if_neg (by omega)]
  · rw [hnow, hnow, hp, if_neg (by omega), if_pos rfl, cand_pack hn hl, if_pos hp]
    cases h0 : cand (full (S.now a)) 0 with
    | none => rfl
    | some r =>
      rw [h0] at hb
      have hle : r.1 ≤ n := by
        cases hc : cand (full (S.now (a + 1))) 1 with
        | none => rw [hc] at hb; cases hb; exact Nat.le_refl _
        | some p =>
          rw [hc] at hb
          unfold best at hb
          simp only at hb
          split at hb
          · cases hb; simp only at *; omega
          · cases hb; exact Nat.le_refl _
      unfold best
      simp only
      rw [if_pos (by omega)]
theorem TwM.mono {B B' X Y a n : Nat} {w : World} {O : Nat → Prop} {v : Value} {l : List UInt8} (h : TwM B w O Y X a n v l) (hB : B' ≤ B) : TwM B' w O Y X a n v l := ⟨h.mem, owns_mono h.row hB, Nat.le_trans hB h.from_, h.noY, h.noV, h.fit, h.few⟩
theorem str {w : World} {v : Value} {n : Nat} {l : List UInt8} (h : Sl w w.heap.size v n (bs l)) : (convert 23 9 v).run Try.prog w = .ok (.string ⟨l.toArray⟩) w :=
  bytes_str (P := Try.prog) w 23 9 5 Try.underlying23 Try.underlying5 Try.underlying9 _ _ l n h
/-- A value opened where one is. -/
theorem open_is {o w : World} {X : Nat} {O : Nat → Prop} {S : DS} (h : Dsk o w X O S) (hdd : S.dead = false) (hof : S.off = false) (a : Nat) (ha : a + 1 < S.last.length) (hw : S.wtg ≤ 1000000) {n : Nat} {l : List UInt8} (hb : bestTo S a 2 = some (n, l)) :
    Calls Try.prog 11 #[.pointer (some ⟨X, 0, none⟩), .int .i64 (a : Nat)] w fun e w' => ∃ Y v, e = .returned (.tuple #[.pointer (some ⟨Y, 0, none⟩), .int .i64 0]) ∧ TwM w.heap.size w' O Y X a n v l ∧ Dsk o w' X O S ∧ Below w.heap.size w w' := by
  refine (open_ok h hdd hof a ha hw).mono ?_
  rintro e w' ⟨p, hF, rfl, hbl⟩
  rw [hb] at hF
  obtain ⟨Y, v, rfl, hT⟩ := hF
  exact ⟨Y, v, by rw [hb]; rfl, hT, h.below hbl, hbl⟩
def kS1 : DS := fmtS (DS.new 4) 1 [97]
def kS2 : DS := putS kS1 1 2 [98, 99]
set_option maxRecDepth 100000 in
set_option maxHeartbeats 4000000 in
theorem known_any (w : World) : Calls Try.prog 5 #[] w fun e w' => e = .returned (.bool true) ∧ Below w.heap.size w w' := by
  have kc := fun (W : World) (C : Array Value) (n c : Nat) => Lib.run_convert_bytes_const (P := Try.prog) W 23 5 C n c Try.underlying23 Try.underlying5
  have cNew : Calls Try.prog 10 #[.int .i64 4] w fun e w' => ∃ X O, e = .returned (.tuple #[.pointer (some ⟨X, 0, none⟩), .int .i64 0]) ∧ Dsk w w' X O (DS.new 4) ∧ (∀ k, O k → w.heap.size ≤ k) ∧ Below w.heap.size w w' := d_new (o := w) 4 (by omega) (by omega) (Below.refl w.heap.size w)
  have f0 := Fine.new 4 (by omega)
  have f1 : Fine kS1 := fmtS_fine f0 (a := 1) (by decide) _
  have b1 : bestTo kS1 1 2 = some (1, [97]) := best_fmt f0 (a := 1) (by decide) (by decide)
  have b2 : bestTo kS2 1 2 = some (2, [98, 99]) := best_put f1 (a := 1) (n := 1) (by decide) (by omega) (by decide) b1
  have cF : ∀ W X O, Dsk w W X O (DS.new 4) → Calls Try.prog 12 #[.pointer (some ⟨X, 0, none⟩), .int .i64 1, .slice (some ⟨W.heap.size, 0, none⟩) 1 1] (W.alloc (.cells #[.int .u8 97] 5 (1, 2))) fun e w' => ∃ O', e = .returned (.int .i64 0) ∧ Dsk w w' X O' kS1 := by
    intro W X O hs
    have h2 := hs.below ((Below.refl _ W).alloc (Nat.le_refl _) (.cells #[.int .u8 97] 5 (1, 2)))
    refine (format_ok h2 ⟨rfl, rfl, rfl⟩ 1 (by decide) (by decide) (by decide) _ [97] (Sl.freshM (c := 1) W #[.int .u8 97] _ _ rfl (Nat.le_refl _) (by unfold maxLen; omega)) (by decide)).mono ?_
    rintro e w' ⟨O', rfl, h1, _⟩
    exact ⟨O', rfl, h1⟩
  have cO1 : ∀ W X O, Dsk w W X O kS1 → Calls Try.prog 11 #[.pointer (some ⟨X, 0, none⟩), .int .i64 1] W fun e w' => ∃ Y v, e = .returned (.tuple #[.pointer (some ⟨Y, 0, none⟩), .int .i64 0]) ∧ TwM W.heap.size w' O Y X 1 1 v [97] ∧ Dsk w w' X O kS1 ∧ Below W.heap.size W w' := fun W X O hs => open_is hs rfl rfl 1 (by decide) (by decide) b1
  have cO2 : ∀ W X O, Dsk w W X O kS2 → Calls Try.prog 11 #[.pointer (some ⟨X, 0, none⟩), .int .i64 1] W fun e w' => ∃ Y v, e = .returned (.tuple #[.pointer (some ⟨Y, 0, none⟩), .int .i64 0]) ∧ TwM W.heap.size w' O Y X 1 2 v [98, 99] ∧ Dsk w w' X O kS2 ∧ Below W.heap.size W w' := fun W X O hs => open_is hs rfl rfl 1 (by decide) (by decide) b2
  have cP : ∀ W X O Y v, Dsk w W X O kS1 → TwM w.heap.size W O Y X 1 1 v [97] → Calls Try.prog 15 #[.pointer (some ⟨Y, 0, none⟩), .slice (some ⟨W.heap.size, 0, none⟩) 2 2] (W.alloc (.cells #[.int .u8 98, .int .u8 99] 5 (2, 3))) fun e w' => ∃ O' v', e = .returned (.int .i64 0) ∧ Dsk w w' X O' kS2 ∧ TwM w.heap.size w' O' Y X 1 2 v' [98, 99] := by
    intro W X O Y v hs ht
    have hb := (Below.refl W.heap.size W).alloc (Nat.le_refl _) (.cells #[.int .u8 98, .int .u8 99] 5 (2, 3))
    obtain ⟨V, hV⟩ := hs.is
    refine (put_ok (hs.below hb) ⟨rfl, rfl, rfl⟩ (by decide) (by decide) (by decide) (ht.below hb) (Nat.le_refl _) (by omega) _ [98, 99] (Sl.freshM (c := 2) W #[.int .u8 98, .int .u8 99] _ _ rfl (Nat.le_refl _) (by unfold maxLen; omega)) ?_ (by decide)).mono ?_
    · intro k hk
      obtain rfl := Option.some.inj hk
      have := ht.mem.lt
      exact ⟨fun e => by have e : W.heap.size = Y := e; omega, fun hO => absurd (hV.lt _ hO) (Nat.lt_irrefl _)⟩
    · rintro e w' ⟨O', v', rfl, h1, h2, _⟩
      exact ⟨O', v', rfl, h1, h2⟩
  clear f0 f1 b1 b2
  go_enter Try.func5, Try.ntmps5
  go_wp2_with (first
    | (go_at_call 10; (with_reducible refine cNew.mono ?_); rintro e w1 ⟨X, O1, rfl, s1, _, _⟩)
    | (go_at_call 12; (with_reducible refine (cF _ _ _ s1).mono ?_); rintro e w2 ⟨O2, rfl, s2⟩)
    | (go_at_call 11; (with_reducible refine (cO2 _ _ _ s4).mono ?_); rintro e w5 ⟨Y5, v5, rfl, t5, s5, b5⟩)
    | (go_at_call 11; (with_reducible refine (cO1 _ _ _ s2).mono ?_); rintro e w3 ⟨Y3, v3, rfl, t3, s3, b3⟩; have t3 := t3.mono s2.bl.size)
    | (go_at_call 15; (with_reducible refine (cP _ _ _ _ _ s3 t3).mono ?_); rintro e w4 ⟨O4, v4, rfl, s4, t4⟩)
    | (go_at_call 14; (with_reducible refine (value_any t5).mono ?_); rintro e w6 ⟨v6, rfl, o6, b6⟩; have st6 := str (Sl.of_own o6); have n5 := number_any (t5.below b6); have v4' := value_any ((t4.below b5).below b6))
    | (go_at_call 13; (with_reducible refine n5.mono ?_); rintro e w7 ⟨rfl, rfl⟩)
    | (go_at_call 14; (with_reducible refine v4'.mono ?_); rintro e w8 ⟨v8, rfl, o8, b8⟩; have st8 := str (Sl.of_own o8)))
  go_ret
  exact ⟨rfl, (s5.bl.trans (b6.mono s5.bl.size)).trans (b8.mono (s5.below b6).bl.size)⟩
end Tw
end Go.Proofs.Ytddliemjbolffaa
