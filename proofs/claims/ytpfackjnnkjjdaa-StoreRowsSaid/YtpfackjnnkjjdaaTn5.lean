/- Package twin: what is found behind Format and Put; gemellaw11's known. -/
import Derived.Test.YtpfackjnnkjjdaaTn4
import Derived.Test.YtpfackjnnkjjdaaZ
import Derived.Lib.SlBytesConst
namespace Go.Proofs.Ytpfackjnnkjjdaa
open Go.ChangeShapes Go.WideShapes Go.ChangeAt Go.RowKit Go.Lib
set_option linter.unusedVariables false
set_option linter.unusedSimpArgs false
theorem own : ownKnob Try.prog.godebug = none := by kernel_rfl
theorem laidOut : laidOutB Try.prog = true := by kernel_rfl
namespace Tw
open Dk
theorem now_flushed {S : DS} (hF : Fine S) (i : Nat) : S.flushed.now i = S.now i := by
  rw [DS.now_eq, flushed_wa hF, flushed_la hF]
  rfl
theorem now_wr {S : DS} (hF : Fine S) {n : Nat} (hn : n < S.last.length) (l : List UInt8) (i : Nat) : (S.wr n l).now i = if i = n then l else S.now i := by
  rw [DS.now_eq, wr_wa hF hn]
  split
  · simp
  · rfl
theorem full_pack {n : Nat} {l : List UInt8} (hl : l.length ≤ 488) : full (packS n l) = packS n l := by
  unfold full
  rw [packS_len hl]
  simp
theorem cand_pack {n : Nat} {l : List UInt8} (hn : n < 18446744073709551616) (hl : l.length ≤ 488) (j : Nat) : cand (full (packS n l)) j = if n % 2 = j then some (n, l) else none := by
  unfold cand
  rw [full_pack hl, unpack_pack n hn l hl]
  simp
theorem zero_bad : (unpackS (full [])).2.2 ≠ 0 := by decide +kernel
theorem cand_zero (j : Nat) : cand (full []) j = none := by
  unfold cand
  rw [if_neg (fun h => zero_bad h.1)]
theorem cand_num {s : List UInt8} {j : Nat} {p : Nat × List UInt8} (h : cand s j = some p) : p.1 % 2 = j := by
  unfold cand at h
  split at h
  · rename_i hc
    cases h
    exact hc.2
  · cases h
theorem bestTo_two (S : DS) (a : Nat) : bestTo S a 2 = best (cand (full (S.now a)) 0) (cand (full (S.now (a + 1))) 1) := rfl
theorem fmtS_fine {S : DS} (hF : Fine S) {a : Nat} (ha : a + 1 < S.last.length) (l : List UInt8) : Fine (fmtS S a l) := (((hF.wr (n := a) (by omega) []).wr (n := a + 1) (by exact ha) (packS 1 l))).flushed
theorem best_fmt {S : DS} (hF : Fine S) {a : Nat} (ha : a + 1 < S.last.length) {l : List UInt8} (hl : l.length ≤ 488) : bestTo (fmtS S a l) a 2 = some (1, l) := by
  have h1 := hF.wr (n := a) (by omega) []
  have h2 := h1.wr (n := a + 1) ha (packS 1 l)
  have n0 : (fmtS S a l).now a = [] := by
    show (DS.flushed _).now a = _
    rw [now_flushed h2, now_wr h1 ha, if_neg (by omega), now_wr hF (by omega), if_pos rfl]
  have n1 : (fmtS S a l).now (a + 1) = packS 1 l := by
    show (DS.flushed _).now (a + 1) = _
    rw [now_flushed h2, now_wr h1 ha, if_pos rfl]
  rw [bestTo_two, n0, n1, cand_zero, cand_pack (by omega) hl]
  rfl
theorem best_put {S : DS} (hF : Fine S) {a n : Nat} {l0 l : List UInt8} (ha : a + 1 < S.last.length) (hn : n + 1 < 18446744073709551616) (hl : l.length ≤ 488) (hb : bestTo S a 2 = some (n, l0)) : bestTo (putS S a (n + 1) l) a 2 = some (n + 1, l) := by
  have hq : a + (n + 1) % 2 < S.last.length := by omega
  have h1 := hF.wr (n := a + (n + 1) % 2) hq (packS (n + 1) l)
  have hnow : ∀ i, (putS S a (n + 1) l).now i = if i = a + (n + 1) % 2 then packS (n + 1) l else S.now i := fun i => by
    show (DS.flushed _).now i = _
    rw [now_flushed h1, now_wr hF hq]
  rw [bestTo_two] at hb ⊢
  rcases Nat.mod_two_eq_zero_or_one (n + 1) with hp | hp
  · rw [hnow, hnow, hp, if_pos (by omega), if_neg (by omega), cand_pack hn hl, if_pos hp]
    cases hc : cand (full (S.now (a + 1))) 1 with
    | none => rfl
    | some p =>
      rw [hc] at hb
      have hle : p.1 ≤ n := by
        cases h0 : cand (full (S.now a)) 0 with
        | none => rw [h0] at hb; cases hb; exact Nat.le_refl _
        | some r =>
          rw [h0] at hb
          unfold best at hb
          simp only at hb
          split at hb
          · cases hb; exact Nat.le_refl _
          · cases hb; omega
      unfold best
      simp only
      rw [if_neg (by omega)]
  · rw [hnow, hnow, hp, if_neg (by omega), if_pos rfl, cand_pack hn hl, if_pos hp]
    cases h0 : cand (full (S.now a)) 0 with
    | none => rfl
    | some r =>
      rw [h0] at hb
      have hle : r.1 ≤ n := by
        cases hc : cand (full (S.now (a + 1))) 1 with
        | none => rw [hc] at hb; cases hb; exact Nat.le_refl _
        | some p =>
          rw [hc] at hb
          unfold best at hb
          simp only at hb
          split at hb
          · cases hb; simp only at *; omega
          · cases hb; exact Nat.le_refl _
      unfold best
      simp only
      rw [if_pos (by omega)]
theorem TwM.mono {B B' X Y a n : Nat} {w : World} {O : Nat → Prop} {v : Value} {l : List UInt8} (h : TwM B w O Y X a n v l) (hB : B' ≤ B) : TwM B' w O Y X a n v l := ⟨h.mem, owns_mono h.row hB, Nat.le_trans hB h.from_, h.noY, h.noV, h.fit, h.few⟩
theorem str {w : World} {v : Value} {n : Nat} {l : List UInt8} (h : Sl w w.heap.size v n (bs l)) : (convert 34 9 v).run Try.prog w = .ok (.string ⟨l.toArray⟩) w :=
  bytes_str (P := Try.prog) w 34 9 5 Try.underlying34 Try.underlying5 Try.underlying9 _ _ l n h
/-- A value opened where one is. -/
theorem open_is {o w : World} {X : Nat} {O : Nat → Prop} {S : DS} (h : Dsk o w X O S) (hdd : S.dead = false) (hof : S.off = false) (a : Nat) (ha : a + 1 < S.last.length) (hw : S.wtg ≤ 1000000) {n : Nat} {l : List UInt8} (hb : bestTo S a 2 = some (n, l)) :
    Calls Try.prog 24 #[.pointer (some ⟨X, 0, none⟩), .int .i64 (a : Nat)] w fun e w' => ∃ Y v, e = .returned (.tuple #[.pointer (some ⟨Y, 0, none⟩), .int .i64 0]) ∧ TwM w.heap.size w' O Y X a n v l ∧ Dsk o w' X O S ∧ Below w.heap.size w w' := by
  refine (open_ok h hdd hof a ha hw).mono ?_
  rintro e w' ⟨p, hF, rfl, hbl⟩
  rw [hb] at hF
  obtain ⟨Y, v, rfl, hT⟩ := hF
  exact ⟨Y, v, by rw [hb]; rfl, hT, h.below hbl, hbl⟩
def kS1 : DS := fmtS (DS.new 4) 1 [97]
def kS2 : DS := putS kS1 1 2 [98, 99]
end Tw
end Go.Proofs.Ytpfackjnnkjjdaa
