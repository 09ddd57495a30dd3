/- Package witness: a Cas while the power goes: what the disk holds then. -/
import Derived.Test.YtccknplmcnahbaaWt5
import Derived.Test.YtccknplmcnahbaaDkA
namespace Go.Proofs.Ytccknplmcnahbaa
open Go.ChangeShapes Go.WideShapes Go.ChangeAt Go.RowKit Go.Lib
set_option linter.unusedVariables false
set_option linter.unusedSimpArgs false
set_option maxRecDepth 100000
namespace Wt
open Dk Tw
theorem best_same {S S' : DS} (h : ∀ i, S'.now i = S.now i) : bestTo S' 0 2 = bestTo S 0 2 := by rw [bestTo_two, bestTo_two, h, h]
theorem best_new {S S' : DS} (hF : Fine S) {n : Nat} {l0 l : List UInt8} (h2 : 0 + 1 < S.last.length) (hn : n + 1 < 18446744073709551616) (hl : l.length ≤ 488) (hb : bestTo S 0 2 = some (n, l0)) (h : ∀ i, S'.now i = if i = 0 + (n + 1) % 2 then packS (n + 1) l else S.now i) : bestTo S' 0 2 = some (n + 1, l) := by
  rw [← best_put hF h2 hn hl hb]
  refine best_same fun i => ?_
  rw [h]
  have hq : 0 + (n + 1) % 2 < S.last.length := by omega
  show _ = (DS.flushed _).now i
  rw [now_flushed (hF.wr (n := 0 + (n + 1) % 2) hq (packS (n + 1) l)), now_wr hF hq]
/-- A disk that rests: nothing waits, and the twin's value is this. -/
structure Cl (S : DS) (n : Nat) (l : List UInt8) (c : Nat) : Prop where
  fine : Fine S
  dead : S.dead = false
  off : S.off = false
  len : S.last.length = 2
  wtg : S.wtg = 0
  arm : S.arm ≤ 1000000
  pk : PkOk S.picks
  calls : S.calls ≤ c
  best : bestTo S 0 2 = some (n, l)
theorem wa_nil {S : DS} (hF : Fine S) (h : S.wtg = 0) (i : Nat) : S.wa i = [] := by
  have ht : S.tch = [] := List.eq_nil_of_length_eq_zero (by have := hF.tcnt; omega)
  exact Classical.byContradiction fun hn => by
    have := (hF.toGood.wat hF.lens i).2 hn
    rw [ht] at this
    cases this
theorem now_nil {S : DS} (hF : Fine S) (h : S.wtg = 0) (i : Nat) : S.now i = S.la i := by rw [DS.now_eq, wa_nil hF h]; rfl
/-- The power given again. -/
def DS.on (S : DS) : DS := { S with off := false, arm := 0, picks := [] }
theorem fine_on {S : DS} (h : Fine S) : Fine (DS.on S) := ⟨⟨h.few, h.inT, h.nodup, h.has, h.cnt, h.tcnt⟩, h.lens⟩
section
variable {S : DS} {n c : Nat} {l m : List UInt8}
/-- What a Put leaves, armed or not, where the power stays. -/
def putA (S : DS) (n : Nat) (m : List UInt8) : DS := (S.tick.wr (0 + (n + 1) % 2) (packS (n + 1) m)).tick.flushed
theorem Cl.put (h : Cl S n l c) (hn : n + 1 < 18446744073709551616) (hm : m.length ≤ 488) : Cl (putA S n m) (n + 1) m (c + 2) := by
  have hq : 0 + (n + 1) % 2 < S.last.length := by rw [h.len]; omega
  have f1 := (fine_tick h.fine).wr (n := 0 + (n + 1) % 2) hq (packS (n + 1) m)
  have f2 := fine_tick f1
  refine ⟨f2.flushed, h.dead, h.off, ?_, rfl, ?_, h.pk, ?_, best_new h.fine (by rw [h.len]; decide) hn hm h.best fun i => ?_⟩
  · exact (flsh_len ..).trans h.len
  · show S.arm - 1 - 1 ≤ _; have := h.arm; omega
  · show S.calls + 1 + 1 ≤ c + 2; have := h.calls; omega
  · show (DS.flushed _).now i = _
    rw [now_flushed f2]
    show (S.tick.wr (0 + (n + 1) % 2) (packS (n + 1) m)).now i = _
    rw [now_wr (fine_tick h.fine) hq]
    rfl
theorem crash_len (S : DS) (zs : List Int) : (S.crashed zs).last.length = S.last.length := fell_len ..
theorem Cl.crash (h : Cl S n l c) (zs : List Int) : Cl (DS.on (S.crashed zs)) n l c := by
  have fc := fine_on (h.fine.crashed zs)
  refine ⟨fc, h.dead, rfl, (crash_len S zs).trans h.len, rfl, Nat.zero_le _, fun z hz => (by cases hz), h.calls, ?_⟩
  rw [← h.best]
  refine best_same fun i => ?_
  rw [now_nil fc rfl, now_nil h.fine h.wtg]
  show (S.crashed zs).la i = _
  rcases crashed_la h.fine zs i with e | e
  · exact e
  · rw [wa_nil h.fine h.wtg] at e; cases e
theorem Cl.crashW (h : Cl S n l c) (zs : List Int) (hn : n + 1 < 18446744073709551616) (hm : m.length ≤ 488) : Cl (DS.on ((S.tick.wr (0 + (n + 1) % 2) (packS (n + 1) m)).crashed zs)) n l (c + 2) ∨ Cl (DS.on ((S.tick.wr (0 + (n + 1) % 2) (packS (n + 1) m)).crashed zs)) (n + 1) m (c + 2) := by
  have hq : 0 + (n + 1) % 2 < S.last.length := by rw [h.len]; omega
  have ft := fine_tick h.fine
  have f1 := ft.wr (n := 0 + (n + 1) % 2) hq (packS (n + 1) m)
  have fc := fine_on (f1.crashed zs)
  have hbase : ∀ n' l', bestTo (DS.on ((S.tick.wr (0 + (n + 1) % 2) (packS (n + 1) m)).crashed zs)) 0 2 = some (n', l') → Cl (DS.on ((S.tick.wr (0 + (n + 1) % 2) (packS (n + 1) m)).crashed zs)) n' l' (c + 2) := fun n' l' hb => ⟨fc, h.dead, rfl, (crash_len _ zs).trans h.len, rfl, Nat.zero_le _, fun z hz => (by cases hz), by show S.calls + 1 ≤ c + 2; have := h.calls; omega, hb⟩
  have hwa : ∀ i, (S.tick.wr (0 + (n + 1) % 2) (packS (n + 1) m)).wa i = if i = 0 + (n + 1) % 2 then [packS (n + 1) m] else [] := fun i => by
    rw [wr_wa ft hq]
    split
    · rw [show S.tick.wa _ = S.wa _ from rfl, wa_nil h.fine h.wtg]; rfl
    · exact wa_nil h.fine h.wtg i
  have hla : ∀ i, (S.tick.wr (0 + (n + 1) % 2) (packS (n + 1) m)).la i = S.la i := fun i => rfl
  have hn' : ∀ i, (DS.on ((S.tick.wr (0 + (n + 1) % 2) (packS (n + 1) m)).crashed zs)).now i = ((S.tick.wr (0 + (n + 1) % 2) (packS (n + 1) m)).crashed zs).la i := fun i => now_nil fc rfl i
  have hS : ∀ i, S.now i = S.la i := fun i => now_nil h.fine h.wtg i
  have hoth : ∀ i, i ≠ 0 + (n + 1) % 2 → ((S.tick.wr (0 + (n + 1) % 2) (packS (n + 1) m)).crashed zs).la i = S.la i := fun i hi => by
    rcases crashed_la f1 zs i with e | e
    · exact e.trans (hla i)
    · rw [hwa, if_neg hi] at e; cases e
  rcases crashed_la f1 zs (0 + (n + 1) % 2) with e | e
  · left
    refine hbase n l ?_
    rw [← h.best]
    refine best_same fun i => ?_
    rw [hn', hS]
    by_cases hi : i = 0 + (n + 1) % 2
    · rw [hi, e, hla]
    · exact hoth i hi
  · right
    rw [hwa, if_pos rfl] at e
    have e := List.mem_singleton.1 e
    refine hbase (n + 1) m (best_new h.fine (by rw [h.len]; decide) hn hm h.best fun i => ?_)
    rw [hn']
    by_cases hi : i = 0 + (n + 1) % 2
    · rw [if_pos hi, hi, e]
    · rw [if_neg hi, hS]; exact hoth i hi
end
section
variable {o w w' : World} {X Y Z n c : Nat} {O O' : Nat → Prop} {S : DS} {l : List UInt8} {e p m : Nat}
theorem puts_A0 (h : Wit o w Z Y X O S n l e p m) (hc : Cl S n l c) (hcl : c ≤ 1000000) (ha1 : S.arm ≠ 1) (ha2 : S.arm ≠ 2) (hn : n + 1 < 18446744073709551616) (re rp rm : Nat) : Puts o w X Y O (encS re rp rm) 0 (putA S n (encS re rp rm)) (n + 1) (encS re rp rm) := by
  intro W A c' hW ho
  obtain ⟨v, hv⟩ := h.tw
  obtain ⟨V, hV⟩ := h.dsk.is
  have hYl := hv.mem.lt
  have hq : 0 + (n + 1) % 2 < S.last.length := by rw [hc.len]; omega
  have hca := hc.calls
  have har := hc.arm
  have hm : (encS re rp rm).length ≤ 488 := by rw [encS_len]; decide
  refine (put_g (h.dsk.below hW) (show 0 + 1 < S.last.length by rw [hc.len]; decide) (hv.below hW) (Nat.le_refl _) hn (.slice A 10 c') (encS re rp rm) (by rw [encS_len]; exact Sl.of_own ho) (fun k hk => ?_) hm (S1 := S.tick.wr (0 + (n + 1) % 2) (packS (n + 1) (encS re rp rm))) (S2 := putA S n (encS re rp rm)) (fun W u hd hs hk => d_writeA hd hc.dead hc.off ha1 har _ hq (by rw [hc.wtg]; decide) (by omega) u _ (by rw [packS_len hm]; exact hs) (by rw [packS_len hm]; decide) hk) (fun W O' hd => d_flushA hd hc.dead hc.off (show S.arm - 1 ≠ 1 by omega) (show S.arm - 1 ≤ _ by omega) (show S.wtg + 1 ≤ _ by rw [hc.wtg]; decide) (show S.calls + 1 ≤ _ by omega))).mono ?_
  · have h1 := (own_tag ho k hk).1
    exact ⟨by omega, fun hO => by have := hV.lt k hO; omega⟩
  · rintro e' w' ⟨O', v', h1, h3, h4, h5, h6⟩
    exact ⟨O', v', h1, h3, h4, h5, h6⟩
theorem puts_A1 (h : Wit o w Z Y X O S n l e p m) (hc : Cl S n l c) (hcl : c ≤ 1000000) (ha1 : S.arm = 1) (hn : n + 1 < 18446744073709551616) (re rp rm : Nat) : Puts o w X Y O (encS re rp rm) 8 (S.crashed S.picks) n l := by
  intro W A c' hW ho
  obtain ⟨v, hv⟩ := h.tw
  obtain ⟨V, hV⟩ := h.dsk.is
  have hYl := hv.mem.lt
  have hq : 0 + (n + 1) % 2 < S.last.length := by rw [hc.len]; omega
  have hm : (encS re rp rm).length ≤ 488 := by rw [encS_len]; decide
  refine (put_w8 (h.dsk.below hW) (show 0 + 1 < S.last.length by rw [hc.len]; decide) (hv.below hW) (Nat.le_refl _) hn (.slice A 10 c') (encS re rp rm) (by rw [encS_len]; exact Sl.of_own ho) (fun k hk => ?_) hm (S1 := S.crashed S.picks) (fun W u hd hs hk => (d_writeX hd hc.dead hc.off ha1 hc.pk _ hq (by rw [hc.wtg]; decide) u (packS (n + 1) (encS re rp rm)) (by rw [packS_len hm]; exact hs) (by rw [packS_len hm]; decide)).mono fun e' w' ⟨q1, q2, q3⟩ => ⟨O, q1, q2, q3, fun k hk => .inl hk⟩)).mono ?_
  · have h1 := (own_tag ho k hk).1
    exact ⟨by omega, fun hO => by have := hV.lt k hO; omega⟩
  · rintro e' w' ⟨O', v', h1, h3, h4, h5, h6⟩
    exact ⟨O', v', h1, h3, h4, h5, h6⟩
theorem puts_A2 (h : Wit o w Z Y X O S n l e p m) (hc : Cl S n l c) (hcl : c ≤ 1000000) (ha2 : S.arm = 2) (hn : n + 1 < 18446744073709551616) (re rp rm : Nat) : Puts o w X Y O (encS re rp rm) 8 ((S.tick.wr (0 + (n + 1) % 2) (packS (n + 1) (encS re rp rm))).crashed S.picks) n l := by
  intro W A c' hW ho
  obtain ⟨v, hv⟩ := h.tw
  obtain ⟨V, hV⟩ := h.dsk.is
  have hYl := hv.mem.lt
  have hq : 0 + (n + 1) % 2 < S.last.length := by rw [hc.len]; omega
  have hca := hc.calls
  have har := hc.arm
  have hm : (encS re rp rm).length ≤ 488 := by rw [encS_len]; decide
  refine (put_f8 (h.dsk.below hW) (show 0 + 1 < S.last.length by rw [hc.len]; decide) (hv.below hW) (Nat.le_refl _) hn (.slice A 10 c') (encS re rp rm) (by rw [encS_len]; exact Sl.of_own ho) (fun k hk => ?_) hm (S1 := S.tick.wr (0 + (n + 1) % 2) (packS (n + 1) (encS re rp rm))) (S2 := (S.tick.wr (0 + (n + 1) % 2) (packS (n + 1) (encS re rp rm))).crashed S.picks) (fun W u hd hs hk => d_writeA hd hc.dead hc.off (by omega) har _ hq (by rw [hc.wtg]; decide) (by omega) u _ (by rw [packS_len hm]; exact hs) (by rw [packS_len hm]; decide) hk) (fun W O' hd => d_flushX hd hc.dead hc.off (show S.arm - 1 = 1 by omega) hc.pk (show S.wtg + 1 ≤ _ by rw [hc.wtg]; decide))).mono ?_
  · have h1 := (own_tag ho k hk).1
    exact ⟨by omega, fun hO => by have := hV.lt k hO; omega⟩
  · rintro e' w' ⟨O', v', h1, h3, h4, h5, h6⟩
    exact ⟨O', v', h1, h3, h4, h5, h6⟩
end
end Wt
end Go.Proofs.Ytccknplmcnahbaa
