/- Package disk: an armed disk: goesNow, Write, Flush, Arm: contracts. -/
import Derived.Test.YtccknplmcnahbaaDk9
namespace Go.Proofs.Ytccknplmcnahbaa
open Go.ChangeShapes Go.WideShapes Go.ChangeAt Go.RowKit Go.Lib
set_option linter.unusedVariables false
set_option linter.unusedSimpArgs false
set_option maxRecDepth 100000
namespace Dk
/-- One call less. -/
def DS.tick (S : DS) : DS := { S with arm := S.arm - 1 }
theorem tick_zero {S : DS} (h : S.arm = 0) : S.tick = S := by cases S; simp only [DS.tick] at h ⊢; subst h; rfl
theorem fine_tick {S : DS} (h : Fine S) : Fine S.tick := ⟨⟨h.few, h.inT, h.nodup, h.has, h.cnt, h.tcnt⟩, h.lens⟩
/-- Picks are numbers. -/
def PkOk (zs : List Int) : Prop := ∀ z ∈ zs, -9223372036854775808 ≤ z ∧ z ≤ 9223372036854775807
section
variable {o w w' : World} {X : Nat} {O : Nat → Prop} {S : DS} {V : DV}
theorem goesD (h : DiskM w X O S V) (ha : 2 ≤ S.arm) (ha2 : S.arm ≤ 1000000) : ∃ w1, Calls Try.prog 44 #[.pointer (some ⟨X, 0, none⟩)] w (fun e w' => e = .returned (.bool false) ∧ w1 = w') ∧ DiskM w1 X O S.tick V ∧ Eff (fun k => k = X) w w1 := by
  have x7 : w.cell? ⟨X, 7, none⟩ = some (.int .i64 (S.arm : Nat)) := h.mem.cell 7
  have f7 := h.mem.free 7
  have e1 : ((S.arm - 1 : Nat) : Int) = (S.arm : Int) - 1 := by omega
  have hk := h.setX 7 (.int .i64 ((S.arm : Int) - 1)) (S' := S.tick) (by unfold DV.row DS.tick; rw [e1]; rfl) rfl rfl rfl rfl
  have z7 : (w.setCell ⟨X, 7, none⟩ (.int .i64 ((S.arm : Int) - 1))).cell? ⟨X, 7, none⟩ = some (.int .i64 ((S.arm : Int) - 1)) := by
    have := hk.mem.cell 7
    rw [show (V.row S.tick)[7]? = some (.int .i64 ((S.arm - 1 : Nat) : Int)) from rfl, e1] at this
    exact this
  refine ⟨_, ?_, hk, effX X 7 w _⟩
  have a0 : ¬ (S.arm : Int) = 0 := by omega
  have a1 : 0 < (S.arm : Int) - 1 := by omega
  have a2 : (S.arm : Int) ≤ 1000000 := by omega
  clear hk h e1
  go_enter Try.func44, Try.ntmps44
  go_wp2
  go_ret
  exact ⟨rfl, rfl⟩
theorem goes1 (h : DiskM w X O S V) (hG : Good S) (hof : S.off = false) (hw : S.wtg ≤ 1000000) (ha : S.arm = 1) (hz : PkOk S.picks) : Calls Try.prog 44 #[.pointer (some ⟨X, 0, none⟩)] w fun e w' => e = .returned (.bool true) ∧ Has w w' X O (S.crashed S.picks) := by
  have x7 : w.cell? ⟨X, 7, none⟩ = some (.int .i64 (S.arm : Nat)) := h.mem.cell 7
  rw [ha] at x7
  have x7 : w.cell? ⟨X, 7, none⟩ = some (.int .i64 1) := x7
  have f7 := h.mem.free 7
  have hk := h.setX 7 (.int .i64 0) (S' := S.tick) (by unfold DV.row DS.tick; rw [ha]; rfl) rfl rfl rfl rfl
  have z7 : (w.setCell ⟨X, 7, none⟩ (.int .i64 0)).cell? ⟨X, 7, none⟩ = some (.int .i64 0) := by
    have := hk.mem.cell 7
    rw [show (V.row S.tick)[7]? = some (.int .i64 ((S.arm - 1 : Nat) : Int)) from rfl, ha] at this
    exact this
  have z8 : (w.setCell ⟨X, 7, none⟩ (.int .i64 0)).cell? ⟨X, 8, none⟩ = some V.pv := hk.mem.cell 8
  obtain ⟨A, c, hpv, _, _⟩ := hk.pck.form
  rw [hpv] at z8
  have hG' : Good S.tick := ⟨hG.few, hG.inT, hG.nodup, hG.has, hG.cnt, hG.tcnt⟩
  have hcr : Calls Try.prog 17 #[.pointer (some ⟨X, 0, none⟩), V.pv] (w.setCell ⟨X, 7, none⟩ (.int .i64 0)) fun e w' => e = .returned (.tuple #[]) ∧ Has (w.setCell ⟨X, 7, none⟩ (.int .i64 0)) w' X O (S.crashed S.picks) := crash_any hk hG' hw hof V.pv S.picks hz (fun W hW => sl_eff hk.pck.sl hW (Nat.le_refl _) fun k _ hp hS => hS.elim (fun ht => hk.ap3 k ht hp) fun hl => (hk.last.row.tag hl).ne (hk.pck.tag hp) (by decide) rfl)
  rw [hpv] at hcr
  have hX := h.ox
  clear hk h hG hG' hz
  go_enter Try.func44, Try.ntmps44
  go_wp2_with (go_at_call 17; (with_reducible refine hcr.mono ?_); rintro e w2 ⟨rfl, hh, he⟩)
  go_ret
  exact ⟨rfl, hh, (effOX (Eff.refl _ _) hX).trans he fun _ _ h => h⟩
theorem write_down (h : DiskM w X O S V) (hdd : S.dead = false) (hof : S.off = false) (n : Nat) (hn : n < S.last.length) (v : Value) (k c : Nat) (A : Option Addr) (hv : v = .slice A k c) (hk : k ≤ 512) (S' : DS) (hg : Calls Try.prog 44 #[.pointer (some ⟨X, 0, none⟩)] w fun e w' => e = .returned (.bool true) ∧ Has w w' X O S') : Calls Try.prog 32 #[.pointer (some ⟨X, 0, none⟩), .int .i64 (n : Nat), v] w fun e w' => e = .returned (.int .i64 8) ∧ Has w w' X O S' := by
  subst hv
  have hab := able_any h
  have herr : S.err = 0 := by unfold DS.err; rw [hdd, hof]; rfl
  rw [herr] at hab
  have hhs := has_any h (n : Int)
  rw [decide_eq_true (show 0 ≤ (n : Int) ∧ (n : Int) < (S.last.length : Int) by omega)] at hhs
  have hkx : ¬ 512 < (k : Int) := by omega
  clear h hdd hof herr hn
  go_enter Try.func32, Try.ntmps32
  go_wp2_with (first
    | (go_at_call 42; (with_reducible refine hab.mono ?_); rintro e w1 ⟨rfl, rfl⟩)
    | (go_at_call 43; (with_reducible refine hhs.mono ?_); rintro e w1 ⟨rfl, rfl⟩)
    | (go_at_call 44; (with_reducible refine hg.mono ?_); rintro e w1 ⟨rfl, h1⟩))
  go_ret
  exact ⟨rfl, h1⟩
theorem flush_down (h : DiskM w X O S V) (hdd : S.dead = false) (hof : S.off = false) (S' : DS) (hg : Calls Try.prog 44 #[.pointer (some ⟨X, 0, none⟩)] w fun e w' => e = .returned (.bool true) ∧ Has w w' X O S') : Calls Try.prog 34 #[.pointer (some ⟨X, 0, none⟩)] w fun e w' => e = .returned (.int .i64 8) ∧ Has w w' X O S' := by
  have hab := able_any h
  have herr : S.err = 0 := by unfold DS.err; rw [hdd, hof]; rfl
  rw [herr] at hab
  clear h hdd hof herr
  go_enter Try.func34, Try.ntmps34
  go_wp2_with (first
    | (go_at_call 42; (with_reducible refine hab.mono ?_); rintro e w1 ⟨rfl, rfl⟩)
    | (go_at_call 44; (with_reducible refine hg.mono ?_); rintro e w1 ⟨rfl, h1⟩))
  go_ret
  exact ⟨rfl, h1⟩
/-- Write, armed or not, where the power stays. -/
theorem d_writeA (h : Dsk o w X O S) (hdd : S.dead = false) (hof : S.off = false) (ha : S.arm ≠ 1) (ha2 : S.arm ≤ 1000000) (n : Nat) (hn : n < S.last.length) (hw : S.wtg ≤ 1000000) (hc : S.calls ≤ 4611686018427387904) (v : Value) (l : List UInt8) (hd : Sl w w.heap.size v l.length (bs l)) (hl : l.length ≤ 512) (hdO : ∀ k, v.ownBlock = some k → ¬ O k) :
    Calls Try.prog 32 #[.pointer (some ⟨X, 0, none⟩), .int .i64 (n : Nat), v] w fun e w' => ∃ O', e = .returned (.int .i64 0) ∧ Dsk o w' X O' (S.tick.wr n l) ∧ Eff O w w' ∧ ∀ k, O' k → O k ∨ w.heap.size ≤ k := by
  by_cases h0 : S.arm = 0
  · rw [tick_zero h0]
    exact d_write h ⟨hdd, hof, h0⟩ n hn hw hc v l w.heap.size (Nat.le_refl _) hd hl fun k _ hk => hdO k hk
  · obtain ⟨V, hV⟩ := h.is
    obtain ⟨w1, hg, hV1, he1⟩ := goesD hV (by omega) ha2
    have hX := hV.ox
    have hs1 := he1.size
    have h1 : Dsk o w1 X O S.tick := ⟨⟨V, hV1⟩, fine_tick h.fine, h.from_, he1.below h.bl h.bl.size fun k _ e => by rw [e]; exact h.from_ X hX⟩
    have hab := able_any hV
    have herr : S.err = 0 := by unfold DS.err; rw [hdd, hof]; rfl
    rw [herr] at hab
    have hhs := has_any hV (n : Int)
    rw [decide_eq_true (show 0 ≤ (n : Int) ∧ (n : Int) < (S.last.length : Int) by omega)] at hhs
    have hd1 : Sl w1 w.heap.size v l.length (bs l) := sl_eff hd he1 (Nat.le_refl _) fun k _ hk e => hdO k hk (by rw [e]; exact hX)
    have hLs : S.tick.wts[n]? = some (S.tick.wa n) := by unfold DS.wa; rw [List.getElem?_eq_getElem (by have := h.fine.lens; show n < S.wts.length; omega)]; rfl
    have fin : ∀ (e : Ending) (w' : World), (e = .returned (.int .i64 0) ∧ Goes w1 w' X O (S.tick.wr n l)) → ∃ O', e = .returned (.int .i64 0) ∧ Dsk o w' X O' (S.tick.wr n l) ∧ Eff O w w' ∧ ∀ k, O' k → O k ∨ w.heap.size ≤ k := by
      rintro e w' ⟨rfl, hg⟩
      obtain ⟨O', q1, q2, q3⟩ := h1.goes hg (h1.fine.wr hn l)
      exact ⟨O', rfl, q1, (he1.mono fun k _ e => by rw [e]; exact hX).trans q2 fun _ _ h => h, fun k hk => (q3 k hk).imp id fun h => Nat.le_trans hs1 h⟩
    by_cases hz : S.tick.wa n = []
    · rw [hz] at hLs
      have e : S.tick.wr n l = { S.tick with wts := S.tick.wts.set n [l], tch := S.tick.tch ++ [n], wtg := S.tick.wtg + 1, calls := S.tick.calls + 1 } := by unfold DS.wr; rw [hz, if_pos rfl]; rfl
      exact (write_none_g hV1 h1.fine.toGood n hLs hw hc v l w.heap.size hs1 hd1 hl (fun k _ hk => hdO k hk) hab hhs hg).mono fun e' w' ⟨q1, q2⟩ => fin e' w' ⟨q1, e ▸ q2⟩
    · have e : S.tick.wr n l = { S.tick with wts := S.tick.wts.set n (S.tick.wa n ++ [l]), tch := S.tick.tch, wtg := S.tick.wtg + 1, calls := S.tick.calls + 1 } := by unfold DS.wr; rw [if_neg hz]
      exact (write_some_g hV1 h1.fine.toGood n _ hLs hz hw hc v l w.heap.size hs1 hd1 hl (fun k _ hk => hdO k hk) hab hhs hg).mono fun e' w' ⟨q1, q2⟩ => fin e' w' ⟨q1, e ▸ q2⟩
theorem d_flushA (h : Dsk o w X O S) (hdd : S.dead = false) (hof : S.off = false) (ha : S.arm ≠ 1) (ha2 : S.arm ≤ 1000000) (hw : S.wtg ≤ 1000000) (hc : S.calls ≤ 4611686018427387904) : Calls Try.prog 34 #[.pointer (some ⟨X, 0, none⟩)] w fun e w' => e = .returned (.int .i64 0) ∧ Dsk o w' X O S.tick.flushed ∧ Eff O w w' := by
  by_cases h0 : S.arm = 0
  · rw [tick_zero h0]
    exact d_flush h ⟨hdd, hof, h0⟩ hw hc
  · obtain ⟨V, hV⟩ := h.is
    obtain ⟨w1, hg, hV1, he1⟩ := goesD hV (by omega) ha2
    have hX := hV.ox
    have h1 : Dsk o w1 X O S.tick := ⟨⟨V, hV1⟩, fine_tick h.fine, h.from_, he1.below h.bl h.bl.size fun k _ e => by rw [e]; exact h.from_ X hX⟩
    have hab := able_any hV
    have herr : S.err = 0 := by unfold DS.err; rw [hdd, hof]; rfl
    rw [herr] at hab
    refine (flush_g hV1 h1.fine.toGood hw hc hab hg).mono ?_
    rintro e w' ⟨rfl, hg⟩
    obtain ⟨q1, q2⟩ := h1.has hg h1.fine.flushed
    exact ⟨rfl, q1, (he1.mono fun k _ e => by rw [e]; exact hX).trans q2 fun _ _ h => h⟩
/-- .. where the power goes. -/
theorem d_writeX (h : Dsk o w X O S) (hdd : S.dead = false) (hof : S.off = false) (ha : S.arm = 1) (hz : PkOk S.picks) (n : Nat) (hn : n < S.last.length) (hw : S.wtg ≤ 1000000) (v : Value) (l : List UInt8) (hd : Sl w w.heap.size v l.length (bs l)) (hl : l.length ≤ 512) :
    Calls Try.prog 32 #[.pointer (some ⟨X, 0, none⟩), .int .i64 (n : Nat), v] w fun e w' => e = .returned (.int .i64 8) ∧ Dsk o w' X O (S.crashed S.picks) ∧ Eff O w w' := by
  obtain ⟨V, hV⟩ := h.is
  obtain ⟨A, c, hv, _, _⟩ := hd.form
  refine (write_down hV hdd hof n hn v l.length c A hv hl _ (goes1 hV h.fine.toGood hof hw ha hz)).mono ?_
  rintro e w' ⟨rfl, hg⟩
  exact ⟨rfl, h.has hg (h.fine.crashed _)⟩
theorem d_flushX (h : Dsk o w X O S) (hdd : S.dead = false) (hof : S.off = false) (ha : S.arm = 1) (hz : PkOk S.picks) (hw : S.wtg ≤ 1000000) :
    Calls Try.prog 34 #[.pointer (some ⟨X, 0, none⟩)] w fun e w' => e = .returned (.int .i64 8) ∧ Dsk o w' X O (S.crashed S.picks) ∧ Eff O w w' := by
  obtain ⟨V, hV⟩ := h.is
  refine (flush_down hV hdd hof _ (goes1 hV h.fine.toGood hof hw ha hz)).mono ?_
  rintro e w' ⟨rfl, hg⟩
  exact ⟨rfl, h.has hg (h.fine.crashed _)⟩
set_option maxHeartbeats 2000000 in
theorem clone_any (v : Value) (zs : List Int) (w : World) (hv : Sl w w.heap.size v zs.length (zints zs)) (hl : zs.length ≤ 1000000) : Calls Try.prog 25 #[v] w fun e w' => ∃ v', e = .returned v' ∧ w'.ownsRow w.heap.size 3 1 v' zs.length (zints zs) ∧ Below w.heap.size w w' := by
  obtain ⟨A, c, rfl, hc1, hc2⟩ := hv.form
  obtain ⟨i2, hi2, hq0, hq1, hq2⟩ := info_parts int_info
  have q33 : ∀ (w : World) (a : Option Addr) (n c : Nat), (binOp .eql 33 (.slice a n c) (.slice none 0 0)).run Try.prog w = .ok (.bool a.isNone) w := fun w a n c => Lib.run_eql_slice_nil w _ _ a n c 0 0 Try.underlying33
  cases A with
  | none =>
    have h0 : zs.length = 0 := by
      rcases Nat.eq_zero_or_pos zs.length with h | h
      · exact h
      · obtain ⟨b, off, e, _⟩ := hv.at_ h
        cases e
    have hz : zs = [] := List.eq_nil_of_length_eq_zero h0
    subst hz
    clear hv h0
    go_enter Try.func25, Try.ntmps25
    go_wp2
    go_ret
    exact ⟨_, rfl, World.ownsRow_nil _ _ _ _, Below.refl _ w⟩
  | some ad =>
    have hB := (Below.refl _ w).alloc (Nat.le_refl _) (.cells #[] 3)
    have ho := own_empty w w.heap.size 3 1 (Nat.le_refl _)
    have hnews : ∀ j u, (zints zs)[j]? = some u → (w.alloc (.cells #[] 3)).cell? (ad.add j) = some u := fun j u hj => by
      have hjl : j < zs.length := by
        have := (List.getElem?_eq_some_iff.1 hj).1
        simpa [zints] using this
      obtain ⟨b, off, e, hb, hcell⟩ := hv.at_ (by omega)
      injection e with e
      subst e
      rw [add_plain]
      exact (hB.cell (p := ⟨b, off + j, none⟩) hb).trans (hcell j u hj)
    have h1 : ∀ u ∈ zints zs, u.oneCell' = true := by
      intro u hu
      simp only [zints, List.mem_map] at hu
      obtain ⟨z, _, rfl⟩ := hu
      rfl
    have hzl : (zints zs).length = zs.length * 1 := by simp [zints]
    generalize zs.length = n at *
    go_enter Try.func25, Try.ntmps25
    go_wp2_with (refine wpList_append_at _ rfl (.tmp 5) (.tmp 6) 33 rfl w.heap.size 3 i2 _ 1 8 Try.underlying33 hi2 hq0 hq1 hq2 rfl (by decide) (.slice (some ⟨w.heap.size, 0, none⟩) 0 0) 0 [] rfl ho ad n c (zints zs) rfl hzl hnews h1 (by unfold maxLen; omega) (by omega) hB.size ?_; intro v5 w5 ho5 hg5 hk5)
    go_ret
    have ho6 : w5.ownsRow w.heap.size 3 1 v5 n (zints zs) := by simpa using ho5
    exact ⟨v5, rfl, ho6, hB.grown hg5 hB.size fun k hk => (own_tag ho k hk).1⟩
theorem d_arm (h : Dsk o w X O S) (n : Nat) (h1 : 1 ≤ n) (hn : n ≤ 1000000) (v : Value) (zs : List Int) (hv : Sl w o.heap.size v zs.length (zints zs)) (hl : zs.length ≤ 1000000) :
    Calls Try.prog 13 #[.pointer (some ⟨X, 0, none⟩), .int .i64 (n : Nat), v] w fun e w' => e = .returned (.tuple #[]) ∧ ∃ O', Dsk o w' X O' { S with arm := n, picks := zs } ∧ Eff O w w' ∧ ∀ k, O' k → O k ∨ w.heap.size ≤ k := by
  obtain ⟨V, hV⟩ := h.is
  have hd := disarm_any hV
  have hX := hV.ox
  obtain ⟨A, c, rfl, hc1, hc2⟩ := hv.form
  have hvE : ∀ W, Eff O w W → Sl W W.heap.size (.slice A zs.length c) zs.length (zints zs) := fun W hW => (sl_eff hv hW h.bl.size fun k hk1 _ hO => by have := h.from_ k hO; omega).more (Nat.le_trans h.bl.size hW.size)
  have hnx : 1 ≤ (n : Int) := by omega
  go_enter Try.func13, Try.ntmps13
  go_wp2_with (first
    | (go_at_call 24; (with_reducible refine hd.mono ?_); rintro e w1 ⟨rfl, ⟨V1, hV1⟩, he1⟩; have x7 : w1.cell? ⟨X, 7, none⟩ = some (.int .i64 0) := hV1.mem.cell 7; have f7 := hV1.mem.free 7; have hV2 := hV1.setX 7 (.int .i64 (n : Nat)) (S' := { S with arm := n, picks := [] }) rfl rfl rfl rfl rfl; have he2 := effOX (i := 7) (u := .int .i64 (n : Nat)) he1 hX; have cl := clone_any _ zs _ (hvE _ he2) hl)
    | (go_at_call 25; (with_reducible refine cl.mono ?_); rintro e w3 ⟨v3, rfl, ho3, hb3⟩; obtain ⟨A3, c3, rfl, _, _⟩ := own_form ho3; have hV3 := hV2.below hb3; have x8 := hV3.mem.cell 8; have f8 := hV3.mem.free 8))
  refine bodyPost_end (v := .tuple #[]) (by simp [results, Try.results13, go_sem]) rfl ⟨rfl, ?_⟩
  have hs1 := he1.size
  have hs3 := hb3.size
  have hltX := hV.lt
  have ho4 : OwnR w3 (fun k => O k ∨ (w.heap.size ≤ k ∧ k < w3.heap.size)) 3 (.slice A3 zs.length c3) zs.length (zints zs) := ⟨owns_mono ho3 (Nat.zero_le _), fun k hk => .inr ⟨by have := (own_tag ho3 k hk).1; simp at this; omega, (own_tag ho3 k hk).2.1⟩⟩
  have hV4 := (hV3.more (O' := fun k => O k ∨ (w.heap.size ≤ k ∧ k < w3.heap.size)) (fun k hk => .inl hk) (fun k hk => hk.elim (hV3.lt k) fun h => h.2)).setP _ ho4 (fun k ht hp => by
    have h1 := (own_tag ho3 k hp).1
    have h2 := hV2.tch.lt ht
    simp at h1 h2
    omega)
  have he3 : Eff O w (w3.setCell ⟨X, 8, none⟩ (.slice A3 zs.length c3)) := effOX (he2.trans (Eff.of (S := O) hb3) fun _ _ h => h) hX
  refine ⟨_, ⟨⟨_, hV4⟩, ⟨⟨h.fine.few, h.fine.inT, h.fine.nodup, h.fine.has, h.fine.cnt, h.fine.tcnt⟩, h.fine.lens⟩, fun k hk => hk.elim (h.from_ k) fun hk => Nat.le_trans h.bl.size hk.1, he3.below h.bl h.bl.size fun k _ hk => h.from_ k hk⟩, he3, fun k hk => hk.imp id fun h => h.1⟩
end
end Dk
end Go.Proofs.Ytccknplmcnahbaa
