/- Package disk: a disk that was made since a world, what its sectors hold. -/
import Derived.Test.YtpfackjnnkjjdaaDk7
import Derived.Test.YtpfackjnnkjjdaaDk8
namespace Go.Proofs.Ytpfackjnnkjjdaa
open Go.ChangeShapes Go.WideShapes Go.ChangeAt Go.RowKit Go.Lib
set_option linter.unusedVariables false
set_option linter.unusedSimpArgs false
namespace Dk
/-- What lasts of a sector; the Writes that wait. -/
def DS.la (S : DS) (i : Nat) : List UInt8 := S.last[i]?.getD []
def DS.wa (S : DS) (i : Nat) : List (List UInt8) := S.wts[i]?.getD []
theorem DS.now_eq (S : DS) (i : Nat) : S.now i = (S.wa i).getLast?.getD (S.la i) := rfl
theorem new_la (n i : Nat) : (DS.new n).la i = [] := by
  simp only [DS.la, DS.new, List.getElem?_replicate]
  split <;> rfl
theorem new_wa (n i : Nat) : (DS.new n).wa i = [] := by
  simp only [DS.wa, DS.new, List.getElem?_replicate]
  split <;> rfl
theorem fell_no {L : List (List UInt8)} {W : List (List (List UInt8))} {P : List Nat} {zs : List Int} {n : Nat} (j : Nat) (hj : j ≤ P.length) (hn : n ∉ P.take j) : (fell L W P zs j)[n]? = L[n]? := by
  induction j with
  | zero => rfl
  | succ j ih =>
    have hP : P[j]? = some P[j] := List.getElem?_eq_getElem (by omega)
    have ht : P.take (j + 1) = P.take j ++ [P[j]] := by rw [List.take_append_getElem]
    rw [ht, List.mem_append, List.mem_singleton, not_or] at hn
    unfold fell
    split
    · exact ih (by omega) hn.1
    · rw [hP, Option.getD_some, List.getElem?_set_ne (Ne.symm hn.2)]
      exact ih (by omega) hn.1
/-- What lasts of a sector that was touched. -/
theorem fell_at {L : List (List UInt8)} {W : List (List (List UInt8))} {P : List Nat} {zs : List Int} {n m : Nat} {Ls : List (List UInt8)} (hnd : P.Nodup) (hn : n < L.length) (hm : P[m]? = some n) (hW : W[n]? = some Ls) (j : Nat) (hj : j ≤ P.length) (hmj : m < j) :
    (fell L W P zs j)[n]? = some (match pick zs m Ls.length with | 0 => L[n]?.getD [] | p + 1 => Ls[p]?.getD []) := by
  induction j with
  | zero => omega
  | succ j ih =>
    have hml := (List.getElem?_eq_some_iff.1 hm).1
    by_cases hmj' : m = j
    · subst hmj'
      have hno : n ∉ P.take m := by
        intro h
        obtain ⟨i, hi, e⟩ := List.mem_iff_getElem.1 h
        rw [List.length_take] at hi
        have h1 : P[i]? = some n := by rw [List.getElem_take] at e; rw [List.getElem?_eq_getElem (by omega), e]
        have := (List.getElem?_inj (by omega) hnd).1 (h1.trans hm.symm)
        omega
      have h0 := fell_no (L := L) (W := W) (zs := zs) m (by omega) hno
      unfold fell
      rw [hm, Option.getD_some, hW, Option.getD_some]
      split
      · rename_i hp
        rw [hp, h0, List.getElem?_eq_getElem hn]
        rfl
      · rename_i p hp
        rw [hp, List.getElem?_set_self (by rw [fell_len]; exact hn)]
    · have hP : P[j]? = some P[j] := List.getElem?_eq_getElem (by omega)
      have hne : P[j] ≠ n := by
        intro e
        have := (List.getElem?_inj (by omega) hnd).1 (hm.trans (e ▸ hP).symm)
        omega
      rw [← ih (by omega) (by omega)]
      show (fell L W P zs (j + 1))[n]? = _
      rw [fell]
      split
      · rfl
      · rw [hP, Option.getD_some, List.getElem?_set_ne hne]
theorem flsh_no {L : List (List UInt8)} {W : List (List (List UInt8))} {P : List Nat} {n : Nat} (j : Nat) (hj : j ≤ P.length) (hn : n ∉ P.take j) : (flsh L W P j)[n]? = L[n]? := by
  induction j with
  | zero => rfl
  | succ j ih =>
    have hP : P[j]? = some P[j] := List.getElem?_eq_getElem (by omega)
    rw [show P.take (j + 1) = P.take j ++ [P[j]] by rw [List.take_append_getElem], List.mem_append, List.mem_singleton, not_or] at hn
    unfold flsh
    rw [hP, Option.getD_some, List.getElem?_set_ne (Ne.symm hn.2)]
    exact ih (by omega) hn.1
theorem flsh_at {L : List (List UInt8)} {W : List (List (List UInt8))} {P : List Nat} {n : Nat} {Ls : List (List UInt8)} (hn : n < L.length) (hW : W[n]? = some Ls) (j : Nat) (hj : j ≤ P.length) (hm : n ∈ P.take j) : (flsh L W P j)[n]? = some (Ls.getLast?.getD []) := by
  induction j with
  | zero => simp at hm
  | succ j ih =>
    have hP : P[j]? = some P[j] := List.getElem?_eq_getElem (by omega)
    rw [show P.take (j + 1) = P.take j ++ [P[j]] by rw [List.take_append_getElem], List.mem_append, List.mem_singleton] at hm
    unfold flsh
    rw [hP, Option.getD_some]
    by_cases e : P[j] = n
    · rw [e, List.getElem?_set_self (by rw [flsh_len]; exact hn), hW]
      rfl
    · rw [List.getElem?_set_ne e]
      exact ih (by omega) (hm.resolve_right fun h => e h.symm)
section
variable {S : DS}
theorem Good.wat (hG : Good S) (hl : S.wts.length = S.last.length) (i : Nat) : i ∈ S.tch ↔ S.wa i ≠ [] := by
  unfold DS.wa
  by_cases hi : i < S.wts.length
  · rw [hG.has i _ (List.getElem?_eq_getElem hi), List.getElem?_eq_getElem hi]
    rfl
  · rw [List.getElem?_eq_none (by omega)]
    exact ⟨fun h => absurd (hG.inT i h) (by omega), fun h => absurd rfl h⟩
/-- A state with all parts in step. -/
structure Fine (S : DS) : Prop extends Good S where
  lens : S.wts.length = S.last.length
theorem Fine.new (n : Nat) (h : n ≤ 4096) : Fine (DS.new n) := ⟨good_new n h, by simp [DS.new]⟩
/-- What a Write leaves. -/
def DS.wr (S : DS) (n : Nat) (l : List UInt8) : DS := { S with wts := S.wts.set n (S.wa n ++ [l]), tch := if S.wa n = [] then S.tch ++ [n] else S.tch, wtg := S.wtg + 1, calls := S.calls + 1 }
theorem wr_wa (hF : Fine S) {n : Nat} (hn : n < S.last.length) (l : List UInt8) (i : Nat) : (S.wr n l).wa i = if i = n then S.wa n ++ [l] else S.wa i := by
  show (S.wts.set n (S.wa n ++ [l]))[i]?.getD [] = _
  have := hF.lens
  by_cases h : i = n
  · subst h
    rw [List.getElem?_set_self (by omega), if_pos rfl]
    rfl
  · rw [List.getElem?_set_ne (Ne.symm h), if_neg h]
    rfl
theorem Fine.wr (hF : Fine S) {n : Nat} (hn : n < S.last.length) (l : List UInt8) : Fine (S.wr n l) := by
  have hl := hF.lens
  have hwt := fun i => hF.toGood.wat hl i
  have htw : ∀ i, i ∈ (S.wr n l).tch ↔ (S.wr n l).wa i ≠ [] := by
    intro i
    rw [wr_wa hF hn]
    show i ∈ (if S.wa n = [] then S.tch ++ [n] else S.tch) ↔ _
    by_cases h : i = n
    · subst h
      rw [if_pos rfl]
      split
      · simp
      · rename_i h0
        simp [(hwt i).2 h0]
    · rw [if_neg h, ← hwt i]
      split
      · simp [h]
      · rfl
  refine ⟨⟨hF.few, ?_, ?_, ?_, ?_, ?_⟩, by simp [DS.wr, hl]⟩
  · intro i hi
    show i < S.last.length
    have hi : i ∈ (if S.wa n = [] then S.tch ++ [n] else S.tch) := hi
    split at hi
    · rcases List.mem_append.1 hi with h | h
      · exact hF.inT i h
      · rw [List.mem_singleton.1 h]; exact hn
    · exact hF.inT i hi
  · show (if S.wa n = [] then S.tch ++ [n] else S.tch).Nodup
    split
    · rename_i h0
      rw [List.nodup_append]
      refine ⟨hF.nodup, by simp, ?_⟩
      intro a ha b hb
      rw [List.mem_singleton.1 hb]
      rintro rfl
      exact (hwt a).1 ha h0
    · exact hF.nodup
  · intro i L hL
    rw [htw i]
    unfold DS.wa
    rw [hL]
    rfl
  · intro i L hL
    have : (S.wr n l).wa i = L := by unfold DS.wa; rw [hL]; rfl
    rw [wr_wa hF hn] at this
    subst this
    show _ ≤ S.wtg + 1
    split
    · unfold DS.wa
      rw [List.length_append]
      have := hF.cnt n _ (List.getElem?_eq_getElem (by omega))
      rw [List.getElem?_eq_getElem (by omega)]
      simp
      omega
    · unfold DS.wa
      by_cases hi : i < S.wts.length
      · have := hF.cnt i _ (List.getElem?_eq_getElem hi)
        rw [List.getElem?_eq_getElem hi]
        simp
        omega
      · rw [List.getElem?_eq_none (by omega)]
        simp
  · show (if S.wa n = [] then S.tch ++ [n] else S.tch).length ≤ S.wtg + 1
    have := hF.tcnt
    split
    · rw [List.length_append]; simp; omega
    · omega
theorem wiped_wa (hF : Fine S) (P : List Nat) (hP : P.Perm S.tch) (i : Nat) : (wiped S.wts P)[i]?.getD [] = [] := by
  rw [wiped_get]
  split
  · cases S.wts[i]? <;> rfl
  · rename_i h
    rw [hP.mem_iff] at h
    by_cases h0 : S.wa i = []
    · exact h0
    · exact absurd ((hF.toGood.wat hF.lens i).2 h0) h
theorem fine_wiped (hF : Fine S) {S' : DS} {P : List Nat} (hP : P.Perm S.tch) (h1 : S'.wts = wiped S.wts P) (h2 : S'.tch = []) (h3 : S'.last.length = S.last.length) (h4 : S'.wtg = 0) : Fine S' := by
  have hw : ∀ (i : Nat) (L : List (List UInt8)), S'.wts[i]? = some L → L = [] := by
    intro i L hL
    have := wiped_wa hF P hP i
    rw [← h1, hL] at this
    exact this
  refine ⟨⟨by rw [h3]; exact hF.few, by simp [h2], by simp [h2], fun i L hL => ?_, fun i L hL => ?_, by simp [h2]⟩, ?_⟩
  · rw [h2, hw i L hL]; simp
  · rw [hw i L hL]; simp
  · rw [h1, wiped_len, h3]; exact hF.lens
theorem Fine.flushed (hF : Fine S) : Fine S.flushed := fine_wiped hF (List.Perm.refl _) rfl rfl (flsh_len ..) rfl
theorem Fine.crashed (hF : Fine S) (zs : List Int) : Fine (S.crashed zs) := fine_wiped hF (sorted_perm _) rfl rfl (fell_len ..) rfl
theorem flushed_wa (hF : Fine S) (i : Nat) : S.flushed.wa i = [] := wiped_wa hF _ (List.Perm.refl _) i
theorem crashed_wa (hF : Fine S) (zs : List Int) (i : Nat) : (S.crashed zs).wa i = [] := wiped_wa hF _ (sorted_perm _) i
theorem flushed_la (hF : Fine S) (i : Nat) : S.flushed.la i = (S.wa i).getLast?.getD (S.la i) := by
  show (flsh S.last S.wts S.tch S.tch.length)[i]?.getD [] = _
  by_cases h : i ∈ S.tch
  · have hi := hF.inT i h
    have hw : S.wts[i]? = some (S.wa i) := by unfold DS.wa; rw [List.getElem?_eq_getElem (by have := hF.lens; omega)]; rfl
    rw [flsh_at hi hw _ (Nat.le_refl _) (by rw [List.take_length]; exact h)]
    have := (hF.toGood.wat hF.lens i).1 h
    rw [List.getLast?_eq_some_getLast this]
    rfl
  · rw [flsh_no _ (Nat.le_refl _) (by rw [List.take_length]; exact h)]
    have h0 : S.wa i = [] := by
      by_cases h0 : S.wa i = []
      · exact h0
      · exact absurd ((hF.toGood.wat hF.lens i).2 h0) h
    rw [h0]
    rfl
/-- What lasts of a crash: what lasted, or one of the Writes. -/
theorem crashed_la (hF : Fine S) (zs : List Int) (i : Nat) : (S.crashed zs).la i = S.la i ∨ (S.crashed zs).la i ∈ S.wa i := by
  show (fell S.last S.wts (sorted S.tch) zs S.tch.length)[i]?.getD [] = _ ∨ (fell S.last S.wts (sorted S.tch) zs S.tch.length)[i]?.getD [] ∈ _
  rw [← sorted_len]
  by_cases h : i ∈ sorted S.tch
  · have h' := (sorted_perm S.tch).mem_iff.1 h
    have hi := hF.inT i h'
    have hw : S.wts[i]? = some (S.wa i) := by unfold DS.wa; rw [List.getElem?_eq_getElem (by have := hF.lens; omega)]; rfl
    obtain ⟨m, hm⟩ := List.mem_iff_getElem?.1 h
    rw [fell_at ((sorted_perm S.tch).nodup_iff.2 hF.nodup) hi hm hw _ (Nat.le_refl _) (List.getElem?_eq_some_iff.1 hm).1]
    have hp := pick_le zs m (S.wa i).length
    cases hq : pick zs m (S.wa i).length with
    | zero => exact .inl rfl
    | succ p =>
      right
      show (S.wa i)[p]?.getD [] ∈ _
      rw [List.getElem?_eq_getElem (by omega)]
      exact List.getElem_mem _
  · rw [fell_no _ (Nat.le_refl _) (by rw [List.take_length]; exact h)]
    exact .inl rfl
end
/-- A disk that was made since o; nothing older has turned. -/
structure Dsk (o w : World) (X : Nat) (O : Nat → Prop) (S : DS) : Prop where
  is : ∃ V, DiskM w X O S V
  fine : Fine S
  from_ : ∀ k, O k → o.heap.size ≤ k
  bl : Below o.heap.size o w
section
variable {o w w' : World} {X : Nat} {O : Nat → Prop} {S S' : DS}
theorem Dsk.below (h : Dsk o w X O S) (hb : Below w.heap.size w w') : Dsk o w' X O S := ⟨h.is.imp fun V hv => hv.below hb, h.fine, h.from_, h.bl.trans (hb.mono h.bl.size)⟩
theorem Dsk.goes (h : Dsk o w X O S) (hg : Goes w w' X O S') (hf : Fine S') : ∃ O', Dsk o w' X O' S' ∧ Eff O w w' ∧ ∀ k, O' k → O k ∨ w.heap.size ≤ k := by
  obtain ⟨O', V', h1, h2, h3⟩ := hg
  have hs := h.bl.size
  exact ⟨O', ⟨⟨V', h1⟩, hf, fun k hk => (h3 k hk).elim (h.from_ k) fun h => Nat.le_trans hs h, h2.below h.bl hs fun k _ hk => h.from_ k hk⟩, h2, h3⟩
theorem Dsk.has (h : Dsk o w X O S) (hg : Has w w' X O S') (hf : Fine S') : Dsk o w' X O S' ∧ Eff O w w' := by
  obtain ⟨h1, h2⟩ := hg
  exact ⟨⟨h1, hf, h.from_, h2.below h.bl h.bl.size fun k _ hk => h.from_ k hk⟩, h2⟩
theorem d_new (n : Nat) (hpos : 1 ≤ n) (h2 : n ≤ 4096) (hb : Below o.heap.size o w) : Calls Try.prog 6 #[.int .i64 (n : Nat)] w fun e w' => ∃ X O, e = .returned (.tuple #[.pointer (some ⟨X, 0, none⟩), .int .i64 0]) ∧ Dsk o w' X O (DS.new n) ∧ (∀ k, O k → w.heap.size ≤ k) ∧ Below w.heap.size w w' := by
  refine (new_any n hpos h2 w).mono ?_
  rintro e w' ⟨X, O, V, rfl, h1, h3, h4⟩
  exact ⟨X, O, rfl, ⟨⟨V, h1⟩, Fine.new n h2, fun k hk => Nat.le_trans hb.size (h3 k hk), hb.trans (h4.mono hb.size)⟩, h3, h4⟩
/-- It can be asked. -/
structure DS.up (S : DS) : Prop where
  dead : S.dead = false
  off : S.off = false
  arm : S.arm = 0
theorem d_write (h : Dsk o w X O S) (hu : S.up) (n : Nat) (hn : n < S.last.length) (hw : S.wtg ≤ 1000000) (hc : S.calls ≤ 4611686018427387904) (v : Value) (l : List UInt8) (Bd : Nat) (hBd : Bd ≤ w.heap.size) (hd : Sl w Bd v l.length (bs l)) (hl : l.length ≤ 512) (hdO : ∀ k, k < Bd → v.ownBlock = some k → ¬ O k) :
    Calls Try.prog 21 #[.pointer (some ⟨X, 0, none⟩), .int .i64 (n : Nat), v] w fun e w' => ∃ O', e = .returned (.int .i64 0) ∧ Dsk o w' X O' (S.wr n l) ∧ Eff O w w' ∧ ∀ k, O' k → O k ∨ w.heap.size ≤ k := by
  obtain ⟨V, hv⟩ := h.is
  have hLs : S.wts[n]? = some (S.wa n) := by unfold DS.wa; rw [List.getElem?_eq_getElem (by have := h.fine.lens; omega)]; rfl
  by_cases h0 : S.wa n = []
  · rw [h0] at hLs
    refine (write_none hv h.fine.toGood hu.dead hu.off hu.arm n hLs hw hc v l Bd hBd hd hl hdO).mono ?_
    rintro e w' ⟨rfl, hg⟩
    have e : S.wr n l = { S with wts := S.wts.set n [l], tch := S.tch ++ [n], wtg := S.wtg + 1, calls := S.calls + 1 } := by unfold DS.wr; rw [h0, if_pos rfl]; rfl
    rw [← e] at hg
    obtain ⟨O', h1, h2, h3⟩ := h.goes hg (h.fine.wr hn l)
    exact ⟨O', rfl, h1, h2, h3⟩
  · refine (write_some hv h.fine.toGood hu.dead hu.off hu.arm n _ hLs h0 hw hc v l Bd hBd hd hl hdO).mono ?_
    rintro e w' ⟨rfl, hg⟩
    have e : S.wr n l = { S with wts := S.wts.set n (S.wa n ++ [l]), tch := S.tch, wtg := S.wtg + 1, calls := S.calls + 1 } := by unfold DS.wr; rw [if_neg h0]
    rw [← e] at hg
    obtain ⟨O', h1, h2, h3⟩ := h.goes hg (h.fine.wr hn l)
    exact ⟨O', rfl, h1, h2, h3⟩
theorem d_flush (h : Dsk o w X O S) (hu : S.up) (hw : S.wtg ≤ 1000000) (hc : S.calls ≤ 4611686018427387904) : Calls Try.prog 49 #[.pointer (some ⟨X, 0, none⟩)] w fun e w' => e = .returned (.int .i64 0) ∧ Dsk o w' X O S.flushed ∧ Eff O w w' := by
  obtain ⟨V, hv⟩ := h.is
  refine (flush_ok hv h.fine.toGood hu.dead hu.off hu.arm hw hc).mono ?_
  rintro e w' ⟨rfl, hg⟩
  obtain ⟨h1, h2⟩ := h.has hg h.fine.flushed
  exact ⟨rfl, h1, h2⟩
/-- .. of data that was there ahead. -/
theorem d_write0 (h : Dsk o w X O S) (hu : S.up) (n : Nat) (hn : n < S.last.length) (hw : S.wtg ≤ 1000000) (hc : S.calls ≤ 4611686018427387904) (v : Value) (l : List UInt8) (hd : Sl w o.heap.size v l.length (bs l)) (hl : l.length ≤ 512) :
    Calls Try.prog 21 #[.pointer (some ⟨X, 0, none⟩), .int .i64 (n : Nat), v] w fun e w' => ∃ O', e = .returned (.int .i64 0) ∧ Dsk o w' X O' (S.wr n l) ∧ Eff O w w' ∧ ∀ k, O' k → O k ∨ w.heap.size ≤ k :=
  d_write h hu n hn hw hc v l o.heap.size h.bl.size hd hl fun k hk _ hO => by have := h.from_ k hO; omega
/-- A Crash with picks that are none of the disk's own. -/
theorem d_crash (h : Dsk o w X O S) (hof : S.off = false) (hw : S.wtg ≤ 1000000) (pv : Value) (zs : List Int) (hz : ∀ z ∈ zs, -9223372036854775808 ≤ z ∧ z ≤ 9223372036854775807) (hp : Sl w o.heap.size pv zs.length (zints zs)) :
    Calls Try.prog 15 #[.pointer (some ⟨X, 0, none⟩), pv] w fun e w' => e = .returned (.tuple #[]) ∧ Dsk o w' X O (S.crashed zs) ∧ Eff O w w' := by
  obtain ⟨V, hv⟩ := h.is
  refine (crash_any hv h.fine.toGood hw hof pv zs hz fun W hW => ?_).mono ?_
  · refine (sl_eff hp hW h.bl.size fun k hk1 hk hS => ?_).more h.bl.size
    have : O k := hS.elim (hv.tch.own k) (hv.last.row.own k)
    have := h.from_ k this
    omega
  · rintro e w' ⟨rfl, hg⟩
    obtain ⟨h1, h2⟩ := h.has hg (h.fine.crashed zs)
    exact ⟨rfl, h1, h2⟩
theorem d_on (h : Dsk o w X O S) : Calls Try.prog 16 #[.pointer (some ⟨X, 0, none⟩)] w fun e w' => e = .returned (.tuple #[]) ∧ Dsk o w' X O { S with off := false, arm := 0, picks := [] } ∧ Eff O w w' := by
  obtain ⟨V, hv⟩ := h.is
  refine (on_any hv).mono ?_
  rintro e w' ⟨rfl, hg⟩
  obtain ⟨h1, h2⟩ := h.has hg ⟨⟨h.fine.few, h.fine.inT, h.fine.nodup, h.fine.has, h.fine.cnt, h.fine.tcnt⟩, h.fine.lens⟩
  exact ⟨rfl, h1, h2⟩
theorem d_read (h : Dsk o w X O S) (hdd : S.dead = false) (hof : S.off = false) (n : Nat) (hn : n < S.last.length) (hw : S.wtg ≤ 1000000) :
    Calls Try.prog 50 #[.pointer (some ⟨X, 0, none⟩), .int .i64 (n : Nat)] w fun e w' => ∃ g, e = .returned (.tuple #[.slice (some ⟨g, 0, none⟩) 512 512, .int .i64 0]) ∧ w.heap.size ≤ g ∧ Mem w' g 5 (bs (full ((S.wa n).getLast?.getD (S.la n)))).toArray ∧ Dsk o w' X O S ∧ Below w.heap.size w w' := by
  obtain ⟨V, hv⟩ := h.is
  refine (read_ok hv hdd hof n hn h.fine.few fun L hL => Nat.le_trans (h.fine.cnt n L hL) hw).mono ?_
  rintro e w' ⟨g, rfl, h1, h2, h3⟩
  exact ⟨g, rfl, h1, h2, h.below h3, h3⟩
end
end Dk
end Go.Proofs.Ytpfackjnnkjjdaa
