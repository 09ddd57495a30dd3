/- Package ring: what lies on the disk, pure. -/
import Derived.Test.YtpfackjnnkjjdaaRr7
namespace Go.Proofs.Ytpfackjnnkjjdaa
open Go.ChangeShapes Go.WideShapes Go.ChangeAt Go.RowKit Go.Lib
set_option linter.unusedVariables false
set_option linter.unusedSimpArgs false
namespace Rg
open Crc Dk
theorem sec_inj {T : RS} {N i j : Nat} (h : T.Ok N) (hi : i < T.n) (hj : j < T.n) (e : T.sec i = T.sec j) : i = j := by
  have hp := h.pl
  unfold RS.sec at e
  have e : (T.place + i) % T.n = (T.place + j) % T.n := by omega
  have key : ∀ k, k < T.n → (T.place + k) % T.n = if T.place + k < T.n then T.place + k else T.place + k - T.n := by
    intro k hk
    split
    · exact Nat.mod_eq_of_lt (by assumption)
    · rw [Nat.mod_eq_sub_mod (by omega)]
      exact Nat.mod_eq_of_lt (by omega)
  rw [key i hi, key j hj] at e
  split at e <;> split at e <;> omega
theorem now_wr {S : DS} (hF : Fine S) {n : Nat} (hn : n < S.last.length) (l : List UInt8) (i : Nat) : (S.wr n l).now i = if i = n then l else S.now i := by
  rw [DS.now_eq, wr_wa hF hn]
  show _ = if i = n then l else (S.wa i).getLast?.getD (S.la i)
  by_cases h : i = n
  · rw [if_pos h, if_pos h, List.getLast?_append]
    simp
  · rw [if_neg h, if_neg h]
    rfl
section
variable {S S' : DS} {T T' : RS} {l : List UInt8} {Ls : List (Nat × List UInt8)}
theorem aps_fine (hF : Fine S) (hk : T.Ok S.last.length) (k : Nat) : Fine (apS S T l k) := by
  induction k with
  | zero => exact hF
  | succ k ih => exact ih.wr (by rw [aps_len]; exact sec_lt hk _) _
theorem aps_now_no (hF : Fine S) (hk : T.Ok S.last.length) (s : Nat) (k : Nat) (h : ∀ i, i < k → s ≠ T.sec (T.used + i)) : (apS S T l k).now s = S.now s := by
  induction k with
  | zero => rfl
  | succ k ih =>
    show ((apS S T l k).wr _ _).now s = _
    rw [now_wr (aps_fine hF hk k) (by rw [aps_len]; exact sec_lt hk _), if_neg (h k (Nat.lt_succ_self k))]
    exact ih fun i hi => h i (Nat.lt_succ_of_lt hi)
theorem aps_now_at (hF : Fine S) (hk : T.Ok S.last.length) (i k : Nat) (hi : i < k) (hr : T.used + k ≤ T.n) : (apS S T l k).now (T.sec (T.used + i)) = rgS T.next T.life i (need l.length) (chunk l i) := by
  induction k with
  | zero => omega
  | succ k ih =>
    show ((apS S T l k).wr (T.sec (T.used + k)) _).now _ = _
    rw [now_wr (aps_fine hF hk k) (by rw [aps_len]; exact sec_lt hk _)]
    by_cases e : i = k
    · subst e
      rw [if_pos rfl]
    · rw [if_neg fun h => e (by have := sec_inj hk (i := T.used + i) (j := T.used + k) (by omega) (by omega) h; omega)]
      exact ih (by omega) (by omega)
theorem full_rg (n f p q : Nat) {l : List UInt8} (h : l.length ≤ 480) : full (rgS n f p q l) = rgS n f p q l := by
  unfold full
  rw [rgS_len h]
  simp
theorem rd_aps (hF : Fine S) (hk : T.Ok S.last.length) (hn : T.next ≤ 1000000) (hl : l.length ≤ 32768) (hr : T.used + need l.length ≤ T.n) (i : Nat) (hi : i < need l.length) : rdU (apS S T l (need l.length)) T (T.used + i) = ⟨T.next, T.life, i, need l.length, chunk l i, 0⟩ := by
  have hc : (chunk l i).length ≤ 480 := by rw [chunk_len]; omega
  have := need_le l.length hl
  have := hk.lf
  unfold rdU
  rw [aps_now_at hF hk i _ hi hr, full_rg _ _ _ _ hc]
  exact un_rg _ _ _ _ (by omega) (by omega) hi (by omega) _ hc
theorem rd_aps_no (hF : Fine S) (hk : T.Ok S.last.length) (k j : Nat) (hj : j < T.n) (hr : T.used + k ≤ T.n) (h : j < T.used ∨ T.used + k ≤ j) : rdU (apS S T l k) T j = rdU S T j := by
  unfold rdU
  rw [aps_now_no hF hk]
  intro i hi e
  have := sec_inj hk hj (show T.used + i < T.n by omega) e
  omega
/-- The records lie there. -/
structure LayP (S : DS) (T : RS) (Ls : List (Nat × List UInt8)) : Prop where
  part : ∀ (j f : Nat) (l : List UInt8), Ls[j]? = some (f, l) → ∀ i, i < need l.length → rdU S T (usedTo Ls j + i) = ⟨T.first + j, f, i, need l.length, chunk l i, 0⟩
  lf : ∀ (j f : Nat) (l : List UInt8), Ls[j]? = some (f, l) → f ≤ T.life
  mono : ∀ (j f : Nat) (l : List UInt8), Ls[j]? = some (f, l) → leastTo Ls j ≤ f
  long : ∀ (j f : Nat) (l : List UInt8), Ls[j]? = some (f, l) → l.length ≤ 32768
  few : Ls.length ≤ 4000
  fits : usedTo Ls Ls.length ≤ T.n
theorem LayP.lay (h : LayP S T Ls) (hs : usedTo Ls Ls.length = T.n ∨ (rdU S T (usedTo Ls Ls.length)).err ≠ 0 ∨ ((rdU S T (usedTo Ls Ls.length)).err = 0 ∧ (rdU S T (usedTo Ls Ls.length)).num = T.first + Ls.length ∧ (rdU S T (usedTo Ls Ls.length)).part = 0 ∧ (rdU S T (usedTo Ls Ls.length)).life ≤ T.life ∧ (rdU S T (usedTo Ls Ls.length)).life < leastTo Ls Ls.length) ∨ ((rdU S T (usedTo Ls Ls.length)).err = 0 ∧ (rdU S T (usedTo Ls Ls.length)).num ≠ T.first + Ls.length)) : Lay S T Ls := ⟨h.part, h.lf, h.mono, h.long, h.few, h.fits, hs⟩
theorem LayP.nil_ (S : DS) (T : RS) : LayP S T [] := ⟨fun j f l h => by simp at h, fun j f l h => by simp at h, fun j f l h => by simp at h, fun j f l h => by simp at h, by simp, Nat.zero_le _⟩
theorem LayP.congr (h : LayP S T Ls) (hr : ∀ i, rdU S' T' i = rdU S T i) (hf : T'.first = T.first) (hn : T'.n = T.n) (hl : T.life ≤ T'.life) : LayP S' T' Ls :=
  ⟨fun j f l e i hi => by rw [hr, hf]; exact h.part j f l e i hi, fun j f l e => Nat.le_trans (h.lf j f l e) hl, h.mono, h.long, h.few, by rw [hn]; exact h.fits⟩
theorem usedTo_app (p : Nat × List UInt8) (j : Nat) (hj : j ≤ Ls.length) : usedTo (Ls ++ [p]) j = usedTo Ls j := by
  unfold usedTo
  rw [List.take_append_of_le_length hj]
theorem usedTo_all (p : Nat × List UInt8) : usedTo (Ls ++ [p]) (Ls ++ [p]).length = usedTo Ls Ls.length + need p.2.length := by
  rw [List.length_append, List.length_singleton, usedTo_succ (f := p.1) (l := p.2) (by simp), usedTo_app p _ (Nat.le_refl _)]
theorem leastTo_app (p : Nat × List UInt8) (j : Nat) (hj : j ≤ Ls.length) : leastTo (Ls ++ [p]) j = leastTo Ls j := by
  cases j with
  | zero => rfl
  | succ k =>
    show ((Ls ++ [p])[k]?.map (·.1)).getD 0 = (Ls[k]?.map (·.1)).getD 0
    rw [List.getElem?_append_left (by omega)]
theorem LayP.app (h : LayP S T Ls) (hF : Fine S) (hok : T.Ok S.last.length) (hfst : T.first ≤ 900000) (hl : l.length ≤ 32768) (hr : usedTo Ls Ls.length + need l.length ≤ T.n) (hls : leastTo Ls Ls.length ≤ T.life) (hfw : Ls.length < 4000) : LayP (apS S (T.got Ls Ls.length) l (need l.length)) T (Ls ++ [(T.life, l)]) := by
  have hgk : (T.got Ls Ls.length).Ok S.last.length := by
    refine ⟨hok.n2, hok.fit, hok.pl, h.fits, ?_, ?_, hok.lf, hok.fs⟩
    · show ((Ls.take _).map _).length ≤ 4096
      rw [List.length_map, List.length_take]
      omega
    · intro m hm
      obtain ⟨p, hp, rfl⟩ := List.mem_map.1 hm
      obtain ⟨k, hk⟩ := List.mem_iff_getElem?.1 (List.mem_of_mem_take hp)
      exact h.long k p.1 p.2 hk
  have hnx : (T.got Ls Ls.length).next = T.first + Ls.length := got_next (Nat.le_refl _)
  refine ⟨?_, ?_, ?_, ?_, by rw [List.length_append, List.length_singleton]; omega, by rw [usedTo_all]; exact hr⟩
  · intro j f m hj i hi
    by_cases hjl : j < Ls.length
    · rw [List.getElem?_append_left hjl] at hj
      rw [usedTo_app _ _ (Nat.le_of_lt hjl)]
      have h1 := usedTo_succ hj
      have h2 := usedTo_le Ls (j + 1) hjl
      have := h.fits
      rw [show rdU (apS S (T.got Ls Ls.length) l (need l.length)) T (usedTo Ls j + i) = rdU (apS S (T.got Ls Ls.length) l (need l.length)) (T.got Ls Ls.length) (usedTo Ls j + i) from rfl, rd_aps_no hF hgk _ _ (show _ < T.n by omega) hr (.inl (show _ < usedTo Ls Ls.length by omega))]
      exact h.part j f m hj i hi
    · have hj2 : j = Ls.length := by
        have := (List.getElem?_eq_some_iff.1 hj).1
        simp at this
        omega
      subst hj2
      rw [List.getElem?_append_right (Nat.le_refl _), Nat.sub_self] at hj
      have hj := Option.some.inj hj
      simp only [Prod.mk.injEq] at hj
      obtain ⟨rfl, rfl⟩ := hj
      rw [usedTo_app _ _ (Nat.le_refl _)]
      have := rd_aps (T := T.got Ls Ls.length) hF hgk (by rw [hnx]; omega) hl hr i hi
      rw [hnx] at this
      exact this
  · intro j f m hj
    by_cases hjl : j < Ls.length
    · rw [List.getElem?_append_left hjl] at hj
      exact h.lf j f m hj
    · have := List.mem_of_getElem? hj
      rw [List.getElem?_append_right (by omega)] at hj
      have hm := List.mem_of_getElem? hj
      rw [List.mem_singleton, Prod.mk.injEq] at hm
      omega
  · intro j f m hj
    by_cases hjl : j < Ls.length
    · rw [List.getElem?_append_left hjl] at hj
      rw [leastTo_app _ _ (Nat.le_of_lt hjl)]
      exact h.mono j f m hj
    · have hj2 : j = Ls.length := by
        have := (List.getElem?_eq_some_iff.1 hj).1
        simp at this
        omega
      subst hj2
      rw [List.getElem?_append_right (Nat.le_refl _), Nat.sub_self] at hj
      have hj := Option.some.inj hj
      simp only [Prod.mk.injEq] at hj
      rw [leastTo_app _ _ (Nat.le_refl _), ← hj.1]
      exact hls
  · intro j f m hj
    by_cases hjl : j < Ls.length
    · rw [List.getElem?_append_left hjl] at hj
      exact h.long j f m hj
    · rw [List.getElem?_append_right (by omega)] at hj
      have hm := List.mem_of_getElem? hj
      rw [List.mem_singleton, Prod.mk.injEq] at hm
      rw [hm.2]
      exact hl
/-- Nothing lies from sector k on. -/
def Blank (S : DS) (T : RS) (k : Nat) : Prop := ∀ i, k ≤ i → i < T.n → (rdU S T i).err ≠ 0
theorem Blank.app (h : Blank S T (usedTo Ls Ls.length)) (hp : LayP S T Ls) (hF : Fine S) (hok : T.Ok S.last.length) (p : Nat × List UInt8) (hl : p.2 = l) (hr : usedTo Ls Ls.length + need l.length ≤ T.n) : Blank (apS S (T.got Ls Ls.length) l (need l.length)) T (usedTo (Ls ++ [p]) (Ls ++ [p]).length) := by
  intro i hi hin
  rw [usedTo_all, hl] at hi
  have hgk : (T.got Ls Ls.length).Ok S.last.length := by
    refine ⟨hok.n2, hok.fit, hok.pl, hp.fits, ?_, ?_, hok.lf, hok.fs⟩
    · show ((Ls.take _).map _).length ≤ 4096
      have := hp.few
      rw [List.length_map, List.length_take]
      omega
    · intro m hm
      obtain ⟨p, hp', rfl⟩ := List.mem_map.1 hm
      obtain ⟨k, hk⟩ := List.mem_iff_getElem?.1 (List.mem_of_mem_take hp')
      exact hp.long k p.1 p.2 hk
  rw [show rdU (apS S (T.got Ls Ls.length) l (need l.length)) T i = rdU (apS S (T.got Ls Ls.length) l (need l.length)) (T.got Ls Ls.length) i from rfl, rd_aps_no hF hgk _ _ hin hr (.inr hi)]
  exact h i (by omega) hin
theorem LayP.blank (h : LayP S T Ls) (hb : Blank S T (usedTo Ls Ls.length)) : Lay S T Ls := by
  refine h.lay ?_
  have := h.fits
  by_cases e : usedTo Ls Ls.length = T.n
  · exact .inl e
  · exact .inr (.inl (hb _ (Nat.le_refl _) (by omega)))
theorem Blank.congr {k : Nat} (h : Blank S T k) (hr : ∀ i, rdU S' T' i = rdU S T i) (hn : T'.n = T.n) : Blank S' T' k := fun i h1 h2 => by rw [hr]; exact h i h1 (hn ▸ h2)
theorem un_blank : (unS (full [])).err ≠ 0 := un_zero
theorem blank_new (n k : Nat) (T : RS) : Blank (DS.new n) T k := by
  intro i _ _
  unfold rdU
  rw [DS.now_eq, new_wa, new_la]
  exact un_blank
theorem flushed_now (hF : Fine S) (i : Nat) : S.flushed.now i = S.now i := by
  rw [DS.now_eq, flushed_wa hF, flushed_la hF, DS.now_eq]
  rfl
theorem rd_now (h : ∀ i, S'.now i = S.now i) (i : Nat) : rdU S' T i = rdU S T i := by
  unfold rdU
  rw [h]
theorem crashed_nl (S : DS) (i : Nat) : (S.crashed []).la i = S.la i := by
  show (fell S.last S.wts (sorted S.tch) [] S.tch.length)[i]?.getD [] = _
  have := fell_stop S.last S.wts (sorted S.tch) [] 0 S.tch.length (Nat.zero_le _)
  rw [Nat.zero_add] at this
  rw [this]
  rfl
/-- A disk of which nothing waits keeps all through a crash. -/
theorem crash_now (hF : Fine S) (hw : ∀ i, S.wa i = []) (i : Nat) : (S.crashed []).now i = S.now i := by
  rw [DS.now_eq, crashed_wa hF, crashed_nl, DS.now_eq, hw]
end
section
variable {o w : World} {X : Nat} {O : Nat → Prop} {S : DS}
/-- A Crash with picks that are no block of the disk's. -/
theorem d_crashN (h : Dsk o w X O S) (hof : S.off = false) (hw : S.wtg ≤ 1000000) (pv : Value) (zs : List Int) (hz : ∀ z ∈ zs, -9223372036854775808 ≤ z ∧ z ≤ 9223372036854775807) (hp : Sl w w.heap.size pv zs.length (zints zs)) (hpO : ∀ k, pv.ownBlock = some k → ¬ O k) :
    Calls Try.prog 15 #[.pointer (some ⟨X, 0, none⟩), pv] w fun e w' => e = .returned (.tuple #[]) ∧ Dsk o w' X O (S.crashed zs) ∧ Eff O w w' := by
  obtain ⟨V, hv⟩ := h.is
  refine (crash_any hv h.fine.toGood hw hof pv zs hz fun W hW => ?_).mono ?_
  · refine sl_eff hp hW (Nat.le_refl _) fun k hk1 hk hS => ?_
    have : O k := hS.elim (hv.tch.own k) (hv.last.row.own k)
    exact hpO k hk this
  · rintro e w' ⟨rfl, hg⟩
    obtain ⟨h1, h2⟩ := h.has hg (h.fine.crashed zs)
    exact ⟨rfl, h1, h2⟩
end
end Rg
end Go.Proofs.Ytpfackjnnkjjdaa
