/- RingLives: what lies on the disk, pure. -/
import Derived.Test.YtbajifioohngdaaRrF
namespace Go.Proofs.Ytbajifioohngdaa
open Go.ChangeShapes Go.WideShapes Go.ChangeAt Go.RowKit Go.Lib
set_option linter.unusedVariables false
set_option linter.unusedSimpArgs false
namespace Rg
open Crc Dk
theorem need_one {l : List UInt8} (h : l.length ≤ 480) : need l.length = 1 := by unfold need; split <;> omega
theorem chunk_one {l : List UInt8} (h : l.length ≤ 480) : chunk l 0 = l := by unfold chunk; rw [Nat.zero_mul, List.drop_zero, List.take_of_length_le h]
/-- The life l's ring of twelve sectors. -/
def vT (l : Nat) : RS := RS.new 0 12 l 1 0
theorem vT_ok (l N : Nat) (hl : l ≤ 3) (hN : N = 12) : (vT l).Ok N := ⟨show 2 ≤ 12 by decide, show 0 + 12 ≤ N by omega, show 0 < 12 by decide, show 0 ≤ 12 by decide, show 0 ≤ 4096 by decide, fun l h => by simp [vT, RS.new] at h, show l ≤ 1000000 by omega, show 1 ≤ 1000000 by decide⟩
theorem vT_sec (l i : Nat) (h : i < 12) : (vT l).sec i = i := by
  show 0 + (0 + i) % 12 = i
  omega
theorem used_ones (Ls : List (Nat × List UInt8)) (h : ∀ p ∈ Ls, p.2.length ≤ 480) (j : Nat) (hj : j ≤ Ls.length) : usedTo Ls j = j := by
  induction j with
  | zero => rfl
  | succ j ih =>
    rw [usedTo_succ (f := Ls[j].1) (l := Ls[j].2) (List.getElem?_eq_getElem (by omega)), ih (by omega), need_one (h _ (List.getElem_mem _))]
/-- What waits while the first i records were appended. -/
def one (F : List (List UInt8)) (i : Nat) : List UInt8 := rgS (1 + i) 1 0 1 (F[i]?.getD [])
structure W1 (S : DS) (F : List (List UInt8)) (i : Nat) : Prop where
  fine : Fine S
  up : S.up
  len : S.last.length = 12
  la : ∀ n, S.la n = []
  wa : ∀ n, S.wa n = if n < i then [one F n] else []
  tch : S.tch = List.range i
  wtg : S.wtg = i
  calls : S.calls = i
theorem W1.start (F : List (List UInt8)) : W1 (DS.new 12) F 0 := ⟨Fine.new 12 (by decide), ⟨rfl, rfl, rfl⟩, by simp [DS.new], fun n => new_la 12 n, fun n => by rw [new_wa]; rfl, rfl, rfl, rfl⟩
theorem W1.next {S : DS} {F : List (List UInt8)} {i : Nat} (h : W1 S F i) (hi : i < 12) : W1 (S.wr i (one F i)) F (i + 1) := by
  have hn : i < S.last.length := by rw [h.len]; exact hi
  have hw : S.wa i = [] := by rw [h.wa, if_neg (Nat.lt_irrefl _)]
  refine ⟨h.fine.wr hn _, ⟨h.up.dead, h.up.off, h.up.arm⟩, h.len, h.la, fun n => ?_, ?_, by show S.wtg + 1 = _; rw [h.wtg], by show S.calls + 1 = _; rw [h.calls]⟩
  · rw [wr_wa h.fine hn]
    by_cases e : n = i
    · subst e
      rw [if_pos rfl, hw, if_pos (Nat.lt_succ_self _)]
      rfl
    · rw [if_neg e, h.wa]
      by_cases h2 : n < i
      · rw [if_pos h2, if_pos (by omega)]
      · rw [if_neg h2, if_neg (by omega)]
  · show (if S.wa i = [] then S.tch ++ [i] else S.tch) = _
    rw [if_pos hw, h.tch, List.range_succ]
theorem sorted_range (k : Nat) : sorted (List.range k) = List.range k := by
  have h1 := sorted_perm (List.range k)
  have h2 := sorted_pair (List.range k)
  have h3 : (List.range k).Pairwise (· ≤ ·) := List.pairwise_lt_range.imp fun h => Nat.le_of_lt h
  exact h1.eq_of_pairwise (fun a b _ _ h4 h5 => Nat.le_antisymm h4 h5) h2 h3
/-- What lasts: of record n, if its bit is 1. -/
def kb (K n : Nat) : Nat := K / 2 ^ n % 2
def pks (K k : Nat) : List Int := (List.range k).map fun i => ((kb K i : Nat) : Int)
theorem pks_len (K k : Nat) : (pks K k).length = k := by simp [pks]
def lasts (F : List (List UInt8)) (K k n : Nat) : List UInt8 := if n < k ∧ kb K n = 1 then one F n else []
theorem W1.crash {S : DS} {F : List (List UInt8)} {K k : Nat} (h : W1 S F k) (hk : k ≤ 12) (n : Nat) : (S.crashed (pks K k)).la n = lasts F K k n := by
  show (fell S.last S.wts (sorted S.tch) (pks K k) S.tch.length)[n]?.getD [] = _
  have hl : S.tch.length = (sorted S.tch).length := (sorted_len _).symm
  rw [hl, h.tch, sorted_range]
  by_cases hn : n < k
  · have hW : S.wts[n]? = some [one F n] := by
      have h1 := h.wa n
      rw [if_pos hn] at h1
      unfold DS.wa at h1
      have hln := h.fine.lens
      have hn2 : n < S.wts.length := by rw [hln, h.len]; omega
      rw [List.getElem?_eq_getElem hn2] at h1 ⊢
      exact congrArg some h1
    rw [fell_at (m := n) List.nodup_range (by rw [h.len]; omega) (by rw [List.getElem?_range hn]) hW _ (Nat.le_refl _) (by rw [List.length_range]; exact hn)]
    have hp : pick (pks K k) n 1 = kb K n := by
      unfold pick pks
      rw [List.getElem?_map, List.getElem?_range hn]
      show ((((kb K n : Nat) : Int)) % (((1 : Nat) : Int) + 1)).toNat = kb K n
      have : kb K n < 2 := Nat.mod_lt _ (by decide)
      omega
    rw [show ([one F n] : List (List UInt8)).length = 1 from rfl, hp]
    unfold lasts
    have h2 : kb K n < 2 := Nat.mod_lt _ (by decide)
    have hla := h.la n
    unfold DS.la at hla
    rcases hb : kb K n with _ | _ | q
    · rw [if_neg (by simp)]
      exact hla
    · rw [if_pos ⟨hn, rfl⟩]
      rfl
    · omega
  · rw [fell_no _ (Nat.le_refl _) (by simp; omega)]
    unfold lasts
    rw [if_neg (fun h => hn h.1)]
    exact h.la n
/-- Behind the crash. -/
def vOn (S : DS) : DS := { S with off := false, arm := 0, picks := [] }
theorem W1.rd {S : DS} {F : List (List UInt8)} {K k : Nat} (h : W1 S F k) (hk : k ≤ 6) (hF : ∀ l ∈ F, l.length ≤ 480) (l p : Nat) (hp : p < 12) : (p < k ∧ kb K p = 1 → rdU (vOn (S.crashed (pks K k))) (vT l) p = ⟨1 + p, 1, 0, 1, F[p]?.getD [], 0⟩) ∧ (¬ (p < k ∧ kb K p = 1) → (rdU (vOn (S.crashed (pks K k))) (vT l) p).err ≠ 0) := by
  have hnow : (vOn (S.crashed (pks K k))).now p = lasts F K k p := by
    show (S.crashed (pks K k)).now p = _
    rw [DS.now_eq, crashed_wa h.fine, h.crash (by omega)]
    rfl
  have hfl : (F[p]?.getD []).length ≤ 480 := by
    cases hp2 : F[p]? with
    | none => simp
    | some x => exact hF x (List.mem_of_getElem? hp2)
  unfold rdU
  rw [vT_sec _ _ hp, hnow]
  unfold lasts
  constructor
  · intro hc
    rw [if_pos hc]
    unfold one
    rw [full_rg _ _ _ _ hfl]
    exact un_rg _ _ _ _ (by omega) (by decide) (by decide) (by decide) _ hfl
  · intro hc
    rw [if_neg hc]
    exact un_blank
/-- How many are found: up to the first one that did not last. -/
structure Cut (F : List (List UInt8)) (K n : Nat) : Prop where
  le : n ≤ F.length
  kept : ∀ i, i < n → kb K i = 1
  end_ : n = F.length ∨ kb K n ≠ 1
def ls1 (F : List (List UInt8)) (n : Nat) : List (Nat × List UInt8) := (F.take n).map fun l => (1, l)
theorem ls1_len {F : List (List UInt8)} {n : Nat} (h : n ≤ F.length) : (ls1 F n).length = n := by unfold ls1; rw [List.length_map, List.length_take]; omega
theorem ls1_get {F : List (List UInt8)} {n j f : Nat} {l : List UInt8} (h : (ls1 F n)[j]? = some (f, l)) : j < n ∧ f = 1 ∧ F[j]? = some l := by
  unfold ls1 at h
  rw [List.getElem?_map, List.getElem?_take] at h
  split at h
  · cases hj : F[j]? with
    | none => rw [hj] at h; cases h
    | some x =>
      rw [hj] at h
      simp only [Option.map_some, Option.some.injEq, Prod.mk.injEq] at h
      exact ⟨by assumption, h.1.symm, congrArg some h.2⟩
  · cases h
theorem ls1_small {F : List (List UInt8)} {n : Nat} (hF : ∀ l ∈ F, l.length ≤ 480) : ∀ p ∈ ls1 F n, p.2.length ≤ 480 := by
  intro p hp
  obtain ⟨l, hl, rfl⟩ := List.mem_map.1 hp
  exact hF l (List.mem_of_mem_take hl)
theorem W1.layp {S : DS} {F : List (List UInt8)} {K n : Nat} (h : W1 S F F.length) (hk : F.length ≤ 6) (hF : ∀ l ∈ F, l.length ≤ 480) (hc : Cut F K n) : LayP (vOn (S.crashed (pks K F.length))) (vT 2) (ls1 F n) := by
  have hle := hc.le
  have hll := ls1_len hle
  have hsm := ls1_small (n := n) hF
  refine ⟨fun j f l hj i hi => ?_, fun j f l hj => ?_, fun j f l hj => ?_, fun j f l hj => ?_, by omega, by rw [used_ones _ hsm _ (Nat.le_refl _), hll]; show n ≤ 12; omega⟩
  · obtain ⟨h1, rfl, h2⟩ := ls1_get hj
    have hl := hF l (List.mem_of_getElem? h2)
    rw [need_one hl] at hi ⊢
    obtain rfl : i = 0 := by omega
    rw [used_ones _ hsm _ (by omega), Nat.add_zero, (h.rd hk hF 2 j (by omega)).1 ⟨by omega, hc.kept j h1⟩, h2, chunk_one hl]
    rfl
  · obtain ⟨_, rfl, _⟩ := ls1_get hj
    exact show 1 ≤ 2 by decide
  · obtain ⟨_, rfl, _⟩ := ls1_get hj
    cases j with
    | zero => exact Nat.zero_le _
    | succ j =>
      show ((ls1 F n)[j]?.map (·.1)).getD 0 ≤ 1
      cases hj2 : (ls1 F n)[j]? with
      | none => exact Nat.zero_le _
      | some p =>
        obtain ⟨f, m⟩ := p
        obtain ⟨_, rfl, _⟩ := ls1_get hj2
        exact Nat.le_refl _
  · obtain ⟨_, _, h2⟩ := ls1_get hj
    have := hF l (List.mem_of_getElem? h2)
    omega
theorem W1.lay {S : DS} {F : List (List UInt8)} {K n : Nat} (h : W1 S F F.length) (hk : F.length ≤ 6) (hF : ∀ l ∈ F, l.length ≤ 480) (hc : Cut F K n) : Lay (vOn (S.crashed (pks K F.length))) (vT 2) (ls1 F n) := by
  refine (h.layp hk hF hc).lay (.inr (.inl ?_))
  have hle := hc.le
  rw [used_ones _ (ls1_small hF) _ (Nat.le_refl _), ls1_len hle]
  refine (h.rd hk hF 2 n (by omega)).2 fun hk' => ?_
  rcases hc.end_ with h1 | h1
  · omega
  · exact h1 hk'.2
theorem LayP.gotk {S : DS} {T : RS} {Ls : List (Nat × List UInt8)} {N : Nat} (h : LayP S T Ls) (hok : T.Ok N) : (T.got Ls Ls.length).Ok N := by
  refine ⟨hok.n2, hok.fit, hok.pl, h.fits, ?_, ?_, hok.lf, hok.fs⟩
  · show ((Ls.take _).map _).length ≤ 4096
    have := h.few
    rw [List.length_map, List.length_take]
    omega
  · intro m hm
    obtain ⟨p, hp, rfl⟩ := List.mem_map.1 hm
    obtain ⟨k, hk⟩ := List.mem_iff_getElem?.1 (List.mem_of_mem_take hp)
    exact h.long k p.1 p.2 hk
/-- What was appended behind them in the next life. -/
def ls2 (F G : List (List UInt8)) (n i : Nat) : List (Nat × List UInt8) := ls1 F n ++ (G.take i).map fun l => (2, l)
structure W2 (S S3 : DS) (F G : List (List UInt8)) (n i : Nat) : Prop where
  fine : Fine S
  up : S.up
  len : S.last.length = 12
  lay : LayP S (vT 2) (ls2 F G n i)
  rest : ∀ p, n + i ≤ p → p < 12 → rdU S (vT 2) p = rdU S3 (vT 2) p
  wtg : S.wtg ≤ i
  calls : S.calls ≤ 100 + i
theorem ls2_len {F G : List (List UInt8)} {n i : Nat} (h : n ≤ F.length) (hi : i ≤ G.length) : (ls2 F G n i).length = n + i := by unfold ls2; rw [List.length_append, ls1_len h, List.length_map, List.length_take]; omega
theorem ls2_small {F G : List (List UInt8)} {n i : Nat} (hF : ∀ l ∈ F, l.length ≤ 480) (hG : ∀ l ∈ G.take i, l.length ≤ 480) : ∀ p ∈ ls2 F G n i, p.2.length ≤ 480 := by
  intro p hp
  rcases List.mem_append.1 hp with h | h
  · exact ls1_small hF p h
  · obtain ⟨l, hl, rfl⟩ := List.mem_map.1 h
    exact hG l hl
theorem ls2_succ {F G : List (List UInt8)} {n i : Nat} {l : List UInt8} (h : G[i]? = some l) : ls2 F G n (i + 1) = ls2 F G n i ++ [(2, l)] := by
  obtain ⟨hi, e⟩ := List.getElem?_eq_some_iff.1 h
  unfold ls2
  rw [List.take_succ_eq_append_getElem hi, List.map_append, e, List.append_assoc]
  rfl
theorem ls2_least {F G : List (List UInt8)} {n i : Nat} (h : n ≤ F.length) (hi : i ≤ G.length) : leastTo (ls2 F G n i) (ls2 F G n i).length ≤ 2 ∧ (0 < i → leastTo (ls2 F G n i) (ls2 F G n i).length = 2) := by
  cases i with
  | zero =>
    refine ⟨?_, fun h => by omega⟩
    have e : ls2 F G n 0 = ls1 F n := by unfold ls2; simp
    rw [e]
    cases hl : (ls1 F n).length with
    | zero => exact Nat.zero_le _
    | succ k =>
      show ((ls1 F n)[k]?.map (·.1)).getD 0 ≤ 2
      cases hj2 : (ls1 F n)[k]? with
      | none => exact Nat.zero_le _
      | some p =>
        obtain ⟨f, m⟩ := p
        obtain ⟨_, rfl, _⟩ := ls1_get hj2
        exact show 1 ≤ 2 by decide
  | succ i =>
    have hg : G[i]? = some G[i] := List.getElem?_eq_getElem (by omega)
    have e : leastTo (ls2 F G n (i + 1)) (ls2 F G n (i + 1)).length = 2 := by
      rw [ls2_succ hg, List.length_append, List.length_singleton]
      exact least_succ (l := G[i]) (by rw [List.getElem?_append_right (Nat.le_refl _), Nat.sub_self]; rfl)
    exact ⟨by rw [e]; exact Nat.le_refl _, fun _ => e⟩
theorem W2.next {S S3 : DS} {F G : List (List UInt8)} {n i : Nat} {l : List UInt8} (h : W2 S S3 F G n i) (hF : ∀ l ∈ F, l.length ≤ 480) (hn : n ≤ F.length) (hn6 : n ≤ 6) (hi : G[i]? = some l) (hi6 : i < 6) (hG : ∀ l ∈ G.take i, l.length ≤ 480) (hl : l.length ≤ 480) : W2 (apS S ((vT 2).got (ls2 F G n i) (ls2 F G n i).length) l 1) S3 F G n (i + 1) := by
  have hil := (List.getElem?_eq_some_iff.1 hi).1
  have hlen := ls2_len hn (Nat.le_of_lt hil)
  have hus := used_ones _ (ls2_small hF hG) (ls2 F G n i).length (Nat.le_refl _)
  have hok := vT_ok 2 S.last.length (by decide) h.len
  have hnd := need_one hl
  have hr : usedTo (ls2 F G n i) (ls2 F G n i).length + need l.length ≤ (vT 2).n := by rw [hus, hlen, hnd]; show n + i + 1 ≤ 12; omega
  have hp := h.lay.app (l := l) h.fine hok (show 1 ≤ 900000 by decide) (by omega) hr (ls2_least hn (Nat.le_of_lt hil)).1 (by omega)
  have hgk := h.lay.gotk hok
  rw [hnd] at hp
  have hcn := aps_cnt S ((vT 2).got (ls2 F G n i) (ls2 F G n i).length) l 1
  refine ⟨aps_fine h.fine hgk 1, aps_up h.up _ _ _, by rw [aps_len]; exact h.len, by rw [ls2_succ hi]; exact hp, fun p h1 h2 => ?_, by have := h.wtg; omega, by have := h.calls; omega⟩
  · rw [← h.rest p (by omega) h2]
    exact rd_aps_no (T := (vT 2).got (ls2 F G n i) (ls2 F G n i).length) h.fine hgk 1 p h2 (by rw [hnd] at hr; exact hr) (.inr (by show usedTo _ _ + 1 ≤ p; rw [hus, hlen]; omega))
/-- All of it is found again in the third life. -/
theorem W2.last {S S0 : DS} {F G : List (List UInt8)} {n K : Nat} (h : W2 S (vOn (S0.crashed (pks K F.length))) F G n G.length) (h0 : W1 S0 F F.length) (hk : F.length ≤ 6) (hF : ∀ l ∈ F, l.length ≤ 480) (hG : ∀ l ∈ G, l.length ≤ 480) (hG6 : G.length ≤ 6) (hc : Cut F K n) : Lay (vOn (S.flushed.crashed [])) (vT 3) (ls2 F G n G.length) := by
  have hle := hc.le
  have hnow : ∀ i, (vOn (S.flushed.crashed [])).now i = S.now i := fun i => (crash_now h.fine.flushed (fun i => flushed_wa h.fine i) i).trans (flushed_now h.fine i)
  have hrd : ∀ i, rdU (vOn (S.flushed.crashed [])) (vT 3) i = rdU S (vT 2) i := fun i => rd_now (T := vT 3) hnow i
  have hp : LayP (vOn (S.flushed.crashed [])) (vT 3) (ls2 F G n G.length) := h.lay.congr hrd rfl rfl (show 2 ≤ 3 by decide)
  refine hp.lay ?_
  have hlen := ls2_len (G := G) hle (Nat.le_refl _)
  have hus := used_ones _ (ls2_small (n := n) hF (G := G) (i := G.length) (fun l hl => hG l (List.mem_of_mem_take hl))) (ls2 F G n G.length).length (Nat.le_refl _)
  rw [hus, hlen]
  by_cases h12 : n + G.length = 12
  · exact .inl h12
  · right
    have hp12 : n + G.length < 12 := by omega
    rw [hrd, h.rest _ (Nat.le_refl _) hp12]
    have hr := h0.rd (K := K) hk hF 2 (n + G.length) hp12
    by_cases hkept : n + G.length < F.length ∧ kb K (n + G.length) = 1
    · right
      have e := hr.1 hkept
      have hg : 0 < G.length := by
        rcases Nat.eq_zero_or_pos G.length with hz | hz
        · rw [hz, Nat.add_zero] at hkept
          rcases hc.end_ with h1 | h1
          · omega
          · exact absurd hkept.2 h1
        · exact hz
      have hls := (ls2_least (G := G) hle (Nat.le_refl _)).2 hg
      rw [hlen] at hls
      rw [e, hls]
      exact ⟨rfl, rfl, rfl, show 1 ≤ 3 by decide, show 1 < 2 by decide⟩
    · exact .inl (hr.2 hkept)
theorem W2.start {S0 : DS} {F G : List (List UInt8)} {n K : Nat} (h0 : W1 S0 F F.length) (hk : F.length ≤ 6) (hF : ∀ l ∈ F, l.length ≤ 480) (hc : Cut F K n) : W2 (vOn (S0.crashed (pks K F.length))) (vOn (S0.crashed (pks K F.length))) F G n 0 := by
  have hf := h0.fine.crashed (pks K F.length)
  refine ⟨⟨⟨hf.few, hf.inT, hf.nodup, hf.has, hf.cnt, hf.tcnt⟩, hf.lens⟩, ⟨h0.up.dead, rfl, rfl⟩, ?_, ?_, fun _ _ _ => rfl, Nat.le_refl _, ?_⟩
  · show (fell _ _ _ _ _).length = 12
    rw [fell_len]; exact h0.len
  · have e : ls2 F G n 0 = ls1 F n := by unfold ls2; simp
    rw [e]
    exact h0.layp hk hF hc
  · show S0.calls ≤ 100 + 0
    rw [h0.calls]
    omega
theorem ls2_map (F G : List (List UInt8)) (n i : Nat) : (ls2 F G n i).map (·.2) = F.take n ++ G.take i := by
  unfold ls2 ls1
  rw [List.map_append, List.map_map, List.map_map]
  congr 1
  · exact (List.map_congr_left fun _ _ => rfl).trans (List.map_id _)
  · exact (List.map_congr_left fun _ _ => rfl).trans (List.map_id _)
theorem ls1_map (F : List (List UInt8)) (n : Nat) : (ls1 F n).map (·.2) = F.take n := by
  unfold ls1
  rw [List.map_map]
  exact (List.map_congr_left fun _ _ => rfl).trans (List.map_id _)
end Rg
end Go.Proofs.Ytbajifioohngdaa
