/- Package disk: Write: contract. -/
import Derived.Test.YtpfackjnnkjjdaaDk3
namespace Go.Proofs.Ytpfackjnnkjjdaa
open Go.ChangeShapes Go.WideShapes Go.ChangeAt Go.RowKit Go.Lib
set_option linter.unusedVariables false
set_option linter.unusedSimpArgs false
namespace Dk
/-- What a call leaves: the disk's blocks, and new ones. -/
def Goes (w w' : World) (X : Nat) (O : Nat → Prop) (S' : DS) : Prop := ∃ O' V', DiskM w' X O' S' V' ∧ Eff O w w' ∧ ∀ k, O' k → O k ∨ w.heap.size ≤ k
def OM (O : Nat → Prop) (a b : World) : Nat → Prop := fun k => O k ∨ (a.heap.size ≤ k ∧ k < b.heap.size)
section
variable {w w' : World} {X : Nat} {O : Nat → Prop} {S S' : DS} {V : DV}
theorem Has.goes (h : Has w w' X O S') : Goes w w' X O S' := by
  obtain ⟨⟨V', hv⟩, he⟩ := h
  exact ⟨O, V', hv, he, fun k hk => .inl hk⟩
theorem Goes.then_ {w1 w2 : World} {S1 S2 : DS} (h : Goes w w1 X O S1) (k : ∀ O1 V1, DiskM w1 X O1 S1 V1 → (∀ j, O1 j → O j ∨ w.heap.size ≤ j) → Goes w1 w2 X O1 S2) : Goes w w2 X O S2 := by
  obtain ⟨O1, V1, h1, e1, o1⟩ := h
  obtain ⟨O2, V2, h2, e2, o2⟩ := k O1 V1 h1 o1
  refine ⟨O2, V2, h2, e1.trans e2 fun i hi h => ?_, fun j hj => ?_⟩
  · rcases o1 i h with h | h
    · exact h
    · omega
  · rcases o2 j hj with h | h
    · exact o1 j h
    · exact .inr (Nat.le_trans e1.size h)
theorem om_lt (h : DiskM w X O S V) {b : World} (hb : w.heap.size ≤ b.heap.size) : ∀ k, OM O w b k → k < b.heap.size := by
  rintro k (hk | hk)
  · exact Nat.lt_of_lt_of_le (h.lt k hk) hb
  · exact hk.2
/-- A sector is touched. -/
theorem DiskM.pushT (h : DiskM w X O S V) {W w6 : World} {v6 : Value} {n : Nat} (hb : Below w.heap.size w W) (hg : W.grownBy w6 V.tv.ownBlock) (ho : w6.ownsRow 0 3 1 v6 (S.tch.length + 1) (ints S.tch ++ [.int .i64 (n : Nat)])) (hat : v6.ownBlock = V.tv.ownBlock ∨ v6.ownBlock = some W.heap.size) :
    DiskM (w6.setCell ⟨X, 2, none⟩ v6) X (OM O w w6) { S with tch := S.tch ++ [n] } { V with tv := v6 } ∧ Eff O w (w6.setCell ⟨X, 2, none⟩ v6) ∧ w6.cell? ⟨X, 2, none⟩ = some V.tv ∧ w6.frozen? ⟨X, 2, none⟩ = false := by
  have hW := h.below hb
  have he : Eff (fun k => V.tv.ownBlock = some k) W w6 := eff_grown hg
  have hs : w.heap.size ≤ w6.heap.size := Nat.le_trans hb.size he.size
  have hno : ∀ {k t : Nat}, Tag W k t → t ≠ 3 → ¬ V.tv.ownBlock = some k := fun hk h1 e => hk.ne (hW.tch.tag e) h1 rfl
  have hO : ∀ k, O k → OM O w w6 k := fun k hk => .inl hk
  have hm6 := hW.mem.eff he (hno (mem_tag hW.mem) (by decide))
  have hown : ∀ k, v6.ownBlock = some k → OM O w w6 k := by
    intro k hk
    rcases hat with e | e
    · exact .inl (h.tch.own k (e ▸ hk))
    · rw [hk] at e
      obtain rfl := Option.some.inj e
      exact .inr ⟨hb.size, (own_tag ho _ hk).2.1⟩
  have hlt := om_lt h hs
  have hpk : OwnR w6 O 3 V.pv S.picks.length (zints S.picks) := hW.pck.eff he fun k hk e => h.ap3 k e hk
  have h6 : DiskM w6 X (OM O w w6) { S with tch := S.tch } V ∨ True := .inr trivial
  have hnew : OwnR w6 (OM O w w6) 3 v6 (S.tch ++ [n]).length (ints (S.tch ++ [n])) := ⟨by rw [List.length_append]; simpa [ints] using ho, hown⟩
  have heX := effX X 2 w6 v6
  have hXm : ∀ {k t : Nat}, Tag w6 k t → t ≠ 52 → ¬ k = X := fun hk h1 e => hk.ne (mem_tag hm6) h1 e
  have hlast := (hW.last.eff he (fun k hk => hno (hW.last.row.tag hk) (by decide)) fun k hk => hno hk (by decide)).more hO
  have hwaits := (hW.waits.eff he (fun k hk => hno (hW.waits.row.tag hk) (by decide)) (fun i u k hu hk => hno (hW.wtag hu hk) (by decide)) fun k hk => hno hk (by decide)).more hO
  have hwt : ∀ (i : Nat) (u : Value) (k : Nat), V.wl[i]? = some u → u.ownBlock = some k → Tag w6 k 34 := by
    intro i u k hu hk
    have hi := (List.getElem?_eq_some_iff.1 hu).1
    rw [h.waits.row.len] at hi
    obtain ⟨D, hD⟩ := hwaits.one i u _ hu (List.getElem?_eq_getElem hi)
    exact hD.row.tag hk
  refine ⟨⟨.inl h.ox, fun k hk => Nat.lt_of_lt_of_le (hlt k hk) heX.size, hm6.put 2 v6, ?_, ?_, ?_, ?_, h.lens, h.ap1, h.ap2, ?_⟩, ?_, hm6.cell 2, hm6.free 2⟩
  · exact hlast.eff heX (fun k hk => hXm (hlast.row.tag hk) (by decide)) fun k hk => hXm hk (by decide)
  · exact hwaits.eff heX (fun k hk => hXm (hwaits.row.tag hk) (by decide)) (fun i u k hu hk => hXm (hwt i u k hu hk) (by decide)) fun k hk => hXm hk (by decide)
  · exact hnew.eff heX fun k hk => hXm (hnew.tag hk) (by decide)
  · exact (hpk.eff heX fun k hk => hXm (hpk.tag hk) (by decide)).more hO
  · intro k hk hk'
    rcases hat with e | e
    · exact h.ap3 k (e ▸ hk) hk'
    · rw [hk] at e
      obtain rfl := Option.some.inj e
      have := h.pck.lt hk'
      have := hb.size
      omega
  · exact effOX (((Eff.of (S := O) hb).trans (he.mono fun k _ hk => h.tch.own k hk) fun _ _ h => h)) h.ox
/-- A Write waits. -/
theorem DiskM.pushW (h : DiskM w X O S V) {W : World} {v0 v6 : Value} {n gw cw : Nat} {Ls : List (List UInt8)} {l : List UInt8} {D : List Value} {u : Value} (hv0 : V.wl[n]? = some v0) (hLs : S.wts[n]? = some Ls) (hwv : V.wv = .slice (some ⟨gw, 0, none⟩) S.last.length cw)
    (he : Eff (fun k => v0.ownBlock = some k) w W) (hb0 : BRow w O v0 Ls D) (ho : W.ownsRow 0 34 1 v6 (Ls.length + 1) (D ++ [u])) (hu : W.ownsRow w.heap.size 5 1 u l.length (bs l)) (hl : l.length ≤ 512) (hat : v6.ownBlock = v0.ownBlock ∨ ∃ k, v6.ownBlock = some k ∧ w.heap.size ≤ k) :
    DiskM (W.setCell ⟨gw, n, none⟩ v6) X (OM O w W) { S with wts := S.wts.set n (Ls ++ [l]) } { V with wl := V.wl.set n v6 } ∧ Eff O w (W.setCell ⟨gw, n, none⟩ v6) ∧ W.cell? ⟨gw, n, none⟩ = some v0 ∧ W.frozen? ⟨gw, n, none⟩ = false := by
  have hn : n < S.last.length := by have := (List.getElem?_eq_some_iff.1 hLs).1; have := h.lens; omega
  have hs : w.heap.size ≤ W.heap.size := he.size
  have hno : ∀ {k t : Nat}, Tag w k t → t ≠ 34 → ¬ v0.ownBlock = some k := fun hk h1 e => hk.ne (hb0.row.tag e) h1 rfl
  have hO : ∀ k, O k → OM O w W k := fun k hk => .inl hk
  have hlt := om_lt h hs
  have hm6 := h.mem.eff he (hno (mem_tag h.mem) (by decide))
  have hown : ∀ k, v6.ownBlock = some k → OM O w W k := by
    intro k hk
    rcases hat with e | ⟨j, e, hj⟩
    · exact .inl (hb0.row.own k (e ▸ hk))
    · rw [hk] at e
      obtain rfl := Option.some.inj e
      exact .inr ⟨hj, (own_tag ho _ hk).2.1⟩
  have hlast := (h.last.eff he (fun k hk e => h.ap1 n v0 k hv0 e hk) fun k hk => hno hk (by decide)).more hO
  have htch := (h.tch.eff he fun k hk => hno (h.tch.tag hk) (by decide)).more hO
  have hpck := (h.pck.eff he fun k hk => hno (h.pck.tag hk) (by decide)).more hO
  have hrow := (h.waits.row.eff he fun k hk => hno (h.waits.row.tag hk) (by decide)).more hO
  rw [hwv] at hrow
  have hdat : ∀ (j : Nat) (x : Value) (m : List UInt8), (D ++ [u])[j]? = some x → (Ls ++ [l])[j]? = some m → Dat W (OM O w W) x m := by
    intro j x m hx hm
    have hDl := hb0.row.len
    by_cases hj : j < Ls.length
    · rw [List.getElem?_append_left (by omega)] at hx
      rw [List.getElem?_append_left (by omega)] at hm
      exact ((hb0.dat j x m hx hm).eff he fun k hk => hno hk (by decide)).more hO
    · have hj2 : j = Ls.length := by
        have := (List.getElem?_eq_some_iff.1 hm).1
        simp at this
        omega
      rw [List.getElem?_append_right (by omega), show j - D.length = 0 by omega] at hx
      rw [List.getElem?_append_right (by omega), show j - Ls.length = 0 by omega] at hm
      simp at hx hm
      subst hx hm
      exact ⟨⟨owns_mono hu (Nat.zero_le _), fun k hk => .inr ⟨(own_tag hu k hk).1, (own_tag hu k hk).2.1⟩⟩, hl⟩
  have hnew : BRow W (OM O w W) v6 (Ls ++ [l]) (D ++ [u]) := ⟨⟨by rw [List.length_append]; exact ho, hown⟩, hdat⟩
  have ht : Tag W gw 43 := hrow.tag rfl
  have heg := effX gw n W v6
  have hng : ∀ {k t : Nat}, Tag W k t → t ≠ 43 → ¬ k = gw := fun hk h1 e => hk.ne ht h1 e
  have hsW := heg.size
  refine ⟨⟨.inl h.ox, fun k hk => Nat.lt_of_lt_of_le (hlt k hk) heg.size, hm6.eff heg (hng (mem_tag hm6) (by decide)), ?_, ?_, ?_, ?_, by simpa using h.lens, ?_, ?_, h.ap3⟩, ?_, ?_, own_free (h.lens ▸ hrow.row) n⟩
  · exact hlast.eff heg (fun k hk => hng (hlast.row.tag hk) (by decide)) fun k hk => hng hk (by decide)
  · have hlw := h.lens
    refine ⟨⟨?_, ?_⟩, fun i x Ms hx hM => ?_⟩
    · show World.ownsRow _ 0 _ 1 V.wv (S.wts.set n (Ls ++ [l])).length (V.wl.set n v6)
      rw [hwv, List.length_set, hlw]
      have := own_put (hlw ▸ hrow.row) hn v6
      exact this
    · show ∀ k, V.wv.ownBlock = some k → _
      rw [hwv]
      exact hrow.own
    · simp only [List.getElem?_set] at hx hM
      split at hx
      · rename_i e
        subst e
        rw [if_pos rfl] at hM
        split at hx <;> simp at hx
        rw [if_pos (by omega)] at hM
        simp at hM
        subst hx hM
        exact ⟨_, hnew.eff heg (fun k hk => hng (hnew.row.tag hk) (by decide)) fun k hk => hng hk (by decide)⟩
      · rename_i e
        rw [if_neg e] at hM
        obtain ⟨D', hD'⟩ := h.waits.one i x Ms hx hM
        have hD6 := (hD'.eff he (fun k hk e' => h.ap2 n i v0 x k e hv0 hx e' hk) fun k hk => hno hk (by decide)).more hO
        exact ⟨D', hD6.eff heg (fun k hk => hng (hD6.row.tag hk) (by decide)) fun k hk => hng hk (by decide)⟩
  · exact htch.eff heg fun k hk => hng (htch.tag hk) (by decide)
  · exact hpck.eff heg fun k hk => hng (hpck.tag hk) (by decide)
  · intro i x k hx hk hk'
    simp only [List.getElem?_set] at hx
    split at hx
    · split at hx <;> simp at hx
      subst hx
      rcases hat with e | ⟨j, e, hj⟩
      · exact h.ap1 n v0 k hv0 (e ▸ hk) hk'
      · rw [hk] at e
        obtain rfl := Option.some.inj e
        have := h.last.row.lt hk'
        omega
    · exact h.ap1 i x k hx hk hk'
  · have hnewap : ∀ (i : Nat) (x : Value) (k : Nat), i ≠ n → V.wl[i]? = some x → v6.ownBlock = some k → x.ownBlock ≠ some k := by
      intro i x k hi hx hk hk'
      rcases hat with e | ⟨j, e, hj⟩
      · exact h.ap2 n i v0 x k (Ne.symm hi) hv0 hx (e ▸ hk) hk'
      · rw [hk] at e
        obtain rfl := Option.some.inj e
        have := (h.wtag hx hk')
        obtain ⟨cs, fr, this⟩ := this
        have := (Array.getElem?_eq_some_iff.1 this).1
        omega
    intro i i' x x' k hne hx hx' hk
    simp only [List.getElem?_set] at hx hx'
    split at hx
    · rename_i e
      split at hx <;> simp at hx
      subst hx e
      rw [if_neg hne] at hx'
      exact hnewap i' x' k (Ne.symm hne) hx' hk
    · rename_i e
      split at hx'
      · rename_i e'
        split at hx' <;> simp at hx'
        subst hx' e'
        intro hk'
        exact hnewap i x k (Ne.symm e) hx hk' hk
      · exact h.ap2 i i' x x' k hne hx hx' hk
  · exact (he.mono fun k _ hk => hb0.row.own k hk).setCell (p := ⟨gw, n, none⟩) (h.waits.row.own gw (by rw [hwv]; rfl)) v6
  · have := own_cells (h.lens ▸ hrow.row) n v0 hv0
    exact this
end
end Dk
end Go.Proofs.Ytpfackjnnkjjdaa
