/- Package disk: what lies in memory. -/
import Derived.Test.YtpfackjnnkjjdaaMm
namespace Go.Proofs.Ytpfackjnnkjjdaa
open Go.ChangeShapes Go.WideShapes Go.ChangeAt Go.RowKit Go.Lib
set_option linter.unusedVariables false
set_option linter.unusedSimpArgs false
namespace Dk
/-- Bytes in a row. -/
structure Dat (w : World) (O : Nat → Prop) (v : Value) (l : List UInt8) : Prop where
  row : OwnR w O 5 v l.length (bs l)
  few : l.length ≤ 512
section
variable {w w' : World} {O O' T : Nat → Prop} {v : Value} {l : List UInt8}
theorem Dat.eff (h : Dat w O v l) (he : Eff T w w') (hT : ∀ k, Tag w k 5 → ¬ T k) : Dat w' O v l := ⟨h.row.eff he fun k hk => hT k (h.row.tag hk), h.few⟩
theorem Dat.effO (h : Dat w O v l) (he : Eff T w w') (hT : ∀ k, k < w.heap.size → O k → ¬ T k) : Dat w' O v l := ⟨h.row.eff he fun k hk => hT k (h.row.lt hk) (h.row.own k hk), h.few⟩
theorem Dat.more (h : Dat w O v l) (hO : ∀ k, O k → O' k) : Dat w O' v l := ⟨h.row.more hO, h.few⟩
theorem Dat.none (w : World) (O : Nat → Prop) : Dat w O (.slice Option.none 0 0) [] := ⟨OwnR.none _ _ _, by simp⟩
end
/-- A row of such. -/
structure BRow (w : World) (O : Nat → Prop) (v : Value) (L : List (List UInt8)) (D : List Value) : Prop where
  row : OwnR w O 34 v L.length D
  dat : ∀ (j : Nat) (u : Value) (l : List UInt8), D[j]? = some u → L[j]? = some l → Dat w O u l
section
variable {w w' : World} {O O' T : Nat → Prop} {v : Value} {L : List (List UInt8)} {D : List Value}
theorem BRow.eff (h : BRow w O v L D) (he : Eff T w w') (h1 : ∀ k, v.ownBlock = some k → ¬ T k) (h2 : ∀ k, Tag w k 5 → ¬ T k) : BRow w' O v L D := ⟨h.row.eff he h1, fun j u l hu hl => (h.dat j u l hu hl).eff he h2⟩
theorem BRow.effO (h : BRow w O v L D) (he : Eff T w w') (hT : ∀ k, k < w.heap.size → O k → ¬ T k) : BRow w' O v L D := ⟨h.row.eff he fun k hk => hT k (h.row.lt hk) (h.row.own k hk), fun j u l hu hl => (h.dat j u l hu hl).effO he hT⟩
theorem BRow.more (h : BRow w O v L D) (hO : ∀ k, O k → O' k) : BRow w O' v L D := ⟨h.row.more hO, fun j u l hu hl => (h.dat j u l hu hl).more hO⟩
theorem BRow.none (w : World) (O : Nat → Prop) : BRow w O (.slice Option.none 0 0) [] [] := ⟨OwnR.none _ _ _, fun j u l h => by simp at h⟩
theorem BRow.get (h : BRow w O v L D) {j : Nat} (hj : j < L.length) : ∃ u, D[j]? = some u ∧ Dat w O u L[j] := by
  have hl := h.row.len
  exact ⟨D[j]'(by omega), List.getElem?_eq_getElem _, h.dat j _ _ (List.getElem?_eq_getElem _) (List.getElem?_eq_getElem _)⟩
theorem BRow.put {g c n j : Nat} {u : Value} {l : List UInt8} (h : BRow w O (.slice (some ⟨g, 0, Option.none⟩) n c) L D) (hn : L.length = n) (hj : j < n) (hu : Dat w O u l) : BRow (w.setCell ⟨g, j, Option.none⟩ u) O (.slice (some ⟨g, 0, Option.none⟩) n c) (L.set j l) (D.set j u) := by
  subst hn
  have ht : Tag w g 34 := h.row.tag rfl
  have hS : Eff (fun k => k = g) w (w.setCell ⟨g, j, Option.none⟩ u) := Eff.setCell (S := fun k => k = g) (Eff.refl _ _) (p := ⟨g, j, Option.none⟩) rfl u
  have hno : ∀ k, Tag w k 5 → ¬ k = g := fun k hk e => hk.ne ht (by decide) e
  refine ⟨⟨by rw [List.length_set]; exact own_put h.row.row hj u, h.row.own⟩, fun i v m hv hm => ?_⟩
  rw [List.getElem?_set] at hv hm
  split at hv
  · rename_i e
    subst e
    rw [if_pos rfl] at hm
    split at hv <;> simp at hv
    rw [if_pos hj] at hm
    simp at hm
    subst hv hm
    exact hu.eff hS hno
  · rename_i e
    rw [if_neg e] at hm
    exact (h.dat i v m hv hm).eff hS hno
end
/-- The Writes that wait, of each sector. -/
structure WRow (w : World) (O : Nat → Prop) (v : Value) (W : List (List (List UInt8))) (wl : List Value) : Prop where
  row : OwnR w O 43 v W.length wl
  one : ∀ (i : Nat) (u : Value) (Ls : List (List UInt8)), wl[i]? = some u → W[i]? = some Ls → ∃ D, BRow w O u Ls D
section
variable {w w' : World} {O O' T : Nat → Prop} {v : Value} {W : List (List (List UInt8))} {wl : List Value}
theorem WRow.eff (h : WRow w O v W wl) (he : Eff T w w') (h1 : ∀ k, v.ownBlock = some k → ¬ T k) (h2 : ∀ (i : Nat) (u : Value) (k : Nat), wl[i]? = some u → u.ownBlock = some k → ¬ T k) (h3 : ∀ k, Tag w k 5 → ¬ T k) : WRow w' O v W wl :=
  ⟨h.row.eff he h1, fun i u Ls hu hl => by obtain ⟨D, hD⟩ := h.one i u Ls hu hl; exact ⟨D, hD.eff he (h2 i u · hu) h3⟩⟩
theorem WRow.effO (h : WRow w O v W wl) (he : Eff T w w') (hT : ∀ k, k < w.heap.size → O k → ¬ T k) : WRow w' O v W wl :=
  ⟨h.row.eff he fun k hk => hT k (h.row.lt hk) (h.row.own k hk), fun i u Ls hu hl => by obtain ⟨D, hD⟩ := h.one i u Ls hu hl; exact ⟨D, hD.effO he hT⟩⟩
theorem WRow.more (h : WRow w O v W wl) (hO : ∀ k, O k → O' k) : WRow w O' v W wl := ⟨h.row.more hO, fun i u Ls hu hl => by obtain ⟨D, hD⟩ := h.one i u Ls hu hl; exact ⟨D, hD.more hO⟩⟩
theorem WRow.get (h : WRow w O v W wl) {j : Nat} (hj : j < W.length) : ∃ u D, wl[j]? = some u ∧ BRow w O u W[j] D := by
  have hl := h.row.len
  obtain ⟨D, hD⟩ := h.one j _ _ (List.getElem?_eq_getElem (by omega)) (List.getElem?_eq_getElem hj)
  exact ⟨wl[j]'(by omega), D, List.getElem?_eq_getElem _, hD⟩
/-- A store into the outer row. -/
theorem WRow.put {g c n j : Nat} {u : Value} {Ls : List (List UInt8)} {D : List Value} (h : WRow w O (.slice (some ⟨g, 0, Option.none⟩) n c) W wl) (hn : W.length = n) (hj : j < n) (hu : BRow w O u Ls D) : WRow (w.setCell ⟨g, j, Option.none⟩ u) O (.slice (some ⟨g, 0, Option.none⟩) n c) (W.set j Ls) (wl.set j u) := by
  subst hn
  have ht : Tag w g 43 := h.row.tag rfl
  have hS : Eff (fun k => k = g) w (w.setCell ⟨g, j, Option.none⟩ u) := Eff.setCell (S := fun k => k = g) (Eff.refl _ _) (p := ⟨g, j, Option.none⟩) rfl u
  have hno : ∀ k, Tag w k 5 → ¬ k = g := fun k hk e => hk.ne ht (by decide) e
  have hto : ∀ (u : Value) (Ls : List (List UInt8)) (D : List Value), BRow w O u Ls D → BRow (w.setCell ⟨g, j, Option.none⟩ ‹Value›) O u Ls D := fun u Ls D hb => hb.eff (Eff.setCell (S := fun k => k = g) (Eff.refl _ _) (p := ⟨g, j, Option.none⟩) rfl _) (fun k hk e => (hb.row.tag hk).ne ht (by decide) e) hno
  refine ⟨⟨by rw [List.length_set]; exact own_put h.row.row hj u, h.row.own⟩, fun i v m hv hm => ?_⟩
  rw [List.getElem?_set] at hv hm
  split at hv
  · rename_i e
    subst e
    rw [if_pos rfl] at hm
    split at hv <;> simp at hv
    rw [if_pos hj] at hm
    simp at hm
    subst hv hm
    exact ⟨D, hu.eff hS (fun k hk e => (hu.row.tag hk).ne ht (by decide) e) hno⟩
  · rename_i e
    rw [if_neg e] at hm
    obtain ⟨D', hD⟩ := h.one i v m hv hm
    exact ⟨D', hD.eff hS (fun k hk e => (hD.row.tag hk).ne ht (by decide) e) hno⟩
end
/-- A disk's state, as the chapter has it. -/
structure DS where
  last : List (List UInt8)
  wts : List (List (List UInt8))
  tch : List Nat
  wtg : Nat
  off : Bool
  dead : Bool
  calls : Nat
  arm : Nat
  picks : List Int
/-- The values of its rows. -/
structure DV where
  lv : Value
  wv : Value
  tv : Value
  pv : Value
  ll : List Value
  wl : List Value
def ints (L : List Nat) : List Value := L.map fun n => Value.int .i64 (n : Nat)
def zints (L : List Int) : List Value := L.map fun n => Value.int .i64 n
def DV.row (V : DV) (S : DS) : Array Value := #[V.lv, V.wv, V.tv, .int .i64 (S.wtg : Nat), .bool S.off, .bool S.dead, .int .i64 (S.calls : Nat), .int .i64 (S.arm : Nat), V.pv]
/-- A disk in block X, of the blocks O. -/
structure DiskM (w : World) (X : Nat) (O : Nat → Prop) (S : DS) (V : DV) : Prop where
  ox : O X
  lt : ∀ k, O k → k < w.heap.size
  mem : Mem w X 52 (V.row S)
  last : BRow w O V.lv S.last V.ll
  waits : WRow w O V.wv S.wts V.wl
  tch : OwnR w O 3 V.tv S.tch.length (ints S.tch)
  pck : OwnR w O 3 V.pv S.picks.length (zints S.picks)
  lens : S.wts.length = S.last.length
  ap1 : ∀ (i : Nat) (u : Value) (k : Nat), V.wl[i]? = some u → u.ownBlock = some k → V.lv.ownBlock ≠ some k
  ap2 : ∀ (i j : Nat) (u v : Value) (k : Nat), i ≠ j → V.wl[i]? = some u → V.wl[j]? = some v → u.ownBlock = some k → v.ownBlock ≠ some k
  ap3 : ∀ k, V.tv.ownBlock = some k → V.pv.ownBlock ≠ some k
section
variable {w w' : World} {X : Nat} {O O' T : Nat → Prop} {S : DS} {V : DV}
theorem DiskM.effO (h : DiskM w X O S V) (he : Eff T w w') (hT : ∀ k, k < w.heap.size → O k → ¬ T k) : DiskM w' X O S V :=
  ⟨h.ox, fun k hk => Nat.lt_of_lt_of_le (h.lt k hk) he.size, h.mem.eff he (hT X h.mem.lt h.ox), h.last.effO he hT, h.waits.effO he hT, h.tch.eff he fun k hk => hT k (h.tch.lt hk) (h.tch.own k hk), h.pck.eff he fun k hk => hT k (h.pck.lt hk) (h.pck.own k hk), h.lens, h.ap1, h.ap2, h.ap3⟩
theorem DiskM.below (h : DiskM w X O S V) (hb : Below w.heap.size w w') : DiskM w' X O S V := h.effO (Eff.of (S := fun _ => False) hb) fun _ _ _ hf => hf
theorem DiskM.more (h : DiskM w X O S V) (hO : ∀ k, O k → O' k) (hl : ∀ k, O' k → k < w.heap.size) : DiskM w X O' S V :=
  ⟨hO _ h.ox, hl, h.mem, h.last.more hO, h.waits.more hO, h.tch.more hO, h.pck.more hO, h.lens, h.ap1, h.ap2, h.ap3⟩
theorem effX (X i : Nat) (w : World) (u : Value) : Eff (fun k => k = X) w (w.setCell ⟨X, i, none⟩ u) := Eff.setCell (S := fun k => k = X) (Eff.refl _ _) (p := ⟨X, i, none⟩) rfl u
theorem DiskM.tagX (h : DiskM w X O S V) {k t : Nat} (hk : Tag w k t) (ht : t ≠ 52) : ¬ k = X := fun e => hk.ne (mem_tag h.mem) ht e
/-- A store into the disk's own cells. -/
theorem DiskM.setX (h : DiskM w X O S V) (i : Nat) (u : Value) {S' : DS} (hm : (V.row S).setIfInBounds i u = V.row S') (h1 : S'.last = S.last) (h2 : S'.wts = S.wts) (h3 : S'.tch = S.tch) (h4 : S'.picks = S.picks) : DiskM (w.setCell ⟨X, i, none⟩ u) X O S' V := by
  have he := effX X i w u
  refine ⟨h.ox, fun k hk => Nat.lt_of_lt_of_le (h.lt k hk) he.size, hm ▸ h.mem.put i u, ?_, ?_, ?_, ?_, ?_, h.ap1, h.ap2, h.ap3⟩
  · rw [h1]; exact h.last.eff he (fun k hk => h.tagX (h.last.row.tag hk) (by decide)) fun k hk => h.tagX hk (by decide)
  · rw [h2]; exact h.waits.eff he (fun k hk => h.tagX (h.waits.row.tag hk) (by decide)) (fun i u k hu hk => by
      have hi := (List.getElem?_eq_some_iff.1 hu).1
      rw [h.waits.row.len] at hi
      obtain ⟨D, hD⟩ := h.waits.one i u _ hu (List.getElem?_eq_getElem hi)
      exact h.tagX (hD.row.tag hk) (by decide)) fun k hk => h.tagX hk (by decide)
  · rw [h3]; exact h.tch.eff he fun k hk => h.tagX (h.tch.tag hk) (by decide)
  · rw [h4]; exact h.pck.eff he fun k hk => h.tagX (h.pck.tag hk) (by decide)
  · rw [h1, h2]; exact h.lens
/-- What the rows' blocks are. -/
theorem DiskM.wtag (h : DiskM w X O S V) {i k : Nat} {u : Value} (hu : V.wl[i]? = some u) (hk : u.ownBlock = some k) : Tag w k 34 := by
  have hi := (List.getElem?_eq_some_iff.1 hu).1
  rw [h.waits.row.len] at hi
  obtain ⟨D, hD⟩ := h.waits.one i u _ hu (List.getElem?_eq_getElem hi)
  exact hD.row.tag hk
/-- A store of the touched ones' row (a new value). -/
theorem DiskM.setT (h : DiskM w X O S V) (v : Value) {L : List Nat} (hv : OwnR w O 3 v L.length (ints L)) (ha : ∀ k, v.ownBlock = some k → V.pv.ownBlock ≠ some k) : DiskM (w.setCell ⟨X, 2, none⟩ v) X O { S with tch := L } { V with tv := v } := by
  have he := effX X 2 w v
  refine ⟨h.ox, fun k hk => Nat.lt_of_lt_of_le (h.lt k hk) he.size, h.mem.put 2 v, ?_, ?_, ?_, ?_, h.lens, h.ap1, h.ap2, ha⟩
  · exact h.last.eff he (fun k hk => h.tagX (h.last.row.tag hk) (by decide)) fun k hk => h.tagX hk (by decide)
  · exact h.waits.eff he (fun k hk => h.tagX (h.waits.row.tag hk) (by decide)) (fun i u k hu hk => h.tagX (h.wtag hu hk) (by decide)) fun k hk => h.tagX hk (by decide)
  · exact hv.eff he fun k hk => h.tagX (hv.tag hk) (by decide)
  · exact h.pck.eff he fun k hk => h.tagX (h.pck.tag hk) (by decide)
theorem DiskM.setP (h : DiskM w X O S V) (v : Value) {L : List Int} (hv : OwnR w O 3 v L.length (zints L)) (ha : ∀ k, V.tv.ownBlock = some k → v.ownBlock ≠ some k) : DiskM (w.setCell ⟨X, 8, none⟩ v) X O { S with picks := L } { V with pv := v } := by
  have he := effX X 8 w v
  refine ⟨h.ox, fun k hk => Nat.lt_of_lt_of_le (h.lt k hk) he.size, h.mem.put 8 v, ?_, ?_, ?_, ?_, h.lens, h.ap1, h.ap2, ha⟩
  · exact h.last.eff he (fun k hk => h.tagX (h.last.row.tag hk) (by decide)) fun k hk => h.tagX hk (by decide)
  · exact h.waits.eff he (fun k hk => h.tagX (h.waits.row.tag hk) (by decide)) (fun i u k hu hk => h.tagX (h.wtag hu hk) (by decide)) fun k hk => h.tagX hk (by decide)
  · exact h.tch.eff he fun k hk => h.tagX (h.tch.tag hk) (by decide)
  · exact hv.eff he fun k hk => h.tagX (hv.tag hk) (by decide)
/-- A sector that lasts. -/
theorem DiskM.setL (h : DiskM w X O S V) {g c n j : Nat} {u : Value} {l : List UInt8} (hv : V.lv = .slice (some ⟨g, 0, none⟩) n c) (hn : S.last.length = n) (hj : j < n) (hu : Dat w O u l) : DiskM (w.setCell ⟨g, j, none⟩ u) X O { S with last := S.last.set j l } { V with ll := V.ll.set j u } := by
  have ht : Tag w g 34 := h.last.row.tag (by rw [hv]; rfl)
  have he := effX g j w u
  have hno : ∀ {k t : Nat}, Tag w k t → t ≠ 34 → ¬ k = g := fun hk h1 e => hk.ne ht h1 e
  have hl := h.last
  rw [hv] at hl
  refine ⟨h.ox, fun k hk => Nat.lt_of_lt_of_le (h.lt k hk) he.size, h.mem.eff he (hno (mem_tag h.mem) (by decide)), ?_, ?_, ?_, ?_, by simpa using h.lens, h.ap1, h.ap2, h.ap3⟩
  · show BRow _ O V.lv (S.last.set j l) (V.ll.set j u)
    rw [hv]
    exact hl.put hn hj hu
  · exact h.waits.eff he (fun k hk => hno (h.waits.row.tag hk) (by decide)) (fun i v k hi hk e => h.ap1 i v k hi hk (by rw [hv, e]; rfl)) fun k hk => hno hk (by decide)
  · exact h.tch.eff he fun k hk => hno (h.tch.tag hk) (by decide)
  · exact h.pck.eff he fun k hk => hno (h.pck.tag hk) (by decide)
/-- A sector's Writes. -/
theorem DiskM.setW (h : DiskM w X O S V) {g c n j : Nat} {u : Value} {Ls : List (List UInt8)} {D : List Value} (hv : V.wv = .slice (some ⟨g, 0, none⟩) n c) (hn : S.last.length = n) (hj : j < n) (hu : BRow w O u Ls D) (a1 : ∀ k, u.ownBlock = some k → V.lv.ownBlock ≠ some k) (a2 : ∀ (i : Nat) (v : Value) (k : Nat), i ≠ j → V.wl[i]? = some v → u.ownBlock = some k → v.ownBlock ≠ some k) : DiskM (w.setCell ⟨g, j, none⟩ u) X O { S with wts := S.wts.set j Ls } { V with wl := V.wl.set j u } := by
  have ht : Tag w g 43 := h.waits.row.tag (by rw [hv]; rfl)
  have he := effX g j w u
  have hno : ∀ {k t : Nat}, Tag w k t → t ≠ 43 → ¬ k = g := fun hk h1 e => hk.ne ht h1 e
  have hl := h.waits
  have hll := h.lens
  rw [hv] at hl
  refine ⟨h.ox, fun k hk => Nat.lt_of_lt_of_le (h.lt k hk) he.size, h.mem.eff he (hno (mem_tag h.mem) (by decide)), ?_, ?_, ?_, ?_, by simpa using h.lens, ?_, ?_, h.ap3⟩
  · exact h.last.eff he (fun k hk => hno (h.last.row.tag hk) (by decide)) fun k hk => hno hk (by decide)
  · show WRow _ O V.wv (S.wts.set j Ls) (V.wl.set j u)
    rw [hv]
    exact hl.put (by omega) hj hu
  · exact h.tch.eff he fun k hk => hno (h.tch.tag hk) (by decide)
  · exact h.pck.eff he fun k hk => hno (h.pck.tag hk) (by decide)
  · intro i v k hi hk
    simp only [List.getElem?_set] at hi
    split at hi
    · split at hi <;> simp at hi
      subst hi
      exact a1 k hk
    · exact h.ap1 i v k hi hk
  · intro i i' v v' k hne hi hi' hk
    simp only [List.getElem?_set] at hi hi'
    split at hi
    · rename_i e
      split at hi <;> simp at hi
      subst hi e
      rw [if_neg hne] at hi'
      exact a2 i' v' k (Ne.symm hne) hi' hk
    · rename_i e
      split at hi'
      · rename_i e'
        split at hi' <;> simp at hi'
        subst hi' e'
        intro hk'
        exact a2 i v k (Ne.symm e) hi hk' hk
      · exact h.ap2 i i' v v' k hne hi hi' hk
end
end Dk
end Go.Proofs.Ytpfackjnnkjjdaa
