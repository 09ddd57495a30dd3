/- Package task: slices.Delete and slices.Insert of one task: contracts. -/
import Derived.Test.YtgofkofkhkpjbaaTk1
import Derived.Lib.SlicesCompact
import Derived.Lib.SlicesDelete
import Derived.Lib.Hide
import Derived.Deep.Upon
import Derived.WalkKit
import Derived.Deep.RegionLaw
import Derived.Lib.SliceRun
import Derived.Lib.Overlaps
import Derived.Lib.AppendZeros
import Derived.Lib.AppendZerosOnto
import Derived.Shelf.RegionOpenPlain
namespace Go.Proofs.Ytgofkofkhkpjbaa
open Go.ChangeShapes Go.WideShapes Go.ChangeAt Go.RowKit Go.Lib
set_option linter.unusedVariables false
set_option linter.unusedSimpArgs false
namespace Tk
/-- A row some of whose cells are laid anew. -/
def layV : Array Value → Nat → List Value → Array Value
  | d, _, [] => d
  | d, o, v :: r => layV (d.setIfInBounds o v) (o + 1) r
theorem layV_size : ∀ (vs : List Value) (d : Array Value) (o : Nat), (layV d o vs).size = d.size
  | [], _, _ => rfl
  | v :: r, d, o => by rw [layV, layV_size r]; simp
theorem layV_get : ∀ (vs : List Value) (d : Array Value) (o k : Nat), o + vs.length ≤ d.size → (layV d o vs)[k]? = if o ≤ k ∧ k < o + vs.length then vs[k - o]? else d[k]?
  | [], d, o, k, _ => by rw [if_neg (by simp only [List.length_nil]; omega)]; rfl
  | v :: r, d, o, k, h => by
    simp only [List.length_cons] at h ⊢
    rw [layV, layV_get r _ _ _ (by simp; omega)]
    by_cases h1 : o + 1 ≤ k ∧ k < o + 1 + r.length
    · rw [if_pos h1, if_pos (by omega), show k - o = (k - (o + 1)) + 1 by omega, List.getElem?_cons_succ]
    · by_cases h2 : k = o
      · subst h2
        rw [if_neg (by omega), if_pos (by omega), Nat.sub_self]
        simp [show k < d.size by omega]
      · rw [if_neg h1, if_neg (by omega)]
        simp [Ne.symm h2]
theorem _root_.Go.Proofs.Ytgofkofkhkpjbaa.Mem.lay {t g : Nat} : ∀ (vs : List Value) (w : World) (cs : Array Value) (o : Nat), Mem w g t cs → Mem (w.setCells g o vs) g t (layV cs o vs)
  | [], _, _, _, h => h
  | v :: r, w, cs, o, h => Mem.lay r _ _ (o + 1) (h.put o v)
theorem eff_setCells {g : Nat} {a : World} : ∀ (vs : List Value) (w : World) (o : Nat), Eff (fun k => k = g) a w → Eff (fun k => k = g) a (w.setCells g o vs)
  | [], _, _, h => h
  | v :: r, w, o, h => eff_setCells r _ (o + 1) (Eff.setCell (S := fun k => k = g) h (p := ⟨g, o, none⟩) rfl v)
section
variable {P : Program}
theorem run_clear_one (w : World) (t e ty : TypeId) (z : Value) (zs : List Value) (ht : P.underlying t = some (.slice e)) (hv : ∀ w, (zeroValue e).run P w = .ok z w) (hz : (Builtin.zeroCells z.cells 1).toList = zs) (h1 : ∀ u ∈ zs, u.oneCell' = true) (b o c : Nat)
    (hc : ∀ j, j < zs.length → (w.cell? ⟨b, o + j, none⟩).isSome = true) (hf : ∀ j, j < zs.length → w.frozen? ⟨b, o + j, none⟩ = false) :
    (Builtin.clear_ #[t] ty #[.slice (some ⟨b, o, none⟩) 1 c]).run P w = .ok (.tuple #[]) (w.setCells b o zs) := by
  have hst := run_storeCells_cells (P := P) b o zs 0 w (by simpa using hc) (by simpa using hf) h1
  simp only [Nat.add_zero] at hst
  simp [Builtin.clear_, run_underlying ht, hv, hz, hst]
end
theorem flat_erase (L : List Tk) (i : Nat) : flat (L.eraseIdx i) = (flat L).take (3 * i) ++ (flat L).drop (3 * (i + 1)) := by
  rw [flat_take, flat_drop, ← flat_app, List.eraseIdx_eq_take_drop_succ]
set_option maxRecDepth 1000000 in
set_option maxHeartbeats 4000000 in
theorem del_any (B : Nat) (A : Option Addr) (c : Nat) (L : List Tk) (i : Nat) (hi : i < L.length) (w : World) (ho : w.ownsRow B 42 3 (.slice A L.length c) L.length (flat L)) :
    Calls Try.prog 19 #[.slice A L.length c, .int .i64 (i : Nat), .int .i64 ((i : Int) + 1)] w fun e w' => e = .returned (.slice A (L.length - 1) c) ∧ w'.ownsRow B 42 3 (.slice A (L.length - 1) c) (L.length - 1) (flat (L.eraseIdx i)) ∧ Eff (fun k => (Value.slice A L.length c).ownBlock = some k) w w' := by
  rcases ho.2 with ⟨hv, h0⟩ | ⟨g, cap, cur, hv, hBg, hg, hnc, hcm, hcs, htk⟩
  · omega
  simp only [Value.slice.injEq] at hv
  obtain ⟨rfl, _, rfl⟩ := hv
  obtain ⟨i0, hi0, hz0, hz1⟩ := one_parts
  generalize hn : L.length = n at *
  obtain ⟨j, hj1, hj2⟩ : ∃ j : Nat, i < j ∧ (i : Int) + 1 = j := ⟨i + 1, by omega, by omega⟩
  obtain ⟨hj3, hj4⟩ : j ≤ i + 1 ∧ j ≤ n := ⟨by omega, by omega⟩
  rw [hj2]
  have hfl : (flat L).length = n * 3 := by rw [flat_len, hn]
  have hcur : ∀ k, k < n * 3 → cur[k]? = (flat L)[k]? := by
    intro k hk
    rw [← htk, List.getElem?_take, if_pos hk, Array.getElem?_toList]
  have hmem : Mem w g 42 cur := hg
  have hmemd : Mem w.drew g 42 cur := hg
  obtain ⟨news, hnews⟩ : ∃ news, news = (flat L).drop (3 * (i + 1)) := ⟨_, rfl⟩
  have hlen : news.length = (n - j) * 3 := by rw [hnews, List.length_drop, hfl]; omega
  have hget : ∀ t, t < news.length → news[t]? = cur[3 * (i + 1) + t]? := by
    intro t ht
    rw [hcur _ (by rw [hlen] at ht; omega), hnews, List.getElem?_drop]
  have hflone := flat_one L
  have hsz : cur.size = c * 3 := hcs
  have hsome : ∀ W : World, ∀ cs : Array Value, cs.size = cur.size → Mem W g 42 cs → ∀ k, k < n * 3 → (W.cell? ⟨g, k, none⟩).isSome = true ∧ W.frozen? ⟨g, k, none⟩ = false := by
    intro W cs hc hm k hk
    refine ⟨?_, hm.free k⟩
    rw [hm.cell k, Array.getElem?_eq_getElem (by omega)]
    rfl
  obtain ⟨A2, hA, hsrc⟩ : ∃ A2 : Addr, (if c = j then some (⟨g, 0, none⟩ : Addr) else some ⟨g, j * 3, none⟩) = some A2 ∧ Hid (∀ t u, news[t]? = some u → w.drew.cell? (A2.add t) = some u) := by
    by_cases h : c = j
    · refine ⟨⟨g, 0, none⟩, by simp [h], Lib.hid fun t u hu => ?_⟩
      have h0 : news.length = 0 := by rw [hlen]; omega
      rw [List.length_eq_zero_iff.1 h0] at hu
      simp at hu
    · refine ⟨⟨g, j * 3, none⟩, by simp [h], Lib.hid fun t u hu => ?_⟩
      have ht : t < news.length := (List.getElem?_eq_some_iff.1 hu).1
      rw [hget t ht] at hu
      rw [add_plain, hmemd.cell, show j * 3 + t = 3 * (i + 1) + t by omega]
      exact hu
  have s1 : Hid (news.length = (n - j) * 3) := Lib.hid hlen
  have s2 : Hid (∀ u ∈ news, u.oneCell' = true) := Lib.hid fun u hu => hflone u (by rw [hnews] at hu; exact List.mem_of_mem_drop hu)
  have s3 : Hid (∀ t, t < news.length → (w.drew.cell? ⟨g, 0 + i * 3 + t, none⟩).isSome = true ∧ w.drew.frozen? ⟨g, 0 + i * 3 + t, none⟩ = false) := Lib.hid fun t ht => by
    rw [hlen] at ht
    exact hsome w.drew cur rfl hmemd _ (by omega)
  obtain ⟨W1, hW1⟩ : ∃ W1, W1 = w.drew.setCells g (0 + i * 3) news := ⟨_, rfl⟩
  have hM1 : Mem W1 g 42 (layV cur (0 + i * 3) news) := by rw [hW1]; exact hmemd.lay news _ _ _
  have hE1 : Eff (fun k => k = g) w W1 := by rw [hW1]; exact eff_setCells news _ _ ⟨rfl, rfl, rfl, Nat.le_refl _, fun _ _ _ => rfl⟩
  have hz3 : ∀ w, (zeroValue 42).run Try.prog w = .ok (.agg #[.int .u32 0, .int .i64 0, .bool false]) w := fun w => by kernel_rfl
  have hcl : ∀ ty, (Builtin.clear_ #[36] ty #[.slice (some ⟨g, (n - 1) * 3, none⟩) (n - (n - 1)) (c - (n - 1))]).run Try.prog W1 = .ok (.tuple #[]) (W1.setCells g ((n - 1) * 3) [.int .u32 0, .int .i64 0, .bool false]) := fun ty => by
    rw [show n - (n - 1) = 1 by omega]
    exact run_clear_one W1 36 42 ty _ _ Try.underlying36 hz3 (by kernel_rfl) (by intro u hu; simp at hu; rcases hu with rfl | rfl | rfl <;> rfl) g ((n - 1) * 3) (c - (n - 1)) (fun t ht => (hsome W1 _ (layV_size _ _ _) hM1 _ (by simp at ht; omega)).1) (fun t ht => (hsome W1 _ (layV_size _ _ _) hM1 _ (by simp at ht; omega)).2)
  have hW : Hid (W1 = w.drew.setCells g (0 + i * 3) news) := Lib.hid hW1
  have HM1 := Lib.hid hM1
  have HE1 := Lib.hid hE1
  have HG := Lib.hid hget
  have HC := Lib.hid hcur
  have hnj : i + (n - j) = n - 1 := by omega
  have hic : i ≤ c := by omega
  have hjc : j ≤ c := by omega
  clear hM1 hE1 hW1 hget hcur hsome hflone hmem hmemd hg hlen hfl ho
  go_enter Try.func19, Try.ntmps19
  go_wp2_with fail
  go_region_law (refine step_append_room rfl (.tmp 22) (.tmp 25) 36 rfl 42 i0 3 Try.underlying36 hi0 hz1 g 0 i c (by simp [Act.eval, Act.put]) A2 (n - j) (c - j) news (by simp [Act.eval, Act.put]) s1.out hsrc.out s2.out (by omega) s3.out ?_; rw [← hW.out])
  go_wp2
  go_ret
  have hM := HM1.out.lay [.int .u32 0, .int .i64 0, .bool false] _ _ ((n - 1) * 3)
  refine ⟨rfl, ⟨?_, .inr ⟨g, c, _, rfl, hBg, hM, by omega, hcm, ?_, ?_⟩⟩, ?_⟩
  · rw [flat_len, List.length_eraseIdx_of_lt (by omega)]; omega
  · rw [layV_size, layV_size]; exact hcs
  · rw [flat_erase]
    apply List.ext_getElem?
    intro k
    have hfl : (flat L).length = n * 3 := by rw [flat_len, hn]
    have hnl : news.length = (n - j) * 3 := s1.out
    rw [List.getElem?_take, Array.getElem?_toList, layV_get _ _ _ _ (by rw [layV_size]; simp; omega), layV_get _ _ _ _ (by omega)]
    by_cases hk : k < (n - 1) * 3
    · rw [if_pos hk, if_neg (by omega)]
      by_cases hk2 : k < 3 * i
      · rw [if_neg (by omega), HC.out k (by omega), List.getElem?_append_left (by rw [List.length_take]; omega), List.getElem?_take, if_pos hk2]
      · rw [if_pos (by omega), List.getElem?_append_right (by rw [List.length_take]; omega), hnews, List.length_take]
        congr 1
        omega
    · rw [if_neg hk, List.getElem?_eq_none]
      rw [List.length_append, List.length_take, List.length_drop]
      omega
  · exact (eff_setCells [.int .u32 0, .int .i64 0, .bool false] _ _ HE1.out).mono fun k _ h => by rw [h]; rfl
section
variable {P : Program}
theorem wpList_copy_run (w : World) {ops : Array Oper} {rest : List Oper} {o : Oper} {a : Act} {Q : Exit → Act → World → Prop} (hgd : o.guard = none) (d s : Operand) (t t' : TypeId)
    (ho : o.op = .call { callee := .builtin .copy, args := #[d, s], argTypes := #[t, t'] }) (v u : Value) (hd : a.eval d = v) (hs : a.eval s = u) {v' : Value} {w' : World}
    (hr : (Builtin.copy_ #[t, t'] o.type #[v, u]).run P w = .ok v' w') (h : wpList P ops Q rest (a.put o.dst v') w') : wpList P ops Q (o :: rest) a w :=
  wpList_plain hgd fun _ hK => by
    unfold Oper.wp execOp
    simp only [ho, resolve, invoke, builtin, Sem.run_bind, Sem.run_pure, Result.andThen_ok, List.map_toArray, List.map_cons, List.map_nil, hd, hs, hr]
    exact hK _ _ h
theorem step_copy_run {ops : Array Oper} {o : Oper} {a : Act} {w : World} {K : Act → World → Prop} {Q : Exit → Act → World → Prop} {E : Prop}
    (hg : o.guard = none) (d x : Operand) (dT sT : TypeId) (hop : o.op = Op.call { callee := Callee.builtin Builtin.copy, args := #[d, x], argTypes := #[dT, sT] })
    (v u : Value) (hd : a.eval d = v) (hx : a.eval x = u) {v' : Value} {w' : World} (hr : (Builtin.copy_ #[dT, sT] o.type #[v, u]).run P w = .ok v' w') (hK : K (a.put o.dst v') w') :
    if Region.wanted o (yielded ops a.tmps) = true then Oper.wp P o a w K Q else E := by
  have hw : Region.wanted o (yielded ops a.tmps) = true := by simp [Region.wanted, hg]
  rw [if_pos hw]
  unfold Oper.wp
  simp [execOp, hop, resolve, invoke, builtin, hd, hx, hr, Result.andThen]
  exact hK
/-- copy, whatever the element's size. -/
theorem run_copy_rowK (w : World) (dT sT ty elem : TypeId) (size g o dLen dCap : Nat) (a : Addr) (sLen sCap : Nat) (cur : Array Value) (t : TypeId) (cs : List Value)
    (hu : P.underlying dT = some (.slice elem)) (hs : (P.info? elem).map (·.size) = some size)
    (hg : w.heap[g]? = some (.cells cur t (0, 0))) (hn : cs.length = Nat.min sLen dLen * size)
    (hsrc : ∀ j v, cs[j]? = some v → w.cell? (a.add j) = some v) (hfit : o + cs.length ≤ cur.size) (h1 : ∀ v ∈ cs, v.oneCell' = true) :
    (Builtin.copy_ #[dT, sT] ty #[.slice (some ⟨g, o, none⟩) dLen dCap, .slice (some a) sLen sCap]).run P w =
      .ok (goInt (Nat.min sLen dLen)) (w.setRow g (cur.toList.take o ++ cs ++ cur.toList.drop (o + cs.length)).toArray) := by
  have hl := run_loadCells_list (P := P) w a cs hsrc
  have hst := run_storeCells_at P g o t cs 0 cur w hg (by simpa using hfit) h1
  cases hq : P.info? elem with
  | none => simp [hq] at hs
  | some i =>
    have hi : i.size = size := by simpa [hq] using hs
    simp [Builtin.copy_, run_underlying hu, Builtin.lenOf, Builtin.firstCells, sizeOf, typeInfo, hq, hi, ← hn, hl, hst]
end
/-- A row with one more. -/
def ins (L : List Tk) (i : Nat) (x : Tk) : List Tk := L.take i ++ x :: L.drop i
theorem ins_len (L : List Tk) (i : Nat) (x : Tk) : (ins L i x).length = L.length + 1 := by
  unfold ins
  rw [List.length_append, List.length_cons, List.length_take, List.length_drop]
  omega
theorem ins_end (L : List Tk) (x : Tk) : ins L L.length x = L ++ [x] := by
  unfold ins
  rw [List.take_length, List.drop_length]
theorem flat_ins (L : List Tk) (i : Nat) (x : Tk) : flat (ins L i x) = (flat L).take (3 * i) ++ x.cells ++ (flat L).drop (3 * i) := by
  rw [flat_take, flat_drop]
  unfold ins
  rw [flat_app, show flat (x :: L.drop i) = x.cells ++ flat (L.drop i) from rfl, List.append_assoc]
/-- A part of a list laid anew. -/
def part (R : List Value) (o : Nat) (cs : List Value) : List Value := R.take o ++ cs ++ R.drop (o + cs.length)
theorem part_len (R : List Value) (o : Nat) (cs : List Value) (h : o + cs.length ≤ R.length) : (part R o cs).length = R.length := by
  unfold part
  rw [List.length_append, List.length_append, List.length_take, List.length_drop]
  omega
theorem part_get (R : List Value) (o : Nat) (cs : List Value) (h : o + cs.length ≤ R.length) (k : Nat) : (part R o cs)[k]? = if o ≤ k ∧ k < o + cs.length then cs[k - o]? else R[k]? := by
  unfold part
  by_cases h1 : k < o
  · rw [if_neg (by omega), List.append_assoc, List.getElem?_append_left (by rw [List.length_take]; omega), List.getElem?_take, if_pos h1]
  · by_cases h2 : k < o + cs.length
    · rw [if_pos (by omega), List.getElem?_append_left (by rw [List.length_append, List.length_take]; omega), List.getElem?_append_right (by rw [List.length_take]; omega), List.length_take]
      congr 1
      omega
    · rw [if_neg (by omega), List.getElem?_append_right (by rw [List.length_append, List.length_take]; omega), List.getElem?_drop, List.length_append, List.length_take]
      congr 1
      omega
theorem shift_row (R F : List Value) (X : List Value) (n i : Nat) (hF : F.length = 3 * n) (hX : X.length = 3) (hi : i ≤ n) (hR : 3 * (n + 1) ≤ R.length) (hl : ∀ k, k < 3 * i → R[k]? = F[k]?) :
    (part (part R (3 * (i + 1)) (F.drop (3 * i))) (3 * i) X).take (3 * (n + 1)) = F.take (3 * i) ++ X ++ F.drop (3 * i) := by
  have hd : (F.drop (3 * i)).length = 3 * n - 3 * i := by rw [List.length_drop, hF]
  have h1 : 3 * (i + 1) + (F.drop (3 * i)).length ≤ R.length := by rw [hd]; omega
  apply List.ext_getElem?
  intro k
  rw [List.getElem?_take]
  by_cases hk : k < 3 * (n + 1)
  · rw [if_pos hk, part_get _ _ _ (by rw [part_len _ _ _ h1]; omega), part_get _ _ _ h1]
    by_cases h2 : k < 3 * i
    · rw [if_neg (by omega), if_neg (by omega), hl k h2, List.append_assoc, List.getElem?_append_left (by rw [List.length_take]; omega), List.getElem?_take, if_pos h2]
    · by_cases h3 : k < 3 * i + 3
      · rw [if_pos (by omega), List.getElem?_append_left (by rw [List.length_append, List.length_take]; omega), List.getElem?_append_right (by rw [List.length_take]; omega), List.length_take]
        congr 1
        omega
      · rw [if_neg (by omega), if_pos (by rw [hd]; omega), List.getElem?_append_right (by rw [List.length_append, List.length_take]; omega), List.length_append, List.length_take]
        congr 1
        omega
  · rw [if_neg hk, List.getElem?_eq_none]
    rw [List.length_append, List.length_append, List.length_take, hd]
    omega
theorem grow_row (R F : List Value) (X : List Value) (n i : Nat) (hF : F.length = 3 * n) (hX : X.length = 3) (hi : i ≤ n) (hR : 3 * (n + 1) ≤ R.length) (hl : ∀ k, k < 3 * i → R[k]? = F[k]?) :
    (part (part R (3 * i) X) (3 * (i + 1)) (F.drop (3 * i))).take (3 * (n + 1)) = F.take (3 * i) ++ X ++ F.drop (3 * i) := by
  have hd : (F.drop (3 * i)).length = 3 * n - 3 * i := by rw [List.length_drop, hF]
  have h1 : 3 * i + X.length ≤ R.length := by omega
  apply List.ext_getElem?
  intro k
  rw [List.getElem?_take]
  by_cases hk : k < 3 * (n + 1)
  · rw [if_pos hk, part_get _ _ _ (by rw [part_len _ _ _ h1, hd]; omega), part_get _ _ _ h1]
    by_cases h2 : k < 3 * i
    · rw [if_neg (by omega), if_neg (by omega), hl k h2, List.append_assoc, List.getElem?_append_left (by rw [List.length_take]; omega), List.getElem?_take, if_pos h2]
    · by_cases h3 : k < 3 * i + 3
      · rw [if_neg (by omega), if_pos (by omega), List.getElem?_append_left (by rw [List.length_append, List.length_take]; omega), List.getElem?_append_right (by rw [List.length_take]; omega), List.length_take]
        congr 1
        omega
      · rw [if_pos (by rw [hd]; omega), List.getElem?_append_right (by rw [List.length_append, List.length_take]; omega), List.length_append, List.length_take]
        congr 1
        omega
  · rw [if_neg hk, List.getElem?_eq_none]
    rw [List.length_append, List.length_append, List.length_take, hd]
    omega
theorem one_size : (Try.prog.info? 42).map (·.size) = some 3 := by
  obtain ⟨i, hi, hz, hs⟩ := one_parts
  rw [hi]
  simp [hs]
theorem cells_one (x : Tk) : ∀ u ∈ x.cells, u.oneCell' = true := by
  intro u hu
  simp only [Tk.cells, List.mem_cons, List.not_mem_nil, or_false] at hu
  rcases hu with rfl | rfl | rfl <;> rfl
theorem _root_.Go.Proofs.Ytgofkofkhkpjbaa.Eff.setRow' {S : Nat → Prop} {a b : World} {g : Nat} (h : Eff S a b) (hp : S g) (cs : Array Value) : Eff S a (b.setRow g cs) :=
  ⟨h.os, h.tape, h.output, by simpa [World.setRow] using h.size, fun k hk hn => (setRow_other b g k cs fun e => hn (e ▸ hp)).trans (h.block k hk hn)⟩
section
variable {w : World} {B : Nat} {L : List Tk}
set_option maxRecDepth 1000000 in
set_option maxHeartbeats 4000000 in
theorem ins_shift (g c i V : Nat) (x : Tk) (hi : i < L.length) (hc : L.length + 1 ≤ c) (hn : L.length ≤ 300) (ho : w.ownsRow B 42 3 (.slice (some ⟨g, 0, none⟩) L.length c) L.length (flat L)) (hx : Mem w V 42 x.cells.toArray) (hV : V ≠ g) :
    Calls Try.prog 17 #[.slice (some ⟨g, 0, none⟩) L.length c, .int .i64 (i : Nat), .slice (some ⟨V, 0, none⟩) 1 1] w fun e w' => e = .returned (.slice (some ⟨g, 0, none⟩) (L.length + 1) c) ∧ w'.ownsRow B 42 3 (.slice (some ⟨g, 0, none⟩) (L.length + 1) c) (L.length + 1) (flat (ins L i x)) ∧ Eff (fun k => k = g) w w' := by
  rcases ho.2 with ⟨hv, h0⟩ | ⟨g', cap, cur, hv, hBg, hg, hnc, hcm, hcs, htk⟩
  · cases hv
  simp only [Value.slice.injEq, Option.some.injEq, Addr.mk.injEq, and_true, true_and] at hv
  obtain ⟨rfl, rfl⟩ := hv
  have hfl : (flat L).length = 3 * L.length := by rw [flat_len]; omega
  have hcl : cur.toList.length = c * 3 := by rw [Array.length_toList]; exact hcs
  have hcur : ∀ k, k < L.length * 3 → cur.toList[k]? = (flat L)[k]? := by
    intro k hk
    rw [← htk, List.getElem?_take, if_pos hk]
  have hM1 : ∀ n, Mem (w.drewN n) g 42 cur := fun n => hg
  have hdl : ((flat L).drop (3 * i)).length = (L.length - i) * 3 := by rw [List.length_drop, hfl]; omega
  have hov : ∀ lb cb, (callFunc 21 #[.slice (some ⟨V, 0, none⟩) 1 1, .slice (some ⟨g, (i + 1) * 3, none⟩) lb cb]).run Try.prog w = .ok (.value (.bool false)) w := fun lb cb => by
    rw [run_callFunc_extern (fn := Try.f21) (by kernel_rfl) (by kernel_rfl) (by kernel_rfl) (by kernel_rfl) (e := Extern.SlicesOverlaps.overlaps #[36, 36] #[4]) (by kernel_rfl),
      Lib.run_overlaps_apart w 36 4 42 Try.underlying36 3 (fun w => by kernel_rfl) ⟨V, 0, none⟩ ⟨g, (i + 1) * 3, none⟩ 1 1 lb cb hV 42 42 3 (c * 3) (by unfold World.shape?; rw [hx]; rfl) (by unfold World.shape?; rw [hg]; simp [hcs]) (by omega) (hx.free 0) (hx.free 3)]
    rfl
  obtain ⟨R1, hR1⟩ : ∃ R1, R1 = (part cur.toList (3 * (i + 1)) ((flat L).drop (3 * i))).toArray := ⟨_, rfl⟩
  obtain ⟨R2, hR2⟩ : ∃ R2, R2 = (part R1.toList (3 * i) x.cells).toArray := ⟨_, rfl⟩
  have hR1l : R1.toList.length = c * 3 := by rw [hR1]; show (part cur.toList _ _).length = _; rw [part_len _ _ _ (by rw [hdl, hcl]; omega), hcl]
  have hxl : x.cells.length = 3 := rfl
  have hR2l : R2.toList.length = c * 3 := by rw [hR2]; show (part R1.toList _ _).length = _; rw [part_len _ _ _ (by rw [hxl, hR1l]; omega), hR1l]
  have hcp1 : ∀ ty dc sc, (Builtin.copy_ #[36, 36] ty #[.slice (some ⟨g, (i + 1) * 3, none⟩) (L.length + 1 - (i + 1)) dc, .slice (some ⟨g, i * 3, none⟩) (L.length + 1 - i) sc]).run Try.prog w.drew = .ok (goInt (Nat.min (L.length + 1 - i) (L.length + 1 - (i + 1)))) (w.drew.setRow g R1) := fun ty dc sc => by
    have hmin : Nat.min (L.length + 1 - i) (L.length + 1 - (i + 1)) = L.length - i := by simp only [Nat.min_def]; split <;> omega
    have := run_copy_rowK w.drew 36 36 ty 42 3 g ((i + 1) * 3) (L.length + 1 - (i + 1)) dc ⟨g, i * 3, none⟩ (L.length + 1 - i) sc cur 42 ((flat L).drop (3 * i)) Try.underlying36 one_size hg (by rw [hdl, hmin]) (fun j v hj => by
      rw [add_plain, (show Mem w.drew g 42 cur from hg).cell, ← Array.getElem?_toList, hcur _ (by have := (List.getElem?_eq_some_iff.1 hj).1; rw [hdl] at this; omega), ← hj, List.getElem?_drop]
      congr 1
      omega) (by rw [hdl, hcs]; omega) (fun v hv => flat_one L v (List.mem_of_mem_drop hv))
    rw [this, hR1]
    unfold part
    rw [show (i + 1) * 3 = 3 * (i + 1) by omega]
  have hm1 : ∀ n, Mem ((w.drew.setRow g R1).drewN n) g 42 R1 := fun n => (show Mem w.drew g 42 cur from hg).row R1
  have hx1 : Mem (w.drew.setRow g R1) V 42 x.cells.toArray := (show Mem w.drew V 42 x.cells.toArray from hx).rowFar hV R1
  have hcp2 : ∀ ty dc, (Builtin.copy_ #[36, 36] ty #[.slice (some ⟨g, i * 3, none⟩) (L.length + 1 - i) dc, .slice (some ⟨V, 0, none⟩) 1 1]).run Try.prog (w.drew.setRow g R1) = .ok (goInt (Nat.min 1 (L.length + 1 - i))) ((w.drew.setRow g R1).setRow g R2) := fun ty dc => by
    have hmin : Nat.min 1 (L.length + 1 - i) = 1 := by simp only [Nat.min_def]; split <;> omega
    have := run_copy_rowK (w.drew.setRow g R1) 36 36 ty 42 3 g (i * 3) (L.length + 1 - i) dc ⟨V, 0, none⟩ 1 1 R1 42 x.cells Try.underlying36 one_size (hm1 0) (by rw [hxl, hmin]) (fun j v hj => by
      rw [add_plain, hx1.cell, Nat.zero_add, ← hj]
      simp) (by rw [hxl, ← Array.length_toList, hR1l]; omega) (cells_one x)
    rw [this, hR2]
    unfold part
    rw [show i * 3 = 3 * i by omega]
  have hM2 : Mem ((w.drew.setRow g R1).setRow g R2) g 42 R2 := (hm1 0).row R2
  have hE : Eff (fun k => k = g) w ((w.drew.setRow g R1).setRow g R2) := Eff.setRow' (S := fun k => k = g) (Eff.setRow' (S := fun k => k = g) (show Eff (fun k => k = g) w w.drew from ⟨rfl, rfl, rfl, Nat.le_refl _, fun _ _ _ => rfl⟩) rfl R1) rfl R2
  have hrow : ((w.drew.setRow g R1).setRow g R2).ownsRow B 42 3 (.slice (some ⟨g, 0, none⟩) (L.length + 1) c) (L.length + 1) (flat (ins L i x)) := by
    refine ⟨by rw [flat_len, ins_len], .inr ⟨g, c, R2, rfl, hBg, hM2, hc, hcm, by rw [← Array.length_toList, hR2l], ?_⟩⟩
    rw [flat_ins, hR2, hR1, show (L.length + 1) * 3 = 3 * (L.length + 1) by omega]
    exact shift_row cur.toList (flat L) x.cells L.length i hfl hxl (by omega) (by rw [hcl]; omega) (fun k hk => hcur k (by omega))
  have hz2 : ¬ ((i : Int) = (L.length : Int)) := by omega
  have hb1 : (i : Int) ≤ (L.length : Int) := by omega
  have hcx : ¬ (c : Int) < (L.length : Int) + 1 := by omega
  have hb2 : ¬ (c = i + 1) := by omega
  have hb3 : (i : Int) ≤ (L.length : Int) + 1 := by omega
  have hb5 : (i : Int) + 1 ≤ (L.length : Int) + 1 := by omega
  have hb4 : ¬ (c = i) := by omega
  have HF := Lib.hid (And.intro hE hrow)
  unfold maxLen at hcm
  clear hE hrow hM2 hm1 hx1 hR1 hR2 hR1l hR2l hcur hM1 hcl hfl hcs htk hg ho hdl hBg hx
  generalize L.length = n at *
  go_enter Try.func17, Try.ntmps17
  go_wp2_with (simp only [hov])
  have hw1 : IntKind.i64.wrap ((i : Int) + 1) = (i : Int) + 1 := by rw [IntKind.wrap_i64]; omega
  have hb6 : (0 : Int) ≤ (i : Int) + 1 := by omega
  have htn : ((i : Int) + 1).toNat = i + 1 := by omega
  have mixed : Try.prog.follows Departure.mixedOrders = true := by kernel_rfl
  go_region_law_o (refine step_copy_run rfl _ _ 36 36 rfl (.slice (some ⟨g, (i + 1) * 3, none⟩) (n + 1 - (i + 1)) (c - (i + 1))) (.slice (some ⟨g, i * 3, none⟩) (n + 1 - i) (c - i)) (by simp [Act.eval, Act.put]) (by simp [Act.eval, Act.put]) (hcp1 _ _ _) ?_)
  go_wp2_with (at_builtin; refine wpList_copy_run _ rfl _ _ 36 36 rfl _ _ rfl rfl (hcp2 _ _) ?_)
  go_ret
  exact ⟨rfl, HF.out.2, HF.out.1⟩
set_option maxRecDepth 1000000 in
set_option maxHeartbeats 4000000 in
theorem ins_grow (g c i V : Nat) (x : Tk) (hi : i < L.length) (hc : ¬ L.length + 1 ≤ c) (hn : L.length ≤ 300) (hB : B ≤ w.heap.size) (ho : w.ownsRow B 42 3 (.slice (some ⟨g, 0, none⟩) L.length c) L.length (flat L)) (hx : Mem w V 42 x.cells.toArray) :
    Calls Try.prog 17 #[.slice (some ⟨g, 0, none⟩) L.length c, .int .i64 (i : Nat), .slice (some ⟨V, 0, none⟩) 1 1] w fun e w' => ∃ c', e = .returned (.slice (some ⟨w.heap.size, 0, none⟩) (L.length + 1) c') ∧ w'.ownsRow B 42 3 (.slice (some ⟨w.heap.size, 0, none⟩) (L.length + 1) c') (L.length + 1) (flat (ins L i x)) ∧ Below w.heap.size w w' := by
  rcases ho.2 with ⟨hv, h0⟩ | ⟨g', cap, cur, hv, hBg, hg, hnc, hcm, hcs, htk⟩
  · cases hv
  simp only [Value.slice.injEq, Option.some.injEq, Addr.mk.injEq, and_true, true_and] at hv
  obtain ⟨rfl, rfl⟩ := hv
  have hfl : (flat L).length = 3 * L.length := by rw [flat_len]; omega
  have hglt : g < w.heap.size := (Array.getElem?_eq_some_iff.1 hg).1
  have hVlt : V < w.heap.size := hx.lt
  have hcur : ∀ k, k < L.length * 3 → cur[k]? = (flat L)[k]? := by
    intro k hk
    rw [← htk, List.getElem?_take, if_pos hk, Array.getElem?_toList]
  obtain ⟨i0, hi0, hz0, hz1⟩ := one_parts
  have hby : i0.bytes ≤ 1000 := by
    have : (Try.prog.info? 42).map (fun i => decide (i.bytes ≤ 1000)) = some true := by kernel_rfl
    rw [hi0] at this
    simpa using this
  have hold : (Builtin.firstCells i0.size i (.slice (some ⟨g, 0, none⟩) i c)).run Try.prog w.drew = .ok ((flat L).take (3 * i)).toArray w.drew := by
    rw [hz1]
    exact run_firstCells_some w.drew 3 i ⟨g, 0, none⟩ i c ((flat L).take (3 * i)) (by rw [List.length_take, hfl]; omega) (fun j v hj => by
      rw [add_plain, Nat.zero_add, (show Mem w.drew g 42 cur from hg).cell]
      rw [List.getElem?_take] at hj
      split at hj
      · rw [hcur j (by omega)]; exact hj
      · cases hj)
  have hfit : Builtin.nextslicecap (L.length + 1) c * i0.bytes ≤ 281474976710656 := growslice_fits (by omega) (by
    have : (L.length + 1) * i0.bytes ≤ 301 * 1000 := Nat.mul_le_mul (by omega) hby
    omega)
  obtain ⟨G, hG⟩ : ∃ G, G = grownCap w (L.length + 1) c 42 := ⟨_, rfl⟩
  have hGn : L.length + 1 ≤ G := by rw [hG]; exact grownCap_ge w _ _ _
  have hGm : G ≤ maxLen := by rw [hG]; exact grownCap_le_maxLen w (L.length + 1) c _ (by unfold maxLen; omega)
  obtain ⟨ROW, hROW⟩ : ∃ ROW : Array Value, ROW = ((flat L).take (3 * i)).toArray ++ Builtin.zeroCells (Value.agg #[.int .u32 0, .int .i64 0, .bool false]).cells (L.length + 1 - i) ++ Builtin.zeroCells (Value.agg #[.int .u32 0, .int .i64 0, .bool false]).cells (G - (L.length + 1)) := ⟨_, rfl⟩
  have hzc : ∀ k, (Builtin.zeroCells (Value.agg #[.int .u32 0, .int .i64 0, .bool false]).cells k).size = 3 * k := fun k => by
    simp [Builtin.zeroCells, Value.cells]
    omega
  have hROWs : ROW.size = G * 3 := by
    rw [hROW, Array.size_append, Array.size_append, hzc, hzc, List.size_toArray, List.length_take, hfl]
    omega
  have hrz : ∀ ty, (Builtin.append_ #[36, 3] ty #[.slice (some ⟨g, 0, none⟩) i c, .int .i64 ((L.length : Int) + 1 - (i : Int))]).run Try.prog w = .ok (.slice (some ⟨w.heap.size, 0, none⟩) (L.length + 1) G) (w.drew.alloc (.cells ROW 42)) := fun ty => by
    have h := Lib.run_append_grow_zeros w 36 3 ty 42 i0 _ .i64 .i64 Try.underlying36 Try.underlying3 hi0 hz0 (some ⟨g, 0, none⟩) i c ((flat L).take (3 * i)) hold (L.length + 1 - i) (by omega) (by omega) (by omega) (by omega) (by
      have : (L.length + 1 - i) * i0.bytes ≤ 301 * 1000 := Nat.mul_le_mul (by omega) hby
      omega) (by rw [show i + (L.length + 1 - i) = L.length + 1 by omega]; exact hfit)
    rw [show i + (L.length + 1 - i) = L.length + 1 by omega, ← hG, ← hROW] at h
    rw [show (L.length : Int) + 1 - (i : Int) = ((L.length + 1 - i : Nat) : Int) by omega]
    exact h
  obtain ⟨W1, hW1, hM1, hB1⟩ : ∃ W1, W1 = w.drew.alloc (.cells ROW 42) ∧ Mem W1 w.heap.size 42 ROW ∧ Below w.heap.size w W1 := ⟨_, rfl, Mem.new w.drew _ _, ((Below.refl _ w).drew).alloc (Nat.le_refl _) _⟩
  rw [← hW1] at hrz
  clear hW1 hold hfit hG
  obtain ⟨R1, hR1⟩ : ∃ R1, R1 = (part ROW.toList (3 * i) x.cells).toArray := ⟨_, rfl⟩
  obtain ⟨R2, hR2⟩ : ∃ R2, R2 = (part R1.toList (3 * (i + 1)) ((flat L).drop (3 * i))).toArray := ⟨_, rfl⟩
  have hxl : x.cells.length = 3 := rfl
  have hROWl : ROW.toList.length = G * 3 := by rw [Array.length_toList, hROWs]
  have hdl : ((flat L).drop (3 * i)).length = (L.length - i) * 3 := by rw [List.length_drop, hfl]; omega
  have hR1l : R1.toList.length = G * 3 := by rw [hR1]; show (part ROW.toList _ _).length = _; rw [part_len _ _ _ (by rw [hxl, hROWl]; omega), hROWl]
  have hR2l : R2.toList.length = G * 3 := by rw [hR2]; show (part R1.toList _ _).length = _; rw [part_len _ _ _ (by rw [hdl, hR1l]; omega), hR1l]
  obtain ⟨W2, hW2, hM2, hB2⟩ : ∃ W2, W2 = W1.setRow w.heap.size R1 ∧ Mem W2 w.heap.size 42 R1 ∧ Below w.heap.size w W2 := ⟨_, rfl, hM1.row R1, below_setRow hB1 (Nat.le_refl _) R1⟩
  obtain ⟨W3, hW3, hM3, hB3⟩ : ∃ W3, W3 = W2.drew.setRow w.heap.size R2 ∧ Mem W3 w.heap.size 42 R2 ∧ Below w.heap.size w W3 := ⟨_, rfl, (show Mem W2.drew w.heap.size 42 R1 from hM2).row R2, below_setRow hB2.drew (Nat.le_refl _) R2⟩
  have hcp1 : ∀ ty dc, (Builtin.copy_ #[36, 36] ty #[.slice (some ⟨w.heap.size, i * 3, none⟩) (L.length + 1 - i) dc, .slice (some ⟨V, 0, none⟩) 1 1]).run Try.prog W1 = .ok (goInt (Nat.min 1 (L.length + 1 - i))) W2 := fun ty dc => by
    have hmin : Nat.min 1 (L.length + 1 - i) = 1 := by simp only [Nat.min_def]; split <;> omega
    have := run_copy_rowK W1 36 36 ty 42 3 w.heap.size (i * 3) (L.length + 1 - i) dc ⟨V, 0, none⟩ 1 1 ROW 42 x.cells Try.underlying36 one_size hM1 (by rw [hxl, hmin]) (fun j v hj => by
      rw [add_plain, (hx.below hB1 hVlt).cell, Nat.zero_add, ← hj]
      simp) (by rw [hxl, hROWs]; omega) (cells_one x)
    rw [this, hW2, hR1]
    unfold part
    rw [show i * 3 = 3 * i by omega]
  have hcp2 : ∀ ty dc sc, (Builtin.copy_ #[36, 36] ty #[.slice (some ⟨w.heap.size, (i + 1) * 3, none⟩) (L.length + 1 - (i + 1)) dc, .slice (some ⟨g, i * 3, none⟩) (L.length - i) sc]).run Try.prog W2.drew = .ok (goInt (Nat.min (L.length - i) (L.length + 1 - (i + 1)))) W3 := fun ty dc sc => by
    have hmin : Nat.min (L.length - i) (L.length + 1 - (i + 1)) = L.length - i := by simp only [Nat.min_def]; split <;> omega
    have hmg : Mem W2.drew g 42 cur := Mem.below (w := w) hg hB2.drew hglt
    have := run_copy_rowK W2.drew 36 36 ty 42 3 w.heap.size ((i + 1) * 3) (L.length + 1 - (i + 1)) dc ⟨g, i * 3, none⟩ (L.length - i) sc R1 42 ((flat L).drop (3 * i)) Try.underlying36 one_size hM2 (by rw [hdl, hmin]) (fun j v hj => by
      rw [add_plain, hmg.cell, hcur _ (by have := (List.getElem?_eq_some_iff.1 hj).1; rw [hdl] at this; omega), ← hj, List.getElem?_drop]
      congr 1
      omega) (by rw [hdl, ← Array.length_toList, hR1l]; omega) (fun v hv => flat_one L v (List.mem_of_mem_drop hv))
    rw [this, hW3, hR2]
    unfold part
    rw [show (i + 1) * 3 = 3 * (i + 1) by omega]
  have hrow : W3.ownsRow B 42 3 (.slice (some ⟨w.heap.size, 0, none⟩) (L.length + 1) G) (L.length + 1) (flat (ins L i x)) := by
    refine ⟨by rw [flat_len, ins_len], .inr ⟨w.heap.size, G, R2, rfl, hB, hM3, hGn, hGm, by rw [← Array.length_toList, hR2l], ?_⟩⟩
    rw [flat_ins, hR2, hR1, show (L.length + 1) * 3 = 3 * (L.length + 1) by omega]
    refine grow_row ROW.toList (flat L) x.cells L.length i hfl hxl (by omega) (by rw [hROWl]; omega) (fun k hk => ?_)
    rw [hROW, Array.toList_append, Array.toList_append, List.append_assoc, List.getElem?_append_left (by show k < ((flat L).take (3 * i)).length; rw [List.length_take, hfl]; omega)]
    show ((flat L).take (3 * i))[k]? = _
    rw [List.getElem?_take, if_pos hk]
  have hz2 : ¬ ((i : Int) = (L.length : Int)) := by omega
  have hb1 : (i : Int) ≤ (L.length : Int) := by omega
  have hcx : (c : Int) < (L.length : Int) + 1 := by omega
  have hb3 : (i : Int) ≤ (L.length : Int) + 1 := by omega
  have hb4 : ¬ (c = i) := by omega
  have hG1 : ¬ (G = i) := by omega
  have hG2 : ¬ (G = i + 1) := by omega
  have hic : i ≤ c := by omega
  have HF := Lib.hid (And.intro hB3 hrow)
  unfold maxLen at hcm hGm
  clear hB3 hrow hM3 hM2 hM1 hR1 hR2 hR1l hR2l hcur hfl hcs htk hg ho hdl hBg hx hROW hROWs hROWl hW2 hW3 hB1 hB2 hzc hi0 hz0 hz1 hby hglt hVlt hB
  generalize w.heap.size = S at *
  generalize L.length = n at *
  have hw0 : IntKind.i64.wrap ((n : Int) + 1) = (n : Int) + 1 := by rw [IntKind.wrap_i64]; omega
  have hw2 : IntKind.i64.wrap ((n : Int) + 1 - (i : Int)) = (n : Int) + 1 - (i : Int) := by rw [IntKind.wrap_i64]; omega
  have hw1 : IntKind.i64.wrap ((i : Int) + 1) = (i : Int) + 1 := by rw [IntKind.wrap_i64]; omega
  have hb6 : (0 : Int) ≤ (i : Int) + 1 := by omega
  have htn : ((i : Int) + 1).toNat = i + 1 := by omega
  have mixed : Try.prog.follows Departure.mixedOrders = true := by kernel_rfl
  have hb5 : (i : Int) + 1 ≤ (n : Int) + 1 := by omega
  go_enter Try.func17, Try.ntmps17
  go_wp2_with (first
    | (at_builtin; refine Lib.wpList_append_run _ rfl _ _ _ _ rfl _ _ rfl rfl _ _ (hrz _) ?_)
    | (at_builtin; refine wpList_copy_run _ rfl _ _ 36 36 rfl _ _ rfl rfl (hcp1 _ _) ?_))
  go_region_law_o (refine step_copy_run rfl _ _ 36 36 rfl (.slice (some ⟨S, (i + 1) * 3, none⟩) (n + 1 - (i + 1)) (G - (i + 1))) (.slice (some ⟨g, i * 3, none⟩) (n - i) (c - i)) (by simp [Act.eval, Act.put]) (by simp [Act.eval, Act.put]) (hcp2 _ _ _) ?_)
  go_wp2
  go_ret
  exact ⟨G, rfl, HF.out.2, HF.out.1⟩
end
end Tk
end Go.Proofs.Ytgofkofkhkpjbaa
