/- Package space: Read, Write, Unmap: contracts. -/
import Derived.Test.YtchlfadhlakgkaaSp1
import Derived.Lib.SliceRun
import Derived.Laws.CopyRow
namespace Go.Proofs.Ytchlfadhlakgkaa
open Go.ChangeShapes Go.WideShapes Go.ChangeAt Go.RowKit Go.Lib
set_option linter.unusedVariables false
set_option linter.unusedSimpArgs false
theorem keeps_setRow {w : World} (g : Nat) (cs : Array Value) : Keeps g w (w.setRow g cs) := (Keeps.refl g w).setRow cs
section
variable {P : Program} {w : World} {ops : Array Oper} {rest : List Oper} {o : Oper} {a : Act} {Q : Exit → Act → World → Prop}
/-- copy into a row: what else is as it was. -/
theorem wpList_copy_keep (hgd : o.guard = none) (d s : Operand) (dT sT : TypeId)
    (ho : o.op = .call { callee := .builtin .copy, args := #[d, s], argTypes := #[dT, sT] }) (elem : TypeId) (hu : P.underlying dT = some (.slice elem)) (hsz : (P.info? elem).map (·.size) = some 1)
    (dp sp : Option Addr) (dLen dCap sLen sCap : Nat) (hd : a.eval d = .slice dp dLen dCap) (hs : a.eval s = .slice sp sLen sCap)
    (g off : Nat) (cur : List Value) (t : TypeId) (hg : w.heap[g]? = some (.cells cur.toArray t (0, 0))) (cs : List Value) (hn : cs.length = Nat.min sLen dLen)
    (hpos : 0 < cs.length → dp = some ⟨g, off, none⟩ ∧ ∃ ad, sp = some ad ∧ ∀ j v, cs[j]? = some v → w.cell? (ad.add j) = some v)
    (hfit : off + cs.length ≤ cur.length) (h1 : ∀ v ∈ cs, v.oneCell' = true)
    (h : ∀ w', w'.heap[g]? = some (.cells (splice cur off cs).toArray t (0, 0)) → Keeps g w w' → wpList P ops Q rest (a.put o.dst (goInt cs.length)) w') :
    wpList P ops Q (o :: rest) a w := by
  by_cases h0 : cs.length = 0
  · obtain rfl : cs = [] := List.eq_nil_of_length_eq_zero h0
    refine wpList_copy_nothing hgd d s dT sT ho elem hu hsz dp sp dLen dCap sLen sCap hd hs (by simpa using hn.symm) ?_
    exact h w (show _ = _ by simpa [splice] using hg) (Keeps.refl _ _)
  · obtain ⟨rfl, ad, rfl, hsrc⟩ := hpos (by omega)
    refine wpList_copy_own hgd d s dT sT ho elem hu hsz g off dLen dCap ad sLen sCap hd hs cur.toArray t hg cs hn hsrc (by simpa using hfit) h1 ?_
    exact h _ (show _ = _ by simpa [splice] using setRow_heap w g _ _ t _ hg) (keeps_setRow _ _)
theorem run_clear_row (t e ty : TypeId) (z : Value) (ht : P.underlying t = some (.slice e)) (hv : ∀ w, (zeroValue e).run P w = .ok z w) (hz : z.cells = #[z]) (h1 : z.oneCell' = true) (g off n c : Nat) (cur : List Value) (T : TypeId) (hg : w.heap[g]? = some (.cells cur.toArray T (0, 0))) (hfit : off + n ≤ cur.length) :
    ∃ w', (Builtin.clear_ #[t] ty #[.slice (some ⟨g, off, none⟩) n c]).run P w = .ok (.tuple #[]) w' ∧ w'.heap[g]? = some (.cells (splice cur off (List.replicate n z)).toArray T (0, 0)) ∧ Keeps g w w' := by
  rcases n with _ | n
  · exact ⟨w, by simp [Builtin.clear_, run_underlying ht, hv, storeCells, Builtin.zeroCells], show _ = _ by simpa [splice] using hg, Keeps.refl _ _⟩
  · have hzc : (Builtin.zeroCells z.cells (n + 1)).toList = List.replicate (n + 1) z := by
      rw [hz]
      simp [Builtin.zeroCells]
      apply List.ext_getElem
      · simp
      · intro i h1 h2
        simp [Nat.mod_one]
    have hst := run_storeCells_at P g off T (List.replicate (n + 1) z) 0 cur.toArray w hg (by simpa using hfit) (by intro v hv'; rw [List.eq_of_mem_replicate hv']; exact h1)
    simp only [Nat.add_zero] at hst
    refine ⟨_, ?_, show _ = _ by simpa [splice] using setRow_heap w g _ (cur.toArray.toList.take off ++ List.replicate (n + 1) z ++ cur.toArray.toList.drop (off + (List.replicate (n + 1) z).length)).toArray T _ hg, keeps_setRow _ _⟩
    simp [Builtin.clear_, run_underlying ht, hv, hzc, hst]
theorem wpList_clear_keep (hgd : o.guard = none) (x : Operand) (t : TypeId) (ho : o.op = .call { callee := .builtin .clear, args := #[x], argTypes := #[t] })
    (e : TypeId) (z : Value) (ht : P.underlying t = some (.slice e)) (hv : ∀ w, (zeroValue e).run P w = .ok z w) (hz : z.cells = #[z]) (h1 : z.oneCell' = true) (g off n c : Nat) (hx : a.eval x = .slice (some ⟨g, off, none⟩) n c) (cur : List Value) (T : TypeId) (hg : w.heap[g]? = some (.cells cur.toArray T (0, 0))) (off' : Nat) (hoff : off = off' ∨ n = 0) (hfit : off' + n ≤ cur.length)
    (h : ∀ w', w'.heap[g]? = some (.cells (splice cur off' (List.replicate n z)).toArray T (0, 0)) → Keeps g w w' → wpList P ops Q rest (a.put o.dst (.tuple #[])) w') : wpList P ops Q (o :: rest) a w := by
  have key : ∃ w', (Builtin.clear_ #[t] o.type #[.slice (some ⟨g, off, none⟩) n c]).run P w = .ok (.tuple #[]) w' ∧ w'.heap[g]? = some (.cells (splice cur off' (List.replicate n z)).toArray T (0, 0)) ∧ Keeps g w w' := by
    rcases hoff with rfl | rfl
    · exact run_clear_row t e o.type z ht hv hz h1 g off n c cur T hg hfit
    · exact ⟨w, by simp [Builtin.clear_, run_underlying ht, hv, storeCells, Builtin.zeroCells], show _ = _ by simpa [splice] using hg, Keeps.refl _ _⟩
  obtain ⟨w', hr, h2, h3⟩ := key
  refine wpList_plain hgd fun K hK => ?_
  unfold Oper.wp execOp
  simp only [ho, resolve, invoke, builtin, Sem.run_bind, Sem.run_pure, Result.andThen_ok, List.map_toArray, List.map_cons, List.map_nil, hx, hr]
  exact hK _ _ (h w' h2 h3)
end
theorem zero_u8 (w : World) : (zeroValue 5).run Try.prog w = .ok (.int .u8 0) w := by kernel_rfl
/-- The bytes with a piece laid anew. -/
def laid (D : List UInt8) (a : Nat) (l : List UInt8) : List UInt8 := splice D (a * 8) l
theorem laid_len {D l : List UInt8} {a : Nat} (h : a * 8 + l.length ≤ D.length) : (laid D a l).length = D.length := length_splice _ _ _ h
theorem bs_splice (D l : List UInt8) (off : Nat) : splice (bs D) off (bs l) = bs (splice D off l) := by simp [splice, bs, List.map_take, List.map_drop]
theorem laid_get {D l : List UInt8} {a : Nat} (h : a * 8 + l.length ≤ D.length) (j : Nat) : (laid D a l)[j]? = if a * 8 ≤ j ∧ j < a * 8 + l.length then l[j - a * 8]? else D[j]? := by
  unfold laid splice
  rw [List.getElem?_append]
  rw [List.length_take, Nat.min_eq_left (by omega)]
  by_cases h1 : j < a * 8
  · rw [if_pos h1, if_neg (by omega), List.getElem?_take, if_pos h1]
  · rw [if_neg h1, List.getElem?_append]
    by_cases h2 : j - a * 8 < l.length
    · rw [if_pos h2, if_pos (by omega)]
    · rw [if_neg h2, if_neg (by omega), List.getElem?_drop]
      congr 1
      omega
section
variable {w : World} {B X g h N : Nat} {D M : List UInt8}
/-- The map with a run set, or unset. -/
def runTo (M : List UInt8) (a n : Nat) (set : Bool) (M' : List UInt8) : Prop := M'.length = M.length ∧ ∀ j, bit M' j = if a ≤ j ∧ j < a + n then set else bit M j
theorem far_turn (v : Value) (M : List UInt8) (F N : Nat) (set : Bool) (w : World) (hl : M.length ≤ 1000000) (hd : Sl w w.heap.size v M.length (bs M)) (hF : 8 * M.length ≤ F) : Calls Try.prog 24 #[v, .int .i64 (F : Nat), .int .i64 (N : Nat), .bool set] w fun e w' => e = .returned (.int .i64 0) ∧ w = w' := by
  have hsz := size_any v M w hl hd
  have hFx : ((8 * M.length : Nat) : Int) ≤ (F : Int) := by omega
  go_enter Try.func24, Try.ntmps24
  go_wp2_with (go_at_call 25; (with_reducible refine hsz.mono ?_); rintro e w1 ⟨rfl, rfl⟩)
  go_ret
  exact ⟨rfl, rfl⟩
theorem runTo_none (M : List UInt8) (a : Nat) (set : Bool) : runTo M a 0 set M := ⟨rfl, fun j => by rw [if_neg (by omega)]⟩
theorem mapset_any (a n : Nat) (hn : SpInv w B X g h N D M) (ha : a + n ≤ N) : Calls Try.prog 19 #[.slice (some ⟨h, 0, none⟩) M.length M.length, .int .i64 (a : Nat), .int .i64 (n : Nat)] w fun e w' => ∃ k M', e = .returned (.int .i64 k) ∧ runTo M a n true M' ∧ Mem w' h 5 (bs M').toArray ∧ Keeps h w w' := by
  have hl := hn.lens
  by_cases hF : 8 * M.length ≤ a
  · have ht := far_turn _ M a n true w (by omega) hn.slM hF
    have hl3 := Lib.hid hl.2.2
    go_enter Try.func19, Try.ntmps19
    go_wp2_with (go_at_call 24; (with_reducible refine ht.mono ?_); rintro e w1 ⟨rfl, rfl⟩)
    go_ret
    exact ⟨0, M, rfl, (show n = 0 by have := hl3.out; omega) ▸ runTo_none _ _ _, hn.map, Keeps.refl _ _⟩
  · refine (setk_any B h M.length M a n w w (by omega) (Nat.le_trans hn.bh (Nat.le_of_lt hn.map.lt)) (by omega) (by omega) (own_mem hn.map hn.bh rfl (by unfold maxLen; omega)) hn.bh (Below.refl _ _)).mono ?_
    rintro e w' ⟨rfl, M', h1, h2, h3, h4, h5⟩
    refine ⟨_, M', rfl, ⟨h1, h2⟩, ?_, h5⟩
    exact row_of_own (n := M.length) h3 rfl
theorem mapunset_any (a n : Nat) (hn : SpInv w B X g h N D M) (ha : a + n ≤ N) : Calls Try.prog 20 #[.slice (some ⟨h, 0, none⟩) M.length M.length, .int .i64 (a : Nat), .int .i64 (n : Nat)] w fun e w' => ∃ k M', e = .returned (.int .i64 k) ∧ runTo M a n false M' ∧ Mem w' h 5 (bs M').toArray ∧ Keeps h w w' := by
  have hl := hn.lens
  by_cases hF : 8 * M.length ≤ a
  · have ht := far_turn _ M a n false w (by omega) hn.slM hF
    have hl3 := Lib.hid hl.2.2
    go_enter Try.func20, Try.ntmps20
    go_wp2_with (go_at_call 24; (with_reducible refine ht.mono ?_); rintro e w1 ⟨rfl, rfl⟩)
    go_ret
    exact ⟨0, M, rfl, (show n = 0 by have := hl3.out; omega) ▸ runTo_none _ _ _, hn.map, Keeps.refl _ _⟩
  · refine (unsetk_any B h M.length M a n w w (by omega) (Nat.le_trans hn.bh (Nat.le_of_lt hn.map.lt)) (by omega) (by omega) (own_mem hn.map hn.bh rfl (by unfold maxLen; omega)) hn.bh (Below.refl _ _)).mono ?_
    rintro e w' ⟨rfl, M', h1, h2, h3, h4, h5⟩
    refine ⟨_, M', rfl, ⟨h1, h2⟩, ?_, h5⟩
    exact row_of_own (n := M.length) h3 rfl
end
end Go.Proofs.Ytchlfadhlakgkaa
