/- Package resv: a table in memory; its small functions. -/
import Derived.Test.YtflodljccloobaaMm
import Derived.Test.YtflodljccloobaaCalmK
import Derived.Deep.MidRow
import Derived.Lib.Hide
namespace Go.Proofs.Ytflodljccloobaa
open Go.ChangeShapes Go.WideShapes Go.ChangeAt Go.RowKit Go.Lib
set_option linter.unusedVariables false
set_option linter.unusedSimpArgs false
namespace Rv
section
variable {P : Program}
theorem results_cell1 {fn : Func} {p : Tmp} {ty : TypeId} (h : fn.results = #[.cell p ty]) (tmps : Array Value) (w : World) (g : Nat) (t : TypeId) (cs : Array Value) (fr : Nat × Nat) (d : TypeDesc)
    (hp : tmps.getD p undef = .pointer (some ⟨g, 0, none⟩)) (hg : w.heap[g]? = some (.cells cs t fr))
    (hu : P.underlying ty = some d) (hd : (match d with | .struct _ | .array _ _ => true | _ => false) = true) (hi : (P.info? ty).map (·.size) = some cs.size) :
    (results fn tmps).run P w = .ok (.agg cs) w := by
  have hp' : tmps[p]?.getD undef = .pointer (some ⟨g, 0, none⟩) := by simpa using hp
  simp [results, h, hp', asAddr, run_loadVar_row w g t ty cs fr d hg hu hd hi]
theorem results_cell2 {fn : Func} {p a : Tmp} {ty : TypeId} (h : fn.results = #[.cell p ty, .tmp a]) (tmps : Array Value) (w : World) (g : Nat) (t : TypeId) (cs : Array Value) (fr : Nat × Nat) (d : TypeDesc)
    (hp : tmps.getD p undef = .pointer (some ⟨g, 0, none⟩)) (hg : w.heap[g]? = some (.cells cs t fr))
    (hu : P.underlying ty = some d) (hd : (match d with | .struct _ | .array _ _ => true | _ => false) = true) (hi : (P.info? ty).map (·.size) = some cs.size) :
    (results fn tmps).run P w = .ok (.tuple #[.agg cs, tmps.getD a undef]) w := by
  have hp' : tmps[p]?.getD undef = .pointer (some ⟨g, 0, none⟩) := by simpa using hp
  simp [results, h, hp', asAddr, run_loadVar_row w g t ty cs fr d hg hu hd hi]
end
/-- A table's state. -/
structure RT where
  keys : List Nat
  holder : Int
  typ : Nat
  gen : Nat
def kus (L : List Nat) : List Value := L.map fun k => Value.int .u64 (k : Nat)
theorem kus_get (L : List Nat) (i : Nat) : (kus L)[i]? = L[i]?.map fun k => Value.int .u64 (k : Nat) := by unfold kus; rw [List.getElem?_map]
def RT.row (t : RT) : Array Value := (kus t.keys ++ ([.int .i64 t.holder, .int .i64 (t.typ : Nat), .int .u32 (t.gen : Nat)] : List Value)).toArray
/-- A table in block Y. -/
structure TabM (w : World) (Y : Nat) (t : RT) : Prop where
  mem : Mem w Y 94 t.row
  len : t.keys.length = 8
/-- A reply of three numbers. -/
def rep (s k c : Int) : Value := .agg #[.int .i64 s, .int .i64 k, .int .i64 c, .slice none 0 0, .int .i64 0]
section
variable {w w' : World} {Y : Nat} {t : RT}
theorem TabM.below (h : TabM w Y t) (hb : Below w.heap.size w w') : TabM w' Y t := ⟨h.mem.below hb h.mem.lt, h.len⟩
theorem TabM.key (h : TabM w Y t) (i : Nat) (hi : i < 8) : w.cell? ⟨Y, i, none⟩ = some (.int .u64 ((t.keys[i]?.getD 0 : Nat) : Int)) := by
  have hl := h.len
  rw [h.mem.cell i]
  unfold RT.row
  rw [List.getElem?_toArray, List.getElem?_append_left (by simp [kus]; omega), kus_get, List.getElem?_eq_getElem (by omega)]
  rfl
theorem TabM.c8 (h : TabM w Y t) : w.cell? ⟨Y, 8, none⟩ = some (.int .i64 t.holder) := by
  have hl := h.len
  rw [h.mem.cell 8]
  unfold RT.row
  rw [List.getElem?_toArray, List.getElem?_append_right (by simp [kus]; omega), show 8 - (kus t.keys).length = 0 by simp [kus]; omega]
  rfl
theorem TabM.c9 (h : TabM w Y t) : w.cell? ⟨Y, 9, none⟩ = some (.int .i64 (t.typ : Nat)) := by
  have hl := h.len
  rw [h.mem.cell 9]
  unfold RT.row
  rw [List.getElem?_toArray, List.getElem?_append_right (by simp [kus]; omega), show 9 - (kus t.keys).length = 1 by simp [kus]; omega]
  rfl
theorem TabM.c10 (h : TabM w Y t) : w.cell? ⟨Y, 10, none⟩ = some (.int .u32 (t.gen : Nat)) := by
  have hl := h.len
  rw [h.mem.cell 10]
  unfold RT.row
  rw [List.getElem?_toArray, List.getElem?_append_right (by simp [kus]; omega), show 10 - (kus t.keys).length = 2 by simp [kus]; omega]
  rfl
theorem set_row (L : List Value) (x : List Value) (i : Nat) (u : Value) : (L ++ x).toArray.setIfInBounds i u = ((L ++ x).set i u).toArray := List.setIfInBounds_toArray ..
theorem TabM.setKey (h : TabM w Y t) (i k : Nat) (hi : i < 8) : TabM (w.setCell ⟨Y, i, none⟩ (.int .u64 (k : Nat))) Y { t with keys := t.keys.set i k } := by
  have hl := h.len
  refine ⟨?_, by simp [hl]⟩
  have := h.mem.put i (.int .u64 (k : Nat))
  unfold RT.row at this
  rw [set_row, List.set_append_left _ _ (by simp [kus]; omega)] at this
  have e : (kus t.keys).set i (.int .u64 (k : Nat)) = kus (t.keys.set i k) := by unfold kus; rw [List.map_set]
  rw [e] at this
  exact this
theorem TabM.setHolder (h : TabM w Y t) (x : Int) : TabM (w.setCell ⟨Y, 8, none⟩ (.int .i64 x)) Y { t with holder := x } := by
  have hl := h.len
  refine ⟨?_, hl⟩
  have := h.mem.put 8 (.int .i64 x)
  unfold RT.row at this
  rw [set_row, List.set_append_right _ _ (by simp [kus]; omega), show 8 - (kus t.keys).length = 0 by simp [kus]; omega] at this
  exact this
theorem TabM.setTyp (h : TabM w Y t) (x : Nat) : TabM (w.setCell ⟨Y, 9, none⟩ (.int .i64 (x : Nat))) Y { t with typ := x } := by
  have hl := h.len
  refine ⟨?_, hl⟩
  have := h.mem.put 9 (.int .i64 (x : Nat))
  unfold RT.row at this
  rw [set_row, List.set_append_right _ _ (by simp [kus]; omega), show 9 - (kus t.keys).length = 1 by simp [kus]; omega] at this
  exact this
theorem TabM.setGen (h : TabM w Y t) (x : Nat) : TabM (w.setCell ⟨Y, 10, none⟩ (.int .u32 (x : Nat))) Y { t with gen := x } := by
  have hl := h.len
  refine ⟨?_, hl⟩
  have := h.mem.put 10 (.int .u32 (x : Nat))
  unfold RT.row at this
  rw [set_row, List.set_append_right _ _ (by simp [kus]; omega), show 10 - (kus t.keys).length = 2 by simp [kus]; omega] at this
  exact this
theorem isHost_any (i : Int) (w : World) : Calls Try.prog 50 #[.int .i64 i] w fun e w' => e = .returned (.bool (decide (0 ≤ i ∧ i < 8))) ∧ w = w' := by
  by_cases h0 : 0 ≤ i
  · by_cases h8 : i < 8
    · rw [decide_eq_true ⟨h0, h8⟩]
      go_enter Try.func50, Try.ntmps50
      go_wp2
      go_ret
      exact ⟨rfl, rfl⟩
    · rw [decide_eq_false (fun h => h8 h.2)]
      go_enter Try.func50, Try.ntmps50
      go_wp2
      go_ret
      exact ⟨rfl, rfl⟩
  · rw [decide_eq_false (fun h => h0 h.1)]
    go_enter Try.func50, Try.ntmps50
    go_wp2
    go_ret
    exact ⟨rfl, rfl⟩
def tyOk (y : Int) : Prop := y = 1 ∨ y = 3 ∨ y = 5 ∨ y = 6
theorem isType_yes (y : Int) (h : tyOk y) (w : World) : Calls Try.prog 62 #[.int .i64 y] w fun e w' => e = .returned (.bool true) ∧ w = w' := by
  rcases h with rfl | rfl | rfl | rfl
  all_goals
    go_enter Try.func62, Try.ntmps62
    go_wp2
    go_ret
    exact ⟨rfl, rfl⟩
theorem shared_any (y : Int) (w : World) : Calls Try.prog 29 #[.int .i64 y] w fun e w' => e = .returned (.bool (decide (y = 5 ∨ y = 6))) ∧ w = w' := by
  by_cases h5 : y = 5
  · subst h5
    go_enter Try.func29, Try.ntmps29
    go_wp2
    go_ret
    exact ⟨rfl, rfl⟩
  · by_cases h6 : y = 6
    · subst h6
      go_enter Try.func29, Try.ntmps29
      go_wp2
      go_ret
      exact ⟨rfl, rfl⟩
    · have h55 : (y == 5) = false := by simpa using h5
      have h66 : (y == 6) = false := by simpa using h6
      rw [decide_eq_false (fun h => h.elim h5 h6)]
      go_enter Try.func29, Try.ntmps29
      go_wp2
      go_ret
      exact ⟨rfl, rfl⟩
theorem wrong_any (c : Int) (w : World) : Calls Try.prog 57 #[.int .i64 c] w fun e w' => e = .returned (rep 2 5 c) ∧ Below w.heap.size w w' := by
  go_enter Try.func57, Try.ntmps57
  go_wp2
  refine bodyPost_ret ((results_cell1 (p := 2) (ty := 31) rfl _ _ w.heap.size 31 #[Value.int .i64 2, .int .i64 5, .int .i64 c, .slice none 0 0, .int .i64 0] (0, 0) _ rfl (heap_alloc_new w _) Try.underlying31 rfl (by kernel_rfl)).trans rfl) rfl ⟨rfl, (Below.refl _ w).alloc (Nat.le_refl _) _⟩
theorem good_any (w : World) : Calls Try.prog 59 #[] w fun e w' => e = .returned (rep 0 0 0) ∧ Below w.heap.size w w' := by
  go_enter Try.func59, Try.ntmps59
  go_wp2
  refine bodyPost_ret ((results_cell1 (p := 0) (ty := 31) rfl _ _ w.heap.size 31 #[Value.int .i64 0, .int .i64 0, .int .i64 0, .slice none 0 0, .int .i64 0] (0, 0) _ rfl (heap_alloc_new w _) Try.underlying31 rfl (by kernel_rfl)).trans rfl) rfl ⟨rfl, (Below.refl _ w).alloc (Nat.le_refl _) _⟩
theorem conflict_any (w : World) : Calls Try.prog 58 #[] w fun e w' => e = .returned (rep 24 0 0) ∧ Below w.heap.size w w' := by
  go_enter Try.func58, Try.ntmps58
  go_wp2
  refine bodyPost_ret ((results_cell1 (p := 0) (ty := 31) rfl _ _ w.heap.size 31 #[Value.int .i64 24, .int .i64 0, .int .i64 0, .slice none 0 0, .int .i64 0] (0, 0) _ rfl (heap_alloc_new w _) Try.underlying31 rfl (by kernel_rfl)).trans rfl) rfl ⟨rfl, (Below.refl _ w).alloc (Nat.le_refl _) _⟩
def RT.zero : RT := ⟨List.replicate 8 0, -1, 0, 0⟩
theorem new_any (w : World) : Calls Try.prog 16 #[] w fun e w' => ∃ Y, e = .returned (.pointer (some ⟨Y, 0, none⟩)) ∧ w.heap.size ≤ Y ∧ TabM w' Y RT.zero ∧ Below w.heap.size w w' := by
  go_enter Try.func16, Try.ntmps16
  go_wp2
  go_ret
  exact ⟨w.heap.size, rfl, Nat.le_refl _, ⟨Mem.new w _ _, rfl⟩, (Below.refl _ w).alloc (Nat.le_refl _) _⟩
end
end Rv
end Go.Proofs.Ytflodljccloobaa
