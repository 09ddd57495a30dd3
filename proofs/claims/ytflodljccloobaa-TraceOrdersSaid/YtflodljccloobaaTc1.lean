/- Package trace: maps by names (host and id) to places: look-up and store, whatever the map. -/
import Derived.Test.YtflodljccloobaaMm
import Derived.WideKeyMaps2
import Derived.DeepKeys4
import Derived.Carry
namespace Go.Proofs.Ytflodljccloobaa
open Go.ChangeShapes Go.WideShapes Go.ChangeAt Go.RowKit Go.Lib Go.WideMaps
open Go.ChangeMaps (setBlock heap_setBlock_same heap_setBlock_other)
set_option linter.unusedVariables false
set_option linter.unusedSimpArgs false
set_option maxRecDepth 100000
namespace Tc
theorem laidOut : laidOutB Try.prog = true := by kernel_rfl
/-- A name as a key. -/
def nk (h : Int) (i : Nat) : Value := .agg #[.int .i64 h, .int .u64 (i : Int)]
theorem law : KeyLaw Try.prog 54 := deep_law_laid laidOut (m := 2) (by omega) (of_decide_eq_true (by kernel_rfl)) (by kernel_rfl) (by rw [Try.underlying54])
/-- Numbers that fit. -/
def NOk (h : Int) (i : Nat) : Prop := -9223372036854775808 ≤ h ∧ h ≤ 9223372036854775807 ∧ i ≤ 18446744073709551615
theorem nk_key {h : Int} {i : Nat} (hk : NOk h i) : ∃ l, keyOf Try.prog 54 (nk h i) = some l := by
  obtain ⟨h1, h2, h3⟩ := hk
  have w1 : (Lit.int .i64 h).wf = true := by simp [Lit.wf, IntKind.min, IntKind.max, IntKind.signed, IntKind.bits]; omega
  have w2 : (Lit.int .u64 (i : Int)).wf = true := by simp [Lit.wf, IntKind.min, IntKind.max, IntKind.signed, IntKind.bits]; omega
  unfold keyOf
  rw [Try.underlying54]
  have e1 : Try.prog.keyType 54 = true := by kernel_rfl
  have e2 : (nk h i).formed Try.prog 54 = true := by
    have e3 : Try.prog.cellsOf 54 = 2 := by kernel_rfl
    simp [nk, Value.formed, Try.underlying54, e3]
  simp only [e1, e2, Bool.and_self, if_true]
  obtain ⟨d, hd⟩ : ∃ d, Try.prog.types.size = d + 1 := ⟨Try.prog.types.size - 1, by have : 0 < Try.prog.types.size := of_decide_eq_true (by kernel_rfl); omega⟩
  have e3 : Try.prog.cellsOf 54 = 2 := by kernel_rfl
  have e4 : Try.prog.cellsOf 3 = 1 := by kernel_rfl
  have e5 : Try.prog.cellsOf 24 = 1 := by kernel_rfl
  have k1 : Try.prog.keyLits (d + 1) 3 [.int .i64 h] = some [.int .i64 h] := by
    unfold Program.keyLits
    rw [Try.underlying3]
    simp [w1]
  have k2 : Try.prog.keyLits (d + 1) 24 [.int .u64 (i : Int)] = some [.int .u64 (i : Int)] := by
    unfold Program.keyLits
    rw [Try.underlying24]
    simp [w2]
  have k3 : ∃ ls, Try.prog.keyLits (d + 1 + 1) 54 [.int .i64 h, .int .u64 (i : Int)] = some ls := by
    unfold Program.keyLits
    rw [Try.underlying54]
    simp [e3, e4, e5, k1, k2]
  obtain ⟨ls, hls⟩ := k3
  rw [hd]
  exact ⟨_, by rw [show (nk h i).cells.toList = [.int .i64 h, .int .u64 (i : Int)] from rfl, hls]; rfl⟩
theorem nk_inj {h h' : Int} {i i' : Nat} (e : nk h i = nk h' i') : h = h' ∧ i = i' := by
  unfold nk at e
  simp only [Value.agg.injEq] at e
  have e' := congrArg Array.toList e
  simp only [List.cons.injEq, Value.int.injEq, true_and, and_true] at e'
  omega
abbrev NM := (Int × Nat) × Nat
/-- The map in block r: E its entries, a name and a place each. -/
structure MapAt (w : World) (r : Nat) (E : List NM) : Prop where
  is : ∃ (es : Array MapEntry) (clock : Nat), w.heap[r]? = some (.map es clock) ∧ es.toList.map (fun e => (e.key, e.val)) = E.map fun p => (nk p.1.1 p.1.2, Value.int .i64 (p.2 : Int))
  ok : ∀ p ∈ E, NOk p.1.1 p.1.2
section
variable {w w' : World} {r : Nat} {E : List NM}
theorem MapAt.lt (m : MapAt w r E) : r < w.heap.size := by
  obtain ⟨es, c, h, _⟩ := m.is
  exact (Array.getElem?_eq_some_iff.1 h).1
theorem MapAt.eff {S : Nat → Prop} (m : MapAt w r E) (he : Eff S w w') (hn : ¬ S r) : MapAt w' r E := by
  obtain ⟨es, c, h, e⟩ := m.is
  exact ⟨⟨es, c, (he.block r m.lt hn).trans h, e⟩, m.ok⟩
theorem MapAt.below (m : MapAt w r E) (hb : Below w.heap.size w w') : MapAt w' r E := m.eff (S := fun _ => False) (Eff.of hb) (fun h => h)
theorem MapAt.keys {es : Array MapEntry} (e : es.toList.map (fun e => (e.key, e.val)) = E.map fun p => (nk p.1.1 p.1.2, Value.int .i64 (p.2 : Int))) (ok : ∀ p ∈ E, NOk p.1.1 p.1.2) : ∀ x ∈ es.toList, ∃ l, keyOf Try.prog 54 x.key = some l := by
  intro x hx
  have h1 : (x.key, x.val) ∈ es.toList.map (fun e => (e.key, e.val)) := List.mem_map.2 ⟨x, hx, rfl⟩
  rw [e] at h1
  obtain ⟨p, hp, h2⟩ := List.mem_map.1 h1
  obtain ⟨h3, -⟩ := Prod.mk.inj h2
  rw [← h3]
  exact nk_key (ok p hp)
theorem zero_int (w : World) : (zeroValue 3).run Try.prog w = .ok (.int .i64 0) w := by kernel_rfl
/-- A look-up. -/
theorem look (m : MapAt w r E) {h : Int} {i : Nat} (hk : NOk h i) :
    (∃ v : Nat, ((h, i), v) ∈ E ∧ (Instr.lookup 47 (.map (some r)) (nk h i) true).run Try.prog w = .ok (.tuple #[.int .i64 (v : Int), .bool true]) w)
    ∨ ((∀ p ∈ E, p.1 ≠ (h, i)) ∧ (Instr.lookup 47 (.map (some r)) (nk h i) true).run Try.prog w = .ok (.tuple #[.int .i64 0, .bool false]) w) := by
  obtain ⟨es, clock, hb, e⟩ := m.is
  obtain ⟨l, hl⟩ := nk_key hk
  have ht := Try.underlying47
  rcases law.find w hl es.toList (MapAt.keys e m.ok) with ⟨h1, h2⟩ | ⟨j, x, h1, h2, h3⟩
  · refine .inr ⟨fun p hp hq => ?_, by simp [Instr.lookup, run_underlying ht, MapKept.run_getObj_map hb, law.check w _ hl, h1, zero_int, Result.andThen]⟩
    have h4 : (nk p.1.1 p.1.2, Value.int .i64 (p.2 : Int)) ∈ es.toList.map (fun e => (e.key, e.val)) := by rw [e]; exact List.mem_map.2 ⟨p, hp, rfl⟩
    obtain ⟨x, hx, h5⟩ := List.mem_map.1 h4
    obtain ⟨h6, -⟩ := Prod.mk.inj h5
    exact h2 x hx (by rw [h6, hq])
  · have h4 : (x.key, x.val) ∈ es.toList.map (fun e => (e.key, e.val)) := List.mem_map.2 ⟨x, List.mem_of_getElem? h2, rfl⟩
    rw [e] at h4
    obtain ⟨p, hp, h5⟩ := List.mem_map.1 h4
    obtain ⟨h6, h7⟩ := Prod.mk.inj h5
    rw [h3] at h6
    obtain ⟨h8, h9⟩ := nk_inj h6
    refine .inl ⟨p.2, ?_, by simp [Instr.lookup, run_underlying ht, MapKept.run_getObj_map hb, law.check w _ hl, h1, ← h7, Result.andThen]⟩
    rw [← h8, ← h9]
    exact hp
/-- A name that is new is put behind the others. -/
theorem store_new (m : MapAt w r E) {h : Int} {i : Nat} (hk : NOk h i) (hn : ∀ p ∈ E, p.1 ≠ (h, i)) (v : Nat) :
    ∃ w', (Instr.mapUpdate 47 (.map (some r)) (nk h i) (.int .i64 (v : Int))).run Try.prog w = .ok () w' ∧ MapAt w' r (E ++ [((h, i), v)]) ∧ Eff (fun q => q = r) w w' := by
  obtain ⟨es, clock, hb, e⟩ := m.is
  obtain ⟨l, hl⟩ := nk_key hk
  have ht := Try.underlying47
  rcases law.find w hl es.toList (MapAt.keys e m.ok) with ⟨h1, h2⟩ | ⟨j, x, h1, h2, h3⟩
  · refine ⟨setBlock w r (.map (es.push ⟨nk h i, .int .i64 (v : Int), clock⟩) (clock + 1)), by simp [Instr.mapUpdate, run_underlying ht, MapKept.run_getObj_map hb, law.check w false hl, h1, MapKept.run_setObj_map _ hb, Result.andThen, setBlock], ⟨⟨_, _, heap_setBlock_same hb _, ?_⟩, ?_⟩, ?_⟩
    · rw [Array.toList_push, List.map_append, e, List.map_append]
      rfl
    · intro p hp
      rcases List.mem_append.1 hp with h | h
      · exact m.ok p h
      · obtain rfl := List.mem_singleton.1 h
        exact hk
    · exact ⟨rfl, rfl, rfl, by simp [setBlock], fun k hk hq => heap_setBlock_other hb _ hq⟩
  · exfalso
    have h4 : (x.key, x.val) ∈ es.toList.map (fun e => (e.key, e.val)) := List.mem_map.2 ⟨x, List.mem_of_getElem? h2, rfl⟩
    rw [e] at h4
    obtain ⟨p, hp, h5⟩ := List.mem_map.1 h4
    obtain ⟨h6, -⟩ := Prod.mk.inj h5
    rw [h3] at h6
    obtain ⟨h8, h9⟩ := nk_inj h6
    exact hn p hp (by rw [← h8, ← h9])
end
end Tc
end Go.Proofs.Ytflodljccloobaa
