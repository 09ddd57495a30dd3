/- Acts that are handed in (witness.Reg): a slice of structs of 3 cells. Written by tools/gen-acts.py. -/
import Derived.Test.YtccknplmcnahbaaWt5
import Derived.Test.YtccknplmcnahbaaBase2
namespace Go.Proofs.Ytccknplmcnahbaa
open Go.ChangeShapes Go.WideShapes Go.ChangeAt Go.RowKit Go.Deep Go.Lib
set_option linter.unusedVariables false
set_option maxRecDepth 100000
structure Rg where
  e : Nat
  p : Int
  m : Int
def I64 (n : Int) : Prop := -9223372036854775808 ≤ n ∧ n ≤ 9223372036854775807
structure ActOk (w : World) (B : Nat) (a : Rg) : Prop where
  e : a.e ≤ 18446744073709551615
  p : I64 a.p
  m : I64 a.m
section
variable {H : Type} {enc : TypeId × Value → H}
theorem cell_int9 {P : Program} {w : World} {t : TypeId} {k : IntKind} {fuel : Nat} {c : Value} {y : Option (DataW H × List MemPlace)} {x : DataW H × List MemPlace} (ht : P.underlying t = some (.int k)) {cs : List Value} (he : cs.take (P.cellsOf t) = [c]) (hy : y = some x)
    (h : DataW.trod enc P w 0 (fun _ => true) true fuel t (cs.take (P.cellsOf t)) = y) : ∃ n, c = .int k n ∧ (Lit.int k n).wf = true := by
  rw [he, hy] at h
  obtain ⟨n, h1, _, h3⟩ := DataW.trod_int ht h
  exact ⟨n, by simpa using h1, h3⟩
theorem listN {α : Type} (l : List α) (h : l.length = 3) : ∃ c0 c1 c2, l = [c0, c1, c2] := by
  match l, h with
  | [c0, c1, c2], _ => exact ⟨c0, c1, c2, rfl⟩
theorem open_act {W : World} {fuel : Nat} {cs : List Value} {x : DataW H × List MemPlace} (hl : cs.length = 3) (hf : DataW.trod enc Try.prog W 0 (fun _ => true) true fuel 24 cs = some x) :
    ∃ a : Rg, cs = [.int .u64 (a.e : Nat), .int .i64 a.p, .int .i64 a.m] ∧ ActOk W W.heap.size a := by
  obtain ⟨xs, n, _, _, _, hxl, hfs⟩ := DataW.trod_struct Try.underlying24 hf
  obtain ⟨c0, c1, c2, rfl⟩ := listN cs hl
  have hx : ∀ i, i < 3 → ∃ y, xs[i]? = some y := fun i hi => ⟨xs[i]'(by rw [hxl]; exact hi), List.getElem?_eq_getElem _⟩
  obtain ⟨y0, hy0⟩ := hx 0 (by omega)
  obtain ⟨n0, rfl, w0⟩ := cell_int9 Try.underlying22 (c := c0) rfl hy0 (hfs 0 _ rfl)
  have b0 := bounds_u64 w0
  obtain ⟨m0, rfl, q0⟩ : ∃ m : Nat, n0 = (m : Nat) ∧ m ≤ 18446744073709551615 := ⟨n0.toNat, by omega, by omega⟩
  obtain ⟨y1, hy1⟩ := hx 1 (by omega)
  obtain ⟨n1, rfl, w1⟩ := cell_int9 Try.underlying3 (c := c1) rfl hy1 (hfs 1 _ rfl)
  obtain ⟨y2, hy2⟩ := hx 2 (by omega)
  obtain ⟨n2, rfl, w2⟩ := cell_int9 Try.underlying3 (c := c2) rfl hy2 (hfs 2 _ rfl)
  exact ⟨⟨m0, n1, n2⟩, rfl, ⟨q0, bounds_i64 w1, bounds_i64 w2⟩⟩
theorem open_one {W : World} {base : Nat} {v : Value} {d : DataW H} {ps : List MemPlace}
    (hval : Value.okWide Try.prog W .any base 24 v) (h : DataW.Trod enc Try.prog W 0 (fun _ => true) true 24 v d ps) :
    ∃ a : Rg, v = .agg #[.int .u64 (a.e : Nat), .int .i64 a.p, .int .i64 a.m] ∧ ActOk W W.heap.size a := by
  obtain ⟨ca, rfl, hsz⟩ := okWide_struct Try.underlying24 hval
  obtain ⟨fuel, hf⟩ := h
  obtain ⟨a, hca, hok⟩ := open_act (cs := ca.toList) (by rw [Array.length_toList, hsz]; kernel_rfl) hf
  exact ⟨a, by rw [show ca = ca.toList.toArray from by simp, hca], hok⟩
end
end Go.Proofs.Ytccknplmcnahbaa
