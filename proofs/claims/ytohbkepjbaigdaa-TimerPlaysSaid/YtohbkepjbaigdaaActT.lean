/- Acts that are handed in: a slice of structs of three numbers. -/
import Derived.Test.YtohbkepjbaigdaaTr6
import Derived.Test.YtohbkepjbaigdaaBase2
namespace Go.Proofs.Ytohbkepjbaigdaa
open Go.ChangeShapes Go.WideShapes Go.ChangeAt Go.RowKit Go.Deep Go.Lib
set_option linter.unusedVariables false
structure Act10 where
  op : Int
  id : Int
  n : Int
def I64 (n : Int) : Prop := -9223372036854775808 ≤ n ∧ n ≤ 9223372036854775807
structure ActOk (a : Act10) : Prop where
  op : I64 a.op
  id : I64 a.id
  n : I64 a.n
/-- The slice v shows these acts, in blocks below B. -/
def Acts (w : World) (B : Nat) (v : Value) (acs : List Act10) : Prop :=
  ∃ A c, v = .slice A acs.length c ∧ acs.length ≤ c ∧ c ≤ maxLen ∧ (∀ a ∈ acs, ActOk a) ∧
    (acs ≠ [] → ∃ b off, A = some ⟨b, off, none⟩ ∧ b < B ∧ ∀ j a, acs[j]? = some a → w.cell? ⟨b, off + j * 3, none⟩ = some (.int .i64 a.op) ∧ w.cell? ⟨b, off + j * 3 + 1, none⟩ = some (.int .i64 a.id) ∧ w.cell? ⟨b, off + j * 3 + 2, none⟩ = some (.int .i64 a.n))
theorem Acts.below {w w' : World} {B : Nat} {v : Value} {acs : List Act10} (h : Acts w B v acs) (hb : Below B w w') : Acts w' B v acs := by
  obtain ⟨A, c, e, h1, h2, h3, h4⟩ := h
  refine ⟨A, c, e, h1, h2, h3, fun hx => ?_⟩
  obtain ⟨b, off, ea, hlt, hc⟩ := h4 hx
  exact ⟨b, off, ea, hlt, fun j p hp => ⟨(hb.cell (p := ⟨b, _, none⟩) hlt).trans (hc j p hp).1, (hb.cell (p := ⟨b, _, none⟩) hlt).trans (hc j p hp).2.1, (hb.cell (p := ⟨b, _, none⟩) hlt).trans (hc j p hp).2.2⟩⟩
theorem Acts.form {w : World} {B : Nat} {v : Value} {acs : List Act10} (h : Acts w B v acs) : ∃ A c, v = .slice A acs.length c ∧ acs.length ≤ c ∧ c ≤ maxLen := by
  obtain ⟨A, c, e, h1, h2, _⟩ := h
  exact ⟨A, c, e, h1, h2⟩
theorem Acts.ok {w : World} {B : Nat} {v : Value} {acs : List Act10} (h : Acts w B v acs) : ∀ a ∈ acs, ActOk a := by
  obtain ⟨A, c, e, h1, h2, h3, _⟩ := h
  exact h3
theorem Acts.at_ {w : World} {B : Nat} {A : Option Addr} {c : Nat} {acs : List Act10} (h : Acts w B (.slice A acs.length c) acs) {j : Nat} (hj : j < acs.length) :
    ∃ b off, A = some ⟨b, off, none⟩ ∧ b < B ∧ w.cell? ⟨b, off + j * 3, none⟩ = some (.int .i64 acs[j].op) ∧ w.cell? ⟨b, off + j * 3 + 1, none⟩ = some (.int .i64 acs[j].id) ∧ w.cell? ⟨b, off + j * 3 + 2, none⟩ = some (.int .i64 acs[j].n) := by
  obtain ⟨A', c', e, h1, h2, _, h3⟩ := h
  injection e with e1 e2 e3
  subst e1
  obtain ⟨b, off, ea, hlt, hc⟩ := h3 (by rintro rfl; simp at hj)
  exact ⟨b, off, ea, hlt, hc j _ (List.getElem?_eq_getElem hj)⟩
section
variable {H : Type} {enc : TypeId × Value → H}
theorem cell_int9 {P : Program} {w : World} {t : TypeId} {k : IntKind} {fuel : Nat} {c : Value} {y : Option (DataW H × List MemPlace)} {x : DataW H × List MemPlace} (ht : P.underlying t = some (.int k)) {cs : List Value} (he : cs.take (P.cellsOf t) = [c]) (hy : y = some x)
    (h : DataW.trod enc P w 0 (fun _ => true) true fuel t (cs.take (P.cellsOf t)) = y) : ∃ n, c = .int k n ∧ (Lit.int k n).wf = true := by
  rw [he, hy] at h
  obtain ⟨n, h1, _, h3⟩ := DataW.trod_int ht h
  exact ⟨n, by simpa using h1, h3⟩
theorem list3 {α : Type} (l : List α) (h : l.length = 3) : ∃ c0 c1 c2, l = [c0, c1, c2] := by
  match l, h with
  | [c0, c1, c2], _ => exact ⟨c0, c1, c2, rfl⟩
theorem open_act {W : World} {fuel : Nat} {cs : List Value} {x : DataW H × List MemPlace} (hl : cs.length = 3) (hf : DataW.trod enc Try.prog W 0 (fun _ => true) true fuel 31 cs = some x) :
    ∃ a : Act10, cs = [.int .i64 a.op, .int .i64 a.id, .int .i64 a.n] ∧ ActOk a := by
  obtain ⟨xs, n, _, _, _, hxl, hfs⟩ := DataW.trod_struct Try.underlying31 hf
  obtain ⟨c0, c1, c2, rfl⟩ := list3 cs hl
  have hx : ∀ i, i < 3 → ∃ y, xs[i]? = some y := fun i hi => ⟨xs[i]'(by rw [hxl]; exact hi), List.getElem?_eq_getElem _⟩
  obtain ⟨y0, hy0⟩ := hx 0 (by omega)
  obtain ⟨n0, rfl, w0⟩ := cell_int9 Try.underlying3 (c := c0) rfl hy0 (hfs 0 _ rfl)
  obtain ⟨y1, hy1⟩ := hx 1 (by omega)
  obtain ⟨n1, rfl, w1⟩ := cell_int9 Try.underlying3 (c := c1) rfl hy1 (hfs 1 _ rfl)
  obtain ⟨y2, hy2⟩ := hx 2 (by omega)
  obtain ⟨n2, rfl, w2⟩ := cell_int9 Try.underlying3 (c := c2) rfl hy2 (hfs 2 _ rfl)
  exact ⟨⟨n0, n1, n2⟩, rfl, bounds_i64 w0, bounds_i64 w1, bounds_i64 w2⟩
theorem open_acts {W : World} {base : Nat} {v : Value} {d : DataW H} {ps : List MemPlace}
    (hval : Value.okWide Try.prog W .any base 22 v) (h : DataW.Trod enc Try.prog W 0 (fun _ => true) true 22 v d ps) :
    ∃ acs : List Act10, Acts W W.heap.size v acs := by
  obtain ⟨a, len, cap, rfl⟩ := okWide_slice Try.underlying22 hval
  obtain ⟨fuel, hf⟩ := h
  have hc5 : Try.prog.cellsOf 31 = 3 := by kernel_rfl
  rcases open_slice Try.underlying22 hf with ⟨hcs, hx⟩ | ⟨a', len', cap', m, n, D, Pl, hcs, _, hl, hm, hmm, hx, hV⟩
  · simp [Value.cells] at hcs
    obtain ⟨rfl, rfl, rfl⟩ := hcs
    exact ⟨[], none, 0, rfl, by simp, by simp, by simp, fun h => absurd rfl h⟩
  · simp [Value.cells] at hcs
    obtain ⟨rfl, rfl, rfl⟩ := hcs
    simp only [if_true] at hmm
    obtain ⟨acs, hL, hp⟩ := choose_list (p := fun i (a : Act10) => (∀ j, j < 3 → W.cell? (a'.add (i * 3 + j)) = ([.int .i64 a.op, .int .i64 a.id, .int .i64 a.n] : List Value)[j]?) ∧ ActOk a) len (fun i hi => by
      obtain ⟨cs', h1, h2⟩ := hV i (by omega)
      rw [hc5] at h1
      obtain ⟨_, hlen, hcell⟩ := World.cells?_some h1
      obtain ⟨a, rfl, hok⟩ := open_act hlen h2
      refine ⟨a, fun j hj => ?_, hok⟩
      rw [← hcell j hj, add_add])
    refine ⟨acs, some a', cap, by rw [hL], by omega, hm, fun a ha => ?_, fun hne => ?_⟩
    · obtain ⟨i, hi, rfl⟩ := List.getElem_of_mem ha
      exact (hp i hi).2
    · have h0 : 0 < acs.length := List.length_pos_iff.2 hne
      have c0 := (hp 0 h0).1 0 (by omega)
      simp only [Nat.zero_mul, Nat.zero_add, List.getElem?_cons_zero] at c0
      obtain ⟨b, off, spot⟩ := a'
      have hspot : spot = none := by simpa [Addr.add] using World.cell?_spot c0
      subst hspot
      refine ⟨b, off, rfl, World.block_lt_of_cell? W _ (by simpa [Addr.add] using c0), fun j a hj => ?_⟩
      obtain ⟨hjl, rfl⟩ := List.getElem?_eq_some_iff.1 hj
      have hc := (hp j hjl).1
      simp only [add_plain] at hc
      refine ⟨hc 0 (by omega), hc 1 (by omega), hc 2 (by omega)⟩
end
end Go.Proofs.Ytohbkepjbaigdaa
