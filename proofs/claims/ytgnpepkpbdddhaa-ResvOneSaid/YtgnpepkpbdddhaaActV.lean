/- Acts that are handed in (gemellaw15.Act): a slice of structs of 5 cells. Written by tools/gen-acts.py. -/
import Derived.Test.YtgnpepkpbdddhaaRvd
import Derived.Test.YtgnpepkpbdddhaaBase2
namespace Go.Proofs.Ytgnpepkpbdddhaa
open Go.ChangeShapes Go.WideShapes Go.ChangeAt Go.RowKit Go.Deep Go.Lib
set_option linter.unusedVariables false
structure Act15 where
  op : Int
  host : Int
  key : Nat
  other : Nat
  ty : Int
def I64 (n : Int) : Prop := -9223372036854775808 ≤ n ∧ n ≤ 9223372036854775807
structure ActOk (w : World) (B : Nat) (a : Act15) : Prop where
  op : I64 a.op
  host : I64 a.host
  key : a.key ≤ 18446744073709551615
  other : a.other ≤ 18446744073709551615
  ty : I64 a.ty
/-- The slice v shows these acts, in blocks below B. -/
def Acts (w : World) (B : Nat) (v : Value) (acs : List Act15) : Prop :=
  ∃ A c, v = .slice A acs.length c ∧ acs.length ≤ c ∧ c ≤ maxLen ∧ (∀ a ∈ acs, ActOk w B a) ∧
    (acs ≠ [] → ∃ b off, A = some ⟨b, off, none⟩ ∧ b < B ∧ ∀ j a, acs[j]? = some a → w.cell? ⟨b, off + j * 5, none⟩ = some (.int .i64 a.op) ∧ w.cell? ⟨b, off + j * 5 + 1, none⟩ = some (.int .i64 a.host) ∧ w.cell? ⟨b, off + j * 5 + 2, none⟩ = some (.int .u64 (a.key : Nat)) ∧ w.cell? ⟨b, off + j * 5 + 3, none⟩ = some (.int .u64 (a.other : Nat)) ∧ w.cell? ⟨b, off + j * 5 + 4, none⟩ = some (.int .i64 a.ty))
theorem Acts.below {w w' : World} {B : Nat} {v : Value} {acs : List Act15} (h : Acts w B v acs) (hb : Below B w w') : Acts w' B v acs := by
  obtain ⟨A, c, e, h1, h2, h3, h4⟩ := h
  refine ⟨A, c, e, h1, h2, fun a ha => ⟨(h3 a ha).op, (h3 a ha).host, (h3 a ha).key, (h3 a ha).other, (h3 a ha).ty⟩, fun hx => ?_⟩
  obtain ⟨b, off, ea, hlt, hc⟩ := h4 hx
  exact ⟨b, off, ea, hlt, fun j p hp => ⟨(hb.cell (p := ⟨b, _, none⟩) hlt).trans (hc j p hp).1, (hb.cell (p := ⟨b, _, none⟩) hlt).trans (hc j p hp).2.1, (hb.cell (p := ⟨b, _, none⟩) hlt).trans (hc j p hp).2.2.1, (hb.cell (p := ⟨b, _, none⟩) hlt).trans (hc j p hp).2.2.2.1, (hb.cell (p := ⟨b, _, none⟩) hlt).trans (hc j p hp).2.2.2.2⟩⟩
theorem Acts.form {w : World} {B : Nat} {v : Value} {acs : List Act15} (h : Acts w B v acs) : ∃ A c, v = .slice A acs.length c ∧ acs.length ≤ c ∧ c ≤ maxLen := by
  obtain ⟨A, c, e, h1, h2, _⟩ := h
  exact ⟨A, c, e, h1, h2⟩
theorem Acts.ok {w : World} {B : Nat} {v : Value} {acs : List Act15} (h : Acts w B v acs) : ∀ a ∈ acs, ActOk w B a := by
  obtain ⟨A, c, e, h1, h2, h3, _⟩ := h
  exact h3
theorem Acts.at_ {w : World} {B : Nat} {A : Option Addr} {c : Nat} {acs : List Act15} (h : Acts w B (.slice A acs.length c) acs) {j : Nat} (hj : j < acs.length) :
    ∃ b off, A = some ⟨b, off, none⟩ ∧ b < B ∧ w.cell? ⟨b, off + j * 5, none⟩ = some (.int .i64 acs[j].op) ∧ w.cell? ⟨b, off + j * 5 + 1, none⟩ = some (.int .i64 acs[j].host) ∧ w.cell? ⟨b, off + j * 5 + 2, none⟩ = some (.int .u64 (acs[j].key : Nat)) ∧ w.cell? ⟨b, off + j * 5 + 3, none⟩ = some (.int .u64 (acs[j].other : Nat)) ∧ w.cell? ⟨b, off + j * 5 + 4, none⟩ = some (.int .i64 acs[j].ty) := by
  obtain ⟨A', c', e, h1, h2, _, h3⟩ := h
  injection e with e1 e2 e3
  subst e1
  obtain ⟨b, off, ea, hlt, hc⟩ := h3 (by rintro rfl; simp at hj)
  exact ⟨b, off, ea, hlt, hc j _ (List.getElem?_eq_getElem hj)⟩
section
variable {H : Type} {enc : TypeId × Value → H}
theorem cell_int9 {P : Program} {w : World} {t : TypeId} {k : IntKind} {fuel : Nat} {c : Value} {y : Option (DataW H × List MemPlace)} {x : DataW H × List MemPlace} (ht : P.underlying t = some (.int k)) {cs : List Value} (he : cs.take (P.cellsOf t) = [c]) (hy : y = some x)
    (h : DataW.trod enc P w 0 (fun _ => true) true fuel t (cs.take (P.cellsOf t)) = y) : ∃ n, c = .int k n ∧ (Lit.int k n).wf = true := by
  rw [he, hy] at h
  obtain ⟨n, h1, _, h3⟩ := DataW.trod_int ht h
  exact ⟨n, by simpa using h1, h3⟩
theorem listN {α : Type} (l : List α) (h : l.length = 5) : ∃ c0 c1 c2 c3 c4, l = [c0, c1, c2, c3, c4] := by
  match l, h with
  | [c0, c1, c2, c3, c4], _ => exact ⟨c0, c1, c2, c3, c4, rfl⟩
theorem open_act {W : World} {fuel : Nat} {cs : List Value} {x : DataW H × List MemPlace} (hl : cs.length = 5) (hf : DataW.trod enc Try.prog W 0 (fun _ => true) true fuel 31 cs = some x) :
    ∃ a : Act15, cs = [.int .i64 a.op, .int .i64 a.host, .int .u64 (a.key : Nat), .int .u64 (a.other : Nat), .int .i64 a.ty] ∧ ActOk W W.heap.size a := by
  obtain ⟨xs, n, _, _, _, hxl, hfs⟩ := DataW.trod_struct Try.underlying31 hf
  obtain ⟨c0, c1, c2, c3, c4, rfl⟩ := listN cs hl
  have hx : ∀ i, i < 5 → ∃ y, xs[i]? = some y := fun i hi => ⟨xs[i]'(by rw [hxl]; exact hi), List.getElem?_eq_getElem _⟩
  obtain ⟨y0, hy0⟩ := hx 0 (by omega)
  obtain ⟨n0, rfl, w0⟩ := cell_int9 Try.underlying3 (c := c0) rfl hy0 (hfs 0 _ rfl)
  obtain ⟨y1, hy1⟩ := hx 1 (by omega)
  obtain ⟨n1, rfl, w1⟩ := cell_int9 Try.underlying3 (c := c1) rfl hy1 (hfs 1 _ rfl)
  obtain ⟨y2, hy2⟩ := hx 2 (by omega)
  obtain ⟨n2, rfl, w2⟩ := cell_int9 Try.underlying29 (c := c2) rfl hy2 (hfs 2 _ rfl)
  have b2 := bounds_u64 w2
  obtain ⟨m2, rfl, q2⟩ : ∃ m : Nat, n2 = (m : Nat) ∧ m ≤ 18446744073709551615 := ⟨n2.toNat, by omega, by omega⟩
  obtain ⟨y3, hy3⟩ := hx 3 (by omega)
  obtain ⟨n3, rfl, w3⟩ := cell_int9 Try.underlying29 (c := c3) rfl hy3 (hfs 3 _ rfl)
  have b3 := bounds_u64 w3
  obtain ⟨m3, rfl, q3⟩ : ∃ m : Nat, n3 = (m : Nat) ∧ m ≤ 18446744073709551615 := ⟨n3.toNat, by omega, by omega⟩
  obtain ⟨y4, hy4⟩ := hx 4 (by omega)
  obtain ⟨n4, rfl, w4⟩ := cell_int9 Try.underlying3 (c := c4) rfl hy4 (hfs 4 _ rfl)
  exact ⟨⟨n0, n1, m2, m3, n4⟩, rfl, ⟨bounds_i64 w0, bounds_i64 w1, q2, q3, bounds_i64 w4⟩⟩
theorem open_acts {W : World} {base : Nat} {v : Value} {d : DataW H} {ps : List MemPlace}
    (hval : Value.okWide Try.prog W .any base 22 v) (h : DataW.Trod enc Try.prog W 0 (fun _ => true) true 22 v d ps) :
    ∃ acs : List Act15, Acts W W.heap.size v acs := by
  obtain ⟨a, len, cap, rfl⟩ := okWide_slice Try.underlying22 hval
  obtain ⟨fuel, hf⟩ := h
  have hc5 : Try.prog.cellsOf 31 = 5 := by kernel_rfl
  rcases open_slice Try.underlying22 hf with ⟨hcs, hx⟩ | ⟨a', len', cap', m, n, D, Pl, hcs, _, hl, hm, hmm, hx, hV⟩
  · simp [Value.cells] at hcs
    obtain ⟨rfl, rfl, rfl⟩ := hcs
    exact ⟨[], none, 0, rfl, by simp, by simp, by simp, fun h => absurd rfl h⟩
  · simp [Value.cells] at hcs
    obtain ⟨rfl, rfl, rfl⟩ := hcs
    simp only [if_true] at hmm
    obtain ⟨acs, hL, hp⟩ := choose_list (p := fun i (a : Act15) => (∀ j, j < 5 → W.cell? (a'.add (i * 5 + j)) = ([.int .i64 a.op, .int .i64 a.host, .int .u64 (a.key : Nat), .int .u64 (a.other : Nat), .int .i64 a.ty] : List Value)[j]?) ∧ ActOk W W.heap.size a) len (fun i hi => by
      obtain ⟨cs', h1, h2⟩ := hV i (by omega)
      rw [hc5] at h1
      obtain ⟨_, hlen, hcell⟩ := World.cells?_some h1
      obtain ⟨a, rfl, hok⟩ := open_act hlen h2
      refine ⟨a, fun j hj => ?_, hok⟩
      rw [← hcell j hj, add_add])
    refine ⟨acs, some a', cap, by rw [hL], by omega, hm, fun a ha => ?_, fun hne => ?_⟩
    · obtain ⟨i, hi, rfl⟩ := List.getElem_of_mem ha
      exact (hp i hi).2
    · have h0 : 0 < acs.length := List.length_pos_iff.2 hne
      have c0 := (hp 0 h0).1 0 (by omega)
      simp only [Nat.zero_mul, Nat.zero_add, List.getElem?_cons_zero] at c0
      obtain ⟨b, off, spot⟩ := a'
      have hspot : spot = none := by simpa [Addr.add] using World.cell?_spot c0
      subst hspot
      refine ⟨b, off, rfl, World.block_lt_of_cell? W _ (by simpa [Addr.add] using c0), fun j a hj => ?_⟩
      obtain ⟨hjl, rfl⟩ := List.getElem?_eq_some_iff.1 hj
      have hc := (hp j hjl).1
      simp only [add_plain] at hc
      refine ⟨hc 0 (by omega), hc 1 (by omega), hc 2 (by omega), hc 3 (by omega), hc 4 (by omega)⟩
end
end Go.Proofs.Ytgnpepkpbdddhaa
