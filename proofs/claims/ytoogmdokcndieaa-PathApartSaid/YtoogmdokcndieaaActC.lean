/- Acts that are handed in (api.Command): a slice of structs of 8 cells. Written by tools/gen-acts.py. -/
import Derived.Test.YtoogmdokcndieaaBase2
import Derived.Test.YtoogmdokcndieaaMp4
namespace Go.Proofs.Ytoogmdokcndieaa
open Go.ChangeShapes Go.WideShapes Go.ChangeAt Go.RowKit Go.Deep Go.Lib
set_option linter.unusedVariables false
set_option maxRecDepth 100000
structure CmdA where
  kind : Int
  at_ : Int
  n : Int
  data : Value
  datal : List UInt8
  key : Nat
  new : Nat
  typ : Int
  force : Bool
def I64 (n : Int) : Prop := -9223372036854775808 ≤ n ∧ n ≤ 9223372036854775807
structure ActOk (w : World) (B : Nat) (a : CmdA) : Prop where
  kind : I64 a.kind
  at_ : I64 a.at_
  n : I64 a.n
  data : Sl w B a.data a.datal.length (bs a.datal)
  key : a.key ≤ 18446744073709551615
  new : a.new ≤ 18446744073709551615
  typ : I64 a.typ
  force : a.force = a.force
/-- The slice v shows these acts, in blocks below B. -/
def Acts (w : World) (B : Nat) (v : Value) (acs : List CmdA) : Prop :=
  ∃ A c, v = .slice A acs.length c ∧ acs.length ≤ c ∧ c ≤ maxLen ∧ (∀ a ∈ acs, ActOk w B a) ∧
    (acs ≠ [] → ∃ b off, A = some ⟨b, off, none⟩ ∧ b < B ∧ ∀ j a, acs[j]? = some a → w.cell? ⟨b, off + j * 8, none⟩ = some (.int .i64 a.kind) ∧ w.cell? ⟨b, off + j * 8 + 1, none⟩ = some (.int .i64 a.at_) ∧ w.cell? ⟨b, off + j * 8 + 2, none⟩ = some (.int .i64 a.n) ∧ w.cell? ⟨b, off + j * 8 + 3, none⟩ = some (a.data) ∧ w.cell? ⟨b, off + j * 8 + 4, none⟩ = some (.int .u64 (a.key : Nat)) ∧ w.cell? ⟨b, off + j * 8 + 5, none⟩ = some (.int .u64 (a.new : Nat)) ∧ w.cell? ⟨b, off + j * 8 + 6, none⟩ = some (.int .i64 a.typ) ∧ w.cell? ⟨b, off + j * 8 + 7, none⟩ = some (.bool a.force))
theorem Acts.below {w w' : World} {B : Nat} {v : Value} {acs : List CmdA} (h : Acts w B v acs) (hb : Below B w w') : Acts w' B v acs := by
  obtain ⟨A, c, e, h1, h2, h3, h4⟩ := h
  refine ⟨A, c, e, h1, h2, fun a ha => ⟨(h3 a ha).kind, (h3 a ha).at_, (h3 a ha).n, (h3 a ha).data.below hb, (h3 a ha).key, (h3 a ha).new, (h3 a ha).typ, (h3 a ha).force⟩, fun hx => ?_⟩
  obtain ⟨b, off, ea, hlt, hc⟩ := h4 hx
  exact ⟨b, off, ea, hlt, fun j p hp => ⟨(hb.cell (p := ⟨b, _, none⟩) hlt).trans (hc j p hp).1, (hb.cell (p := ⟨b, _, none⟩) hlt).trans (hc j p hp).2.1, (hb.cell (p := ⟨b, _, none⟩) hlt).trans (hc j p hp).2.2.1, (hb.cell (p := ⟨b, _, none⟩) hlt).trans (hc j p hp).2.2.2.1, (hb.cell (p := ⟨b, _, none⟩) hlt).trans (hc j p hp).2.2.2.2.1, (hb.cell (p := ⟨b, _, none⟩) hlt).trans (hc j p hp).2.2.2.2.2.1, (hb.cell (p := ⟨b, _, none⟩) hlt).trans (hc j p hp).2.2.2.2.2.2.1, (hb.cell (p := ⟨b, _, none⟩) hlt).trans (hc j p hp).2.2.2.2.2.2.2⟩⟩
theorem Acts.form {w : World} {B : Nat} {v : Value} {acs : List CmdA} (h : Acts w B v acs) : ∃ A c, v = .slice A acs.length c ∧ acs.length ≤ c ∧ c ≤ maxLen := by
  obtain ⟨A, c, e, h1, h2, _⟩ := h
  exact ⟨A, c, e, h1, h2⟩
theorem Acts.ok {w : World} {B : Nat} {v : Value} {acs : List CmdA} (h : Acts w B v acs) : ∀ a ∈ acs, ActOk w B a := by
  obtain ⟨A, c, e, h1, h2, h3, _⟩ := h
  exact h3
theorem Acts.at_ {w : World} {B : Nat} {A : Option Addr} {c : Nat} {acs : List CmdA} (h : Acts w B (.slice A acs.length c) acs) {j : Nat} (hj : j < acs.length) :
    ∃ b off, A = some ⟨b, off, none⟩ ∧ b < B ∧ w.cell? ⟨b, off + j * 8, none⟩ = some (.int .i64 acs[j].kind) ∧ w.cell? ⟨b, off + j * 8 + 1, none⟩ = some (.int .i64 acs[j].at_) ∧ w.cell? ⟨b, off + j * 8 + 2, none⟩ = some (.int .i64 acs[j].n) ∧ w.cell? ⟨b, off + j * 8 + 3, none⟩ = some (acs[j].data) ∧ w.cell? ⟨b, off + j * 8 + 4, none⟩ = some (.int .u64 (acs[j].key : Nat)) ∧ w.cell? ⟨b, off + j * 8 + 5, none⟩ = some (.int .u64 (acs[j].new : Nat)) ∧ w.cell? ⟨b, off + j * 8 + 6, none⟩ = some (.int .i64 acs[j].typ) ∧ w.cell? ⟨b, off + j * 8 + 7, none⟩ = some (.bool acs[j].force) := by
  obtain ⟨A', c', e, h1, h2, _, h3⟩ := h
  injection e with e1 e2 e3
  subst e1
  obtain ⟨b, off, ea, hlt, hc⟩ := h3 (by rintro rfl; simp at hj)
  exact ⟨b, off, ea, hlt, hc j _ (List.getElem?_eq_getElem hj)⟩
section
variable {H : Type} {enc : TypeId × Value → H}
theorem cell_int9 {P : Program} {w : World} {t : TypeId} {k : IntKind} {fuel : Nat} {c : Value} {y : Option (DataW H × List MemPlace)} {x : DataW H × List MemPlace} (ht : P.underlying t = some (.int k)) {cs : List Value} (he : cs.take (P.cellsOf t) = [c]) (hy : y = some x)
    (h : DataW.trod enc P w 0 (fun _ => true) true fuel t (cs.take (P.cellsOf t)) = y) : ∃ n, c = .int k n ∧ (Lit.int k n).wf = true := by
  rw [he, hy] at h
  obtain ⟨n, h1, _, h3⟩ := DataW.trod_int ht h
  exact ⟨n, by simpa using h1, h3⟩
theorem cell_bool9 {P : Program} {w : World} {t : TypeId} {fuel : Nat} {c : Value} {y : Option (DataW H × List MemPlace)} {x : DataW H × List MemPlace} (ht : P.underlying t = some .bool) {cs : List Value} (he : cs.take (P.cellsOf t) = [c]) (hy : y = some x)
    (h : DataW.trod enc P w 0 (fun _ => true) true fuel t (cs.take (P.cellsOf t)) = y) : ∃ n, c = .bool n := by
  rw [he, hy] at h
  obtain ⟨n, h1, _⟩ := DataW.trod_bool ht h
  exact ⟨n, by simpa using h1⟩
theorem listN {α : Type} (l : List α) (h : l.length = 8) : ∃ c0 c1 c2 c3 c4 c5 c6 c7, l = [c0, c1, c2, c3, c4, c5, c6, c7] := by
  match l, h with
  | [c0, c1, c2, c3, c4, c5, c6, c7], _ => exact ⟨c0, c1, c2, c3, c4, c5, c6, c7, rfl⟩
theorem open_act {W : World} {fuel : Nat} {cs : List Value} {x : DataW H × List MemPlace} (hl : cs.length = 8) (hf : DataW.trod enc Try.prog W 0 (fun _ => true) true fuel 31 cs = some x) :
    ∃ a : CmdA, cs = [.int .i64 a.kind, .int .i64 a.at_, .int .i64 a.n, a.data, .int .u64 (a.key : Nat), .int .u64 (a.new : Nat), .int .i64 a.typ, .bool a.force] ∧ ActOk W W.heap.size a := by
  obtain ⟨xs, n, _, _, _, hxl, hfs⟩ := DataW.trod_struct Try.underlying31 hf
  obtain ⟨c0, c1, c2, c3, c4, c5, c6, c7, rfl⟩ := listN cs hl
  have hx : ∀ i, i < 8 → ∃ y, xs[i]? = some y := fun i hi => ⟨xs[i]'(by rw [hxl]; exact hi), List.getElem?_eq_getElem _⟩
  obtain ⟨y0, hy0⟩ := hx 0 (by omega)
  obtain ⟨n0, rfl, w0⟩ := cell_int9 Try.underlying3 (c := c0) rfl hy0 (hfs 0 _ rfl)
  obtain ⟨y1, hy1⟩ := hx 1 (by omega)
  obtain ⟨n1, rfl, w1⟩ := cell_int9 Try.underlying3 (c := c1) rfl hy1 (hfs 1 _ rfl)
  obtain ⟨y2, hy2⟩ := hx 2 (by omega)
  obtain ⟨n2, rfl, w2⟩ := cell_int9 Try.underlying3 (c := c2) rfl hy2 (hfs 2 _ rfl)
  obtain ⟨y3, hy3⟩ := hx 3 (by omega)
  have f3 := hfs 3 _ rfl
  rw [hy3] at f3
  obtain ⟨l3, hl3⟩ := open_bytes_cell Try.underlying28 Try.underlying5 (by kernel_rfl) (v := c3) f3
  obtain ⟨y4, hy4⟩ := hx 4 (by omega)
  obtain ⟨n4, rfl, w4⟩ := cell_int9 Try.underlying29 (c := c4) rfl hy4 (hfs 4 _ rfl)
  have b4 := bounds_u64 w4
  obtain ⟨m4, rfl, q4⟩ : ∃ m : Nat, n4 = (m : Nat) ∧ m ≤ 18446744073709551615 := ⟨n4.toNat, by omega, by omega⟩
  obtain ⟨y5, hy5⟩ := hx 5 (by omega)
  obtain ⟨n5, rfl, w5⟩ := cell_int9 Try.underlying29 (c := c5) rfl hy5 (hfs 5 _ rfl)
  have b5 := bounds_u64 w5
  obtain ⟨m5, rfl, q5⟩ : ∃ m : Nat, n5 = (m : Nat) ∧ m ≤ 18446744073709551615 := ⟨n5.toNat, by omega, by omega⟩
  obtain ⟨y6, hy6⟩ := hx 6 (by omega)
  obtain ⟨n6, rfl, w6⟩ := cell_int9 Try.underlying3 (c := c6) rfl hy6 (hfs 6 _ rfl)
  obtain ⟨y7, hy7⟩ := hx 7 (by omega)
  obtain ⟨n7, rfl⟩ := cell_bool9 Try.underlying4 (c := c7) rfl hy7 (hfs 7 _ rfl)
  exact ⟨⟨n0, n1, n2, c3, l3, m4, m5, n6, n7⟩, rfl, ⟨bounds_i64 w0, bounds_i64 w1, bounds_i64 w2, hl3, q4, q5, bounds_i64 w6, rfl⟩⟩
theorem open_acts {W : World} {base : Nat} {v : Value} {d : DataW H} {ps : List MemPlace}
    (hval : Value.okWide Try.prog W .any base 22 v) (h : DataW.Trod enc Try.prog W 0 (fun _ => true) true 22 v d ps) :
    ∃ acs : List CmdA, Acts W W.heap.size v acs := by
  obtain ⟨a, len, cap, rfl⟩ := okWide_slice Try.underlying22 hval
  obtain ⟨fuel, hf⟩ := h
  have hc5 : Try.prog.cellsOf 31 = 8 := by kernel_rfl
  rcases open_slice Try.underlying22 hf with ⟨hcs, hx⟩ | ⟨a', len', cap', m, n, D, Pl, hcs, _, hl, hm, hmm, hx, hV⟩
  · simp [Value.cells] at hcs
    obtain ⟨rfl, rfl, rfl⟩ := hcs
    exact ⟨[], none, 0, rfl, by simp, by simp, by simp, fun h => absurd rfl h⟩
  · simp [Value.cells] at hcs
    obtain ⟨rfl, rfl, rfl⟩ := hcs
    simp only [if_true] at hmm
    obtain ⟨acs, hL, hp⟩ := choose_list (p := fun i (a : CmdA) => (∀ j, j < 8 → W.cell? (a'.add (i * 8 + j)) = ([.int .i64 a.kind, .int .i64 a.at_, .int .i64 a.n, a.data, .int .u64 (a.key : Nat), .int .u64 (a.new : Nat), .int .i64 a.typ, .bool a.force] : List Value)[j]?) ∧ ActOk W W.heap.size a) len (fun i hi => by
      obtain ⟨cs', h1, h2⟩ := hV i (by omega)
      rw [hc5] at h1
      obtain ⟨_, hlen, hcell⟩ := World.cells?_some h1
      obtain ⟨a, rfl, hok⟩ := open_act hlen h2
      refine ⟨a, fun j hj => ?_, hok⟩
      rw [← hcell j hj, add_add])
    refine ⟨acs, some a', cap, by rw [hL], by omega, hm, fun a ha => ?_, fun hne => ?_⟩
    · obtain ⟨i, hi, rfl⟩ := List.getElem_of_mem ha
      exact (hp i hi).2
    · have h0 : 0 < acs.length := List.length_pos_iff.2 hne
      have c0 := (hp 0 h0).1 0 (by omega)
      simp only [Nat.zero_mul, Nat.zero_add, List.getElem?_cons_zero] at c0
      obtain ⟨b, off, spot⟩ := a'
      have hspot : spot = none := by simpa [Addr.add] using World.cell?_spot c0
      subst hspot
      refine ⟨b, off, rfl, World.block_lt_of_cell? W _ (by simpa [Addr.add] using c0), fun j a hj => ?_⟩
      obtain ⟨hjl, rfl⟩ := List.getElem?_eq_some_iff.1 hj
      have hc := (hp j hjl).1
      simp only [add_plain] at hc
      refine ⟨hc 0 (by omega), hc 1 (by omega), hc 2 (by omega), hc 3 (by omega), hc 4 (by omega), hc 5 (by omega), hc 6 (by omega), hc 7 (by omega)⟩
end
end Go.Proofs.Ytoogmdokcndieaa
