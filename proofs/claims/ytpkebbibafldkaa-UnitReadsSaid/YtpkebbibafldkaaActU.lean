/- Acts that are handed in (gemellaw17.Act): a slice of structs of 13 cells. Written by tools/gen-acts.py. -/
import Derived.Test.YtpkebbibafldkaaUnG
import Derived.Test.YtpkebbibafldkaaBase2
namespace Go.Proofs.Ytpkebbibafldkaa
open Go.ChangeShapes Go.WideShapes Go.ChangeAt Go.RowKit Go.Deep Go.Lib
set_option linter.unusedVariables false
set_option maxRecDepth 100000
structure ActU where
  host : Int
  kind : Int
  at_ : Int
  n : Int
  data : Value
  datal : List UInt8
  key : Nat
  new : Nat
  typ : Int
  force : Bool
  once : Bool
  id : Nat
  floor : Nat
  code : Bool
def I64 (n : Int) : Prop := -9223372036854775808 ≤ n ∧ n ≤ 9223372036854775807
structure ActOk (w : World) (B : Nat) (a : ActU) : Prop where
  host : I64 a.host
  kind : I64 a.kind
  at_ : I64 a.at_
  n : I64 a.n
  data : Sl w B a.data a.datal.length (bs a.datal)
  key : a.key ≤ 18446744073709551615
  new : a.new ≤ 18446744073709551615
  typ : I64 a.typ
  force : a.force = a.force
  once : a.once = a.once
  id : a.id ≤ 18446744073709551615
  floor : a.floor ≤ 18446744073709551615
  code : a.code = a.code
/-- The slice v shows these acts, in blocks below B. -/
def Acts (w : World) (B : Nat) (v : Value) (acs : List ActU) : Prop :=
  ∃ A c, v = .slice A acs.length c ∧ acs.length ≤ c ∧ c ≤ maxLen ∧ (∀ a ∈ acs, ActOk w B a) ∧
    (acs ≠ [] → ∃ b off, A = some ⟨b, off, none⟩ ∧ b < B ∧ ∀ j a, acs[j]? = some a → w.cell? ⟨b, off + j * 13, none⟩ = some (.int .i64 a.host) ∧ w.cell? ⟨b, off + j * 13 + 1, none⟩ = some (.int .i64 a.kind) ∧ w.cell? ⟨b, off + j * 13 + 2, none⟩ = some (.int .i64 a.at_) ∧ w.cell? ⟨b, off + j * 13 + 3, none⟩ = some (.int .i64 a.n) ∧ w.cell? ⟨b, off + j * 13 + 4, none⟩ = some (a.data) ∧ w.cell? ⟨b, off + j * 13 + 5, none⟩ = some (.int .u64 (a.key : Nat)) ∧ w.cell? ⟨b, off + j * 13 + 6, none⟩ = some (.int .u64 (a.new : Nat)) ∧ w.cell? ⟨b, off + j * 13 + 7, none⟩ = some (.int .i64 a.typ) ∧ w.cell? ⟨b, off + j * 13 + 8, none⟩ = some (.bool a.force) ∧ w.cell? ⟨b, off + j * 13 + 9, none⟩ = some (.bool a.once) ∧ w.cell? ⟨b, off + j * 13 + 10, none⟩ = some (.int .u64 (a.id : Nat)) ∧ w.cell? ⟨b, off + j * 13 + 11, none⟩ = some (.int .u64 (a.floor : Nat)) ∧ w.cell? ⟨b, off + j * 13 + 12, none⟩ = some (.bool a.code))
theorem Acts.below {w w' : World} {B : Nat} {v : Value} {acs : List ActU} (h : Acts w B v acs) (hb : Below B w w') : Acts w' B v acs := by
  obtain ⟨A, c, e, h1, h2, h3, h4⟩ := h
  refine ⟨A, c, e, h1, h2, fun a ha => ⟨(h3 a ha).host, (h3 a ha).kind, (h3 a ha).at_, (h3 a ha).n, (h3 a ha).data.below hb, (h3 a ha).key, (h3 a ha).new, (h3 a ha).typ, (h3 a ha).force, (h3 a ha).once, (h3 a ha).id, (h3 a ha).floor, (h3 a ha).code⟩, fun hx => ?_⟩
  obtain ⟨b, off, ea, hlt, hc⟩ := h4 hx
  exact ⟨b, off, ea, hlt, fun j p hp => ⟨(hb.cell (p := ⟨b, _, none⟩) hlt).trans (hc j p hp).1, (hb.cell (p := ⟨b, _, none⟩) hlt).trans (hc j p hp).2.1, (hb.cell (p := ⟨b, _, none⟩) hlt).trans (hc j p hp).2.2.1, (hb.cell (p := ⟨b, _, none⟩) hlt).trans (hc j p hp).2.2.2.1, (hb.cell (p := ⟨b, _, none⟩) hlt).trans (hc j p hp).2.2.2.2.1, (hb.cell (p := ⟨b, _, none⟩) hlt).trans (hc j p hp).2.2.2.2.2.1, (hb.cell (p := ⟨b, _, none⟩) hlt).trans (hc j p hp).2.2.2.2.2.2.1, (hb.cell (p := ⟨b, _, none⟩) hlt).trans (hc j p hp).2.2.2.2.2.2.2.1, (hb.cell (p := ⟨b, _, none⟩) hlt).trans (hc j p hp).2.2.2.2.2.2.2.2.1, (hb.cell (p := ⟨b, _, none⟩) hlt).trans (hc j p hp).2.2.2.2.2.2.2.2.2.1, (hb.cell (p := ⟨b, _, none⟩) hlt).trans (hc j p hp).2.2.2.2.2.2.2.2.2.2.1, (hb.cell (p := ⟨b, _, none⟩) hlt).trans (hc j p hp).2.2.2.2.2.2.2.2.2.2.2.1, (hb.cell (p := ⟨b, _, none⟩) hlt).trans (hc j p hp).2.2.2.2.2.2.2.2.2.2.2.2⟩⟩
theorem Acts.form {w : World} {B : Nat} {v : Value} {acs : List ActU} (h : Acts w B v acs) : ∃ A c, v = .slice A acs.length c ∧ acs.length ≤ c ∧ c ≤ maxLen := by
  obtain ⟨A, c, e, h1, h2, _⟩ := h
  exact ⟨A, c, e, h1, h2⟩
theorem Acts.ok {w : World} {B : Nat} {v : Value} {acs : List ActU} (h : Acts w B v acs) : ∀ a ∈ acs, ActOk w B a := by
  obtain ⟨A, c, e, h1, h2, h3, _⟩ := h
  exact h3
theorem Acts.at_ {w : World} {B : Nat} {A : Option Addr} {c : Nat} {acs : List ActU} (h : Acts w B (.slice A acs.length c) acs) {j : Nat} (hj : j < acs.length) :
    ∃ b off, A = some ⟨b, off, none⟩ ∧ b < B ∧ w.cell? ⟨b, off + j * 13, none⟩ = some (.int .i64 acs[j].host) ∧ w.cell? ⟨b, off + j * 13 + 1, none⟩ = some (.int .i64 acs[j].kind) ∧ w.cell? ⟨b, off + j * 13 + 2, none⟩ = some (.int .i64 acs[j].at_) ∧ w.cell? ⟨b, off + j * 13 + 3, none⟩ = some (.int .i64 acs[j].n) ∧ w.cell? ⟨b, off + j * 13 + 4, none⟩ = some (acs[j].data) ∧ w.cell? ⟨b, off + j * 13 + 5, none⟩ = some (.int .u64 (acs[j].key : Nat)) ∧ w.cell? ⟨b, off + j * 13 + 6, none⟩ = some (.int .u64 (acs[j].new : Nat)) ∧ w.cell? ⟨b, off + j * 13 + 7, none⟩ = some (.int .i64 acs[j].typ) ∧ w.cell? ⟨b, off + j * 13 + 8, none⟩ = some (.bool acs[j].force) ∧ w.cell? ⟨b, off + j * 13 + 9, none⟩ = some (.bool acs[j].once) ∧ w.cell? ⟨b, off + j * 13 + 10, none⟩ = some (.int .u64 (acs[j].id : Nat)) ∧ w.cell? ⟨b, off + j * 13 + 11, none⟩ = some (.int .u64 (acs[j].floor : Nat)) ∧ w.cell? ⟨b, off + j * 13 + 12, none⟩ = some (.bool acs[j].code) := by
  obtain ⟨A', c', e, h1, h2, _, h3⟩ := h
  injection e with e1 e2 e3
  subst e1
  obtain ⟨b, off, ea, hlt, hc⟩ := h3 (by rintro rfl; simp at hj)
  exact ⟨b, off, ea, hlt, hc j _ (List.getElem?_eq_getElem hj)⟩
section
variable {H : Type} {enc : TypeId × Value → H}
theorem cell_int9 {P : Program} {w : World} {t : TypeId} {k : IntKind} {fuel : Nat} {c : Value} {y : Option (DataW H × List MemPlace)} {x : DataW H × List MemPlace} (ht : P.underlying t = some (.int k)) {cs : List Value} (he : cs.take (P.cellsOf t) = [c]) (hy : y = some x)
    (h : DataW.trod enc P w 0 (fun _ => true) true fuel t (cs.take (P.cellsOf t)) = y) : ∃ n, c = .int k n ∧ (Lit.int k n).wf = true := by
  rw [he, hy] at h
  obtain ⟨n, h1, _, h3⟩ := DataW.trod_int ht h
  exact ⟨n, by simpa using h1, h3⟩
theorem cell_bool9 {P : Program} {w : World} {t : TypeId} {fuel : Nat} {c : Value} {y : Option (DataW H × List MemPlace)} {x : DataW H × List MemPlace} (ht : P.underlying t = some .bool) {cs : List Value} (he : cs.take (P.cellsOf t) = [c]) (hy : y = some x)
    (h : DataW.trod enc P w 0 (fun _ => true) true fuel t (cs.take (P.cellsOf t)) = y) : ∃ n, c = .bool n := by
  rw [he, hy] at h
  obtain ⟨n, h1, _⟩ := DataW.trod_bool ht h
  exact ⟨n, by simpa using h1⟩
theorem list8 {α : Type} (l : List α) (h : l.length = 8) : ∃ c1 c2 c3 c4 c5 c6 c7 c8, l = [c1, c2, c3, c4, c5, c6, c7, c8] := by
  match l, h with
  | [c1, c2, c3, c4, c5, c6, c7, c8], _ => exact ⟨c1, c2, c3, c4, c5, c6, c7, c8, rfl⟩
theorem open_cmd {W : World} {fuel : Nat} {cs : List Value} {x : DataW H × List MemPlace} (hl : cs.length = 8) (hf : DataW.trod enc Try.prog W 0 (fun _ => true) true fuel 25 cs = some x) :
    ∃ (k at_ n typ : Int) (dv : Value) (dl : List UInt8) (key new : Nat) (force : Bool), cs = [.int .i64 k, .int .i64 at_, .int .i64 n, dv, .int .u64 (key : Nat), .int .u64 (new : Nat), .int .i64 typ, .bool force] ∧ I64 k ∧ I64 at_ ∧ I64 n ∧ Sl W W.heap.size dv dl.length (bs dl) ∧ key ≤ 18446744073709551615 ∧ new ≤ 18446744073709551615 ∧ I64 typ := by
  obtain ⟨xs, n, _, _, _, hxl, hfs⟩ := DataW.trod_struct Try.underlying25 hf
  obtain ⟨c1, c2, c3, c4, c5, c6, c7, c8, rfl⟩ := list8 cs hl
  have hx : ∀ i, i < 8 → ∃ y, xs[i]? = some y := fun i hi => ⟨xs[i]'(by rw [hxl]; exact hi), List.getElem?_eq_getElem _⟩
  obtain ⟨y1, hy1⟩ := hx 0 (by omega)
  obtain ⟨n1, rfl, w1⟩ := cell_int9 Try.underlying3 (c := c1) rfl hy1 (hfs 0 _ rfl)
  obtain ⟨y2, hy2⟩ := hx 1 (by omega)
  obtain ⟨n2, rfl, w2⟩ := cell_int9 Try.underlying3 (c := c2) rfl hy2 (hfs 1 _ rfl)
  obtain ⟨y3, hy3⟩ := hx 2 (by omega)
  obtain ⟨n3, rfl, w3⟩ := cell_int9 Try.underlying3 (c := c3) rfl hy3 (hfs 2 _ rfl)
  obtain ⟨y4, hy4⟩ := hx 3 (by omega)
  have f4 := hfs 3 _ rfl
  rw [hy4] at f4
  obtain ⟨l4, hl4⟩ := open_bytes_cell Try.underlying22 Try.underlying5 (by kernel_rfl) (v := c4) f4
  obtain ⟨y5, hy5⟩ := hx 4 (by omega)
  obtain ⟨n5, rfl, w5⟩ := cell_int9 Try.underlying23 (c := c5) rfl hy5 (hfs 4 _ rfl)
  have b5 := bounds_u64 w5
  obtain ⟨m5, rfl, q5⟩ : ∃ m : Nat, n5 = (m : Nat) ∧ m ≤ 18446744073709551615 := ⟨n5.toNat, by omega, by omega⟩
  obtain ⟨y6, hy6⟩ := hx 5 (by omega)
  obtain ⟨n6, rfl, w6⟩ := cell_int9 Try.underlying23 (c := c6) rfl hy6 (hfs 5 _ rfl)
  have b6 := bounds_u64 w6
  obtain ⟨m6, rfl, q6⟩ : ∃ m : Nat, n6 = (m : Nat) ∧ m ≤ 18446744073709551615 := ⟨n6.toNat, by omega, by omega⟩
  obtain ⟨y7, hy7⟩ := hx 6 (by omega)
  obtain ⟨n7, rfl, w7⟩ := cell_int9 Try.underlying3 (c := c7) rfl hy7 (hfs 6 _ rfl)
  obtain ⟨y8, hy8⟩ := hx 7 (by omega)
  obtain ⟨n8, rfl⟩ := cell_bool9 Try.underlying4 (c := c8) rfl hy8 (hfs 7 _ rfl)
  exact ⟨n1, n2, n3, n7, c4, l4, m5, m6, n8, rfl, bounds_i64 w1, bounds_i64 w2, bounds_i64 w3, hl4, q5, q6, bounds_i64 w7⟩
theorem listN {α : Type} (l : List α) (h : l.length = 13) : ∃ c0 c1 c2 c3 c4 c5 c6 c7 c8 c9 c10 c11 c12, l = [c0, c1, c2, c3, c4, c5, c6, c7, c8, c9, c10, c11, c12] := by
  match l, h with
  | [c0, c1, c2, c3, c4, c5, c6, c7, c8, c9, c10, c11, c12], _ => exact ⟨c0, c1, c2, c3, c4, c5, c6, c7, c8, c9, c10, c11, c12, rfl⟩
theorem open_act {W : World} {fuel : Nat} {cs : List Value} {x : DataW H × List MemPlace} (hl : cs.length = 13) (hf : DataW.trod enc Try.prog W 0 (fun _ => true) true fuel 27 cs = some x) :
    ∃ a : ActU, cs = [.int .i64 a.host, .int .i64 a.kind, .int .i64 a.at_, .int .i64 a.n, a.data, .int .u64 (a.key : Nat), .int .u64 (a.new : Nat), .int .i64 a.typ, .bool a.force, .bool a.once, .int .u64 (a.id : Nat), .int .u64 (a.floor : Nat), .bool a.code] ∧ ActOk W W.heap.size a := by
  obtain ⟨xs, n, _, _, _, hxl, hfs⟩ := DataW.trod_struct Try.underlying27 hf
  obtain ⟨c0, c1, c2, c3, c4, c5, c6, c7, c8, c9, c10, c11, c12, rfl⟩ := listN cs hl
  have hx : ∀ i, i < 6 → ∃ y, xs[i]? = some y := fun i hi => ⟨xs[i]'(by rw [hxl]; exact hi), List.getElem?_eq_getElem _⟩
  obtain ⟨y0, hy0⟩ := hx 0 (by omega)
  obtain ⟨n0, rfl, w0⟩ := cell_int9 Try.underlying3 (c := c0) rfl hy0 (hfs 0 _ rfl)
  obtain ⟨y1, hy1⟩ := hx 1 (by omega)
  have fC := hfs 1 _ rfl
  rw [hy1] at fC
  obtain ⟨n1, n2, n3, n7, c4', l4, m5, m6, n8, eC, w1, w2, w3, hl4, q5, q6, w7⟩ := open_cmd (cs := [c1, c2, c3, c4, c5, c6, c7, c8]) rfl fC
  simp only [List.cons.injEq, and_true] at eC
  obtain ⟨rfl, rfl, rfl, rfl, rfl, rfl, rfl, rfl⟩ := eC
  obtain ⟨y9, hy9⟩ := hx 2 (by omega)
  obtain ⟨n9, rfl⟩ := cell_bool9 Try.underlying4 (c := c9) rfl hy9 (hfs 2 _ rfl)
  obtain ⟨y10, hy10⟩ := hx 3 (by omega)
  obtain ⟨n10, rfl, w10⟩ := cell_int9 Try.underlying23 (c := c10) rfl hy10 (hfs 3 _ rfl)
  have b10 := bounds_u64 w10
  obtain ⟨m10, rfl, q10⟩ : ∃ m : Nat, n10 = (m : Nat) ∧ m ≤ 18446744073709551615 := ⟨n10.toNat, by omega, by omega⟩
  obtain ⟨y11, hy11⟩ := hx 4 (by omega)
  obtain ⟨n11, rfl, w11⟩ := cell_int9 Try.underlying23 (c := c11) rfl hy11 (hfs 4 _ rfl)
  have b11 := bounds_u64 w11
  obtain ⟨m11, rfl, q11⟩ : ∃ m : Nat, n11 = (m : Nat) ∧ m ≤ 18446744073709551615 := ⟨n11.toNat, by omega, by omega⟩
  obtain ⟨y12, hy12⟩ := hx 5 (by omega)
  obtain ⟨n12, rfl⟩ := cell_bool9 Try.underlying4 (c := c12) rfl hy12 (hfs 5 _ rfl)
  exact ⟨⟨n0, n1, n2, n3, c4, l4, m5, m6, n7, n8, n9, m10, m11, n12⟩, rfl, ⟨bounds_i64 w0, w1, w2, w3, hl4, q5, q6, w7, rfl, rfl, q10, q11, rfl⟩⟩
theorem open_acts {W : World} {base : Nat} {v : Value} {d : DataW H} {ps : List MemPlace}
    (hval : Value.okWide Try.prog W .any base 30 v) (h : DataW.Trod enc Try.prog W 0 (fun _ => true) true 30 v d ps) :
    ∃ acs : List ActU, Acts W W.heap.size v acs := by
  obtain ⟨a, len, cap, rfl⟩ := okWide_slice Try.underlying30 hval
  obtain ⟨fuel, hf⟩ := h
  have hc5 : Try.prog.cellsOf 27 = 13 := by kernel_rfl
  rcases open_slice Try.underlying30 hf with ⟨hcs, hx⟩ | ⟨a', len', cap', m, n, D, Pl, hcs, _, hl, hm, hmm, hx, hV⟩
  · simp [Value.cells] at hcs
    obtain ⟨rfl, rfl, rfl⟩ := hcs
    exact ⟨[], none, 0, rfl, by simp, by simp, by simp, fun h => absurd rfl h⟩
  · simp [Value.cells] at hcs
    obtain ⟨rfl, rfl, rfl⟩ := hcs
    simp only [if_true] at hmm
    obtain ⟨acs, hL, hp⟩ := choose_list (p := fun i (a : ActU) => (∀ j, j < 13 → W.cell? (a'.add (i * 13 + j)) = ([.int .i64 a.host, .int .i64 a.kind, .int .i64 a.at_, .int .i64 a.n, a.data, .int .u64 (a.key : Nat), .int .u64 (a.new : Nat), .int .i64 a.typ, .bool a.force, .bool a.once, .int .u64 (a.id : Nat), .int .u64 (a.floor : Nat), .bool a.code] : List Value)[j]?) ∧ ActOk W W.heap.size a) len (fun i hi => by
      obtain ⟨cs', h1, h2⟩ := hV i (by omega)
      rw [hc5] at h1
      obtain ⟨_, hlen, hcell⟩ := World.cells?_some h1
      obtain ⟨a, rfl, hok⟩ := open_act hlen h2
      refine ⟨a, fun j hj => ?_, hok⟩
      rw [← hcell j hj, add_add])
    refine ⟨acs, some a', cap, by rw [hL], by omega, hm, fun a ha => ?_, fun hne => ?_⟩
    · obtain ⟨i, hi, rfl⟩ := List.getElem_of_mem ha
      exact (hp i hi).2
    · have h0 : 0 < acs.length := List.length_pos_iff.2 hne
      have c0 := (hp 0 h0).1 0 (by omega)
      simp only [Nat.zero_mul, Nat.zero_add, List.getElem?_cons_zero] at c0
      obtain ⟨b, off, spot⟩ := a'
      have hspot : spot = none := by simpa [Addr.add] using World.cell?_spot c0
      subst hspot
      refine ⟨b, off, rfl, World.block_lt_of_cell? W _ (by simpa [Addr.add] using c0), fun j a hj => ?_⟩
      obtain ⟨hjl, rfl⟩ := List.getElem?_eq_some_iff.1 hj
      have hc := (hp j hjl).1
      simp only [add_plain] at hc
      refine ⟨hc 0 (by omega), hc 1 (by omega), hc 2 (by omega), hc 3 (by omega), hc 4 (by omega), hc 5 (by omega), hc 6 (by omega), hc 7 (by omega), hc 8 (by omega), hc 9 (by omega), hc 10 (by omega), hc 11 (by omega), hc 12 (by omega)⟩
end
end Go.Proofs.Ytpkebbibafldkaa
