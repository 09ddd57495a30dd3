/- A PDU that is handed in: opened. -/
import Derived.Test.YtafpaigifemjjaaBase2
import Derived.Test.YtafpaigifemjjaaPd1
namespace Go.Proofs.Ytafpaigifemjjaa
open Go.ChangeShapes Go.WideShapes Go.ChangeAt Go.RowKit
set_option linter.unusedVariables false
theorem list27 {α : Type} (l : List α) (h : l.length = 27) : ∃ c0 c1 c2 c3 c4 c5 c6 c7 c8 c9 c10 c11 c12 c13 c14 c15 c16 c17 c18 c19 c20 c21 c22 c23 c24 c25 c26, l = [c0, c1, c2, c3, c4, c5, c6, c7, c8, c9, c10, c11, c12, c13, c14, c15, c16, c17, c18, c19, c20, c21, c22, c23, c24, c25, c26] := by
  match l, h with
  | [c0, c1, c2, c3, c4, c5, c6, c7, c8, c9, c10, c11, c12, c13, c14, c15, c16, c17, c18, c19, c20, c21, c22, c23, c24, c25, c26], _ => exact ⟨c0, c1, c2, c3, c4, c5, c6, c7, c8, c9, c10, c11, c12, c13, c14, c15, c16, c17, c18, c19, c20, c21, c22, c23, c24, c25, c26, rfl⟩
section
variable {H : Type} {enc : TypeId × Value → H}
theorem cell_int {P : Program} {w : World} {t : TypeId} {k : IntKind} {fuel : Nat} {c : Value} {y : Option (DataW H × List MemPlace)} {x : DataW H × List MemPlace} (ht : P.underlying t = some (.int k)) (hc : P.cellsOf t = 1) {cs : List Value} (he : cs.take (P.cellsOf t) = [c]) (hy : y = some x)
    (h : DataW.trod enc P w 0 (fun _ => true) true fuel t (cs.take (P.cellsOf t)) = y) : ∃ n, c = .int k n ∧ (Lit.int k n).wf = true := by
  rw [he, hy] at h
  obtain ⟨n, h1, _, h3⟩ := DataW.trod_int ht h
  exact ⟨n, by simpa using h1, h3⟩
theorem cell_bool {P : Program} {w : World} {t : TypeId} {fuel : Nat} {c : Value} {y : Option (DataW H × List MemPlace)} {x : DataW H × List MemPlace} (ht : P.underlying t = some .bool) {cs : List Value} (he : cs.take (P.cellsOf t) = [c]) (hy : y = some x)
    (h : DataW.trod enc P w 0 (fun _ => true) true fuel t (cs.take (P.cellsOf t)) = y) : ∃ b, c = .bool b := by
  rw [he, hy] at h
  obtain ⟨n, h1, _⟩ := DataW.trod_bool ht h
  exact ⟨n, by simpa using h1⟩
theorem cell_row {P : Program} {w : World} {t e : TypeId} {m : Nat} {fuel : Nat} {y : Option (DataW H × List MemPlace)} {x : DataW H × List MemPlace} (ht : P.underlying t = some (.array m e)) (he : P.underlying e = some (.int .u8)) (hc : P.cellsOf e = 1) {cs : List Value} (hl : cs.length = m) (hy : y = some x)
    (h : DataW.trod enc P w 0 (fun _ => true) true fuel t cs = y) : ∃ l : List UInt8, cs = bs l := by
  rw [hy] at h
  obtain ⟨xs, k, _, _, hlc, hx, hel⟩ := DataW.trod_array ht h
  have hall : ∀ c ∈ cs, ∃ b : UInt8, c = .int .u8 (b.toNat : Nat) := by
    intro c hc'
    obtain ⟨i, hi, rfl⟩ := List.getElem_of_mem hc'
    have h1 := hel i (by omega)
    rw [hc, Nat.mul_one, List.drop_eq_getElem_cons hi, List.take_succ_cons, List.take_zero, List.getElem?_eq_getElem (by omega)] at h1
    obtain ⟨n, h2, _, h3⟩ := DataW.trod_int he h1
    have hb := bounds_u8 h3
    refine ⟨UInt8.ofNat n.toNat, ?_⟩
    have h4 : cs[i] = .int .u8 n := by simpa using h2
    rw [h4, UInt8.toNat_ofNat']
    congr 1
    omega
  clear hel hx hlc hl h hy
  induction cs with
  | nil => exact ⟨[], rfl⟩
  | cons c cs ih =>
    obtain ⟨b, rfl⟩ := hall c (by simp)
    obtain ⟨l, rfl⟩ := ih (fun c' h' => hall c' (by simp [h']))
    exact ⟨b :: l, rfl⟩
set_option maxHeartbeats 2000000 in
theorem open_pdu {W : World} {base : Nat} {v : Value} {d : DataW H} {ps : List MemPlace}
    (hval : Value.okWide Try.prog W .any base 26 v) (h : DataW.Trod enc Try.prog W 0 (fun _ => true) true 26 v d ps) :
    ∃ (op fl st : Int) (fin : Bool) (tag sn ex mx off len : Nat) (cdb l : List UInt8) (dv : Value), v = pduV op fin fl st tag sn ex mx off len cdb dv ∧ cdb.length = 16 ∧ Sl W W.heap.size dv l.length (bs l) ∧
      (-9223372036854775808 ≤ op ∧ op ≤ 9223372036854775807) ∧ (-9223372036854775808 ≤ fl ∧ fl ≤ 9223372036854775807) ∧ (-9223372036854775808 ≤ st ∧ st ≤ 9223372036854775807) ∧ tag < 4294967296 ∧ sn < 4294967296 ∧ ex < 4294967296 ∧ mx < 4294967296 ∧ off < 4294967296 ∧ len < 4294967296 := by
  unfold Value.okWide at hval
  rw [Try.underlying26] at hval
  obtain ⟨ca, rfl, hsz, _⟩ := hval
  have h27 : ca.size = 27 := by rw [hsz]; kernel_rfl
  obtain ⟨fuel, hf⟩ := h
  obtain ⟨xs, n, _, _, _, hxl, hfs⟩ := DataW.trod_struct Try.underlying26 hf
  have hcells : (Value.agg ca).cells.toList = ca.toList := rfl
  rw [hcells] at hfs
  obtain ⟨c0, c1, c2, c3, c4, c5, c6, c7, c8, c9, c10, c11, c12, c13, c14, c15, c16, c17, c18, c19, c20, c21, c22, c23, c24, c25, c26, hca⟩ := list27 ca.toList (by simpa using h27)
  have hca' : ca = #[c0, c1, c2, c3, c4, c5, c6, c7, c8, c9, c10, c11, c12, c13, c14, c15, c16, c17, c18, c19, c20, c21, c22, c23, c24, c25, c26] := by
    apply Array.toList_inj.1
    rw [hca]
  subst hca'
  clear hca hcells hf hsz h27
  have hx : ∀ i, i < 12 → ∃ y, xs[i]? = some y := fun i hi => ⟨xs[i]'(by rw [hxl]; exact hi), List.getElem?_eq_getElem _⟩
  obtain ⟨y0, hy0⟩ := hx 0 (by omega)
  obtain ⟨n0, rfl, w0⟩ := cell_int Try.underlying3 (by kernel_rfl) (c := c0) rfl hy0 (hfs 0 _ rfl)
  obtain ⟨y1, hy1⟩ := hx 1 (by omega)
  obtain ⟨b1, rfl⟩ := cell_bool Try.underlying4 (c := c1) rfl hy1 (hfs 1 _ rfl)
  obtain ⟨y2, hy2⟩ := hx 2 (by omega)
  obtain ⟨n2, rfl, w2⟩ := cell_int Try.underlying3 (by kernel_rfl) (c := c2) rfl hy2 (hfs 2 _ rfl)
  obtain ⟨y3, hy3⟩ := hx 3 (by omega)
  obtain ⟨n3, rfl, w3⟩ := cell_int Try.underlying3 (by kernel_rfl) (c := c3) rfl hy3 (hfs 3 _ rfl)
  obtain ⟨y4, hy4⟩ := hx 4 (by omega)
  obtain ⟨n4, rfl, w4⟩ := cell_int Try.underlying22 (by kernel_rfl) (c := c4) rfl hy4 (hfs 4 _ rfl)
  obtain ⟨y5, hy5⟩ := hx 5 (by omega)
  obtain ⟨n5, rfl, w5⟩ := cell_int Try.underlying22 (by kernel_rfl) (c := c5) rfl hy5 (hfs 5 _ rfl)
  obtain ⟨y6, hy6⟩ := hx 6 (by omega)
  obtain ⟨n6, rfl, w6⟩ := cell_int Try.underlying22 (by kernel_rfl) (c := c6) rfl hy6 (hfs 6 _ rfl)
  obtain ⟨y7, hy7⟩ := hx 7 (by omega)
  obtain ⟨n7, rfl, w7⟩ := cell_int Try.underlying22 (by kernel_rfl) (c := c7) rfl hy7 (hfs 7 _ rfl)
  obtain ⟨y8, hy8⟩ := hx 8 (by omega)
  obtain ⟨n8, rfl, w8⟩ := cell_int Try.underlying22 (by kernel_rfl) (c := c8) rfl hy8 (hfs 8 _ rfl)
  obtain ⟨y9, hy9⟩ := hx 9 (by omega)
  obtain ⟨n9, rfl, w9⟩ := cell_int Try.underlying22 (by kernel_rfl) (c := c9) rfl hy9 (hfs 9 _ rfl)
  obtain ⟨y11, hy11⟩ := hx 11 (by omega)
  have f11 := hfs 11 _ rfl
  rw [hy11] at f11
  obtain ⟨l, hl⟩ := open_bytes_cell Try.underlying24 Try.underlying5 (by kernel_rfl) (v := c26) f11
  obtain ⟨y10, hy10⟩ := hx 10 (by omega)
  have f10 := hfs 10 _ rfl
  obtain ⟨cdb, hcdb⟩ := cell_row (cs := [c10, c11, c12, c13, c14, c15, c16, c17, c18, c19, c20, c21, c22, c23, c24, c25]) Try.underlying23 Try.underlying5 (by kernel_rfl) rfl hy10 f10
  have hcl : cdb.length = 16 := by
    have := congrArg List.length hcdb
    simp [bs] at this
    omega
  refine ⟨n0, n2, n3, b1, n4.toNat, n5.toNat, n6.toNat, n7.toNat, n8.toNat, n9.toNat, cdb, l, c26, ?_, hcl, hl, bounds_i64 w0, bounds_i64 w2, bounds_i64 w3, ?_, ?_, ?_, ?_, ?_, ?_⟩
  · unfold pduV
    rw [← hcdb]
    have u4 := bounds_u32 w4; have u5 := bounds_u32 w5; have u6 := bounds_u32 w6; have u7 := bounds_u32 w7; have u8 := bounds_u32 w8; have u9 := bounds_u32 w9
    rw [Int.toNat_of_nonneg u4.1, Int.toNat_of_nonneg u5.1, Int.toNat_of_nonneg u6.1, Int.toNat_of_nonneg u7.1, Int.toNat_of_nonneg u8.1, Int.toNat_of_nonneg u9.1]
    rfl
  · have := bounds_u32 w4; omega
  · have := bounds_u32 w5; omega
  · have := bounds_u32 w6; omega
  · have := bounds_u32 w7; omega
  · have := bounds_u32 w8; omega
  · have := bounds_u32 w9; omega
end
end Go.Proofs.Ytafpaigifemjjaa
