/- Acts that are handed in: a slice of structs of four numbers and bytes; what they show; few. -/
import Derived.Test.YtmlimmcaidkoeaaNtL
import Derived.Test.YtmlimmcaidkoeaaBase2
import Derived.LoopTactic
namespace Go.Proofs.Ytmlimmcaidkoeaa
open Go.ChangeShapes Go.WideShapes Go.ChangeAt Go.RowKit Go.Deep Go.Lib
set_option linter.unusedVariables false
structure Act9 where
  op : Int
  fr : Int
  to : Int
  n : Int
  d : Value
  l : List UInt8
def I64 (n : Int) : Prop := -9223372036854775808 ≤ n ∧ n ≤ 9223372036854775807
structure ActOk (w : World) (B : Nat) (a : Act9) : Prop where
  op : I64 a.op
  fr : I64 a.fr
  to : I64 a.to
  n : I64 a.n
  sl : Sl w B a.d a.l.length (bs a.l)
/-- The slice v shows these acts, in blocks below B. -/
def Acts (w : World) (B : Nat) (v : Value) (acs : List Act9) : Prop :=
  ∃ A c, v = .slice A acs.length c ∧ acs.length ≤ c ∧ c ≤ maxLen ∧ (∀ a ∈ acs, ActOk w B a) ∧
    (acs ≠ [] → ∃ b off, A = some ⟨b, off, none⟩ ∧ b < B ∧ ∀ j a, acs[j]? = some a → w.cell? ⟨b, off + j * 5, none⟩ = some (.int .i64 a.op) ∧ w.cell? ⟨b, off + j * 5 + 1, none⟩ = some (.int .i64 a.fr) ∧ w.cell? ⟨b, off + j * 5 + 2, none⟩ = some (.int .i64 a.to) ∧ w.cell? ⟨b, off + j * 5 + 3, none⟩ = some (.int .i64 a.n) ∧ w.cell? ⟨b, off + j * 5 + 4, none⟩ = some a.d)
theorem Acts.below {w w' : World} {B : Nat} {v : Value} {acs : List Act9} (h : Acts w B v acs) (hb : Below B w w') : Acts w' B v acs := by
  obtain ⟨A, c, e, h1, h2, h3, h4⟩ := h
  refine ⟨A, c, e, h1, h2, fun a ha => ⟨(h3 a ha).op, (h3 a ha).fr, (h3 a ha).to, (h3 a ha).n, (h3 a ha).sl.below hb⟩, fun hx => ?_⟩
  obtain ⟨b, off, ea, hlt, hc⟩ := h4 hx
  exact ⟨b, off, ea, hlt, fun j p hp => ⟨(hb.cell (p := ⟨b, _, none⟩) hlt).trans (hc j p hp).1, (hb.cell (p := ⟨b, _, none⟩) hlt).trans (hc j p hp).2.1, (hb.cell (p := ⟨b, _, none⟩) hlt).trans (hc j p hp).2.2.1, (hb.cell (p := ⟨b, _, none⟩) hlt).trans (hc j p hp).2.2.2.1, (hb.cell (p := ⟨b, _, none⟩) hlt).trans (hc j p hp).2.2.2.2⟩⟩
theorem Acts.form {w : World} {B : Nat} {v : Value} {acs : List Act9} (h : Acts w B v acs) : ∃ A c, v = .slice A acs.length c ∧ acs.length ≤ c ∧ c ≤ maxLen := by
  obtain ⟨A, c, e, h1, h2, _⟩ := h
  exact ⟨A, c, e, h1, h2⟩
theorem Acts.ok {w : World} {B : Nat} {v : Value} {acs : List Act9} (h : Acts w B v acs) : ∀ a ∈ acs, ActOk w B a := by
  obtain ⟨A, c, e, h1, h2, h3, _⟩ := h
  exact h3
theorem Acts.at_ {w : World} {B : Nat} {A : Option Addr} {c : Nat} {acs : List Act9} (h : Acts w B (.slice A acs.length c) acs) {j : Nat} (hj : j < acs.length) :
    ∃ b off, A = some ⟨b, off, none⟩ ∧ b < B ∧ w.cell? ⟨b, off + j * 5, none⟩ = some (.int .i64 acs[j].op) ∧ w.cell? ⟨b, off + j * 5 + 1, none⟩ = some (.int .i64 acs[j].fr) ∧ w.cell? ⟨b, off + j * 5 + 2, none⟩ = some (.int .i64 acs[j].to) ∧ w.cell? ⟨b, off + j * 5 + 3, none⟩ = some (.int .i64 acs[j].n) ∧ w.cell? ⟨b, off + j * 5 + 4, none⟩ = some acs[j].d := by
  obtain ⟨A', c', e, h1, h2, _, h3⟩ := h
  injection e with e1 e2 e3
  subst e1
  obtain ⟨b, off, ea, hlt, hc⟩ := h3 (by rintro rfl; simp at hj)
  exact ⟨b, off, ea, hlt, hc j _ (List.getElem?_eq_getElem hj)⟩
section
variable {H : Type} {enc : TypeId × Value → H}
theorem cell_int9 {P : Program} {w : World} {t : TypeId} {k : IntKind} {fuel : Nat} {c : Value} {y : Option (DataW H × List MemPlace)} {x : DataW H × List MemPlace} (ht : P.underlying t = some (.int k)) {cs : List Value} (he : cs.take (P.cellsOf t) = [c]) (hy : y = some x)
    (h : DataW.trod enc P w 0 (fun _ => true) true fuel t (cs.take (P.cellsOf t)) = y) : ∃ n, c = .int k n ∧ (Lit.int k n).wf = true := by
  rw [he, hy] at h
  obtain ⟨n, h1, _, h3⟩ := DataW.trod_int ht h
  exact ⟨n, by simpa using h1, h3⟩
theorem list5 {α : Type} (l : List α) (h : l.length = 5) : ∃ c0 c1 c2 c3 c4, l = [c0, c1, c2, c3, c4] := by
  match l, h with
  | [c0, c1, c2, c3, c4], _ => exact ⟨c0, c1, c2, c3, c4, rfl⟩
theorem open_act {W : World} {fuel : Nat} {cs : List Value} {x : DataW H × List MemPlace} (hl : cs.length = 5) (hf : DataW.trod enc Try.prog W 0 (fun _ => true) true fuel 35 cs = some x) :
    ∃ a : Act9, cs = [.int .i64 a.op, .int .i64 a.fr, .int .i64 a.to, .int .i64 a.n, a.d] ∧ ActOk W W.heap.size a := by
  obtain ⟨xs, n, _, _, _, hxl, hfs⟩ := DataW.trod_struct Try.underlying35 hf
  obtain ⟨c0, c1, c2, c3, c4, rfl⟩ := list5 cs hl
  have hx : ∀ i, i < 5 → ∃ y, xs[i]? = some y := fun i hi => ⟨xs[i]'(by rw [hxl]; exact hi), List.getElem?_eq_getElem _⟩
  obtain ⟨y0, hy0⟩ := hx 0 (by omega)
  obtain ⟨n0, rfl, w0⟩ := cell_int9 Try.underlying3 (c := c0) rfl hy0 (hfs 0 _ rfl)
  obtain ⟨y1, hy1⟩ := hx 1 (by omega)
  obtain ⟨n1, rfl, w1⟩ := cell_int9 Try.underlying3 (c := c1) rfl hy1 (hfs 1 _ rfl)
  obtain ⟨y2, hy2⟩ := hx 2 (by omega)
  obtain ⟨n2, rfl, w2⟩ := cell_int9 Try.underlying3 (c := c2) rfl hy2 (hfs 2 _ rfl)
  obtain ⟨y3, hy3⟩ := hx 3 (by omega)
  obtain ⟨n3, rfl, w3⟩ := cell_int9 Try.underlying3 (c := c3) rfl hy3 (hfs 3 _ rfl)
  obtain ⟨y4, hy4⟩ := hx 4 (by omega)
  have f4 := hfs 4 _ rfl
  rw [hy4] at f4
  obtain ⟨l, hl⟩ := open_bytes_cell Try.underlying33 Try.underlying5 (by kernel_rfl) (v := c4) f4
  exact ⟨⟨n0, n1, n2, n3, c4, l⟩, rfl, bounds_i64 w0, bounds_i64 w1, bounds_i64 w2, bounds_i64 w3, hl⟩
theorem open_acts {W : World} {base : Nat} {v : Value} {d : DataW H} {ps : List MemPlace}
    (hval : Value.okWide Try.prog W .any base 22 v) (h : DataW.Trod enc Try.prog W 0 (fun _ => true) true 22 v d ps) :
    ∃ acs : List Act9, Acts W W.heap.size v acs := by
  obtain ⟨a, len, cap, rfl⟩ := okWide_slice Try.underlying22 hval
  obtain ⟨fuel, hf⟩ := h
  have hc5 : Try.prog.cellsOf 35 = 5 := by kernel_rfl
  rcases open_slice Try.underlying22 hf with ⟨hcs, hx⟩ | ⟨a', len', cap', m, n, D, Pl, hcs, _, hl, hm, hmm, hx, hV⟩
  · simp [Value.cells] at hcs
    obtain ⟨rfl, rfl, rfl⟩ := hcs
    exact ⟨[], none, 0, rfl, by simp, by simp, by simp, fun h => absurd rfl h⟩
  · simp [Value.cells] at hcs
    obtain ⟨rfl, rfl, rfl⟩ := hcs
    simp only [if_true] at hmm
    obtain ⟨acs, hL, hp⟩ := choose_list (p := fun i (a : Act9) => (∀ j, j < 5 → W.cell? (a'.add (i * 5 + j)) = ([.int .i64 a.op, .int .i64 a.fr, .int .i64 a.to, .int .i64 a.n, a.d] : List Value)[j]?) ∧ ActOk W W.heap.size a) len (fun i hi => by
      obtain ⟨cs', h1, h2⟩ := hV i (by omega)
      rw [hc5] at h1
      obtain ⟨_, hlen, hcell⟩ := World.cells?_some h1
      obtain ⟨a, rfl, hok⟩ := open_act hlen h2
      refine ⟨a, fun j hj => ?_, hok⟩
      rw [← hcell j hj, add_add])
    refine ⟨acs, some a', cap, by rw [hL], by omega, hm, fun a ha => ?_, fun hne => ?_⟩
    · obtain ⟨i, hi, rfl⟩ := List.getElem_of_mem ha
      exact (hp i hi).2
    · have h0 : 0 < acs.length := List.length_pos_iff.2 hne
      have c0 := (hp 0 h0).1 0 (by omega)
      simp only [Nat.zero_mul, Nat.zero_add, List.getElem?_cons_zero] at c0
      obtain ⟨b, off, spot⟩ := a'
      have hspot : spot = none := by simpa [Addr.add] using World.cell?_spot c0
      subst hspot
      refine ⟨b, off, rfl, World.block_lt_of_cell? W _ (by simpa [Addr.add] using c0), fun j a hj => ?_⟩
      obtain ⟨hjl, rfl⟩ := List.getElem?_eq_some_iff.1 hj
      have hc := (hp j hjl).1
      simp only [add_plain] at hc
      refine ⟨hc 0 (by omega), hc 1 (by omega), hc 2 (by omega), hc 3 (by omega), hc 4 (by omega)⟩
end
/-- few. -/
def fineA (a : Act9) : Bool := decide (¬ (200 < a.l.length ∧ a.l.length < 8190 ∨ 8200 < a.l.length))
def fewB (acs : List Act9) : Bool := decide (acs.length ≤ 150) && acs.all fineA
theorem few_ret {acs : List Act9} {b : Bool} (h : fewB acs = b) : Ending.returned (.bool b) = .returned (.bool (fewB acs)) := by rw [h]
set_option maxRecDepth 100000 in
set_option maxHeartbeats 2000000 in
theorem few_any (v : Value) (acs : List Act9) (w : World) (hv : Acts w w.heap.size v acs) :
    Calls Try.prog 10 #[v] w fun e w' => e = .returned (.bool (fewB acs)) ∧ w = w' := by
  obtain ⟨A, c, rfl, hc1, hc2⟩ := hv.form
  unfold maxLen at hc2
  by_cases h150 : acs.length ≤ 150
  · have h150x : (acs.length : Int) ≤ 150 := by omega
    go_enter Try.func10, Try.ntmps10
    go_wp2
    go_loopw [3] (fun i wr => ∃ k : Nat, k ≤ acs.length ∧ i = .int .i64 k ∧ (∀ j (h : j < acs.length), j < k → fineA acs[j] = true) ∧ w = wr) (fun i _ => acs.length - (intOf i).toNat)
    case atStart => exact ⟨0, Nat.zero_le _, rfl, fun j _ h => by omega, rfl⟩
    case round =>
      obtain ⟨k, hk, rfl, hno, rfl⟩ := hrel
      by_cases hlt : k < acs.length
      · have hltx : (k : Int) < (acs.length : Int) := by omega
        obtain ⟨b, off, rfl, hb, x0, x1, x2, x3, x4⟩ := hv.at_ hlt
        have hok := hv.ok _ (List.getElem_mem hlt)
        obtain ⟨a, ha⟩ : ∃ a, acs[k] = a := ⟨_, rfl⟩
        have hnx : ∀ j (h : j < acs.length), j < k + 1 → fineA a = true → fineA acs[j] = true := by
          intro j hj hjk hf
          rcases Nat.lt_or_ge j k with h | h
          · exact hno j hj h
          · obtain rfl : j = k := by omega
            rw [ha]; exact hf
        have hbad : fineA a = false → fewB acs = false := by
          intro hf
          unfold fewB
          rw [Bool.and_eq_false_iff]
          right
          rw [List.all_eq_false]
          exact ⟨a, ha ▸ List.getElem_mem hlt, by simp [hf]⟩
        rw [ha] at x0 x1 x2 x3 x4 hok
        obtain ⟨Ad, cd, hd, _, _⟩ := hok.sl.form
        rw [hd] at x4
        obtain ⟨m, hm⟩ : ∃ m, a.l.length = m := ⟨_, rfl⟩
        have hfine : fineA a = decide (¬ (200 < m ∧ m < 8190 ∨ 8200 < m)) := by unfold fineA; rw [hm]
        rw [hm] at x4
        clear ha hno hok hd hm
        by_cases h1 : m ≤ 200
        · have h1x : (m : Int) ≤ 200 := by omega
          have h2x : ¬ 8200 < (m : Int) := by omega
          have hf : fineA a = true := by rw [hfine]; exact decide_eq_true (by omega)
          clear hfine
          go_wp2
          exact ⟨⟨k + 1, by omega, by go_num, fun j hj h => hnx j hj h hf, trivial⟩, by simp [intOf]; omega⟩
        · have h1x : 200 < (m : Int) := by omega
          by_cases h2 : m < 8190
          · have h2x : (m : Int) < 8190 := by omega
            have hf := hbad (by rw [hfine]; exact decide_eq_false (by omega))
            clear hfine hnx hbad
            go_wp2
            go_ret
            exact ⟨few_ret hf, rfl⟩
          · have h2x : 8190 ≤ (m : Int) := by omega
            by_cases h3 : m ≤ 8200
            · have h3x : (m : Int) ≤ 8200 := by omega
              have hf : fineA a = true := by rw [hfine]; exact decide_eq_true (by omega)
              clear hfine
              go_wp2
              exact ⟨⟨k + 1, by omega, by go_num, fun j hj h => hnx j hj h hf, trivial⟩, by simp [intOf]; omega⟩
            · have h3x : 8200 < (m : Int) := by omega
              have hf := hbad (by rw [hfine]; exact decide_eq_false (by omega))
              clear hfine hnx hbad
              go_wp2
              go_ret
              exact ⟨few_ret hf, rfl⟩
      · obtain rfl : k = acs.length := by omega
        have hf : fewB acs = true := by
          unfold fewB
          rw [Bool.and_eq_true]
          refine ⟨decide_eq_true h150, List.all_eq_true.2 fun a ha => ?_⟩
          obtain ⟨j, hj, rfl⟩ := List.getElem_of_mem ha
          exact hno j hj hj
        go_wp2
        go_ret
        exact ⟨few_ret hf, rfl⟩
  · have h150x : 150 < (acs.length : Int) := by omega
    have hf : fewB acs = false := by unfold fewB; rw [decide_eq_false h150]; rfl
    go_enter Try.func10, Try.ntmps10
    go_wp2
    go_ret
    exact ⟨few_ret hf, rfl⟩
end Go.Proofs.Ytmlimmcaidkoeaa
