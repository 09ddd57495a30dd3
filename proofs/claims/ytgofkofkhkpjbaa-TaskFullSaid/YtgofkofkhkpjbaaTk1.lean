/- Package task: what lies in memory; New, Len, the closures, IndexFunc, place: contracts. -/
import Derived.Test.YtgofkofkhkpjbaaMm
namespace Go.Proofs.Ytgofkofkhkpjbaa
open Go.ChangeShapes Go.WideShapes Go.ChangeAt Go.RowKit Go.Lib
set_option linter.unusedVariables false
set_option linter.unusedSimpArgs false
namespace Tk
/-- A task. -/
structure Tk where
  tag : Nat
  attr : Int
  st : Bool
def Tk.cells (p : Tk) : List Value := [.int .u32 (p.tag : Nat), .int .i64 p.attr, .bool p.st]
def flat (L : List Tk) : List Value := L.flatMap Tk.cells
theorem flat_len (L : List Tk) : (flat L).length = L.length * 3 := by
  induction L with
  | nil => rfl
  | cons p L ih => simp only [flat, List.flatMap_cons, List.length_append, List.length_cons] at ih ⊢; rw [ih]; simp [Tk.cells]; omega
theorem flat_app (L K : List Tk) : flat (L ++ K) = flat L ++ flat K := by simp [flat]
theorem flat_at (L : List Tk) (i : Nat) (h : i < L.length) (j : Nat) (hj : j < 3) : (flat L)[3 * i + j]? = (L[i].cells)[j]? := by
  induction L generalizing i with
  | nil => simp at h
  | cons p L ih =>
    have e : flat (p :: L) = p.cells ++ flat L := rfl
    rw [e]
    cases i with
    | zero => rw [List.getElem?_append_left (by simp [Tk.cells]; omega)]; simp
    | succ i =>
      rw [List.getElem?_append_right (by simp [Tk.cells]; omega)]
      have := ih i (by simpa using h)
      simp only [List.getElem_cons_succ]
      rw [← this]
      congr 1
      simp [Tk.cells]; omega
theorem flat_take (L : List Tk) (i : Nat) : (flat L).take (3 * i) = flat (L.take i) := by
  induction L generalizing i with
  | nil => simp [flat]
  | cons p L ih =>
    have e : flat (p :: L) = p.cells ++ flat L := rfl
    cases i with
    | zero => simp [flat]
    | succ i =>
      rw [e, List.take_succ_cons, show flat (p :: L.take i) = p.cells ++ flat (L.take i) from rfl, ← ih i, List.take_append]
      rw [List.take_of_length_le (by simp [Tk.cells]; omega)]
      congr 2
theorem flat_drop (L : List Tk) (i : Nat) : (flat L).drop (3 * i) = flat (L.drop i) := by
  induction L generalizing i with
  | nil => simp [flat]
  | cons p L ih =>
    have e : flat (p :: L) = p.cells ++ flat L := rfl
    cases i with
    | zero => simp
    | succ i =>
      rw [e, List.drop_succ_cons, ← ih i, List.drop_append]
      rw [List.drop_of_length_le (by simp [Tk.cells]; omega), List.nil_append]
      congr 1
theorem flat_one (L : List Tk) : ∀ u ∈ flat L, u.oneCell' = true := by
  intro u hu
  simp only [flat, List.mem_flatMap] at hu
  obtain ⟨p, hp, hu⟩ := hu
  simp only [Tk.cells, List.mem_cons, List.not_mem_nil, or_false] at hu
  rcases hu with rfl | rfl | rfl <;> rfl
theorem Tag.not {w : World} {k t u : Nat} (h : Tag w k t) (hn : t ≠ u) : ¬ Tag w k u := fun g => h.ne g hn rfl
theorem one_info : (Try.prog.info? 42).map (fun i => (i.zero, i.size)) = some (some (.agg #[.int .u32 0, .int .i64 0, .bool false]), 3) := by kernel_rfl
theorem one_parts : ∃ i, Try.prog.info? 42 = some i ∧ i.zero = some (.agg #[.int .u32 0, .int .i64 0, .bool false]) ∧ i.size = 3 := by
  have h := one_info
  obtain ⟨i, hi, he⟩ : ∃ i, Try.prog.info? 42 = some i ∧ (i.zero, i.size) = (some (Value.agg #[.int .u32 0, .int .i64 0, .bool false]), 3) := Option.map_eq_some_iff.1 h
  simp only [Prod.mk.injEq] at he
  exact ⟨i, hi, he.1, he.2⟩
/-- A set in block X, its tasks in v's row. -/
structure TkM (w : World) (B X m : Nat) (v : Value) (L : List Tk) : Prop where
  base : B ≤ X
  mem : Mem w X 38 #[.int .i64 (m : Nat), v]
  row : w.ownsRow B 42 3 v L.length (flat L)
  few : L.length ≤ 256
def NS (X : Nat) (v : Value) : Nat → Prop := fun k => k = X ∨ v.ownBlock = some k
section
variable {w w' : World} {B X m : Nat} {v : Value} {L : List Tk}
theorem TkM.below (h : TkM w B X m v L) (hb : Below w.heap.size w w') : TkM w' B X m v L := ⟨h.base, h.mem.below hb h.mem.lt, owns_below h.row hb, h.few⟩
theorem TkM.ns (h : TkM w B X m v L) : ∀ k, NS X v k → k < w.heap.size ∧ B ≤ k ∧ (Tag w k 38 ∨ Tag w k 42) := by
  rintro k (rfl | hk)
  · exact ⟨h.mem.lt, h.base, .inl (mem_tag h.mem)⟩
  · have := own_tag h.row k hk
    exact ⟨this.2.1, this.1, .inr this.2.2⟩
theorem TkM.apart (h : TkM w B X m v L) : ¬ v.ownBlock = some X := fun e => (mem_tag h.mem).ne (own_tag h.row X e).2.2 (by decide) rfl
theorem TkM.eff {S : Nat → Prop} (h : TkM w B X m v L) (hb : Eff S w w') (h1 : ∀ k, NS X v k → ¬ S k) : TkM w' B X m v L :=
  ⟨h.base, (hb.block X h.mem.lt (h1 X (.inl rfl))).trans h.mem, owns_eff h.row hb fun k hk => h1 k (.inr hk), h.few⟩
theorem TkM.parts (h : TkM w B X m v L) : ∃ A c, v = .slice A L.length c ∧ L.length ≤ c ∧ c ≤ maxLen := own_form h.row
theorem row_at {c : Nat} {A : Option Addr} (ho : w.ownsRow B 42 3 (.slice A L.length c) L.length (flat L)) {i : Nat} (hi : i < L.length) :
    ∃ g, A = some ⟨g, 0, none⟩ ∧ B ≤ g ∧ g < w.heap.size ∧ w.cell? ⟨g, i * 3, none⟩ = some (.int .u32 (L[i].tag : Nat)) ∧ w.cell? ⟨g, i * 3 + 1, none⟩ = some (.int .i64 L[i].attr) ∧ w.cell? ⟨g, i * 3 + 2, none⟩ = some (.bool L[i].st) := by
  rcases ho.2 with ⟨hv, h0⟩ | ⟨g, cap, cur, hv, hBg, hg, hnc, hcm, hcs, htk⟩
  · omega
  simp only [Value.slice.injEq] at hv
  obtain ⟨rfl, _, rfl⟩ := hv
  have hcur : ∀ k, k < 3 → w.cell? ⟨g, 3 * i + k, none⟩ = L[i].cells[k]? := by
    intro k hk
    rw [cell_of_row w g _ cur _ _ hg, ← flat_at L i hi k hk, ← htk, List.getElem?_take, if_pos (by omega), Array.getElem?_toList]
  refine ⟨g, rfl, hBg, (Array.getElem?_eq_some_iff.1 hg).1, ?_, ?_, ?_⟩
  · rw [show i * 3 = 3 * i + 0 by omega, hcur 0 (by omega)]; rfl
  · rw [show i * 3 + 1 = 3 * i + 1 by omega, hcur 1 (by omega)]; rfl
  · rw [show i * 3 + 2 = 3 * i + 2 by omega, hcur 2 (by omega)]; rfl
theorem new_ok (m : Nat) (h1 : 1 ≤ m) (h2 : m ≤ 256) (w : World) (hB : B ≤ w.heap.size) : Calls Try.prog 5 #[.int .i64 (m : Nat)] w fun e w' => ∃ X, e = .returned (.tuple #[.pointer (some ⟨X, 0, none⟩), .int .i64 0]) ∧ w.heap.size ≤ X ∧ TkM w' B X m (.slice none 0 0) [] ∧ Below w.heap.size w w' := by
  have a1 : ¬ (m : Int) < 1 := by omega
  have a2 : ¬ 256 < (m : Int) := by omega
  go_enter Try.func5, Try.ntmps5
  go_wp2
  have hM := Mem.new w 38 #[.int .i64 (m : Nat), .slice none 0 0]
  exact bodyPost_ret (v := .tuple #[.pointer (some ⟨w.heap.size, 0, none⟩), .int .i64 0]) (by simp [results, Try.results5, go_sem]) rfl ⟨w.heap.size, rfl, Nat.le_refl _, ⟨hB, hM, World.ownsRow_nil _ _ _ _, by simp⟩, (Below.refl _ w).alloc (Nat.le_refl _) _⟩
theorem len_any (h : TkM w B X m v L) : Calls Try.prog 10 #[.pointer (some ⟨X, 0, none⟩)] w fun e w' => e = .returned (.int .i64 (L.length : Nat)) ∧ w = w' := by
  have x1 := h.mem.cell 1
  obtain ⟨A, c, rfl, hc1, hc2⟩ := h.parts
  have x1 : w.cell? ⟨X, 1, none⟩ = some (.slice A L.length c) := x1
  go_enter Try.func10, Try.ntmps10
  go_wp2
  go_ret
  exact ⟨rfl, rfl⟩
theorem pred_place (t : Tk) (tag b : Nat) (W : World) (hb : Mem W b 28 #[.int .u32 (tag : Nat)]) : Calls Try.prog 20 #[.agg #[.int .u32 (t.tag : Nat), .int .i64 t.attr, .bool t.st], .pointer (some ⟨b, 0, none⟩)] W fun e w' => e = .returned (.bool (t.tag == tag)) ∧ Below W.heap.size W w' := by
  obtain ⟨tg, at_, st⟩ := t
  have c0 : ∀ o, (W.alloc o).cell? ⟨b, 0, none⟩ = some (.int .u32 (tag : Nat)) := fun o => (hb.alloc o).cell 0
  have hB := (Below.refl _ W).alloc (Nat.le_refl _) (.cells #[.int .u32 (tg : Nat), .int .i64 at_, .bool st] 42)
  by_cases h : tg = tag
  · subst h
    simp only [beq_self_eq_true]
    go_enter Try.func20, Try.ntmps20
    go_wp2
    go_ret
    exact ⟨rfl, hB⟩
  · have h1 : (tg == tag) = false := beq_eq_false_iff_ne.2 h
    have h2 : ((tg : Int) == (tag : Int)) = false := beq_eq_false_iff_ne.2 (by omega)
    simp only [h1]
    clear h h1
    go_enter Try.func20, Try.ntmps20
    go_wp2
    go_ret
    exact ⟨rfl, hB⟩
theorem pred_put (t : Tk) (W : World) : Calls Try.prog 16 #[.agg #[.int .u32 (t.tag : Nat), .int .i64 t.attr, .bool t.st]] W fun e w' => e = .returned (.bool (!t.st)) ∧ Below W.heap.size W w' := by
  obtain ⟨tg, at_, st⟩ := t
  have hB := (Below.refl _ W).alloc (Nat.le_refl _) (.cells #[.int .u32 (tg : Nat), .int .i64 at_, .bool st] 42)
  go_enter Try.func16, Try.ntmps16
  go_wp2
  go_ret
  exact ⟨rfl, hB⟩
/-- A place, or -1. -/
def plI (o : Option Nat) : Int := match o with | some i => (i : Nat) | none => -1
theorem find_some {p : Tk → Bool} {k : Nat} (hk : k < L.length) (h : p L[k] = true) (hno : ∀ j (hj : j < L.length), j < k → p L[j] = false) : L.findIdx? p = some k := by
  rw [List.findIdx?_eq_some_iff_getElem]
  exact ⟨hk, h, fun j hj => by rw [hno j (by omega) hj]; exact Bool.false_ne_true⟩
theorem find_none {p : Tk → Bool} (hno : ∀ j (hj : j < L.length), p L[j] = false) : L.findIdx? p = none := by
  rw [List.findIdx?_eq_none_iff]
  intro x hx
  obtain ⟨j, hj, rfl⟩ := List.getElem_of_mem hx
  exact hno j hj
set_option maxRecDepth 100000 in
theorem idxP_any {c : Nat} {A : Option Addr} (tag b : Nat) (ho : w.ownsRow B 42 3 (.slice A L.length c) L.length (flat L)) (hb : Mem w b 28 #[.int .u32 (tag : Nat)]) :
    Calls Try.prog 15 #[.slice A L.length c, .func (.func 20) #[] #[.pointer (some ⟨b, 0, none⟩)]] w fun e w' => e = .returned (.int .i64 (plI (L.findIdx? fun x => x.tag == tag))) ∧ Below w.heap.size w w' := by
  obtain ⟨A', c', hv, hc1, hc2⟩ := own_form ho
  obtain ⟨rfl, _, rfl⟩ : A = A' ∧ L.length = L.length ∧ c = c' := by injection hv with a b c; exact ⟨a, rfl, c⟩
  unfold maxLen at hc2
  obtain ⟨r, hr⟩ : ∃ r, r = plI (L.findIdx? fun x => x.tag == tag) := ⟨_, rfl⟩
  rw [← hr]
  have HR := Lib.hid hr
  clear hr
  go_enter Try.func15, Try.ntmps15
  go_wp2
  go_loopw [8] (fun s8 wr => ∃ k : Nat, k ≤ L.length ∧ s8 = .int .i64 (k : Nat) ∧ Hid (∀ j (hj : j < L.length), j < k → (L[j].tag == tag) = false) ∧ Below w.heap.size w wr) (fun s8 _ => L.length - (intOf s8).toNat)
  case atStart => exact ⟨0, Nat.zero_le _, rfl, Lib.hid fun j _ h => absurd h (Nat.not_lt_zero _), Below.refl _ w⟩
  case round =>
    obtain ⟨k, hk, rfl, HN, hB⟩ := hrel
    by_cases hlt : k < L.length
    · have hltx : (k : Int) < (L.length : Int) := by omega
      obtain ⟨g, rfl, hBg, hgl, x0, x1, x2⟩ := row_at ho hlt
      have y0 := (hB.cell (p := ⟨g, k * 3, none⟩) hgl).trans x0
      have y1 := (hB.cell (p := ⟨g, k * 3 + 1, none⟩) hgl).trans x1
      have y2 := (hB.cell (p := ⟨g, k * 3 + 2, none⟩) hgl).trans x2
      have hp := pred_place L[k] tag b wr (hb.below hB hb.lt)
      clear x0 x1 x2
      have HT : Hid ((L[k].tag == tag) = true → r = (k : Nat)) := Lib.hid fun h => HR.out.trans (by rw [find_some hlt h HN.out]; rfl)
      have HF : Hid ((L[k].tag == tag) = false → ∀ j (hj : j < L.length), j < k + 1 → (L[j].tag == tag) = false) := Lib.hid fun h j hj hjk => by
        rcases Nat.lt_or_ge j k with h1 | h1
        · exact HN.out j hj h1
        · obtain rfl : j = k := by omega
          exact h
      generalize L[k] = t at *
      obtain ⟨tg, at_, st⟩ := t
      simp only at y0 y1 y2 HT HF hp
      cases hq : (tg == tag) with
      | true =>
        rw [hq] at hp
        obtain rfl := HT.out hq
        clear HT HF hq HR
        go_wp2_with (go_at_call 20; (with_reducible refine hp.mono ?_); rintro e w5 ⟨rfl, hb5⟩)
        go_ret
        exact ⟨rfl, hB.trans (hb5.mono hB.size)⟩
      | false =>
        rw [hq] at hp
        have HG : Hid (∀ j (hj : j < L.length), j < k + 1 → (L[j].tag == tag) = false) := Lib.hid (HF.out hq)
        clear HT HF hq
        go_wp2_with (go_at_call 20; (with_reducible refine hp.mono ?_); rintro e w5 ⟨rfl, hb5⟩)
        exact ⟨⟨k + 1, by omega, by go_num, HG, hB.trans (hb5.mono hB.size)⟩, by simp [intOf]; omega⟩
    · obtain rfl : k = L.length := by omega
      obtain rfl : r = -1 := HR.out.trans (by rw [find_none fun j hj => HN.out j hj hj]; rfl)
      clear HR
      go_wp2
      go_ret
      exact ⟨rfl, hB⟩
set_option maxRecDepth 100000 in
theorem idxF_any {c : Nat} {A : Option Addr} (ho : w.ownsRow B 42 3 (.slice A L.length c) L.length (flat L)) :
    Calls Try.prog 15 #[.slice A L.length c, .func (.func 16) #[] #[]] w fun e w' => e = .returned (.int .i64 (plI (L.findIdx? fun x => !x.st))) ∧ Below w.heap.size w w' := by
  obtain ⟨A', c', hv, hc1, hc2⟩ := own_form ho
  obtain ⟨rfl, _, rfl⟩ : A = A' ∧ L.length = L.length ∧ c = c' := by injection hv with a b c; exact ⟨a, rfl, c⟩
  unfold maxLen at hc2
  obtain ⟨r, hr⟩ : ∃ r, r = plI (L.findIdx? fun x => !x.st) := ⟨_, rfl⟩
  rw [← hr]
  have HR := Lib.hid hr
  clear hr
  go_enter Try.func15, Try.ntmps15
  go_wp2
  go_loopw [8] (fun s8 wr => ∃ k : Nat, k ≤ L.length ∧ s8 = .int .i64 (k : Nat) ∧ Hid (∀ j (hj : j < L.length), j < k → (!L[j].st) = false) ∧ Below w.heap.size w wr) (fun s8 _ => L.length - (intOf s8).toNat)
  case atStart => exact ⟨0, Nat.zero_le _, rfl, Lib.hid fun j _ h => absurd h (Nat.not_lt_zero _), Below.refl _ w⟩
  case round =>
    obtain ⟨k, hk, rfl, HN, hB⟩ := hrel
    by_cases hlt : k < L.length
    · have hltx : (k : Int) < (L.length : Int) := by omega
      obtain ⟨g, rfl, hBg, hgl, x0, x1, x2⟩ := row_at ho hlt
      have y0 := (hB.cell (p := ⟨g, k * 3, none⟩) hgl).trans x0
      have y1 := (hB.cell (p := ⟨g, k * 3 + 1, none⟩) hgl).trans x1
      have y2 := (hB.cell (p := ⟨g, k * 3 + 2, none⟩) hgl).trans x2
      have hp := pred_put L[k] wr
      clear x0 x1 x2
      have HT : Hid ((!L[k].st) = true → r = (k : Nat)) := Lib.hid fun h => HR.out.trans (by rw [find_some hlt h HN.out]; rfl)
      have HF : Hid ((!L[k].st) = false → ∀ j (hj : j < L.length), j < k + 1 → (!L[j].st) = false) := Lib.hid fun h j hj hjk => by
        rcases Nat.lt_or_ge j k with h1 | h1
        · exact HN.out j hj h1
        · obtain rfl : j = k := by omega
          exact h
      generalize L[k] = t at *
      obtain ⟨tg, at_, st⟩ := t
      simp only at y0 y1 y2 HT HF hp
      cases hq : (!st) with
      | true =>
        rw [hq] at hp
        obtain rfl := HT.out hq
        clear HT HF hq HR
        go_wp2_with (go_at_call 16; (with_reducible refine hp.mono ?_); rintro e w5 ⟨rfl, hb5⟩)
        go_ret
        exact ⟨rfl, hB.trans (hb5.mono hB.size)⟩
      | false =>
        rw [hq] at hp
        have HG : Hid (∀ j (hj : j < L.length), j < k + 1 → (!L[j].st) = false) := Lib.hid (HF.out hq)
        clear HT HF hq
        go_wp2_with (go_at_call 16; (with_reducible refine hp.mono ?_); rintro e w5 ⟨rfl, hb5⟩)
        exact ⟨⟨k + 1, by omega, by go_num, HG, hB.trans (hb5.mono hB.size)⟩, by simp [intOf]; omega⟩
    · obtain rfl : k = L.length := by omega
      obtain rfl : r = -1 := HR.out.trans (by rw [find_none fun j hj => HN.out j hj hj]; rfl)
      clear HR
      go_wp2
      go_ret
      exact ⟨rfl, hB⟩
end
end Tk
end Go.Proofs.Ytgofkofkhkpjbaa
