/- Package task: Insert at any place, place, Put: contracts. -/
import Derived.Test.YtgofkofkhkpjbaaTk2
import Derived.BigQuiet
import Derived.Deep.QuietTactic
namespace Go.Proofs.Ytgofkofkhkpjbaa
open Go.ChangeShapes Go.WideShapes Go.ChangeAt Go.RowKit Go.Lib
set_option linter.unusedVariables false
set_option linter.unusedSimpArgs false
namespace Tk
section
variable {w w' : World} {B X m : Nat} {v : Value} {L : List Tk}
set_option maxRecDepth 1000000 in
set_option maxHeartbeats 2000000 in
theorem ins_last (A : Option Addr) (c V : Nat) (x : Tk) (hn : L.length ≤ 300) (hB : B ≤ w.heap.size) (ho : w.ownsRow B 42 3 (.slice A L.length c) L.length (flat L)) (hx : Mem w V 42 x.cells.toArray) :
    Calls Try.prog 17 #[.slice A L.length c, .int .i64 (L.length : Nat), .slice (some ⟨V, 0, none⟩) 1 1] w fun e w' => ∃ v', e = .returned v' ∧ w'.ownsRow B 42 3 v' (L.length + 1) (flat (ins L L.length x)) ∧ Eff (fun k => (Value.slice A L.length c).ownBlock = some k) w w' ∧ (v'.ownBlock = (Value.slice A L.length c).ownBlock ∨ v'.ownBlock = some w.heap.size) := by
  rw [ins_end, flat_app]
  obtain ⟨A', c', hv, hc1, hc2⟩ := own_form ho
  obtain ⟨rfl, _, rfl⟩ : A = A' ∧ L.length = L.length ∧ c = c' := by injection hv with a b c; exact ⟨a, rfl, c⟩
  obtain ⟨i0, hi0, hz0, hz1⟩ := one_parts
  have hby : i0.bytes ≤ 1000 := by
    have : (Try.prog.info? 42).map (fun i => decide (i.bytes ≤ 1000)) = some true := by kernel_rfl
    rw [hi0] at this
    simpa using this
  have hb301 : (L.length + 1) * i0.bytes ≤ 140737488355328 := by
    have : (L.length + 1) * i0.bytes ≤ 301 * 1000 := Nat.mul_le_mul (by omega) hby
    omega
  have hnews : ∀ j u, x.cells[j]? = some u → w.cell? ((⟨V, 0, none⟩ : Addr).add j) = some u := fun j u hj => by
    rw [add_plain, hx.cell, Nat.zero_add, ← hj]
    simp
  have hflx : flat [x] = x.cells := by simp [flat]
  rw [hflx]
  unfold maxLen at hc2
  have hA : A = none → L.length = 0 ∧ c = 0 := by
    rintro rfl
    rcases ho.2 with ⟨hv, h0⟩ | ⟨g, cap, cur, hv, _⟩
    · injection hv with _ e1 e2
      exact ⟨e1, e2⟩
    · cases hv
  have hbase : ∀ a, A = some a → a.off = 0 ∧ a.spot = none := by
    rintro a rfl
    rcases ho.2 with ⟨hv, h0⟩ | ⟨g, cap, cur, hv, _⟩
    · cases hv
    · injection hv with e1
      injection e1 with e1
      subst e1
      exact ⟨rfl, rfl⟩
  have HO := Lib.hid ho
  clear ho hv
  generalize L.length = n at *
  cases A with
  | none =>
    obtain ⟨rfl, rfl⟩ := hA rfl
    clear hA hbase hc1 hc2
    have ho := HO.out
    go_enter Try.func17, Try.ntmps17
    go_wp2_with (refine wpList_append_at _ rfl (.tmp 23) (.tmp 24) 36 rfl B 42 i0 _ 3 i0.bytes Try.underlying36 hi0 hz0 hz1 rfl rfl (by decide) (.slice none 0 0) 0 (flat L) rfl ho ⟨V, 0, none⟩ 1 1 x.cells rfl rfl hnews (cells_one x) (by decide) (by omega) hB ?_; intro v5 w5 ho5 hg5 hk5)
    (go_ret; exact ⟨v5, rfl, ho5, eff_grown hg5, hk5⟩)
  | some a =>
    obtain ⟨b, off, sp⟩ := a
    obtain ⟨rfl, rfl⟩ : off = 0 ∧ sp = none := hbase _ rfl
    clear hA hbase
    have ho := HO.out
    go_enter Try.func17, Try.ntmps17
    go_wp2_with (refine wpList_append_at _ rfl (.tmp 23) (.tmp 24) 36 rfl B 42 i0 _ 3 i0.bytes Try.underlying36 hi0 hz0 hz1 rfl rfl (by decide) (.slice (some ⟨b, 0, none⟩) n c) n (flat L) rfl ho ⟨V, 0, none⟩ 1 1 x.cells rfl rfl hnews (cells_one x) (by unfold maxLen; omega) hb301 hB ?_; intro v5 w5 ho5 hg5 hk5)
    all_goals (go_ret; exact ⟨v5, rfl, ho5, eff_grown hg5, hk5⟩)
theorem ins_any (A : Option Addr) (c i V : Nat) (x : Tk) (hi : i ≤ L.length) (hn : L.length ≤ 300) (hB : B ≤ w.heap.size) (ho : w.ownsRow B 42 3 (.slice A L.length c) L.length (flat L)) (hx : Mem w V 42 x.cells.toArray) (hV : ∀ k, (Value.slice A L.length c).ownBlock = some k → V ≠ k) :
    Calls Try.prog 17 #[.slice A L.length c, .int .i64 (i : Nat), .slice (some ⟨V, 0, none⟩) 1 1] w fun e w' => ∃ v', e = .returned v' ∧ w'.ownsRow B 42 3 v' (L.length + 1) (flat (ins L i x)) ∧ Eff (fun k => (Value.slice A L.length c).ownBlock = some k) w w' ∧ (v'.ownBlock = (Value.slice A L.length c).ownBlock ∨ v'.ownBlock = some w.heap.size) := by
  by_cases hl : i = L.length
  · subst hl
    exact ins_last A c V x hn hB ho hx
  · obtain ⟨g, rfl, hBg, hgl, _⟩ := row_at ho (i := i) (by omega)
    by_cases hc : L.length + 1 ≤ c
    · exact (ins_shift g c i V x (by omega) hc hn ho hx (hV g rfl)).mono fun e w' ⟨h1, h2, h3⟩ => ⟨_, h1, h2, h3.mono fun k _ h => by rw [h]; rfl, .inl rfl⟩
    · exact (ins_grow g c i V x (by omega) hc hn hB ho hx).mono fun e w' ⟨c', h1, h2, h3⟩ => ⟨_, h1, h2, Eff.of h3, .inr rfl⟩
theorem place_any (h : TkM w B X m v L) (tag : Nat) : Calls Try.prog 14 #[.pointer (some ⟨X, 0, none⟩), .int .u32 (tag : Nat)] w fun e w' => e = .returned (.int .i64 (plI (L.findIdx? fun x => x.tag == tag))) ∧ Below w.heap.size w w' := by
  obtain ⟨A, c, rfl, hc1, hc2⟩ := h.parts
  have hB := (Below.refl _ w).alloc (Nat.le_refl _) (.cells #[.int .u32 (tag : Nat)] 28)
  have x1 : (w.alloc (.cells #[.int .u32 (tag : Nat)] 28)).cell? ⟨X, 1, none⟩ = some (.slice A L.length c) := (h.below hB).mem.cell 1
  have hi := idxP_any tag w.heap.size (h.below hB).row (Mem.new w _ _)
  generalize plI (L.findIdx? fun x => x.tag == tag) = r at *
  go_enter Try.func14, Try.ntmps14
  go_wp2_with (go_at_call 15; (with_reducible refine hi.mono ?_); rintro e w5 ⟨rfl, hb5⟩)
  go_ret
  exact ⟨rfl, hB.trans (hb5.mono hB.size)⟩
/-- One operation on a set. -/
def Stp (w w' : World) (B X m : Nat) (v : Value) (L' : List Tk) : Prop := ∃ v', TkM w' B X m v' L' ∧ Eff (NS X v) w w' ∧ ∀ k, v'.ownBlock = some k → v.ownBlock = some k ∨ w.heap.size ≤ k
theorem TkM.same (h : TkM w B X m v L) (hb : Below w.heap.size w w') : Stp w w' B X m v L := ⟨v, h.below hb, Eff.of hb, fun k hk => .inl hk⟩
theorem stp_set {W w7 : World} {v' : Value} {L' : List Tk} (h : TkM w B X m v L) (hW : Below w.heap.size w W) (he : Eff (fun k => v.ownBlock = some k) W w7) (ho : w7.ownsRow B 42 3 v' L'.length (flat L')) (hk : ∀ k, v'.ownBlock = some k → v.ownBlock = some k ∨ w.heap.size ≤ k) (hf : L'.length ≤ 256) : Stp w (w7.setCell ⟨X, 1, none⟩ v') B X m v L' := by
  have m7 : Mem w7 X 38 #[.int .i64 (m : Nat), v] := (h.below hW).mem.eff he h.apart
  have hS : Eff (fun k => k = X) w7 (w7.setCell ⟨X, 1, none⟩ v') := Eff.setCell (S := fun k => k = X) (Eff.refl _ w7) (p := ⟨X, 1, none⟩) rfl v'
  refine ⟨v', ⟨h.base, m7.put 1 v', owns_eff ho hS fun k hk e => ?_, hf⟩, ?_, hk⟩
  · exact (mem_tag m7).ne (own_tag ho k hk).2.2 (by decide) e.symm
  · exact (((Eff.of hW).trans he fun _ _ h => h).mono (T := NS X v) fun k _ hk => Or.inr hk).setCell (p := ⟨X, 1, none⟩) (.inl rfl) v'
theorem put_dup (h : TkM w B X m v L) (tag : Nat) (a : Int) (ha : a = 0 ∨ a = 1 ∨ a = 2) (i : Nat) (hi : L.findIdx? (fun x => x.tag == tag) = some i) : Calls Try.prog 6 #[.pointer (some ⟨X, 0, none⟩), .int .u32 (tag : Nat), .int .i64 a] w fun e w' => e = .returned (.int .i64 1) ∧ Below w.heap.size w w' := by
  have hp := place_any h tag
  rw [hi] at hp
  have hp : Calls Try.prog 14 #[.pointer (some ⟨X, 0, none⟩), .int .u32 (tag : Nat)] w fun e w' => e = .returned (.int .i64 (i : Nat)) ∧ Below w.heap.size w w' := hp
  clear hi
  rcases ha with rfl | rfl | rfl
  all_goals
    go_enter Try.func6, Try.ntmps6
    go_wp2_with (go_at_call 14; (with_reducible refine hp.mono ?_); rintro e w5 ⟨rfl, hb5⟩)
    go_ret
    exact ⟨rfl, hb5⟩
theorem put_full (h : TkM w B X m v L) (tag : Nat) (a : Int) (ha : a = 0 ∨ a = 1 ∨ a = 2) (hi : L.findIdx? (fun x => x.tag == tag) = none) (hm : m ≤ L.length) : Calls Try.prog 6 #[.pointer (some ⟨X, 0, none⟩), .int .u32 (tag : Nat), .int .i64 a] w fun e w' => e = .returned (.int .i64 7) ∧ Below w.heap.size w w' := by
  have hp := place_any h tag
  rw [hi] at hp
  have hp : Calls Try.prog 14 #[.pointer (some ⟨X, 0, none⟩), .int .u32 (tag : Nat)] w fun e w' => e = .returned (.int .i64 (-1)) ∧ Below w.heap.size w w' := hp
  obtain ⟨A, c, rfl, hc1, hc2⟩ := h.parts
  have hmx : (m : Int) ≤ (L.length : Int) := by omega
  clear hi
  rcases ha with rfl | rfl | rfl
  all_goals
    go_enter Try.func6, Try.ntmps6
    go_wp2_with (go_at_call 14; (with_reducible refine hp.mono ?_); rintro e w5 ⟨rfl, hb5⟩; have z0 := (h.below hb5).mem.cell 0; have z1 := (h.below hb5).mem.cell 1)
    go_quiet (fail)
    go_wp2
    go_ret
    exact ⟨rfl, below_drewN hb5 _⟩
/-- Where a new one goes. -/
def atOf (L : List Tk) (a : Int) : Nat := if a = 2 then (L.findIdx? fun x => !x.st).getD L.length else L.length
theorem find_lt {p : Tk → Bool} {i : Nat} (h : L.findIdx? p = some i) : i < L.length := by
  rw [List.findIdx?_eq_some_iff_getElem] at h
  exact h.1
set_option maxHeartbeats 2000000 in
theorem put_ok (h : TkM w B X m v L) (hB : B ≤ w.heap.size) (tag : Nat) (a : Int) (ha : a = 0 ∨ a = 1 ∨ a = 2) (hi : L.findIdx? (fun x => x.tag == tag) = none) (hm : L.length < m) (hm2 : m ≤ 256) : Calls Try.prog 6 #[.pointer (some ⟨X, 0, none⟩), .int .u32 (tag : Nat), .int .i64 a] w fun e w' => e = .returned (.int .i64 0) ∧ Stp w w' B X m v (ins L (atOf L a) ⟨tag, a, false⟩) := by
  have hp := place_any h tag
  rw [hi] at hp
  have hp : Calls Try.prog 14 #[.pointer (some ⟨X, 0, none⟩), .int .u32 (tag : Nat)] w fun e w' => e = .returned (.int .i64 (-1)) ∧ Below w.heap.size w w' := hp
  have hat : atOf L a ≤ L.length := by
    unfold atOf
    split
    · cases hf : L.findIdx? fun x => !x.st with
      | none => exact Nat.le_refl _
      | some i => exact Nat.le_of_lt (find_lt hf)
    · exact Nat.le_refl _
  have hF : ∃ q : Int, plI (L.findIdx? fun x => !x.st) = q ∧ ((a = 2 ∧ 0 ≤ q → q = (atOf L a : Nat)) ∧ (¬ (a = 2 ∧ 0 ≤ q) → atOf L a = L.length)) := by
    refine ⟨_, rfl, ?_, ?_⟩
    · rintro ⟨rfl, h0⟩
      unfold atOf
      rw [if_pos rfl]
      cases hf : L.findIdx? fun x => !x.st with
      | none => rw [hf] at h0; simp [plI] at h0
      | some i => rfl
    · intro hn
      unfold atOf
      split
      · cases hf : L.findIdx? fun x => !x.st with
        | none => rfl
        | some i => rename_i e; exact absurd ⟨e, by rw [hf]; simp [plI]⟩ hn
      · rfl
  obtain ⟨A, c, rfl, hc1, hc2⟩ := h.parts
  have hmx : ¬ (m : Int) ≤ (L.length : Int) := by omega
  obtain ⟨at_, hat2⟩ : ∃ n, atOf L a = n := ⟨_, rfl⟩
  rw [hat2] at hat hF
  have hG : ∀ W, Below w.heap.size w W → TkM W B X m (.slice A L.length c) L := fun W hW => h.below hW
  have hidx : ∀ W, TkM W B X m (.slice A L.length c) L → Calls Try.prog 15 #[.slice A L.length c, .func (.func 16) #[] #[]] W fun e w' => e = .returned (.int .i64 (plI (L.findIdx? fun x => !x.st))) ∧ Below W.heap.size W w' := fun W hW => idxF_any hW.row
  obtain ⟨q, hq, hq1, hq2⟩ := hF
  rw [hq] at hidx
  have hins : ∀ W, TkM W B X m (.slice A L.length c) L → w.heap.size ≤ W.heap.size → Calls Try.prog 17 #[.slice A L.length c, .int .i64 (at_ : Nat), .slice (some ⟨W.heap.size, 0, none⟩) 1 1] (W.alloc (.cells #[.int .u32 (tag : Nat), .int .i64 a, .bool false] 42)) fun e w' => ∃ v' : Value, e = .returned v' ∧ w'.ownsRow B 42 3 v' (L.length + 1) (flat (ins L at_ ⟨tag, a, false⟩)) ∧ Eff (fun k => (Value.slice A L.length c).ownBlock = some k) W w' ∧ (∀ k, v'.ownBlock = some k → (Value.slice A L.length c).ownBlock = some k ∨ W.heap.size ≤ k) := fun W hW hs => by
    have hba := (Below.refl _ W).alloc (Nat.le_refl _) (.cells #[.int .u32 (tag : Nat), .int .i64 a, .bool false] 42)
    refine (ins_any A c at_ W.heap.size ⟨tag, a, false⟩ hat (by have := hW.few; omega) (by simp; omega) (hW.below hba).row (Mem.new W _ _) (fun k hk => by have := (own_tag hW.row k hk).2.1; omega)).mono ?_
    rintro e w' ⟨v', h1, h2, h3, h4⟩
    refine ⟨v', h1, h2, (Eff.of hba).trans h3 fun _ _ h => h, fun k hk => ?_⟩
    rcases h4 with h4 | h4
    · exact .inl (h4 ▸ hk)
    · rw [h4] at hk
      injection hk with hk
      right
      rw [← hk]
      simp
  have HH := Lib.hid h
  have hX := h.apart
  clear hi hq h
  rcases ha with rfl | rfl | rfl
  · obtain rfl : at_ = L.length := hq2 (fun h => by omega)
    clear hq1 hq2
    go_enter Try.func6, Try.ntmps6
    go_wp2_with (go_at_call 14; (with_reducible refine hp.mono ?_); rintro e w5 ⟨rfl, hb5⟩; have h5 := hG _ hb5; have z0 := h5.mem.cell 0; have z1 := h5.mem.cell 1)
    go_quiet (fail)
    clear z0 z1
    have BQ := below_drewN hb5 nq
    have h5q := hG _ BQ
    have z1 := h5q.mem.cell 1
    go_wp2_with (first
      | (go_at_call 15; (with_reducible refine (hidx _ h5q).mono ?_); rintro e w6 ⟨rfl, hb6⟩; have B6 := BQ.trans (hb6.mono BQ.size); have h6 := hG _ B6; have z2 := h6.mem.cell 1)
      | (go_at_call 17; (with_reducible refine (hins _ h6 B6.size).mono ?_); rintro e w7 ⟨v7, rfl, ho7, he7, hk7⟩; obtain ⟨A7, c7, rfl, _, _⟩ := own_form ho7; have m7 := h6.mem.eff he7 hX; have z3 := m7.cell 1; have f3 := m7.free 1; have fin := stp_set HH.out B6 he7 (by rw [ins_len]; exact ho7) (fun k hk => (hk7 k hk).imp id fun h => Nat.le_trans B6.size h) (by rw [ins_len]; omega)))
    all_goals
      go_ret
      exact ⟨rfl, by rw [hat2]; exact fin⟩
  · obtain rfl : at_ = L.length := hq2 (fun h => by omega)
    clear hq1 hq2
    go_enter Try.func6, Try.ntmps6
    go_wp2_with (go_at_call 14; (with_reducible refine hp.mono ?_); rintro e w5 ⟨rfl, hb5⟩; have h5 := hG _ hb5; have z0 := h5.mem.cell 0; have z1 := h5.mem.cell 1)
    go_quiet (fail)
    clear z0 z1
    have BQ := below_drewN hb5 nq
    have h5q := hG _ BQ
    have z1 := h5q.mem.cell 1
    go_wp2_with (first
      | (go_at_call 15; (with_reducible refine (hidx _ h5q).mono ?_); rintro e w6 ⟨rfl, hb6⟩; have B6 := BQ.trans (hb6.mono BQ.size); have h6 := hG _ B6; have z2 := h6.mem.cell 1)
      | (go_at_call 17; (with_reducible refine (hins _ h6 B6.size).mono ?_); rintro e w7 ⟨v7, rfl, ho7, he7, hk7⟩; obtain ⟨A7, c7, rfl, _, _⟩ := own_form ho7; have m7 := h6.mem.eff he7 hX; have z3 := m7.cell 1; have f3 := m7.free 1; have fin := stp_set HH.out B6 he7 (by rw [ins_len]; exact ho7) (fun k hk => (hk7 k hk).imp id fun h => Nat.le_trans B6.size h) (by rw [ins_len]; omega)))
    all_goals
      go_ret
      exact ⟨rfl, by rw [hat2]; exact fin⟩
  by_cases hq0 : 0 ≤ q
  · obtain rfl : q = (at_ : Nat) := hq1 ⟨rfl, hq0⟩
    clear hq1 hq2
    go_enter Try.func6, Try.ntmps6
    go_wp2_with (go_at_call 14; (with_reducible refine hp.mono ?_); rintro e w5 ⟨rfl, hb5⟩; have h5 := hG _ hb5; have z0 := h5.mem.cell 0; have z1 := h5.mem.cell 1)
    go_quiet (fail)
    clear z0 z1
    have BQ := below_drewN hb5 nq
    have h5q := hG _ BQ
    have z1 := h5q.mem.cell 1
    go_wp2_with (first
      | (go_at_call 15; (with_reducible refine (hidx _ h5q).mono ?_); rintro e w6 ⟨rfl, hb6⟩; have B6 := BQ.trans (hb6.mono BQ.size); have h6 := hG _ B6; have z2 := h6.mem.cell 1)
      | (go_at_call 17; (with_reducible refine (hins _ h6 B6.size).mono ?_); rintro e w7 ⟨v7, rfl, ho7, he7, hk7⟩; obtain ⟨A7, c7, rfl, _, _⟩ := own_form ho7; have m7 := h6.mem.eff he7 hX; have z3 := m7.cell 1; have f3 := m7.free 1; have fin := stp_set HH.out B6 he7 (by rw [ins_len]; exact ho7) (fun k hk => (hk7 k hk).imp id fun h => Nat.le_trans B6.size h) (by rw [ins_len]; omega)))
    all_goals
      go_ret
      exact ⟨rfl, by rw [hat2]; exact fin⟩
  · obtain rfl : at_ = L.length := hq2 (fun h => hq0 h.2)
    clear hq1 hq2
    go_enter Try.func6, Try.ntmps6
    go_wp2_with (go_at_call 14; (with_reducible refine hp.mono ?_); rintro e w5 ⟨rfl, hb5⟩; have h5 := hG _ hb5; have z0 := h5.mem.cell 0; have z1 := h5.mem.cell 1)
    go_quiet (fail)
    clear z0 z1
    have BQ := below_drewN hb5 nq
    have h5q := hG _ BQ
    have z1 := h5q.mem.cell 1
    go_wp2_with (first
      | (go_at_call 15; (with_reducible refine (hidx _ h5q).mono ?_); rintro e w6 ⟨rfl, hb6⟩; have B6 := BQ.trans (hb6.mono BQ.size); have h6 := hG _ B6; have z2 := h6.mem.cell 1)
      | (go_at_call 17; (with_reducible refine (hins _ h6 B6.size).mono ?_); rintro e w7 ⟨v7, rfl, ho7, he7, hk7⟩; obtain ⟨A7, c7, rfl, _, _⟩ := own_form ho7; have m7 := h6.mem.eff he7 hX; have z3 := m7.cell 1; have f3 := m7.free 1; have fin := stp_set HH.out B6 he7 (by rw [ins_len]; exact ho7) (fun k hk => (hk7 k hk).imp id fun h => Nat.le_trans B6.size h) (by rw [ins_len]; omega)))
    all_goals
      go_ret
      exact ⟨rfl, by rw [hat2]; exact fin⟩
end
end Tk
end Go.Proofs.Ytgofkofkhkpjbaa
