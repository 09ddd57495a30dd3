/- Package net: Drop, Packet, Copy, refused Sends: contracts. -/
import Derived.Test.YtmlimmcaidkoeaaNt5
namespace Go.Proofs.Ytmlimmcaidkoeaa
open Go.ChangeShapes Go.WideShapes Go.ChangeAt Go.RowKit Go.Lib
set_option linter.unusedVariables false
/-- A net's step: what it holds behind it; but for its own blocks nothing turned. -/
def NetStep (w w' : World) (B X : Nat) (v : Value) (h : Nat) (L' : List Pk) (s' : Nat) : Prop :=
  ∃ v', NetInv w' B X v' h L' s' ∧ Eff (NS X v) w w' ∧ (∀ k, v'.ownBlock = some k → v.ownBlock = some k ∨ w.heap.size ≤ k)
theorem NetStep.below {w w' w2 : World} {B X h s : Nat} {v : Value} {L : List Pk} (hn : NetStep w w' B X v h L s) (hb : Below w'.heap.size w' w2) : NetStep w w2 B X v h L s := by
  obtain ⟨v', h1, h2, h3⟩ := hn
  exact ⟨v', h1.below hb, h2.trans (Eff.of (S := NS X v) hb) fun _ _ h => h, h3⟩
theorem NetInv.step {w w' : World} {B X h s : Nat} {v : Value} {L : List Pk} (hn : NetInv w B X v h L s) (hb : Below w.heap.size w w') : NetStep w w' B X v h L s := ⟨v, hn.below hb, Eff.of hb, fun k hk => .inl hk⟩
theorem one_pk {a b : Int} {d : Value} (h : d.oneCell' = true) : (#[.int .i64 a, .int .i64 b, d] : Array Value).all (·.oneCell') = true := by
  rw [← Array.all_toList]
  simp only [List.all_cons, List.all_nil, h]
  rfl
set_option maxHeartbeats 2000000 in
theorem drop_ok (B X h s : Nat) (v : Value) (L : List Pk) (i : Nat) (hi : i < L.length) (w : World) (hn : NetInv w B X v h L s) (hB : B ≤ w.heap.size) :
    Calls Try.prog 23 #[.pointer (some ⟨X, 0, none⟩), .int .i64 (i : Nat)] w fun e w' => e = .returned (.bool true) ∧ NetStep w w' B X v h (L.eraseIdx i) s := by
  have hc := deliver_ok B X h s v L i hi w hn hB
  have hd1 := own_one (hn.data _ (List.getElem_mem hi)).1
  generalize L[i] = p at *
  obtain ⟨fr, to, d, l⟩ := p
  unfold Pk.val at hc
  go_enter Try.func23, Try.ntmps23
  go_wp2_with (first
    | (refine wpList_store_row rfl 41 (.tmp 5) (.tmp 11) rfl w1.heap.size #[.int .i64 fr, .int .i64 to, d] rfl rfl 41 #[.int .i64 0, .int .i64 0, .slice none 0 0] (Mem.new w1 _ _) (by kernel_rfl) (by kernel_rfl) (one_pk hd1) ?_)
    | (go_at_call 24; with_reducible refine hc.mono ?_; rintro e w1 ⟨v', rfl, hn1, he1, ho1⟩))
  go_ret
  exact ⟨rfl, NetStep.below ⟨v', hn1, he1, fun k hk => .inl (ho1 ▸ hk)⟩ (below_setRow ((Below.refl _ _).alloc (Nat.le_refl _) _) (Nat.le_refl _) _)⟩
set_option maxHeartbeats 2000000 in
theorem drop_no (B X h s : Nat) (v : Value) (L : List Pk) (i : Int) (hi : ¬ (0 ≤ i ∧ i < L.length)) (w : World) (hn : NetInv w B X v h L s) :
    Calls Try.prog 23 #[.pointer (some ⟨X, 0, none⟩), .int .i64 i] w fun e w' => e = .returned (.bool false) ∧ Below w.heap.size w w' := by
  have hc := deliver_no B X h s v L i hi w hn
  unfold pk0 at hc
  go_enter Try.func23, Try.ntmps23
  go_wp2_with (first
    | (refine wpList_store_row rfl 41 (.tmp 5) (.tmp 11) rfl w1.heap.size #[.int .i64 0, .int .i64 0, .slice none 0 0] rfl rfl 41 #[.int .i64 0, .int .i64 0, .slice none 0 0] (Mem.new w1 _ _) (by kernel_rfl) (by kernel_rfl) (by kernel_rfl) ?_)
    | (go_at_call 24; with_reducible refine hc.mono ?_; rintro e w1 ⟨rfl, hb1⟩))
  go_ret
  exact ⟨rfl, below_setRow (hb1.alloc hb1.size _) hb1.size _⟩
set_option maxHeartbeats 2000000 in
theorem packet_no (B X h s : Nat) (v : Value) (L : List Pk) (i : Int) (hi : ¬ (0 ≤ i ∧ i < L.length)) (w : World) (hn : NetInv w B X v h L s) :
    Calls Try.prog 16 #[.pointer (some ⟨X, 0, none⟩), .int .i64 i] w fun e w' => e = .returned (.tuple #[pk0, .bool false]) ∧ Below w.heap.size w w' := by
  have hh : ∀ o, Calls Try.prog 30 #[.pointer (some ⟨X, 0, none⟩), .int .i64 i] (w.alloc o) fun e w' => e = .returned (.bool false) ∧ w.alloc o = w' := by
    intro o
    have := has_any B X h s v L i (w.alloc o) (hn.below ((Below.refl _ _).alloc (Nat.le_refl _) o))
    rwa [decide_eq_false hi] at this
  have hm : Mem (w.alloc (.cells #[.int .i64 0, .int .i64 0, .slice none 0 0] 41)) w.heap.size 41 #[.int .i64 0, .int .i64 0, .slice none 0 0] := Mem.new w _ _
  go_enter Try.func16, Try.ntmps16
  go_wp2_with (first
    | (refine wpList_store_row rfl 41 (.tmp 4) (.tmp 10) rfl w.heap.size #[.int .i64 0, .int .i64 0, .slice none 0 0] rfl rfl 41 #[.int .i64 0, .int .i64 0, .slice none 0 0] hm (by kernel_rfl) (by kernel_rfl) (by kernel_rfl) ?_)
    | (go_at_call 30; refine (hh _).mono ?_; rintro e w' ⟨rfl, rfl⟩))
  try simp only [Exit.inBlock, Exit.then]
  refine bodyPost_ret (v := .tuple #[pk0, .bool false]) ?_ rfl ⟨rfl, below_setRow ((Below.refl _ _).alloc (Nat.le_refl _) _) (Nat.le_refl _) _⟩
  exact (results_cell2 (p := 4) (a := 5) (ty := 41) rfl _ _ w.heap.size 41 _ (0, 0) _ rfl (hm.row #[.int .i64 0, .int .i64 0, .slice none 0 0]) Try.underlying41 rfl (by kernel_rfl)).trans rfl
set_option maxHeartbeats 2000000 in
theorem packet_ok (B X h s : Nat) (v : Value) (L : List Pk) (i : Nat) (hi : i < L.length) (w : World) (hn : NetInv w B X v h L s) :
    Calls Try.prog 16 #[.pointer (some ⟨X, 0, none⟩), .int .i64 (i : Nat)] w fun e w' => ∃ d, e = .returned (.tuple #[.agg #[.int .i64 L[i].fr, .int .i64 L[i].to, d], .bool true]) ∧ Sl w' w'.heap.size d L[i].l.length (bs L[i].l) ∧ Below w.heap.size w w' := by
  obtain ⟨A, c, rfl, hc1, hc2⟩ := hn.parts
  have hh : ∀ o, Calls Try.prog 30 #[.pointer (some ⟨X, 0, none⟩), .int .i64 (i : Nat)] (w.alloc o) fun e w' => e = .returned (.bool true) ∧ w.alloc o = w' := by
    intro o
    have := has_any B X h s _ L i (w.alloc o) (hn.below ((Below.refl _ _).alloc (Nat.le_refl _) o))
    rwa [decide_eq_true (by omega)] at this
  obtain ⟨g, rfl, hBg, hgl, hx1, hx2, hx3⟩ := row_at hn.row hi
  have hmem := List.getElem_mem hi
  have hD := hn.data _ hmem
  generalize L[i] = p at *
  obtain ⟨fr, to, d, l⟩ := p
  simp only at hx1 hx2 hx3 hD ⊢
  have hcl : ∀ o, Calls Try.prog 31 #[.agg #[.int .i64 fr, .int .i64 to, d]] (w.alloc o) fun e w' => ∃ d', e = .returned (.agg #[.int .i64 fr, .int .i64 to, d']) ∧ w'.ownsRow (w.alloc o).heap.size 5 1 d' l.length (bs l) ∧ Below (w.alloc o).heap.size (w.alloc o) w' :=
    fun o => clone_any fr to d l hD.2 (w.alloc o) ((hD.sl.alloc (Nat.le_refl _) o).more (by simp))
  obtain ⟨Ad, cd, hdv, _⟩ := own_form hD.1
  simp only at hdv
  subst hdv
  have hx0 : ∀ o, (w.alloc o).cell? ⟨X, 1, none⟩ = some (.slice (some ⟨g, 0, none⟩) L.length c) := fun o => Lib.cell?_alloc_some o (hn.mem.cell 1)
  have hy1 := fun o => Lib.cell?_alloc_some o hx1
  have hy2 := fun o => Lib.cell?_alloc_some o hx2
  have hy3 := fun o => Lib.cell?_alloc_some o hx3
  have hm : ∀ w1, Below (w.alloc (.cells #[.int .i64 0, .int .i64 0, .slice none 0 0] 41)).heap.size (w.alloc (.cells #[.int .i64 0, .int .i64 0, .slice none 0 0] 41)) w1 → Mem w1 w.heap.size 41 #[.int .i64 0, .int .i64 0, .slice none 0 0] := fun w1 hb => (Mem.new w 41 _).below hb (by simp)
  go_enter Try.func16, Try.ntmps16
  go_wp2_with (first
    | (refine wpList_store_row rfl 41 (.tmp 4) (.tmp 18) rfl w.heap.size #[.int .i64 fr, .int .i64 to, d'] rfl rfl 41 #[.int .i64 0, .int .i64 0, .slice none 0 0] hm1 (by kernel_rfl) (by kernel_rfl) (one_pk hd1) ?_)
    | (go_at_call 31; refine (hcl _).mono ?_; rintro e w1 ⟨d', rfl, ho1, hb1⟩; have hd1 := own_one ho1; have hm1 := hm _ hb1)
    | (go_at_call 30; refine (hh _).mono ?_; rintro e w' ⟨rfl, rfl⟩))
  try simp only [Exit.inBlock, Exit.then]
  refine bodyPost_ret (v := .tuple #[.agg #[.int .i64 fr, .int .i64 to, d'], .bool true]) ?_ rfl ⟨d', rfl, ?_, below_setRow (((Below.refl _ _).alloc (Nat.le_refl _) _).trans (hb1.mono (by simp))) (Nat.le_refl _) _⟩
  · exact (results_cell2 (p := 4) (a := 5) (ty := 41) rfl _ _ w.heap.size 41 _ (0, 0) _ rfl (hm1.row #[.int .i64 fr, .int .i64 to, d']) Try.underlying41 rfl (by kernel_rfl)).trans rfl
  · have := owns_eff (S := fun k => k = w.heap.size) ho1 (Eff.setRow (S := fun k => k = w.heap.size) (Eff.refl _ w1) rfl #[.int .i64 fr, .int .i64 to, d']) (fun k hk e => by have := (ho1.lt k hk).1; simp at this; omega)
    exact Sl.of_own this
end Go.Proofs.Ytmlimmcaidkoeaa
