/- Package net: Take: contract. -/
import Derived.Test.YtmlimmcaidkoeaaNt7
import Derived.LoopTactic
namespace Go.Proofs.Ytmlimmcaidkoeaa
open Go.ChangeShapes Go.WideShapes Go.ChangeAt Go.RowKit Go.Lib
set_option linter.unusedVariables false
theorem step_out {w W w1 : World} {B X h s s1 : Nat} {v v' : Value} {L L1 : List Pk} {cs : Array Value} (hn : NetInv w B X v h L s) (hb : Below w.heap.size w W) (hn1 : NetInv w1 B X v' h L1 s1) (he : Eff (NS X v) W w1) (ho : v'.ownBlock = v.ownBlock) (hm : Mem w1 w.heap.size 41 cs) (ds : Array Value) : NetStep w (w1.setRow w.heap.size ds) B X v h L1 s1 := by
  have hS : Eff (fun k => k = w.heap.size) w1 (w1.setRow w.heap.size ds) := Eff.setRow (S := fun k => k = w.heap.size) (Eff.refl _ _) rfl _
  have hXl := hn.mem.lt
  refine ⟨v', hn1.eff hS (by omega) ?_ ?_, ((Eff.of hb).trans he fun i _ h => h).trans hS (fun k hk e => by omega), fun k hk => .inl (ho ▸ hk)⟩
  · intro k hk e
    have := (own_tag hn.row k (ho ▸ hk)).2.1
    omega
  · rintro k _ rfl
    exact (mem_tag hm).not (by decide)
set_option maxRecDepth 100000 in
set_option maxHeartbeats 2000000 in
theorem take_ok (B X h s : Nat) (v : Value) (L : List Pk) (to : Int) (k : Nat) (hk : k < L.length) (hk1 : L[k].to = to) (hk2 : ∀ j (hj : j < L.length), j < k → L[j].to ≠ to) (w : World) (hB : B ≤ w.heap.size) (hn : NetInv w B X v h L s) :
    Calls Try.prog 22 #[.pointer (some ⟨X, 0, none⟩), .int .i64 to] w fun e w' => e = .returned (.tuple #[L[k].val, .bool true]) ∧ NetStep w w' B X v h (L.eraseIdx k) s := by
  obtain ⟨A, c, rfl, hc1, hc2⟩ := hn.parts
  have hd1 := own_one (hn.data _ (List.getElem_mem hk)).1
  have hdel := fun W (hW : Below w.heap.size w W) => deliver_ok B X h s _ L k hk W (hn.below hW) (Nat.le_trans hB hW.size)
  have hcells := fun W (hW : Below w.heap.size w W) j (hj : j < L.length) => row_at (hn.below hW).row hj
  have hone := fun j (hj : j < L.length) => own_one (hn.data _ (List.getElem_mem hj)).1
  have hx0 : ∀ o, (w.alloc o).cell? ⟨X, 1, none⟩ = some (.slice A L.length c) := fun o => Lib.cell?_alloc_some o (hn.mem.cell 1)
  have hBo : ∀ o, Below w.heap.size w (w.alloc o) := fun o => (Below.refl _ _).alloc (Nat.le_refl _) o
  obtain ⟨qk, hqk⟩ : ∃ q, L[k] = q := ⟨_, rfl⟩
  rw [hqk]
  unfold Pk.val at *
  go_enter Try.func22, Try.ntmps22
  go_wp2
  go_step3
  go_wp2
  go_step3
  go_wp2
  go_loopw [6, 14] (fun f i wr => ∃ j : Nat, j ≤ k ∧ f = .int .i64 (-1) ∧ i = .int .i64 j ∧ Below (w.heap.size + 1) (w.alloc (.cells #[.int .i64 0, .int .i64 0, .slice none 0 0] 41)) wr) (fun _ i _ => k - (intOf i).toNat)
  case atStart => exact ⟨0, by omega, rfl, rfl, Below.refl _ _⟩
  case round =>
    obtain ⟨j, hj, rfl, rfl, hb⟩ := hrel
    have hbw : Below w.heap.size w wr := (hBo _).trans (hb.mono (by simp))
    obtain ⟨g, hgA, hBg, hgl, hx1, hx2, hx3⟩ := hcells wr hbw j (by omega)
    have hj1 := hone j (by omega)
    have hM := (Mem.new wr 41 #[.int .i64 0, .int .i64 0, .slice none 0 0]).row #[.int .i64 L[j].fr, .int .i64 L[j].to, L[j].d]
    have hx4 := hM.cell 1
    have hjl : (j : Int) < (L.length : Int) := by omega
    have hb2 : Below (w.heap.size + 1) (w.alloc (.cells #[.int .i64 0, .int .i64 0, .slice none 0 0] 41)) ((wr.alloc (.cells #[.int .i64 0, .int .i64 0, .slice none 0 0] 41)).setRow wr.heap.size #[.int .i64 L[j].fr, .int .i64 L[j].to, L[j].d]) := below_setRow (hb.alloc (by have := hb.size; simp at this; exact this) _) (by have := hb.size; simp at this; exact this) _
    have hb2w : Below w.heap.size w ((wr.alloc (.cells #[.int .i64 0, .int .i64 0, .slice none 0 0] 41)).setRow wr.heap.size #[.int .i64 L[j].fr, .int .i64 L[j].to, L[j].d]) := (hBo _).trans (hb2.mono (by simp))
    by_cases hjk : j < k
    · have hne : (L[j].to == to) = false := by rw [beq_eq_false_iff_ne]; exact hk2 j (by omega) hjk
      generalize L[j] = q at *
      subst hgA
      clear hk1 hk2 hcells hone hdel
      go_wp2_with (refine wpList_store_row rfl 41 (.tmp 8) (.tmp 18) rfl wr.heap.size #[.int .i64 q.fr, .int .i64 q.to, q.d] rfl rfl 41 #[.int .i64 0, .int .i64 0, .slice none 0 0] (Mem.new wr _ _) (by kernel_rfl) (by kernel_rfl) (one_pk hj1) ?_)
      exact ⟨⟨j + 1, by omega, rfl, by go_num, hb2⟩, by simp [intOf]; omega⟩
    · obtain rfl : j = k := by omega
      have heq : (L[j].to == to) = true := by rw [beq_iff_eq]; exact hk1
      have hdl := hdel _ hb2w
      have hNM : ∀ w3, Eff (NS X (.slice A L.length c)) ((wr.alloc (.cells #[.int .i64 0, .int .i64 0, .slice none 0 0] 41)).setRow wr.heap.size #[.int .i64 L[j].fr, .int .i64 L[j].to, L[j].d]) w3 → Mem w3 w.heap.size 41 #[.int .i64 0, .int .i64 0, .slice none 0 0] := by
        intro w3 he
        refine ((Mem.new w 41 _).below hb2 (by omega)).eff he ?_
        intro hs
        have := (hn.ns _ hs).1
        omega
      have HN := Lib.hid hn
      generalize L[j] = q at *
      subst hqk
      clear hk1 hk2 hcells hone hdel hn
      subst hgA
      go_wp2_with (first
        | (refine wpList_store_row rfl 41 (.tmp 8) (.tmp 18) rfl wr.heap.size #[.int .i64 q.fr, .int .i64 q.to, q.d] rfl rfl 41 #[.int .i64 0, .int .i64 0, .slice none 0 0] (Mem.new wr _ _) (by kernel_rfl) (by kernel_rfl) (one_pk hj1) ?_)
        | (refine wpList_store_row rfl 41 (.tmp 4) (.tmp 28) rfl w.heap.size #[.int .i64 q.fr, .int .i64 q.to, q.d] rfl rfl 41 #[.int .i64 0, .int .i64 0, .slice none 0 0] hm1 (by kernel_rfl) (by kernel_rfl) (one_pk hj1) ?_)
        | (go_at_call 24; with_reducible refine hdl.mono ?_; rintro e w1 ⟨v', rfl, hn1, he1, ho1⟩; have hm1 := hNM _ he1))
      rw [Exit.noGoto_ret]
      refine bodyPost_ret (v := .tuple #[.agg #[.int .i64 q.fr, .int .i64 q.to, q.d], .bool true]) ?_ rfl ⟨rfl, step_out HN.out hb2w hn1 he1 ho1 hm1 _⟩
      exact (results_cell2 (p := 4) (a := 5) (ty := 41) rfl _ _ w.heap.size 41 _ (0, 0) _ rfl (hm1.row #[.int .i64 q.fr, .int .i64 q.to, q.d]) Try.underlying41 rfl (by kernel_rfl)).trans rfl
set_option maxRecDepth 100000 in
set_option maxHeartbeats 2000000 in
theorem take_no (B X h s : Nat) (v : Value) (L : List Pk) (to : Int) (hk2 : ∀ j (hj : j < L.length), L[j].to ≠ to) (w : World) (hn : NetInv w B X v h L s) :
    Calls Try.prog 22 #[.pointer (some ⟨X, 0, none⟩), .int .i64 to] w fun e w' => e = .returned (.tuple #[pk0, .bool false]) ∧ Below w.heap.size w w' := by
  obtain ⟨A, c, rfl, hc1, hc2⟩ := hn.parts
  have hdel := fun W (hW : Below w.heap.size w W) => deliver_no B X h s _ L (-1) (by omega) W (hn.below hW)
  have hcells := fun W (hW : Below w.heap.size w W) j (hj : j < L.length) => row_at (hn.below hW).row hj
  have hone := fun j (hj : j < L.length) => own_one (hn.data _ (List.getElem_mem hj)).1
  have hx0 : ∀ o, (w.alloc o).cell? ⟨X, 1, none⟩ = some (.slice A L.length c) := fun o => Lib.cell?_alloc_some o (hn.mem.cell 1)
  have hBo : ∀ o, Below w.heap.size w (w.alloc o) := fun o => (Below.refl _ _).alloc (Nat.le_refl _) o
  unfold pk0 at *
  go_enter Try.func22, Try.ntmps22
  go_wp2
  go_step3
  go_wp2
  go_step3
  go_wp2
  go_loopw [6, 14] (fun f i wr => ∃ j : Nat, j ≤ L.length ∧ f = .int .i64 (-1) ∧ i = .int .i64 j ∧ Below (w.heap.size + 1) (w.alloc (.cells #[.int .i64 0, .int .i64 0, .slice none 0 0] 41)) wr) (fun _ i _ => L.length - (intOf i).toNat)
  case atStart => exact ⟨0, by omega, rfl, rfl, Below.refl _ _⟩
  case round =>
    obtain ⟨j, hj, rfl, rfl, hb⟩ := hrel
    have hbw : Below w.heap.size w wr := (hBo _).trans (hb.mono (by simp))
    by_cases hjk : j < L.length
    · obtain ⟨g, hgA, hBg, hgl, hx1, hx2, hx3⟩ := hcells wr hbw j (by omega)
      have hj1 := hone j (by omega)
      have hM := (Mem.new wr 41 #[.int .i64 0, .int .i64 0, .slice none 0 0]).row #[.int .i64 L[j].fr, .int .i64 L[j].to, L[j].d]
      have hx4 := hM.cell 1
      have hjl : (j : Int) < (L.length : Int) := by omega
      have hb2 : Below (w.heap.size + 1) (w.alloc (.cells #[.int .i64 0, .int .i64 0, .slice none 0 0] 41)) ((wr.alloc (.cells #[.int .i64 0, .int .i64 0, .slice none 0 0] 41)).setRow wr.heap.size #[.int .i64 L[j].fr, .int .i64 L[j].to, L[j].d]) := below_setRow (hb.alloc (by have := hb.size; simp at this; exact this) _) (by have := hb.size; simp at this; exact this) _
      have hne : (L[j].to == to) = false := by rw [beq_eq_false_iff_ne]; exact hk2 j (by omega)
      generalize L[j] = q at *
      subst hgA
      clear hk2 hcells hone hdel
      go_wp2_with (refine wpList_store_row rfl 41 (.tmp 8) (.tmp 18) rfl wr.heap.size #[.int .i64 q.fr, .int .i64 q.to, q.d] rfl rfl 41 #[.int .i64 0, .int .i64 0, .slice none 0 0] (Mem.new wr _ _) (by kernel_rfl) (by kernel_rfl) (one_pk hj1) ?_)
      exact ⟨⟨j + 1, by omega, rfl, by go_num, hb2⟩, by simp [intOf]; omega⟩
    · obtain rfl : j = L.length := by omega
      have hdl := hdel _ hbw
      have hNM : ∀ w3, Below wr.heap.size wr w3 → Mem w3 w.heap.size 41 #[.int .i64 0, .int .i64 0, .slice none 0 0] ∧ Below w.heap.size w w3 := fun w3 he =>
        ⟨((Mem.new w 41 _).below hb (by omega)).below he (by have := hb.size; simp at this; omega), hbw.trans (he.mono hbw.size)⟩
      clear hk2 hcells hone hdel hn
      go_wp2_with (first
        | (refine wpList_store_row rfl 41 (.tmp 4) (.tmp 28) rfl w.heap.size #[.int .i64 0, .int .i64 0, .slice none 0 0] rfl rfl 41 #[.int .i64 0, .int .i64 0, .slice none 0 0] hm1 (by kernel_rfl) (by kernel_rfl) (by kernel_rfl) ?_)
        | (go_at_call 24; with_reducible refine hdl.mono ?_; rintro e w1 ⟨rfl, hb1⟩; obtain ⟨hm1, hbw1⟩ := hNM _ hb1))
      rw [Exit.noGoto_ret]
      refine bodyPost_ret (v := .tuple #[.agg #[.int .i64 0, .int .i64 0, .slice none 0 0], .bool false]) ?_ rfl ⟨rfl, below_setRow hbw1 (Nat.le_refl _) _⟩
      exact (results_cell2 (p := 4) (a := 5) (ty := 41) rfl _ _ w.heap.size 41 _ (0, 0) _ rfl (hm1.row #[.int .i64 0, .int .i64 0, .slice none 0 0]) Try.underlying41 rfl (by kernel_rfl)).trans rfl
end Go.Proofs.Ytmlimmcaidkoeaa
