/- The document's network: Take, refused Sends and Copies; same: contracts. -/
import Derived.Test.YtmlimmcaidkoeaaRf2
import Derived.LoopTactic
namespace Go.Proofs.Ytmlimmcaidkoeaa
open Go.ChangeShapes Go.WideShapes Go.ChangeAt Go.RowKit Go.Lib
set_option linter.unusedVariables false
theorem ref_out {w W w1 : World} {B R h s s1 : Nat} {u : Value} {M M1 : List Ab} {cs : Array Value} (hn : RefInv w B R u h M s) (hb : Below w.heap.size w W) (hlt : w.heap.size < W.heap.size) (hs : RefStep W w1 B R u h M1 s1) (ds : Array Value) : RefStep w (w1.setRow w.heap.size ds) B R u h M1 s1 := by
  obtain ⟨u', h1, h2, h3⟩ := hs
  have hS : Eff (fun k => k = w.heap.size) w1 (w1.setRow w.heap.size ds) := Eff.setRow (S := fun k => k = w.heap.size) (Eff.refl _ _) rfl _
  have hRl := hn.mem.lt
  refine ⟨u', ⟨h1.base, h1.mem.eff hS (by omega), owns_eff h1.row hS fun k hk e => ?_, h1.few, h1.sizes⟩, ((Eff.of hb).trans h2 fun _ _ h => h).trans hS fun k hk e => by omega, fun k hk => ?_⟩
  · rcases h3 k hk with h | h
    · have := (own_tag hn.row k h).2.1
      omega
    · omega
  · rcases h3 k hk with h | h
    · exact .inl h
    · exact .inr (by omega)
set_option maxRecDepth 100000 in
set_option maxHeartbeats 2000000 in
theorem rtake_ok (B R h s : Nat) (u : Value) (M : List Ab) (to : Int) (k : Nat) (hk : k < M.length) (hk1 : M[k].to = to) (hk2 : ∀ j (hj : j < M.length), j < k → M[j].to ≠ to) (w : World) (hB : B ≤ w.heap.size) (hn : RefInv w B R u h M s) :
    Calls Try.prog 28 #[.pointer (some ⟨R, 0, none⟩), .int .i64 to] w fun e w' => e = .returned (.tuple #[M[k].val, .bool true]) ∧ RefStep w w' B R u h (M.eraseIdx k) s := by
  obtain ⟨A, c, rfl, hc1, hc2⟩ := hn.parts
  have hBo : ∀ o, Below w.heap.size w (w.alloc o) := fun o => (Below.refl _ _).alloc (Nat.le_refl _) o
  have hout := fun o => out_ok B R h s _ M k hk (w.alloc o) (Nat.le_trans hB (hBo o).size) (hn.below (hBo o))
  have hcells := fun j (hj : j < M.length) => rrow_at hn.row hj
  have hx0 : ∀ o, (w.alloc o).cell? ⟨R, 1, none⟩ = some (.slice A M.length c) := fun o => Lib.cell?_alloc_some o (hn.mem.cell 1)
  obtain ⟨qk, hqk⟩ : ∃ q, M[k] = q := ⟨_, rfl⟩
  rw [hqk] at hout ⊢
  have hkto : qk.to = to := hqk ▸ hk1
  have hm : ∀ w1, RefStep (w.alloc (.cells #[.int .i64 0, .int .i64 0, .string .empty] 46)) w1 B R (.slice A M.length c) h (M.eraseIdx k) s → Mem w1 w.heap.size 46 #[.int .i64 0, .int .i64 0, .string .empty] := by
    rintro w1 ⟨u', _, h2, _⟩
    exact (Mem.new w 46 _).eff h2 (by have := hn.mem.lt; omega)
  have hfin : ∀ w1 ds, RefStep (w.alloc (.cells #[.int .i64 0, .int .i64 0, .string .empty] 46)) w1 B R (.slice A M.length c) h (M.eraseIdx k) s → RefStep w (w1.setRow w.heap.size ds) B R (.slice A M.length c) h (M.eraseIdx k) s := fun w1 ds hs => ref_out (cs := #[]) hn (hBo _) (by simp) hs ds
  obtain ⟨qf, qt, ql⟩ := qk
  unfold Ab.val at *
  unfold str at *
  simp only at hout hkto ⊢
  subst hkto
  have HN := Lib.hid hn
  clear hn hk1
  go_enter Try.func28, Try.ntmps28
  go_wp2
  go_loopw [6] (fun i wr => ∃ j : Nat, j ≤ k ∧ i = .int .i64 j ∧ wr = w.alloc (.cells #[.int .i64 0, .int .i64 0, .string .empty] 46)) (fun i _ => k - (intOf i).toNat)
  case atStart => exact ⟨0, by omega, rfl, rfl⟩
  case round =>
    obtain ⟨j, hj, rfl, rfl⟩ := hrel
    obtain ⟨g, hgA, hBg, hgl, hx1, hx2, hx3⟩ := hcells j (by omega)
    have hy2 := fun o => Lib.cell?_alloc_some o hx2
    have hjl : (j : Int) < (M.length : Int) := by omega
    by_cases hjk : j < k
    · have hne : (M[j].to == qt) = false := by rw [beq_eq_false_iff_ne]; exact hk2 j (by omega) hjk
      generalize M[j].to = tj at *
      subst hgA
      clear hk2 hcells hout hm hfin hx1 hx3 hqk
      go_wp2
      exact ⟨⟨j + 1, by omega, by go_num, trivial⟩, by simp [intOf]; omega⟩
    · obtain rfl : j = k := by omega
      rw [hqk] at hy2
      simp only at hy2
      subst hgA
      clear hk2 hcells hx1 hx3 hqk hx2
      go_wp2_with (first
        | (refine wpList_store_row rfl 46 (.tmp 4) (.tmp 29) rfl w.heap.size #[.int .i64 qf, .int .i64 qt, .string ⟨ql.toArray⟩] rfl rfl 46 #[.int .i64 0, .int .i64 0, .string .empty] hm1 (by kernel_rfl) (by kernel_rfl) (by kernel_rfl) ?_)
        | (go_at_call 26; (refine (hout _).mono ?_); rintro e w1 ⟨rfl, hs1⟩; have hm1 := hm _ hs1))
      try simp only [Exit.inBlock, Exit.then]
      refine bodyPost_ret (v := .tuple #[.agg #[.int .i64 qf, .int .i64 qt, .string ⟨ql.toArray⟩], .bool true]) ?_ rfl ⟨rfl, hfin _ _ hs1⟩
      exact (results_cell2 (p := 4) (a := 5) (ty := 46) rfl _ _ w.heap.size 46 _ (0, 0) _ rfl (hm1.row _) Try.underlying46 rfl (by kernel_rfl)).trans rfl
set_option maxRecDepth 100000 in
set_option maxHeartbeats 2000000 in
theorem rtake_no (B R h s : Nat) (u : Value) (M : List Ab) (to : Int) (hk2 : ∀ j (hj : j < M.length), M[j].to ≠ to) (w : World) (hn : RefInv w B R u h M s) :
    Calls Try.prog 28 #[.pointer (some ⟨R, 0, none⟩), .int .i64 to] w fun e w' => e = .returned (.tuple #[ab0, .bool false]) ∧ Below w.heap.size w w' := by
  obtain ⟨A, c, rfl, hc1, hc2⟩ := hn.parts
  have hcells := fun j (hj : j < M.length) => rrow_at hn.row hj
  have hx0 : ∀ o, (w.alloc o).cell? ⟨R, 1, none⟩ = some (.slice A M.length c) := fun o => Lib.cell?_alloc_some o (hn.mem.cell 1)
  unfold ab0
  have HN := Lib.hid hn
  clear hn
  have hm1 : Mem (w.alloc (.cells #[.int .i64 0, .int .i64 0, .string .empty] 46)) w.heap.size 46 #[.int .i64 0, .int .i64 0, .string .empty] := Mem.new w _ _
  go_enter Try.func28, Try.ntmps28
  go_wp2
  go_loopw [6] (fun i wr => ∃ j : Nat, j ≤ M.length ∧ i = .int .i64 j ∧ wr = w.alloc (.cells #[.int .i64 0, .int .i64 0, .string .empty] 46)) (fun i _ => M.length - (intOf i).toNat)
  case atStart => exact ⟨0, by omega, rfl, rfl⟩
  case round =>
    obtain ⟨j, hj, rfl, rfl⟩ := hrel
    by_cases hjk : j < M.length
    · obtain ⟨g, hgA, hBg, hgl, hx1, hx2, hx3⟩ := hcells j (by omega)
      have hy2 := fun o => Lib.cell?_alloc_some o hx2
      have hjl : (j : Int) < (M.length : Int) := by omega
      have hne : (M[j].to == to) = false := by rw [beq_eq_false_iff_ne]; exact hk2 j (by omega)
      generalize M[j].to = tj at *
      subst hgA
      clear hk2 hcells hx1 hx3 hx2
      go_wp2
      exact ⟨⟨j + 1, by omega, by go_num, trivial⟩, by simp [intOf]; omega⟩
    · obtain rfl : j = M.length := by omega
      clear hk2 hcells
      go_wp2_with (first
        | (refine wpList_store_row rfl 46 (.tmp 4) (.tmp 31) rfl w.heap.size #[.int .i64 0, .int .i64 0, .string .empty] rfl rfl 46 #[.int .i64 0, .int .i64 0, .string .empty] hm1 (by kernel_rfl) (by kernel_rfl) (by kernel_rfl) ?_))
      try simp only [Exit.inBlock, Exit.then]
      refine bodyPost_ret (v := .tuple #[.agg #[.int .i64 0, .int .i64 0, .string .empty], .bool false]) ?_ rfl ⟨rfl, below_setRow ((Below.refl _ _).alloc (Nat.le_refl _) _) (Nat.le_refl _) _⟩
      exact (results_cell2 (p := 4) (a := 5) (ty := 46) rfl _ _ w.heap.size 46 _ (0, 0) _ rfl (hm1.row _) Try.underlying46 rfl (by kernel_rfl)).trans rfl
set_option maxHeartbeats 2000000 in
theorem same_any (fr to : Int) (d : Value) (l : List UInt8) (w : World) (hd : Sl w w.heap.size d l.length (bs l)) :
    Calls Try.prog 17 #[.agg #[.int .i64 fr, .int .i64 to, d], .agg #[.int .i64 fr, .int .i64 to, .string ⟨l.toArray⟩]] w fun e w' => e = .returned (.bool true) ∧ Below w.heap.size w w' := by
  obtain ⟨A, c, rfl, _, _⟩ := hd.form
  have hstr := fun o1 o2 => bytes_str (P := Try.prog) ((w.alloc o1).alloc o2) 33 9 5 Try.underlying33 Try.underlying5 Try.underlying9 _ _ l l.length (((hd.alloc (Nat.le_refl _) o1).more (by simp)).alloc (Nat.le_refl _) o2)
  go_enter Try.func17, Try.ntmps17
  go_wp2
  go_ret
  exact ⟨rfl, ((Below.refl _ _).alloc (Nat.le_refl _) _).alloc (by simp) _⟩
end Go.Proofs.Ytmlimmcaidkoeaa
