/- WitnessBytes: for all registers and bytes the statement's function tells true and turns nothing that was there. No condition. -/
import Derived.Test.YtccknplmcnahbaaRgO
namespace Go.Proofs.Ytccknplmcnahbaa
open Go.ChangeShapes Go.WideShapes Go.ChangeAt Go.RowKit Go.Lib
set_option linter.unusedVariables false
set_option linter.unusedSimpArgs false
set_option maxRecDepth 100000
namespace Wt
open Dk Tw
theorem boxN (w : World) (cs : Array Value) : ∃ W2, W2 = (w.alloc (.cells #[.int .u64 0, .int .i64 0, .int .i64 0] 24)).setRow w.heap.size cs ∧ Below w.heap.size w W2 ∧ Mem W2 w.heap.size 24 cs :=
  ⟨_, rfl, below_setRow ((Below.refl _ w).alloc (Nat.le_refl _) _) (Nat.le_refl _) _, (Mem.new w _ _).row cs⟩
set_option maxHeartbeats 16000000 in
theorem walk_no (re : Nat) (rp rm : Int) (v : Value) (l : List UInt8) (w : World) (hre : re ≤ 18446744073709551615) (hok : okR rp rm = false) (hv : Sl w w.heap.size v l.length (bs l)) : Calls Try.prog 3 #[.agg #[.int .u64 (re : Nat), .int .i64 rp, .int .i64 rm], v] w fun e' w' => e' = .returned (.bool true) ∧ Below w.heap.size w w' := by
  obtain ⟨A, c, rfl, hc1, hc2⟩ := hv.form
  unfold maxLen at hc2
  have hlr : ∀ W, Calls Try.prog 9 #[.agg #[.int .u64 (re : Nat), .int .i64 rp, .int .i64 rm]] W fun e' w' => e' = .returned (.bool false) ∧ Below W.heap.size W w' := fun W => by
    have := lright_any re rp rm W
    rwa [hok] at this
  have HR := Lib.hid hre
  clear hre hok
  have hA := (Below.refl _ w).alloc (Nat.le_refl _) (.cells #[.int .u64 (re : Nat), .int .i64 rp, .int .i64 rm] 24)
  have hM := Mem.new w 24 #[.int .u64 (re : Nat), .int .i64 rp, .int .i64 rm]
  by_cases h100 : 100 < l.length
  · have h100x : 100 < (l.length : Int) := by omega
    go_enter Try.func3, Try.ntmps3
    go_wp2_with (go_at_call 6; refine (known_any _).mono ?_; rintro e' w1 ⟨rfl, hb1⟩; have B1 := hA.trans (hb1.mono hA.size); have m1 := hM.below hb1 hM.lt)
    go_ret
    exact ⟨rfl, B1⟩
  have h100x : (l.length : Int) ≤ 100 := by omega
  have hdec : ∀ W, Below w.heap.size w W → Calls Try.prog 7 #[.slice A l.length c] W fun e' w' => e' = .returned (decV (decR l)) ∧ Below W.heap.size W w' := fun W hW => decode_any _ l W (hv.now hW)
  cases hd : decR l with
  | none =>
    rw [hd] at hdec
    replace hdec : ∀ W, Below w.heap.size w W → Calls Try.prog 7 #[.slice A l.length c] W fun e' w' => e' = .returned (.tuple #[.agg #[.int .u64 0, .int .i64 0, .int .i64 0], .int .i64 2]) ∧ Below W.heap.size W w' := hdec
    by_cases h10 : l.length = 10
    · have h10x : (l.length : Int) = 10 := by omega
      have h10b : ((l.length : Int) == 10) = true := beq_iff_eq.2 h10x
      have hnk : okR (gb l 8 : Nat) (gb l 9 : Nat) = false := by
        cases hk : okR (gb l 8 : Nat) (gb l 9 : Nat) with
        | false => rfl
        | true => unfold decR at hd; rw [if_pos ⟨h10, hk⟩] at hd; cases hd
      have hl0 : ∀ W, Calls Try.prog 9 #[.agg #[.int .u64 0, .int .i64 (gb l 8 : Nat), .int .i64 (gb l 9 : Nat)]] W fun e' w' => e' = .returned (.bool false) ∧ Below W.heap.size W w' := fun W => by
        have := lright_any 0 (gb l 8 : Nat) (gb l 9 : Nat) W
        rwa [hnk] at this
      obtain ⟨b, off, rfl, hb, hcell⟩ := hv.at_ (by omega)
      have x8 : ∀ W, Below w.heap.size w W → W.cell? ⟨b, off + 8, none⟩ = some (.int .u8 (gb l 8 : Nat)) := fun W hW => (hW.cell (p := ⟨b, off + 8, none⟩) hb).trans (hcell 8 _ (by rw [bs_get (by omega)]; unfold gb; rw [List.getElem?_eq_getElem (by omega)]; rfl))
      have x9 : ∀ W, Below w.heap.size w W → W.cell? ⟨b, off + 9, none⟩ = some (.int .u8 (gb l 9 : Nat)) := fun W hW => (hW.cell (p := ⟨b, off + 9, none⟩) hb).trans (hcell 9 _ (by rw [bs_get (by omega)]; unfold gb; rw [List.getElem?_eq_getElem (by omega)]; rfl))
      have h8 := gb_lt l 8
      have h9 := gb_lt l 9
      clear hcell hnk
      generalize gb l 8 = p at *
      generalize gb l 9 = m at *
      have hpx : (p : Int) ≤ 255 := by omega
      have hmx : (m : Int) ≤ 255 := by omega
      clear h10b h10x h100x h100
      generalize l.length = n at *
      subst h10
      go_enter Try.func3, Try.ntmps3
      go_wp2_with (first
        | (go_at_call 6; refine (known_any _).mono ?_; rintro e' w1 ⟨rfl, hb1⟩; have B1 := hA.trans (hb1.mono hA.size); have m1 := hM.below hb1 hM.lt)
        | (go_at_call 7; (with_reducible refine (hdec _ B1).mono ?_); rintro e' w2 ⟨rfl, hb2⟩; have B2 := B1.trans (hb2.mono B1.size); have m2 := m1.below hb2 m1.lt)
        | (refine wpList_store_row rfl 24 (.tmp 5) (.tmp 17) rfl w2.heap.size #[.int .u64 0, .int .i64 0, .int .i64 0] rfl rfl 24 #[.int .u64 0, .int .i64 0, .int .i64 0] (Mem.new w2 _ _) (by kernel_rfl) (by kernel_rfl) (by kernel_rfl) ?_; obtain ⟨w3, e3, b3, m3⟩ := boxN w2 #[.int .u64 0, .int .i64 0, .int .i64 0]; rw [← e3]; clear e3; have B3 := B2.trans (b3.mono B2.size); have n3 := m2.below b3 m2.lt))
      apply calm_region [.is _, .is _, .is _, .is _, .is _, .is _, .is _, .is _, .is _, .is _, .is (.bool true), .is (.bool true), .is _, .is _, .is _, .is _, .is _, .is _, .is _, .is _, .is _, .is _, .is _, .is _] [[], [0], [1], [2], [2], [3, 4, 2], [2, 5], [6, 2], [7], [8, 7], [9, 7], [10, 7, 7], [11], [12, 11], [13, 11], [14, 11], [11], [16, 11], [17, 11], [18, 11], [15, 19, 11], [20, 11, 11], [11, 21, 7], [7, 22]] (by kernel_rfl) (by kernel_rfl) (by kernel_rfl) rfl
      intro f a1 ha1
      simp only [putL, Act.put, List.setIfInBounds_toArray, List.set_cons_succ, List.set_cons_zero] at ha1
      subst ha1
      refine ⟨?_, ?_⟩
      · refine AllCalm.cons (fun W hB hd => ?_) ?_
        · go_wp2_with (fail)
          exact CalmQ.mk rfl _ rfl (Below.refl _ _) rfl
        refine AllCalm.cons (fun W hB hd => ?_) ?_
        · obtain ⟨h0, -⟩ := hd
          have h0 : f 0 = _ := h0
          rw [h0]
          go_wp2_with (fail)
          exact CalmQ.mk rfl _ rfl (Below.refl _ _) rfl
        refine AllCalm.cons (fun W hB hd => ?_) ?_
        · obtain ⟨h1, -⟩ := hd
          have h1 : f 1 = _ := h1
          rw [h1]
          go_wp2_with (fail)
          exact CalmQ.mk rfl _ rfl (Below.refl _ _) rfl
        refine AllCalm.cons (fun W hB hd => ?_) ?_
        · obtain ⟨h2, -⟩ := hd
          have h2 : f 2 = _ := h2
          rw [h2]
          have k8 := m3.below hB m3.lt; have q0 := k8.cell 0; have q1 := k8.cell 1; have q2 := k8.cell 2
          go_wp2_with (fail)
          exact CalmQ.mk rfl _ rfl (Below.refl _ _) rfl
        refine AllCalm.cons (fun W hB hd => ?_) ?_
        · obtain ⟨h2, -⟩ := hd
          have h2 : f 2 = _ := h2
          rw [h2]
          go_wp2_with (fail)
          exact CalmQ.mk rfl _ rfl (Below.refl _ _) rfl
        refine AllCalm.cons (fun W hB hd => ?_) ?_
        · obtain ⟨h3, h4, h2, -⟩ := hd
          have h3 : f 3 = _ := h3
          have h4 : f 4 = _ := h4
          have h2 : f 2 = _ := h2
          rw [h3, h4, h2]
          go_wp2_with (fail)
          exact CalmQ.mk rfl _ rfl (Below.refl _ _) rfl
        refine AllCalm.cons (fun W hB hd => ?_) ?_
        · obtain ⟨h2, h5, -⟩ := hd
          have h2 : f 2 = _ := h2
          have h5 : f 5 = _ := h5
          rw [h2, h5]
          go_wp2_with (fail)
          exact CalmQ.mk rfl _ rfl (Below.refl _ _) rfl
        refine AllCalm.cons (fun W hB hd => ?_) ?_
        · obtain ⟨h6, h2, -⟩ := hd
          have h6 : f 6 = _ := h6
          have h2 : f 2 = _ := h2
          rw [h6, h2]
          go_wp2_with (fail)
          exact CalmQ.mk rfl _ rfl (Below.refl _ _) rfl
        refine AllCalm.cons (fun W hB hd => ?_) ?_
        · obtain ⟨h7, -⟩ := hd
          have h7 : f 7 = _ := h7
          rw [h7]
          go_wp2_with (fail)
          exact CalmQ.mk rfl _ rfl (Below.refl _ _) rfl
        refine AllCalm.cons (fun W hB hd => ?_) ?_
        · obtain ⟨h8, h7, -⟩ := hd
          have h8 : f 8 = _ := h8
          have h7 : f 7 = _ := h7
          rw [h8, h7]
          go_wp2_with (fail)
          exact CalmQ.mk rfl _ rfl (Below.refl _ _) rfl
        refine AllCalm.cons (fun W hB hd => ?_) ?_
        · obtain ⟨h9, h7, -⟩ := hd
          have h9 : f 9 = _ := h9
          have h7 : f 7 = _ := h7
          rw [h9, h7]
          go_wp2_with (fail)
          exact CalmQ.mk rfl _ rfl (Below.refl _ _) rfl
        refine AllCalm.cons (fun W hB hd => ?_) ?_
        · obtain ⟨h10, h7, -, -⟩ := hd
          have h10 : f 10 = _ := h10
          have h7 : f 7 = _ := h7
          rw [h10, h7]
          go_wp2_with (fail)
          exact CalmQ.mk rfl _ rfl (Below.refl _ _) rfl
        refine AllCalm.cons (fun W hB hd => ?_) ?_
        · obtain ⟨h11, -⟩ := hd
          have h11 : f 11 = _ := h11
          rw [h11]
          go_wp2_with (fail)
          exact CalmQ.mk rfl _ rfl (Below.refl _ _) rfl
        refine AllCalm.cons (fun W hB hd => ?_) ?_
        · obtain ⟨h12, h11, -⟩ := hd
          have h12 : f 12 = _ := h12
          have h11 : f 11 = _ := h11
          rw [h12, h11]
          go_wp2_with (fail)
          exact CalmQ.mk rfl _ rfl (Below.refl _ _) rfl
        refine AllCalm.cons (fun W hB hd => ?_) ?_
        · obtain ⟨h13, h11, -⟩ := hd
          have h13 : f 13 = _ := h13
          have h11 : f 11 = _ := h11
          rw [h13, h11]
          have y0 := x8 W (B3.trans (hB.mono B3.size))
          go_wp2_with (fail)
          exact CalmQ.mk rfl _ rfl (Below.refl _ _) rfl
        refine AllCalm.cons (fun W hB hd => ?_) ?_
        · obtain ⟨h14, h11, -⟩ := hd
          have h14 : f 14 = _ := h14
          have h11 : f 11 = _ := h11
          rw [h14, h11]
          go_wp2_with (fail)
          exact CalmQ.mk rfl _ rfl (Below.refl _ _) rfl
        refine AllCalm.cons (fun W hB hd => ?_) ?_
        · obtain ⟨h11, -⟩ := hd
          have h11 : f 11 = _ := h11
          rw [h11]
          go_wp2_with (fail)
          exact CalmQ.mk rfl _ rfl (Below.refl _ _) rfl
        refine AllCalm.cons (fun W hB hd => ?_) ?_
        · obtain ⟨h16, h11, -⟩ := hd
          have h16 : f 16 = _ := h16
          have h11 : f 11 = _ := h11
          rw [h16, h11]
          go_wp2_with (fail)
          exact CalmQ.mk rfl _ rfl (Below.refl _ _) rfl
        refine AllCalm.cons (fun W hB hd => ?_) ?_
        · obtain ⟨h17, h11, -⟩ := hd
          have h17 : f 17 = _ := h17
          have h11 : f 11 = _ := h11
          rw [h17, h11]
          have y0 := x9 W (B3.trans (hB.mono B3.size))
          go_wp2_with (fail)
          exact CalmQ.mk rfl _ rfl (Below.refl _ _) rfl
        refine AllCalm.cons (fun W hB hd => ?_) ?_
        · obtain ⟨h18, h11, -⟩ := hd
          have h18 : f 18 = _ := h18
          have h11 : f 11 = _ := h11
          rw [h18, h11]
          go_wp2_with (fail)
          exact CalmQ.mk rfl _ rfl (Below.refl _ _) rfl
        refine AllCalm.cons (fun W hB hd => ?_) ?_
        · obtain ⟨h15, h19, h11, -⟩ := hd
          have h15 : f 15 = _ := h15
          have h19 : f 19 = _ := h19
          have h11 : f 11 = _ := h11
          rw [h15, h19, h11]
          go_wp2_with (fail)
          exact CalmQ.mk rfl _ rfl (Below.refl _ _) rfl
        refine AllCalm.cons (fun W hB hd => ?_) ?_
        · obtain ⟨h20, h11, -, -⟩ := hd
          have h20 : f 20 = _ := h20
          have h11 : f 11 = _ := h11
          rw [h20, h11]
          go_wp2_with ((go_at_call 9; (with_reducible refine (hl0 _).mono ?_); rintro e' w8 ⟨rfl, b8⟩))
          exact CalmQ.mk rfl _ rfl b8 rfl
        refine AllCalm.cons (fun W hB hd => ?_) ?_
        · obtain ⟨h11, h21, h7, -⟩ := hd
          have h11 : f 11 = _ := h11
          have h21 : f 21 = _ := h21
          have h7 : f 7 = _ := h7
          rw [h11, h21, h7]
          go_wp2_with (fail)
          exact CalmQ.mk rfl _ rfl (Below.refl _ _) rfl
        refine AllCalm.cons (fun W hB hd => ?_) ?_
        · obtain ⟨h7, h22, -⟩ := hd
          have h7 : f 7 = _ := h7
          have h22 : f 22 = _ := h22
          rw [h7, h22]
          go_wp2_with (fail)
          exact CalmQ.mk rfl _ rfl (Below.refl _ _) rfl
        exact AllCalm.nil
      · intro W hB hT
        obtain ⟨h0, h1, h2, h3, h4, h5, h6, h7, h8, h9, h10, h11, h12, h13, h14, h15, h16, h17, h18, h19, h20, h21, h22, h23, -⟩ := hT
        have h0 : f 0 = _ := h0
        have h1 : f 1 = _ := h1
        have h2 : f 2 = _ := h2
        have h3 : f 3 = _ := h3
        have h4 : f 4 = _ := h4
        have h5 : f 5 = _ := h5
        have h6 : f 6 = _ := h6
        have h7 : f 7 = _ := h7
        have h8 : f 8 = _ := h8
        have h9 : f 9 = _ := h9
        have h10 : f 10 = _ := h10
        have h11 : f 11 = _ := h11
        have h12 : f 12 = _ := h12
        have h13 : f 13 = _ := h13
        have h14 : f 14 = _ := h14
        have h15 : f 15 = _ := h15
        have h16 : f 16 = _ := h16
        have h17 : f 17 = _ := h17
        have h18 : f 18 = _ := h18
        have h19 : f 19 = _ := h19
        have h20 : f 20 = _ := h20
        have h21 : f 21 = _ := h21
        have h22 : f 22 = _ := h22
        have h23 : f 23 = _ := h23
        rw [h0, h1, h2, h3, h4, h5, h6, h7, h8, h9, h10, h11, h12, h13, h14, h15, h16, h17, h18, h19, h20, h21, h22, h23]
        clear h0 h1 h2 h3 h4 h5 h6 h7 h8 h9 h10 h11 h12 h13 h14 h15 h16 h17 h18 h19 h20 h21 h22 h23
        have B4 := B3.trans (hB.mono B3.size)
        have m4 := n3.below hB n3.lt
        go_wp2_with (first
          | (refine wpList_load_row rfl 24 (.tmp 2) rfl w.heap.size rfl 24 #[.int .u64 (re : Nat), .int .i64 rp, .int .i64 rm] (0, 0) _ m4 Try.underlying24 rfl (by kernel_rfl) ?_)
          | (go_at_call 9; (with_reducible refine (hlr _).mono ?_); rintro e' wa ⟨rfl, ba⟩; have Ba := B4.trans (ba.mono B4.size); have ma := m4.below ba m4.lt))
        all_goals
          go_ret
          exact ⟨rfl, Ba⟩
    · have h10x : ¬ (l.length : Int) = 10 := by omega
      have h10b : ((l.length : Int) == 10) = false := beq_eq_false_iff_ne.2 h10x
      go_enter Try.func3, Try.ntmps3
      go_wp2_with (first
        | (go_at_call 6; refine (known_any _).mono ?_; rintro e' w1 ⟨rfl, hb1⟩; have B1 := hA.trans (hb1.mono hA.size); have m1 := hM.below hb1 hM.lt)
        | (go_at_call 7; (with_reducible refine (hdec _ B1).mono ?_); rintro e' w2 ⟨rfl, hb2⟩; have B2 := B1.trans (hb2.mono B1.size); have m2 := m1.below hb2 m1.lt)
        | (refine wpList_store_row rfl 24 (.tmp 5) (.tmp 17) rfl w2.heap.size #[.int .u64 0, .int .i64 0, .int .i64 0] rfl rfl 24 #[.int .u64 0, .int .i64 0, .int .i64 0] (Mem.new w2 _ _) (by kernel_rfl) (by kernel_rfl) (by kernel_rfl) ?_; obtain ⟨w3, e3, b3, m3⟩ := boxN w2 #[.int .u64 0, .int .i64 0, .int .i64 0]; rw [← e3]; clear e3; have B3 := B2.trans (b3.mono B2.size); have n3 := m2.below b3 m2.lt))
      apply calm_region [.is _, .is _, .is _, .is _, .is _, .is _, .is _, .is _, .is _, .is _, .is (.bool false), .is (.bool false), .is _, .is _, .is _, .is _, .is _, .is _, .is _, .is _, .is _, .is _, .is _, .is _] [[], [0], [1], [2], [2], [3, 4, 2], [2, 5], [6, 2], [7], [8, 7], [9, 7], [10, 7, 7], [11], [12, 11], [13, 11], [14, 11], [11], [16, 11], [17, 11], [18, 11], [15, 19, 11], [20, 11, 11], [11, 21, 7], [7, 22]] (by kernel_rfl) (by kernel_rfl) (by kernel_rfl) rfl
      intro f a1 ha1
      simp only [putL, Act.put, List.setIfInBounds_toArray, List.set_cons_succ, List.set_cons_zero] at ha1
      subst ha1
      refine ⟨?_, ?_⟩
      · refine AllCalm.cons (fun W hB hd => ?_) ?_
        · go_wp2_with (fail)
          exact CalmQ.mk rfl _ rfl (Below.refl _ _) rfl
        refine AllCalm.cons (fun W hB hd => ?_) ?_
        · obtain ⟨h0, -⟩ := hd
          have h0 : f 0 = _ := h0
          rw [h0]
          go_wp2_with (fail)
          exact CalmQ.mk rfl _ rfl (Below.refl _ _) rfl
        refine AllCalm.cons (fun W hB hd => ?_) ?_
        · obtain ⟨h1, -⟩ := hd
          have h1 : f 1 = _ := h1
          rw [h1]
          go_wp2_with (fail)
          exact CalmQ.mk rfl _ rfl (Below.refl _ _) rfl
        refine AllCalm.cons (fun W hB hd => ?_) ?_
        · obtain ⟨h2, -⟩ := hd
          have h2 : f 2 = _ := h2
          rw [h2]
          have k8 := m3.below hB m3.lt; have q0 := k8.cell 0; have q1 := k8.cell 1; have q2 := k8.cell 2
          go_wp2_with (fail)
          exact CalmQ.mk rfl _ rfl (Below.refl _ _) rfl
        refine AllCalm.cons (fun W hB hd => ?_) ?_
        · obtain ⟨h2, -⟩ := hd
          have h2 : f 2 = _ := h2
          rw [h2]
          go_wp2_with (fail)
          exact CalmQ.mk rfl _ rfl (Below.refl _ _) rfl
        refine AllCalm.cons (fun W hB hd => ?_) ?_
        · obtain ⟨h3, h4, h2, -⟩ := hd
          have h3 : f 3 = _ := h3
          have h4 : f 4 = _ := h4
          have h2 : f 2 = _ := h2
          rw [h3, h4, h2]
          go_wp2_with (fail)
          exact CalmQ.mk rfl _ rfl (Below.refl _ _) rfl
        refine AllCalm.cons (fun W hB hd => ?_) ?_
        · obtain ⟨h2, h5, -⟩ := hd
          have h2 : f 2 = _ := h2
          have h5 : f 5 = _ := h5
          rw [h2, h5]
          go_wp2_with (fail)
          exact CalmQ.mk rfl _ rfl (Below.refl _ _) rfl
        refine AllCalm.cons (fun W hB hd => ?_) ?_
        · obtain ⟨h6, h2, -⟩ := hd
          have h6 : f 6 = _ := h6
          have h2 : f 2 = _ := h2
          rw [h6, h2]
          go_wp2_with (fail)
          exact CalmQ.mk rfl _ rfl (Below.refl _ _) rfl
        refine AllCalm.cons (fun W hB hd => ?_) ?_
        · obtain ⟨h7, -⟩ := hd
          have h7 : f 7 = _ := h7
          rw [h7]
          go_wp2_with (fail)
          exact CalmQ.mk rfl _ rfl (Below.refl _ _) rfl
        refine AllCalm.cons (fun W hB hd => ?_) ?_
        · obtain ⟨h8, h7, -⟩ := hd
          have h8 : f 8 = _ := h8
          have h7 : f 7 = _ := h7
          rw [h8, h7]
          go_wp2_with (fail)
          exact CalmQ.mk rfl _ rfl (Below.refl _ _) rfl
        refine AllCalm.cons (fun W hB hd => ?_) ?_
        · obtain ⟨h9, h7, -⟩ := hd
          have h9 : f 9 = _ := h9
          have h7 : f 7 = _ := h7
          rw [h9, h7]
          go_wp2_with (fail)
          exact CalmQ.mk rfl _ rfl (Below.refl _ _) rfl
        refine AllCalm.cons (fun W hB hd => ?_) ?_
        · obtain ⟨h10, h7, -, -⟩ := hd
          have h10 : f 10 = _ := h10
          have h7 : f 7 = _ := h7
          rw [h10, h7]
          go_wp2_with (fail)
          exact CalmQ.mk rfl _ rfl (Below.refl _ _) rfl
        refine AllCalm.cons (fun W hB hd => ?_) ?_
        · obtain ⟨h11, -⟩ := hd
          have h11 : f 11 = _ := h11
          rw [h11]
          go_wp2_with (fail)
          exact CalmQ.mk rfl _ rfl (Below.refl _ _) rfl
        refine AllCalm.cons (fun W hB hd => ?_) ?_
        · obtain ⟨h12, h11, -⟩ := hd
          have h12 : f 12 = _ := h12
          have h11 : f 11 = _ := h11
          rw [h12, h11]
          go_wp2_with (fail)
          exact CalmQ.mk rfl _ rfl (Below.refl _ _) rfl
        refine AllCalm.cons (fun W hB hd => ?_) ?_
        · obtain ⟨h13, h11, -⟩ := hd
          have h13 : f 13 = _ := h13
          have h11 : f 11 = _ := h11
          rw [h13, h11]
          go_wp2_with (fail)
          exact CalmQ.mk rfl _ rfl (Below.refl _ _) rfl
        refine AllCalm.cons (fun W hB hd => ?_) ?_
        · obtain ⟨h14, h11, -⟩ := hd
          have h14 : f 14 = _ := h14
          have h11 : f 11 = _ := h11
          rw [h14, h11]
          go_wp2_with (fail)
          exact CalmQ.mk rfl _ rfl (Below.refl _ _) rfl
        refine AllCalm.cons (fun W hB hd => ?_) ?_
        · obtain ⟨h11, -⟩ := hd
          have h11 : f 11 = _ := h11
          rw [h11]
          go_wp2_with (fail)
          exact CalmQ.mk rfl _ rfl (Below.refl _ _) rfl
        refine AllCalm.cons (fun W hB hd => ?_) ?_
        · obtain ⟨h16, h11, -⟩ := hd
          have h16 : f 16 = _ := h16
          have h11 : f 11 = _ := h11
          rw [h16, h11]
          go_wp2_with (fail)
          exact CalmQ.mk rfl _ rfl (Below.refl _ _) rfl
        refine AllCalm.cons (fun W hB hd => ?_) ?_
        · obtain ⟨h17, h11, -⟩ := hd
          have h17 : f 17 = _ := h17
          have h11 : f 11 = _ := h11
          rw [h17, h11]
          go_wp2_with (fail)
          exact CalmQ.mk rfl _ rfl (Below.refl _ _) rfl
        refine AllCalm.cons (fun W hB hd => ?_) ?_
        · obtain ⟨h18, h11, -⟩ := hd
          have h18 : f 18 = _ := h18
          have h11 : f 11 = _ := h11
          rw [h18, h11]
          go_wp2_with (fail)
          exact CalmQ.mk rfl _ rfl (Below.refl _ _) rfl
        refine AllCalm.cons (fun W hB hd => ?_) ?_
        · obtain ⟨h15, h19, h11, -⟩ := hd
          have h15 : f 15 = _ := h15
          have h19 : f 19 = _ := h19
          have h11 : f 11 = _ := h11
          rw [h15, h19, h11]
          go_wp2_with (fail)
          exact CalmQ.mk rfl _ rfl (Below.refl _ _) rfl
        refine AllCalm.cons (fun W hB hd => ?_) ?_
        · obtain ⟨h20, h11, -, -⟩ := hd
          have h20 : f 20 = _ := h20
          have h11 : f 11 = _ := h11
          rw [h20, h11]
          go_wp2_with (fail)
          exact CalmQ.mk rfl _ rfl (Below.refl _ _) rfl
        refine AllCalm.cons (fun W hB hd => ?_) ?_
        · obtain ⟨h11, h21, h7, -⟩ := hd
          have h11 : f 11 = _ := h11
          have h21 : f 21 = _ := h21
          have h7 : f 7 = _ := h7
          rw [h11, h21, h7]
          go_wp2_with (fail)
          exact CalmQ.mk rfl _ rfl (Below.refl _ _) rfl
        refine AllCalm.cons (fun W hB hd => ?_) ?_
        · obtain ⟨h7, h22, -⟩ := hd
          have h7 : f 7 = _ := h7
          have h22 : f 22 = _ := h22
          rw [h7, h22]
          go_wp2_with (fail)
          exact CalmQ.mk rfl _ rfl (Below.refl _ _) rfl
        exact AllCalm.nil
      · intro W hB hT
        obtain ⟨h0, h1, h2, h3, h4, h5, h6, h7, h8, h9, h10, h11, h12, h13, h14, h15, h16, h17, h18, h19, h20, h21, h22, h23, -⟩ := hT
        have h0 : f 0 = _ := h0
        have h1 : f 1 = _ := h1
        have h2 : f 2 = _ := h2
        have h3 : f 3 = _ := h3
        have h4 : f 4 = _ := h4
        have h5 : f 5 = _ := h5
        have h6 : f 6 = _ := h6
        have h7 : f 7 = _ := h7
        have h8 : f 8 = _ := h8
        have h9 : f 9 = _ := h9
        have h10 : f 10 = _ := h10
        have h11 : f 11 = _ := h11
        have h12 : f 12 = _ := h12
        have h13 : f 13 = _ := h13
        have h14 : f 14 = _ := h14
        have h15 : f 15 = _ := h15
        have h16 : f 16 = _ := h16
        have h17 : f 17 = _ := h17
        have h18 : f 18 = _ := h18
        have h19 : f 19 = _ := h19
        have h20 : f 20 = _ := h20
        have h21 : f 21 = _ := h21
        have h22 : f 22 = _ := h22
        have h23 : f 23 = _ := h23
        rw [h0, h1, h2, h3, h4, h5, h6, h7, h8, h9, h10, h11, h12, h13, h14, h15, h16, h17, h18, h19, h20, h21, h22, h23]
        clear h0 h1 h2 h3 h4 h5 h6 h7 h8 h9 h10 h11 h12 h13 h14 h15 h16 h17 h18 h19 h20 h21 h22 h23
        have B4 := B3.trans (hB.mono B3.size)
        have m4 := n3.below hB n3.lt
        go_wp2_with (first
          | (refine wpList_load_row rfl 24 (.tmp 2) rfl w.heap.size rfl 24 #[.int .u64 (re : Nat), .int .i64 rp, .int .i64 rm] (0, 0) _ m4 Try.underlying24 rfl (by kernel_rfl) ?_)
          | (go_at_call 9; (with_reducible refine (hlr _).mono ?_); rintro e' wa ⟨rfl, ba⟩; have Ba := B4.trans (ba.mono B4.size); have ma := m4.below ba m4.lt))
        all_goals
          go_ret
          exact ⟨rfl, Ba⟩
  | some r =>
    obtain ⟨e, p, m⟩ := r
    rw [hd] at hdec
    obtain ⟨hel, hl10, hpm, he⟩ := enc_dec hd
    replace hdec : ∀ W, Below w.heap.size w W → Calls Try.prog 7 #[.slice A l.length c] W fun e' w' => e' = .returned (.tuple #[.agg #[.int .u64 (e : Nat), .int .i64 (p : Nat), .int .i64 (m : Nat)], .int .i64 0]) ∧ Below W.heap.size W w' := hdec
    have hpr := okR_range hpm
    have hen2 : ∀ W, Calls Try.prog 8 #[.agg #[.int .u64 (e : Nat), .int .i64 (p : Nat), .int .i64 (m : Nat)]] W fun e' w' => ∃ v, e' = .returned v ∧ w'.ownsRow W.heap.size 5 1 v 10 (bs l) ∧ Below W.heap.size W w' := fun W => by
      have := encode_any e p m he (by omega) (by omega) W
      rwa [hel] at this
    have hl2 : ∀ W, Calls Try.prog 9 #[.agg #[.int .u64 (e : Nat), .int .i64 (p : Nat), .int .i64 (m : Nat)]] W fun e' w' => e' = .returned (.bool true) ∧ Below W.heap.size W w' := fun W => by
      have := lright_any e (p : Nat) (m : Nat) W
      rwa [hpm] at this
    have h10x : (l.length : Int) = 10 := by omega
    have h10b : ((l.length : Int) != 10) = false := by rw [h10x]; rfl
    have hvs : ∀ W, Below w.heap.size w W → Sl W W.heap.size (.slice A l.length c) l.length (bs l) := fun W hW => hv.now hW
    clear he hd hel hpm hpr h10x h10b h100x h100
    generalize l.length = n at *
    subst hl10
    go_enter Try.func3, Try.ntmps3
    go_wp2_with (first
      | (go_at_call 6; refine (known_any _).mono ?_; rintro e' w1 ⟨rfl, hb1⟩; have B1 := hA.trans (hb1.mono hA.size); have m1 := hM.below hb1 hM.lt)
      | (go_at_call 7; (with_reducible refine (hdec _ B1).mono ?_); rintro e' w2 ⟨rfl, hb2⟩; have B2 := B1.trans (hb2.mono B1.size); have m2 := m1.below hb2 m1.lt)
      | (refine wpList_store_row rfl 24 (.tmp 5) (.tmp 17) rfl w2.heap.size #[.int .u64 (e : Nat), .int .i64 (p : Nat), .int .i64 (m : Nat)] rfl rfl 24 #[.int .u64 0, .int .i64 0, .int .i64 0] (Mem.new w2 _ _) (by kernel_rfl) (by kernel_rfl) (by kernel_rfl) ?_; obtain ⟨w3, e3, b3, m3⟩ := boxN w2 #[.int .u64 (e : Nat), .int .i64 (p : Nat), .int .i64 (m : Nat)]; rw [← e3]; clear e3; have B3 := B2.trans (b3.mono B2.size); have n3 := m2.below b3 m2.lt))
    apply calm_region [.is (.agg #[.int .u64 (e : Nat), .int .i64 (p : Nat), .int .i64 (m : Nat)]), .of (fun u W => ∃ A c, u = .slice A 10 c ∧ Sl W W.heap.size (.slice A 10 c) 10 (bs l)) (fun u W W' hb ⟨A, c, h1, h2⟩ => ⟨A, c, h1, h2.now hb⟩), .is (.string ⟨l.toArray⟩), .is (.slice A 10 c), .is (.string ⟨l.toArray⟩), .is (.bool false), .is (.bool false), .is (.agg #[.int .u64 (e : Nat), .int .i64 (p : Nat), .int .i64 (m : Nat)]), .is _, .is _, .is _, .is _, .is _, .is _, .is (.bool false), .is _] [[], [0], [1], [], [3], [2, 4], [5, 1], [6], [7, 6, 6], [8, 6], [6, 9], [10, 8], [11], [12, 11], [13, 11], [11, 14]] (by kernel_rfl) (by kernel_rfl) (by kernel_rfl) rfl
    intro f a1 ha1
    simp only [putL, Act.put, List.setIfInBounds_toArray, List.set_cons_succ, List.set_cons_zero] at ha1
    subst ha1
    refine ⟨?_, ?_⟩
    · refine AllCalm.cons (fun W hB hd => ?_) ?_
      · have k8 := m3.below hB m3.lt; have q0 := k8.cell 0; have q1 := k8.cell 1; have q2 := k8.cell 2
        go_wp2_with (fail)
        exact CalmQ.mk rfl _ rfl (Below.refl _ _) rfl
      refine AllCalm.cons (fun W hB hd => ?_) ?_
      · obtain ⟨h0, -⟩ := hd
        have h0 : f 0 = _ := h0
        rw [h0]
        go_wp2_with ((go_at_call 8; (with_reducible refine (hen2 _).mono ?_); rintro e' w8 ⟨v8, rfl, ho8, b8⟩; obtain ⟨A8, c8, rfl, _, _⟩ := own_form ho8))
        exact CalmQ.mk rfl _ rfl b8 ⟨A8, c8, rfl, Sl.of_own ho8⟩
      refine AllCalm.cons (fun W hB hd => ?_) ?_
      · obtain ⟨h1, -⟩ := hd
        obtain ⟨A9, c9, e9, s9⟩ := h1; rw [e9]; have hs9 := str s9
        go_wp2_with (fail)
        exact CalmQ.mk rfl _ rfl (Below.refl _ _) rfl
      refine AllCalm.cons (fun W hB hd => ?_) ?_
      · go_wp2_with (fail)
        exact CalmQ.mk rfl _ rfl (Below.refl _ _) rfl
      refine AllCalm.cons (fun W hB hd => ?_) ?_
      · obtain ⟨h3, -⟩ := hd
        have h3 : f 3 = _ := h3
        rw [h3]
        have hs9 := str (hvs W (B3.trans (hB.mono B3.size)))
        go_wp2_with (fail)
        exact CalmQ.mk rfl _ rfl (Below.refl _ _) rfl
      refine AllCalm.cons (fun W hB hd => ?_) ?_
      · obtain ⟨h2, h4, -⟩ := hd
        have h2 : f 2 = _ := h2
        have h4 : f 4 = _ := h4
        rw [h2, h4]
        go_wp2_with (fail)
        exact CalmQ.mk rfl _ rfl (Below.refl _ _) rfl
      refine AllCalm.cons (fun W hB hd => ?_) ?_
      · obtain ⟨h5, h1, -⟩ := hd
        have h5 : f 5 = _ := h5
        rw [h5]
        go_wp2_with (fail)
        exact CalmQ.mk rfl _ rfl (Below.refl _ _) rfl
      refine AllCalm.cons (fun W hB hd => ?_) ?_
      · obtain ⟨h6, -⟩ := hd
        have h6 : f 6 = _ := h6
        rw [h6]
        have k8 := m3.below hB m3.lt; have q0 := k8.cell 0; have q1 := k8.cell 1; have q2 := k8.cell 2
        go_wp2_with (fail)
        exact CalmQ.mk rfl _ rfl (Below.refl _ _) rfl
      refine AllCalm.cons (fun W hB hd => ?_) ?_
      · obtain ⟨h7, h6, -, -⟩ := hd
        have h7 : f 7 = _ := h7
        have h6 : f 6 = _ := h6
        rw [h7, h6]
        go_wp2_with ((go_at_call 9; (with_reducible refine (hl2 _).mono ?_); rintro e' w8 ⟨rfl, b8⟩))
        exact CalmQ.mk rfl _ rfl b8 rfl
      refine AllCalm.cons (fun W hB hd => ?_) ?_
      · obtain ⟨h8, h6, -⟩ := hd
        have h8 : f 8 = _ := h8
        have h6 : f 6 = _ := h6
        rw [h8, h6]
        go_wp2_with (fail)
        exact CalmQ.mk rfl _ rfl (Below.refl _ _) rfl
      refine AllCalm.cons (fun W hB hd => ?_) ?_
      · obtain ⟨h6, h9, -⟩ := hd
        have h6 : f 6 = _ := h6
        have h9 : f 9 = _ := h9
        rw [h6, h9]
        go_wp2_with (fail)
        exact CalmQ.mk rfl _ rfl (Below.refl _ _) rfl
      refine AllCalm.cons (fun W hB hd => ?_) ?_
      · obtain ⟨h10, h8, -⟩ := hd
        have h10 : f 10 = _ := h10
        have h8 : f 8 = _ := h8
        rw [h10, h8]
        go_wp2_with (fail)
        exact CalmQ.mk rfl _ rfl (Below.refl _ _) rfl
      refine AllCalm.cons (fun W hB hd => ?_) ?_
      · obtain ⟨h11, -⟩ := hd
        have h11 : f 11 = _ := h11
        rw [h11]
        go_wp2_with (fail)
        exact CalmQ.mk rfl _ rfl (Below.refl _ _) rfl
      refine AllCalm.cons (fun W hB hd => ?_) ?_
      · obtain ⟨h12, h11, -⟩ := hd
        have h12 : f 12 = _ := h12
        have h11 : f 11 = _ := h11
        rw [h12, h11]
        go_wp2_with (fail)
        exact CalmQ.mk rfl _ rfl (Below.refl _ _) rfl
      refine AllCalm.cons (fun W hB hd => ?_) ?_
      · obtain ⟨h13, h11, -⟩ := hd
        have h13 : f 13 = _ := h13
        have h11 : f 11 = _ := h11
        rw [h13, h11]
        go_wp2_with (fail)
        exact CalmQ.mk rfl _ rfl (Below.refl _ _) rfl
      refine AllCalm.cons (fun W hB hd => ?_) ?_
      · obtain ⟨h11, h14, -⟩ := hd
        have h11 : f 11 = _ := h11
        have h14 : f 14 = _ := h14
        rw [h11, h14]
        go_wp2_with (fail)
        exact CalmQ.mk rfl _ rfl (Below.refl _ _) rfl
      exact AllCalm.nil
    · intro W hB hT
      obtain ⟨h0, h1, h2, h3, h4, h5, h6, h7, h8, h9, h10, h11, h12, h13, h14, h15, -⟩ := hT
      have h0 : f 0 = _ := h0
      have h2 : f 2 = _ := h2
      have h3 : f 3 = _ := h3
      have h4 : f 4 = _ := h4
      have h5 : f 5 = _ := h5
      have h6 : f 6 = _ := h6
      have h7 : f 7 = _ := h7
      have h8 : f 8 = _ := h8
      have h9 : f 9 = _ := h9
      have h10 : f 10 = _ := h10
      have h11 : f 11 = _ := h11
      have h12 : f 12 = _ := h12
      have h13 : f 13 = _ := h13
      have h14 : f 14 = _ := h14
      have h15 : f 15 = _ := h15
      rw [h0, h2, h3, h4, h5, h6, h7, h8, h9, h10, h11, h12, h13, h14, h15]
      clear h0 h2 h3 h4 h5 h6 h7 h8 h9 h10 h11 h12 h13 h14 h15
      have B4 := B3.trans (hB.mono B3.size)
      have m4 := n3.below hB n3.lt
      go_wp2_with (first
        | (refine wpList_load_row rfl 24 (.tmp 2) rfl w.heap.size rfl 24 #[.int .u64 (re : Nat), .int .i64 rp, .int .i64 rm] (0, 0) _ m4 Try.underlying24 rfl (by kernel_rfl) ?_)
        | (go_at_call 9; (with_reducible refine (hlr _).mono ?_); rintro e' wa ⟨rfl, ba⟩; have Ba := B4.trans (ba.mono B4.size); have ma := m4.below ba m4.lt))
      all_goals
        go_ret
        exact ⟨rfl, Ba⟩
set_option maxHeartbeats 16000000 in
theorem walk_ok (re : Nat) (rp rm : Nat) (v : Value) (l : List UInt8) (w : World) (hre : re ≤ 18446744073709551615) (hok : okR (rp : Nat) (rm : Nat) = true) (hv : Sl w w.heap.size v l.length (bs l)) : Calls Try.prog 3 #[.agg #[.int .u64 (re : Nat), .int .i64 (rp : Nat), .int .i64 (rm : Nat)], v] w fun e' w' => e' = .returned (.bool true) ∧ Below w.heap.size w w' := by
  obtain ⟨A, c, rfl, hc1, hc2⟩ := hv.form
  unfold maxLen at hc2
  have hlr : ∀ W, Calls Try.prog 9 #[.agg #[.int .u64 (re : Nat), .int .i64 (rp : Nat), .int .i64 (rm : Nat)]] W fun e' w' => e' = .returned (.bool true) ∧ Below W.heap.size W w' := fun W => by
    have := lright_any re (rp : Nat) (rm : Nat) W
    rwa [hok] at this
  have hrg := okR_range hok
  have hen := fun W => encode_any re rp rm (by omega) (by omega) (by omega) W
  have hdd : decR (encS re rp rm) = some (re, rp, rm) := dec_enc re rp rm (by omega) (by omega) (by omega) hok
  have hde : ∀ W v, Sl W W.heap.size v 10 (bs (encS re rp rm)) → Calls Try.prog 7 #[v] W fun e' w' => e' = .returned (.tuple #[.agg #[.int .u64 (re : Nat), .int .i64 (rp : Nat), .int .i64 (rm : Nat)], .int .i64 0]) ∧ Below W.heap.size W w' := fun W v hv => by
    have := decode_any v (encS re rp rm) W (by rw [encS_len]; exact hv)
    rw [hdd] at this
    exact this
  clear hdd hrg
  have HR := Lib.hid hre
  clear hre hok
  have hA := (Below.refl _ w).alloc (Nat.le_refl _) (.cells #[.int .u64 (re : Nat), .int .i64 (rp : Nat), .int .i64 (rm : Nat)] 24)
  have hM := Mem.new w 24 #[.int .u64 (re : Nat), .int .i64 (rp : Nat), .int .i64 (rm : Nat)]
  by_cases h100 : 100 < l.length
  · have h100x : 100 < (l.length : Int) := by omega
    go_enter Try.func3, Try.ntmps3
    go_wp2_with (go_at_call 6; refine (known_any _).mono ?_; rintro e' w1 ⟨rfl, hb1⟩; have B1 := hA.trans (hb1.mono hA.size); have m1 := hM.below hb1 hM.lt)
    go_ret
    exact ⟨rfl, B1⟩
  have h100x : (l.length : Int) ≤ 100 := by omega
  have hdec : ∀ W, Below w.heap.size w W → Calls Try.prog 7 #[.slice A l.length c] W fun e' w' => e' = .returned (decV (decR l)) ∧ Below W.heap.size W w' := fun W hW => decode_any _ l W (hv.now hW)
  cases hd : decR l with
  | none =>
    rw [hd] at hdec
    replace hdec : ∀ W, Below w.heap.size w W → Calls Try.prog 7 #[.slice A l.length c] W fun e' w' => e' = .returned (.tuple #[.agg #[.int .u64 0, .int .i64 0, .int .i64 0], .int .i64 2]) ∧ Below W.heap.size W w' := hdec
    by_cases h10 : l.length = 10
    · have h10x : (l.length : Int) = 10 := by omega
      have h10b : ((l.length : Int) == 10) = true := beq_iff_eq.2 h10x
      have hnk : okR (gb l 8 : Nat) (gb l 9 : Nat) = false := by
        cases hk : okR (gb l 8 : Nat) (gb l 9 : Nat) with
        | false => rfl
        | true => unfold decR at hd; rw [if_pos ⟨h10, hk⟩] at hd; cases hd
      have hl0 : ∀ W, Calls Try.prog 9 #[.agg #[.int .u64 0, .int .i64 (gb l 8 : Nat), .int .i64 (gb l 9 : Nat)]] W fun e' w' => e' = .returned (.bool false) ∧ Below W.heap.size W w' := fun W => by
        have := lright_any 0 (gb l 8 : Nat) (gb l 9 : Nat) W
        rwa [hnk] at this
      obtain ⟨b, off, rfl, hb, hcell⟩ := hv.at_ (by omega)
      have x8 : ∀ W, Below w.heap.size w W → W.cell? ⟨b, off + 8, none⟩ = some (.int .u8 (gb l 8 : Nat)) := fun W hW => (hW.cell (p := ⟨b, off + 8, none⟩) hb).trans (hcell 8 _ (by rw [bs_get (by omega)]; unfold gb; rw [List.getElem?_eq_getElem (by omega)]; rfl))
      have x9 : ∀ W, Below w.heap.size w W → W.cell? ⟨b, off + 9, none⟩ = some (.int .u8 (gb l 9 : Nat)) := fun W hW => (hW.cell (p := ⟨b, off + 9, none⟩) hb).trans (hcell 9 _ (by rw [bs_get (by omega)]; unfold gb; rw [List.getElem?_eq_getElem (by omega)]; rfl))
      have h8 := gb_lt l 8
      have h9 := gb_lt l 9
      clear hcell hnk
      generalize gb l 8 = p at *
      generalize gb l 9 = m at *
      have hpx : (p : Int) ≤ 255 := by omega
      have hmx : (m : Int) ≤ 255 := by omega
      clear h10b h10x h100x h100
      generalize l.length = n at *
      subst h10
      go_enter Try.func3, Try.ntmps3
      go_wp2_with (first
        | (go_at_call 6; refine (known_any _).mono ?_; rintro e' w1 ⟨rfl, hb1⟩; have B1 := hA.trans (hb1.mono hA.size); have m1 := hM.below hb1 hM.lt)
        | (go_at_call 7; (with_reducible refine (hdec _ B1).mono ?_); rintro e' w2 ⟨rfl, hb2⟩; have B2 := B1.trans (hb2.mono B1.size); have m2 := m1.below hb2 m1.lt)
        | (refine wpList_store_row rfl 24 (.tmp 5) (.tmp 17) rfl w2.heap.size #[.int .u64 0, .int .i64 0, .int .i64 0] rfl rfl 24 #[.int .u64 0, .int .i64 0, .int .i64 0] (Mem.new w2 _ _) (by kernel_rfl) (by kernel_rfl) (by kernel_rfl) ?_; obtain ⟨w3, e3, b3, m3⟩ := boxN w2 #[.int .u64 0, .int .i64 0, .int .i64 0]; rw [← e3]; clear e3; have B3 := B2.trans (b3.mono B2.size); have n3 := m2.below b3 m2.lt))
      apply calm_region [.is _, .is _, .is _, .is _, .is _, .is _, .is _, .is _, .is _, .is _, .is (.bool true), .is (.bool true), .is _, .is _, .is _, .is _, .is _, .is _, .is _, .is _, .is _, .is _, .is _, .is _] [[], [0], [1], [2], [2], [3, 4, 2], [2, 5], [6, 2], [7], [8, 7], [9, 7], [10, 7, 7], [11], [12, 11], [13, 11], [14, 11], [11], [16, 11], [17, 11], [18, 11], [15, 19, 11], [20, 11, 11], [11, 21, 7], [7, 22]] (by kernel_rfl) (by kernel_rfl) (by kernel_rfl) rfl
      intro f a1 ha1
      simp only [putL, Act.put, List.setIfInBounds_toArray, List.set_cons_succ, List.set_cons_zero] at ha1
      subst ha1
      refine ⟨?_, ?_⟩
      · refine AllCalm.cons (fun W hB hd => ?_) ?_
        · go_wp2_with (fail)
          exact CalmQ.mk rfl _ rfl (Below.refl _ _) rfl
        refine AllCalm.cons (fun W hB hd => ?_) ?_
        · obtain ⟨h0, -⟩ := hd
          have h0 : f 0 = _ := h0
          rw [h0]
          go_wp2_with (fail)
          exact CalmQ.mk rfl _ rfl (Below.refl _ _) rfl
        refine AllCalm.cons (fun W hB hd => ?_) ?_
        · obtain ⟨h1, -⟩ := hd
          have h1 : f 1 = _ := h1
          rw [h1]
          go_wp2_with (fail)
          exact CalmQ.mk rfl _ rfl (Below.refl _ _) rfl
        refine AllCalm.cons (fun W hB hd => ?_) ?_
        · obtain ⟨h2, -⟩ := hd
          have h2 : f 2 = _ := h2
          rw [h2]
          have k8 := m3.below hB m3.lt; have q0 := k8.cell 0; have q1 := k8.cell 1; have q2 := k8.cell 2
          go_wp2_with (fail)
          exact CalmQ.mk rfl _ rfl (Below.refl _ _) rfl
        refine AllCalm.cons (fun W hB hd => ?_) ?_
        · obtain ⟨h2, -⟩ := hd
          have h2 : f 2 = _ := h2
          rw [h2]
          go_wp2_with (fail)
          exact CalmQ.mk rfl _ rfl (Below.refl _ _) rfl
        refine AllCalm.cons (fun W hB hd => ?_) ?_
        · obtain ⟨h3, h4, h2, -⟩ := hd
          have h3 : f 3 = _ := h3
          have h4 : f 4 = _ := h4
          have h2 : f 2 = _ := h2
          rw [h3, h4, h2]
          go_wp2_with (fail)
          exact CalmQ.mk rfl _ rfl (Below.refl _ _) rfl
        refine AllCalm.cons (fun W hB hd => ?_) ?_
        · obtain ⟨h2, h5, -⟩ := hd
          have h2 : f 2 = _ := h2
          have h5 : f 5 = _ := h5
          rw [h2, h5]
          go_wp2_with (fail)
          exact CalmQ.mk rfl _ rfl (Below.refl _ _) rfl
        refine AllCalm.cons (fun W hB hd => ?_) ?_
        · obtain ⟨h6, h2, -⟩ := hd
          have h6 : f 6 = _ := h6
          have h2 : f 2 = _ := h2
          rw [h6, h2]
          go_wp2_with (fail)
          exact CalmQ.mk rfl _ rfl (Below.refl _ _) rfl
        refine AllCalm.cons (fun W hB hd => ?_) ?_
        · obtain ⟨h7, -⟩ := hd
          have h7 : f 7 = _ := h7
          rw [h7]
          go_wp2_with (fail)
          exact CalmQ.mk rfl _ rfl (Below.refl _ _) rfl
        refine AllCalm.cons (fun W hB hd => ?_) ?_
        · obtain ⟨h8, h7, -⟩ := hd
          have h8 : f 8 = _ := h8
          have h7 : f 7 = _ := h7
          rw [h8, h7]
          go_wp2_with (fail)
          exact CalmQ.mk rfl _ rfl (Below.refl _ _) rfl
        refine AllCalm.cons (fun W hB hd => ?_) ?_
        · obtain ⟨h9, h7, -⟩ := hd
          have h9 : f 9 = _ := h9
          have h7 : f 7 = _ := h7
          rw [h9, h7]
          go_wp2_with (fail)
          exact CalmQ.mk rfl _ rfl (Below.refl _ _) rfl
        refine AllCalm.cons (fun W hB hd => ?_) ?_
        · obtain ⟨h10, h7, -, -⟩ := hd
          have h10 : f 10 = _ := h10
          have h7 : f 7 = _ := h7
          rw [h10, h7]
          go_wp2_with (fail)
          exact CalmQ.mk rfl _ rfl (Below.refl _ _) rfl
        refine AllCalm.cons (fun W hB hd => ?_) ?_
        · obtain ⟨h11, -⟩ := hd
          have h11 : f 11 = _ := h11
          rw [h11]
          go_wp2_with (fail)
          exact CalmQ.mk rfl _ rfl (Below.refl _ _) rfl
        refine AllCalm.cons (fun W hB hd => ?_) ?_
        · obtain ⟨h12, h11, -⟩ := hd
          have h12 : f 12 = _ := h12
          have h11 : f 11 = _ := h11
          rw [h12, h11]
          go_wp2_with (fail)
          exact CalmQ.mk rfl _ rfl (Below.refl _ _) rfl
        refine AllCalm.cons (fun W hB hd => ?_) ?_
        · obtain ⟨h13, h11, -⟩ := hd
          have h13 : f 13 = _ := h13
          have h11 : f 11 = _ := h11
          rw [h13, h11]
          have y0 := x8 W (B3.trans (hB.mono B3.size))
          go_wp2_with (fail)
          exact CalmQ.mk rfl _ rfl (Below.refl _ _) rfl
        refine AllCalm.cons (fun W hB hd => ?_) ?_
        · obtain ⟨h14, h11, -⟩ := hd
          have h14 : f 14 = _ := h14
          have h11 : f 11 = _ := h11
          rw [h14, h11]
          go_wp2_with (fail)
          exact CalmQ.mk rfl _ rfl (Below.refl _ _) rfl
        refine AllCalm.cons (fun W hB hd => ?_) ?_
        · obtain ⟨h11, -⟩ := hd
          have h11 : f 11 = _ := h11
          rw [h11]
          go_wp2_with (fail)
          exact CalmQ.mk rfl _ rfl (Below.refl _ _) rfl
        refine AllCalm.cons (fun W hB hd => ?_) ?_
        · obtain ⟨h16, h11, -⟩ := hd
          have h16 : f 16 = _ := h16
          have h11 : f 11 = _ := h11
          rw [h16, h11]
          go_wp2_with (fail)
          exact CalmQ.mk rfl _ rfl (Below.refl _ _) rfl
        refine AllCalm.cons (fun W hB hd => ?_) ?_
        · obtain ⟨h17, h11, -⟩ := hd
          have h17 : f 17 = _ := h17
          have h11 : f 11 = _ := h11
          rw [h17, h11]
          have y0 := x9 W (B3.trans (hB.mono B3.size))
          go_wp2_with (fail)
          exact CalmQ.mk rfl _ rfl (Below.refl _ _) rfl
        refine AllCalm.cons (fun W hB hd => ?_) ?_
        · obtain ⟨h18, h11, -⟩ := hd
          have h18 : f 18 = _ := h18
          have h11 : f 11 = _ := h11
          rw [h18, h11]
          go_wp2_with (fail)
          exact CalmQ.mk rfl _ rfl (Below.refl _ _) rfl
        refine AllCalm.cons (fun W hB hd => ?_) ?_
        · obtain ⟨h15, h19, h11, -⟩ := hd
          have h15 : f 15 = _ := h15
          have h19 : f 19 = _ := h19
          have h11 : f 11 = _ := h11
          rw [h15, h19, h11]
          go_wp2_with (fail)
          exact CalmQ.mk rfl _ rfl (Below.refl _ _) rfl
        refine AllCalm.cons (fun W hB hd => ?_) ?_
        · obtain ⟨h20, h11, -, -⟩ := hd
          have h20 : f 20 = _ := h20
          have h11 : f 11 = _ := h11
          rw [h20, h11]
          go_wp2_with ((go_at_call 9; (with_reducible refine (hl0 _).mono ?_); rintro e' w8 ⟨rfl, b8⟩))
          exact CalmQ.mk rfl _ rfl b8 rfl
        refine AllCalm.cons (fun W hB hd => ?_) ?_
        · obtain ⟨h11, h21, h7, -⟩ := hd
          have h11 : f 11 = _ := h11
          have h21 : f 21 = _ := h21
          have h7 : f 7 = _ := h7
          rw [h11, h21, h7]
          go_wp2_with (fail)
          exact CalmQ.mk rfl _ rfl (Below.refl _ _) rfl
        refine AllCalm.cons (fun W hB hd => ?_) ?_
        · obtain ⟨h7, h22, -⟩ := hd
          have h7 : f 7 = _ := h7
          have h22 : f 22 = _ := h22
          rw [h7, h22]
          go_wp2_with (fail)
          exact CalmQ.mk rfl _ rfl (Below.refl _ _) rfl
        exact AllCalm.nil
      · intro W hB hT
        obtain ⟨h0, h1, h2, h3, h4, h5, h6, h7, h8, h9, h10, h11, h12, h13, h14, h15, h16, h17, h18, h19, h20, h21, h22, h23, -⟩ := hT
        have h0 : f 0 = _ := h0
        have h1 : f 1 = _ := h1
        have h2 : f 2 = _ := h2
        have h3 : f 3 = _ := h3
        have h4 : f 4 = _ := h4
        have h5 : f 5 = _ := h5
        have h6 : f 6 = _ := h6
        have h7 : f 7 = _ := h7
        have h8 : f 8 = _ := h8
        have h9 : f 9 = _ := h9
        have h10 : f 10 = _ := h10
        have h11 : f 11 = _ := h11
        have h12 : f 12 = _ := h12
        have h13 : f 13 = _ := h13
        have h14 : f 14 = _ := h14
        have h15 : f 15 = _ := h15
        have h16 : f 16 = _ := h16
        have h17 : f 17 = _ := h17
        have h18 : f 18 = _ := h18
        have h19 : f 19 = _ := h19
        have h20 : f 20 = _ := h20
        have h21 : f 21 = _ := h21
        have h22 : f 22 = _ := h22
        have h23 : f 23 = _ := h23
        rw [h0, h1, h2, h3, h4, h5, h6, h7, h8, h9, h10, h11, h12, h13, h14, h15, h16, h17, h18, h19, h20, h21, h22, h23]
        clear h0 h1 h2 h3 h4 h5 h6 h7 h8 h9 h10 h11 h12 h13 h14 h15 h16 h17 h18 h19 h20 h21 h22 h23
        have B4 := B3.trans (hB.mono B3.size)
        have m4 := n3.below hB n3.lt
        go_wp2_with (first
          | (go_at_call 8; have hq := md; (with_reducible refine (hen _).mono ?_); rintro e' we ⟨ve, rfl, hoe, be⟩; obtain ⟨Ae, ce, rfl, _, _⟩ := own_form hoe)
          | (refine wpList_load_row rfl 24 (.tmp 2) rfl w.heap.size rfl 24 #[.int .u64 (re : Nat), .int .i64 (rp : Nat), .int .i64 (rm : Nat)] (0, 0) _ m4 Try.underlying24 rfl (by kernel_rfl) ?_)
          | (go_at_call 9; (with_reducible refine (hlr _).mono ?_); rintro e' wa ⟨rfl, ba⟩; have Ba := B4.trans (ba.mono B4.size); have ma := m4.below ba m4.lt)
          | (refine wpList_load_row rfl 24 (.tmp 2) rfl w.heap.size rfl 24 #[.int .u64 (re : Nat), .int .i64 (rp : Nat), .int .i64 (rm : Nat)] (0, 0) _ ma Try.underlying24 rfl (by kernel_rfl) ?_)
          | (go_at_call 8; (with_reducible refine (hen _).mono ?_); rintro e' wb ⟨vb, rfl, hob, bb⟩; have Bb := Ba.trans (bb.mono Ba.size); have mb := ma.below bb ma.lt)
          | (go_at_call 7; (with_reducible refine (hde _ _ (Sl.of_own hob)).mono ?_); rintro e' wc ⟨rfl, bc⟩; have Bc := Bb.trans (bc.mono Bb.size); have mc := mb.below bc mb.lt)
          | (refine wpList_store_row rfl 24 (.tmp 7) (.tmp 68) rfl wc.heap.size #[.int .u64 (re : Nat), .int .i64 (rp : Nat), .int .i64 (rm : Nat)] rfl rfl 24 #[.int .u64 0, .int .i64 0, .int .i64 0] (Mem.new wc _ _) (by kernel_rfl) (by kernel_rfl) (by kernel_rfl) ?_; obtain ⟨wd, ed, bd, md⟩ := boxN wc #[.int .u64 (re : Nat), .int .i64 (rp : Nat), .int .i64 (rm : Nat)]; rw [← ed]; clear ed; have Bd := Bc.trans (bd.mono Bc.size); have me := mc.below bd mc.lt; have q0 := md.cell 0; have q1 := md.cell 1; have q2 := md.cell 2; have u0 := me.cell 0; have u1 := me.cell 1; have u2 := me.cell 2))
        all_goals
          go_ret
          exact ⟨rfl, Bd.trans (be.mono Bd.size)⟩
    · have h10x : ¬ (l.length : Int) = 10 := by omega
      have h10b : ((l.length : Int) == 10) = false := beq_eq_false_iff_ne.2 h10x
      go_enter Try.func3, Try.ntmps3
      go_wp2_with (first
        | (go_at_call 6; refine (known_any _).mono ?_; rintro e' w1 ⟨rfl, hb1⟩; have B1 := hA.trans (hb1.mono hA.size); have m1 := hM.below hb1 hM.lt)
        | (go_at_call 7; (with_reducible refine (hdec _ B1).mono ?_); rintro e' w2 ⟨rfl, hb2⟩; have B2 := B1.trans (hb2.mono B1.size); have m2 := m1.below hb2 m1.lt)
        | (refine wpList_store_row rfl 24 (.tmp 5) (.tmp 17) rfl w2.heap.size #[.int .u64 0, .int .i64 0, .int .i64 0] rfl rfl 24 #[.int .u64 0, .int .i64 0, .int .i64 0] (Mem.new w2 _ _) (by kernel_rfl) (by kernel_rfl) (by kernel_rfl) ?_; obtain ⟨w3, e3, b3, m3⟩ := boxN w2 #[.int .u64 0, .int .i64 0, .int .i64 0]; rw [← e3]; clear e3; have B3 := B2.trans (b3.mono B2.size); have n3 := m2.below b3 m2.lt))
      apply calm_region [.is _, .is _, .is _, .is _, .is _, .is _, .is _, .is _, .is _, .is _, .is (.bool false), .is (.bool false), .is _, .is _, .is _, .is _, .is _, .is _, .is _, .is _, .is _, .is _, .is _, .is _] [[], [0], [1], [2], [2], [3, 4, 2], [2, 5], [6, 2], [7], [8, 7], [9, 7], [10, 7, 7], [11], [12, 11], [13, 11], [14, 11], [11], [16, 11], [17, 11], [18, 11], [15, 19, 11], [20, 11, 11], [11, 21, 7], [7, 22]] (by kernel_rfl) (by kernel_rfl) (by kernel_rfl) rfl
      intro f a1 ha1
      simp only [putL, Act.put, List.setIfInBounds_toArray, List.set_cons_succ, List.set_cons_zero] at ha1
      subst ha1
      refine ⟨?_, ?_⟩
      · refine AllCalm.cons (fun W hB hd => ?_) ?_
        · go_wp2_with (fail)
          exact CalmQ.mk rfl _ rfl (Below.refl _ _) rfl
        refine AllCalm.cons (fun W hB hd => ?_) ?_
        · obtain ⟨h0, -⟩ := hd
          have h0 : f 0 = _ := h0
          rw [h0]
          go_wp2_with (fail)
          exact CalmQ.mk rfl _ rfl (Below.refl _ _) rfl
        refine AllCalm.cons (fun W hB hd => ?_) ?_
        · obtain ⟨h1, -⟩ := hd
          have h1 : f 1 = _ := h1
          rw [h1]
          go_wp2_with (fail)
          exact CalmQ.mk rfl _ rfl (Below.refl _ _) rfl
        refine AllCalm.cons (fun W hB hd => ?_) ?_
        · obtain ⟨h2, -⟩ := hd
          have h2 : f 2 = _ := h2
          rw [h2]
          have k8 := m3.below hB m3.lt; have q0 := k8.cell 0; have q1 := k8.cell 1; have q2 := k8.cell 2
          go_wp2_with (fail)
          exact CalmQ.mk rfl _ rfl (Below.refl _ _) rfl
        refine AllCalm.cons (fun W hB hd => ?_) ?_
        · obtain ⟨h2, -⟩ := hd
          have h2 : f 2 = _ := h2
          rw [h2]
          go_wp2_with (fail)
          exact CalmQ.mk rfl _ rfl (Below.refl _ _) rfl
        refine AllCalm.cons (fun W hB hd => ?_) ?_
        · obtain ⟨h3, h4, h2, -⟩ := hd
          have h3 : f 3 = _ := h3
          have h4 : f 4 = _ := h4
          have h2 : f 2 = _ := h2
          rw [h3, h4, h2]
          go_wp2_with (fail)
          exact CalmQ.mk rfl _ rfl (Below.refl _ _) rfl
        refine AllCalm.cons (fun W hB hd => ?_) ?_
        · obtain ⟨h2, h5, -⟩ := hd
          have h2 : f 2 = _ := h2
          have h5 : f 5 = _ := h5
          rw [h2, h5]
          go_wp2_with (fail)
          exact CalmQ.mk rfl _ rfl (Below.refl _ _) rfl
        refine AllCalm.cons (fun W hB hd => ?_) ?_
        · obtain ⟨h6, h2, -⟩ := hd
          have h6 : f 6 = _ := h6
          have h2 : f 2 = _ := h2
          rw [h6, h2]
          go_wp2_with (fail)
          exact CalmQ.mk rfl _ rfl (Below.refl _ _) rfl
        refine AllCalm.cons (fun W hB hd => ?_) ?_
        · obtain ⟨h7, -⟩ := hd
          have h7 : f 7 = _ := h7
          rw [h7]
          go_wp2_with (fail)
          exact CalmQ.mk rfl _ rfl (Below.refl _ _) rfl
        refine AllCalm.cons (fun W hB hd => ?_) ?_
        · obtain ⟨h8, h7, -⟩ := hd
          have h8 : f 8 = _ := h8
          have h7 : f 7 = _ := h7
          rw [h8, h7]
          go_wp2_with (fail)
          exact CalmQ.mk rfl _ rfl (Below.refl _ _) rfl
        refine AllCalm.cons (fun W hB hd => ?_) ?_
        · obtain ⟨h9, h7, -⟩ := hd
          have h9 : f 9 = _ := h9
          have h7 : f 7 = _ := h7
          rw [h9, h7]
          go_wp2_with (fail)
          exact CalmQ.mk rfl _ rfl (Below.refl _ _) rfl
        refine AllCalm.cons (fun W hB hd => ?_) ?_
        · obtain ⟨h10, h7, -, -⟩ := hd
          have h10 : f 10 = _ := h10
          have h7 : f 7 = _ := h7
          rw [h10, h7]
          go_wp2_with (fail)
          exact CalmQ.mk rfl _ rfl (Below.refl _ _) rfl
        refine AllCalm.cons (fun W hB hd => ?_) ?_
        · obtain ⟨h11, -⟩ := hd
          have h11 : f 11 = _ := h11
          rw [h11]
          go_wp2_with (fail)
          exact CalmQ.mk rfl _ rfl (Below.refl _ _) rfl
        refine AllCalm.cons (fun W hB hd => ?_) ?_
        · obtain ⟨h12, h11, -⟩ := hd
          have h12 : f 12 = _ := h12
          have h11 : f 11 = _ := h11
          rw [h12, h11]
          go_wp2_with (fail)
          exact CalmQ.mk rfl _ rfl (Below.refl _ _) rfl
        refine AllCalm.cons (fun W hB hd => ?_) ?_
        · obtain ⟨h13, h11, -⟩ := hd
          have h13 : f 13 = _ := h13
          have h11 : f 11 = _ := h11
          rw [h13, h11]
          go_wp2_with (fail)
          exact CalmQ.mk rfl _ rfl (Below.refl _ _) rfl
        refine AllCalm.cons (fun W hB hd => ?_) ?_
        · obtain ⟨h14, h11, -⟩ := hd
          have h14 : f 14 = _ := h14
          have h11 : f 11 = _ := h11
          rw [h14, h11]
          go_wp2_with (fail)
          exact CalmQ.mk rfl _ rfl (Below.refl _ _) rfl
        refine AllCalm.cons (fun W hB hd => ?_) ?_
        · obtain ⟨h11, -⟩ := hd
          have h11 : f 11 = _ := h11
          rw [h11]
          go_wp2_with (fail)
          exact CalmQ.mk rfl _ rfl (Below.refl _ _) rfl
        refine AllCalm.cons (fun W hB hd => ?_) ?_
        · obtain ⟨h16, h11, -⟩ := hd
          have h16 : f 16 = _ := h16
          have h11 : f 11 = _ := h11
          rw [h16, h11]
          go_wp2_with (fail)
          exact CalmQ.mk rfl _ rfl (Below.refl _ _) rfl
        refine AllCalm.cons (fun W hB hd => ?_) ?_
        · obtain ⟨h17, h11, -⟩ := hd
          have h17 : f 17 = _ := h17
          have h11 : f 11 = _ := h11
          rw [h17, h11]
          go_wp2_with (fail)
          exact CalmQ.mk rfl _ rfl (Below.refl _ _) rfl
        refine AllCalm.cons (fun W hB hd => ?_) ?_
        · obtain ⟨h18, h11, -⟩ := hd
          have h18 : f 18 = _ := h18
          have h11 : f 11 = _ := h11
          rw [h18, h11]
          go_wp2_with (fail)
          exact CalmQ.mk rfl _ rfl (Below.refl _ _) rfl
        refine AllCalm.cons (fun W hB hd => ?_) ?_
        · obtain ⟨h15, h19, h11, -⟩ := hd
          have h15 : f 15 = _ := h15
          have h19 : f 19 = _ := h19
          have h11 : f 11 = _ := h11
          rw [h15, h19, h11]
          go_wp2_with (fail)
          exact CalmQ.mk rfl _ rfl (Below.refl _ _) rfl
        refine AllCalm.cons (fun W hB hd => ?_) ?_
        · obtain ⟨h20, h11, -, -⟩ := hd
          have h20 : f 20 = _ := h20
          have h11 : f 11 = _ := h11
          rw [h20, h11]
          go_wp2_with (fail)
          exact CalmQ.mk rfl _ rfl (Below.refl _ _) rfl
        refine AllCalm.cons (fun W hB hd => ?_) ?_
        · obtain ⟨h11, h21, h7, -⟩ := hd
          have h11 : f 11 = _ := h11
          have h21 : f 21 = _ := h21
          have h7 : f 7 = _ := h7
          rw [h11, h21, h7]
          go_wp2_with (fail)
          exact CalmQ.mk rfl _ rfl (Below.refl _ _) rfl
        refine AllCalm.cons (fun W hB hd => ?_) ?_
        · obtain ⟨h7, h22, -⟩ := hd
          have h7 : f 7 = _ := h7
          have h22 : f 22 = _ := h22
          rw [h7, h22]
          go_wp2_with (fail)
          exact CalmQ.mk rfl _ rfl (Below.refl _ _) rfl
        exact AllCalm.nil
      · intro W hB hT
        obtain ⟨h0, h1, h2, h3, h4, h5, h6, h7, h8, h9, h10, h11, h12, h13, h14, h15, h16, h17, h18, h19, h20, h21, h22, h23, -⟩ := hT
        have h0 : f 0 = _ := h0
        have h1 : f 1 = _ := h1
        have h2 : f 2 = _ := h2
        have h3 : f 3 = _ := h3
        have h4 : f 4 = _ := h4
        have h5 : f 5 = _ := h5
        have h6 : f 6 = _ := h6
        have h7 : f 7 = _ := h7
        have h8 : f 8 = _ := h8
        have h9 : f 9 = _ := h9
        have h10 : f 10 = _ := h10
        have h11 : f 11 = _ := h11
        have h12 : f 12 = _ := h12
        have h13 : f 13 = _ := h13
        have h14 : f 14 = _ := h14
        have h15 : f 15 = _ := h15
        have h16 : f 16 = _ := h16
        have h17 : f 17 = _ := h17
        have h18 : f 18 = _ := h18
        have h19 : f 19 = _ := h19
        have h20 : f 20 = _ := h20
        have h21 : f 21 = _ := h21
        have h22 : f 22 = _ := h22
        have h23 : f 23 = _ := h23
        rw [h0, h1, h2, h3, h4, h5, h6, h7, h8, h9, h10, h11, h12, h13, h14, h15, h16, h17, h18, h19, h20, h21, h22, h23]
        clear h0 h1 h2 h3 h4 h5 h6 h7 h8 h9 h10 h11 h12 h13 h14 h15 h16 h17 h18 h19 h20 h21 h22 h23
        have B4 := B3.trans (hB.mono B3.size)
        have m4 := n3.below hB n3.lt
        go_wp2_with (first
          | (go_at_call 8; have hq := md; (with_reducible refine (hen _).mono ?_); rintro e' we ⟨ve, rfl, hoe, be⟩; obtain ⟨Ae, ce, rfl, _, _⟩ := own_form hoe)
          | (refine wpList_load_row rfl 24 (.tmp 2) rfl w.heap.size rfl 24 #[.int .u64 (re : Nat), .int .i64 (rp : Nat), .int .i64 (rm : Nat)] (0, 0) _ m4 Try.underlying24 rfl (by kernel_rfl) ?_)
          | (go_at_call 9; (with_reducible refine (hlr _).mono ?_); rintro e' wa ⟨rfl, ba⟩; have Ba := B4.trans (ba.mono B4.size); have ma := m4.below ba m4.lt)
          | (refine wpList_load_row rfl 24 (.tmp 2) rfl w.heap.size rfl 24 #[.int .u64 (re : Nat), .int .i64 (rp : Nat), .int .i64 (rm : Nat)] (0, 0) _ ma Try.underlying24 rfl (by kernel_rfl) ?_)
          | (go_at_call 8; (with_reducible refine (hen _).mono ?_); rintro e' wb ⟨vb, rfl, hob, bb⟩; have Bb := Ba.trans (bb.mono Ba.size); have mb := ma.below bb ma.lt)
          | (go_at_call 7; (with_reducible refine (hde _ _ (Sl.of_own hob)).mono ?_); rintro e' wc ⟨rfl, bc⟩; have Bc := Bb.trans (bc.mono Bb.size); have mc := mb.below bc mb.lt)
          | (refine wpList_store_row rfl 24 (.tmp 7) (.tmp 68) rfl wc.heap.size #[.int .u64 (re : Nat), .int .i64 (rp : Nat), .int .i64 (rm : Nat)] rfl rfl 24 #[.int .u64 0, .int .i64 0, .int .i64 0] (Mem.new wc _ _) (by kernel_rfl) (by kernel_rfl) (by kernel_rfl) ?_; obtain ⟨wd, ed, bd, md⟩ := boxN wc #[.int .u64 (re : Nat), .int .i64 (rp : Nat), .int .i64 (rm : Nat)]; rw [← ed]; clear ed; have Bd := Bc.trans (bd.mono Bc.size); have me := mc.below bd mc.lt; have q0 := md.cell 0; have q1 := md.cell 1; have q2 := md.cell 2; have u0 := me.cell 0; have u1 := me.cell 1; have u2 := me.cell 2))
        all_goals
          go_ret
          exact ⟨rfl, Bd.trans (be.mono Bd.size)⟩
  | some r =>
    obtain ⟨e, p, m⟩ := r
    rw [hd] at hdec
    obtain ⟨hel, hl10, hpm, he⟩ := enc_dec hd
    replace hdec : ∀ W, Below w.heap.size w W → Calls Try.prog 7 #[.slice A l.length c] W fun e' w' => e' = .returned (.tuple #[.agg #[.int .u64 (e : Nat), .int .i64 (p : Nat), .int .i64 (m : Nat)], .int .i64 0]) ∧ Below W.heap.size W w' := hdec
    have hpr := okR_range hpm
    have hen2 : ∀ W, Calls Try.prog 8 #[.agg #[.int .u64 (e : Nat), .int .i64 (p : Nat), .int .i64 (m : Nat)]] W fun e' w' => ∃ v, e' = .returned v ∧ w'.ownsRow W.heap.size 5 1 v 10 (bs l) ∧ Below W.heap.size W w' := fun W => by
      have := encode_any e p m he (by omega) (by omega) W
      rwa [hel] at this
    have hl2 : ∀ W, Calls Try.prog 9 #[.agg #[.int .u64 (e : Nat), .int .i64 (p : Nat), .int .i64 (m : Nat)]] W fun e' w' => e' = .returned (.bool true) ∧ Below W.heap.size W w' := fun W => by
      have := lright_any e (p : Nat) (m : Nat) W
      rwa [hpm] at this
    have h10x : (l.length : Int) = 10 := by omega
    have h10b : ((l.length : Int) != 10) = false := by rw [h10x]; rfl
    have hvs : ∀ W, Below w.heap.size w W → Sl W W.heap.size (.slice A l.length c) l.length (bs l) := fun W hW => hv.now hW
    clear he hd hel hpm hpr h10x h10b h100x h100
    generalize l.length = n at *
    subst hl10
    go_enter Try.func3, Try.ntmps3
    go_wp2_with (first
      | (go_at_call 6; refine (known_any _).mono ?_; rintro e' w1 ⟨rfl, hb1⟩; have B1 := hA.trans (hb1.mono hA.size); have m1 := hM.below hb1 hM.lt)
      | (go_at_call 7; (with_reducible refine (hdec _ B1).mono ?_); rintro e' w2 ⟨rfl, hb2⟩; have B2 := B1.trans (hb2.mono B1.size); have m2 := m1.below hb2 m1.lt)
      | (refine wpList_store_row rfl 24 (.tmp 5) (.tmp 17) rfl w2.heap.size #[.int .u64 (e : Nat), .int .i64 (p : Nat), .int .i64 (m : Nat)] rfl rfl 24 #[.int .u64 0, .int .i64 0, .int .i64 0] (Mem.new w2 _ _) (by kernel_rfl) (by kernel_rfl) (by kernel_rfl) ?_; obtain ⟨w3, e3, b3, m3⟩ := boxN w2 #[.int .u64 (e : Nat), .int .i64 (p : Nat), .int .i64 (m : Nat)]; rw [← e3]; clear e3; have B3 := B2.trans (b3.mono B2.size); have n3 := m2.below b3 m2.lt))
    apply calm_region [.is (.agg #[.int .u64 (e : Nat), .int .i64 (p : Nat), .int .i64 (m : Nat)]), .of (fun u W => ∃ A c, u = .slice A 10 c ∧ Sl W W.heap.size (.slice A 10 c) 10 (bs l)) (fun u W W' hb ⟨A, c, h1, h2⟩ => ⟨A, c, h1, h2.now hb⟩), .is (.string ⟨l.toArray⟩), .is (.slice A 10 c), .is (.string ⟨l.toArray⟩), .is (.bool false), .is (.bool false), .is (.agg #[.int .u64 (e : Nat), .int .i64 (p : Nat), .int .i64 (m : Nat)]), .is _, .is _, .is _, .is _, .is _, .is _, .is (.bool false), .is _] [[], [0], [1], [], [3], [2, 4], [5, 1], [6], [7, 6, 6], [8, 6], [6, 9], [10, 8], [11], [12, 11], [13, 11], [11, 14]] (by kernel_rfl) (by kernel_rfl) (by kernel_rfl) rfl
    intro f a1 ha1
    simp only [putL, Act.put, List.setIfInBounds_toArray, List.set_cons_succ, List.set_cons_zero] at ha1
    subst ha1
    refine ⟨?_, ?_⟩
    · refine AllCalm.cons (fun W hB hd => ?_) ?_
      · have k8 := m3.below hB m3.lt; have q0 := k8.cell 0; have q1 := k8.cell 1; have q2 := k8.cell 2
        go_wp2_with (fail)
        exact CalmQ.mk rfl _ rfl (Below.refl _ _) rfl
      refine AllCalm.cons (fun W hB hd => ?_) ?_
      · obtain ⟨h0, -⟩ := hd
        have h0 : f 0 = _ := h0
        rw [h0]
        go_wp2_with ((go_at_call 8; (with_reducible refine (hen2 _).mono ?_); rintro e' w8 ⟨v8, rfl, ho8, b8⟩; obtain ⟨A8, c8, rfl, _, _⟩ := own_form ho8))
        exact CalmQ.mk rfl _ rfl b8 ⟨A8, c8, rfl, Sl.of_own ho8⟩
      refine AllCalm.cons (fun W hB hd => ?_) ?_
      · obtain ⟨h1, -⟩ := hd
        obtain ⟨A9, c9, e9, s9⟩ := h1; rw [e9]; have hs9 := str s9
        go_wp2_with (fail)
        exact CalmQ.mk rfl _ rfl (Below.refl _ _) rfl
      refine AllCalm.cons (fun W hB hd => ?_) ?_
      · go_wp2_with (fail)
        exact CalmQ.mk rfl _ rfl (Below.refl _ _) rfl
      refine AllCalm.cons (fun W hB hd => ?_) ?_
      · obtain ⟨h3, -⟩ := hd
        have h3 : f 3 = _ := h3
        rw [h3]
        have hs9 := str (hvs W (B3.trans (hB.mono B3.size)))
        go_wp2_with (fail)
        exact CalmQ.mk rfl _ rfl (Below.refl _ _) rfl
      refine AllCalm.cons (fun W hB hd => ?_) ?_
      · obtain ⟨h2, h4, -⟩ := hd
        have h2 : f 2 = _ := h2
        have h4 : f 4 = _ := h4
        rw [h2, h4]
        go_wp2_with (fail)
        exact CalmQ.mk rfl _ rfl (Below.refl _ _) rfl
      refine AllCalm.cons (fun W hB hd => ?_) ?_
      · obtain ⟨h5, h1, -⟩ := hd
        have h5 : f 5 = _ := h5
        rw [h5]
        go_wp2_with (fail)
        exact CalmQ.mk rfl _ rfl (Below.refl _ _) rfl
      refine AllCalm.cons (fun W hB hd => ?_) ?_
      · obtain ⟨h6, -⟩ := hd
        have h6 : f 6 = _ := h6
        rw [h6]
        have k8 := m3.below hB m3.lt; have q0 := k8.cell 0; have q1 := k8.cell 1; have q2 := k8.cell 2
        go_wp2_with (fail)
        exact CalmQ.mk rfl _ rfl (Below.refl _ _) rfl
      refine AllCalm.cons (fun W hB hd => ?_) ?_
      · obtain ⟨h7, h6, -, -⟩ := hd
        have h7 : f 7 = _ := h7
        have h6 : f 6 = _ := h6
        rw [h7, h6]
        go_wp2_with ((go_at_call 9; (with_reducible refine (hl2 _).mono ?_); rintro e' w8 ⟨rfl, b8⟩))
        exact CalmQ.mk rfl _ rfl b8 rfl
      refine AllCalm.cons (fun W hB hd => ?_) ?_
      · obtain ⟨h8, h6, -⟩ := hd
        have h8 : f 8 = _ := h8
        have h6 : f 6 = _ := h6
        rw [h8, h6]
        go_wp2_with (fail)
        exact CalmQ.mk rfl _ rfl (Below.refl _ _) rfl
      refine AllCalm.cons (fun W hB hd => ?_) ?_
      · obtain ⟨h6, h9, -⟩ := hd
        have h6 : f 6 = _ := h6
        have h9 : f 9 = _ := h9
        rw [h6, h9]
        go_wp2_with (fail)
        exact CalmQ.mk rfl _ rfl (Below.refl _ _) rfl
      refine AllCalm.cons (fun W hB hd => ?_) ?_
      · obtain ⟨h10, h8, -⟩ := hd
        have h10 : f 10 = _ := h10
        have h8 : f 8 = _ := h8
        rw [h10, h8]
        go_wp2_with (fail)
        exact CalmQ.mk rfl _ rfl (Below.refl _ _) rfl
      refine AllCalm.cons (fun W hB hd => ?_) ?_
      · obtain ⟨h11, -⟩ := hd
        have h11 : f 11 = _ := h11
        rw [h11]
        go_wp2_with (fail)
        exact CalmQ.mk rfl _ rfl (Below.refl _ _) rfl
      refine AllCalm.cons (fun W hB hd => ?_) ?_
      · obtain ⟨h12, h11, -⟩ := hd
        have h12 : f 12 = _ := h12
        have h11 : f 11 = _ := h11
        rw [h12, h11]
        go_wp2_with (fail)
        exact CalmQ.mk rfl _ rfl (Below.refl _ _) rfl
      refine AllCalm.cons (fun W hB hd => ?_) ?_
      · obtain ⟨h13, h11, -⟩ := hd
        have h13 : f 13 = _ := h13
        have h11 : f 11 = _ := h11
        rw [h13, h11]
        go_wp2_with (fail)
        exact CalmQ.mk rfl _ rfl (Below.refl _ _) rfl
      refine AllCalm.cons (fun W hB hd => ?_) ?_
      · obtain ⟨h11, h14, -⟩ := hd
        have h11 : f 11 = _ := h11
        have h14 : f 14 = _ := h14
        rw [h11, h14]
        go_wp2_with (fail)
        exact CalmQ.mk rfl _ rfl (Below.refl _ _) rfl
      exact AllCalm.nil
    · intro W hB hT
      obtain ⟨h0, h1, h2, h3, h4, h5, h6, h7, h8, h9, h10, h11, h12, h13, h14, h15, -⟩ := hT
      have h0 : f 0 = _ := h0
      have h2 : f 2 = _ := h2
      have h3 : f 3 = _ := h3
      have h4 : f 4 = _ := h4
      have h5 : f 5 = _ := h5
      have h6 : f 6 = _ := h6
      have h7 : f 7 = _ := h7
      have h8 : f 8 = _ := h8
      have h9 : f 9 = _ := h9
      have h10 : f 10 = _ := h10
      have h11 : f 11 = _ := h11
      have h12 : f 12 = _ := h12
      have h13 : f 13 = _ := h13
      have h14 : f 14 = _ := h14
      have h15 : f 15 = _ := h15
      rw [h0, h2, h3, h4, h5, h6, h7, h8, h9, h10, h11, h12, h13, h14, h15]
      clear h0 h2 h3 h4 h5 h6 h7 h8 h9 h10 h11 h12 h13 h14 h15
      have B4 := B3.trans (hB.mono B3.size)
      have m4 := n3.below hB n3.lt
      go_wp2_with (first
        | (go_at_call 8; have hq := md; (with_reducible refine (hen _).mono ?_); rintro e' we ⟨ve, rfl, hoe, be⟩; obtain ⟨Ae, ce, rfl, _, _⟩ := own_form hoe)
        | (refine wpList_load_row rfl 24 (.tmp 2) rfl w.heap.size rfl 24 #[.int .u64 (re : Nat), .int .i64 (rp : Nat), .int .i64 (rm : Nat)] (0, 0) _ m4 Try.underlying24 rfl (by kernel_rfl) ?_)
        | (go_at_call 9; (with_reducible refine (hlr _).mono ?_); rintro e' wa ⟨rfl, ba⟩; have Ba := B4.trans (ba.mono B4.size); have ma := m4.below ba m4.lt)
        | (refine wpList_load_row rfl 24 (.tmp 2) rfl w.heap.size rfl 24 #[.int .u64 (re : Nat), .int .i64 (rp : Nat), .int .i64 (rm : Nat)] (0, 0) _ ma Try.underlying24 rfl (by kernel_rfl) ?_)
        | (go_at_call 8; (with_reducible refine (hen _).mono ?_); rintro e' wb ⟨vb, rfl, hob, bb⟩; have Bb := Ba.trans (bb.mono Ba.size); have mb := ma.below bb ma.lt)
        | (go_at_call 7; (with_reducible refine (hde _ _ (Sl.of_own hob)).mono ?_); rintro e' wc ⟨rfl, bc⟩; have Bc := Bb.trans (bc.mono Bb.size); have mc := mb.below bc mb.lt)
        | (refine wpList_store_row rfl 24 (.tmp 7) (.tmp 68) rfl wc.heap.size #[.int .u64 (re : Nat), .int .i64 (rp : Nat), .int .i64 (rm : Nat)] rfl rfl 24 #[.int .u64 0, .int .i64 0, .int .i64 0] (Mem.new wc _ _) (by kernel_rfl) (by kernel_rfl) (by kernel_rfl) ?_; obtain ⟨wd, ed, bd, md⟩ := boxN wc #[.int .u64 (re : Nat), .int .i64 (rp : Nat), .int .i64 (rm : Nat)]; rw [← ed]; clear ed; have Bd := Bc.trans (bd.mono Bc.size); have me := mc.below bd mc.lt; have q0 := md.cell 0; have q1 := md.cell 1; have q2 := md.cell 2; have u0 := me.cell 0; have u1 := me.cell 1; have u2 := me.cell 2))
      all_goals
        go_ret
        exact ⟨rfl, Bd.trans (be.mono Bd.size)⟩
theorem walk (ac : Rg) (v : Value) (l : List UInt8) (w : World) (hac : ActOk w w.heap.size ac) (hv : Sl w w.heap.size v l.length (bs l)) : Calls Try.prog 3 #[.agg #[.int .u64 (ac.e : Nat), .int .i64 ac.p, .int .i64 ac.m], v] w fun e' w' => e' = .returned (.bool true) ∧ Below w.heap.size w w' := by
  obtain ⟨re, rp, rm⟩ := ac
  have hre : re ≤ 18446744073709551615 := hac.e
  cases hok : okR rp rm with
  | false => exact walk_no re rp rm v l w hre hok hv
  | true =>
    have hrg := okR_range hok
    obtain ⟨P, rfl⟩ : ∃ P : Nat, rp = (P : Nat) := ⟨rp.toNat, by omega⟩
    obtain ⟨M, rfl⟩ : ∃ M : Nat, rm = (M : Nat) := ⟨rm.toNat, by omega⟩
    exact walk_ok re P M v l w hre hok hv
set_option maxRecDepth 100000 in
theorem lifted (os : Os) (started : os.Started) (H : Type) (enc : TypeId × Value → H) :
    ReturnsInHanded {} Try.checked os 3 .any (Rows.witnessBytesSpec.pre6 enc Try.prog Try.f3 Rows.witnessBytesRow.domain false) (Rows.witnessBytesSpec.post enc Try.prog Try.f3 false true false false) := by
  refine returnsInHanded_of_change (C := Try.checked) own started (by kernel_rfl) Try.func3
    (ChangeSpec.witness6 (enc := enc) (C := Try.checked) false ⟨#[], #[.agg #[.int .u64 0, .int .i64 0, .int .i64 0], .slice none 0 0], []⟩ 8 (by kernel_rfl) (by kernel_rfl) (by kernel_rfl) (by kernel_rfl)) ?_
  intro W base args ds gs before hval0 hW hcnd _
  have hval : ∀ (j : Nat) t v, Try.f3.params[j]? = some t → args[j]? = some v → Value.okWide Try.prog W .any base t v := hval0
  have hW' := hW
  obtain ⟨p, q, hA0, hV, rfl, hfz, hnd⟩ := hW
  have hA : DataW.TrodAll enc Try.prog W 0 (fun _ => true) true Try.f3.params.toList args.toList ds p := hA0
  rw [Try.params3] at hA hval
  obtain ⟨v0, vs0, d0, ds0, p0, q0, hargs, rfl, rfl, h0, r0⟩ := trodAll_cons hA
  obtain ⟨v1, vs1, d1, ds1, p1, q1, rfl, rfl, rfl, h1, r1⟩ := trodAll_cons r0
  obtain ⟨rfl, rfl, rfl⟩ := trodAll_nil r1
  obtain rfl : args = #[v0, v1] := by cases args; simp_all
  obtain ⟨rfl, rfl⟩ := trodVars_none hV
  obtain ⟨ac0, rfl, s0⟩ := open_one (hval 0 24 v0 rfl rfl) h0
  obtain ⟨l1, s1, e1⟩ := open_bytes Try.underlying25 Try.underlying5 (by kernel_rfl) (hval 1 25 v1 rfl rfl) h1
  refine (walk ac0 v1 l1 W s0 s1).mono fun e W' ⟨he, hb⟩ => ?_
  subst he
  exact ⟨_, rfl, law_post laidOut (by kernel_rfl) rfl (by kernel_rfl) Try.underlying4 rfl rfl rfl hW' hb⟩

theorem proved : Rows.WitnessBytesSaid :=
  OpenClaim.holds_of_wide 3 Try.f3 rfl rfl rfl rfl rfl rfl rfl ⟨rfl, rfl, rfl, rfl, rfl⟩ rfl rfl rfl rfl rfl (by kernel_rfl) Try.func3 (by kernel_rfl)
    (of_decide_eq_true (by kernel_rfl)) (by unfold Func.isWrapper; first | (rw [if_pos (by decide +kernel)]; kernel_rfl) | (rw [if_neg (by decide +kernel)]; exact ⟨rfl, rfl⟩))
    (fun os started H enc _ => lifted os started H enc)
end Wt
end Go.Proofs.Ytccknplmcnahbaa
