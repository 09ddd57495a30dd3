/- Package timer: Stop, Left, Next: contracts. -/
import Derived.Test.YtohbkepjbaigdaaTm6
namespace Go.Proofs.Ytohbkepjbaigdaa
open Go.ChangeShapes Go.WideShapes Go.ChangeAt Go.RowKit Go.Lib
set_option linter.unusedVariables false
theorem stop_no (B X : Nat) (v : Value) (H : List One) (now id : Int) (w : World) (hl : H.length ≤ 1000) (hn : TmInv w B X v H now) (hi : ¬ ix H id < H.length) :
    Calls Try.prog 12 #[.pointer (some ⟨X, 0, none⟩), .int .i64 id] w fun e w' => e = .returned (.bool false) ∧ Below w.heap.size w w' := by
  have hp := place_any B X v H now id w hl hn
  have hI : ixI H id = -1 := by unfold ixI; rw [if_neg hi]
  rw [hI] at hp
  go_enter Try.func12, Try.ntmps12
  go_wp2_with (go_at_call 23; (with_reducible refine hp.mono ?_); rintro e w1 ⟨rfl, hb1⟩)
  go_ret
  exact ⟨rfl, hb1⟩
theorem stop_ok (B X : Nat) (v : Value) (H : List One) (now id : Int) (w : World) (hl : H.length ≤ 900) (hBw : B ≤ w.heap.size) (hn : TmInv w B X v H now) (hh : Heap H) (hi : ix H id < H.length) :
    Calls Try.prog 12 #[.pointer (some ⟨X, 0, none⟩), .int .i64 id] w fun e w' => e = .returned (.bool true) ∧ ∃ H', H'.Perm (H.eraseIdx (ix H id)) ∧ Heap H' ∧ TmStep w w' B X v H' now := by
  have hp := place_any B X v H now id w (by omega) hn
  have hI : ixI H id = (ix H id : Int) := by unfold ixI; rw [if_pos hi]
  have hge : (0 : Int) ≤ ((ix H id : Nat) : Int) := by omega
  rw [hI] at hp
  generalize hixe : ix H id = ii at *
  go_enter Try.func12, Try.ntmps12
  go_wp2_with (first
    | (go_at_call 23; (with_reducible refine hp.mono ?_); rintro e w1 ⟨rfl, hb1⟩)
    | (go_at_call 24; (with_reducible refine (remove_any B X _ H now ii _ (by omega) (Nat.le_trans hBw hb1.size) (hn.below hb1) hi hh).mono ?_); rintro e w3 ⟨rfl, v3, H3, hp3, hh3, hn3, he3, hv3⟩))
  go_ret
  exact ⟨rfl, H3, hp3, hh3, v3, hn3, (Eff.of (S := TS X v) hb1).trans he3 fun _ _ h => h, fun k hk => .inl (hv3 ▸ hk)⟩
theorem left_no (B X : Nat) (v : Value) (H : List One) (now id : Int) (w : World) (hl : H.length ≤ 1000) (hn : TmInv w B X v H now) (hi : ¬ ix H id < H.length) :
    Calls Try.prog 17 #[.pointer (some ⟨X, 0, none⟩), .int .i64 id] w fun e w' => e = .returned (.tuple #[.int .i64 0, .bool false]) ∧ Below w.heap.size w w' := by
  have hp := place_any B X v H now id w hl hn
  have hI : ixI H id = -1 := by unfold ixI; rw [if_neg hi]
  rw [hI] at hp
  go_enter Try.func17, Try.ntmps17
  go_wp2_with (go_at_call 23; (with_reducible refine hp.mono ?_); rintro e w1 ⟨rfl, hb1⟩)
  go_ret2
  exact ⟨rfl, hb1⟩
set_option maxRecDepth 100000 in
set_option maxHeartbeats 1000000 in
theorem left_ok (B X : Nat) (v : Value) (H : List One) (now id : Int) (w : World) (hl : H.length ≤ 900) (hn : TmInv w B X v H now) (hi : ix H id < H.length) (hr : 0 ≤ (pl H (ix H id)).2 - now ∧ (pl H (ix H id)).2 - now ≤ 1073741824) :
    Calls Try.prog 17 #[.pointer (some ⟨X, 0, none⟩), .int .i64 id] w fun e w' => e = .returned (.tuple #[.int .i64 ((pl H (ix H id)).2 - now), .bool true]) ∧ Below w.heap.size w w' := by
  have hp := place_any B X v H now id w (by omega) hn
  have hI : ixI H id = (ix H id : Int) := by unfold ixI; rw [if_pos hi]
  have hge : (0 : Int) ≤ ((ix H id : Nat) : Int) := by omega
  rw [hI] at hp
  obtain ⟨A, c, rfl, hc1, hc2⟩ := hn.parts
  obtain ⟨g, rfl, hBg, hgX⟩ := hn.at_ hi
  have hF : ∀ W, Below w.heap.size w W → W.cell? ⟨X, 0, none⟩ = some (.slice (some ⟨g, 0, none⟩) H.length c) ∧ W.cell? ⟨X, 1, none⟩ = some (.int .i64 now) ∧ W.cell? ⟨g, ix H id * 2 + 1, none⟩ = some (.int .i64 (pl H (ix H id)).2) := by
    intro W hW
    have hW' := hn.below hW
    exact ⟨hW'.mem.cell 0, hW'.mem.cell 1, (hW'.cells hi).2⟩
  have hix : ((ix H id : Nat) : Int) < (H.length : Int) := by omega
  generalize ix H id = ii at *
  generalize (pl H ii).2 = du at *
  obtain ⟨hr1, hr2⟩ := hr
  go_enter Try.func17, Try.ntmps17
  go_wp2_with (go_at_call 23; (with_reducible refine hp.mono ?_); rintro e w1 ⟨rfl, hb1⟩)
  apply calm_tail 13 [.is _, .is _, .is _, .is _, .is _, .is _, .is _, .is _, .is _, .is _, .is _, .is _, .is _] [[], [0], [1], [2], [], [3, 4], [5], [6], [], [8], [9], [10], [7, 11]] (by kernel_rfl) (by kernel_rfl) (by kernel_rfl) rfl
  intro f a1 ha1
  simp only [List.take_succ_cons, List.take_zero, putL, Act.put, List.setIfInBounds_toArray, List.set_cons_succ, List.set_cons_zero] at ha1
  subst ha1
  refine ⟨?_, ?_⟩
  · refine AllCalm.cons (fun W hB hd => ?_) ?_
    · go_wp2_with (fail)
      exact CalmQ.mk rfl _ rfl (Below.refl _ _) rfl
    refine AllCalm.cons (fun W hB hd => ?_) ?_
    · obtain ⟨h0, -⟩ := hd
      have h0 : f 0 = _ := h0
      rw [h0]
      go_wp2_with (fail)
      exact CalmQ.mk rfl _ rfl (Below.refl _ _) rfl
    refine AllCalm.cons (fun W hB hd => ?_) ?_
    · obtain ⟨h1, -⟩ := hd
      have h1 : f 1 = _ := h1
      rw [h1]
      go_wp2_with (fail)
      exact CalmQ.mk rfl _ rfl (Below.refl _ _) rfl
    refine AllCalm.cons (fun W hB hd => ?_) ?_
    · obtain ⟨h2, -⟩ := hd
      have h2 : f 2 = _ := h2
      rw [h2]
      have kx := (hF W (hb1.trans (hB.mono hb1.size))).1
      go_wp2_with (fail)
      exact CalmQ.mk rfl _ rfl (Below.refl _ _) rfl
    refine AllCalm.cons (fun W hB hd => ?_) ?_
    · go_wp2_with (fail)
      exact CalmQ.mk rfl _ rfl (Below.refl _ _) rfl
    refine AllCalm.cons (fun W hB hd => ?_) ?_
    · obtain ⟨h3, h4, -⟩ := hd
      have h3 : f 3 = _ := h3
      have h4 : f 4 = _ := h4
      rw [h3, h4]
      go_wp2_with (fail)
      exact CalmQ.mk rfl _ rfl (Below.refl _ _) rfl
    refine AllCalm.cons (fun W hB hd => ?_) ?_
    · obtain ⟨h5, -⟩ := hd
      have h5 : f 5 = _ := h5
      rw [h5]
      go_wp2_with (fail)
      exact CalmQ.mk rfl _ rfl (Below.refl _ _) rfl
    refine AllCalm.cons (fun W hB hd => ?_) ?_
    · obtain ⟨h6, -⟩ := hd
      have h6 : f 6 = _ := h6
      rw [h6]
      have kx := (hF W (hb1.trans (hB.mono hb1.size))).2.2
      go_wp2_with (fail)
      exact CalmQ.mk rfl _ rfl (Below.refl _ _) rfl
    refine AllCalm.cons (fun W hB hd => ?_) ?_
    · go_wp2_with (fail)
      exact CalmQ.mk rfl _ rfl (Below.refl _ _) rfl
    refine AllCalm.cons (fun W hB hd => ?_) ?_
    · obtain ⟨h8, -⟩ := hd
      have h8 : f 8 = _ := h8
      rw [h8]
      go_wp2_with (fail)
      exact CalmQ.mk rfl _ rfl (Below.refl _ _) rfl
    refine AllCalm.cons (fun W hB hd => ?_) ?_
    · obtain ⟨h9, -⟩ := hd
      have h9 : f 9 = _ := h9
      rw [h9]
      go_wp2_with (fail)
      exact CalmQ.mk rfl _ rfl (Below.refl _ _) rfl
    refine AllCalm.cons (fun W hB hd => ?_) ?_
    · obtain ⟨h10, -⟩ := hd
      have h10 : f 10 = _ := h10
      rw [h10]
      have kx := (hF W (hb1.trans (hB.mono hb1.size))).2.1
      go_wp2_with (fail)
      exact CalmQ.mk rfl _ rfl (Below.refl _ _) rfl
    refine AllCalm.cons (fun W hB hd => ?_) ?_
    · obtain ⟨h7, h11, -⟩ := hd
      have h7 : f 7 = _ := h7
      have h11 : f 11 = _ := h11
      rw [h7, h11]
      go_wp2_with (fail)
      exact CalmQ.mk rfl _ rfl (Below.refl _ _) rfl
    exact AllCalm.nil
  · intro W hB hT
    obtain ⟨h0, h1, h2, h3, h4, h5, h6, h7, h8, h9, h10, h11, h12, -⟩ := hT
    have h0 : f 0 = _ := h0
    have h1 : f 1 = _ := h1
    have h2 : f 2 = _ := h2
    have h3 : f 3 = _ := h3
    have h4 : f 4 = _ := h4
    have h5 : f 5 = _ := h5
    have h6 : f 6 = _ := h6
    have h7 : f 7 = _ := h7
    have h8 : f 8 = _ := h8
    have h9 : f 9 = _ := h9
    have h10 : f 10 = _ := h10
    have h11 : f 11 = _ := h11
    have h12 : f 12 = _ := h12
    rw [h0, h1, h2, h3, h4, h5, h6, h7, h8, h9, h10, h11, h12]
    clear h0 h1 h2 h3 h4 h5 h6 h7 h8 h9 h10 h11 h12
    simp only [List.drop_succ_cons, List.drop_zero]
    skip
    go_wp2
    go_ret2
    exact ⟨rfl, hb1.trans (hB.mono hb1.size)⟩
theorem next_no (B X : Nat) (v : Value) (now : Int) (w : World) (hn : TmInv w B X v [] now) :
    Calls Try.prog 19 #[.pointer (some ⟨X, 0, none⟩)] w fun e w' => e = .returned (.tuple #[.int .i64 0, .bool false]) ∧ w = w' := by
  obtain ⟨A, c, rfl, hc1, hc2⟩ := hn.parts
  have x0 : w.cell? ⟨X, 0, none⟩ = some (.slice A 0 c) := hn.mem.cell 0
  go_enter Try.func19, Try.ntmps19
  go_wp2
  go_ret2
  exact ⟨rfl, rfl⟩
set_option maxRecDepth 100000 in
set_option maxHeartbeats 1000000 in
theorem next_ok (B X : Nat) (v : Value) (H : List One) (now : Int) (w : World) (hl : H.length ≤ 900) (hn : TmInv w B X v H now) (hi : 0 < H.length) (hr : 0 ≤ (pl H 0).2 - now ∧ (pl H 0).2 - now ≤ 1073741824) :
    Calls Try.prog 19 #[.pointer (some ⟨X, 0, none⟩)] w fun e w' => e = .returned (.tuple #[.int .i64 ((pl H 0).2 - now), .bool true]) ∧ Below w.heap.size w w' := by
  obtain ⟨A, c, rfl, hc1, hc2⟩ := hn.parts
  obtain ⟨g, rfl, hBg, hgX⟩ := hn.at_ hi
  have hF : ∀ W, Below w.heap.size w W → W.cell? ⟨X, 0, none⟩ = some (.slice (some ⟨g, 0, none⟩) H.length c) ∧ W.cell? ⟨X, 1, none⟩ = some (.int .i64 now) ∧ W.cell? ⟨g, 1, none⟩ = some (.int .i64 (pl H 0).2) := by
    intro W hW
    have hW' := hn.below hW
    have h := (hW'.cells hi).2
    exact ⟨hW'.mem.cell 0, hW'.mem.cell 1, by simpa using h⟩
  have hix : (0 : Int) < (H.length : Int) := by omega
  have hne : ¬ (H.length : Int) = 0 := by omega
  have x0 := (hF w (Below.refl _ _)).1
  generalize (pl H 0).2 = du at *
  obtain ⟨hr1, hr2⟩ := hr
  go_enter Try.func19, Try.ntmps19
  go_wp2
  apply calm_tail 12 [.is _, .is _, .is _, .is _, .is _, .is _, .is _, .is _, .is _, .is _, .is _, .is _] [[], [0], [1], [2], [3], [4], [5], [], [7], [8], [9], [6, 10]] (by kernel_rfl) (by kernel_rfl) (by kernel_rfl) rfl
  intro f a1 ha1
  simp only [List.take_succ_cons, List.take_zero, putL, Act.put, List.setIfInBounds_toArray, List.set_cons_succ, List.set_cons_zero] at ha1
  subst ha1
  refine ⟨?_, ?_⟩
  · refine AllCalm.cons (fun W hB hd => ?_) ?_
    · go_wp2_with (fail)
      exact CalmQ.mk rfl _ rfl (Below.refl _ _) rfl
    refine AllCalm.cons (fun W hB hd => ?_) ?_
    · obtain ⟨h0, -⟩ := hd
      have h0 : f 0 = _ := h0
      rw [h0]
      go_wp2_with (fail)
      exact CalmQ.mk rfl _ rfl (Below.refl _ _) rfl
    refine AllCalm.cons (fun W hB hd => ?_) ?_
    · obtain ⟨h1, -⟩ := hd
      have h1 : f 1 = _ := h1
      rw [h1]
      go_wp2_with (fail)
      exact CalmQ.mk rfl _ rfl (Below.refl _ _) rfl
    refine AllCalm.cons (fun W hB hd => ?_) ?_
    · obtain ⟨h2, -⟩ := hd
      have h2 : f 2 = _ := h2
      rw [h2]
      have kx := (hF W hB).1
      go_wp2_with (fail)
      exact CalmQ.mk rfl _ rfl (Below.refl _ _) rfl
    refine AllCalm.cons (fun W hB hd => ?_) ?_
    · obtain ⟨h3, -⟩ := hd
      have h3 : f 3 = _ := h3
      rw [h3]
      go_wp2_with (fail)
      exact CalmQ.mk rfl _ rfl (Below.refl _ _) rfl
    refine AllCalm.cons (fun W hB hd => ?_) ?_
    · obtain ⟨h4, -⟩ := hd
      have h4 : f 4 = _ := h4
      rw [h4]
      go_wp2_with (fail)
      exact CalmQ.mk rfl _ rfl (Below.refl _ _) rfl
    refine AllCalm.cons (fun W hB hd => ?_) ?_
    · obtain ⟨h5, -⟩ := hd
      have h5 : f 5 = _ := h5
      rw [h5]
      have kx := (hF W hB).2.2
      go_wp2_with (fail)
      exact CalmQ.mk rfl _ rfl (Below.refl _ _) rfl
    refine AllCalm.cons (fun W hB hd => ?_) ?_
    · go_wp2_with (fail)
      exact CalmQ.mk rfl _ rfl (Below.refl _ _) rfl
    refine AllCalm.cons (fun W hB hd => ?_) ?_
    · obtain ⟨h7, -⟩ := hd
      have h7 : f 7 = _ := h7
      rw [h7]
      go_wp2_with (fail)
      exact CalmQ.mk rfl _ rfl (Below.refl _ _) rfl
    refine AllCalm.cons (fun W hB hd => ?_) ?_
    · obtain ⟨h8, -⟩ := hd
      have h8 : f 8 = _ := h8
      rw [h8]
      go_wp2_with (fail)
      exact CalmQ.mk rfl _ rfl (Below.refl _ _) rfl
    refine AllCalm.cons (fun W hB hd => ?_) ?_
    · obtain ⟨h9, -⟩ := hd
      have h9 : f 9 = _ := h9
      rw [h9]
      have kx := (hF W hB).2.1
      go_wp2_with (fail)
      exact CalmQ.mk rfl _ rfl (Below.refl _ _) rfl
    refine AllCalm.cons (fun W hB hd => ?_) ?_
    · obtain ⟨h6, h10, -⟩ := hd
      have h6 : f 6 = _ := h6
      have h10 : f 10 = _ := h10
      rw [h6, h10]
      go_wp2_with (fail)
      exact CalmQ.mk rfl _ rfl (Below.refl _ _) rfl
    exact AllCalm.nil
  · intro W hB hT
    obtain ⟨h0, h1, h2, h3, h4, h5, h6, h7, h8, h9, h10, h11, -⟩ := hT
    have h0 : f 0 = _ := h0
    have h1 : f 1 = _ := h1
    have h2 : f 2 = _ := h2
    have h3 : f 3 = _ := h3
    have h4 : f 4 = _ := h4
    have h5 : f 5 = _ := h5
    have h6 : f 6 = _ := h6
    have h7 : f 7 = _ := h7
    have h8 : f 8 = _ := h8
    have h9 : f 9 = _ := h9
    have h10 : f 10 = _ := h10
    have h11 : f 11 = _ := h11
    rw [h0, h1, h2, h3, h4, h5, h6, h7, h8, h9, h10, h11]
    clear h0 h1 h2 h3 h4 h5 h6 h7 h8 h9 h10 h11
    simp only [List.drop_succ_cons, List.drop_zero]
    skip
    go_wp2
    go_ret2
    exact ⟨rfl, hB⟩
end Go.Proofs.Ytohbkepjbaigdaa
