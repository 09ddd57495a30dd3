/- The document's network: Twin: contract. -/
import Derived.Test.YtmlimmcaidkoeaaRf6
namespace Go.Proofs.Ytmlimmcaidkoeaa
open Go.ChangeShapes Go.WideShapes Go.ChangeAt Go.RowKit Go.Lib
set_option linter.unusedVariables false
set_option maxRecDepth 100000 in
set_option maxHeartbeats 1000000 in
theorem rtwin_any (B R h s : Nat) (u : Value) (M : List Ab) (w : World) (hBb : B ≤ w.heap.size) (hn : RefInv w B R u h M s) :
    Calls Try.prog 19 #[.pointer (some ⟨R, 0, none⟩)] w fun e w' => ∃ U u', e = .returned (.pointer (some ⟨U, 0, none⟩)) ∧ w.heap.size ≤ U ∧ RefInv w' B U u' h M s ∧ Below w.heap.size w w' := by
  obtain ⟨i0, hi0, hz0, hz1, hz2⟩ := info_parts rpk_info
  obtain ⟨A, c, rfl, hc1, hc2⟩ := hn.parts
  have hnil := (rcell_any hn.row).2
  have hMl : (M.length : Int) ≤ 4096 := by have := hn.few; omega
  have hF : ∀ W, Below w.heap.size w W → W.cell? ⟨R, 0, none⟩ = some (.int .i64 (h : Nat)) ∧ W.cell? ⟨R, 1, none⟩ = some (.slice A M.length c) ∧ W.cell? ⟨R, 2, none⟩ = some (.int .i64 (s : Nat)) ∧ (∀ ad, A = some ad → ∀ j u, (rflat M)[j]? = some u → W.cell? (ad.add j) = some u) := by
    intro W hW
    exact ⟨(hn.below hW).mem.cell 0, (hn.below hW).mem.cell 1, (hn.below hW).mem.cell 2, (rcell_any (owns_below hn.row hW)).1⟩
  have hlen := (rflat_len M)
  have hone := rflat_one M
  have b1 : M.length ≤ maxLen := by unfold maxLen; omega
  have b2 : M.length * 32 ≤ 140737488355328 := by omega
  have HN := Lib.hid hn
  clear hn
  go_enter Try.func19, Try.ntmps19
  go_wp2
  have hdr : Below w.heap.size w w.drew := (Below.refl _ _).drew
  apply calm_region [.is _, .is _, .is _, .is _, .of (fun v W => ∃ g, v = .slice (some ⟨g, 0, none⟩) 0 0 ∧ w.heap.size ≤ g ∧ Mem W g 46 #[]) (fun v W W' hb ⟨g, h1, h2, h3⟩ => ⟨g, h1, h2, h3.below hb h3.lt⟩), .is _, .is _, .is _, .is _, .of (fun v W => W.ownsRow w.heap.size 46 3 v M.length (rflat M)) (fun v W W' hb h => owns_below h hb), .is _, .is _, .is _, .is _, .of (fun v W => ∃ A1 c1, v = .agg #[.int .i64 (h : Nat), .slice A1 M.length c1, .int .i64 (s : Nat)] ∧ W.ownsRow w.heap.size 46 3 (.slice A1 M.length c1) M.length (rflat M)) (fun v W W' hb ⟨A1, c1, h1, h2⟩ => ⟨A1, c1, h1, owns_below h2 hb⟩), .of (fun v W => ∃ g A1 c1, v = .pointer (some ⟨g, 0, none⟩) ∧ w.heap.size ≤ g ∧ Mem W g 39 #[.int .i64 (h : Nat), .slice A1 M.length c1, .int .i64 (s : Nat)] ∧ W.ownsRow w.heap.size 46 3 (.slice A1 M.length c1) M.length (rflat M)) (fun v W W' hb ⟨g, A1, c1, h1, h2, h3, h4⟩ => ⟨g, A1, c1, h1, h2, h3.below hb h3.lt, owns_below h4 hb⟩), .of (fun v W => ∃ g A1 c1, v = .pointer (some ⟨g, 0, none⟩) ∧ w.heap.size ≤ g ∧ Mem W g 39 #[.int .i64 (h : Nat), .slice A1 M.length c1, .int .i64 (s : Nat)] ∧ W.ownsRow w.heap.size 46 3 (.slice A1 M.length c1) M.length (rflat M)) (fun v W W' hb ⟨g, A1, c1, h1, h2, h3, h4⟩ => ⟨g, A1, c1, h1, h2, h3.below hb h3.lt, owns_below h4 hb⟩)] [[], [0], [1], [2], [], [], [5], [6], [7], [4, 8], [], [10], [11], [12], [3, 9, 13], [14], [15, 9, 0, 1, 2, 3, 4, 5, 6, 7, 8, 9, 10, 11, 12, 13, 14, 15]] (by kernel_rfl) (by kernel_rfl) (by kernel_rfl) rfl
  intro f a1 ha1
  simp only [putL, Act.put, List.setIfInBounds_toArray, List.set_cons_succ, List.set_cons_zero] at ha1
  subst ha1
  refine ⟨?_, ?_⟩
  · refine AllCalm.cons (fun W hB hd => ?_) ?_
    · go_wp2_with (fail)
      exact CalmQ.mk rfl _ rfl (Below.refl _ _) rfl
    refine AllCalm.cons (fun W hB hd => ?_) ?_
    · obtain ⟨h0, -⟩ := hd
      have h0 : f 0 = _ := h0
      rw [h0]
      go_wp2_with (fail)
      exact CalmQ.mk rfl _ rfl (Below.refl _ _) rfl
    refine AllCalm.cons (fun W hB hd => ?_) ?_
    · obtain ⟨h1, -⟩ := hd
      have h1 : f 1 = _ := h1
      rw [h1]
      go_wp2_with (fail)
      exact CalmQ.mk rfl _ rfl (Below.refl _ _) rfl
    refine AllCalm.cons (fun W hB hd => ?_) ?_
    · obtain ⟨h2, -⟩ := hd
      have h2 : f 2 = _ := h2
      rw [h2]
      have q := (hF W hB).1
      go_wp2_with (fail)
      exact CalmQ.mk rfl _ rfl (Below.refl _ _) rfl
    refine AllCalm.cons (fun W hB hd => ?_) ?_
    · go_wp2_with (fail)
      exact CalmQ.mk rfl _ rfl ((Below.refl _ _).alloc (Nat.le_refl _) _) ⟨_, rfl, hB.size, Mem.new _ _ _⟩
    refine AllCalm.cons (fun W hB hd => ?_) ?_
    · go_wp2_with (fail)
      exact CalmQ.mk rfl _ rfl (Below.refl _ _) rfl
    refine AllCalm.cons (fun W hB hd => ?_) ?_
    · obtain ⟨h5, -⟩ := hd
      have h5 : f 5 = _ := h5
      rw [h5]
      go_wp2_with (fail)
      exact CalmQ.mk rfl _ rfl (Below.refl _ _) rfl
    refine AllCalm.cons (fun W hB hd => ?_) ?_
    · obtain ⟨h6, -⟩ := hd
      have h6 : f 6 = _ := h6
      rw [h6]
      go_wp2_with (fail)
      exact CalmQ.mk rfl _ rfl (Below.refl _ _) rfl
    refine AllCalm.cons (fun W hB hd => ?_) ?_
    · obtain ⟨h7, -⟩ := hd
      have h7 : f 7 = _ := h7
      rw [h7]
      have q := (hF W hB).2.1
      go_wp2_with (fail)
      exact CalmQ.mk rfl _ rfl (Below.refl _ _) rfl
    refine AllCalm.cons (fun W hB hd => ?_) ?_
    · obtain ⟨h4, h8, -⟩ := hd
      have h8 : f 8 = _ := h8
      rw [h8]
      obtain ⟨g6, e6, hg6, hm6⟩ := h4; rw [e6]
      go_wp2_with ((at_builtin; (refine wpList_append_empty _ rfl (.tmp 7) (.tmp 11) _ rfl w.heap.size 46 i0 _ 3 32 Try.underlying37 hi0 hz0 hz1 hz2 rfl (by decide) g6 rfl hm6 hg6 A M.length c (rflat M) rfl hlen (hF W hB).2.2.2 hnil hone b1 b2 hB.size ?_); intro v4 w4 ho4 hb4))
      exact CalmQ.mk rfl _ rfl hb4 ho4
    refine AllCalm.cons (fun W hB hd => ?_) ?_
    · go_wp2_with (fail)
      exact CalmQ.mk rfl _ rfl (Below.refl _ _) rfl
    refine AllCalm.cons (fun W hB hd => ?_) ?_
    · obtain ⟨h10, -⟩ := hd
      have h10 : f 10 = _ := h10
      rw [h10]
      go_wp2_with (fail)
      exact CalmQ.mk rfl _ rfl (Below.refl _ _) rfl
    refine AllCalm.cons (fun W hB hd => ?_) ?_
    · obtain ⟨h11, -⟩ := hd
      have h11 : f 11 = _ := h11
      rw [h11]
      go_wp2_with (fail)
      exact CalmQ.mk rfl _ rfl (Below.refl _ _) rfl
    refine AllCalm.cons (fun W hB hd => ?_) ?_
    · obtain ⟨h12, -⟩ := hd
      have h12 : f 12 = _ := h12
      rw [h12]
      have q := (hF W hB).2.2.1
      go_wp2_with (fail)
      exact CalmQ.mk rfl _ rfl (Below.refl _ _) rfl
    refine AllCalm.cons (fun W hB hd => ?_) ?_
    · obtain ⟨h3, h9, h13, -⟩ := hd
      have h3 : f 3 = _ := h3
      have h13 : f 13 = _ := h13
      rw [h3, h13]
      have h9 : W.ownsRow w.heap.size 46 3 (f 9) M.length (rflat M) := h9; obtain ⟨A1, c1, e9, _⟩ := own_form h9; rw [e9] at h9; rw [e9]
      go_wp2_with (fail)
      exact CalmQ.mk rfl _ rfl (Below.refl _ _) ⟨_, _, rfl, h9⟩
    refine AllCalm.cons (fun W hB hd => ?_) ?_
    · obtain ⟨h14, -⟩ := hd
      obtain ⟨A1, c1, e14, h9⟩ := h14; rw [e14]
      go_wp2_with (fail)
      refine CalmQ.mk rfl _ rfl ((Below.refl _ _).alloc (Nat.le_refl _) _) ?_; exact ⟨_, rfl, hB.size, A1, c1, Mem.new _ _ _, owns_below h9 ((Below.refl _ _).alloc (Nat.le_refl _) _)⟩
    refine AllCalm.cons (fun W hB hd => ?_) ?_
    · obtain ⟨h15, h9, h0, h1, h2, h3, h4, h5, h6, h7, h8, -, h10, h11, h12, h13, h14, -, -⟩ := hd
      have h0 : f 0 = _ := h0
      have h1 : f 1 = _ := h1
      have h2 : f 2 = _ := h2
      have h3 : f 3 = _ := h3
      have h5 : f 5 = _ := h5
      have h6 : f 6 = _ := h6
      have h7 : f 7 = _ := h7
      have h8 : f 8 = _ := h8
      have h10 : f 10 = _ := h10
      have h11 : f 11 = _ := h11
      have h12 : f 12 = _ := h12
      have h13 : f 13 = _ := h13
      rw [h0, h1, h2, h3, h5, h6, h7, h8, h10, h11, h12, h13]
      obtain ⟨g, A1, c1, e15, k1, k2, k3⟩ := h15; rw [e15]
      go_wp2_with (fail)
      refine CalmQ.mk rfl _ rfl (Below.refl _ _) ?_; exact ⟨g, rfl, k1, A1, c1, k2, k3⟩
    exact AllCalm.nil
  · intro W hB hT
    obtain ⟨h0, h1, h2, h3, h4, h5, h6, h7, h8, h9, h10, h11, h12, h13, h14, h15, h16, -⟩ := hT
    have h0 : f 0 = _ := h0
    have h1 : f 1 = _ := h1
    have h2 : f 2 = _ := h2
    have h3 : f 3 = _ := h3
    have h5 : f 5 = _ := h5
    have h6 : f 6 = _ := h6
    have h7 : f 7 = _ := h7
    have h8 : f 8 = _ := h8
    have h10 : f 10 = _ := h10
    have h11 : f 11 = _ := h11
    have h12 : f 12 = _ := h12
    have h13 : f 13 = _ := h13
    rw [h0, h1, h2, h3, h5, h6, h7, h8, h10, h11, h12, h13]
    clear h0 h1 h2 h3 h5 h6 h7 h8 h10 h11 h12 h13
    have hBw := hB
    obtain ⟨g, A1, c1, e16, k1, k2, k3⟩ := h16
    rw [e16]
    go_wp2_with fail
    go_ret
    exact ⟨g, _, rfl, k1, ⟨Nat.le_trans hBb k1, k2, owns_mono k3 hBb, HN.out.few, HN.out.sizes⟩, hBw⟩
end Go.Proofs.Ytmlimmcaidkoeaa
