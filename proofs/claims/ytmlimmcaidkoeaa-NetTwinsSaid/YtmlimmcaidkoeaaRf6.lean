/- The document's network: Send: contract. -/
import Derived.Test.YtmlimmcaidkoeaaRf6a
namespace Go.Proofs.Ytmlimmcaidkoeaa
open Go.ChangeShapes Go.WideShapes Go.ChangeAt Go.RowKit Go.Lib
set_option linter.unusedVariables false
set_option maxRecDepth 100000 in
set_option maxHeartbeats 1000000 in
theorem rsend_ok (B R h s : Nat) (u : Value) (M : List Ab) (fr to : Int) (hf1 : 0 ≤ fr) (hf2 : fr < h) (ht1 : 0 ≤ to) (ht2 : to < h) (d : Value) (l : List UInt8) (hl : l.length ≤ 8192) (hL : M.length < 4096) (hs : s < 4611686018427387904)
    (w : World) (hBb : B ≤ w.heap.size) (hn : RefInv w B R u h M s) (hd : Sl w w.heap.size d l.length (bs l)) :
    Calls Try.prog 25 #[.pointer (some ⟨R, 0, none⟩), .int .i64 fr, .int .i64 to, d] w fun e w' => e = .returned (.int .i64 0) ∧ RefStep w w' B R u h (M ++ [⟨fr, to, l⟩]) (s + 1) := by
  obtain ⟨i0, hi0, hz0, hz1, hz2⟩ := info_parts rpk_info
  obtain ⟨A, c, rfl, hc1, hc2⟩ := hn.parts
  obtain ⟨A2, c2, rfl, hc3, hc4⟩ := hd.form
  have hnil := (rcell_any hn.row).2
  have x0 := hn.mem.cell 0
  have x1 := hn.mem.cell 1
  have hMl : (M.length : Int) < 4096 := by omega
  have hlx : (l.length : Int) ≤ 8192 := by omega
  have hF : ∀ W, Below w.heap.size w W → W.cell? ⟨R, 1, none⟩ = some (.slice A M.length c) ∧ W.frozen? ⟨R, 1, none⟩ = false ∧ (convert 33 9 (.slice A2 l.length c2)).run Try.prog W = .ok (.string ⟨l.toArray⟩) W ∧ (∀ ad, A = some ad → ∀ j u, (rflat M)[j]? = some u → W.cell? (ad.add j) = some u) := by
    intro W hW
    exact ⟨(hn.below hW).mem.cell 1, (hn.below hW).mem.free 1, bytes_str (P := Try.prog) W 33 9 5 Try.underlying33 Try.underlying5 Try.underlying9 _ _ l l.length (hd.now hW), (rcell_any (owns_below hn.row hW)).1⟩
  have hlen := (rflat_len M)
  have hone := rflat_one M
  have hone3 : ∀ u ∈ ([.int .i64 fr, .int .i64 to, .string ⟨l.toArray⟩] : List Value), u.oneCell' = true := by
    intro u hu
    simp at hu
    rcases hu with rfl | rfl | rfl <;> rfl
  have b1 : M.length ≤ maxLen := by unfold maxLen; omega
  have b2 : M.length * 32 ≤ 140737488355328 := by omega
  have b3 : M.length + 1 ≤ maxLen := by unfold maxLen; omega
  have b4 : (M.length + 1) * 32 ≤ 140737488355328 := by omega
  have F6 : ∀ (Wx : World) v6 (w6 : World) A4 c4, Below w.heap.size w Wx → Wx.ownsRow w.heap.size 46 3 (.slice A4 M.length c4) M.length (rflat M) → w6.ownsRow w.heap.size 46 3 v6 (M.length + 1) (rflat M ++ [.int .i64 fr, .int .i64 to, .string ⟨l.toArray⟩]) → Wx.grownBy w6 (Value.slice A4 M.length c4).ownBlock → ∃ A6 c6, v6 = .slice A6 (M.length + 1) c6 ∧ w6.ownsRow w.heap.size 46 3 (.slice A6 (M.length + 1) c6) (M.length + 1) (rflat M ++ [.int .i64 fr, .int .i64 to, .string ⟨l.toArray⟩]) ∧ Below w.heap.size w w6 ∧ w6.cell? ⟨R, 1, none⟩ = some (.slice A M.length c) ∧ w6.frozen? ⟨R, 1, none⟩ = false ∧ (w6.setCell ⟨R, 1, none⟩ (.slice A6 (M.length + 1) c6)).cell? ⟨R, 2, none⟩ = some (.int .i64 (s : Nat)) ∧ (w6.setCell ⟨R, 1, none⟩ (.slice A6 (M.length + 1) c6)).frozen? ⟨R, 2, none⟩ = false := by
    intro Wx v6 w6 A4 c4 hb ho4 ho hg
    obtain ⟨A6, c6, rfl, _⟩ := own_form ho
    have hb6 := hb.grown hg hb.size (fun k hk => (ho4.lt k hk).1)
    obtain ⟨q1, q2, _⟩ := hF _ hb6
    have hm6 := (hn.below hb6).mem.put 1 (.slice A6 (M.length + 1) c6)
    exact ⟨A6, c6, rfl, ho, hb6, q1, q2, hm6.cell 2, hm6.free 2⟩
  have HN := Lib.hid hn
  clear hn hd
  go_enter Try.func25, Try.ntmps25
  go_wp2
  have hdr : Below w.heap.size w w.drew := (Below.refl _ _).drew
  refine wp_region_any (by kernel_rfl) ?_
  change wpAny _ _ _ _ _ _ _ (World.drew _)
  refine wpAny_take (i := 0) (oi := { dst := some 43, op := Op.move (Operand.tmp 0), type := 29, pos := "ref.go:47", after := #[], guard := none }) (v := (.pointer (some ⟨R, 0, none⟩))) rfl (by kernel_rfl) (by kernel_rfl) (by kernel_rfl) (fun _ _ _ h => h) (Or.inl ⟨by rfl, by intro w; go_simp⟩) ?_
  dsimp only [Act.put]
  simp only [List.setIfInBounds_toArray, List.set_cons_succ, List.set_cons_zero]
  apply calm_tailI 13 [0] [.is (.pointer (some ⟨R, 0, none⟩)), .of (fun v W => ∃ g, v = .slice (some ⟨g, 0, none⟩) 0 0 ∧ w.heap.size ≤ g ∧ Mem W g 46 #[]) (fun v W W' hb ⟨g, h1, h2, h3⟩ => ⟨g, h1, h2, h3.below hb h3.lt⟩), .is _, .is _, .is _, .is _, .of (fun v W => W.ownsRow w.heap.size 46 3 v M.length (rflat M)) (fun v W W' hb h => owns_below h hb), .is _, .is _, .is _, .is _, .is _, .of (fun v W => ∃ g, v = .slice (some ⟨g, 0, none⟩) 1 1 ∧ Mem W g 46 #[.int .i64 fr, .int .i64 to, .string ⟨l.toArray⟩]) (fun v W W' hb ⟨g, h1, h3⟩ => ⟨g, h1, h3.below hb h3.lt⟩)] [[], [], [], [2], [3], [4], [1, 5], [], [], [], [9], [7, 8, 10], [11]] (by kernel_rfl) (by kernel_rfl) rfl (by decide) (by intro i hi o ho; obtain rfl := List.mem_singleton.1 hi; obtain rfl := Option.some.inj ho; exact rfl)
  intro f a1 ha1
  simp only [List.take_succ_cons, List.take_zero, putL, Act.put, List.setIfInBounds_toArray, List.set_cons_succ, List.set_cons_zero] at ha1
  subst ha1
  refine ⟨?_, ?_⟩
  · refine AllCalm.cons (fun W hB hd => ?_) ?_
    · go_wp2_with (fail)
      exact CalmQ.mk rfl _ rfl (Below.refl _ _) rfl
    refine AllCalm.cons (fun W hB hd => ?_) ?_
    · go_wp2_with (fail)
      exact CalmQ.mk rfl _ rfl ((Below.refl _ _).alloc (Nat.le_refl _) _) ⟨_, rfl, (hdr.trans (hB.mono hdr.size)).size, Mem.new _ _ _⟩
    refine AllCalm.cons (fun W hB hd => ?_) ?_
    · go_wp2_with (fail)
      exact CalmQ.mk rfl _ rfl (Below.refl _ _) rfl
    refine AllCalm.cons (fun W hB hd => ?_) ?_
    · obtain ⟨h2, -⟩ := hd
      have h2 : f 2 = _ := h2
      rw [h2]
      go_wp2_with (fail)
      exact CalmQ.mk rfl _ rfl (Below.refl _ _) rfl
    refine AllCalm.cons (fun W hB hd => ?_) ?_
    · obtain ⟨h3, -⟩ := hd
      have h3 : f 3 = _ := h3
      rw [h3]
      go_wp2_with (fail)
      exact CalmQ.mk rfl _ rfl (Below.refl _ _) rfl
    refine AllCalm.cons (fun W hB hd => ?_) ?_
    · obtain ⟨h4, -⟩ := hd
      have h4 : f 4 = _ := h4
      rw [h4]
      have q := (hF W (hdr.trans (hB.mono hdr.size))).1
      go_wp2_with (fail)
      exact CalmQ.mk rfl _ rfl (Below.refl _ _) rfl
    refine AllCalm.cons (fun W hB hd => ?_) ?_
    · obtain ⟨h1, h5, -⟩ := hd
      have h5 : f 5 = _ := h5
      rw [h5]
      obtain ⟨g6, e6, hg6, hm6⟩ := h1; rw [e6]
      go_wp2_with ((at_builtin; (refine wpList_append_empty _ rfl (.tmp 44) (.tmp 48) _ rfl w.heap.size 46 i0 _ 3 32 Try.underlying37 hi0 hz0 hz1 hz2 rfl (by decide) g6 rfl hm6 hg6 A M.length c (rflat M) rfl hlen (hF W (hdr.trans (hB.mono hdr.size))).2.2.2 hnil hone b1 b2 (hdr.trans (hB.mono hdr.size)).size ?_); intro v4 w4 ho4 hb4))
      exact CalmQ.mk rfl _ rfl hb4 ho4
    refine AllCalm.cons (fun W hB hd => ?_) ?_
    · go_wp2_with (fail)
      exact CalmQ.mk rfl _ rfl (Below.refl _ _) rfl
    refine AllCalm.cons (fun W hB hd => ?_) ?_
    · go_wp2_with (fail)
      exact CalmQ.mk rfl _ rfl (Below.refl _ _) rfl
    refine AllCalm.cons (fun W hB hd => ?_) ?_
    · go_wp2_with (fail)
      exact CalmQ.mk rfl _ rfl (Below.refl _ _) rfl
    refine AllCalm.cons (fun W hB hd => ?_) ?_
    · obtain ⟨h9, -⟩ := hd
      have h9 : f 9 = _ := h9
      rw [h9]
      have kx := (hF W (hdr.trans (hB.mono hdr.size))).2.2.1
      go_wp2_with (fail)
      exact CalmQ.mk rfl _ rfl (Below.refl _ _) rfl
    refine AllCalm.cons (fun W hB hd => ?_) ?_
    · obtain ⟨h7, h8, h10, -⟩ := hd
      have h7 : f 7 = _ := h7
      have h8 : f 8 = _ := h8
      have h10 : f 10 = _ := h10
      rw [h7, h8, h10]
      go_wp2_with (fail)
      exact CalmQ.mk rfl _ rfl (Below.refl _ _) rfl
    refine AllCalm.cons (fun W hB hd => ?_) ?_
    · obtain ⟨h11, -⟩ := hd
      have h11 : f 11 = _ := h11
      rw [h11]
      go_wp2_with (fail)
      exact CalmQ.mk rfl _ rfl ((Below.refl _ _).alloc (Nat.le_refl _) _) ⟨_, rfl, Mem.new _ _ _⟩
    exact AllCalm.nil
  · intro W hB hT
    obtain ⟨h0, h1, h2, h3, h4, h5, h6, h7, h8, h9, h10, h11, h12, -⟩ := hT
    have h0 : f 0 = _ := h0
    have h2 : f 2 = _ := h2
    have h3 : f 3 = _ := h3
    have h4 : f 4 = _ := h4
    have h5 : f 5 = _ := h5
    have h7 : f 7 = _ := h7
    have h8 : f 8 = _ := h8
    have h9 : f 9 = _ := h9
    have h10 : f 10 = _ := h10
    have h11 : f 11 = _ := h11
    rw [h0, h2, h3, h4, h5, h7, h8, h9, h10, h11]
    clear h0 h2 h3 h4 h5 h7 h8 h9 h10 h11
    simp only [List.drop_succ_cons, List.drop_zero]
    have hBw := hdr.trans (hB.mono hdr.size)
    obtain ⟨g12, e12, hm12⟩ := h12
    obtain ⟨A4, c4, e4, _, _⟩ := own_form h6
    rw [e12, e4]
    have h6 : W.ownsRow w.heap.size 46 3 (f 6) M.length (rflat M) := h6
    rw [e4] at h6
    go_wp2_with (at_builtin; (refine wpList_append_at _ rfl (.tmp 49) (.tmp 55) _ rfl w.heap.size 46 i0 _ 3 32 Try.underlying37 hi0 hz0 hz1 hz2 rfl (by decide) (.slice A4 M.length c4) M.length (rflat M) rfl h6 ⟨g12, 0, none⟩ 1 1 [.int .i64 fr, .int .i64 to, .string ⟨l.toArray⟩] rfl rfl (cells_at3' hm12) hone3 b3 b4 hBw.size ?_); intro v6 w6 ho6 hg6 hat6; obtain ⟨A6, c6, rfl, ho7, hb6, hx6, hf6, hx7, hf7⟩ := F6 _ _ _ _ _ hBw h6 ho6 hg6)
    go_ret
    exact ⟨rfl, (ref_sent (p := ⟨fr, to, l⟩) HN.out hBb ‹Below w.heap.size w w6› ho7 hl hL).1⟩
end Go.Proofs.Ytmlimmcaidkoeaa
