/- Package space: Decode of the bytes that known makes. -/
import Derived.Test.YtpkebbibafldkaaUn7
import Derived.Test.YtpkebbibafldkaaUSp6
import Derived.Test.YtpkebbibafldkaaBtC
namespace Go.Proofs.Ytpkebbibafldkaa
open Go.ChangeShapes Go.WideShapes Go.ChangeAt Go.RowKit Go.Lib
set_option linter.unusedVariables false
set_option linter.unusedSimpArgs false
set_option maxRecDepth 100000
namespace Un
open Rv
def kL : List UInt8 := [97, 98, 99, 100, 101, 102, 103, 104]
def kSP : List UInt8 := [0, 4, 2, 97, 98, 99, 100, 101, 102, 103, 104]
def kD : List UInt8 := laid (List.replicate 32 0) 1 kL
theorem bit2 (j : Nat) : bit [2] j = decide (j = 1) := by
  by_cases h : j < 8
  · have : j = 0 ∨ j = 1 ∨ j = 2 ∨ j = 3 ∨ j = 4 ∨ j = 5 ∨ j = 6 ∨ j = 7 := by omega
    rcases this with rfl | rfl | rfl | rfl | rfl | rfl | rfl | rfl <;> decide
  · rw [bit_far (by simpa using h)]
    exact (decide_eq_false (by omega)).symm
theorem runs2 : RunsOf [2] 2 [(1, 1)] := by
  refine ⟨by decide, by simp, fun j hj => ?_, by decide, by decide, fun _ _ => by decide⟩
  rw [bit2]
  have : j = 0 ∨ j = 1 := by omega
  rcases this with rfl | rfl <;> simp
theorem runs2_only {t : Nat} {R : List (Nat × Nat)} (h : RunsOf [2] t R) (h2 : ∀ j, t ≤ j → j < 8 * ([2] : List UInt8).length → bit [2] j = false) : R = [(1, 1)] :=
  h.unique h2 runs2 fun j hj _ => by rw [bit2]; exact decide_eq_false (by omega)
theorem two_bits (x : UInt8) (h : ∀ j : Fin 8, bit [x] j.val = decide (j.val = 1)) : x = 2 := by
  have key : ∀ n : Fin 256, (∀ j : Fin 8, decide (n.val / 2 ^ j.val % 2 = 1) = decide (j.val = 1)) → n.val = 2 := by decide +kernel
  have h3 := key ⟨x.toNat, x.toNat_lt⟩ fun j => by
    have := h j
    unfold bit at this
    rw [show j.val / 8 = 0 by omega, show j.val % 8 = j.val by omega] at this
    exact this
  exact UInt8.toNat_inj.1 h3
theorem map2 {M' : List UInt8} (h : runTo (List.replicate 1 0) 1 1 true M') : M' = [2] := by
  obtain ⟨h1, h2⟩ := h
  match M', h1 with
  | [x], _ =>
    have := two_bits x fun j => by
      rw [h2 j.val]
      by_cases e : j.val = 1
      · rw [if_pos (by omega), decide_eq_true e]
      · rw [if_neg (by omega), decide_eq_false e]
        have : ∀ j : Fin 8, bit (List.replicate 1 0) j.val = false := by decide
        exact this j
    rw [this]
theorem enc2 {t : Nat} {R : List (Nat × Nat)} (h : RunsOf [2] t R) (h2 : ∀ j, t ≤ j → j < 8 * ([2] : List UInt8).length → bit [2] j = false) : encS 4 kD [2] R = kSP := by
  rw [runs2_only h h2]
  decide +kernel
section
variable {w w' : World}
set_option maxHeartbeats 4000000 in
theorem sdec_any (v : Value) (hv : Sl w w.heap.size v 11 (bs kSP)) : Calls Try.prog 18 #[v] w fun e w' => ∃ X g h, e = .returned (.tuple #[.pointer (some ⟨X, 0, none⟩), .int .i64 0]) ∧ SpInv w' w.heap.size X g h 4 kD [2] ∧ Below w.heap.size w w' := by
  have hsl8 : (Try.prog.info? 5).map (·.size) = some 1 := by kernel_rfl
  obtain ⟨A0, c, rfl, hc1, hc2⟩ := hv.form
  obtain ⟨b, o, rfl, hbl, hat⟩ := hv.at_ (by decide)
  have hcx : (11 : Int) ≤ (c : Int) := by omega
  have hcm : (c : Int) ≤ 9223372036854775807 := by unfold maxLen at hc2; omega
  have cG : Calls Try.prog 45 #[.slice (some ⟨b, o, none⟩) 11 c, .int .i64 0, .int .i64 2] w fun e w' => e = .returned (.tuple #[.int .u64 4, .bool true]) ∧ w = w' := get_b (.slice (some ⟨b, o, none⟩) 11 c) kSP 0 2 0 2 rfl rfl w hv (by decide) (by decide) (by decide) (by decide)
  have cN : Calls Try.prog 34 #[.int .i64 4] w fun e w' => ∃ X g h, e = .returned (.tuple #[.pointer (some ⟨X, 0, none⟩), .int .i64 0]) ∧ SpInv w' w.heap.size X g h 4 (List.replicate 32 0) [0] ∧ Below w.heap.size w w' := spnew_any 4 (by decide) (by decide) w
  have hcell : ∀ W, Below w.heap.size w W → ∀ j u, (bs kSP)[j]? = some u → W.cell? ⟨b, o + j, none⟩ = some u := fun W hW j u hu => (hW.cell (p := ⟨b, o + j, none⟩) hbl).trans (hat j u hu)
  clear hc1 hc2 hat
  go_enter Try.func18, Try.ntmps18
  go_upto_region 3 with (first
    | (go_at_call 45; (with_reducible refine cG.mono ?_); rintro e' w1 ⟨rfl, rfl⟩)
    | (go_at_call 34; (with_reducible refine cN.mono ?_); rintro e' w2 ⟨X, g, h, rfl, S2, b2⟩))
  have x1 : w2.cell? ⟨X, 1, none⟩ = some (.slice (some ⟨h, 0, none⟩) 1 1) := S2.mem.cell 1
  go_upto_region 5 with (fail)
  refine wp_region_any (by kernel_rfl) ?_
  change wpAny _ _ _ _ _ _ _ (World.drew _)
  refine wpAny_take (i := 0) (oi := { dst := some 38, op := Op.move (Operand.tmp 0), type := 22, pos := "space.go:98", after := #[], guard := none }) (v := (.slice (some ⟨b, o, none⟩) 11 c)) rfl (by kernel_rfl) (by kernel_rfl) (by kernel_rfl) (fun _ _ _ h => h) (Or.inl ⟨by rfl, by intro w; go_simp⟩) ?_
  try dsimp only [Act.put]
  try simp only [List.setIfInBounds_toArray, List.set_cons_succ, List.set_cons_zero]
  apply calm_tailI 7 [0] [.is (.slice (some ⟨b, o, none⟩) 11 c), .is _, .is _, .is _, .is _, .is _, .is (.slice (some ⟨b, o + 2, none⟩) 9 (c - 2))] [[], [], [1], [2], [3], [], [5]] (by kernel_rfl) (by kernel_rfl) rfl (by decide) (by intro i hi o ho; obtain rfl := List.mem_singleton.1 hi; obtain rfl := Option.some.inj ho; exact rfl)
  intro f a1 ha1
  simp only [List.take_succ_cons, List.take_zero, putL, Act.put, List.setIfInBounds_toArray, List.set_cons_succ, List.set_cons_zero] at ha1
  subst ha1
  refine ⟨?_, ?_⟩
  · refine AllCalm.cons (fun W hB hd => ?_) ?_
    · go_wp2_with (fail)
      exact CalmQ.mk rfl _ rfl (Below.refl _ _) rfl
    refine AllCalm.cons (fun W hB hd => ?_) ?_
    · go_wp2_with (fail)
      exact CalmQ.mk rfl _ rfl (Below.refl _ _) rfl
    refine AllCalm.cons (fun W hB hd => ?_) ?_
    · obtain ⟨h1, -⟩ := hd
      have h1 : f 1 = _ := h1
      rw [h1]
      go_wp2_with (fail)
      exact CalmQ.mk rfl _ rfl (Below.refl _ _) rfl
    refine AllCalm.cons (fun W hB hd => ?_) ?_
    · obtain ⟨h2, -⟩ := hd
      have h2 : f 2 = _ := h2
      rw [h2]
      go_wp2_with (fail)
      exact CalmQ.mk rfl _ rfl (Below.refl _ _) rfl
    refine AllCalm.cons (fun W hB hd => ?_) ?_
    · obtain ⟨h3, -⟩ := hd
      have h3 : f 3 = _ := h3
      rw [h3]
      have q0 : W.cell? ⟨X, 1, none⟩ = some (.slice (some ⟨h, 0, none⟩) 1 1) := (S2.below ((Below.refl _ w2).drew.trans hB)).mem.cell 1
      go_wp2_with (fail)
      exact CalmQ.mk rfl _ rfl (Below.refl _ _) rfl
    refine AllCalm.cons (fun W hB hd => ?_) ?_
    · go_wp2_with (fail)
      exact CalmQ.mk rfl _ rfl (Below.refl _ _) rfl
    refine AllCalm.cons (fun W hB hd => ?_) ?_
    · obtain ⟨h5, -⟩ := hd
      have h5 : f 5 = _ := h5
      rw [h5]
      go_wp2_with (fail)
      exact CalmQ.mk rfl _ rfl (Below.refl _ _) rfl
    exact AllCalm.nil
  · intro W hB hT
    obtain ⟨h0, h1, h2, h3, h4, h5, h6, -⟩ := hT
    have h0 : f 0 = _ := h0
    have h1 : f 1 = _ := h1
    have h2 : f 2 = _ := h2
    have h3 : f 3 = _ := h3
    have h4 : f 4 = _ := h4
    have h5 : f 5 = _ := h5
    have h6 : f 6 = _ := h6
    rw [h0, h1, h2, h3, h4, h5, h6]
    clear h0 h1 h2 h3 h4 h5 h6
    simp only [List.drop_succ_cons, List.drop_zero]
    have BV := (Below.refl _ w2).drew.trans hB
    have S3 := S2.below BV
    have B3 := b2.trans (BV.mono b2.size)
    have hc3 := hcell W B3
    have src2 : ∀ j u, (bs [2])[j]? = some u → W.cell? ((⟨b, o + 2, none⟩ : Addr).add j) = some u := fun j u hu => by
      have hj : j = 0 := by
        have := (List.getElem?_eq_some_iff.1 hu).1
        simp at this
        omega
      subst hj
      rw [add_plain]
      exact hc3 2 u hu
    go_upto_region 6 with (refine wpList_copy_keep rfl (.tmp 42) (.tmp 44) 95 22 rfl 5 Try.underlying95 hsl8 (some ⟨h, 0, none⟩) (some ⟨b, o + 2, none⟩) 1 1 9 (c - 2) rfl rfl h 0 (bs [0]) 5 S3.map (bs [2]) rfl (fun h0 => ⟨rfl, ⟨_, rfl, src2⟩⟩) (by decide) bs_one ?_; intro w3 hm3 hk3)
    have S4 : SpInv w3 w.heap.size X g h 4 (List.replicate 32 0) [2] := S3.mapTo hm3 hk3 rfl
    have E4 : Eff (fun q => q = h) W w3 := hk3.eff rfl
    have B4 : Below w.heap.size w w3 := E4.below B3 B3.size fun q _ e => e ▸ S3.bh
    have cBl := fun W (hW : Below w3.heap.size w3 W) => blocks_any (S4.below hW)
    have cBl : ∀ W, Below w3.heap.size w3 W → Calls Try.prog 33 #[.pointer (some ⟨X, 0, none⟩)] W fun e w' => e = .returned (.int .i64 4) ∧ W = w' := fun W hW => blocks_any (S4.below hW)
    have cNx : ∀ W, Below w3.heap.size w3 W → Calls Try.prog 46 #[.slice (some ⟨h, 0, none⟩) 1 1, .int .i64 4, .bool true] W fun e w' => e = .returned (.tuple #[.int .i64 0, .bool false]) ∧ W = w' := fun W hW => next_no (.slice (some ⟨h, 0, none⟩) 1 1) [2] 4 true W (by decide) (S4.below hW).slM (by decide) fun j h1 h2 => by rw [bit2]; exact decide_eq_false (by omega)
    generalize W = W0 at *
    refine wp_region_any (by kernel_rfl) ?_
    change wpAny _ _ _ _ _ _ _ (World.drew _)
    refine wpAny_take (i := 0) (oi := { dst := some 49, op := Op.move (Operand.tmp 6), type := 52, pos := "space.go:99", after := #[], guard := none }) (v := (.pointer (some ⟨X, 0, none⟩))) rfl (by kernel_rfl) (by kernel_rfl) (by kernel_rfl) (fun _ _ _ h => h) (Or.inl ⟨by rfl, by intro w; go_simp⟩) ?_
    try dsimp only [Act.put]
    try simp only [List.setIfInBounds_toArray, List.set_cons_succ, List.set_cons_zero]
    apply calm_tailK 11 [0] [.is (.pointer (some ⟨X, 0, none⟩)), .is _, .is _, .is _, .is _, .is _, .is _, .is _, .is _, .is _, .is _] [[], [0], [1], [2], [], [4], [3, 5, 5], [6], [7], [7], [8, 6, 0, 1, 2, 3, 4, 5, 6, 7, 8]] (by kernel_rfl) (by kernel_rfl) rfl (by decide) (by intro i hi o ho; obtain rfl := List.mem_singleton.1 hi; obtain rfl := Option.some.inj ho; exact rfl)
    intro f a1 ha1
    simp only [List.take_succ_cons, List.take_zero, putL, Act.put, List.setIfInBounds_toArray, List.set_cons_succ, List.set_cons_zero] at ha1
    subst ha1
    refine ⟨?_, ?_⟩
    · refine AllCalm.cons (fun W hB hd => ?_) ?_
      · go_wp2_with (fail)
        exact CalmQ.mk rfl _ rfl (Below.refl _ _) rfl
      refine AllCalm.cons (fun W hB hd => ?_) ?_
      · obtain ⟨h0, -⟩ := hd
        have h0 : f 0 = _ := h0
        rw [h0]
        go_wp2_with (fail)
        exact CalmQ.mk rfl _ rfl (Below.refl _ _) rfl
      refine AllCalm.cons (fun W hB hd => ?_) ?_
      · obtain ⟨h1, -⟩ := hd
        have h1 : f 1 = _ := h1
        rw [h1]
        go_wp2_with (fail)
        exact CalmQ.mk rfl _ rfl (Below.refl _ _) rfl
      refine AllCalm.cons (fun W hB hd => ?_) ?_
      · obtain ⟨h2, -⟩ := hd
        have h2 : f 2 = _ := h2
        rw [h2]
        have q0 : W.cell? ⟨X, 1, none⟩ = some (.slice (some ⟨h, 0, none⟩) 1 1) := (S4.below ((Below.refl _ w3).drew.trans hB)).mem.cell 1
        go_wp2_with (fail)
        exact CalmQ.mk rfl _ rfl (Below.refl _ _) rfl
      refine AllCalm.cons (fun W hB hd => ?_) ?_
      · go_wp2_with (fail)
        exact CalmQ.mk rfl _ rfl (Below.refl _ _) rfl
      refine AllCalm.cons (fun W hB hd => ?_) ?_
      · obtain ⟨h4, -⟩ := hd
        have h4 : f 4 = _ := h4
        rw [h4]
        have cW := cBl _ ((Below.refl _ w3).drew.trans hB)
        go_wp2_with ((go_at_call 33; (with_reducible refine cW.mono ?_); rintro e' w5 ⟨rfl, rfl⟩))
        exact CalmQ.mk rfl _ rfl (Below.refl _ _) rfl
      refine AllCalm.cons (fun W hB hd => ?_) ?_
      · obtain ⟨h3, h5, -, -⟩ := hd
        have h3 : f 3 = _ := h3
        have h5 : f 5 = _ := h5
        rw [h3, h5]
        have cW := cNx _ ((Below.refl _ w3).drew.trans hB)
        go_wp2_with ((go_at_call 46; (with_reducible refine cW.mono ?_); rintro e' w5 ⟨rfl, rfl⟩))
        exact CalmQ.mk rfl _ rfl (Below.refl _ _) rfl
      refine AllCalm.cons (fun W hB hd => ?_) ?_
      · obtain ⟨h6, -⟩ := hd
        have h6 : f 6 = _ := h6
        rw [h6]
        go_wp2_with (fail)
        exact CalmQ.mk rfl _ rfl (Below.refl _ _) rfl
      refine AllCalm.cons (fun W hB hd => ?_) ?_
      · obtain ⟨h7, -⟩ := hd
        have h7 : f 7 = _ := h7
        rw [h7]
        go_wp2_with (fail)
        exact CalmQ.mk rfl _ rfl (Below.refl _ _) rfl
      refine AllCalm.cons (fun W hB hd => ?_) ?_
      · obtain ⟨h7, -⟩ := hd
        have h7 : f 7 = _ := h7
        rw [h7]
        go_wp2_with (fail)
        exact CalmQ.mk rfl _ rfl (Below.refl _ _) rfl
      refine AllCalm.cons (fun W hB hd => ?_) ?_
      · obtain ⟨h8, h6, h0, h1, h2, h3, h4, h5, -, h7, -, -⟩ := hd
        have h8 : f 8 = _ := h8
        have h6 : f 6 = _ := h6
        have h0 : f 0 = _ := h0
        have h1 : f 1 = _ := h1
        have h2 : f 2 = _ := h2
        have h3 : f 3 = _ := h3
        have h4 : f 4 = _ := h4
        have h5 : f 5 = _ := h5
        have h7 : f 7 = _ := h7
        rw [h8, h6, h0, h1, h2, h3, h4, h5, h7]
        go_wp2_with (fail)
        exact CalmQ.mk rfl _ rfl (Below.refl _ _) rfl
      exact AllCalm.nil
    · intro W hB hT
      obtain ⟨h0, h1, h2, h3, h4, h5, h6, h7, h8, h9, h10, -⟩ := hT
      have h0 : f 0 = _ := h0
      have h1 : f 1 = _ := h1
      have h2 : f 2 = _ := h2
      have h3 : f 3 = _ := h3
      have h4 : f 4 = _ := h4
      have h5 : f 5 = _ := h5
      have h6 : f 6 = _ := h6
      have h7 : f 7 = _ := h7
      have h8 : f 8 = _ := h8
      have h9 : f 9 = _ := h9
      have h10 : f 10 = _ := h10
      rw [h0, h1, h2, h3, h4, h5, h6, h7, h8, h9, h10]
      clear h0 h1 h2 h3 h4 h5 h6 h7 h8 h9 h10
      simp only [List.drop_succ_cons, List.drop_zero]
      have BV := (Below.refl _ w3).drew.trans hB
      have S5 := S4.below BV
      have B5 := B4.trans (BV.mono B4.size)
      have x5 : W.cell? ⟨X, 1, none⟩ = some (.slice (some ⟨h, 0, none⟩) 1 1) := S5.mem.cell 1
      have cCt : Calls Try.prog 47 #[.slice (some ⟨h, 0, none⟩) 1 1] W fun e w' => e = .returned (.int .i64 1) ∧ W = w' := count_any (.slice (some ⟨h, 0, none⟩) 1 1) [2] W (by decide) S5.slM
      have cRu : Calls Try.prog 48 #[.slice (some ⟨h, 0, none⟩) 1 1] W fun e w' => ∃ G p, e = .returned (.slice (some ⟨G, 0, none⟩) 1 p) ∧ w'.ownsRow W.heap.size 101 2 (.slice (some ⟨G, 0, none⟩) 1 p) 1 [.int .i64 1, .int .i64 1] ∧ Below W.heap.size W w' := (runs_any (.slice (some ⟨h, 0, none⟩) 1 1) [2] W (by decide) S5.slM).mono fun e w' ⟨u, R, t, q1, q2, q3, q4, q5, q6⟩ => by
        obtain rfl := runs2_only q2 q3
        obtain ⟨G, p, rfl⟩ := own_at0 q4 (by decide)
        exact ⟨G, p, q1, q4, q6⟩
      clear cBl cNx cG cN
      go_wp2_with (first
        | (go_at_call 47; (with_reducible refine cCt.mono ?_); rintro e' w6 ⟨rfl, rfl⟩)
        | (go_at_call 48; (with_reducible refine cRu.mono ?_); rintro e' w7 ⟨G, p, rfl, o7, b7⟩; have x7 := own_cells o7 0 _ rfl; have x8 := own_cells o7 1 _ rfl))
      have S7 := S5.below b7
      have B7 := B5.trans (b7.mono B5.size)
      go_loopw [8, 76] (fun r x wr => (x = .int .i64 0 ∧ r = .slice (some ⟨b, o + 3, none⟩) 8 (c - 3) ∧ w7 = wr) ∨ (x = .int .i64 1 ∧ SpInv wr w.heap.size X g h 4 kD [2] ∧ Below w.heap.size w wr)) (fun _ x _ => 1 - (intOf x).toNat)
      case atStart => exact .inl ⟨rfl, by trivial, rfl⟩
      case round =>
        rcases hrel with ⟨rfl, rfl, rfl⟩ | ⟨rfl, SF, BF⟩
        · go_upto_region 12 with (fail)
          obtain ⟨wb, eb, mp, bb⟩ : ∃ wb, wb = w7.alloc (.cells #[.int .i64 1, .int .i64 1] 101) ∧ Mem wb w7.heap.size 101 #[.int .i64 1, .int .i64 1] ∧ Below w7.heap.size w7 wb := ⟨_, rfl, Mem.new w7 _ _, (Below.refl _ w7).alloc (Nat.le_refl _) _⟩
          rw [← eb]
          clear eb x7 x8
          have y0 := mp.cell 0
          have y1 := mp.cell 1
          have Sb := S7.below bb
          have Bb := B7.trans (bb.mono B7.size)
          have cBy : Calls Try.prog 49 #[.pointer (some ⟨X, 0, none⟩), .int .i64 1, .int .i64 1] wb fun e w' => ∃ q, e = .returned (.slice (some ⟨g, 8, none⟩) 8 q) ∧ wb = w' := (bytes_any 1 1 Sb (by decide)).mono fun e w' ⟨off, q, q1, q2, q3, q4, q5, q6⟩ => by
            obtain rfl : off = 8 := by omega
            exact ⟨q, q1, q6⟩
          have hc3 := hcell wb Bb
          have src3 : ∀ j u, (bs kL)[j]? = some u → wb.cell? ((⟨b, o + 3, none⟩ : Addr).add j) = some u := fun j u hu => by
            rw [add_plain, Nat.add_assoc]
            refine hc3 (3 + j) u ?_
            have e : bs kSP = bs [0, 4, 2] ++ bs kL := rfl
            rw [e, List.getElem?_append_right (by simp)]
            simpa using hu
          go_wp2_with (first
            | (go_at_call 49; (with_reducible refine cBy.mono ?_); rintro e' w8 ⟨q8, rfl, rfl⟩)
            | (refine wpList_copy_keep rfl (.tmp 85) (.tmp 86) 22 22 rfl 5 Try.underlying22 hsl8 (some ⟨g, 8, none⟩) (some ⟨b, o + 3, none⟩) 8 q8 8 (c - 3) rfl rfl g 8 (bs (List.replicate 32 0)) 5 Sb.data (bs kL) rfl (fun h0 => ⟨rfl, ⟨_, rfl, src3⟩⟩) (by decide) bs_one ?_; intro w9 hm9 hk9))
          all_goals
            have hm9' : Mem w9 g 5 (bs kD).toArray := hm9
            have S9 : SpInv w9 w.heap.size X g h 4 kD [2] := Sb.dataTo hm9' hk9 rfl
            have E9 : Eff (fun q => q = g) wb w9 := hk9.eff rfl
            have B9 : Below w.heap.size w w9 := E9.below Bb Bb.size fun q _ e => e ▸ Sb.bg
            exact ⟨.inr ⟨by trivial, S9, B9⟩, by simp [intOf]⟩
        · go_wp2
          go_ret2
          exact ⟨X, g, h, rfl, SF, BF⟩
end
end Un
end Go.Proofs.Ytpkebbibafldkaa
