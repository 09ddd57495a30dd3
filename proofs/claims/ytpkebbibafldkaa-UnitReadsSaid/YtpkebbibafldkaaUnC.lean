/- Package resv: Decode of the bytes of nobody. -/
import Derived.Test.YtpkebbibafldkaaUn8
import Derived.Deep.RegionLaw
namespace Go.Proofs.Ytpkebbibafldkaa
open Go.ChangeShapes Go.WideShapes Go.ChangeAt Go.RowKit Go.Lib
set_option linter.unusedVariables false
set_option linter.unusedSimpArgs false
set_option maxRecDepth 100000
namespace Un
open Rv
section
variable {w w' : World}
theorem zero_key (Y j : Nat) (W : World) (h : TabM W Y RT.zero) (hj : j < 8) : TabM (W.setCell ⟨Y, j, none⟩ (.int .u64 0)) Y RT.zero := by
  have q := h.setKey j 0 hj
  have e : ({ RT.zero with keys := RT.zero.keys.set j 0 } : RT) = RT.zero := by
    have : j = 0 ∨ j = 1 ∨ j = 2 ∨ j = 3 ∨ j = 4 ∨ j = 5 ∨ j = 6 ∨ j = 7 := by omega
    rcases this with rfl | rfl | rfl | rfl | rfl | rfl | rfl | rfl <;> rfl
  rw [e] at q
  exact q
theorem tab_get (j : Nat) (hj : j < 8) : beVal ((tabB.drop (4 + 8 * j)).take 8) = 0 := by
  have : j = 0 ∨ j = 1 ∨ j = 2 ∨ j = 3 ∨ j = 4 ∨ j = 5 ∨ j = 6 ∨ j = 7 := by omega
  rcases this with rfl | rfl | rfl | rfl | rfl | rfl | rfl | rfl <;> decide +kernel
set_option maxHeartbeats 4000000 in
theorem rdec_any (v : Value) (hv : Sl w w.heap.size v 70 (bs tabB)) : Calls Try.prog 20 #[v] w fun e w' => ∃ Y, e = .returned (.tuple #[.pointer (some ⟨Y, 0, none⟩), .int .i64 0]) ∧ TabM w' Y RT.zero ∧ w.heap.size ≤ Y ∧ Below w.heap.size w w' := by
  obtain ⟨A0, c, rfl, hc1, hc2⟩ := hv.form
  obtain ⟨b, o, rfl, hbl, hat⟩ := hv.at_ (by decide)
  have hcell : ∀ W, Below w.heap.size w W → ∀ j u, (bs tabB)[j]? = some u → W.cell? ⟨b, o + j, none⟩ = some u := fun W hW j u hu => (hW.cell (p := ⟨b, o + j, none⟩) hbl).trans (hat j u hu)
  have cN := Rv.new_any w
  have cG0 : ∀ W, Below w.heap.size w W → Calls Try.prog 45 #[.slice (some ⟨b, o, none⟩) 70 c, .int .i64 0, .int .i64 4] W fun e w' => e = .returned (.tuple #[.int .u64 0, .bool true]) ∧ W = w' := fun W hW => get_b (.slice (some ⟨b, o, none⟩) 70 c) tabB 0 4 0 4 rfl rfl W (hv.now hW) (by decide) (by decide) (by decide) (by decide)
  have cG : ∀ (W : World) (j : Nat), j < 8 → Below w.heap.size w W → Calls Try.prog 45 #[.slice (some ⟨b, o, none⟩) 70 c, .int .i64 (4 + 8 * (j : Int)), .int .i64 8] W fun e w' => e = .returned (.tuple #[.int .u64 0, .bool true]) ∧ W = w' := fun W j hj hW => by
    have q := get_b (.slice (some ⟨b, o, none⟩) 70 c) tabB (4 + 8 * (j : Int)) 8 (4 + 8 * j) 8 (by omega) rfl W (hv.now hW) (by decide) (by omega) (by decide) (by show _ ≤ 70; omega)
    rw [tab_get j hj] at q
    exact q
  clear hc1 hc2 hat
  go_enter Try.func20, Try.ntmps20
  go_upto_region 4 with (go_at_call 35; (with_reducible refine cN.mono ?_); rintro e' w2 ⟨Y, rfl, hY, T2, b2⟩)
  have cG2 := cG0 w2 b2
  have f10 := T2.mem.free 10
  have k10 := T2.c10
  have T3 : TabM (w2.setCell ⟨Y, 10, none⟩ (.int .u32 0)) Y RT.zero := T2.setGen 0
  have E3 : Eff (fun q => q = Y) w2 (w2.setCell ⟨Y, 10, none⟩ (.int .u32 0)) := Eff.setCell (S := fun q => q = Y) (Eff.refl _ _) (p := ⟨Y, 10, none⟩) rfl _
  have B3 : Below w.heap.size w (w2.setCell ⟨Y, 10, none⟩ (.int .u32 0)) := E3.below b2 b2.size fun q _ e => e ▸ hY
  go_upto_region 6 with (go_at_call 45; (with_reducible refine cG2.mono ?_); rintro e' w1 ⟨rfl, rfl⟩)
  generalize w2.setCell ⟨Y, 10, none⟩ (.int .u32 0) = w3 at *
  clear f10 k10 cG2 E3
  go_wp2
  go_loopw [24] (fun x wr => ∃ j : Nat, x = .int .i64 (j : Nat) ∧ j ≤ 8 ∧ TabM wr Y RT.zero ∧ Below w.heap.size w wr) (fun x _ => 8 - (intOf x).toNat)
  case atStart => exact ⟨0, rfl, by omega, T3, B3⟩
  case round =>
    obtain ⟨j, rfl, hj, TJ, BJ⟩ := hrel
    generalize wr = wo at *
    by_cases hj8 : j < 8
    · have hjx : (j : Int) < 8 := by omega
      have cGj := cG wo.drew j hj8 BJ.drew
      have kj : wo.drew.cell? ⟨Y, j, none⟩ = some (.int .u64 ((RT.zero.keys[j]?.getD 0 : Nat) : Int)) := TJ.key j hj8
      have fj : wo.drew.frozen? ⟨Y, j, none⟩ = false := TJ.mem.free j
      have TJd : TabM wo.drew Y RT.zero := TJ.below ((Below.refl _ wo).drew)
      have TN : TabM (wo.drew.setCell ⟨Y, j, none⟩ (.int .u64 0)) Y RT.zero := zero_key Y j wo.drew TJd hj8
      have EN : Eff (fun q => q = Y) wo.drew (wo.drew.setCell ⟨Y, j, none⟩ (.int .u64 0)) := Eff.setCell (S := fun q => q = Y) (Eff.refl _ _) (p := ⟨Y, j, none⟩) rfl _
      have BN : Below w.heap.size w (wo.drew.setCell ⟨Y, j, none⟩ (.int .u64 0)) := EN.below BJ.drew BJ.drew.size fun q _ e => e ▸ hY
      have HJ := Lib.hid hj8
      clear hj
      have hw1 : IntKind.i64.wrap (8 * (j : Int)) = 8 * (j : Int) := IntWalk.i64_in _ (by omega)
      have hw2 : IntKind.i64.wrap (4 + 8 * (j : Int)) = 4 + 8 * (j : Int) := IntWalk.i64_in _ (by omega)
      go_upto_region 9 with (fail)
      go_region_law (rw [if_pos (by rfl)]; go_simp; go_at_call 45; (with_reducible refine cGj.mono ?_); rintro e' w5 ⟨rfl, rfl⟩; dsimp only)
      all_goals
        go_wp2
        exact ⟨⟨j + 1, by simp, HJ.out, TN, BN⟩, by have := HJ.out; simp [intOf]; omega⟩
    · obtain rfl : j = 8 := by omega
      have x68 := hcell wo BJ 68 (.int .u8 255) rfl
      have x69 := hcell wo BJ 69 (.int .u8 0) rfl
      have hc3 := hcell
      clear cG cG0
      go_upto_region 11 with (fail)
      refine wp_region_any (by kernel_rfl) ?_
      change wpAny _ _ _ _ _ _ _ (World.drew _)
      refine wpAny_take (i := 0) (oi := { dst := some 41, op := Op.move (Operand.tmp 0), type := 22, pos := "resv.go:235", after := #[], guard := none }) (v := (.slice (some ⟨b, o, none⟩) 70 c)) rfl (by kernel_rfl) (by kernel_rfl) (by kernel_rfl) (fun _ _ _ h => h) (Or.inl ⟨by rfl, by intro w; go_simp⟩) ?_
      try dsimp only [Act.put]
      try simp only [List.setIfInBounds_toArray, List.set_cons_succ, List.set_cons_zero]
      apply calm_tailK 9 [0] [.is (.slice (some ⟨b, o, none⟩) 70 c), .is _, .is _, .is _, .is _, .is _, .is _, .is _, .is _] [[], [0], [1], [2], [], [4], [5], [6], [3, 0, 1, 2, 3]] (by kernel_rfl) (by kernel_rfl) rfl (by decide) (by intro i hi o ho; obtain rfl := List.mem_singleton.1 hi; obtain rfl := Option.some.inj ho; exact rfl)
      intro f a1 ha1
      simp only [List.take_succ_cons, List.take_zero, putL, Act.put, List.setIfInBounds_toArray, List.set_cons_succ, List.set_cons_zero] at ha1
      subst ha1
      refine ⟨?_, ?_⟩
      · refine AllCalm.cons (fun W hB hd => ?_) ?_
        · go_wp2_with (fail)
          exact CalmQ.mk rfl _ rfl (Below.refl _ _) rfl
        refine AllCalm.cons (fun W hB hd => ?_) ?_
        · obtain ⟨h0, -⟩ := hd
          have h0 : f 0 = _ := h0
          rw [h0]
          go_wp2_with (fail)
          exact CalmQ.mk rfl _ rfl (Below.refl _ _) rfl
        refine AllCalm.cons (fun W hB hd => ?_) ?_
        · obtain ⟨h1, -⟩ := hd
          have h1 : f 1 = _ := h1
          rw [h1]
          have q0 := hcell W (BJ.trans (((Below.refl _ wo).drew.trans hB).mono BJ.size)) 68 (.int .u8 255) rfl
          go_wp2_with (fail)
          exact CalmQ.mk rfl _ rfl (Below.refl _ _) rfl
        refine AllCalm.cons (fun W hB hd => ?_) ?_
        · obtain ⟨h2, -⟩ := hd
          have h2 : f 2 = _ := h2
          rw [h2]
          go_wp2_with (fail)
          exact CalmQ.mk rfl _ rfl (Below.refl _ _) rfl
        refine AllCalm.cons (fun W hB hd => ?_) ?_
        · go_wp2_with (fail)
          exact CalmQ.mk rfl _ rfl (Below.refl _ _) rfl
        refine AllCalm.cons (fun W hB hd => ?_) ?_
        · obtain ⟨h4, -⟩ := hd
          have h4 : f 4 = _ := h4
          rw [h4]
          go_wp2_with (fail)
          exact CalmQ.mk rfl _ rfl (Below.refl _ _) rfl
        refine AllCalm.cons (fun W hB hd => ?_) ?_
        · obtain ⟨h5, -⟩ := hd
          have h5 : f 5 = _ := h5
          rw [h5]
          have q0 := hcell W (BJ.trans (((Below.refl _ wo).drew.trans hB).mono BJ.size)) 69 (.int .u8 0) rfl
          go_wp2_with (fail)
          exact CalmQ.mk rfl _ rfl (Below.refl _ _) rfl
        refine AllCalm.cons (fun W hB hd => ?_) ?_
        · obtain ⟨h6, -⟩ := hd
          have h6 : f 6 = _ := h6
          rw [h6]
          go_wp2_with (fail)
          exact CalmQ.mk rfl _ rfl (Below.refl _ _) rfl
        refine AllCalm.cons (fun W hB hd => ?_) ?_
        · obtain ⟨h3, h0, h1, h2, -, -⟩ := hd
          have h3 : f 3 = _ := h3
          have h0 : f 0 = _ := h0
          have h1 : f 1 = _ := h1
          have h2 : f 2 = _ := h2
          rw [h3, h0, h1, h2]
          go_wp2_with (fail)
          exact CalmQ.mk rfl _ rfl (Below.refl _ _) rfl
        exact AllCalm.nil
      · intro W hB hT
        obtain ⟨h0, h1, h2, h3, h4, h5, h6, h7, h8, -⟩ := hT
        have h0 : f 0 = _ := h0
        have h1 : f 1 = _ := h1
        have h2 : f 2 = _ := h2
        have h3 : f 3 = _ := h3
        have h4 : f 4 = _ := h4
        have h5 : f 5 = _ := h5
        have h6 : f 6 = _ := h6
        have h7 : f 7 = _ := h7
        have h8 : f 8 = _ := h8
        rw [h0, h1, h2, h3, h4, h5, h6, h7, h8]
        clear h0 h1 h2 h3 h4 h5 h6 h7 h8
        simp only [List.drop_succ_cons, List.drop_zero]
        have BV := (Below.refl _ wo).drew.trans hB
        go_wp2
        go_ret2
        exact ⟨Y, rfl, TJ.below BV, hY, BJ.trans (BV.mono BJ.size)⟩
end
end Un
end Go.Proofs.Ytpkebbibafldkaa
