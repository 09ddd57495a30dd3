/- Package lu: Once, again. Written by tools/gen-un7.py. -/
import Derived.Test.YtpkebbibafldkaaUn6
namespace Go.Proofs.Ytpkebbibafldkaa
open Go.ChangeShapes Go.WideShapes Go.ChangeAt Go.RowKit Go.Lib
set_option linter.unusedVariables false
set_option linter.unusedSimpArgs false
set_option maxRecDepth 100000
namespace Un
open Rv
section
variable {w w' : World} {B Z X g h Y N : Nat} {D D' M M' : List UInt8} {t t' : RT} {hs : List Value}
set_option maxHeartbeats 4000000 in
theorem once_again {tv : Value} {b0 : Nat} (hu : UnM w B Z X g h Y N D M t (hs0.set 2 tv)) (kd a n ck cn ct : Int) (v : Value) (cf : Bool) {s k c i : Int} {l : List UInt8} (hl : l.length ≤ 100000) (ht : Told w b0 tv s k c i l) (hb0 : b0 ≤ w.heap.size) : Calls Try.prog 15 #[.pointer (some ⟨Z, 0, none⟩), .int .i64 0, .int .u64 1, .int .u64 0, .agg #[.int .i64 kd, .int .i64 a, .int .i64 n, v, .int .u64 ck, .int .u64 cn, .int .i64 ct, .bool cf]] w fun e w' => ∃ v tv, e = .returned (.tuple #[v, .bool false]) ∧ Rep w' w.heap.size v s k c i l ∧ UnM w' B Z X g h Y N D M t (hs0.set 2 tv) ∧ Told w' b0 tv s k c i l ∧ Eff (fun q => q = Z) w w' := by
  obtain ⟨ik, hik, hkz0, hkz1, hkz2⟩ := info_parts info_kept
  obtain ⟨G, p, A, ca, rfl, hr, hd⟩ := ht
  have cH : ∀ W, Calls Try.prog 22 #[.int .i64 0] W fun e w' => e = .returned (.bool true) ∧ W = w' := fun W => isHost_any 0 W
  have cI : ∀ W G3 p3 A3 c3, W.ownsRow b0 86 6 (.slice (some ⟨G3, 0, none⟩) 1 p3) 1 [.int .u64 1, .int .i64 s, .int .i64 k, .int .i64 c, .slice A3 l.length c3, .int .i64 i] → Mem W w.heap.size 23 #[.int .u64 1] → Calls Try.prog 37 #[.slice (some ⟨G3, 0, none⟩) 1 p3, .func (.func 38) #[] #[.pointer (some ⟨w.heap.size, 0, none⟩)]] W fun e w' => e = .returned (.int .i64 0) ∧ Below W.heap.size W w' := fun W G3 p3 A3 c3 h1 h2 => ix_one 1 s k c i _ G3 p3 w.heap.size W b0 h1 h2
  obtain ⟨w4, e4, mi, mc, mr, mb, b4⟩ : ∃ w4, w4 = (((w.alloc (.cells #[.int .u64 1] 23)).alloc (.cells #[.int .i64 kd, .int .i64 a, .int .i64 n, v, .int .u64 ck, .int .u64 cn, .int .i64 ct, .bool cf] 25)).alloc (.cells #[.int .i64 0, .int .i64 0, .int .i64 0, .slice none 0 0, .int .i64 0] 36)).alloc (.cells #[.int .i64 8, .int .i64 0, .int .i64 0, .slice none 0 0, .int .i64 0] 36) ∧ Mem w4 w.heap.size 23 #[.int .u64 1] ∧ Mem w4 (w.heap.size + 1) 25 #[.int .i64 kd, .int .i64 a, .int .i64 n, v, .int .u64 ck, .int .u64 cn, .int .i64 ct, .bool cf] ∧ Mem w4 (w.heap.size + 1 + 1) 36 #[.int .i64 0, .int .i64 0, .int .i64 0, .slice none 0 0, .int .i64 0] ∧ Mem w4 (w.heap.size + 1 + 1 + 1) 36 #[.int .i64 8, .int .i64 0, .int .i64 0, .slice none 0 0, .int .i64 0] ∧ Below w.heap.size w w4 := by
    have m1 := Mem.new w 23 #[.int .u64 1]
    have b1 := (Below.refl _ w).alloc (Nat.le_refl _) (.cells #[.int .u64 1] 23)
    have z1 : (w.alloc (.cells #[.int .u64 1] 23)).heap.size = w.heap.size + 1 := World.size_alloc ..
    generalize w.alloc (.cells #[.int .u64 1] 23) = v1 at *
    have m2 := Mem.new v1 25 #[.int .i64 kd, .int .i64 a, .int .i64 n, v, .int .u64 ck, .int .u64 cn, .int .i64 ct, .bool cf]
    have b2 := (Below.refl _ v1).alloc (Nat.le_refl _) (.cells #[.int .i64 kd, .int .i64 a, .int .i64 n, v, .int .u64 ck, .int .u64 cn, .int .i64 ct, .bool cf] 25)
    have z2 : (v1.alloc (.cells #[.int .i64 kd, .int .i64 a, .int .i64 n, v, .int .u64 ck, .int .u64 cn, .int .i64 ct, .bool cf] 25)).heap.size = v1.heap.size + 1 := World.size_alloc ..
    generalize v1.alloc (.cells #[.int .i64 kd, .int .i64 a, .int .i64 n, v, .int .u64 ck, .int .u64 cn, .int .i64 ct, .bool cf] 25) = v2 at *
    have m3 := Mem.new v2 36 #[.int .i64 0, .int .i64 0, .int .i64 0, .slice none 0 0, .int .i64 0]
    have b3 := (Below.refl _ v2).alloc (Nat.le_refl _) (.cells #[.int .i64 0, .int .i64 0, .int .i64 0, .slice none 0 0, .int .i64 0] 36)
    have z3 : (v2.alloc (.cells #[.int .i64 0, .int .i64 0, .int .i64 0, .slice none 0 0, .int .i64 0] 36)).heap.size = v2.heap.size + 1 := World.size_alloc ..
    generalize v2.alloc (.cells #[.int .i64 0, .int .i64 0, .int .i64 0, .slice none 0 0, .int .i64 0] 36) = v3 at *
    have m4 := Mem.new v3 36 #[.int .i64 8, .int .i64 0, .int .i64 0, .slice none 0 0, .int .i64 0]
    have b4 := (Below.refl _ v3).alloc (Nat.le_refl _) (.cells #[.int .i64 8, .int .i64 0, .int .i64 0, .slice none 0 0, .int .i64 0] 36)
    have q2 : v1.heap.size = w.heap.size + 1 := z1
    have q3 : v2.heap.size = w.heap.size + 1 + 1 := by omega
    have q4 : v3.heap.size = w.heap.size + 1 + 1 + 1 := by omega
    rw [q2] at m2
    rw [q3] at m3
    rw [q4] at m4
    have B34 := b3.trans (b4.mono b3.size)
    have B24 := b2.trans (B34.mono b2.size)
    exact ⟨_, rfl, m1.below B24 m1.lt, m2.below B34 m2.lt, m3.below b4 m3.lt, m4, b1.trans (B24.mono b1.size)⟩
  have hu4 := hu.below b4
  have k0 := mi.cell 0
  have hZl := hu.mem.lt
  go_enter Try.func15, Try.ntmps15
  go_upto_region 2 with (fail)
  rw [← e4]
  clear e4
  go_upto_region 5 with (go_at_call 22; (with_reducible refine (cH _).mono ?_); rintro e' w3 ⟨rfl, rfl⟩)
  apply calm_region [.is _, .is _, .is _, .is _, .is _, .is _] [[], [], [1], [2], [3], [0, 4]] (by kernel_rfl) (by kernel_rfl) (by kernel_rfl) rfl
  intro f a1 ha1
  simp only [putL, Act.put, List.setIfInBounds_toArray, List.set_cons_succ, List.set_cons_zero] at ha1
  subst ha1
  refine ⟨?_, ?_⟩
  · refine AllCalm.cons (fun W hB hd => ?_) ?_
    · have q0 := (mi.below hB mi.lt).cell 0
      go_wp2_with (fail)
      exact CalmQ.mk rfl _ rfl (Below.refl _ _) rfl
    refine AllCalm.cons (fun W hB hd => ?_) ?_
    · go_wp2_with (fail)
      exact CalmQ.mk rfl _ rfl (Below.refl _ _) rfl
    refine AllCalm.cons (fun W hB hd => ?_) ?_
    · obtain ⟨h1, -⟩ := hd
      have h1 : f 1 = _ := h1
      rw [h1]
      go_wp2_with (fail)
      exact CalmQ.mk rfl _ rfl (Below.refl _ _) rfl
    refine AllCalm.cons (fun W hB hd => ?_) ?_
    · obtain ⟨h2, -⟩ := hd
      have h2 : f 2 = _ := h2
      rw [h2]
      go_wp2_with (fail)
      exact CalmQ.mk rfl _ rfl (Below.refl _ _) rfl
    refine AllCalm.cons (fun W hB hd => ?_) ?_
    · obtain ⟨h3, -⟩ := hd
      have h3 : f 3 = _ := h3
      rw [h3]
      have q0 : W.cell? ⟨Z, 3, none⟩ = some (.int .u64 0) := (hu4.below hB).ch 1
      go_wp2_with (fail)
      exact CalmQ.mk rfl _ rfl (Below.refl _ _) rfl
    refine AllCalm.cons (fun W hB hd => ?_) ?_
    · obtain ⟨h0, h4, -⟩ := hd
      have h0 : f 0 = _ := h0
      have h4 : f 4 = _ := h4
      rw [h0, h4]
      go_wp2_with (fail)
      exact CalmQ.mk rfl _ rfl (Below.refl _ _) rfl
    exact AllCalm.nil
  · intro W hB hT
    obtain ⟨h0, h1, h2, h3, h4, h5, -⟩ := hT
    have h0 : f 0 = _ := h0
    have h1 : f 1 = _ := h1
    have h2 : f 2 = _ := h2
    have h3 : f 3 = _ := h3
    have h4 : f 4 = _ := h4
    have h5 : f 5 = _ := h5
    rw [h0, h1, h2, h3, h4, h5]
    clear h0 h1 h2 h3 h4 h5
    have hu5 := hu4.below hB
    have B5 := b4.trans (hB.mono b4.size)
    have mi5 := mi.below hB mi.lt
    have mc5 := mc.below hB mc.lt
    have mr5 := mr.below hB mr.lt
    generalize W = W5 at *
    go_upto_region 7 with (fail)
    apply calm_tail 8 [.is _, .is _, .is _, .is _, .is _, .is _, .is (.int .u64 0), .is (.int .u64 0)] [[], [0], [1], [2], [], [], [4, 5], [3, 6]] (by kernel_rfl) (by kernel_rfl) (by kernel_rfl) rfl
    intro f a1 ha1
    simp only [List.take_succ_cons, List.take_zero, putL, Act.put, List.setIfInBounds_toArray, List.set_cons_succ, List.set_cons_zero] at ha1
    subst ha1
    refine ⟨?_, ?_⟩
    · refine AllCalm.cons (fun W hB hd => ?_) ?_
      · go_wp2_with (fail)
        exact CalmQ.mk rfl _ rfl (Below.refl _ _) rfl
      refine AllCalm.cons (fun W hB hd => ?_) ?_
      · obtain ⟨h0, -⟩ := hd
        have h0 : f 0 = _ := h0
        rw [h0]
        go_wp2_with (fail)
        exact CalmQ.mk rfl _ rfl (Below.refl _ _) rfl
      refine AllCalm.cons (fun W hB hd => ?_) ?_
      · obtain ⟨h1, -⟩ := hd
        have h1 : f 1 = _ := h1
        rw [h1]
        go_wp2_with (fail)
        exact CalmQ.mk rfl _ rfl (Below.refl _ _) rfl
      refine AllCalm.cons (fun W hB hd => ?_) ?_
      · obtain ⟨h2, -⟩ := hd
        have h2 : f 2 = _ := h2
        rw [h2]
        have q0 : W.cell? ⟨Z, 3, none⟩ = some (.int .u64 0) := (hu5.below hB).ch 1
        go_wp2_with (fail)
        exact CalmQ.mk rfl _ rfl (Below.refl _ _) rfl
      refine AllCalm.cons (fun W hB hd => ?_) ?_
      · go_wp2_with (fail)
        exact CalmQ.mk rfl _ rfl (Below.refl _ _) rfl
      refine AllCalm.cons (fun W hB hd => ?_) ?_
      · have q0 := (mi5.below hB mi5.lt).cell 0
        go_wp2_with (fail)
        exact CalmQ.mk rfl _ rfl (Below.refl _ _) rfl
      refine AllCalm.cons (fun W hB hd => ?_) ?_
      · obtain ⟨h4, h5, -⟩ := hd
        have h4 : f 4 = _ := h4
        have h5 : f 5 = _ := h5
        rw [h4, h5]
        go_wp2_with (fail)
        exact CalmQ.mk rfl _ rfl (Below.refl _ _) rfl
      refine AllCalm.cons (fun W hB hd => ?_) ?_
      · obtain ⟨h3, h6, -⟩ := hd
        have h3 : f 3 = _ := h3
        have h6 : f 6 = _ := h6
        rw [h3, h6]
        go_wp2_with (fail)
        exact CalmQ.mk rfl _ rfl (Below.refl _ _) rfl
      exact AllCalm.nil
    · intro W hB hT
      obtain ⟨h0, h1, h2, h3, h4, h5, h6, h7, -⟩ := hT
      have h0 : f 0 = _ := h0
      have h1 : f 1 = _ := h1
      have h2 : f 2 = _ := h2
      have h3 : f 3 = _ := h3
      have h4 : f 4 = _ := h4
      have h5 : f 5 = _ := h5
      have h6 : f 6 = _ := h6
      have h7 : f 7 = _ := h7
      rw [h0, h1, h2, h3, h4, h5, h6, h7]
      clear h0 h1 h2 h3 h4 h5 h6 h7
      simp only [List.drop_succ_cons, List.drop_zero]
      have hu7 := hu5.below hB
      have B7 := B5.trans (hB.mono B5.size)
      have mi7 := mi5.below hB mi5.lt
      have mc7 := mc5.below hB mc5.lt
      have mr7 := mr5.below hB mr5.lt
      generalize W = W7 at *
      have z4 : W7.cell? ⟨Z, 4, none⟩ = some (.slice (some ⟨G, 0, none⟩) 1 p) := hu7.ch 2
      have hr7 := owns_below hr B7
      have hd7 := owns_below hd B7
      go_wp2
      go_loopw [14, 52] (fun y x wr => (y = .slice none 0 0 ∧ x = .int .i64 0 ∧ W7 = wr) ∨ (x = .int .i64 1 ∧ Told wr b0 y s k c i l ∧ Below W7.heap.size W7 wr)) (fun _ x _ => 1 - (intOf x).toNat)
      case atStart => exact .inl ⟨rfl, rfl, rfl⟩
      case round =>
        rcases hrel with ⟨rfl, rfl, rfl⟩ | ⟨rfl, ⟨G3, p3, A3, c3, rfl, r3, d3⟩, hB3⟩
        · have x0 := own_cells hr7 0 _ rfl
          have x1 := own_cells hr7 1 _ rfl
          have x2 := own_cells hr7 2 _ rfl
          have x3 := own_cells hr7 3 _ rfl
          have x4 := own_cells hr7 4 _ rfl
          have x5 := own_cells hr7 5 _ rfl
          go_upto_region 12 with (fail)
          obtain ⟨wb, eb, mk, bb⟩ : ∃ wb, wb = W7.alloc (.cells #[.int .u64 1, .int .i64 s, .int .i64 k, .int .i64 c, .slice A l.length ca, .int .i64 i] 86) ∧ Mem wb W7.heap.size 86 #[.int .u64 1, .int .i64 s, .int .i64 k, .int .i64 c, .slice A l.length ca, .int .i64 i] ∧ Below W7.heap.size W7 wb := ⟨_, rfl, Mem.new W7 _ _, (Below.refl _ W7).alloc (Nat.le_refl _) _⟩
          rw [← eb]
          clear eb x0 x1 x2 x3 x4 x5
          have y0 := mk.cell 0
          have hbase : w.heap.size ≤ wb.heap.size := Nat.le_trans B7.size bb.size
          have rb := row_kept wb (.int .u64 1) (.int .i64 s) (.int .i64 k) (.int .i64 c) (.slice A l.length ca) (.int .i64 i) w.heap.size hbase
          have bc := (Below.refl _ wb).alloc (Nat.le_refl _) (.cells #[.int .u64 1, .int .i64 s, .int .i64 k, .int .i64 c, .slice A l.length ca, .int .i64 i] 86)
          have hbase2 : w.heap.size ≤ (wb.alloc (.cells #[.int .u64 1, .int .i64 s, .int .i64 k, .int .i64 c, .slice A l.length ca, .int .i64 i] 86)).heap.size := Nat.le_trans hbase bc.size
          have hc8 : ∀ j u, ([.int .u64 1, .int .i64 s, .int .i64 k, .int .i64 c, .slice A l.length ca, .int .i64 i] : List Value)[j]? = some u → (wb.alloc (.cells #[.int .u64 1, .int .i64 s, .int .i64 k, .int .i64 c, .slice A l.length ca, .int .i64 i] 86)).cell? ((⟨wb.heap.size, 0, none⟩ : Addr).add j) = some u := fun j u hu => (rcell_any rb).1 _ rfl j u hu
          go_wp2_with (first
            | (refine wpList_load_row rfl 86 (.tmp 16) rfl W7.heap.size rfl 86 #[.int .u64 1, .int .i64 s, .int .i64 k, .int .i64 c, .slice A l.length ca, .int .i64 i] (0, 0) _ mk Try.underlying86 rfl (by kernel_rfl) ?_)
            | (at_builtin; (refine wpList_append_at _ rfl (.tmp 60) (.tmp 62) 58 rfl w.heap.size 86 ik _ 6 64 Try.underlying58 hik hkz0 hkz1 hkz2 rfl (by decide) (.slice none 0 0) 0 [] rfl (World.ownsRow_nil _ _ _ _) ⟨wb.heap.size, 0, none⟩ 1 1 [.int .u64 1, .int .i64 s, .int .i64 k, .int .i64 c, .slice A l.length ca, .int .i64 i] rfl rfl hc8 (one_cells _ _ _ _ _ _ _ _) (by decide) (by decide) hbase2 ?_); intro v3 w3 ho3 hg3 hat3; have b3 := (Below.refl _ _).grown hg3 (Nat.le_refl _) (fun k hk => (by cases hk)); have ho3' : w3.ownsRow w.heap.size 86 6 v3 1 [.int .u64 1, .int .i64 s, .int .i64 k, .int .i64 c, .slice A l.length ca, .int .i64 i] := (by simpa using ho3); obtain ⟨G3, p3, rfl⟩ := own_at0 ho3' (by decide)))
          have Bc : Below W7.heap.size W7 w3 := bb.trans ((bc.trans (b3.mono bc.size)).mono bb.size)
          exact ⟨.inr ⟨by trivial, ⟨G3, p3, A, ca, rfl, owns_mono ho3' hb0, owns_below hd7 Bc⟩, Bc⟩, by simp [intOf]⟩
        · have BW := B7.trans (hB3.mono B7.size)
          have miW := mi7.below hB3 mi7.lt
          have cI3 := cI _ _ _ _ _ r3 miW
          go_upto_region 17 with (go_at_call 37; (with_reducible refine cI3.mono ?_); rintro e' w5 ⟨rfl, b5⟩)
          have B5' := BW.trans (b5.mono BW.size)
          have uW := (hu7.below hB3).below b5
          have mrW := (mr7.below hB3 mr7.lt).below b5 (mr7.below hB3 mr7.lt).lt
          have f3 := uW.mem.free 3
          have k3 : w5.cell? ⟨Z, 3, none⟩ = some (.int .u64 0) := uW.ch 1
          have mZ := uW.mem.put 3 (.int .u64 0)
          have f4 := mZ.free 4
          have k4 : (w5.setCell ⟨Z, 3, none⟩ (.int .u64 0)).cell? ⟨Z, 4, none⟩ = some (.slice (some ⟨G, 0, none⟩) 1 p) := mZ.cell 4
          have EZ : Eff (fun q => q = Z) w5 ((w5.setCell ⟨Z, 3, none⟩ (.int .u64 0)).setCell ⟨Z, 4, none⟩ (.slice (some ⟨G3, 0, none⟩) 1 p3)) := Eff.setCell (S := fun q => q = Z) (Eff.setCell (S := fun q => q = Z) (Eff.refl _ _) (p := ⟨Z, 3, none⟩) rfl _) (p := ⟨Z, 4, none⟩) rfl _
          have hzW := B5'.size
          go_upto_region 18 with (fail)
          obtain ⟨wa, ea, ua, ma, ra, da, Ea⟩ : ∃ wa, wa = (w5.setCell ⟨Z, 3, none⟩ (.int .u64 0)).setCell ⟨Z, 4, none⟩ (.slice (some ⟨G3, 0, none⟩) 1 p3) ∧ UnM wa B Z X g h Y N D M t (hs0.set 2 (.slice (some ⟨G3, 0, none⟩) 1 p3)) ∧ Mem wa (w.heap.size + 1 + 1) 36 #[.int .i64 0, .int .i64 0, .int .i64 0, .slice none 0 0, .int .i64 0] ∧ wa.ownsRow b0 86 6 (.slice (some ⟨G3, 0, none⟩) 1 p3) 1 [.int .u64 1, .int .i64 s, .int .i64 k, .int .i64 c, .slice A3 l.length c3, .int .i64 i] ∧ wa.ownsRow b0 5 1 (.slice A3 l.length c3) l.length (bs l) ∧ Eff (fun q => q = Z) w wa := ⟨_, rfl, uW.hosts (mZ.put 4 (.slice (some ⟨G3, 0, none⟩) 1 p3)) rfl EZ, mrW.eff EZ (fun e => by omega), owns_eff (owns_below r3 b5) EZ fun q hq e => (own_tag (owns_below r3 b5) q hq).2.2.ne (mem_tag uW.mem) (by decide) e, owns_eff (owns_below d3 b5) EZ fun q hq e => (own_tag (owns_below d3 b5) q hq).2.2.ne (mem_tag uW.mem) (by decide) e, (Eff.of (S := fun q => q = Z) B5').trans EZ fun _ _ h => h⟩
          rw [← ea]
          clear ea EZ f3 k3 f4 k4 mZ uW cI3 cI cH
          have x1 := own_cells ra 1 _ rfl
          have x2 := own_cells ra 2 _ rfl
          have x3 := own_cells ra 3 _ rfl
          have x4 := own_cells ra 4 _ rfl
          have x5 := own_cells ra 5 _ rfl
          have cC := clone_any s k c i (.slice A3 l.length c3) l hl wa (Sl.of_own da)
          have hza := Ea.size
          go_wp2_with (first
            | (go_at_call 39; (with_reducible refine cC.mono ?_); rintro e' w6 ⟨A6, c6, rfl, o6, b6⟩; have m6 := ma.below b6 ma.lt)
            | (refine wpList_store_row rfl 36 (.tmp 10) (.tmp 83) rfl (w.heap.size + 1 + 1) #[.int .i64 s, .int .i64 k, .int .i64 c, .slice A6 l.length c6, .int .i64 i] rfl rfl 36 #[.int .i64 0, .int .i64 0, .int .i64 0, .slice none 0 0, .int .i64 0] m6 (by kernel_rfl) (by kernel_rfl) (by kernel_rfl) ?_))
          try rw [Exit.noGoto_ret]
          have EF := eff_setRow w6 (w.heap.size + 1 + 1) #[.int .i64 s, .int .i64 k, .int .i64 c, .slice A6 l.length c6, .int .i64 i]
          refine bodyPost_ret (v := .tuple #[.agg #[.int .i64 s, .int .i64 k, .int .i64 c, .slice A6 l.length c6, .int .i64 i], .bool false]) ?_ rfl ⟨_, _, rfl, ⟨A6, c6, rfl, owns_mono (owns_eff o6 EF fun q hq e => (own_tag o6 q hq).2.2.ne (mem_tag m6) (by decide) e) hza⟩, UnM.box (ua.below b6) (mem_tag m6) (by decide) (by decide) (by decide) (by decide) EF, Told.box ⟨G3, p3, A3, c3, rfl, owns_below ra b6, owns_below da b6⟩ (mem_tag m6) (by decide) (by decide) EF, (Ea.trans (Eff.of (S := fun q => q = Z) b6) fun _ _ h => h).trans EF fun q hq e => absurd hq (by omega)⟩
          exact (results_cell2 (p := 10) (a := 11) (ty := 36) rfl _ _ (w.heap.size + 1 + 1) 36 _ (0, 0) _ rfl (m6.row #[.int .i64 s, .int .i64 k, .int .i64 c, .slice A6 l.length c6, .int .i64 i]) Try.underlying36 rfl (by kernel_rfl)).trans rfl
end
end Un
end Go.Proofs.Ytpkebbibafldkaa
