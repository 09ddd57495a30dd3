/- Package lu: Do of a command of blocks, of a host for whom nothing waits. Written by tools/gen-un4.py. -/
import Derived.Test.YtflodljccloobaaUn3
namespace Go.Proofs.Ytflodljccloobaa
open Go.ChangeShapes Go.WideShapes Go.ChangeAt Go.RowKit Go.Lib
set_option linter.unusedVariables false
set_option linter.unusedSimpArgs false
set_option maxRecDepth 100000
namespace Un
open Rv
section
variable {w w' : World} {B Z X g h Y N : Nat} {D D' M M' : List UInt8} {t t' : RT} {hs : List Value}
/-- What onBlocks tells of a command. -/
def OnB (w : World) (B Z X g h Y N : Nat) (t : RT) (hs : List Value) (cm : Array Value) (s k c i : Int) (l D' : List UInt8) (QM : List UInt8 → Prop) : Prop := ∀ W, Below w.heap.size w W → Calls Try.prog 23 #[.pointer (some ⟨Z, 0, none⟩), .agg cm] W fun e w' => ∃ v M', e = .returned v ∧ Rep w' W.heap.size v s k c i l ∧ QM M' ∧ UnM w' B Z X g h Y N D' M' t hs ∧ Eff (SpS g h) W w'
theorem UnM.box {G T : Nat} (hu : UnM w B Z X g h Y N D M t hs) (hT : Tag w G T) (h1 : T ≠ 72) (h2 : T ≠ 90) (h3 : T ≠ 94) (h4 : T ≠ 5) (he : Eff (fun q => q = G) w w') : UnM w' B Z X g h Y N D M t hs :=
  ⟨hu.mem.eff he fun e => (mem_tag hu.mem).ne hT h1.symm e, hu.len, SpInv.eff hu.sp he (fun e => (mem_tag hu.sp.mem).ne hT h2.symm e) (fun e => (mem_tag hu.sp.data).ne hT h4.symm e) (fun e => (mem_tag hu.sp.map).ne hT h4.symm e), ⟨hu.tab.mem.eff he fun e => (mem_tag hu.tab.mem).ne hT h3.symm e, hu.tab.len⟩, hu.bZ, hu.bY⟩
theorem Rep.box {v : Value} {s k c i : Int} {l : List UInt8} {b G T : Nat} (hr : Rep w b v s k c i l) (hT : Tag w G T) (h4 : T ≠ 5) (he : Eff (fun q => q = G) w w') : Rep w' b v s k c i l := by
  obtain ⟨A, cap, h1, h2⟩ := hr
  exact ⟨A, cap, h1, owns_eff h2 he fun q hq e => (own_tag h2 q hq).2.2.ne hT h4.symm e⟩
set_option maxHeartbeats 4000000 in
theorem do_blk1 (hu : UnM w B Z X g h Y N D M t hs) (H : Nat) (hH : H < 8) {A : Option Addr} {c0 : Nat} (hw : hs[3 * H]? = some (.slice A 0 c0)) (ht : t.holder = -1) (a n : Int) (v : Value) (ck cn ct : Int) (cf : Bool) {s k c i : Int} {l : List UInt8} {QM : List UInt8 → Prop} (hon : OnB w B Z X g h Y N t hs #[.int .i64 1, .int .i64 a, .int .i64 n, v, .int .u64 ck, .int .u64 cn, .int .i64 ct, .bool cf] s k c i l D' QM) : Calls Try.prog 12 #[.pointer (some ⟨Z, 0, none⟩), .int .i64 (H : Nat), .agg #[.int .i64 1, .int .i64 a, .int .i64 n, v, .int .u64 ck, .int .u64 cn, .int .i64 ct, .bool cf]] w fun e w' => ∃ v M', e = .returned v ∧ Rep w' w.heap.size v s k c i l ∧ QM M' ∧ UnM w' B Z X g h Y N D' M' t hs ∧ Eff (SpS g h) w w' := by
  obtain ⟨w2, e2, mc, mr, b2⟩ : ∃ w2, w2 = (w.alloc (.cells #[.int .i64 1, .int .i64 a, .int .i64 n, v, .int .u64 ck, .int .u64 cn, .int .i64 ct, .bool cf] 26)).alloc (.cells #[.int .i64 0, .int .i64 0, .int .i64 0, .slice none 0 0, .int .i64 0] 31) ∧ Mem w2 w.heap.size 26 #[.int .i64 1, .int .i64 a, .int .i64 n, v, .int .u64 ck, .int .u64 cn, .int .i64 ct, .bool cf] ∧ Mem w2 (w.heap.size + 1) 31 #[.int .i64 0, .int .i64 0, .int .i64 0, .slice none 0 0, .int .i64 0] ∧ Below w.heap.size w w2 := ⟨_, rfl, by
    have m0 := Mem.new w 26 #[.int .i64 1, .int .i64 a, .int .i64 n, v, .int .u64 ck, .int .u64 cn, .int .i64 ct, .bool cf]
    exact m0.below ((Below.refl _ _).alloc (Nat.le_refl _) _) m0.lt, by
    have m1 := Mem.new (w.alloc (.cells #[.int .i64 1, .int .i64 a, .int .i64 n, v, .int .u64 ck, .int .u64 cn, .int .i64 ct, .bool cf] 26)) 31 #[.int .i64 0, .int .i64 0, .int .i64 0, .slice none 0 0, .int .i64 0]
    rw [World.size_alloc] at m1
    exact m1, ((Below.refl _ w).alloc (Nat.le_refl _) _).alloc (by rw [World.size_alloc]; omega) _⟩
  have hu2 := hu.below b2
  have cH : ∀ W, Calls Try.prog 17 #[.int .i64 (H : Nat)] W fun e w' => e = .returned (.bool true) ∧ W = w' := fun W => by
    have q := isHost_any (H : Nat) W
    rw [decide_eq_true (by omega)] at q
    exact q
  have cK : ∀ W, Calls Try.prog 18 #[.int .i64 1] W fun e w' => e = .returned (.bool true) ∧ W = w' := fun W => isKind_any 1 W
  have cA := att_none hu2 H hH hw
  have cL : ∀ W, Below w2.heap.size w2 W → Calls Try.prog 22 #[.pointer (some ⟨Y, 0, none⟩), .int .i64 (H : Nat), .int .i64 1] W fun e w' => e = .returned (.bool true) ∧ W = w' := fun W hW => allows_free (hu2.below hW).tab ht _ _
  have k0 := mc.cell 0
  clear hH hw ht
  go_enter Try.func12, Try.ntmps12
  go_upto_region 1 with (fail)
  rw [← e2]
  clear e2
  go_upto_region 7 with (first
    | (go_at_call 17; (with_reducible refine (cH _).mono ?_); rintro e' w3 ⟨rfl, rfl⟩)
    | (go_at_call 18; (with_reducible refine (cK _).mono ?_); rintro e' w3 ⟨rfl, rfl⟩)
    | (go_at_call 20; (with_reducible refine cA.mono ?_); rintro e' w3 ⟨rfl, rfl⟩))
  apply calm_region [.is _, .is _, .is _, .is _, .is _, .is _, .is _, .is _, .is _] [[], [0], [1], [2], [], [], [5], [3, 4, 6], [7]] (by kernel_rfl) (by kernel_rfl) (by kernel_rfl) rfl
  intro f a1 ha1
  simp only [putL, Act.put, List.setIfInBounds_toArray, List.set_cons_succ, List.set_cons_zero] at ha1
  subst ha1
  refine ⟨?_, ?_⟩
  · refine AllCalm.cons (fun W hB hd => ?_) ?_
    · go_wp2_with (fail)
      exact CalmQ.mk rfl _ rfl (Below.refl _ _) rfl
    refine AllCalm.cons (fun W hB hd => ?_) ?_
    · obtain ⟨h0, -⟩ := hd
      have h0 : f 0 = _ := h0
      rw [h0]
      go_wp2_with (fail)
      exact CalmQ.mk rfl _ rfl (Below.refl _ _) rfl
    refine AllCalm.cons (fun W hB hd => ?_) ?_
    · obtain ⟨h1, -⟩ := hd
      have h1 : f 1 = _ := h1
      rw [h1]
      go_wp2_with (fail)
      exact CalmQ.mk rfl _ rfl (Below.refl _ _) rfl
    refine AllCalm.cons (fun W hB hd => ?_) ?_
    · obtain ⟨h2, -⟩ := hd
      have h2 : f 2 = _ := h2
      rw [h2]
      have q0 := (hu2.below hB).c1
      go_wp2_with (fail)
      exact CalmQ.mk rfl _ rfl (Below.refl _ _) rfl
    refine AllCalm.cons (fun W hB hd => ?_) ?_
    · go_wp2_with (fail)
      exact CalmQ.mk rfl _ rfl (Below.refl _ _) rfl
    refine AllCalm.cons (fun W hB hd => ?_) ?_
    · go_wp2_with (fail)
      exact CalmQ.mk rfl _ rfl (Below.refl _ _) rfl
    refine AllCalm.cons (fun W hB hd => ?_) ?_
    · obtain ⟨h5, -⟩ := hd
      have h5 : f 5 = _ := h5
      rw [h5]
      have q0 := (mc.below hB mc.lt).cell 0
      go_wp2_with (fail)
      exact CalmQ.mk rfl _ rfl (Below.refl _ _) rfl
    refine AllCalm.cons (fun W hB hd => ?_) ?_
    · obtain ⟨h3, h4, h6, -⟩ := hd
      have h3 : f 3 = _ := h3
      have h4 : f 4 = _ := h4
      have h6 : f 6 = _ := h6
      rw [h3, h4, h6]
      have cW := cL W hB
      go_wp2_with ((go_at_call 22; (with_reducible refine cW.mono ?_); rintro e' w3 ⟨rfl, rfl⟩))
      exact CalmQ.mk rfl _ rfl (Below.refl _ _) rfl
    refine AllCalm.cons (fun W hB hd => ?_) ?_
    · obtain ⟨h7, -⟩ := hd
      have h7 : f 7 = _ := h7
      rw [h7]
      go_wp2_with (fail)
      exact CalmQ.mk rfl _ rfl (Below.refl _ _) rfl
    exact AllCalm.nil
  · intro W hB hT
    obtain ⟨h0, h1, h2, h3, h4, h5, h6, h7, h8, -⟩ := hT
    have h0 : f 0 = _ := h0
    have h1 : f 1 = _ := h1
    have h2 : f 2 = _ := h2
    have h3 : f 3 = _ := h3
    have h4 : f 4 = _ := h4
    have h5 : f 5 = _ := h5
    have h6 : f 6 = _ := h6
    have h7 : f 7 = _ := h7
    have h8 : f 8 = _ := h8
    rw [h0, h1, h2, h3, h4, h5, h6, h7, h8]
    clear h0 h1 h2 h3 h4 h5 h6 h7 h8
    have mcW := mc.below hB mc.lt
    have mrW := mr.below hB mr.lt
    have BW := b2.trans (hB.mono b2.size)
    have k0 := mcW.cell 0
    have cO := hon W BW
    go_wp2_with (first
      | (refine wpList_load_row rfl 26 (.tmp 5) rfl w.heap.size rfl 26 #[.int .i64 1, .int .i64 a, .int .i64 n, v, .int .u64 ck, .int .u64 cn, .int .i64 ct, .bool cf] (0, 0) _ mcW Try.underlying26 rfl (by kernel_rfl) ?_)
      | (go_at_call 23; (with_reducible refine cO.mono ?_); rintro e' w4 ⟨v4, M4, rfl, ⟨A4, c4, rfl, o4⟩, p4, u4, E4⟩; have mr4 := mrW.eff E4 (fun e => e.elim (fun e => (by have := hu.sp.data.lt; omega)) (fun e => (by have := hu.sp.map.lt; omega))))
      | (refine wpList_store_row rfl 31 (.tmp 6) (.tmp 62) rfl (w.heap.size + 1) #[.int .i64 s, .int .i64 k, .int .i64 c, .slice A4 l.length c4, .int .i64 i] rfl rfl 31 #[.int .i64 0, .int .i64 0, .int .i64 0, .slice none 0 0, .int .i64 0] mr4 (by kernel_rfl) (by kernel_rfl) (by kernel_rfl) ?_))
    have EF := eff_setRow w4 (w.heap.size + 1) #[.int .i64 s, .int .i64 k, .int .i64 c, .slice A4 l.length c4, .int .i64 i]
    have rF : Rep (w4.setRow (w.heap.size + 1) #[.int .i64 s, .int .i64 k, .int .i64 c, .slice A4 l.length c4, .int .i64 i]) w.heap.size (.agg #[.int .i64 s, .int .i64 k, .int .i64 c, .slice A4 l.length c4, .int .i64 i]) s k c i l := (Rep.box (show Rep w4 W.heap.size _ s k c i l from ⟨A4, c4, rfl, o4⟩) (mem_tag mr4) (by decide) EF).mono BW.size
    exact bodyPost_ret ((results_cell1 (p := 6) (ty := 31) rfl _ _ (w.heap.size + 1) 31 _ (0, 0) _ rfl (mr4.row #[.int .i64 s, .int .i64 k, .int .i64 c, .slice A4 l.length c4, .int .i64 i]) Try.underlying31 rfl (by kernel_rfl)).trans rfl) rfl ⟨_, M4, rfl, rF, p4, UnM.box u4 (mem_tag mr4) (by decide) (by decide) (by decide) (by decide) EF, (((Eff.of (S := SpS g h) BW).trans E4 fun _ _ h => h).trans EF fun i hi e => absurd hi (by omega))⟩
set_option maxHeartbeats 4000000 in
theorem do_blk2 (hu : UnM w B Z X g h Y N D M t hs) (H : Nat) (hH : H < 8) {A : Option Addr} {c0 : Nat} (hw : hs[3 * H]? = some (.slice A 0 c0)) (ht : t.holder = -1) (a n : Int) (v : Value) (ck cn ct : Int) (cf : Bool) {s k c i : Int} {l : List UInt8} {QM : List UInt8 → Prop} (hon : OnB w B Z X g h Y N t hs #[.int .i64 2, .int .i64 a, .int .i64 n, v, .int .u64 ck, .int .u64 cn, .int .i64 ct, .bool cf] s k c i l D' QM) : Calls Try.prog 12 #[.pointer (some ⟨Z, 0, none⟩), .int .i64 (H : Nat), .agg #[.int .i64 2, .int .i64 a, .int .i64 n, v, .int .u64 ck, .int .u64 cn, .int .i64 ct, .bool cf]] w fun e w' => ∃ v M', e = .returned v ∧ Rep w' w.heap.size v s k c i l ∧ QM M' ∧ UnM w' B Z X g h Y N D' M' t hs ∧ Eff (SpS g h) w w' := by
  obtain ⟨w2, e2, mc, mr, b2⟩ : ∃ w2, w2 = (w.alloc (.cells #[.int .i64 2, .int .i64 a, .int .i64 n, v, .int .u64 ck, .int .u64 cn, .int .i64 ct, .bool cf] 26)).alloc (.cells #[.int .i64 0, .int .i64 0, .int .i64 0, .slice none 0 0, .int .i64 0] 31) ∧ Mem w2 w.heap.size 26 #[.int .i64 2, .int .i64 a, .int .i64 n, v, .int .u64 ck, .int .u64 cn, .int .i64 ct, .bool cf] ∧ Mem w2 (w.heap.size + 1) 31 #[.int .i64 0, .int .i64 0, .int .i64 0, .slice none 0 0, .int .i64 0] ∧ Below w.heap.size w w2 := ⟨_, rfl, by
    have m0 := Mem.new w 26 #[.int .i64 2, .int .i64 a, .int .i64 n, v, .int .u64 ck, .int .u64 cn, .int .i64 ct, .bool cf]
    exact m0.below ((Below.refl _ _).alloc (Nat.le_refl _) _) m0.lt, by
    have m1 := Mem.new (w.alloc (.cells #[.int .i64 2, .int .i64 a, .int .i64 n, v, .int .u64 ck, .int .u64 cn, .int .i64 ct, .bool cf] 26)) 31 #[.int .i64 0, .int .i64 0, .int .i64 0, .slice none 0 0, .int .i64 0]
    rw [World.size_alloc] at m1
    exact m1, ((Below.refl _ w).alloc (Nat.le_refl _) _).alloc (by rw [World.size_alloc]; omega) _⟩
  have hu2 := hu.below b2
  have cH : ∀ W, Calls Try.prog 17 #[.int .i64 (H : Nat)] W fun e w' => e = .returned (.bool true) ∧ W = w' := fun W => by
    have q := isHost_any (H : Nat) W
    rw [decide_eq_true (by omega)] at q
    exact q
  have cK : ∀ W, Calls Try.prog 18 #[.int .i64 2] W fun e w' => e = .returned (.bool true) ∧ W = w' := fun W => isKind_any 2 W
  have cA := att_none hu2 H hH hw
  have cL : ∀ W, Below w2.heap.size w2 W → Calls Try.prog 22 #[.pointer (some ⟨Y, 0, none⟩), .int .i64 (H : Nat), .int .i64 2] W fun e w' => e = .returned (.bool true) ∧ W = w' := fun W hW => allows_free (hu2.below hW).tab ht _ _
  have k0 := mc.cell 0
  clear hH hw ht
  go_enter Try.func12, Try.ntmps12
  go_upto_region 1 with (fail)
  rw [← e2]
  clear e2
  go_upto_region 7 with (first
    | (go_at_call 17; (with_reducible refine (cH _).mono ?_); rintro e' w3 ⟨rfl, rfl⟩)
    | (go_at_call 18; (with_reducible refine (cK _).mono ?_); rintro e' w3 ⟨rfl, rfl⟩)
    | (go_at_call 20; (with_reducible refine cA.mono ?_); rintro e' w3 ⟨rfl, rfl⟩))
  apply calm_region [.is _, .is _, .is _, .is _, .is _, .is _, .is _, .is _, .is _] [[], [0], [1], [2], [], [], [5], [3, 4, 6], [7]] (by kernel_rfl) (by kernel_rfl) (by kernel_rfl) rfl
  intro f a1 ha1
  simp only [putL, Act.put, List.setIfInBounds_toArray, List.set_cons_succ, List.set_cons_zero] at ha1
  subst ha1
  refine ⟨?_, ?_⟩
  · refine AllCalm.cons (fun W hB hd => ?_) ?_
    · go_wp2_with (fail)
      exact CalmQ.mk rfl _ rfl (Below.refl _ _) rfl
    refine AllCalm.cons (fun W hB hd => ?_) ?_
    · obtain ⟨h0, -⟩ := hd
      have h0 : f 0 = _ := h0
      rw [h0]
      go_wp2_with (fail)
      exact CalmQ.mk rfl _ rfl (Below.refl _ _) rfl
    refine AllCalm.cons (fun W hB hd => ?_) ?_
    · obtain ⟨h1, -⟩ := hd
      have h1 : f 1 = _ := h1
      rw [h1]
      go_wp2_with (fail)
      exact CalmQ.mk rfl _ rfl (Below.refl _ _) rfl
    refine AllCalm.cons (fun W hB hd => ?_) ?_
    · obtain ⟨h2, -⟩ := hd
      have h2 : f 2 = _ := h2
      rw [h2]
      have q0 := (hu2.below hB).c1
      go_wp2_with (fail)
      exact CalmQ.mk rfl _ rfl (Below.refl _ _) rfl
    refine AllCalm.cons (fun W hB hd => ?_) ?_
    · go_wp2_with (fail)
      exact CalmQ.mk rfl _ rfl (Below.refl _ _) rfl
    refine AllCalm.cons (fun W hB hd => ?_) ?_
    · go_wp2_with (fail)
      exact CalmQ.mk rfl _ rfl (Below.refl _ _) rfl
    refine AllCalm.cons (fun W hB hd => ?_) ?_
    · obtain ⟨h5, -⟩ := hd
      have h5 : f 5 = _ := h5
      rw [h5]
      have q0 := (mc.below hB mc.lt).cell 0
      go_wp2_with (fail)
      exact CalmQ.mk rfl _ rfl (Below.refl _ _) rfl
    refine AllCalm.cons (fun W hB hd => ?_) ?_
    · obtain ⟨h3, h4, h6, -⟩ := hd
      have h3 : f 3 = _ := h3
      have h4 : f 4 = _ := h4
      have h6 : f 6 = _ := h6
      rw [h3, h4, h6]
      have cW := cL W hB
      go_wp2_with ((go_at_call 22; (with_reducible refine cW.mono ?_); rintro e' w3 ⟨rfl, rfl⟩))
      exact CalmQ.mk rfl _ rfl (Below.refl _ _) rfl
    refine AllCalm.cons (fun W hB hd => ?_) ?_
    · obtain ⟨h7, -⟩ := hd
      have h7 : f 7 = _ := h7
      rw [h7]
      go_wp2_with (fail)
      exact CalmQ.mk rfl _ rfl (Below.refl _ _) rfl
    exact AllCalm.nil
  · intro W hB hT
    obtain ⟨h0, h1, h2, h3, h4, h5, h6, h7, h8, -⟩ := hT
    have h0 : f 0 = _ := h0
    have h1 : f 1 = _ := h1
    have h2 : f 2 = _ := h2
    have h3 : f 3 = _ := h3
    have h4 : f 4 = _ := h4
    have h5 : f 5 = _ := h5
    have h6 : f 6 = _ := h6
    have h7 : f 7 = _ := h7
    have h8 : f 8 = _ := h8
    rw [h0, h1, h2, h3, h4, h5, h6, h7, h8]
    clear h0 h1 h2 h3 h4 h5 h6 h7 h8
    have mcW := mc.below hB mc.lt
    have mrW := mr.below hB mr.lt
    have BW := b2.trans (hB.mono b2.size)
    have k0 := mcW.cell 0
    have cO := hon W BW
    go_wp2_with (first
      | (refine wpList_load_row rfl 26 (.tmp 5) rfl w.heap.size rfl 26 #[.int .i64 2, .int .i64 a, .int .i64 n, v, .int .u64 ck, .int .u64 cn, .int .i64 ct, .bool cf] (0, 0) _ mcW Try.underlying26 rfl (by kernel_rfl) ?_)
      | (go_at_call 23; (with_reducible refine cO.mono ?_); rintro e' w4 ⟨v4, M4, rfl, ⟨A4, c4, rfl, o4⟩, p4, u4, E4⟩; have mr4 := mrW.eff E4 (fun e => e.elim (fun e => (by have := hu.sp.data.lt; omega)) (fun e => (by have := hu.sp.map.lt; omega))))
      | (refine wpList_store_row rfl 31 (.tmp 6) (.tmp 62) rfl (w.heap.size + 1) #[.int .i64 s, .int .i64 k, .int .i64 c, .slice A4 l.length c4, .int .i64 i] rfl rfl 31 #[.int .i64 0, .int .i64 0, .int .i64 0, .slice none 0 0, .int .i64 0] mr4 (by kernel_rfl) (by kernel_rfl) (by kernel_rfl) ?_))
    have EF := eff_setRow w4 (w.heap.size + 1) #[.int .i64 s, .int .i64 k, .int .i64 c, .slice A4 l.length c4, .int .i64 i]
    have rF : Rep (w4.setRow (w.heap.size + 1) #[.int .i64 s, .int .i64 k, .int .i64 c, .slice A4 l.length c4, .int .i64 i]) w.heap.size (.agg #[.int .i64 s, .int .i64 k, .int .i64 c, .slice A4 l.length c4, .int .i64 i]) s k c i l := (Rep.box (show Rep w4 W.heap.size _ s k c i l from ⟨A4, c4, rfl, o4⟩) (mem_tag mr4) (by decide) EF).mono BW.size
    exact bodyPost_ret ((results_cell1 (p := 6) (ty := 31) rfl _ _ (w.heap.size + 1) 31 _ (0, 0) _ rfl (mr4.row #[.int .i64 s, .int .i64 k, .int .i64 c, .slice A4 l.length c4, .int .i64 i]) Try.underlying31 rfl (by kernel_rfl)).trans rfl) rfl ⟨_, M4, rfl, rF, p4, UnM.box u4 (mem_tag mr4) (by decide) (by decide) (by decide) (by decide) EF, (((Eff.of (S := SpS g h) BW).trans E4 fun _ _ h => h).trans EF fun i hi e => absurd hi (by omega))⟩
set_option maxHeartbeats 4000000 in
theorem do_blk3 (hu : UnM w B Z X g h Y N D M t hs) (H : Nat) (hH : H < 8) {A : Option Addr} {c0 : Nat} (hw : hs[3 * H]? = some (.slice A 0 c0)) (ht : t.holder = -1) (a n : Int) (v : Value) (ck cn ct : Int) (cf : Bool) {s k c i : Int} {l : List UInt8} {QM : List UInt8 → Prop} (hon : OnB w B Z X g h Y N t hs #[.int .i64 3, .int .i64 a, .int .i64 n, v, .int .u64 ck, .int .u64 cn, .int .i64 ct, .bool cf] s k c i l D' QM) : Calls Try.prog 12 #[.pointer (some ⟨Z, 0, none⟩), .int .i64 (H : Nat), .agg #[.int .i64 3, .int .i64 a, .int .i64 n, v, .int .u64 ck, .int .u64 cn, .int .i64 ct, .bool cf]] w fun e w' => ∃ v M', e = .returned v ∧ Rep w' w.heap.size v s k c i l ∧ QM M' ∧ UnM w' B Z X g h Y N D' M' t hs ∧ Eff (SpS g h) w w' := by
  obtain ⟨w2, e2, mc, mr, b2⟩ : ∃ w2, w2 = (w.alloc (.cells #[.int .i64 3, .int .i64 a, .int .i64 n, v, .int .u64 ck, .int .u64 cn, .int .i64 ct, .bool cf] 26)).alloc (.cells #[.int .i64 0, .int .i64 0, .int .i64 0, .slice none 0 0, .int .i64 0] 31) ∧ Mem w2 w.heap.size 26 #[.int .i64 3, .int .i64 a, .int .i64 n, v, .int .u64 ck, .int .u64 cn, .int .i64 ct, .bool cf] ∧ Mem w2 (w.heap.size + 1) 31 #[.int .i64 0, .int .i64 0, .int .i64 0, .slice none 0 0, .int .i64 0] ∧ Below w.heap.size w w2 := ⟨_, rfl, by
    have m0 := Mem.new w 26 #[.int .i64 3, .int .i64 a, .int .i64 n, v, .int .u64 ck, .int .u64 cn, .int .i64 ct, .bool cf]
    exact m0.below ((Below.refl _ _).alloc (Nat.le_refl _) _) m0.lt, by
    have m1 := Mem.new (w.alloc (.cells #[.int .i64 3, .int .i64 a, .int .i64 n, v, .int .u64 ck, .int .u64 cn, .int .i64 ct, .bool cf] 26)) 31 #[.int .i64 0, .int .i64 0, .int .i64 0, .slice none 0 0, .int .i64 0]
    rw [World.size_alloc] at m1
    exact m1, ((Below.refl _ w).alloc (Nat.le_refl _) _).alloc (by rw [World.size_alloc]; omega) _⟩
  have hu2 := hu.below b2
  have cH : ∀ W, Calls Try.prog 17 #[.int .i64 (H : Nat)] W fun e w' => e = .returned (.bool true) ∧ W = w' := fun W => by
    have q := isHost_any (H : Nat) W
    rw [decide_eq_true (by omega)] at q
    exact q
  have cK : ∀ W, Calls Try.prog 18 #[.int .i64 3] W fun e w' => e = .returned (.bool true) ∧ W = w' := fun W => isKind_any 3 W
  have cA := att_none hu2 H hH hw
  have cL : ∀ W, Below w2.heap.size w2 W → Calls Try.prog 22 #[.pointer (some ⟨Y, 0, none⟩), .int .i64 (H : Nat), .int .i64 3] W fun e w' => e = .returned (.bool true) ∧ W = w' := fun W hW => allows_free (hu2.below hW).tab ht _ _
  have k0 := mc.cell 0
  clear hH hw ht
  go_enter Try.func12, Try.ntmps12
  go_upto_region 1 with (fail)
  rw [← e2]
  clear e2
  go_upto_region 7 with (first
    | (go_at_call 17; (with_reducible refine (cH _).mono ?_); rintro e' w3 ⟨rfl, rfl⟩)
    | (go_at_call 18; (with_reducible refine (cK _).mono ?_); rintro e' w3 ⟨rfl, rfl⟩)
    | (go_at_call 20; (with_reducible refine cA.mono ?_); rintro e' w3 ⟨rfl, rfl⟩))
  apply calm_region [.is _, .is _, .is _, .is _, .is _, .is _, .is _, .is _, .is _] [[], [0], [1], [2], [], [], [5], [3, 4, 6], [7]] (by kernel_rfl) (by kernel_rfl) (by kernel_rfl) rfl
  intro f a1 ha1
  simp only [putL, Act.put, List.setIfInBounds_toArray, List.set_cons_succ, List.set_cons_zero] at ha1
  subst ha1
  refine ⟨?_, ?_⟩
  · refine AllCalm.cons (fun W hB hd => ?_) ?_
    · go_wp2_with (fail)
      exact CalmQ.mk rfl _ rfl (Below.refl _ _) rfl
    refine AllCalm.cons (fun W hB hd => ?_) ?_
    · obtain ⟨h0, -⟩ := hd
      have h0 : f 0 = _ := h0
      rw [h0]
      go_wp2_with (fail)
      exact CalmQ.mk rfl _ rfl (Below.refl _ _) rfl
    refine AllCalm.cons (fun W hB hd => ?_) ?_
    · obtain ⟨h1, -⟩ := hd
      have h1 : f 1 = _ := h1
      rw [h1]
      go_wp2_with (fail)
      exact CalmQ.mk rfl _ rfl (Below.refl _ _) rfl
    refine AllCalm.cons (fun W hB hd => ?_) ?_
    · obtain ⟨h2, -⟩ := hd
      have h2 : f 2 = _ := h2
      rw [h2]
      have q0 := (hu2.below hB).c1
      go_wp2_with (fail)
      exact CalmQ.mk rfl _ rfl (Below.refl _ _) rfl
    refine AllCalm.cons (fun W hB hd => ?_) ?_
    · go_wp2_with (fail)
      exact CalmQ.mk rfl _ rfl (Below.refl _ _) rfl
    refine AllCalm.cons (fun W hB hd => ?_) ?_
    · go_wp2_with (fail)
      exact CalmQ.mk rfl _ rfl (Below.refl _ _) rfl
    refine AllCalm.cons (fun W hB hd => ?_) ?_
    · obtain ⟨h5, -⟩ := hd
      have h5 : f 5 = _ := h5
      rw [h5]
      have q0 := (mc.below hB mc.lt).cell 0
      go_wp2_with (fail)
      exact CalmQ.mk rfl _ rfl (Below.refl _ _) rfl
    refine AllCalm.cons (fun W hB hd => ?_) ?_
    · obtain ⟨h3, h4, h6, -⟩ := hd
      have h3 : f 3 = _ := h3
      have h4 : f 4 = _ := h4
      have h6 : f 6 = _ := h6
      rw [h3, h4, h6]
      have cW := cL W hB
      go_wp2_with ((go_at_call 22; (with_reducible refine cW.mono ?_); rintro e' w3 ⟨rfl, rfl⟩))
      exact CalmQ.mk rfl _ rfl (Below.refl _ _) rfl
    refine AllCalm.cons (fun W hB hd => ?_) ?_
    · obtain ⟨h7, -⟩ := hd
      have h7 : f 7 = _ := h7
      rw [h7]
      go_wp2_with (fail)
      exact CalmQ.mk rfl _ rfl (Below.refl _ _) rfl
    exact AllCalm.nil
  · intro W hB hT
    obtain ⟨h0, h1, h2, h3, h4, h5, h6, h7, h8, -⟩ := hT
    have h0 : f 0 = _ := h0
    have h1 : f 1 = _ := h1
    have h2 : f 2 = _ := h2
    have h3 : f 3 = _ := h3
    have h4 : f 4 = _ := h4
    have h5 : f 5 = _ := h5
    have h6 : f 6 = _ := h6
    have h7 : f 7 = _ := h7
    have h8 : f 8 = _ := h8
    rw [h0, h1, h2, h3, h4, h5, h6, h7, h8]
    clear h0 h1 h2 h3 h4 h5 h6 h7 h8
    have mcW := mc.below hB mc.lt
    have mrW := mr.below hB mr.lt
    have BW := b2.trans (hB.mono b2.size)
    have k0 := mcW.cell 0
    have cO := hon W BW
    go_wp2_with (first
      | (refine wpList_load_row rfl 26 (.tmp 5) rfl w.heap.size rfl 26 #[.int .i64 3, .int .i64 a, .int .i64 n, v, .int .u64 ck, .int .u64 cn, .int .i64 ct, .bool cf] (0, 0) _ mcW Try.underlying26 rfl (by kernel_rfl) ?_)
      | (go_at_call 23; (with_reducible refine cO.mono ?_); rintro e' w4 ⟨v4, M4, rfl, ⟨A4, c4, rfl, o4⟩, p4, u4, E4⟩; have mr4 := mrW.eff E4 (fun e => e.elim (fun e => (by have := hu.sp.data.lt; omega)) (fun e => (by have := hu.sp.map.lt; omega))))
      | (refine wpList_store_row rfl 31 (.tmp 6) (.tmp 62) rfl (w.heap.size + 1) #[.int .i64 s, .int .i64 k, .int .i64 c, .slice A4 l.length c4, .int .i64 i] rfl rfl 31 #[.int .i64 0, .int .i64 0, .int .i64 0, .slice none 0 0, .int .i64 0] mr4 (by kernel_rfl) (by kernel_rfl) (by kernel_rfl) ?_))
    have EF := eff_setRow w4 (w.heap.size + 1) #[.int .i64 s, .int .i64 k, .int .i64 c, .slice A4 l.length c4, .int .i64 i]
    have rF : Rep (w4.setRow (w.heap.size + 1) #[.int .i64 s, .int .i64 k, .int .i64 c, .slice A4 l.length c4, .int .i64 i]) w.heap.size (.agg #[.int .i64 s, .int .i64 k, .int .i64 c, .slice A4 l.length c4, .int .i64 i]) s k c i l := (Rep.box (show Rep w4 W.heap.size _ s k c i l from ⟨A4, c4, rfl, o4⟩) (mem_tag mr4) (by decide) EF).mono BW.size
    exact bodyPost_ret ((results_cell1 (p := 6) (ty := 31) rfl _ _ (w.heap.size + 1) 31 _ (0, 0) _ rfl (mr4.row #[.int .i64 s, .int .i64 k, .int .i64 c, .slice A4 l.length c4, .int .i64 i]) Try.underlying31 rfl (by kernel_rfl)).trans rfl) rfl ⟨_, M4, rfl, rF, p4, UnM.box u4 (mem_tag mr4) (by decide) (by decide) (by decide) (by decide) EF, (((Eff.of (S := SpS g h) BW).trans E4 fun _ _ h => h).trans EF fun i hi e => absurd hi (by omega))⟩
set_option maxHeartbeats 4000000 in
theorem do_blk4 (hu : UnM w B Z X g h Y N D M t hs) (H : Nat) (hH : H < 8) {A : Option Addr} {c0 : Nat} (hw : hs[3 * H]? = some (.slice A 0 c0)) (ht : t.holder = -1) (a n : Int) (v : Value) (ck cn ct : Int) (cf : Bool) {s k c i : Int} {l : List UInt8} {QM : List UInt8 → Prop} (hon : OnB w B Z X g h Y N t hs #[.int .i64 4, .int .i64 a, .int .i64 n, v, .int .u64 ck, .int .u64 cn, .int .i64 ct, .bool cf] s k c i l D' QM) : Calls Try.prog 12 #[.pointer (some ⟨Z, 0, none⟩), .int .i64 (H : Nat), .agg #[.int .i64 4, .int .i64 a, .int .i64 n, v, .int .u64 ck, .int .u64 cn, .int .i64 ct, .bool cf]] w fun e w' => ∃ v M', e = .returned v ∧ Rep w' w.heap.size v s k c i l ∧ QM M' ∧ UnM w' B Z X g h Y N D' M' t hs ∧ Eff (SpS g h) w w' := by
  obtain ⟨w2, e2, mc, mr, b2⟩ : ∃ w2, w2 = (w.alloc (.cells #[.int .i64 4, .int .i64 a, .int .i64 n, v, .int .u64 ck, .int .u64 cn, .int .i64 ct, .bool cf] 26)).alloc (.cells #[.int .i64 0, .int .i64 0, .int .i64 0, .slice none 0 0, .int .i64 0] 31) ∧ Mem w2 w.heap.size 26 #[.int .i64 4, .int .i64 a, .int .i64 n, v, .int .u64 ck, .int .u64 cn, .int .i64 ct, .bool cf] ∧ Mem w2 (w.heap.size + 1) 31 #[.int .i64 0, .int .i64 0, .int .i64 0, .slice none 0 0, .int .i64 0] ∧ Below w.heap.size w w2 := ⟨_, rfl, by
    have m0 := Mem.new w 26 #[.int .i64 4, .int .i64 a, .int .i64 n, v, .int .u64 ck, .int .u64 cn, .int .i64 ct, .bool cf]
    exact m0.below ((Below.refl _ _).alloc (Nat.le_refl _) _) m0.lt, by
    have m1 := Mem.new (w.alloc (.cells #[.int .i64 4, .int .i64 a, .int .i64 n, v, .int .u64 ck, .int .u64 cn, .int .i64 ct, .bool cf] 26)) 31 #[.int .i64 0, .int .i64 0, .int .i64 0, .slice none 0 0, .int .i64 0]
    rw [World.size_alloc] at m1
    exact m1, ((Below.refl _ w).alloc (Nat.le_refl _) _).alloc (by rw [World.size_alloc]; omega) _⟩
  have hu2 := hu.below b2
  have cH : ∀ W, Calls Try.prog 17 #[.int .i64 (H : Nat)] W fun e w' => e = .returned (.bool true) ∧ W = w' := fun W => by
    have q := isHost_any (H : Nat) W
    rw [decide_eq_true (by omega)] at q
    exact q
  have cK : ∀ W, Calls Try.prog 18 #[.int .i64 4] W fun e w' => e = .returned (.bool true) ∧ W = w' := fun W => isKind_any 4 W
  have cA := att_none hu2 H hH hw
  have cL : ∀ W, Below w2.heap.size w2 W → Calls Try.prog 22 #[.pointer (some ⟨Y, 0, none⟩), .int .i64 (H : Nat), .int .i64 4] W fun e w' => e = .returned (.bool true) ∧ W = w' := fun W hW => allows_free (hu2.below hW).tab ht _ _
  have k0 := mc.cell 0
  clear hH hw ht
  go_enter Try.func12, Try.ntmps12
  go_upto_region 1 with (fail)
  rw [← e2]
  clear e2
  go_upto_region 7 with (first
    | (go_at_call 17; (with_reducible refine (cH _).mono ?_); rintro e' w3 ⟨rfl, rfl⟩)
    | (go_at_call 18; (with_reducible refine (cK _).mono ?_); rintro e' w3 ⟨rfl, rfl⟩)
    | (go_at_call 20; (with_reducible refine cA.mono ?_); rintro e' w3 ⟨rfl, rfl⟩))
  apply calm_region [.is _, .is _, .is _, .is _, .is _, .is _, .is _, .is _, .is _] [[], [0], [1], [2], [], [], [5], [3, 4, 6], [7]] (by kernel_rfl) (by kernel_rfl) (by kernel_rfl) rfl
  intro f a1 ha1
  simp only [putL, Act.put, List.setIfInBounds_toArray, List.set_cons_succ, List.set_cons_zero] at ha1
  subst ha1
  refine ⟨?_, ?_⟩
  · refine AllCalm.cons (fun W hB hd => ?_) ?_
    · go_wp2_with (fail)
      exact CalmQ.mk rfl _ rfl (Below.refl _ _) rfl
    refine AllCalm.cons (fun W hB hd => ?_) ?_
    · obtain ⟨h0, -⟩ := hd
      have h0 : f 0 = _ := h0
      rw [h0]
      go_wp2_with (fail)
      exact CalmQ.mk rfl _ rfl (Below.refl _ _) rfl
    refine AllCalm.cons (fun W hB hd => ?_) ?_
    · obtain ⟨h1, -⟩ := hd
      have h1 : f 1 = _ := h1
      rw [h1]
      go_wp2_with (fail)
      exact CalmQ.mk rfl _ rfl (Below.refl _ _) rfl
    refine AllCalm.cons (fun W hB hd => ?_) ?_
    · obtain ⟨h2, -⟩ := hd
      have h2 : f 2 = _ := h2
      rw [h2]
      have q0 := (hu2.below hB).c1
      go_wp2_with (fail)
      exact CalmQ.mk rfl _ rfl (Below.refl _ _) rfl
    refine AllCalm.cons (fun W hB hd => ?_) ?_
    · go_wp2_with (fail)
      exact CalmQ.mk rfl _ rfl (Below.refl _ _) rfl
    refine AllCalm.cons (fun W hB hd => ?_) ?_
    · go_wp2_with (fail)
      exact CalmQ.mk rfl _ rfl (Below.refl _ _) rfl
    refine AllCalm.cons (fun W hB hd => ?_) ?_
    · obtain ⟨h5, -⟩ := hd
      have h5 : f 5 = _ := h5
      rw [h5]
      have q0 := (mc.below hB mc.lt).cell 0
      go_wp2_with (fail)
      exact CalmQ.mk rfl _ rfl (Below.refl _ _) rfl
    refine AllCalm.cons (fun W hB hd => ?_) ?_
    · obtain ⟨h3, h4, h6, -⟩ := hd
      have h3 : f 3 = _ := h3
      have h4 : f 4 = _ := h4
      have h6 : f 6 = _ := h6
      rw [h3, h4, h6]
      have cW := cL W hB
      go_wp2_with ((go_at_call 22; (with_reducible refine cW.mono ?_); rintro e' w3 ⟨rfl, rfl⟩))
      exact CalmQ.mk rfl _ rfl (Below.refl _ _) rfl
    refine AllCalm.cons (fun W hB hd => ?_) ?_
    · obtain ⟨h7, -⟩ := hd
      have h7 : f 7 = _ := h7
      rw [h7]
      go_wp2_with (fail)
      exact CalmQ.mk rfl _ rfl (Below.refl _ _) rfl
    exact AllCalm.nil
  · intro W hB hT
    obtain ⟨h0, h1, h2, h3, h4, h5, h6, h7, h8, -⟩ := hT
    have h0 : f 0 = _ := h0
    have h1 : f 1 = _ := h1
    have h2 : f 2 = _ := h2
    have h3 : f 3 = _ := h3
    have h4 : f 4 = _ := h4
    have h5 : f 5 = _ := h5
    have h6 : f 6 = _ := h6
    have h7 : f 7 = _ := h7
    have h8 : f 8 = _ := h8
    rw [h0, h1, h2, h3, h4, h5, h6, h7, h8]
    clear h0 h1 h2 h3 h4 h5 h6 h7 h8
    have mcW := mc.below hB mc.lt
    have mrW := mr.below hB mr.lt
    have BW := b2.trans (hB.mono b2.size)
    have k0 := mcW.cell 0
    have cO := hon W BW
    go_wp2_with (first
      | (refine wpList_load_row rfl 26 (.tmp 5) rfl w.heap.size rfl 26 #[.int .i64 4, .int .i64 a, .int .i64 n, v, .int .u64 ck, .int .u64 cn, .int .i64 ct, .bool cf] (0, 0) _ mcW Try.underlying26 rfl (by kernel_rfl) ?_)
      | (go_at_call 23; (with_reducible refine cO.mono ?_); rintro e' w4 ⟨v4, M4, rfl, ⟨A4, c4, rfl, o4⟩, p4, u4, E4⟩; have mr4 := mrW.eff E4 (fun e => e.elim (fun e => (by have := hu.sp.data.lt; omega)) (fun e => (by have := hu.sp.map.lt; omega))))
      | (refine wpList_store_row rfl 31 (.tmp 6) (.tmp 62) rfl (w.heap.size + 1) #[.int .i64 s, .int .i64 k, .int .i64 c, .slice A4 l.length c4, .int .i64 i] rfl rfl 31 #[.int .i64 0, .int .i64 0, .int .i64 0, .slice none 0 0, .int .i64 0] mr4 (by kernel_rfl) (by kernel_rfl) (by kernel_rfl) ?_))
    have EF := eff_setRow w4 (w.heap.size + 1) #[.int .i64 s, .int .i64 k, .int .i64 c, .slice A4 l.length c4, .int .i64 i]
    have rF : Rep (w4.setRow (w.heap.size + 1) #[.int .i64 s, .int .i64 k, .int .i64 c, .slice A4 l.length c4, .int .i64 i]) w.heap.size (.agg #[.int .i64 s, .int .i64 k, .int .i64 c, .slice A4 l.length c4, .int .i64 i]) s k c i l := (Rep.box (show Rep w4 W.heap.size _ s k c i l from ⟨A4, c4, rfl, o4⟩) (mem_tag mr4) (by decide) EF).mono BW.size
    exact bodyPost_ret ((results_cell1 (p := 6) (ty := 31) rfl _ _ (w.heap.size + 1) 31 _ (0, 0) _ rfl (mr4.row #[.int .i64 s, .int .i64 k, .int .i64 c, .slice A4 l.length c4, .int .i64 i]) Try.underlying31 rfl (by kernel_rfl)).trans rfl) rfl ⟨_, M4, rfl, rF, p4, UnM.box u4 (mem_tag mr4) (by decide) (by decide) (by decide) (by decide) EF, (((Eff.of (S := SpS g h) BW).trans E4 fun _ _ h => h).trans EF fun i hi e => absurd hi (by omega))⟩
set_option maxHeartbeats 4000000 in
theorem do_blk5 (hu : UnM w B Z X g h Y N D M t hs) (H : Nat) (hH : H < 8) {A : Option Addr} {c0 : Nat} (hw : hs[3 * H]? = some (.slice A 0 c0)) (ht : t.holder = -1) (a n : Int) (v : Value) (ck cn ct : Int) (cf : Bool) {s k c i : Int} {l : List UInt8} {QM : List UInt8 → Prop} (hon : OnB w B Z X g h Y N t hs #[.int .i64 5, .int .i64 a, .int .i64 n, v, .int .u64 ck, .int .u64 cn, .int .i64 ct, .bool cf] s k c i l D' QM) : Calls Try.prog 12 #[.pointer (some ⟨Z, 0, none⟩), .int .i64 (H : Nat), .agg #[.int .i64 5, .int .i64 a, .int .i64 n, v, .int .u64 ck, .int .u64 cn, .int .i64 ct, .bool cf]] w fun e w' => ∃ v M', e = .returned v ∧ Rep w' w.heap.size v s k c i l ∧ QM M' ∧ UnM w' B Z X g h Y N D' M' t hs ∧ Eff (SpS g h) w w' := by
  obtain ⟨w2, e2, mc, mr, b2⟩ : ∃ w2, w2 = (w.alloc (.cells #[.int .i64 5, .int .i64 a, .int .i64 n, v, .int .u64 ck, .int .u64 cn, .int .i64 ct, .bool cf] 26)).alloc (.cells #[.int .i64 0, .int .i64 0, .int .i64 0, .slice none 0 0, .int .i64 0] 31) ∧ Mem w2 w.heap.size 26 #[.int .i64 5, .int .i64 a, .int .i64 n, v, .int .u64 ck, .int .u64 cn, .int .i64 ct, .bool cf] ∧ Mem w2 (w.heap.size + 1) 31 #[.int .i64 0, .int .i64 0, .int .i64 0, .slice none 0 0, .int .i64 0] ∧ Below w.heap.size w w2 := ⟨_, rfl, by
    have m0 := Mem.new w 26 #[.int .i64 5, .int .i64 a, .int .i64 n, v, .int .u64 ck, .int .u64 cn, .int .i64 ct, .bool cf]
    exact m0.below ((Below.refl _ _).alloc (Nat.le_refl _) _) m0.lt, by
    have m1 := Mem.new (w.alloc (.cells #[.int .i64 5, .int .i64 a, .int .i64 n, v, .int .u64 ck, .int .u64 cn, .int .i64 ct, .bool cf] 26)) 31 #[.int .i64 0, .int .i64 0, .int .i64 0, .slice none 0 0, .int .i64 0]
    rw [World.size_alloc] at m1
    exact m1, ((Below.refl _ w).alloc (Nat.le_refl _) _).alloc (by rw [World.size_alloc]; omega) _⟩
  have hu2 := hu.below b2
  have cH : ∀ W, Calls Try.prog 17 #[.int .i64 (H : Nat)] W fun e w' => e = .returned (.bool true) ∧ W = w' := fun W => by
    have q := isHost_any (H : Nat) W
    rw [decide_eq_true (by omega)] at q
    exact q
  have cK : ∀ W, Calls Try.prog 18 #[.int .i64 5] W fun e w' => e = .returned (.bool true) ∧ W = w' := fun W => isKind_any 5 W
  have cA := att_none hu2 H hH hw
  have cL : ∀ W, Below w2.heap.size w2 W → Calls Try.prog 22 #[.pointer (some ⟨Y, 0, none⟩), .int .i64 (H : Nat), .int .i64 5] W fun e w' => e = .returned (.bool true) ∧ W = w' := fun W hW => allows_free (hu2.below hW).tab ht _ _
  have k0 := mc.cell 0
  clear hH hw ht
  go_enter Try.func12, Try.ntmps12
  go_upto_region 1 with (fail)
  rw [← e2]
  clear e2
  go_upto_region 7 with (first
    | (go_at_call 17; (with_reducible refine (cH _).mono ?_); rintro e' w3 ⟨rfl, rfl⟩)
    | (go_at_call 18; (with_reducible refine (cK _).mono ?_); rintro e' w3 ⟨rfl, rfl⟩)
    | (go_at_call 20; (with_reducible refine cA.mono ?_); rintro e' w3 ⟨rfl, rfl⟩))
  apply calm_region [.is _, .is _, .is _, .is _, .is _, .is _, .is _, .is _, .is _] [[], [0], [1], [2], [], [], [5], [3, 4, 6], [7]] (by kernel_rfl) (by kernel_rfl) (by kernel_rfl) rfl
  intro f a1 ha1
  simp only [putL, Act.put, List.setIfInBounds_toArray, List.set_cons_succ, List.set_cons_zero] at ha1
  subst ha1
  refine ⟨?_, ?_⟩
  · refine AllCalm.cons (fun W hB hd => ?_) ?_
    · go_wp2_with (fail)
      exact CalmQ.mk rfl _ rfl (Below.refl _ _) rfl
    refine AllCalm.cons (fun W hB hd => ?_) ?_
    · obtain ⟨h0, -⟩ := hd
      have h0 : f 0 = _ := h0
      rw [h0]
      go_wp2_with (fail)
      exact CalmQ.mk rfl _ rfl (Below.refl _ _) rfl
    refine AllCalm.cons (fun W hB hd => ?_) ?_
    · obtain ⟨h1, -⟩ := hd
      have h1 : f 1 = _ := h1
      rw [h1]
      go_wp2_with (fail)
      exact CalmQ.mk rfl _ rfl (Below.refl _ _) rfl
    refine AllCalm.cons (fun W hB hd => ?_) ?_
    · obtain ⟨h2, -⟩ := hd
      have h2 : f 2 = _ := h2
      rw [h2]
      have q0 := (hu2.below hB).c1
      go_wp2_with (fail)
      exact CalmQ.mk rfl _ rfl (Below.refl _ _) rfl
    refine AllCalm.cons (fun W hB hd => ?_) ?_
    · go_wp2_with (fail)
      exact CalmQ.mk rfl _ rfl (Below.refl _ _) rfl
    refine AllCalm.cons (fun W hB hd => ?_) ?_
    · go_wp2_with (fail)
      exact CalmQ.mk rfl _ rfl (Below.refl _ _) rfl
    refine AllCalm.cons (fun W hB hd => ?_) ?_
    · obtain ⟨h5, -⟩ := hd
      have h5 : f 5 = _ := h5
      rw [h5]
      have q0 := (mc.below hB mc.lt).cell 0
      go_wp2_with (fail)
      exact CalmQ.mk rfl _ rfl (Below.refl _ _) rfl
    refine AllCalm.cons (fun W hB hd => ?_) ?_
    · obtain ⟨h3, h4, h6, -⟩ := hd
      have h3 : f 3 = _ := h3
      have h4 : f 4 = _ := h4
      have h6 : f 6 = _ := h6
      rw [h3, h4, h6]
      have cW := cL W hB
      go_wp2_with ((go_at_call 22; (with_reducible refine cW.mono ?_); rintro e' w3 ⟨rfl, rfl⟩))
      exact CalmQ.mk rfl _ rfl (Below.refl _ _) rfl
    refine AllCalm.cons (fun W hB hd => ?_) ?_
    · obtain ⟨h7, -⟩ := hd
      have h7 : f 7 = _ := h7
      rw [h7]
      go_wp2_with (fail)
      exact CalmQ.mk rfl _ rfl (Below.refl _ _) rfl
    exact AllCalm.nil
  · intro W hB hT
    obtain ⟨h0, h1, h2, h3, h4, h5, h6, h7, h8, -⟩ := hT
    have h0 : f 0 = _ := h0
    have h1 : f 1 = _ := h1
    have h2 : f 2 = _ := h2
    have h3 : f 3 = _ := h3
    have h4 : f 4 = _ := h4
    have h5 : f 5 = _ := h5
    have h6 : f 6 = _ := h6
    have h7 : f 7 = _ := h7
    have h8 : f 8 = _ := h8
    rw [h0, h1, h2, h3, h4, h5, h6, h7, h8]
    clear h0 h1 h2 h3 h4 h5 h6 h7 h8
    have mcW := mc.below hB mc.lt
    have mrW := mr.below hB mr.lt
    have BW := b2.trans (hB.mono b2.size)
    have k0 := mcW.cell 0
    have cO := hon W BW
    go_wp2_with (first
      | (refine wpList_load_row rfl 26 (.tmp 5) rfl w.heap.size rfl 26 #[.int .i64 5, .int .i64 a, .int .i64 n, v, .int .u64 ck, .int .u64 cn, .int .i64 ct, .bool cf] (0, 0) _ mcW Try.underlying26 rfl (by kernel_rfl) ?_)
      | (go_at_call 23; (with_reducible refine cO.mono ?_); rintro e' w4 ⟨v4, M4, rfl, ⟨A4, c4, rfl, o4⟩, p4, u4, E4⟩; have mr4 := mrW.eff E4 (fun e => e.elim (fun e => (by have := hu.sp.data.lt; omega)) (fun e => (by have := hu.sp.map.lt; omega))))
      | (refine wpList_store_row rfl 31 (.tmp 6) (.tmp 62) rfl (w.heap.size + 1) #[.int .i64 s, .int .i64 k, .int .i64 c, .slice A4 l.length c4, .int .i64 i] rfl rfl 31 #[.int .i64 0, .int .i64 0, .int .i64 0, .slice none 0 0, .int .i64 0] mr4 (by kernel_rfl) (by kernel_rfl) (by kernel_rfl) ?_))
    have EF := eff_setRow w4 (w.heap.size + 1) #[.int .i64 s, .int .i64 k, .int .i64 c, .slice A4 l.length c4, .int .i64 i]
    have rF : Rep (w4.setRow (w.heap.size + 1) #[.int .i64 s, .int .i64 k, .int .i64 c, .slice A4 l.length c4, .int .i64 i]) w.heap.size (.agg #[.int .i64 s, .int .i64 k, .int .i64 c, .slice A4 l.length c4, .int .i64 i]) s k c i l := (Rep.box (show Rep w4 W.heap.size _ s k c i l from ⟨A4, c4, rfl, o4⟩) (mem_tag mr4) (by decide) EF).mono BW.size
    exact bodyPost_ret ((results_cell1 (p := 6) (ty := 31) rfl _ _ (w.heap.size + 1) 31 _ (0, 0) _ rfl (mr4.row #[.int .i64 s, .int .i64 k, .int .i64 c, .slice A4 l.length c4, .int .i64 i]) Try.underlying31 rfl (by kernel_rfl)).trans rfl) rfl ⟨_, M4, rfl, rF, p4, UnM.box u4 (mem_tag mr4) (by decide) (by decide) (by decide) (by decide) EF, (((Eff.of (S := SpS g h) BW).trans E4 fun _ _ h => h).trans EF fun i hi e => absurd hi (by omega))⟩
set_option maxHeartbeats 4000000 in
theorem do_blk6 (hu : UnM w B Z X g h Y N D M t hs) (H : Nat) (hH : H < 8) {A : Option Addr} {c0 : Nat} (hw : hs[3 * H]? = some (.slice A 0 c0)) (ht : t.holder = -1) (a n : Int) (v : Value) (ck cn ct : Int) (cf : Bool) {s k c i : Int} {l : List UInt8} {QM : List UInt8 → Prop} (hon : OnB w B Z X g h Y N t hs #[.int .i64 6, .int .i64 a, .int .i64 n, v, .int .u64 ck, .int .u64 cn, .int .i64 ct, .bool cf] s k c i l D' QM) : Calls Try.prog 12 #[.pointer (some ⟨Z, 0, none⟩), .int .i64 (H : Nat), .agg #[.int .i64 6, .int .i64 a, .int .i64 n, v, .int .u64 ck, .int .u64 cn, .int .i64 ct, .bool cf]] w fun e w' => ∃ v M', e = .returned v ∧ Rep w' w.heap.size v s k c i l ∧ QM M' ∧ UnM w' B Z X g h Y N D' M' t hs ∧ Eff (SpS g h) w w' := by
  obtain ⟨w2, e2, mc, mr, b2⟩ : ∃ w2, w2 = (w.alloc (.cells #[.int .i64 6, .int .i64 a, .int .i64 n, v, .int .u64 ck, .int .u64 cn, .int .i64 ct, .bool cf] 26)).alloc (.cells #[.int .i64 0, .int .i64 0, .int .i64 0, .slice none 0 0, .int .i64 0] 31) ∧ Mem w2 w.heap.size 26 #[.int .i64 6, .int .i64 a, .int .i64 n, v, .int .u64 ck, .int .u64 cn, .int .i64 ct, .bool cf] ∧ Mem w2 (w.heap.size + 1) 31 #[.int .i64 0, .int .i64 0, .int .i64 0, .slice none 0 0, .int .i64 0] ∧ Below w.heap.size w w2 := ⟨_, rfl, by
    have m0 := Mem.new w 26 #[.int .i64 6, .int .i64 a, .int .i64 n, v, .int .u64 ck, .int .u64 cn, .int .i64 ct, .bool cf]
    exact m0.below ((Below.refl _ _).alloc (Nat.le_refl _) _) m0.lt, by
    have m1 := Mem.new (w.alloc (.cells #[.int .i64 6, .int .i64 a, .int .i64 n, v, .int .u64 ck, .int .u64 cn, .int .i64 ct, .bool cf] 26)) 31 #[.int .i64 0, .int .i64 0, .int .i64 0, .slice none 0 0, .int .i64 0]
    rw [World.size_alloc] at m1
    exact m1, ((Below.refl _ w).alloc (Nat.le_refl _) _).alloc (by rw [World.size_alloc]; omega) _⟩
  have hu2 := hu.below b2
  have cH : ∀ W, Calls Try.prog 17 #[.int .i64 (H : Nat)] W fun e w' => e = .returned (.bool true) ∧ W = w' := fun W => by
    have q := isHost_any (H : Nat) W
    rw [decide_eq_true (by omega)] at q
    exact q
  have cK : ∀ W, Calls Try.prog 18 #[.int .i64 6] W fun e w' => e = .returned (.bool true) ∧ W = w' := fun W => isKind_any 6 W
  have cA := att_none hu2 H hH hw
  have cL : ∀ W, Below w2.heap.size w2 W → Calls Try.prog 22 #[.pointer (some ⟨Y, 0, none⟩), .int .i64 (H : Nat), .int .i64 6] W fun e w' => e = .returned (.bool true) ∧ W = w' := fun W hW => allows_free (hu2.below hW).tab ht _ _
  have k0 := mc.cell 0
  clear hH hw ht
  go_enter Try.func12, Try.ntmps12
  go_upto_region 1 with (fail)
  rw [← e2]
  clear e2
  go_upto_region 7 with (first
    | (go_at_call 17; (with_reducible refine (cH _).mono ?_); rintro e' w3 ⟨rfl, rfl⟩)
    | (go_at_call 18; (with_reducible refine (cK _).mono ?_); rintro e' w3 ⟨rfl, rfl⟩)
    | (go_at_call 20; (with_reducible refine cA.mono ?_); rintro e' w3 ⟨rfl, rfl⟩))
  apply calm_region [.is _, .is _, .is _, .is _, .is _, .is _, .is _, .is _, .is _] [[], [0], [1], [2], [], [], [5], [3, 4, 6], [7]] (by kernel_rfl) (by kernel_rfl) (by kernel_rfl) rfl
  intro f a1 ha1
  simp only [putL, Act.put, List.setIfInBounds_toArray, List.set_cons_succ, List.set_cons_zero] at ha1
  subst ha1
  refine ⟨?_, ?_⟩
  · refine AllCalm.cons (fun W hB hd => ?_) ?_
    · go_wp2_with (fail)
      exact CalmQ.mk rfl _ rfl (Below.refl _ _) rfl
    refine AllCalm.cons (fun W hB hd => ?_) ?_
    · obtain ⟨h0, -⟩ := hd
      have h0 : f 0 = _ := h0
      rw [h0]
      go_wp2_with (fail)
      exact CalmQ.mk rfl _ rfl (Below.refl _ _) rfl
    refine AllCalm.cons (fun W hB hd => ?_) ?_
    · obtain ⟨h1, -⟩ := hd
      have h1 : f 1 = _ := h1
      rw [h1]
      go_wp2_with (fail)
      exact CalmQ.mk rfl _ rfl (Below.refl _ _) rfl
    refine AllCalm.cons (fun W hB hd => ?_) ?_
    · obtain ⟨h2, -⟩ := hd
      have h2 : f 2 = _ := h2
      rw [h2]
      have q0 := (hu2.below hB).c1
      go_wp2_with (fail)
      exact CalmQ.mk rfl _ rfl (Below.refl _ _) rfl
    refine AllCalm.cons (fun W hB hd => ?_) ?_
    · go_wp2_with (fail)
      exact CalmQ.mk rfl _ rfl (Below.refl _ _) rfl
    refine AllCalm.cons (fun W hB hd => ?_) ?_
    · go_wp2_with (fail)
      exact CalmQ.mk rfl _ rfl (Below.refl _ _) rfl
    refine AllCalm.cons (fun W hB hd => ?_) ?_
    · obtain ⟨h5, -⟩ := hd
      have h5 : f 5 = _ := h5
      rw [h5]
      have q0 := (mc.below hB mc.lt).cell 0
      go_wp2_with (fail)
      exact CalmQ.mk rfl _ rfl (Below.refl _ _) rfl
    refine AllCalm.cons (fun W hB hd => ?_) ?_
    · obtain ⟨h3, h4, h6, -⟩ := hd
      have h3 : f 3 = _ := h3
      have h4 : f 4 = _ := h4
      have h6 : f 6 = _ := h6
      rw [h3, h4, h6]
      have cW := cL W hB
      go_wp2_with ((go_at_call 22; (with_reducible refine cW.mono ?_); rintro e' w3 ⟨rfl, rfl⟩))
      exact CalmQ.mk rfl _ rfl (Below.refl _ _) rfl
    refine AllCalm.cons (fun W hB hd => ?_) ?_
    · obtain ⟨h7, -⟩ := hd
      have h7 : f 7 = _ := h7
      rw [h7]
      go_wp2_with (fail)
      exact CalmQ.mk rfl _ rfl (Below.refl _ _) rfl
    exact AllCalm.nil
  · intro W hB hT
    obtain ⟨h0, h1, h2, h3, h4, h5, h6, h7, h8, -⟩ := hT
    have h0 : f 0 = _ := h0
    have h1 : f 1 = _ := h1
    have h2 : f 2 = _ := h2
    have h3 : f 3 = _ := h3
    have h4 : f 4 = _ := h4
    have h5 : f 5 = _ := h5
    have h6 : f 6 = _ := h6
    have h7 : f 7 = _ := h7
    have h8 : f 8 = _ := h8
    rw [h0, h1, h2, h3, h4, h5, h6, h7, h8]
    clear h0 h1 h2 h3 h4 h5 h6 h7 h8
    have mcW := mc.below hB mc.lt
    have mrW := mr.below hB mr.lt
    have BW := b2.trans (hB.mono b2.size)
    have k0 := mcW.cell 0
    have cO := hon W BW
    go_wp2_with (first
      | (refine wpList_load_row rfl 26 (.tmp 5) rfl w.heap.size rfl 26 #[.int .i64 6, .int .i64 a, .int .i64 n, v, .int .u64 ck, .int .u64 cn, .int .i64 ct, .bool cf] (0, 0) _ mcW Try.underlying26 rfl (by kernel_rfl) ?_)
      | (go_at_call 23; (with_reducible refine cO.mono ?_); rintro e' w4 ⟨v4, M4, rfl, ⟨A4, c4, rfl, o4⟩, p4, u4, E4⟩; have mr4 := mrW.eff E4 (fun e => e.elim (fun e => (by have := hu.sp.data.lt; omega)) (fun e => (by have := hu.sp.map.lt; omega))))
      | (refine wpList_store_row rfl 31 (.tmp 6) (.tmp 62) rfl (w.heap.size + 1) #[.int .i64 s, .int .i64 k, .int .i64 c, .slice A4 l.length c4, .int .i64 i] rfl rfl 31 #[.int .i64 0, .int .i64 0, .int .i64 0, .slice none 0 0, .int .i64 0] mr4 (by kernel_rfl) (by kernel_rfl) (by kernel_rfl) ?_))
    have EF := eff_setRow w4 (w.heap.size + 1) #[.int .i64 s, .int .i64 k, .int .i64 c, .slice A4 l.length c4, .int .i64 i]
    have rF : Rep (w4.setRow (w.heap.size + 1) #[.int .i64 s, .int .i64 k, .int .i64 c, .slice A4 l.length c4, .int .i64 i]) w.heap.size (.agg #[.int .i64 s, .int .i64 k, .int .i64 c, .slice A4 l.length c4, .int .i64 i]) s k c i l := (Rep.box (show Rep w4 W.heap.size _ s k c i l from ⟨A4, c4, rfl, o4⟩) (mem_tag mr4) (by decide) EF).mono BW.size
    exact bodyPost_ret ((results_cell1 (p := 6) (ty := 31) rfl _ _ (w.heap.size + 1) 31 _ (0, 0) _ rfl (mr4.row #[.int .i64 s, .int .i64 k, .int .i64 c, .slice A4 l.length c4, .int .i64 i]) Try.underlying31 rfl (by kernel_rfl)).trans rfl) rfl ⟨_, M4, rfl, rF, p4, UnM.box u4 (mem_tag mr4) (by decide) (by decide) (by decide) (by decide) EF, (((Eff.of (S := SpS g h) BW).trans E4 fun _ _ h => h).trans EF fun i hi e => absurd hi (by omega))⟩
end
end Un
end Go.Proofs.Ytflodljccloobaa
