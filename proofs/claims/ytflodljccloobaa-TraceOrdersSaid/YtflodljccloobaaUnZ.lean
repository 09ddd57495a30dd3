/- Package lu: onBlocks: compare of no blocks. Written by tools/gen-un3.py. -/
import Derived.Test.YtflodljccloobaaUn3
import Derived.Deep.RegionLaw
namespace Go.Proofs.Ytflodljccloobaa
open Go.ChangeShapes Go.WideShapes Go.ChangeAt Go.RowKit Go.Lib
set_option linter.unusedVariables false
set_option linter.unusedSimpArgs false
set_option maxRecDepth 100000
namespace Un
open Rv
section
variable {w w' : World} {B Z X g h Y N : Nat} {D D' M M' : List UInt8} {t t' : RT} {hs : List Value}
set_option maxHeartbeats 1000000 in
theorem compare_zero (a : Nat) (v : Value) (hn : SpInv w B X g h N D M) (hd : Sl w w.heap.size v 0 (bs [])) (ha : a ≤ N) : Calls Try.prog 33 #[.pointer (some ⟨X, 0, none⟩), .int .i64 (a : Nat), v] w fun e w' => e = .returned (.tuple #[.int .i64 (-1), .int .i64 0]) ∧ ∃ M', runTo M a 0 true M' ∧ SpInv w' B X g h N (laid D a []) M' ∧ Eff (SpS g h) w w' := by
  have hin := in_any (a : Int) 0 hn (by omega)
  have hi : inB N (a : Int) 0 = true := decide_eq_true (by omega)
  rw [hi] at hin
  have hby0 := bytes_any a 0 hn (by omega)
  have hby : Calls Try.prog 52 #[.pointer (some ⟨X, 0, none⟩), .int .i64 (a : Nat), .int .i64 0] w _ := hby0
  clear hby0
  obtain ⟨A, c, rfl, hc1, hc2⟩ := hd.form
  have hw := write_ok a 0 _ [] hn hd rfl (by omega) (by omega)
  have hcm : (c : Int) ≤ 9223372036854775807 := by unfold maxLen at hc2; omega
  clear hi hd hn
  go_enter Try.func33, Try.ntmps33
  go_wp2_with (first
    | (go_at_call 31; (with_reducible refine hin.mono ?_); rintro e w1 ⟨rfl, rfl⟩)
    | (go_at_call 52; (with_reducible refine hby.mono ?_); rintro e w2 ⟨off, cb, rfl, h5, h6, h7, h8, rfl⟩))
  go_loopw [32] (fun i wr => i = .int .i64 0 ∧ w = wr) (fun _ _ => 0)
  case atStart => exact ⟨rfl, rfl⟩
  case round =>
    obtain ⟨rfl, rfl⟩ := hrel
    go_wp2_with (go_at_call 34; (with_reducible refine hw.mono ?_); rintro e w4 ⟨rfl, M4, hr4, hs4, he4⟩)
    go_ret2
    exact ⟨by trivial, M4, hr4, hs4, he4⟩
set_option maxHeartbeats 2000000 in
theorem onb_cmp_zero (hu : UnM w B Z X g h Y N D M t hs) (a n : Nat) (l : List UInt8) (v : Value) (ck cn ct : Int) (cf : Bool) (h3 : n ≤ 32) (ha : a + n ≤ N) (hv : Sl w w.heap.size v l.length (bs l)) (hl : l.length = n * 16) (h0 : n = 0) : Calls Try.prog 23 #[.pointer (some ⟨Z, 0, none⟩), .agg #[.int .i64 6, .int .i64 (a : Nat), .int .i64 (n : Nat), v, .int .u64 ck, .int .u64 cn, .int .i64 ct, .bool cf]] w fun e w' => ∃ v, e = .returned v ∧ Rep w' w.heap.size v 0 0 0 0 [] ∧ ∃ M', runTo M a n true M' ∧ SpInv w' B X g h N (laid D a []) M' ∧ Eff (SpS g h) w w' := by
  obtain ⟨A, c, rfl, _, _⟩ := hv.form
  obtain ⟨m8, hm8⟩ : ∃ m8, n * 8 = m8 := ⟨_, rfl⟩
  obtain ⟨m16, hm16⟩ : ∃ m16, 2 * m8 = m16 := ⟨_, rfl⟩
  have hlm : l.length = m16 := by omega
  rw [hlm] at hv ⊢
  have hz : ∀ W, Below w.heap.size w W → Sl W W.heap.size (.slice A m16 c) 0 (bs []) := fun W hW => by
    have e : m16 = 0 := by omega
    have e2 : l = [] := List.eq_nil_of_length_eq_zero (by omega)
    have q := hv.now hW
    rw [e2, e] at q
    rw [e]
    exact q
  obtain ⟨w2, e2, mc, mr, b2⟩ : ∃ w2, w2 = (w.alloc (.cells #[.int .i64 6, .int .i64 (a : Nat), .int .i64 (n : Nat), .slice A m16 c, .int .u64 ck, .int .u64 cn, .int .i64 ct, .bool cf] 26)).alloc (.cells #[.int .i64 0, .int .i64 0, .int .i64 0, .slice none 0 0, .int .i64 0] 31) ∧ Mem w2 w.heap.size 26 #[.int .i64 6, .int .i64 (a : Nat), .int .i64 (n : Nat), .slice A m16 c, .int .u64 ck, .int .u64 cn, .int .i64 ct, .bool cf] ∧ Mem w2 (w.heap.size + 1) 31 #[.int .i64 0, .int .i64 0, .int .i64 0, .slice none 0 0, .int .i64 0] ∧ Below w.heap.size w w2 := ⟨_, rfl, by
    have m0 := Mem.new w 26 #[.int .i64 6, .int .i64 (a : Nat), .int .i64 (n : Nat), .slice A m16 c, .int .u64 ck, .int .u64 cn, .int .i64 ct, .bool cf]
    exact m0.below ((Below.refl _ _).alloc (Nat.le_refl _) _) m0.lt, by
    have m1 := Mem.new (w.alloc (.cells #[.int .i64 6, .int .i64 (a : Nat), .int .i64 (n : Nat), .slice A m16 c, .int .u64 ck, .int .u64 cn, .int .i64 ct, .bool cf] 26)) 31 #[.int .i64 0, .int .i64 0, .int .i64 0, .slice none 0 0, .int .i64 0]
    rw [World.size_alloc] at m1
    exact m1, ((Below.refl _ w).alloc (Nat.le_refl _) _).alloc (by rw [World.size_alloc]; omega) _⟩
  have cIn : ∀ W, Below w.heap.size w W → Calls Try.prog 31 #[.pointer (some ⟨X, 0, none⟩), .int .i64 (a : Nat), .int .i64 (n : Nat)] W fun e w' => e = .returned (.bool true) ∧ W = w' := fun W hW => by
    have q := in_all (a : Nat) (n : Nat) (by omega) (hu.sp.below hW)
    rw [show inB N (a : Nat) (n : Nat) = true from by unfold inB; exact decide_eq_true (by omega)] at q
    exact q
  have hnx : (n : Int) ≤ 32 := by omega
  have hmx : (n : Int) * 8 = (m8 : Int) := by omega
  have hmy : 2 * (m8 : Int) = (m16 : Int) := by omega
  have cC : ∀ W, Below w.heap.size w W → Calls Try.prog 33 #[.pointer (some ⟨X, 0, none⟩), .int .i64 (a : Nat), .slice A m16 c] W fun e w' => e = .returned (.tuple #[.int .i64 (-1), .int .i64 0]) ∧ ∃ M', runTo M a n true M' ∧ SpInv w' B X g h N (laid D a []) M' ∧ Eff (SpS g h) W w' := fun W hW => (compare_zero a (.slice A m16 c) (hu.sp.below hW) (hz W hW) (by omega)).mono fun e w' ⟨q1, M', q2, q3, q4⟩ => ⟨q1, M', (by rw [h0]; exact q2), q3, q4⟩
  have cG : ∀ W, Calls Try.prog 24 #[.slice none 0 0] W fun e w' => ∃ A c, e = .returned (.agg #[.int .i64 0, .int .i64 0, .int .i64 0, .slice A 0 c, .int .i64 0]) ∧ w'.ownsRow W.heap.size 5 1 (.slice A 0 c) 0 (bs []) ∧ Below W.heap.size W w' := fun W => good_any (.slice none 0 0) [] (by decide) W Sl.nil_
  clear hl hm8 hm16 hlm hv h0 hz
  go_enter Try.func23, Try.ntmps23
  go_upto_region 1 with (fail)
  rw [← e2]
  clear e2
  apply calm_region [.is _, .is _, .is _, .is _, .is _, .is _, .is _, .is _, .is _, .is _, .is _, .is _, .is _, .is _, .is _] [[], [0], [1], [2], [3], [4, 3], [5, 3], [6, 3], [3], [8, 3], [3], [10, 3], [7, 9, 11, 3, 3], [12, 3], [3, 13]] (by kernel_rfl) (by kernel_rfl) (by kernel_rfl) rfl
  intro f a1 ha1
  simp only [putL, Act.put, List.setIfInBounds_toArray, List.set_cons_succ, List.set_cons_zero] at ha1
  subst ha1
  refine ⟨?_, ?_⟩
  · refine AllCalm.cons (fun W hB hd => ?_) ?_
    · go_wp2_with (fail)
      exact CalmQ.mk rfl _ rfl (Below.refl _ _) rfl
    refine AllCalm.cons (fun W hB hd => ?_) ?_
    · obtain ⟨h0, -⟩ := hd
      have h0 : f 0 = _ := h0
      rw [h0]
      have q0 := (mc.below hB mc.lt).cell 0
      go_wp2_with (fail)
      exact CalmQ.mk rfl _ rfl (Below.refl _ _) rfl
    refine AllCalm.cons (fun W hB hd => ?_) ?_
    · obtain ⟨h1, -⟩ := hd
      have h1 : f 1 = _ := h1
      rw [h1]
      go_wp2_with (fail)
      exact CalmQ.mk rfl _ rfl (Below.refl _ _) rfl
    refine AllCalm.cons (fun W hB hd => ?_) ?_
    · obtain ⟨h2, -⟩ := hd
      have h2 : f 2 = _ := h2
      rw [h2]
      go_wp2_with (fail)
      exact CalmQ.mk rfl _ rfl (Below.refl _ _) rfl
    refine AllCalm.cons (fun W hB hd => ?_) ?_
    · obtain ⟨h3, -⟩ := hd
      have h3 : f 3 = _ := h3
      rw [h3]
      go_wp2_with (fail)
      exact CalmQ.mk rfl _ rfl (Below.refl _ _) rfl
    refine AllCalm.cons (fun W hB hd => ?_) ?_
    · obtain ⟨h4, h3, -⟩ := hd
      have h4 : f 4 = _ := h4
      have h3 : f 3 = _ := h3
      rw [h4, h3]
      go_wp2_with (fail)
      exact CalmQ.mk rfl _ rfl (Below.refl _ _) rfl
    refine AllCalm.cons (fun W hB hd => ?_) ?_
    · obtain ⟨h5, h3, -⟩ := hd
      have h5 : f 5 = _ := h5
      have h3 : f 3 = _ := h3
      rw [h5, h3]
      go_wp2_with (fail)
      exact CalmQ.mk rfl _ rfl (Below.refl _ _) rfl
    refine AllCalm.cons (fun W hB hd => ?_) ?_
    · obtain ⟨h6, h3, -⟩ := hd
      have h6 : f 6 = _ := h6
      have h3 : f 3 = _ := h3
      rw [h6, h3]
      have q0 := (hu.below (b2.trans (hB.mono b2.size))).c0
      go_wp2_with (fail)
      exact CalmQ.mk rfl _ rfl (Below.refl _ _) rfl
    refine AllCalm.cons (fun W hB hd => ?_) ?_
    · obtain ⟨h3, -⟩ := hd
      have h3 : f 3 = _ := h3
      rw [h3]
      go_wp2_with (fail)
      exact CalmQ.mk rfl _ rfl (Below.refl _ _) rfl
    refine AllCalm.cons (fun W hB hd => ?_) ?_
    · obtain ⟨h8, h3, -⟩ := hd
      have h8 : f 8 = _ := h8
      have h3 : f 3 = _ := h3
      rw [h8, h3]
      have q0 := (mc.below hB mc.lt).cell 1
      go_wp2_with (fail)
      exact CalmQ.mk rfl _ rfl (Below.refl _ _) rfl
    refine AllCalm.cons (fun W hB hd => ?_) ?_
    · obtain ⟨h3, -⟩ := hd
      have h3 : f 3 = _ := h3
      rw [h3]
      go_wp2_with (fail)
      exact CalmQ.mk rfl _ rfl (Below.refl _ _) rfl
    refine AllCalm.cons (fun W hB hd => ?_) ?_
    · obtain ⟨h10, h3, -⟩ := hd
      have h10 : f 10 = _ := h10
      have h3 : f 3 = _ := h3
      rw [h10, h3]
      have q0 := (mc.below hB mc.lt).cell 2
      go_wp2_with (fail)
      exact CalmQ.mk rfl _ rfl (Below.refl _ _) rfl
    refine AllCalm.cons (fun W hB hd => ?_) ?_
    · obtain ⟨h7, h9, h11, h3, -, -⟩ := hd
      have h7 : f 7 = _ := h7
      have h9 : f 9 = _ := h9
      have h11 : f 11 = _ := h11
      have h3 : f 3 = _ := h3
      rw [h7, h9, h11, h3]
      have cW := cIn W (b2.trans (hB.mono b2.size))
      go_wp2_with ((go_at_call 31; (with_reducible refine cW.mono ?_); rintro e' w3 ⟨rfl, rfl⟩))
      exact CalmQ.mk rfl _ rfl (Below.refl _ _) rfl
    refine AllCalm.cons (fun W hB hd => ?_) ?_
    · obtain ⟨h12, h3, -⟩ := hd
      have h12 : f 12 = _ := h12
      have h3 : f 3 = _ := h3
      rw [h12, h3]
      go_wp2_with (fail)
      exact CalmQ.mk rfl _ rfl (Below.refl _ _) rfl
    refine AllCalm.cons (fun W hB hd => ?_) ?_
    · obtain ⟨h3, h13, -⟩ := hd
      have h3 : f 3 = _ := h3
      have h13 : f 13 = _ := h13
      rw [h3, h13]
      go_wp2_with (fail)
      exact CalmQ.mk rfl _ rfl (Below.refl _ _) rfl
    exact AllCalm.nil
  · intro W hB hT
    obtain ⟨h0, h1, h2, h3, h4, h5, h6, h7, h8, h9, h10, h11, h12, h13, h14, -⟩ := hT
    have h0 : f 0 = _ := h0
    have h1 : f 1 = _ := h1
    have h2 : f 2 = _ := h2
    have h3 : f 3 = _ := h3
    have h4 : f 4 = _ := h4
    have h5 : f 5 = _ := h5
    have h6 : f 6 = _ := h6
    have h7 : f 7 = _ := h7
    have h8 : f 8 = _ := h8
    have h9 : f 9 = _ := h9
    have h10 : f 10 = _ := h10
    have h11 : f 11 = _ := h11
    have h12 : f 12 = _ := h12
    have h13 : f 13 = _ := h13
    have h14 : f 14 = _ := h14
    rw [h0, h1, h2, h3, h4, h5, h6, h7, h8, h9, h10, h11, h12, h13, h14]
    clear h0 h1 h2 h3 h4 h5 h6 h7 h8 h9 h10 h11 h12 h13 h14
    have mrW := mr.below hB mr.lt
    have mcW := mc.below hB mc.lt
    have BW := b2.trans (hB.mono b2.size)
    have k0 := mcW.cell 0
    have k2 := mcW.cell 2
    have k3 := mcW.cell 3
    generalize W = W0 at *
    go_upto_region 15 with (fail)
    have y0 : W0.drew.cell? ⟨Z, 0, none⟩ = some (.pointer (some ⟨X, 0, none⟩)) := (hu.below BW).c0
    have y1 : W0.drew.cell? ⟨w.heap.size, 1, none⟩ = some (.int .i64 (a : Nat)) := mcW.cell 1
    have y3 : W0.drew.cell? ⟨w.heap.size, 3, none⟩ = some (.slice A m16 c) := mcW.cell 3
    have BWV : Below w.heap.size w W0.drew := BW.drew
    have mrV : Mem W0.drew (w.heap.size + 1) 31 #[.int .i64 0, .int .i64 0, .int .i64 0, .slice none 0 0, .int .i64 0] := mrW
    have cCV := cC _ BWV
    go_region_law (rw [if_pos (by rfl)]; go_simp; go_at_call 33; (with_reducible refine cCV.mono ?_); rintro e' w5 ⟨rfl, M5, r5, s5, E5⟩; dsimp only)
    all_goals
      have mr5 := mrV.eff E5 (fun e => e.elim (fun e => (by have := hu.sp.data.lt; omega)) (fun e => (by have := hu.sp.map.lt; omega)))
      go_wp2_with (first
        | (go_at_call 24; (with_reducible refine (cG _).mono ?_); rintro e' w4 ⟨A4, c4, rfl, o4, b4⟩; have mr4 := mr5.below b4 mr5.lt)
        | (refine wpList_store_row rfl 31 (.tmp 4) (.tmp 108) rfl (w.heap.size + 1) #[.int .i64 0, .int .i64 0, .int .i64 0, .slice A4 0 c4, .int .i64 0] rfl rfl 31 #[.int .i64 0, .int .i64 0, .int .i64 0, .slice none 0 0, .int .i64 0] mr4 (by kernel_rfl) (by kernel_rfl) (by kernel_rfl) ?_))
      try rw [Exit.noGoto_ret]
      have E2 : Eff (SpS g h) w w5 := (Eff.of (S := SpS g h) BWV).trans E5 fun _ _ h => h
      have s4 := s5.below b4
      have s6 : SpInv (w4.setRow (w.heap.size + 1) #[.int .i64 0, .int .i64 0, .int .i64 0, .slice A4 0 c4, .int .i64 0]) B X g h N _ M5 := SpInv.eff s4 (eff_setRow w4 (w.heap.size + 1) #[.int .i64 0, .int .i64 0, .int .i64 0, .slice A4 0 c4, .int .i64 0]) (by have := hu.sp.mem.lt; omega) (by have := hu.sp.data.lt; omega) (by have := hu.sp.map.lt; omega)
      exact bodyPost_ret ((results_cell1 (p := 4) (ty := 31) rfl _ _ (w.heap.size + 1) 31 _ (0, 0) _ rfl (mr4.row #[.int .i64 0, .int .i64 0, .int .i64 0, .slice A4 0 c4, .int .i64 0]) Try.underlying31 rfl (by kernel_rfl)).trans rfl) rfl ⟨_, rfl, rep_end (w0 := w5) (l := []) mr4 o4 E2.size, M5, r5, s6, ((E2.trans (Eff.of (S := fun _ => False) b4) fun _ _ h => h.elim).trans (eff_setRow w4 (w.heap.size + 1) #[.int .i64 0, .int .i64 0, .int .i64 0, .slice A4 0 c4, .int .i64 0]) fun i hi e => absurd hi (by omega))⟩
end
end Un
end Go.Proofs.Ytflodljccloobaa
