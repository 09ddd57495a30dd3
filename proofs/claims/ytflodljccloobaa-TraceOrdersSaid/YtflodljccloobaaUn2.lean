/- Package lu: onBlocks, each kind. Written by tools/gen-un2.py. -/
import Derived.Test.YtflodljccloobaaUn1
namespace Go.Proofs.Ytflodljccloobaa
open Go.ChangeShapes Go.WideShapes Go.ChangeAt Go.RowKit Go.Lib
set_option linter.unusedVariables false
set_option linter.unusedSimpArgs false
set_option maxRecDepth 100000
namespace Un
open Rv
/-- A reply, its data a row since B. -/
def Rep (W : World) (B : Nat) (v : Value) (s k c i : Int) (l : List UInt8) : Prop := ∃ A cap, v = .agg #[.int .i64 s, .int .i64 k, .int .i64 c, .slice A l.length cap, .int .i64 i] ∧ W.ownsRow B 5 1 (.slice A l.length cap) l.length (bs l)
theorem Rep.below {W W' : World} {B : Nat} {v : Value} {s k c i : Int} {l : List UInt8} (h : Rep W B v s k c i l) (hb : Below W.heap.size W W') : Rep W' B v s k c i l := by
  obtain ⟨A, cap, h1, h2⟩ := h
  exact ⟨A, cap, h1, owns_below h2 hb⟩
theorem Rep.mono {W : World} {B B' : Nat} {v : Value} {s k c i : Int} {l : List UInt8} (h : Rep W B v s k c i l) (hb : B' ≤ B) : Rep W B' v s k c i l := by
  obtain ⟨A, cap, h1, h2⟩ := h
  exact ⟨A, cap, h1, owns_mono h2 hb⟩
section
variable {w w' : World} {B Z X g h Y N : Nat} {D D' M M' : List UInt8} {t t' : RT} {hs : List Value}
theorem in_neg (a n : Int) (hn : n < 0) (hu : SpInv w B X g h N D M) : Calls Try.prog 31 #[.pointer (some ⟨X, 0, none⟩), .int .i64 a, .int .i64 n] w fun e w' => e = .returned (.bool (inB N a n)) ∧ w = w' := by
  have e : inB N a n = false := by unfold inB; exact decide_eq_false fun h => by omega
  rw [e]
  go_enter Try.func31, Try.ntmps31
  go_wp2
  go_ret
  exact ⟨rfl, rfl⟩
theorem in_all (a n : Int) (hn : n ≤ 9223372036854775807) (hu : SpInv w B X g h N D M) : Calls Try.prog 31 #[.pointer (some ⟨X, 0, none⟩), .int .i64 a, .int .i64 n] w fun e w' => e = .returned (.bool (inB N a n)) ∧ w = w' := by
  by_cases h0 : n < 0
  · exact in_neg a n h0 hu
  · exact in_any a n hu ⟨by omega, hn⟩
/-- What a reply's cell is told as. -/
theorem rep_end {W w0 : World} {s k c i : Int} {A : Option Addr} {cap : Nat} {l : List UInt8} (hm : Mem W (w.heap.size + 1) 31 #[.int .i64 0, .int .i64 0, .int .i64 0, .slice none 0 0, .int .i64 0]) (ho : W.ownsRow w0.heap.size 5 1 (.slice A l.length cap) l.length (bs l)) (h0 : w.heap.size ≤ w0.heap.size) : Rep (W.setRow (w.heap.size + 1) #[.int .i64 s, .int .i64 k, .int .i64 c, .slice A l.length cap, .int .i64 i]) w.heap.size (.agg #[.int .i64 s, .int .i64 k, .int .i64 c, .slice A l.length cap, .int .i64 i]) s k c i l :=
  ⟨A, cap, rfl, owns_mono (owns_eff ho (eff_setRow W _ _) fun q hq e => (own_tag ho q hq).2.2.ne (mem_tag hm) (by decide) e) h0⟩
set_option maxHeartbeats 2000000 in
theorem onb_range (hu : UnM w B Z X g h Y N D M t hs) (kd a n : Int) (v : Value) (ck cn ct : Int) (cf : Bool) (hk : kd ≠ 1) (hn : n ≤ 9223372036854775807) (hi : inB N a n = false) : Calls Try.prog 23 #[.pointer (some ⟨Z, 0, none⟩), .agg #[.int .i64 kd, .int .i64 a, .int .i64 n, v, .int .u64 ck, .int .u64 cn, .int .i64 ct, .bool cf]] w fun e w' => ∃ v, e = .returned v ∧ Rep w' w.heap.size v 2 5 8448 0 [] ∧ Below w.heap.size w w' := by
  obtain ⟨w2, e2, mc, mr, b2⟩ : ∃ w2, w2 = (w.alloc (.cells #[.int .i64 kd, .int .i64 a, .int .i64 n, v, .int .u64 ck, .int .u64 cn, .int .i64 ct, .bool cf] 26)).alloc (.cells #[.int .i64 0, .int .i64 0, .int .i64 0, .slice none 0 0, .int .i64 0] 31) ∧ Mem w2 w.heap.size 26 #[.int .i64 kd, .int .i64 a, .int .i64 n, v, .int .u64 ck, .int .u64 cn, .int .i64 ct, .bool cf] ∧ Mem w2 (w.heap.size + 1) 31 #[.int .i64 0, .int .i64 0, .int .i64 0, .slice none 0 0, .int .i64 0] ∧ Below w.heap.size w w2 := ⟨_, rfl, by
    have m0 := Mem.new w 26 #[.int .i64 kd, .int .i64 a, .int .i64 n, v, .int .u64 ck, .int .u64 cn, .int .i64 ct, .bool cf]
    exact m0.below ((Below.refl _ _).alloc (Nat.le_refl _) _) m0.lt, by
    have m1 := Mem.new (w.alloc (.cells #[.int .i64 kd, .int .i64 a, .int .i64 n, v, .int .u64 ck, .int .u64 cn, .int .i64 ct, .bool cf] 26)) 31 #[.int .i64 0, .int .i64 0, .int .i64 0, .slice none 0 0, .int .i64 0]
    rw [World.size_alloc] at m1
    exact m1, ((Below.refl _ w).alloc (Nat.le_refl _) _).alloc (by rw [World.size_alloc]; omega) _⟩
  have cIn : ∀ W, Below w.heap.size w W → Calls Try.prog 31 #[.pointer (some ⟨X, 0, none⟩), .int .i64 a, .int .i64 n] W fun e w' => e = .returned (.bool false) ∧ W = w' := fun W hW => by
    have q := in_all a n hn (hu.sp.below hW)
    rw [hi] at q
    exact q
  clear hn hi
  go_enter Try.func23, Try.ntmps23
  go_upto_region 1 with (fail)
  rw [← e2]
  clear e2
  apply calm_region [.is _, .is _, .is _, .is _, .is _, .is _, .is _, .is _, .is _, .is _, .is _, .is _, .is _, .is _, .is _] [[], [0], [1], [2], [3], [4, 3], [5, 3], [6, 3], [3], [8, 3], [3], [10, 3], [7, 9, 11, 3, 3], [12, 3], [3, 13]] (by kernel_rfl) (by kernel_rfl) (by kernel_rfl) rfl
  intro f a1 ha1
  simp only [putL, Act.put, List.setIfInBounds_toArray, List.set_cons_succ, List.set_cons_zero] at ha1
  subst ha1
  refine ⟨?_, ?_⟩
  · refine AllCalm.cons (fun W hB hd => ?_) ?_
    · go_wp2_with (fail)
      exact CalmQ.mk rfl _ rfl (Below.refl _ _) rfl
    refine AllCalm.cons (fun W hB hd => ?_) ?_
    · obtain ⟨h0, -⟩ := hd
      have h0 : f 0 = _ := h0
      rw [h0]
      have q0 := (mc.below hB mc.lt).cell 0
      go_wp2_with (fail)
      exact CalmQ.mk rfl _ rfl (Below.refl _ _) rfl
    refine AllCalm.cons (fun W hB hd => ?_) ?_
    · obtain ⟨h1, -⟩ := hd
      have h1 : f 1 = _ := h1
      rw [h1]
      go_wp2_with (fail)
      exact CalmQ.mk rfl _ rfl (Below.refl _ _) rfl
    refine AllCalm.cons (fun W hB hd => ?_) ?_
    · obtain ⟨h2, -⟩ := hd
      have h2 : f 2 = _ := h2
      rw [h2]
      go_wp2_with (fail)
      exact CalmQ.mk rfl _ rfl (Below.refl _ _) rfl
    refine AllCalm.cons (fun W hB hd => ?_) ?_
    · obtain ⟨h3, -⟩ := hd
      have h3 : f 3 = _ := h3
      rw [h3]
      go_wp2_with (fail)
      exact CalmQ.mk rfl _ rfl (Below.refl _ _) rfl
    refine AllCalm.cons (fun W hB hd => ?_) ?_
    · obtain ⟨h4, h3, -⟩ := hd
      have h4 : f 4 = _ := h4
      have h3 : f 3 = _ := h3
      rw [h4, h3]
      go_wp2_with (fail)
      exact CalmQ.mk rfl _ rfl (Below.refl _ _) rfl
    refine AllCalm.cons (fun W hB hd => ?_) ?_
    · obtain ⟨h5, h3, -⟩ := hd
      have h5 : f 5 = _ := h5
      have h3 : f 3 = _ := h3
      rw [h5, h3]
      go_wp2_with (fail)
      exact CalmQ.mk rfl _ rfl (Below.refl _ _) rfl
    refine AllCalm.cons (fun W hB hd => ?_) ?_
    · obtain ⟨h6, h3, -⟩ := hd
      have h6 : f 6 = _ := h6
      have h3 : f 3 = _ := h3
      rw [h6, h3]
      have q0 := (hu.below (b2.trans (hB.mono b2.size))).c0
      go_wp2_with (fail)
      exact CalmQ.mk rfl _ rfl (Below.refl _ _) rfl
    refine AllCalm.cons (fun W hB hd => ?_) ?_
    · obtain ⟨h3, -⟩ := hd
      have h3 : f 3 = _ := h3
      rw [h3]
      go_wp2_with (fail)
      exact CalmQ.mk rfl _ rfl (Below.refl _ _) rfl
    refine AllCalm.cons (fun W hB hd => ?_) ?_
    · obtain ⟨h8, h3, -⟩ := hd
      have h8 : f 8 = _ := h8
      have h3 : f 3 = _ := h3
      rw [h8, h3]
      have q0 := (mc.below hB mc.lt).cell 1
      go_wp2_with (fail)
      exact CalmQ.mk rfl _ rfl (Below.refl _ _) rfl
    refine AllCalm.cons (fun W hB hd => ?_) ?_
    · obtain ⟨h3, -⟩ := hd
      have h3 : f 3 = _ := h3
      rw [h3]
      go_wp2_with (fail)
      exact CalmQ.mk rfl _ rfl (Below.refl _ _) rfl
    refine AllCalm.cons (fun W hB hd => ?_) ?_
    · obtain ⟨h10, h3, -⟩ := hd
      have h10 : f 10 = _ := h10
      have h3 : f 3 = _ := h3
      rw [h10, h3]
      have q0 := (mc.below hB mc.lt).cell 2
      go_wp2_with (fail)
      exact CalmQ.mk rfl _ rfl (Below.refl _ _) rfl
    refine AllCalm.cons (fun W hB hd => ?_) ?_
    · obtain ⟨h7, h9, h11, h3, -, -⟩ := hd
      have h7 : f 7 = _ := h7
      have h9 : f 9 = _ := h9
      have h11 : f 11 = _ := h11
      have h3 : f 3 = _ := h3
      rw [h7, h9, h11, h3]
      have cW := cIn W (b2.trans (hB.mono b2.size))
      go_wp2_with ((go_at_call 31; (with_reducible refine cW.mono ?_); rintro e' w3 ⟨rfl, rfl⟩))
      exact CalmQ.mk rfl _ rfl (Below.refl _ _) rfl
    refine AllCalm.cons (fun W hB hd => ?_) ?_
    · obtain ⟨h12, h3, -⟩ := hd
      have h12 : f 12 = _ := h12
      have h3 : f 3 = _ := h3
      rw [h12, h3]
      go_wp2_with (fail)
      exact CalmQ.mk rfl _ rfl (Below.refl _ _) rfl
    refine AllCalm.cons (fun W hB hd => ?_) ?_
    · obtain ⟨h3, h13, -⟩ := hd
      have h3 : f 3 = _ := h3
      have h13 : f 13 = _ := h13
      rw [h3, h13]
      go_wp2_with (fail)
      exact CalmQ.mk rfl _ rfl (Below.refl _ _) rfl
    exact AllCalm.nil
  · intro W hB hT
    obtain ⟨h0, h1, h2, h3, h4, h5, h6, h7, h8, h9, h10, h11, h12, h13, h14, -⟩ := hT
    have h0 : f 0 = _ := h0
    have h1 : f 1 = _ := h1
    have h2 : f 2 = _ := h2
    have h3 : f 3 = _ := h3
    have h4 : f 4 = _ := h4
    have h5 : f 5 = _ := h5
    have h6 : f 6 = _ := h6
    have h7 : f 7 = _ := h7
    have h8 : f 8 = _ := h8
    have h9 : f 9 = _ := h9
    have h10 : f 10 = _ := h10
    have h11 : f 11 = _ := h11
    have h12 : f 12 = _ := h12
    have h13 : f 13 = _ := h13
    have h14 : f 14 = _ := h14
    rw [h0, h1, h2, h3, h4, h5, h6, h7, h8, h9, h10, h11, h12, h13, h14]
    clear h0 h1 h2 h3 h4 h5 h6 h7 h8 h9 h10 h11 h12 h13 h14
    have mrW := mr.below hB mr.lt
    have BW := b2.trans (hB.mono b2.size)
    go_wp2_with (first
      | (go_at_call 19; (with_reducible refine (illegal_any _ _).mono ?_); rintro e' w4 ⟨rfl, b4⟩; have mr4 := mrW.below b4 mrW.lt)
      | (refine wpList_store_row rfl 31 (.tmp 4) (.tmp 26) rfl (w.heap.size + 1) #[.int .i64 2, .int .i64 5, .int .i64 8448, .slice none 0 0, .int .i64 0] rfl rfl 31 #[.int .i64 0, .int .i64 0, .int .i64 0, .slice none 0 0, .int .i64 0] mr4 (by kernel_rfl) (by kernel_rfl) (by kernel_rfl) ?_))
    have B4 := BW.trans (b4.mono BW.size)
    exact bodyPost_ret ((results_cell1 (p := 4) (ty := 31) rfl _ _ (w.heap.size + 1) 31 _ (0, 0) _ rfl (mr4.row #[.int .i64 2, .int .i64 5, .int .i64 8448, .slice none 0 0, .int .i64 0]) Try.underlying31 rfl (by kernel_rfl)).trans rfl) rfl ⟨_, rfl, rep_end (w0 := w) (l := []) mr4 (World.ownsRow_nil _ _ _ _) (Nat.le_refl _), below_setRow B4 (by omega) _⟩
set_option maxHeartbeats 2000000 in
theorem onb_ready (hu : UnM w B Z X g h Y N D M t hs) (a n : Int) (v : Value) (ck cn ct : Int) (cf : Bool)  : Calls Try.prog 23 #[.pointer (some ⟨Z, 0, none⟩), .agg #[.int .i64 1, .int .i64 a, .int .i64 n, v, .int .u64 ck, .int .u64 cn, .int .i64 ct, .bool cf]] w fun e w' => ∃ v, e = .returned v ∧ Rep w' w.heap.size v 0 0 0 0 [] ∧ Below w.heap.size w w' := by
  obtain ⟨w2, e2, mc, mr, b2⟩ : ∃ w2, w2 = (w.alloc (.cells #[.int .i64 1, .int .i64 a, .int .i64 n, v, .int .u64 ck, .int .u64 cn, .int .i64 ct, .bool cf] 26)).alloc (.cells #[.int .i64 0, .int .i64 0, .int .i64 0, .slice none 0 0, .int .i64 0] 31) ∧ Mem w2 w.heap.size 26 #[.int .i64 1, .int .i64 a, .int .i64 n, v, .int .u64 ck, .int .u64 cn, .int .i64 ct, .bool cf] ∧ Mem w2 (w.heap.size + 1) 31 #[.int .i64 0, .int .i64 0, .int .i64 0, .slice none 0 0, .int .i64 0] ∧ Below w.heap.size w w2 := ⟨_, rfl, by
    have m0 := Mem.new w 26 #[.int .i64 1, .int .i64 a, .int .i64 n, v, .int .u64 ck, .int .u64 cn, .int .i64 ct, .bool cf]
    exact m0.below ((Below.refl _ _).alloc (Nat.le_refl _) _) m0.lt, by
    have m1 := Mem.new (w.alloc (.cells #[.int .i64 1, .int .i64 a, .int .i64 n, v, .int .u64 ck, .int .u64 cn, .int .i64 ct, .bool cf] 26)) 31 #[.int .i64 0, .int .i64 0, .int .i64 0, .slice none 0 0, .int .i64 0]
    rw [World.size_alloc] at m1
    exact m1, ((Below.refl _ w).alloc (Nat.le_refl _) _).alloc (by rw [World.size_alloc]; omega) _⟩
  have cG : ∀ W, Calls Try.prog 24 #[.slice none 0 0] W fun e w' => ∃ A c, e = .returned (.agg #[.int .i64 0, .int .i64 0, .int .i64 0, .slice A 0 c, .int .i64 0]) ∧ w'.ownsRow W.heap.size 5 1 (.slice A 0 c) 0 (bs []) ∧ Below W.heap.size W w' := fun W => good_any (.slice none 0 0) [] (by decide) W Sl.nil_
  obtain ⟨m8, hm8⟩ : ∃ m8, IntKind.i64.wrap (n * 8) = m8 := ⟨_, rfl⟩
  go_enter Try.func23, Try.ntmps23
  go_upto_region 1 with (fail)
  rw [← e2]
  clear e2
  apply calm_region [.is _, .is _, .is (.bool false), .is (.bool false), .is undef, .is undef, .is undef, .is undef, .is undef, .is undef, .is undef, .is undef, .is undef, .is undef, .is (.bool false)] [[], [0], [1], [2], [3], [4, 3], [5, 3], [6, 3], [3], [8, 3], [3], [10, 3], [7, 9, 11, 3, 3], [12, 3], [3, 13]] (by kernel_rfl) (by kernel_rfl) (by kernel_rfl) rfl
  intro f a1 ha1
  simp only [putL, Act.put, List.setIfInBounds_toArray, List.set_cons_succ, List.set_cons_zero] at ha1
  subst ha1
  refine ⟨?_, ?_⟩
  · refine AllCalm.cons (fun W hB hd => ?_) ?_
    · go_wp2_with (fail)
      exact CalmQ.mk rfl _ rfl (Below.refl _ _) rfl
    refine AllCalm.cons (fun W hB hd => ?_) ?_
    · obtain ⟨h0, -⟩ := hd
      have h0 : f 0 = _ := h0
      rw [h0]
      have q0 := (mc.below hB mc.lt).cell 0
      go_wp2_with (fail)
      exact CalmQ.mk rfl _ rfl (Below.refl _ _) rfl
    refine AllCalm.cons (fun W hB hd => ?_) ?_
    · obtain ⟨h1, -⟩ := hd
      have h1 : f 1 = _ := h1
      rw [h1]
      go_wp2_with (fail)
      exact CalmQ.mk rfl _ rfl (Below.refl _ _) rfl
    refine AllCalm.cons (fun W hB hd => ?_) ?_
    · obtain ⟨h2, -⟩ := hd
      have h2 : f 2 = _ := h2
      rw [h2]
      go_wp2_with (fail)
      exact CalmQ.mk rfl _ rfl (Below.refl _ _) rfl
    refine AllCalm.cons (fun W hB hd => ?_) ?_
    · obtain ⟨h3, -⟩ := hd
      have h3 : f 3 = _ := h3
      rw [h3]
      go_wp2_with (fail)
      exact CalmQ.mk rfl _ rfl (Below.refl _ _) rfl
    refine AllCalm.cons (fun W hB hd => ?_) ?_
    · obtain ⟨h4, h3, -⟩ := hd
      have h4 : f 4 = _ := h4
      have h3 : f 3 = _ := h3
      rw [h4, h3]
      go_wp2_with (fail)
      exact CalmQ.mk rfl _ rfl (Below.refl _ _) rfl
    refine AllCalm.cons (fun W hB hd => ?_) ?_
    · obtain ⟨h5, h3, -⟩ := hd
      have h5 : f 5 = _ := h5
      have h3 : f 3 = _ := h3
      rw [h5, h3]
      go_wp2_with (fail)
      exact CalmQ.mk rfl _ rfl (Below.refl _ _) rfl
    refine AllCalm.cons (fun W hB hd => ?_) ?_
    · obtain ⟨h6, h3, -⟩ := hd
      have h6 : f 6 = _ := h6
      have h3 : f 3 = _ := h3
      rw [h6, h3]
      go_wp2_with (fail)
      exact CalmQ.mk rfl _ rfl (Below.refl _ _) rfl
    refine AllCalm.cons (fun W hB hd => ?_) ?_
    · obtain ⟨h3, -⟩ := hd
      have h3 : f 3 = _ := h3
      rw [h3]
      go_wp2_with (fail)
      exact CalmQ.mk rfl _ rfl (Below.refl _ _) rfl
    refine AllCalm.cons (fun W hB hd => ?_) ?_
    · obtain ⟨h8, h3, -⟩ := hd
      have h8 : f 8 = _ := h8
      have h3 : f 3 = _ := h3
      rw [h8, h3]
      go_wp2_with (fail)
      exact CalmQ.mk rfl _ rfl (Below.refl _ _) rfl
    refine AllCalm.cons (fun W hB hd => ?_) ?_
    · obtain ⟨h3, -⟩ := hd
      have h3 : f 3 = _ := h3
      rw [h3]
      go_wp2_with (fail)
      exact CalmQ.mk rfl _ rfl (Below.refl _ _) rfl
    refine AllCalm.cons (fun W hB hd => ?_) ?_
    · obtain ⟨h10, h3, -⟩ := hd
      have h10 : f 10 = _ := h10
      have h3 : f 3 = _ := h3
      rw [h10, h3]
      go_wp2_with (fail)
      exact CalmQ.mk rfl _ rfl (Below.refl _ _) rfl
    refine AllCalm.cons (fun W hB hd => ?_) ?_
    · obtain ⟨h7, h9, h11, h3, -, -⟩ := hd
      have h7 : f 7 = _ := h7
      have h9 : f 9 = _ := h9
      have h11 : f 11 = _ := h11
      have h3 : f 3 = _ := h3
      rw [h7, h9, h11, h3]
      go_wp2_with (fail)
      exact CalmQ.mk rfl _ rfl (Below.refl _ _) rfl
    refine AllCalm.cons (fun W hB hd => ?_) ?_
    · obtain ⟨h12, h3, -⟩ := hd
      have h12 : f 12 = _ := h12
      have h3 : f 3 = _ := h3
      rw [h12, h3]
      go_wp2_with (fail)
      exact CalmQ.mk rfl _ rfl (Below.refl _ _) rfl
    refine AllCalm.cons (fun W hB hd => ?_) ?_
    · obtain ⟨h3, h13, -⟩ := hd
      have h3 : f 3 = _ := h3
      have h13 : f 13 = _ := h13
      rw [h3, h13]
      go_wp2_with (fail)
      exact CalmQ.mk rfl _ rfl (Below.refl _ _) rfl
    exact AllCalm.nil
  · intro W hB hT
    obtain ⟨h0, h1, h2, h3, h4, h5, h6, h7, h8, h9, h10, h11, h12, h13, h14, -⟩ := hT
    have h0 : f 0 = _ := h0
    have h1 : f 1 = _ := h1
    have h2 : f 2 = _ := h2
    have h3 : f 3 = _ := h3
    have h4 : f 4 = _ := h4
    have h5 : f 5 = _ := h5
    have h6 : f 6 = _ := h6
    have h7 : f 7 = _ := h7
    have h8 : f 8 = _ := h8
    have h9 : f 9 = _ := h9
    have h10 : f 10 = _ := h10
    have h11 : f 11 = _ := h11
    have h12 : f 12 = _ := h12
    have h13 : f 13 = _ := h13
    have h14 : f 14 = _ := h14
    rw [h0, h1, h2, h3, h4, h5, h6, h7, h8, h9, h10, h11, h12, h13, h14]
    clear h0 h1 h2 h3 h4 h5 h6 h7 h8 h9 h10 h11 h12 h13 h14
    have mrW := mr.below hB mr.lt
    have BW := b2.trans (hB.mono b2.size)
    have k0 := (mc.below hB mc.lt).cell 0
    have k2 := (mc.below hB mc.lt).cell 2
    go_wp2_with (first
      | (go_at_call 24; (with_reducible refine (cG _).mono ?_); rintro e' w4 ⟨A4, c4, rfl, o4, b4⟩; have mr4 := mrW.below b4 mrW.lt)
      | (refine wpList_store_row rfl 31 (.tmp 4) (.tmp 107) rfl (w.heap.size + 1) #[.int .i64 0, .int .i64 0, .int .i64 0, .slice A4 0 c4, .int .i64 0] rfl rfl 31 #[.int .i64 0, .int .i64 0, .int .i64 0, .slice none 0 0, .int .i64 0] mr4 (by kernel_rfl) (by kernel_rfl) (by kernel_rfl) ?_))
    try rw [Exit.noGoto_ret]
    have B4 := BW.trans (b4.mono BW.size)
    exact bodyPost_ret ((results_cell1 (p := 4) (ty := 31) rfl _ _ (w.heap.size + 1) 31 _ (0, 0) _ rfl (mr4.row #[.int .i64 0, .int .i64 0, .int .i64 0, .slice A4 0 c4, .int .i64 0]) Try.underlying31 rfl (by kernel_rfl)).trans rfl) rfl ⟨_, rfl, rep_end (w0 := W) (l := []) mr4 o4 BW.size, below_setRow B4 (by omega) _⟩
set_option maxHeartbeats 2000000 in
theorem onb_sync (hu : UnM w B Z X g h Y N D M t hs) (a n : Nat) (v : Value) (ck cn ct : Int) (cf : Bool) (h3 : n ≤ 32) (ha : a + n ≤ N) : Calls Try.prog 23 #[.pointer (some ⟨Z, 0, none⟩), .agg #[.int .i64 4, .int .i64 (a : Nat), .int .i64 (n : Nat), v, .int .u64 ck, .int .u64 cn, .int .i64 ct, .bool cf]] w fun e w' => ∃ v, e = .returned v ∧ Rep w' w.heap.size v 0 0 0 0 [] ∧ Below w.heap.size w w' := by
  obtain ⟨w2, e2, mc, mr, b2⟩ : ∃ w2, w2 = (w.alloc (.cells #[.int .i64 4, .int .i64 (a : Nat), .int .i64 (n : Nat), v, .int .u64 ck, .int .u64 cn, .int .i64 ct, .bool cf] 26)).alloc (.cells #[.int .i64 0, .int .i64 0, .int .i64 0, .slice none 0 0, .int .i64 0] 31) ∧ Mem w2 w.heap.size 26 #[.int .i64 4, .int .i64 (a : Nat), .int .i64 (n : Nat), v, .int .u64 ck, .int .u64 cn, .int .i64 ct, .bool cf] ∧ Mem w2 (w.heap.size + 1) 31 #[.int .i64 0, .int .i64 0, .int .i64 0, .slice none 0 0, .int .i64 0] ∧ Below w.heap.size w w2 := ⟨_, rfl, by
    have m0 := Mem.new w 26 #[.int .i64 4, .int .i64 (a : Nat), .int .i64 (n : Nat), v, .int .u64 ck, .int .u64 cn, .int .i64 ct, .bool cf]
    exact m0.below ((Below.refl _ _).alloc (Nat.le_refl _) _) m0.lt, by
    have m1 := Mem.new (w.alloc (.cells #[.int .i64 4, .int .i64 (a : Nat), .int .i64 (n : Nat), v, .int .u64 ck, .int .u64 cn, .int .i64 ct, .bool cf] 26)) 31 #[.int .i64 0, .int .i64 0, .int .i64 0, .slice none 0 0, .int .i64 0]
    rw [World.size_alloc] at m1
    exact m1, ((Below.refl _ w).alloc (Nat.le_refl _) _).alloc (by rw [World.size_alloc]; omega) _⟩
  have cIn : ∀ W, Below w.heap.size w W → Calls Try.prog 31 #[.pointer (some ⟨X, 0, none⟩), .int .i64 (a : Nat), .int .i64 (n : Nat)] W fun e w' => e = .returned (.bool true) ∧ W = w' := fun W hW => by
    have q := in_all (a : Nat) (n : Nat) (by omega) (hu.sp.below hW)
    rw [show inB N (a : Nat) (n : Nat) = true from by unfold inB; exact decide_eq_true (by omega)] at q
    exact q
  have hnx : (n : Int) ≤ 32 := by omega
  have cG : ∀ W, Calls Try.prog 24 #[.slice none 0 0] W fun e w' => ∃ A c, e = .returned (.agg #[.int .i64 0, .int .i64 0, .int .i64 0, .slice A 0 c, .int .i64 0]) ∧ w'.ownsRow W.heap.size 5 1 (.slice A 0 c) 0 (bs []) ∧ Below W.heap.size W w' := fun W => good_any (.slice none 0 0) [] (by decide) W Sl.nil_
  go_enter Try.func23, Try.ntmps23
  go_upto_region 1 with (fail)
  rw [← e2]
  clear e2
  apply calm_region [.is _, .is _, .is _, .is _, .is _, .is _, .is _, .is _, .is _, .is _, .is _, .is _, .is _, .is _, .is _] [[], [0], [1], [2], [3], [4, 3], [5, 3], [6, 3], [3], [8, 3], [3], [10, 3], [7, 9, 11, 3, 3], [12, 3], [3, 13]] (by kernel_rfl) (by kernel_rfl) (by kernel_rfl) rfl
  intro f a1 ha1
  simp only [putL, Act.put, List.setIfInBounds_toArray, List.set_cons_succ, List.set_cons_zero] at ha1
  subst ha1
  refine ⟨?_, ?_⟩
  · refine AllCalm.cons (fun W hB hd => ?_) ?_
    · go_wp2_with (fail)
      exact CalmQ.mk rfl _ rfl (Below.refl _ _) rfl
    refine AllCalm.cons (fun W hB hd => ?_) ?_
    · obtain ⟨h0, -⟩ := hd
      have h0 : f 0 = _ := h0
      rw [h0]
      have q0 := (mc.below hB mc.lt).cell 0
      go_wp2_with (fail)
      exact CalmQ.mk rfl _ rfl (Below.refl _ _) rfl
    refine AllCalm.cons (fun W hB hd => ?_) ?_
    · obtain ⟨h1, -⟩ := hd
      have h1 : f 1 = _ := h1
      rw [h1]
      go_wp2_with (fail)
      exact CalmQ.mk rfl _ rfl (Below.refl _ _) rfl
    refine AllCalm.cons (fun W hB hd => ?_) ?_
    · obtain ⟨h2, -⟩ := hd
      have h2 : f 2 = _ := h2
      rw [h2]
      go_wp2_with (fail)
      exact CalmQ.mk rfl _ rfl (Below.refl _ _) rfl
    refine AllCalm.cons (fun W hB hd => ?_) ?_
    · obtain ⟨h3, -⟩ := hd
      have h3 : f 3 = _ := h3
      rw [h3]
      go_wp2_with (fail)
      exact CalmQ.mk rfl _ rfl (Below.refl _ _) rfl
    refine AllCalm.cons (fun W hB hd => ?_) ?_
    · obtain ⟨h4, h3, -⟩ := hd
      have h4 : f 4 = _ := h4
      have h3 : f 3 = _ := h3
      rw [h4, h3]
      go_wp2_with (fail)
      exact CalmQ.mk rfl _ rfl (Below.refl _ _) rfl
    refine AllCalm.cons (fun W hB hd => ?_) ?_
    · obtain ⟨h5, h3, -⟩ := hd
      have h5 : f 5 = _ := h5
      have h3 : f 3 = _ := h3
      rw [h5, h3]
      go_wp2_with (fail)
      exact CalmQ.mk rfl _ rfl (Below.refl _ _) rfl
    refine AllCalm.cons (fun W hB hd => ?_) ?_
    · obtain ⟨h6, h3, -⟩ := hd
      have h6 : f 6 = _ := h6
      have h3 : f 3 = _ := h3
      rw [h6, h3]
      have q0 := (hu.below (b2.trans (hB.mono b2.size))).c0
      go_wp2_with (fail)
      exact CalmQ.mk rfl _ rfl (Below.refl _ _) rfl
    refine AllCalm.cons (fun W hB hd => ?_) ?_
    · obtain ⟨h3, -⟩ := hd
      have h3 : f 3 = _ := h3
      rw [h3]
      go_wp2_with (fail)
      exact CalmQ.mk rfl _ rfl (Below.refl _ _) rfl
    refine AllCalm.cons (fun W hB hd => ?_) ?_
    · obtain ⟨h8, h3, -⟩ := hd
      have h8 : f 8 = _ := h8
      have h3 : f 3 = _ := h3
      rw [h8, h3]
      have q0 := (mc.below hB mc.lt).cell 1
      go_wp2_with (fail)
      exact CalmQ.mk rfl _ rfl (Below.refl _ _) rfl
    refine AllCalm.cons (fun W hB hd => ?_) ?_
    · obtain ⟨h3, -⟩ := hd
      have h3 : f 3 = _ := h3
      rw [h3]
      go_wp2_with (fail)
      exact CalmQ.mk rfl _ rfl (Below.refl _ _) rfl
    refine AllCalm.cons (fun W hB hd => ?_) ?_
    · obtain ⟨h10, h3, -⟩ := hd
      have h10 : f 10 = _ := h10
      have h3 : f 3 = _ := h3
      rw [h10, h3]
      have q0 := (mc.below hB mc.lt).cell 2
      go_wp2_with (fail)
      exact CalmQ.mk rfl _ rfl (Below.refl _ _) rfl
    refine AllCalm.cons (fun W hB hd => ?_) ?_
    · obtain ⟨h7, h9, h11, h3, -, -⟩ := hd
      have h7 : f 7 = _ := h7
      have h9 : f 9 = _ := h9
      have h11 : f 11 = _ := h11
      have h3 : f 3 = _ := h3
      rw [h7, h9, h11, h3]
      have cW := cIn W (b2.trans (hB.mono b2.size))
      go_wp2_with ((go_at_call 31; (with_reducible refine cW.mono ?_); rintro e' w3 ⟨rfl, rfl⟩))
      exact CalmQ.mk rfl _ rfl (Below.refl _ _) rfl
    refine AllCalm.cons (fun W hB hd => ?_) ?_
    · obtain ⟨h12, h3, -⟩ := hd
      have h12 : f 12 = _ := h12
      have h3 : f 3 = _ := h3
      rw [h12, h3]
      go_wp2_with (fail)
      exact CalmQ.mk rfl _ rfl (Below.refl _ _) rfl
    refine AllCalm.cons (fun W hB hd => ?_) ?_
    · obtain ⟨h3, h13, -⟩ := hd
      have h3 : f 3 = _ := h3
      have h13 : f 13 = _ := h13
      rw [h3, h13]
      go_wp2_with (fail)
      exact CalmQ.mk rfl _ rfl (Below.refl _ _) rfl
    exact AllCalm.nil
  · intro W hB hT
    obtain ⟨h0, h1, h2, h3, h4, h5, h6, h7, h8, h9, h10, h11, h12, h13, h14, -⟩ := hT
    have h0 : f 0 = _ := h0
    have h1 : f 1 = _ := h1
    have h2 : f 2 = _ := h2
    have h3 : f 3 = _ := h3
    have h4 : f 4 = _ := h4
    have h5 : f 5 = _ := h5
    have h6 : f 6 = _ := h6
    have h7 : f 7 = _ := h7
    have h8 : f 8 = _ := h8
    have h9 : f 9 = _ := h9
    have h10 : f 10 = _ := h10
    have h11 : f 11 = _ := h11
    have h12 : f 12 = _ := h12
    have h13 : f 13 = _ := h13
    have h14 : f 14 = _ := h14
    rw [h0, h1, h2, h3, h4, h5, h6, h7, h8, h9, h10, h11, h12, h13, h14]
    clear h0 h1 h2 h3 h4 h5 h6 h7 h8 h9 h10 h11 h12 h13 h14
    have mrW := mr.below hB mr.lt
    have BW := b2.trans (hB.mono b2.size)
    have k0 := (mc.below hB mc.lt).cell 0
    have k2 := (mc.below hB mc.lt).cell 2
    go_wp2_with (first
      | (go_at_call 24; (with_reducible refine (cG _).mono ?_); rintro e' w4 ⟨A4, c4, rfl, o4, b4⟩; have mr4 := mrW.below b4 mrW.lt)
      | (refine wpList_store_row rfl 31 (.tmp 4) (.tmp 107) rfl (w.heap.size + 1) #[.int .i64 0, .int .i64 0, .int .i64 0, .slice A4 0 c4, .int .i64 0] rfl rfl 31 #[.int .i64 0, .int .i64 0, .int .i64 0, .slice none 0 0, .int .i64 0] mr4 (by kernel_rfl) (by kernel_rfl) (by kernel_rfl) ?_))
    try rw [Exit.noGoto_ret]
    have B4 := BW.trans (b4.mono BW.size)
    exact bodyPost_ret ((results_cell1 (p := 4) (ty := 31) rfl _ _ (w.heap.size + 1) 31 _ (0, 0) _ rfl (mr4.row #[.int .i64 0, .int .i64 0, .int .i64 0, .slice A4 0 c4, .int .i64 0]) Try.underlying31 rfl (by kernel_rfl)).trans rfl) rfl ⟨_, rfl, rep_end (w0 := W) (l := []) mr4 o4 BW.size, below_setRow B4 (by omega) _⟩
set_option maxHeartbeats 2000000 in
theorem onb_read (hu : UnM w B Z X g h Y N D M t hs) (a n : Nat) (v : Value) (ck cn ct : Int) (cf : Bool) (h3 : n ≤ 32) (ha : a + n ≤ N) : Calls Try.prog 23 #[.pointer (some ⟨Z, 0, none⟩), .agg #[.int .i64 2, .int .i64 (a : Nat), .int .i64 (n : Nat), v, .int .u64 ck, .int .u64 cn, .int .i64 ct, .bool cf]] w fun e w' => ∃ v, e = .returned v ∧ Rep w' w.heap.size v 0 0 0 0 (piece D a n) ∧ Below w.heap.size w w' := by
  obtain ⟨w2, e2, mc, mr, b2⟩ : ∃ w2, w2 = (w.alloc (.cells #[.int .i64 2, .int .i64 (a : Nat), .int .i64 (n : Nat), v, .int .u64 ck, .int .u64 cn, .int .i64 ct, .bool cf] 26)).alloc (.cells #[.int .i64 0, .int .i64 0, .int .i64 0, .slice none 0 0, .int .i64 0] 31) ∧ Mem w2 w.heap.size 26 #[.int .i64 2, .int .i64 (a : Nat), .int .i64 (n : Nat), v, .int .u64 ck, .int .u64 cn, .int .i64 ct, .bool cf] ∧ Mem w2 (w.heap.size + 1) 31 #[.int .i64 0, .int .i64 0, .int .i64 0, .slice none 0 0, .int .i64 0] ∧ Below w.heap.size w w2 := ⟨_, rfl, by
    have m0 := Mem.new w 26 #[.int .i64 2, .int .i64 (a : Nat), .int .i64 (n : Nat), v, .int .u64 ck, .int .u64 cn, .int .i64 ct, .bool cf]
    exact m0.below ((Below.refl _ _).alloc (Nat.le_refl _) _) m0.lt, by
    have m1 := Mem.new (w.alloc (.cells #[.int .i64 2, .int .i64 (a : Nat), .int .i64 (n : Nat), v, .int .u64 ck, .int .u64 cn, .int .i64 ct, .bool cf] 26)) 31 #[.int .i64 0, .int .i64 0, .int .i64 0, .slice none 0 0, .int .i64 0]
    rw [World.size_alloc] at m1
    exact m1, ((Below.refl _ w).alloc (Nat.le_refl _) _).alloc (by rw [World.size_alloc]; omega) _⟩
  have cIn : ∀ W, Below w.heap.size w W → Calls Try.prog 31 #[.pointer (some ⟨X, 0, none⟩), .int .i64 (a : Nat), .int .i64 (n : Nat)] W fun e w' => e = .returned (.bool true) ∧ W = w' := fun W hW => by
    have q := in_all (a : Nat) (n : Nat) (by omega) (hu.sp.below hW)
    rw [show inB N (a : Nat) (n : Nat) = true from by unfold inB; exact decide_eq_true (by omega)] at q
    exact q
  have hnx : (n : Int) ≤ 32 := by omega
  have hpl : (piece D a n).length = n * 8 := piece_len (by have := hu.sp.lenD; omega)
  have cR : ∀ W, Below w.heap.size w W → Calls Try.prog 32 #[.pointer (some ⟨X, 0, none⟩), .int .i64 (a : Nat), .int .i64 (n : Nat)] W fun e w' => ∃ A c, e = .returned (.tuple #[.slice A (n * 8) c, .int .i64 0]) ∧ w'.ownsRow W.heap.size 5 1 (.slice A (n * 8) c) (n * 8) (bs (piece D a n)) ∧ Below W.heap.size W w' := fun W hW => (read_ok a n (hu.sp.below hW) h3 ha).mono fun e w' ⟨v, q1, q2, q3⟩ => by
    obtain ⟨A, c, rfl, _, _⟩ := own_form q2
    exact ⟨A, c, q1, q2, q3⟩
  have cG : ∀ W A c, W.ownsRow 0 5 1 (.slice A (n * 8) c) (n * 8) (bs (piece D a n)) → Calls Try.prog 24 #[.slice A (n * 8) c] W fun e w' => ∃ A c, e = .returned (.agg #[.int .i64 0, .int .i64 0, .int .i64 0, .slice A (n * 8) c, .int .i64 0]) ∧ w'.ownsRow W.heap.size 5 1 (.slice A (n * 8) c) (n * 8) (bs (piece D a n)) ∧ Below W.heap.size W w' := fun W A c ho => by
    have q := good_any (.slice A (n * 8) c) (piece D a n) (by omega) W (by rw [hpl]; exact Sl.of_own ho)
    rw [hpl] at q
    exact q
  have HPL := Lib.hid hpl
  clear hpl
  obtain ⟨m8, hm8⟩ : ∃ m8, n * 8 = m8 := ⟨_, rfl⟩
  rw [hm8] at cR cG HPL
  clear hm8
  go_enter Try.func23, Try.ntmps23
  go_upto_region 1 with (fail)
  rw [← e2]
  clear e2
  apply calm_region [.is _, .is _, .is _, .is _, .is _, .is _, .is _, .is _, .is _, .is _, .is _, .is _, .is _, .is _, .is _] [[], [0], [1], [2], [3], [4, 3], [5, 3], [6, 3], [3], [8, 3], [3], [10, 3], [7, 9, 11, 3, 3], [12, 3], [3, 13]] (by kernel_rfl) (by kernel_rfl) (by kernel_rfl) rfl
  intro f a1 ha1
  simp only [putL, Act.put, List.setIfInBounds_toArray, List.set_cons_succ, List.set_cons_zero] at ha1
  subst ha1
  refine ⟨?_, ?_⟩
  · refine AllCalm.cons (fun W hB hd => ?_) ?_
    · go_wp2_with (fail)
      exact CalmQ.mk rfl _ rfl (Below.refl _ _) rfl
    refine AllCalm.cons (fun W hB hd => ?_) ?_
    · obtain ⟨h0, -⟩ := hd
      have h0 : f 0 = _ := h0
      rw [h0]
      have q0 := (mc.below hB mc.lt).cell 0
      go_wp2_with (fail)
      exact CalmQ.mk rfl _ rfl (Below.refl _ _) rfl
    refine AllCalm.cons (fun W hB hd => ?_) ?_
    · obtain ⟨h1, -⟩ := hd
      have h1 : f 1 = _ := h1
      rw [h1]
      go_wp2_with (fail)
      exact CalmQ.mk rfl _ rfl (Below.refl _ _) rfl
    refine AllCalm.cons (fun W hB hd => ?_) ?_
    · obtain ⟨h2, -⟩ := hd
      have h2 : f 2 = _ := h2
      rw [h2]
      go_wp2_with (fail)
      exact CalmQ.mk rfl _ rfl (Below.refl _ _) rfl
    refine AllCalm.cons (fun W hB hd => ?_) ?_
    · obtain ⟨h3, -⟩ := hd
      have h3 : f 3 = _ := h3
      rw [h3]
      go_wp2_with (fail)
      exact CalmQ.mk rfl _ rfl (Below.refl _ _) rfl
    refine AllCalm.cons (fun W hB hd => ?_) ?_
    · obtain ⟨h4, h3, -⟩ := hd
      have h4 : f 4 = _ := h4
      have h3 : f 3 = _ := h3
      rw [h4, h3]
      go_wp2_with (fail)
      exact CalmQ.mk rfl _ rfl (Below.refl _ _) rfl
    refine AllCalm.cons (fun W hB hd => ?_) ?_
    · obtain ⟨h5, h3, -⟩ := hd
      have h5 : f 5 = _ := h5
      have h3 : f 3 = _ := h3
      rw [h5, h3]
      go_wp2_with (fail)
      exact CalmQ.mk rfl _ rfl (Below.refl _ _) rfl
    refine AllCalm.cons (fun W hB hd => ?_) ?_
    · obtain ⟨h6, h3, -⟩ := hd
      have h6 : f 6 = _ := h6
      have h3 : f 3 = _ := h3
      rw [h6, h3]
      have q0 := (hu.below (b2.trans (hB.mono b2.size))).c0
      go_wp2_with (fail)
      exact CalmQ.mk rfl _ rfl (Below.refl _ _) rfl
    refine AllCalm.cons (fun W hB hd => ?_) ?_
    · obtain ⟨h3, -⟩ := hd
      have h3 : f 3 = _ := h3
      rw [h3]
      go_wp2_with (fail)
      exact CalmQ.mk rfl _ rfl (Below.refl _ _) rfl
    refine AllCalm.cons (fun W hB hd => ?_) ?_
    · obtain ⟨h8, h3, -⟩ := hd
      have h8 : f 8 = _ := h8
      have h3 : f 3 = _ := h3
      rw [h8, h3]
      have q0 := (mc.below hB mc.lt).cell 1
      go_wp2_with (fail)
      exact CalmQ.mk rfl _ rfl (Below.refl _ _) rfl
    refine AllCalm.cons (fun W hB hd => ?_) ?_
    · obtain ⟨h3, -⟩ := hd
      have h3 : f 3 = _ := h3
      rw [h3]
      go_wp2_with (fail)
      exact CalmQ.mk rfl _ rfl (Below.refl _ _) rfl
    refine AllCalm.cons (fun W hB hd => ?_) ?_
    · obtain ⟨h10, h3, -⟩ := hd
      have h10 : f 10 = _ := h10
      have h3 : f 3 = _ := h3
      rw [h10, h3]
      have q0 := (mc.below hB mc.lt).cell 2
      go_wp2_with (fail)
      exact CalmQ.mk rfl _ rfl (Below.refl _ _) rfl
    refine AllCalm.cons (fun W hB hd => ?_) ?_
    · obtain ⟨h7, h9, h11, h3, -, -⟩ := hd
      have h7 : f 7 = _ := h7
      have h9 : f 9 = _ := h9
      have h11 : f 11 = _ := h11
      have h3 : f 3 = _ := h3
      rw [h7, h9, h11, h3]
      have cW := cIn W (b2.trans (hB.mono b2.size))
      go_wp2_with ((go_at_call 31; (with_reducible refine cW.mono ?_); rintro e' w3 ⟨rfl, rfl⟩))
      exact CalmQ.mk rfl _ rfl (Below.refl _ _) rfl
    refine AllCalm.cons (fun W hB hd => ?_) ?_
    · obtain ⟨h12, h3, -⟩ := hd
      have h12 : f 12 = _ := h12
      have h3 : f 3 = _ := h3
      rw [h12, h3]
      go_wp2_with (fail)
      exact CalmQ.mk rfl _ rfl (Below.refl _ _) rfl
    refine AllCalm.cons (fun W hB hd => ?_) ?_
    · obtain ⟨h3, h13, -⟩ := hd
      have h3 : f 3 = _ := h3
      have h13 : f 13 = _ := h13
      rw [h3, h13]
      go_wp2_with (fail)
      exact CalmQ.mk rfl _ rfl (Below.refl _ _) rfl
    exact AllCalm.nil
  · intro W hB hT
    obtain ⟨h0, h1, h2, h3, h4, h5, h6, h7, h8, h9, h10, h11, h12, h13, h14, -⟩ := hT
    have h0 : f 0 = _ := h0
    have h1 : f 1 = _ := h1
    have h2 : f 2 = _ := h2
    have h3 : f 3 = _ := h3
    have h4 : f 4 = _ := h4
    have h5 : f 5 = _ := h5
    have h6 : f 6 = _ := h6
    have h7 : f 7 = _ := h7
    have h8 : f 8 = _ := h8
    have h9 : f 9 = _ := h9
    have h10 : f 10 = _ := h10
    have h11 : f 11 = _ := h11
    have h12 : f 12 = _ := h12
    have h13 : f 13 = _ := h13
    have h14 : f 14 = _ := h14
    rw [h0, h1, h2, h3, h4, h5, h6, h7, h8, h9, h10, h11, h12, h13, h14]
    clear h0 h1 h2 h3 h4 h5 h6 h7 h8 h9 h10 h11 h12 h13 h14
    have mrW := mr.below hB mr.lt
    have mcW := mc.below hB mc.lt
    have BW := b2.trans (hB.mono b2.size)
    have k0 := mcW.cell 0
    have k2 := mcW.cell 2
    generalize W = W0 at *
    go_upto_region 11 with (fail)
    refine wp_region_any (by kernel_rfl) ?_
    change wpAny _ _ _ _ _ _ _ (World.drew _)
    refine wpAny_take (i := 0) (oi := { dst := some 45, op := Op.move (Operand.tmp 0), type := 55, pos := "lu.go:120", after := #[], guard := none }) (v := (.pointer (some ⟨Z, 0, none⟩))) rfl (by kernel_rfl) (by kernel_rfl) (by kernel_rfl) (fun _ _ _ h => h) (Or.inl ⟨by rfl, by intro w; go_simp⟩) ?_
    try dsimp only [Act.put]
    try simp only [List.setIfInBounds_toArray, List.set_cons_succ, List.set_cons_zero]
    apply calm_tailK 13 [0] [.is (.pointer (some ⟨Z, 0, none⟩)), .is _, .is _, .is _, .is _, .is _, .is _, .is _, .of (fun x V => ∃ A c, x = .tuple #[.slice A m8 c, .int .i64 0] ∧ V.ownsRow 0 5 1 (.slice A m8 c) m8 (bs (piece D a n))) (fun x V V' hb ⟨A, c, q1, q2⟩ => ⟨A, c, q1, owns_below q2 hb⟩), .of (fun x V => ∃ A c, x = .tuple #[.slice A m8 c, .int .i64 0] ∧ V.ownsRow 0 5 1 (.slice A m8 c) m8 (bs (piece D a n))) (fun x V V' hb ⟨A, c, q1, q2⟩ => ⟨A, c, q1, owns_below q2 hb⟩), .of (fun x V => ∃ A c, x = .slice A m8 c ∧ V.ownsRow 0 5 1 (.slice A m8 c) m8 (bs (piece D a n))) (fun x V V' hb ⟨A, c, q1, q2⟩ => ⟨A, c, q1, owns_below q2 hb⟩), .is (.int .i64 0), .of (fun x V => ∃ A c, x = .slice A m8 c ∧ V.ownsRow 0 5 1 (.slice A m8 c) m8 (bs (piece D a n))) (fun x V V' hb ⟨A, c, q1, q2⟩ => ⟨A, c, q1, owns_below q2 hb⟩)] [[], [0], [1], [2], [], [4], [], [6], [3, 5, 7], [8], [9], [9], [10, 8, 0, 1, 2, 3, 4, 5, 6, 7, 8, 9, 10]] (by kernel_rfl) (by kernel_rfl) rfl (by decide) (by intro i hi o ho; obtain rfl := List.mem_singleton.1 hi; obtain rfl := Option.some.inj ho; exact rfl)
    intro f a1 ha1
    simp only [List.take_succ_cons, List.take_zero, putL, Act.put, List.setIfInBounds_toArray, List.set_cons_succ, List.set_cons_zero] at ha1
    subst ha1
    refine ⟨?_, ?_⟩
    · refine AllCalm.cons (fun W hB hd => ?_) ?_
      · go_wp2_with (fail)
        exact CalmQ.mk rfl _ rfl (Below.refl _ _) rfl
      refine AllCalm.cons (fun W hB hd => ?_) ?_
      · obtain ⟨h0, -⟩ := hd
        have h0 : f 0 = _ := h0
        rw [h0]
        go_wp2_with (fail)
        exact CalmQ.mk rfl _ rfl (Below.refl _ _) rfl
      refine AllCalm.cons (fun W hB hd => ?_) ?_
      · obtain ⟨h1, -⟩ := hd
        have h1 : f 1 = _ := h1
        rw [h1]
        go_wp2_with (fail)
        exact CalmQ.mk rfl _ rfl (Below.refl _ _) rfl
      refine AllCalm.cons (fun W hB hd => ?_) ?_
      · obtain ⟨h2, -⟩ := hd
        have h2 : f 2 = _ := h2
        rw [h2]
        have q0 := (hu.below (BW.trans (((Below.refl _ W0).drew.trans hB).mono BW.size))).c0
        go_wp2_with (fail)
        exact CalmQ.mk rfl _ rfl (Below.refl _ _) rfl
      refine AllCalm.cons (fun W hB hd => ?_) ?_
      · go_wp2_with (fail)
        exact CalmQ.mk rfl _ rfl (Below.refl _ _) rfl
      refine AllCalm.cons (fun W hB hd => ?_) ?_
      · obtain ⟨h4, -⟩ := hd
        have h4 : f 4 = _ := h4
        rw [h4]
        have q0 := (mcW.below ((Below.refl _ W0).drew.trans hB) mcW.lt).cell 1
        go_wp2_with (fail)
        exact CalmQ.mk rfl _ rfl (Below.refl _ _) rfl
      refine AllCalm.cons (fun W hB hd => ?_) ?_
      · go_wp2_with (fail)
        exact CalmQ.mk rfl _ rfl (Below.refl _ _) rfl
      refine AllCalm.cons (fun W hB hd => ?_) ?_
      · obtain ⟨h6, -⟩ := hd
        have h6 : f 6 = _ := h6
        rw [h6]
        have q0 := (mcW.below ((Below.refl _ W0).drew.trans hB) mcW.lt).cell 2
        go_wp2_with (fail)
        exact CalmQ.mk rfl _ rfl (Below.refl _ _) rfl
      refine AllCalm.cons (fun W hB hd => ?_) ?_
      · obtain ⟨h3, h5, h7, -⟩ := hd
        have h3 : f 3 = _ := h3
        have h5 : f 5 = _ := h5
        have h7 : f 7 = _ := h7
        rw [h3, h5, h7]
        have cW := cR _ (BW.trans (((Below.refl _ W0).drew.trans hB).mono BW.size))
        go_wp2_with ((go_at_call 32; (with_reducible refine cW.mono ?_); rintro e' w3 ⟨A3, c3, rfl, o3, b3⟩))
        exact CalmQ.mk rfl _ rfl b3 ⟨A3, c3, rfl, owns_mono o3 (Nat.zero_le _)⟩
      refine AllCalm.cons (fun W hB hd => ?_) ?_
      · obtain ⟨h8, -⟩ := hd
        go_wp2_with (fail)
        exact CalmQ.mk rfl _ rfl (Below.refl _ _) h8
      refine AllCalm.cons (fun W hB hd => ?_) ?_
      · obtain ⟨h9, -⟩ := hd
        obtain ⟨A9, c9, e9, o9⟩ := h9; rw [e9]
        go_wp2_with (fail)
        exact CalmQ.mk rfl _ rfl (Below.refl _ _) ⟨A9, c9, rfl, o9⟩
      refine AllCalm.cons (fun W hB hd => ?_) ?_
      · obtain ⟨h9, -⟩ := hd
        obtain ⟨A9, c9, e9, o9⟩ := h9; rw [e9]
        go_wp2_with (fail)
        exact CalmQ.mk rfl _ rfl (Below.refl _ _) rfl
      refine AllCalm.cons (fun W hB hd => ?_) ?_
      · obtain ⟨h10, h8, h0, h1, h2, h3, h4, h5, h6, h7, -, h9, -, -⟩ := hd
        have h0 : f 0 = _ := h0
        have h1 : f 1 = _ := h1
        have h2 : f 2 = _ := h2
        have h3 : f 3 = _ := h3
        have h4 : f 4 = _ := h4
        have h5 : f 5 = _ := h5
        have h6 : f 6 = _ := h6
        have h7 : f 7 = _ := h7
        rw [h0, h1, h2, h3, h4, h5, h6, h7]
        go_wp2_with (fail)
        exact CalmQ.mk rfl _ rfl (Below.refl _ _) h10
      exact AllCalm.nil
    · intro W hB hT
      obtain ⟨h0, h1, h2, h3, h4, h5, h6, h7, h8, h9, h10, h11, h12, -⟩ := hT
      have h0 : f 0 = _ := h0
      have h1 : f 1 = _ := h1
      have h2 : f 2 = _ := h2
      have h3 : f 3 = _ := h3
      have h4 : f 4 = _ := h4
      have h5 : f 5 = _ := h5
      have h6 : f 6 = _ := h6
      have h7 : f 7 = _ := h7
      have h11 : f 11 = _ := h11
      rw [h0, h1, h2, h3, h4, h5, h6, h7, h11]
      clear h0 h1 h2 h3 h4 h5 h6 h7 h11
      simp only [List.drop_succ_cons, List.drop_zero]
      obtain ⟨A8, c8, e8, o8⟩ := h12
      have e8 : f 12 = _ := e8
      rw [e8]
      obtain ⟨A5, c5, e5, o5⟩ := h8
      have e5 : f 8 = _ := e5
      obtain ⟨A6, c6, e6, o6⟩ := h9
      have e6 : f 9 = _ := e6
      obtain ⟨A7, c7, e7, o7⟩ := h10
      have e7 : f 10 = _ := e7
      rw [e5, e6, e7]
      have BV := (Below.refl _ W0).drew.trans hB
      have mrV := mrW.below BV mrW.lt
      have BWV := BW.trans (BV.mono BW.size)
      have cGV := cG _ _ _ o8
      go_wp2_with (first
        | (go_at_call 24; (with_reducible refine cGV.mono ?_); rintro e' w4 ⟨A4, c4, rfl, o4, b4⟩; have mr4 := mrV.below b4 mrV.lt)
        | (refine wpList_store_row rfl 31 (.tmp 4) (.tmp 57) rfl (w.heap.size + 1) #[.int .i64 0, .int .i64 0, .int .i64 0, .slice A4 m8 c4, .int .i64 0] rfl rfl 31 #[.int .i64 0, .int .i64 0, .int .i64 0, .slice none 0 0, .int .i64 0] mr4 (by kernel_rfl) (by kernel_rfl) (by kernel_rfl) ?_))
      try rw [Exit.noGoto_ret]
      have B4 := BWV.trans (b4.mono BWV.size)
      have hpl := HPL.out
      subst hpl
      exact bodyPost_ret ((results_cell1 (p := 4) (ty := 31) rfl _ _ (w.heap.size + 1) 31 _ (0, 0) _ rfl (mr4.row #[.int .i64 0, .int .i64 0, .int .i64 0, .slice A4 (piece D a n).length c4, .int .i64 0]) Try.underlying31 rfl (by kernel_rfl)).trans rfl) rfl ⟨_, rfl, rep_end (w0 := W) (l := piece D a n) mr4 o4 BWV.size, below_setRow B4 (by omega) _⟩
theorem SpInv.eff {S : Nat → Prop} (hn : SpInv w B X g h N D M) (he : Eff S w w') (hX : ¬ S X) (hg : ¬ S g) (hh : ¬ S h) : SpInv w' B X g h N D M :=
  ⟨hn.bX, hn.bg, hn.bh, hn.gX, hn.hX, hn.gh, hn.mem.eff he hX, hn.data.eff he hg, hn.map.eff he hh, hn.lenD, hn.lenM, hn.pos, hn.few⟩
set_option maxHeartbeats 2000000 in
theorem onb_write (hu : UnM w B Z X g h Y N D M t hs) (a n : Nat) (l : List UInt8) (v : Value) (ck cn ct : Int) (cf : Bool) (h3 : n ≤ 32) (ha : a + n ≤ N) (hv : Sl w w.heap.size v l.length (bs l)) (hl : l.length = n * 8) : Calls Try.prog 23 #[.pointer (some ⟨Z, 0, none⟩), .agg #[.int .i64 3, .int .i64 (a : Nat), .int .i64 (n : Nat), v, .int .u64 ck, .int .u64 cn, .int .i64 ct, .bool cf]] w fun e w' => ∃ v, e = .returned v ∧ Rep w' w.heap.size v 0 0 0 0 [] ∧ ∃ M', runTo M a n true M' ∧ SpInv w' B X g h N (laid D a l) M' ∧ Eff (SpS g h) w w' := by
  obtain ⟨A, c, rfl, _, _⟩ := hv.form
  obtain ⟨m8, hm8⟩ : ∃ m8, n * 8 = m8 := ⟨_, rfl⟩
  have hlm : l.length = m8 := by omega
  rw [hlm] at hv ⊢
  obtain ⟨w2, e2, mc, mr, b2⟩ : ∃ w2, w2 = (w.alloc (.cells #[.int .i64 3, .int .i64 (a : Nat), .int .i64 (n : Nat), .slice A m8 c, .int .u64 ck, .int .u64 cn, .int .i64 ct, .bool cf] 26)).alloc (.cells #[.int .i64 0, .int .i64 0, .int .i64 0, .slice none 0 0, .int .i64 0] 31) ∧ Mem w2 w.heap.size 26 #[.int .i64 3, .int .i64 (a : Nat), .int .i64 (n : Nat), .slice A m8 c, .int .u64 ck, .int .u64 cn, .int .i64 ct, .bool cf] ∧ Mem w2 (w.heap.size + 1) 31 #[.int .i64 0, .int .i64 0, .int .i64 0, .slice none 0 0, .int .i64 0] ∧ Below w.heap.size w w2 := ⟨_, rfl, by
    have m0 := Mem.new w 26 #[.int .i64 3, .int .i64 (a : Nat), .int .i64 (n : Nat), .slice A m8 c, .int .u64 ck, .int .u64 cn, .int .i64 ct, .bool cf]
    exact m0.below ((Below.refl _ _).alloc (Nat.le_refl _) _) m0.lt, by
    have m1 := Mem.new (w.alloc (.cells #[.int .i64 3, .int .i64 (a : Nat), .int .i64 (n : Nat), .slice A m8 c, .int .u64 ck, .int .u64 cn, .int .i64 ct, .bool cf] 26)) 31 #[.int .i64 0, .int .i64 0, .int .i64 0, .slice none 0 0, .int .i64 0]
    rw [World.size_alloc] at m1
    exact m1, ((Below.refl _ w).alloc (Nat.le_refl _) _).alloc (by rw [World.size_alloc]; omega) _⟩
  have cIn : ∀ W, Below w.heap.size w W → Calls Try.prog 31 #[.pointer (some ⟨X, 0, none⟩), .int .i64 (a : Nat), .int .i64 (n : Nat)] W fun e w' => e = .returned (.bool true) ∧ W = w' := fun W hW => by
    have q := in_all (a : Nat) (n : Nat) (by omega) (hu.sp.below hW)
    rw [show inB N (a : Nat) (n : Nat) = true from by unfold inB; exact decide_eq_true (by omega)] at q
    exact q
  have hnx : (n : Int) ≤ 32 := by omega
  have cWr : ∀ W, Below w.heap.size w W → Calls Try.prog 34 #[.pointer (some ⟨X, 0, none⟩), .int .i64 (a : Nat), .slice A m8 c] W fun e w' => e = .returned (.int .i64 0) ∧ ∃ M', runTo M a n true M' ∧ SpInv w' B X g h N (laid D a l) M' ∧ Eff (SpS g h) W w' := fun W hW => (write_ok a n (.slice A m8 c) l (hu.sp.below hW) (by rw [hlm]; exact hv.now hW) hl h3 ha).mono fun e w' ⟨q1, M', q2, q3, q4⟩ => ⟨q1, M', q2, q3, q4⟩
  have cG : ∀ W, Calls Try.prog 24 #[.slice none 0 0] W fun e w' => ∃ A c, e = .returned (.agg #[.int .i64 0, .int .i64 0, .int .i64 0, .slice A 0 c, .int .i64 0]) ∧ w'.ownsRow W.heap.size 5 1 (.slice A 0 c) 0 (bs []) ∧ Below W.heap.size W w' := fun W => good_any (.slice none 0 0) [] (by decide) W Sl.nil_
  have hmx : (n : Int) * 8 = (m8 : Int) := by omega
  have HL := Lib.hid hl
  clear hl hm8 hlm hv
  go_enter Try.func23, Try.ntmps23
  go_upto_region 1 with (fail)
  rw [← e2]
  clear e2
  apply calm_region [.is _, .is _, .is _, .is _, .is _, .is _, .is _, .is _, .is _, .is _, .is _, .is _, .is _, .is _, .is _] [[], [0], [1], [2], [3], [4, 3], [5, 3], [6, 3], [3], [8, 3], [3], [10, 3], [7, 9, 11, 3, 3], [12, 3], [3, 13]] (by kernel_rfl) (by kernel_rfl) (by kernel_rfl) rfl
  intro f a1 ha1
  simp only [putL, Act.put, List.setIfInBounds_toArray, List.set_cons_succ, List.set_cons_zero] at ha1
  subst ha1
  refine ⟨?_, ?_⟩
  · refine AllCalm.cons (fun W hB hd => ?_) ?_
    · go_wp2_with (fail)
      exact CalmQ.mk rfl _ rfl (Below.refl _ _) rfl
    refine AllCalm.cons (fun W hB hd => ?_) ?_
    · obtain ⟨h0, -⟩ := hd
      have h0 : f 0 = _ := h0
      rw [h0]
      have q0 := (mc.below hB mc.lt).cell 0
      go_wp2_with (fail)
      exact CalmQ.mk rfl _ rfl (Below.refl _ _) rfl
    refine AllCalm.cons (fun W hB hd => ?_) ?_
    · obtain ⟨h1, -⟩ := hd
      have h1 : f 1 = _ := h1
      rw [h1]
      go_wp2_with (fail)
      exact CalmQ.mk rfl _ rfl (Below.refl _ _) rfl
    refine AllCalm.cons (fun W hB hd => ?_) ?_
    · obtain ⟨h2, -⟩ := hd
      have h2 : f 2 = _ := h2
      rw [h2]
      go_wp2_with (fail)
      exact CalmQ.mk rfl _ rfl (Below.refl _ _) rfl
    refine AllCalm.cons (fun W hB hd => ?_) ?_
    · obtain ⟨h3, -⟩ := hd
      have h3 : f 3 = _ := h3
      rw [h3]
      go_wp2_with (fail)
      exact CalmQ.mk rfl _ rfl (Below.refl _ _) rfl
    refine AllCalm.cons (fun W hB hd => ?_) ?_
    · obtain ⟨h4, h3, -⟩ := hd
      have h4 : f 4 = _ := h4
      have h3 : f 3 = _ := h3
      rw [h4, h3]
      go_wp2_with (fail)
      exact CalmQ.mk rfl _ rfl (Below.refl _ _) rfl
    refine AllCalm.cons (fun W hB hd => ?_) ?_
    · obtain ⟨h5, h3, -⟩ := hd
      have h5 : f 5 = _ := h5
      have h3 : f 3 = _ := h3
      rw [h5, h3]
      go_wp2_with (fail)
      exact CalmQ.mk rfl _ rfl (Below.refl _ _) rfl
    refine AllCalm.cons (fun W hB hd => ?_) ?_
    · obtain ⟨h6, h3, -⟩ := hd
      have h6 : f 6 = _ := h6
      have h3 : f 3 = _ := h3
      rw [h6, h3]
      have q0 := (hu.below (b2.trans (hB.mono b2.size))).c0
      go_wp2_with (fail)
      exact CalmQ.mk rfl _ rfl (Below.refl _ _) rfl
    refine AllCalm.cons (fun W hB hd => ?_) ?_
    · obtain ⟨h3, -⟩ := hd
      have h3 : f 3 = _ := h3
      rw [h3]
      go_wp2_with (fail)
      exact CalmQ.mk rfl _ rfl (Below.refl _ _) rfl
    refine AllCalm.cons (fun W hB hd => ?_) ?_
    · obtain ⟨h8, h3, -⟩ := hd
      have h8 : f 8 = _ := h8
      have h3 : f 3 = _ := h3
      rw [h8, h3]
      have q0 := (mc.below hB mc.lt).cell 1
      go_wp2_with (fail)
      exact CalmQ.mk rfl _ rfl (Below.refl _ _) rfl
    refine AllCalm.cons (fun W hB hd => ?_) ?_
    · obtain ⟨h3, -⟩ := hd
      have h3 : f 3 = _ := h3
      rw [h3]
      go_wp2_with (fail)
      exact CalmQ.mk rfl _ rfl (Below.refl _ _) rfl
    refine AllCalm.cons (fun W hB hd => ?_) ?_
    · obtain ⟨h10, h3, -⟩ := hd
      have h10 : f 10 = _ := h10
      have h3 : f 3 = _ := h3
      rw [h10, h3]
      have q0 := (mc.below hB mc.lt).cell 2
      go_wp2_with (fail)
      exact CalmQ.mk rfl _ rfl (Below.refl _ _) rfl
    refine AllCalm.cons (fun W hB hd => ?_) ?_
    · obtain ⟨h7, h9, h11, h3, -, -⟩ := hd
      have h7 : f 7 = _ := h7
      have h9 : f 9 = _ := h9
      have h11 : f 11 = _ := h11
      have h3 : f 3 = _ := h3
      rw [h7, h9, h11, h3]
      have cW := cIn W (b2.trans (hB.mono b2.size))
      go_wp2_with ((go_at_call 31; (with_reducible refine cW.mono ?_); rintro e' w3 ⟨rfl, rfl⟩))
      exact CalmQ.mk rfl _ rfl (Below.refl _ _) rfl
    refine AllCalm.cons (fun W hB hd => ?_) ?_
    · obtain ⟨h12, h3, -⟩ := hd
      have h12 : f 12 = _ := h12
      have h3 : f 3 = _ := h3
      rw [h12, h3]
      go_wp2_with (fail)
      exact CalmQ.mk rfl _ rfl (Below.refl _ _) rfl
    refine AllCalm.cons (fun W hB hd => ?_) ?_
    · obtain ⟨h3, h13, -⟩ := hd
      have h3 : f 3 = _ := h3
      have h13 : f 13 = _ := h13
      rw [h3, h13]
      go_wp2_with (fail)
      exact CalmQ.mk rfl _ rfl (Below.refl _ _) rfl
    exact AllCalm.nil
  · intro W hB hT
    obtain ⟨h0, h1, h2, h3, h4, h5, h6, h7, h8, h9, h10, h11, h12, h13, h14, -⟩ := hT
    have h0 : f 0 = _ := h0
    have h1 : f 1 = _ := h1
    have h2 : f 2 = _ := h2
    have h3 : f 3 = _ := h3
    have h4 : f 4 = _ := h4
    have h5 : f 5 = _ := h5
    have h6 : f 6 = _ := h6
    have h7 : f 7 = _ := h7
    have h8 : f 8 = _ := h8
    have h9 : f 9 = _ := h9
    have h10 : f 10 = _ := h10
    have h11 : f 11 = _ := h11
    have h12 : f 12 = _ := h12
    have h13 : f 13 = _ := h13
    have h14 : f 14 = _ := h14
    rw [h0, h1, h2, h3, h4, h5, h6, h7, h8, h9, h10, h11, h12, h13, h14]
    clear h0 h1 h2 h3 h4 h5 h6 h7 h8 h9 h10 h11 h12 h13 h14
    have mrW := mr.below hB mr.lt
    have mcW := mc.below hB mc.lt
    have BW := b2.trans (hB.mono b2.size)
    have k0 := mcW.cell 0
    have k2 := mcW.cell 2
    have k3 := mcW.cell 3
    generalize W = W0 at *
    go_upto_region 22 with (fail)
    apply calm_tail 8 [.is _, .is _, .is _, .is _, .is _, .is _, .is _, .is _] [[], [0], [1], [2], [], [4], [], [6]] (by kernel_rfl) (by kernel_rfl) (by kernel_rfl) rfl
    intro f a1 ha1
    simp only [List.take_succ_cons, List.take_zero, putL, Act.put, List.setIfInBounds_toArray, List.set_cons_succ, List.set_cons_zero] at ha1
    subst ha1
    refine ⟨?_, ?_⟩
    · refine AllCalm.cons (fun W hB hd => ?_) ?_
      · go_wp2_with (fail)
        exact CalmQ.mk rfl _ rfl (Below.refl _ _) rfl
      refine AllCalm.cons (fun W hB hd => ?_) ?_
      · obtain ⟨h0, -⟩ := hd
        have h0 : f 0 = _ := h0
        rw [h0]
        go_wp2_with (fail)
        exact CalmQ.mk rfl _ rfl (Below.refl _ _) rfl
      refine AllCalm.cons (fun W hB hd => ?_) ?_
      · obtain ⟨h1, -⟩ := hd
        have h1 : f 1 = _ := h1
        rw [h1]
        go_wp2_with (fail)
        exact CalmQ.mk rfl _ rfl (Below.refl _ _) rfl
      refine AllCalm.cons (fun W hB hd => ?_) ?_
      · obtain ⟨h2, -⟩ := hd
        have h2 : f 2 = _ := h2
        rw [h2]
        have q0 := (hu.below (BW.trans (hB.mono BW.size))).c0
        go_wp2_with (fail)
        exact CalmQ.mk rfl _ rfl (Below.refl _ _) rfl
      refine AllCalm.cons (fun W hB hd => ?_) ?_
      · go_wp2_with (fail)
        exact CalmQ.mk rfl _ rfl (Below.refl _ _) rfl
      refine AllCalm.cons (fun W hB hd => ?_) ?_
      · obtain ⟨h4, -⟩ := hd
        have h4 : f 4 = _ := h4
        rw [h4]
        have q0 := (mcW.below hB mcW.lt).cell 1
        go_wp2_with (fail)
        exact CalmQ.mk rfl _ rfl (Below.refl _ _) rfl
      refine AllCalm.cons (fun W hB hd => ?_) ?_
      · go_wp2_with (fail)
        exact CalmQ.mk rfl _ rfl (Below.refl _ _) rfl
      refine AllCalm.cons (fun W hB hd => ?_) ?_
      · obtain ⟨h6, -⟩ := hd
        have h6 : f 6 = _ := h6
        rw [h6]
        have q0 := (mcW.below hB mcW.lt).cell 3
        go_wp2_with (fail)
        exact CalmQ.mk rfl _ rfl (Below.refl _ _) rfl
      exact AllCalm.nil
    · intro W hB hT
      obtain ⟨h0, h1, h2, h3, h4, h5, h6, h7, -⟩ := hT
      have h0 : f 0 = _ := h0
      have h1 : f 1 = _ := h1
      have h2 : f 2 = _ := h2
      have h3 : f 3 = _ := h3
      have h4 : f 4 = _ := h4
      have h5 : f 5 = _ := h5
      have h6 : f 6 = _ := h6
      have h7 : f 7 = _ := h7
      rw [h0, h1, h2, h3, h4, h5, h6, h7]
      clear h0 h1 h2 h3 h4 h5 h6 h7
      simp only [List.drop_succ_cons, List.drop_zero]
      have mrV := mrW.below hB mrW.lt
      have BWV := BW.trans (hB.mono BW.size)
      have cWV := cWr _ BWV
      go_wp2_with (first
        | (go_at_call 34; (with_reducible refine cWV.mono ?_); rintro e' w5 ⟨rfl, M5, r5, s5, E5⟩; have mr5 := mrV.eff E5 (fun e => e.elim (fun e => (by have := hu.sp.data.lt; omega)) (fun e => (by have := hu.sp.map.lt; omega))))
        | (go_at_call 24; (with_reducible refine (cG _).mono ?_); rintro e' w4 ⟨A4, c4, rfl, o4, b4⟩; have mr4 := mr5.below b4 mr5.lt)
        | (refine wpList_store_row rfl 31 (.tmp 4) (.tmp 108) rfl (w.heap.size + 1) #[.int .i64 0, .int .i64 0, .int .i64 0, .slice A4 0 c4, .int .i64 0] rfl rfl 31 #[.int .i64 0, .int .i64 0, .int .i64 0, .slice none 0 0, .int .i64 0] mr4 (by kernel_rfl) (by kernel_rfl) (by kernel_rfl) ?_))
      try rw [Exit.noGoto_ret]
      have E2 : Eff (SpS g h) w w5 := (Eff.of (S := SpS g h) BWV).trans E5 fun _ _ h => h
      have s4 := s5.below b4
      have s6 : SpInv (w4.setRow (w.heap.size + 1) #[.int .i64 0, .int .i64 0, .int .i64 0, .slice A4 0 c4, .int .i64 0]) B X g h N _ M5 := SpInv.eff s4 (eff_setRow w4 (w.heap.size + 1) #[.int .i64 0, .int .i64 0, .int .i64 0, .slice A4 0 c4, .int .i64 0]) (by have := hu.sp.mem.lt; omega) (by have := hu.sp.data.lt; omega) (by have := hu.sp.map.lt; omega)
      exact bodyPost_ret ((results_cell1 (p := 4) (ty := 31) rfl _ _ (w.heap.size + 1) 31 _ (0, 0) _ rfl (mr4.row #[.int .i64 0, .int .i64 0, .int .i64 0, .slice A4 0 c4, .int .i64 0]) Try.underlying31 rfl (by kernel_rfl)).trans rfl) rfl ⟨_, rfl, rep_end (w0 := w5) (l := []) mr4 o4 E2.size, M5, r5, s6, ((E2.trans (Eff.of (S := fun _ => False) b4) fun _ _ h => h.elim).trans (eff_setRow w4 (w.heap.size + 1) #[.int .i64 0, .int .i64 0, .int .i64 0, .slice A4 0 c4, .int .i64 0]) fun i hi e => absurd hi (by omega))⟩
set_option maxHeartbeats 2000000 in
theorem onb_write_bad (hu : UnM w B Z X g h Y N D M t hs) (a n : Nat) (l : List UInt8) (v : Value) (ck cn ct : Int) (cf : Bool) (h3 : n ≤ 32) (ha : a + n ≤ N) (hv : Sl w w.heap.size v l.length (bs l)) (hl : l.length ≠ n * 8) (hl1 : l.length ≤ 100000) : Calls Try.prog 23 #[.pointer (some ⟨Z, 0, none⟩), .agg #[.int .i64 3, .int .i64 (a : Nat), .int .i64 (n : Nat), v, .int .u64 ck, .int .u64 cn, .int .i64 ct, .bool cf]] w fun e w' => ∃ v, e = .returned v ∧ Rep w' w.heap.size v 2 5 9216 0 [] ∧ Below w.heap.size w w' := by
  obtain ⟨A, c, rfl, _, _⟩ := hv.form
  obtain ⟨m8, hm8⟩ : ∃ m8, n * 8 = m8 := ⟨_, rfl⟩
  obtain ⟨w2, e2, mc, mr, b2⟩ : ∃ w2, w2 = (w.alloc (.cells #[.int .i64 3, .int .i64 (a : Nat), .int .i64 (n : Nat), .slice A l.length c, .int .u64 ck, .int .u64 cn, .int .i64 ct, .bool cf] 26)).alloc (.cells #[.int .i64 0, .int .i64 0, .int .i64 0, .slice none 0 0, .int .i64 0] 31) ∧ Mem w2 w.heap.size 26 #[.int .i64 3, .int .i64 (a : Nat), .int .i64 (n : Nat), .slice A l.length c, .int .u64 ck, .int .u64 cn, .int .i64 ct, .bool cf] ∧ Mem w2 (w.heap.size + 1) 31 #[.int .i64 0, .int .i64 0, .int .i64 0, .slice none 0 0, .int .i64 0] ∧ Below w.heap.size w w2 := ⟨_, rfl, by
    have m0 := Mem.new w 26 #[.int .i64 3, .int .i64 (a : Nat), .int .i64 (n : Nat), .slice A l.length c, .int .u64 ck, .int .u64 cn, .int .i64 ct, .bool cf]
    exact m0.below ((Below.refl _ _).alloc (Nat.le_refl _) _) m0.lt, by
    have m1 := Mem.new (w.alloc (.cells #[.int .i64 3, .int .i64 (a : Nat), .int .i64 (n : Nat), .slice A l.length c, .int .u64 ck, .int .u64 cn, .int .i64 ct, .bool cf] 26)) 31 #[.int .i64 0, .int .i64 0, .int .i64 0, .slice none 0 0, .int .i64 0]
    rw [World.size_alloc] at m1
    exact m1, ((Below.refl _ w).alloc (Nat.le_refl _) _).alloc (by rw [World.size_alloc]; omega) _⟩
  have cIn : ∀ W, Below w.heap.size w W → Calls Try.prog 31 #[.pointer (some ⟨X, 0, none⟩), .int .i64 (a : Nat), .int .i64 (n : Nat)] W fun e w' => e = .returned (.bool true) ∧ W = w' := fun W hW => by
    have q := in_all (a : Nat) (n : Nat) (by omega) (hu.sp.below hW)
    rw [show inB N (a : Nat) (n : Nat) = true from by unfold inB; exact decide_eq_true (by omega)] at q
    exact q
  have hnx : (n : Int) ≤ 32 := by omega
  have hmx : (n : Int) * 8 = (m8 : Int) := by omega
  have hne : ¬ (l.length : Int) = (m8 : Int) := by omega
  have hlx : (l.length : Int) ≤ 100000 := by omega
  have HL := Lib.hid hl
  clear hl hm8 hv hl1
  go_enter Try.func23, Try.ntmps23
  go_upto_region 1 with (fail)
  rw [← e2]
  clear e2
  apply calm_region [.is _, .is _, .is _, .is _, .is _, .is _, .is _, .is _, .is _, .is _, .is _, .is _, .is _, .is _, .is _] [[], [0], [1], [2], [3], [4, 3], [5, 3], [6, 3], [3], [8, 3], [3], [10, 3], [7, 9, 11, 3, 3], [12, 3], [3, 13]] (by kernel_rfl) (by kernel_rfl) (by kernel_rfl) rfl
  intro f a1 ha1
  simp only [putL, Act.put, List.setIfInBounds_toArray, List.set_cons_succ, List.set_cons_zero] at ha1
  subst ha1
  refine ⟨?_, ?_⟩
  · refine AllCalm.cons (fun W hB hd => ?_) ?_
    · go_wp2_with (fail)
      exact CalmQ.mk rfl _ rfl (Below.refl _ _) rfl
    refine AllCalm.cons (fun W hB hd => ?_) ?_
    · obtain ⟨h0, -⟩ := hd
      have h0 : f 0 = _ := h0
      rw [h0]
      have q0 := (mc.below hB mc.lt).cell 0
      go_wp2_with (fail)
      exact CalmQ.mk rfl _ rfl (Below.refl _ _) rfl
    refine AllCalm.cons (fun W hB hd => ?_) ?_
    · obtain ⟨h1, -⟩ := hd
      have h1 : f 1 = _ := h1
      rw [h1]
      go_wp2_with (fail)
      exact CalmQ.mk rfl _ rfl (Below.refl _ _) rfl
    refine AllCalm.cons (fun W hB hd => ?_) ?_
    · obtain ⟨h2, -⟩ := hd
      have h2 : f 2 = _ := h2
      rw [h2]
      go_wp2_with (fail)
      exact CalmQ.mk rfl _ rfl (Below.refl _ _) rfl
    refine AllCalm.cons (fun W hB hd => ?_) ?_
    · obtain ⟨h3, -⟩ := hd
      have h3 : f 3 = _ := h3
      rw [h3]
      go_wp2_with (fail)
      exact CalmQ.mk rfl _ rfl (Below.refl _ _) rfl
    refine AllCalm.cons (fun W hB hd => ?_) ?_
    · obtain ⟨h4, h3, -⟩ := hd
      have h4 : f 4 = _ := h4
      have h3 : f 3 = _ := h3
      rw [h4, h3]
      go_wp2_with (fail)
      exact CalmQ.mk rfl _ rfl (Below.refl _ _) rfl
    refine AllCalm.cons (fun W hB hd => ?_) ?_
    · obtain ⟨h5, h3, -⟩ := hd
      have h5 : f 5 = _ := h5
      have h3 : f 3 = _ := h3
      rw [h5, h3]
      go_wp2_with (fail)
      exact CalmQ.mk rfl _ rfl (Below.refl _ _) rfl
    refine AllCalm.cons (fun W hB hd => ?_) ?_
    · obtain ⟨h6, h3, -⟩ := hd
      have h6 : f 6 = _ := h6
      have h3 : f 3 = _ := h3
      rw [h6, h3]
      have q0 := (hu.below (b2.trans (hB.mono b2.size))).c0
      go_wp2_with (fail)
      exact CalmQ.mk rfl _ rfl (Below.refl _ _) rfl
    refine AllCalm.cons (fun W hB hd => ?_) ?_
    · obtain ⟨h3, -⟩ := hd
      have h3 : f 3 = _ := h3
      rw [h3]
      go_wp2_with (fail)
      exact CalmQ.mk rfl _ rfl (Below.refl _ _) rfl
    refine AllCalm.cons (fun W hB hd => ?_) ?_
    · obtain ⟨h8, h3, -⟩ := hd
      have h8 : f 8 = _ := h8
      have h3 : f 3 = _ := h3
      rw [h8, h3]
      have q0 := (mc.below hB mc.lt).cell 1
      go_wp2_with (fail)
      exact CalmQ.mk rfl _ rfl (Below.refl _ _) rfl
    refine AllCalm.cons (fun W hB hd => ?_) ?_
    · obtain ⟨h3, -⟩ := hd
      have h3 : f 3 = _ := h3
      rw [h3]
      go_wp2_with (fail)
      exact CalmQ.mk rfl _ rfl (Below.refl _ _) rfl
    refine AllCalm.cons (fun W hB hd => ?_) ?_
    · obtain ⟨h10, h3, -⟩ := hd
      have h10 : f 10 = _ := h10
      have h3 : f 3 = _ := h3
      rw [h10, h3]
      have q0 := (mc.below hB mc.lt).cell 2
      go_wp2_with (fail)
      exact CalmQ.mk rfl _ rfl (Below.refl _ _) rfl
    refine AllCalm.cons (fun W hB hd => ?_) ?_
    · obtain ⟨h7, h9, h11, h3, -, -⟩ := hd
      have h7 : f 7 = _ := h7
      have h9 : f 9 = _ := h9
      have h11 : f 11 = _ := h11
      have h3 : f 3 = _ := h3
      rw [h7, h9, h11, h3]
      have cW := cIn W (b2.trans (hB.mono b2.size))
      go_wp2_with ((go_at_call 31; (with_reducible refine cW.mono ?_); rintro e' w3 ⟨rfl, rfl⟩))
      exact CalmQ.mk rfl _ rfl (Below.refl _ _) rfl
    refine AllCalm.cons (fun W hB hd => ?_) ?_
    · obtain ⟨h12, h3, -⟩ := hd
      have h12 : f 12 = _ := h12
      have h3 : f 3 = _ := h3
      rw [h12, h3]
      go_wp2_with (fail)
      exact CalmQ.mk rfl _ rfl (Below.refl _ _) rfl
    refine AllCalm.cons (fun W hB hd => ?_) ?_
    · obtain ⟨h3, h13, -⟩ := hd
      have h3 : f 3 = _ := h3
      have h13 : f 13 = _ := h13
      rw [h3, h13]
      go_wp2_with (fail)
      exact CalmQ.mk rfl _ rfl (Below.refl _ _) rfl
    exact AllCalm.nil
  · intro W hB hT
    obtain ⟨h0, h1, h2, h3, h4, h5, h6, h7, h8, h9, h10, h11, h12, h13, h14, -⟩ := hT
    have h0 : f 0 = _ := h0
    have h1 : f 1 = _ := h1
    have h2 : f 2 = _ := h2
    have h3 : f 3 = _ := h3
    have h4 : f 4 = _ := h4
    have h5 : f 5 = _ := h5
    have h6 : f 6 = _ := h6
    have h7 : f 7 = _ := h7
    have h8 : f 8 = _ := h8
    have h9 : f 9 = _ := h9
    have h10 : f 10 = _ := h10
    have h11 : f 11 = _ := h11
    have h12 : f 12 = _ := h12
    have h13 : f 13 = _ := h13
    have h14 : f 14 = _ := h14
    rw [h0, h1, h2, h3, h4, h5, h6, h7, h8, h9, h10, h11, h12, h13, h14]
    clear h0 h1 h2 h3 h4 h5 h6 h7 h8 h9 h10 h11 h12 h13 h14
    have mrW := mr.below hB mr.lt
    have mcW := mc.below hB mc.lt
    have BW := b2.trans (hB.mono b2.size)
    have k0 := mcW.cell 0
    have k2 := mcW.cell 2
    have k3 := mcW.cell 3
    go_wp2_with (first
      | (go_at_call 19; (with_reducible refine (illegal_any _ _).mono ?_); rintro e' w4 ⟨rfl, b4⟩; have mr4 := mrW.below b4 mrW.lt)
      | (refine wpList_store_row rfl 31 (.tmp 4) (.tmp 88) rfl (w.heap.size + 1) #[.int .i64 2, .int .i64 5, .int .i64 9216, .slice none 0 0, .int .i64 0] rfl rfl 31 #[.int .i64 0, .int .i64 0, .int .i64 0, .slice none 0 0, .int .i64 0] mr4 (by kernel_rfl) (by kernel_rfl) (by kernel_rfl) ?_))
    try rw [Exit.noGoto_ret]
    have B4 := BW.trans (b4.mono BW.size)
    exact bodyPost_ret ((results_cell1 (p := 4) (ty := 31) rfl _ _ (w.heap.size + 1) 31 _ (0, 0) _ rfl (mr4.row #[.int .i64 2, .int .i64 5, .int .i64 9216, .slice none 0 0, .int .i64 0]) Try.underlying31 rfl (by kernel_rfl)).trans rfl) rfl ⟨_, rfl, rep_end (w0 := w) (l := []) mr4 (World.ownsRow_nil _ _ _ _) (Nat.le_refl _), below_setRow B4 (by omega) _⟩
set_option maxHeartbeats 2000000 in
theorem onb_unmap (hu : UnM w B Z X g h Y N D M t hs) (a n : Nat) (v : Value) (ck cn ct : Int) (cf : Bool) (h3 : n ≤ 32) (ha : a + n ≤ N) : Calls Try.prog 23 #[.pointer (some ⟨Z, 0, none⟩), .agg #[.int .i64 5, .int .i64 (a : Nat), .int .i64 (n : Nat), v, .int .u64 ck, .int .u64 cn, .int .i64 ct, .bool cf]] w fun e w' => ∃ v, e = .returned v ∧ Rep w' w.heap.size v 0 0 0 0 [] ∧ ∃ M', runTo M a n false M' ∧ SpInv w' B X g h N (laid D a (List.replicate (n * 8) 0)) M' ∧ Eff (SpS g h) w w' := by
  obtain ⟨w2, e2, mc, mr, b2⟩ : ∃ w2, w2 = (w.alloc (.cells #[.int .i64 5, .int .i64 (a : Nat), .int .i64 (n : Nat), v, .int .u64 ck, .int .u64 cn, .int .i64 ct, .bool cf] 26)).alloc (.cells #[.int .i64 0, .int .i64 0, .int .i64 0, .slice none 0 0, .int .i64 0] 31) ∧ Mem w2 w.heap.size 26 #[.int .i64 5, .int .i64 (a : Nat), .int .i64 (n : Nat), v, .int .u64 ck, .int .u64 cn, .int .i64 ct, .bool cf] ∧ Mem w2 (w.heap.size + 1) 31 #[.int .i64 0, .int .i64 0, .int .i64 0, .slice none 0 0, .int .i64 0] ∧ Below w.heap.size w w2 := ⟨_, rfl, by
    have m0 := Mem.new w 26 #[.int .i64 5, .int .i64 (a : Nat), .int .i64 (n : Nat), v, .int .u64 ck, .int .u64 cn, .int .i64 ct, .bool cf]
    exact m0.below ((Below.refl _ _).alloc (Nat.le_refl _) _) m0.lt, by
    have m1 := Mem.new (w.alloc (.cells #[.int .i64 5, .int .i64 (a : Nat), .int .i64 (n : Nat), v, .int .u64 ck, .int .u64 cn, .int .i64 ct, .bool cf] 26)) 31 #[.int .i64 0, .int .i64 0, .int .i64 0, .slice none 0 0, .int .i64 0]
    rw [World.size_alloc] at m1
    exact m1, ((Below.refl _ w).alloc (Nat.le_refl _) _).alloc (by rw [World.size_alloc]; omega) _⟩
  have cIn : ∀ W, Below w.heap.size w W → Calls Try.prog 31 #[.pointer (some ⟨X, 0, none⟩), .int .i64 (a : Nat), .int .i64 (n : Nat)] W fun e w' => e = .returned (.bool true) ∧ W = w' := fun W hW => by
    have q := in_all (a : Nat) (n : Nat) (by omega) (hu.sp.below hW)
    rw [show inB N (a : Nat) (n : Nat) = true from by unfold inB; exact decide_eq_true (by omega)] at q
    exact q
  have hnx : (n : Int) ≤ 32 := by omega
  have cWr : ∀ W, Below w.heap.size w W → Calls Try.prog 35 #[.pointer (some ⟨X, 0, none⟩), .int .i64 (a : Nat), .int .i64 (n : Nat)] W fun e w' => e = .returned (.int .i64 0) ∧ ∃ M', runTo M a n false M' ∧ SpInv w' B X g h N (laid D a (List.replicate (n * 8) 0)) M' ∧ Eff (SpS g h) W w' := fun W hW => (unmap_ok a n (hu.sp.below hW) h3 ha).mono fun e w' ⟨q1, M', q2, q3, q4⟩ => ⟨q1, M', q2, q3, q4⟩
  have cG : ∀ W, Calls Try.prog 24 #[.slice none 0 0] W fun e w' => ∃ A c, e = .returned (.agg #[.int .i64 0, .int .i64 0, .int .i64 0, .slice A 0 c, .int .i64 0]) ∧ w'.ownsRow W.heap.size 5 1 (.slice A 0 c) 0 (bs []) ∧ Below W.heap.size W w' := fun W => good_any (.slice none 0 0) [] (by decide) W Sl.nil_
  go_enter Try.func23, Try.ntmps23
  go_upto_region 1 with (fail)
  rw [← e2]
  clear e2
  apply calm_region [.is _, .is _, .is _, .is _, .is _, .is _, .is _, .is _, .is _, .is _, .is _, .is _, .is _, .is _, .is _] [[], [0], [1], [2], [3], [4, 3], [5, 3], [6, 3], [3], [8, 3], [3], [10, 3], [7, 9, 11, 3, 3], [12, 3], [3, 13]] (by kernel_rfl) (by kernel_rfl) (by kernel_rfl) rfl
  intro f a1 ha1
  simp only [putL, Act.put, List.setIfInBounds_toArray, List.set_cons_succ, List.set_cons_zero] at ha1
  subst ha1
  refine ⟨?_, ?_⟩
  · refine AllCalm.cons (fun W hB hd => ?_) ?_
    · go_wp2_with (fail)
      exact CalmQ.mk rfl _ rfl (Below.refl _ _) rfl
    refine AllCalm.cons (fun W hB hd => ?_) ?_
    · obtain ⟨h0, -⟩ := hd
      have h0 : f 0 = _ := h0
      rw [h0]
      have q0 := (mc.below hB mc.lt).cell 0
      go_wp2_with (fail)
      exact CalmQ.mk rfl _ rfl (Below.refl _ _) rfl
    refine AllCalm.cons (fun W hB hd => ?_) ?_
    · obtain ⟨h1, -⟩ := hd
      have h1 : f 1 = _ := h1
      rw [h1]
      go_wp2_with (fail)
      exact CalmQ.mk rfl _ rfl (Below.refl _ _) rfl
    refine AllCalm.cons (fun W hB hd => ?_) ?_
    · obtain ⟨h2, -⟩ := hd
      have h2 : f 2 = _ := h2
      rw [h2]
      go_wp2_with (fail)
      exact CalmQ.mk rfl _ rfl (Below.refl _ _) rfl
    refine AllCalm.cons (fun W hB hd => ?_) ?_
    · obtain ⟨h3, -⟩ := hd
      have h3 : f 3 = _ := h3
      rw [h3]
      go_wp2_with (fail)
      exact CalmQ.mk rfl _ rfl (Below.refl _ _) rfl
    refine AllCalm.cons (fun W hB hd => ?_) ?_
    · obtain ⟨h4, h3, -⟩ := hd
      have h4 : f 4 = _ := h4
      have h3 : f 3 = _ := h3
      rw [h4, h3]
      go_wp2_with (fail)
      exact CalmQ.mk rfl _ rfl (Below.refl _ _) rfl
    refine AllCalm.cons (fun W hB hd => ?_) ?_
    · obtain ⟨h5, h3, -⟩ := hd
      have h5 : f 5 = _ := h5
      have h3 : f 3 = _ := h3
      rw [h5, h3]
      go_wp2_with (fail)
      exact CalmQ.mk rfl _ rfl (Below.refl _ _) rfl
    refine AllCalm.cons (fun W hB hd => ?_) ?_
    · obtain ⟨h6, h3, -⟩ := hd
      have h6 : f 6 = _ := h6
      have h3 : f 3 = _ := h3
      rw [h6, h3]
      have q0 := (hu.below (b2.trans (hB.mono b2.size))).c0
      go_wp2_with (fail)
      exact CalmQ.mk rfl _ rfl (Below.refl _ _) rfl
    refine AllCalm.cons (fun W hB hd => ?_) ?_
    · obtain ⟨h3, -⟩ := hd
      have h3 : f 3 = _ := h3
      rw [h3]
      go_wp2_with (fail)
      exact CalmQ.mk rfl _ rfl (Below.refl _ _) rfl
    refine AllCalm.cons (fun W hB hd => ?_) ?_
    · obtain ⟨h8, h3, -⟩ := hd
      have h8 : f 8 = _ := h8
      have h3 : f 3 = _ := h3
      rw [h8, h3]
      have q0 := (mc.below hB mc.lt).cell 1
      go_wp2_with (fail)
      exact CalmQ.mk rfl _ rfl (Below.refl _ _) rfl
    refine AllCalm.cons (fun W hB hd => ?_) ?_
    · obtain ⟨h3, -⟩ := hd
      have h3 : f 3 = _ := h3
      rw [h3]
      go_wp2_with (fail)
      exact CalmQ.mk rfl _ rfl (Below.refl _ _) rfl
    refine AllCalm.cons (fun W hB hd => ?_) ?_
    · obtain ⟨h10, h3, -⟩ := hd
      have h10 : f 10 = _ := h10
      have h3 : f 3 = _ := h3
      rw [h10, h3]
      have q0 := (mc.below hB mc.lt).cell 2
      go_wp2_with (fail)
      exact CalmQ.mk rfl _ rfl (Below.refl _ _) rfl
    refine AllCalm.cons (fun W hB hd => ?_) ?_
    · obtain ⟨h7, h9, h11, h3, -, -⟩ := hd
      have h7 : f 7 = _ := h7
      have h9 : f 9 = _ := h9
      have h11 : f 11 = _ := h11
      have h3 : f 3 = _ := h3
      rw [h7, h9, h11, h3]
      have cW := cIn W (b2.trans (hB.mono b2.size))
      go_wp2_with ((go_at_call 31; (with_reducible refine cW.mono ?_); rintro e' w3 ⟨rfl, rfl⟩))
      exact CalmQ.mk rfl _ rfl (Below.refl _ _) rfl
    refine AllCalm.cons (fun W hB hd => ?_) ?_
    · obtain ⟨h12, h3, -⟩ := hd
      have h12 : f 12 = _ := h12
      have h3 : f 3 = _ := h3
      rw [h12, h3]
      go_wp2_with (fail)
      exact CalmQ.mk rfl _ rfl (Below.refl _ _) rfl
    refine AllCalm.cons (fun W hB hd => ?_) ?_
    · obtain ⟨h3, h13, -⟩ := hd
      have h3 : f 3 = _ := h3
      have h13 : f 13 = _ := h13
      rw [h3, h13]
      go_wp2_with (fail)
      exact CalmQ.mk rfl _ rfl (Below.refl _ _) rfl
    exact AllCalm.nil
  · intro W hB hT
    obtain ⟨h0, h1, h2, h3, h4, h5, h6, h7, h8, h9, h10, h11, h12, h13, h14, -⟩ := hT
    have h0 : f 0 = _ := h0
    have h1 : f 1 = _ := h1
    have h2 : f 2 = _ := h2
    have h3 : f 3 = _ := h3
    have h4 : f 4 = _ := h4
    have h5 : f 5 = _ := h5
    have h6 : f 6 = _ := h6
    have h7 : f 7 = _ := h7
    have h8 : f 8 = _ := h8
    have h9 : f 9 = _ := h9
    have h10 : f 10 = _ := h10
    have h11 : f 11 = _ := h11
    have h12 : f 12 = _ := h12
    have h13 : f 13 = _ := h13
    have h14 : f 14 = _ := h14
    rw [h0, h1, h2, h3, h4, h5, h6, h7, h8, h9, h10, h11, h12, h13, h14]
    clear h0 h1 h2 h3 h4 h5 h6 h7 h8 h9 h10 h11 h12 h13 h14
    have mrW := mr.below hB mr.lt
    have mcW := mc.below hB mc.lt
    have BW := b2.trans (hB.mono b2.size)
    have k0 := mcW.cell 0
    have k2 := mcW.cell 2
    generalize W = W0 at *
    go_upto_region 23 with (fail)
    apply calm_tail 8 [.is _, .is _, .is _, .is _, .is _, .is _, .is _, .is _] [[], [0], [1], [2], [], [4], [], [6]] (by kernel_rfl) (by kernel_rfl) (by kernel_rfl) rfl
    intro f a1 ha1
    simp only [List.take_succ_cons, List.take_zero, putL, Act.put, List.setIfInBounds_toArray, List.set_cons_succ, List.set_cons_zero] at ha1
    subst ha1
    refine ⟨?_, ?_⟩
    · refine AllCalm.cons (fun W hB hd => ?_) ?_
      · go_wp2_with (fail)
        exact CalmQ.mk rfl _ rfl (Below.refl _ _) rfl
      refine AllCalm.cons (fun W hB hd => ?_) ?_
      · obtain ⟨h0, -⟩ := hd
        have h0 : f 0 = _ := h0
        rw [h0]
        go_wp2_with (fail)
        exact CalmQ.mk rfl _ rfl (Below.refl _ _) rfl
      refine AllCalm.cons (fun W hB hd => ?_) ?_
      · obtain ⟨h1, -⟩ := hd
        have h1 : f 1 = _ := h1
        rw [h1]
        go_wp2_with (fail)
        exact CalmQ.mk rfl _ rfl (Below.refl _ _) rfl
      refine AllCalm.cons (fun W hB hd => ?_) ?_
      · obtain ⟨h2, -⟩ := hd
        have h2 : f 2 = _ := h2
        rw [h2]
        have q0 := (hu.below (BW.trans (hB.mono BW.size))).c0
        go_wp2_with (fail)
        exact CalmQ.mk rfl _ rfl (Below.refl _ _) rfl
      refine AllCalm.cons (fun W hB hd => ?_) ?_
      · go_wp2_with (fail)
        exact CalmQ.mk rfl _ rfl (Below.refl _ _) rfl
      refine AllCalm.cons (fun W hB hd => ?_) ?_
      · obtain ⟨h4, -⟩ := hd
        have h4 : f 4 = _ := h4
        rw [h4]
        have q0 := (mcW.below hB mcW.lt).cell 1
        go_wp2_with (fail)
        exact CalmQ.mk rfl _ rfl (Below.refl _ _) rfl
      refine AllCalm.cons (fun W hB hd => ?_) ?_
      · go_wp2_with (fail)
        exact CalmQ.mk rfl _ rfl (Below.refl _ _) rfl
      refine AllCalm.cons (fun W hB hd => ?_) ?_
      · obtain ⟨h6, -⟩ := hd
        have h6 : f 6 = _ := h6
        rw [h6]
        have q0 := (mcW.below hB mcW.lt).cell 2
        go_wp2_with (fail)
        exact CalmQ.mk rfl _ rfl (Below.refl _ _) rfl
      exact AllCalm.nil
    · intro W hB hT
      obtain ⟨h0, h1, h2, h3, h4, h5, h6, h7, -⟩ := hT
      have h0 : f 0 = _ := h0
      have h1 : f 1 = _ := h1
      have h2 : f 2 = _ := h2
      have h3 : f 3 = _ := h3
      have h4 : f 4 = _ := h4
      have h5 : f 5 = _ := h5
      have h6 : f 6 = _ := h6
      have h7 : f 7 = _ := h7
      rw [h0, h1, h2, h3, h4, h5, h6, h7]
      clear h0 h1 h2 h3 h4 h5 h6 h7
      simp only [List.drop_succ_cons, List.drop_zero]
      have mrV := mrW.below hB mrW.lt
      have BWV := BW.trans (hB.mono BW.size)
      have cWV := cWr _ BWV
      go_wp2_with (first
        | (go_at_call 35; (with_reducible refine cWV.mono ?_); rintro e' w5 ⟨rfl, M5, r5, s5, E5⟩; have mr5 := mrV.eff E5 (fun e => e.elim (fun e => (by have := hu.sp.data.lt; omega)) (fun e => (by have := hu.sp.map.lt; omega))))
        | (go_at_call 24; (with_reducible refine (cG _).mono ?_); rintro e' w4 ⟨A4, c4, rfl, o4, b4⟩; have mr4 := mr5.below b4 mr5.lt)
        | (refine wpList_store_row rfl 31 (.tmp 4) (.tmp 107) rfl (w.heap.size + 1) #[.int .i64 0, .int .i64 0, .int .i64 0, .slice A4 0 c4, .int .i64 0] rfl rfl 31 #[.int .i64 0, .int .i64 0, .int .i64 0, .slice none 0 0, .int .i64 0] mr4 (by kernel_rfl) (by kernel_rfl) (by kernel_rfl) ?_))
      try rw [Exit.noGoto_ret]
      have E2 : Eff (SpS g h) w w5 := (Eff.of (S := SpS g h) BWV).trans E5 fun _ _ h => h
      have s4 := s5.below b4
      have s6 : SpInv (w4.setRow (w.heap.size + 1) #[.int .i64 0, .int .i64 0, .int .i64 0, .slice A4 0 c4, .int .i64 0]) B X g h N _ M5 := SpInv.eff s4 (eff_setRow w4 (w.heap.size + 1) #[.int .i64 0, .int .i64 0, .int .i64 0, .slice A4 0 c4, .int .i64 0]) (by have := hu.sp.mem.lt; omega) (by have := hu.sp.data.lt; omega) (by have := hu.sp.map.lt; omega)
      exact bodyPost_ret ((results_cell1 (p := 4) (ty := 31) rfl _ _ (w.heap.size + 1) 31 _ (0, 0) _ rfl (mr4.row #[.int .i64 0, .int .i64 0, .int .i64 0, .slice A4 0 c4, .int .i64 0]) Try.underlying31 rfl (by kernel_rfl)).trans rfl) rfl ⟨_, rfl, rep_end (w0 := w5) (l := []) mr4 o4 E2.size, M5, r5, s6, ((E2.trans (Eff.of (S := fun _ => False) b4) fun _ _ h => h.elim).trans (eff_setRow w4 (w.heap.size + 1) #[.int .i64 0, .int .i64 0, .int .i64 0, .slice A4 0 c4, .int .i64 0]) fun i hi e => absurd hi (by omega))⟩
end
end Un
end Go.Proofs.Ytflodljccloobaa
