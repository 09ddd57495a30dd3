/- Package lu: clone; Once for the first time, and again. Written by tools/gen-un6.py. -/
import Derived.Test.YtpkebbibafldkaaUn5
namespace Go.Proofs.Ytpkebbibafldkaa
open Go.ChangeShapes Go.WideShapes Go.ChangeAt Go.RowKit Go.Lib
set_option linter.unusedVariables false
set_option linter.unusedSimpArgs false
set_option maxRecDepth 100000
namespace Un
open Rv
section
variable {w w' : World} {B Z X g h Y N : Nat} {D D' M M' : List UInt8} {t t' : RT} {hs : List Value}
theorem info_kept : (Try.prog.info? 86).map (fun i => (i.zero, i.size, i.bytes)) = some (some (.agg #[.int .u64 0, .int .i64 0, .int .i64 0, .int .i64 0, .slice none 0 0, .int .i64 0]), 6, 64) := by kernel_rfl
theorem clone_any (s k c i : Int) (v : Value) (l : List UInt8) (hl : l.length ≤ 100000) (w : World) (hv : Sl w w.heap.size v l.length (bs l)) : Calls Try.prog 39 #[.agg #[.int .i64 s, .int .i64 k, .int .i64 c, v, .int .i64 i]] w fun e w' => ∃ A cap, e = .returned (.agg #[.int .i64 s, .int .i64 k, .int .i64 c, .slice A l.length cap, .int .i64 i]) ∧ w'.ownsRow w.heap.size 5 1 (.slice A l.length cap) l.length (bs l) ∧ Below w.heap.size w w' := by
  obtain ⟨i0, hi, hz0, hz1, hz2⟩ := info_parts info_u8
  obtain ⟨A, cp, rfl, _, _⟩ := hv.form
  obtain ⟨w2, e2, mc, mr, b2⟩ : ∃ w2, w2 = (w.alloc (.cells #[.int .i64 s, .int .i64 k, .int .i64 c, .slice A l.length cp, .int .i64 i] 36)).alloc (.cells #[.int .i64 0, .int .i64 0, .int .i64 0, .slice none 0 0, .int .i64 0] 36) ∧ Mem w2 w.heap.size 36 #[.int .i64 s, .int .i64 k, .int .i64 c, .slice A l.length cp, .int .i64 i] ∧ Mem w2 (w.heap.size + 1) 36 #[.int .i64 0, .int .i64 0, .int .i64 0, .slice none 0 0, .int .i64 0] ∧ Below w.heap.size w w2 := ⟨_, rfl, by
    have m0 := Mem.new w 36 #[.int .i64 s, .int .i64 k, .int .i64 c, .slice A l.length cp, .int .i64 i]
    exact m0.below ((Below.refl _ _).alloc (Nat.le_refl _) _) m0.lt, by
    have m1 := Mem.new (w.alloc (.cells #[.int .i64 s, .int .i64 k, .int .i64 c, .slice A l.length cp, .int .i64 i] 36)) 36 #[.int .i64 0, .int .i64 0, .int .i64 0, .slice none 0 0, .int .i64 0]
    rw [World.size_alloc] at m1
    exact m1, ((Below.refl _ w).alloc (Nat.le_refl _) _).alloc (by rw [World.size_alloc]; omega) _⟩
  have hv2 := hv.now b2
  have k3 := mc.cell 3
  go_enter Try.func39, Try.ntmps39
  go_upto_region 1 with (fail)
  rw [← e2]
  clear e2
  go_upto_region 2 with (at_builtin; (refine wpList_append_sl _ rfl (.const (.slice none 0 0)) (.tmp 4) _ rfl w2.heap.size 5 i0 _ Try.underlying22 hi hz0 hz1 (by omega) rfl (.slice none 0 0) 0 [] rfl (World.ownsRow_nil _ _ _ _) w2.heap.size (.slice A l.length cp) l.length (bs l) rfl hv2 bs_one (by omega) (Nat.le_refl _) ?_); intro v6 w6 ho6 hg6 hat6; have b6 := (Below.refl _ w2).grown hg6 (Nat.le_refl _) (fun k hk => (by cases hk)); have m6 := mc.below b6 mc.lt; have f63 := m6.free 3; have k63 := m6.cell 3; have ho6' : w6.ownsRow w2.heap.size 5 1 v6 l.length (bs l) := (by simpa using ho6); clear ho6; obtain ⟨A6, c6, rfl, _, _⟩ := own_form ho6')
  have mr6 := mr.below b6 mr.lt
  have EF : Eff (fun q => q = w.heap.size) w6 (w6.setCell ⟨w.heap.size, 3, none⟩ (.slice A6 l.length c6)) := Eff.setCell (S := fun q => q = w.heap.size) (Eff.refl _ _) (p := ⟨w.heap.size, 3, none⟩) rfl _
  obtain ⟨w7, e7, m7, mr7, o7, b7⟩ : ∃ w7, w7 = w6.setCell ⟨w.heap.size, 3, none⟩ (.slice A6 l.length c6) ∧ Mem w7 w.heap.size 36 #[.int .i64 s, .int .i64 k, .int .i64 c, .slice A6 l.length c6, .int .i64 i] ∧ Mem w7 (w.heap.size + 1) 36 #[.int .i64 0, .int .i64 0, .int .i64 0, .slice none 0 0, .int .i64 0] ∧ w7.ownsRow w2.heap.size 5 1 (.slice A6 l.length c6) l.length (bs l) ∧ Below w.heap.size w w7 := ⟨_, rfl, m6.put 3 _, mr6.eff EF (fun e => by omega), owns_eff ho6' EF fun q hq e => (own_tag ho6' q hq).2.2.ne (mem_tag m6) (by decide) e, EF.below (b2.trans (b6.mono b2.size)) (Nat.le_trans b2.size b6.size) fun q _ hq => by omega⟩
  rw [← e7]
  clear e7
  go_wp2_with (first
    | (refine wpList_load_row rfl 36 (.tmp 1) rfl w.heap.size rfl 36 #[.int .i64 s, .int .i64 k, .int .i64 c, .slice A6 l.length c6, .int .i64 i] (0, 0) _ m7 Try.underlying36 rfl (by kernel_rfl) ?_)
    | (refine wpList_store_row rfl 36 (.tmp 2) (.tmp 7) rfl (w.heap.size + 1) #[.int .i64 s, .int .i64 k, .int .i64 c, .slice A6 l.length c6, .int .i64 i] rfl rfl 36 #[.int .i64 0, .int .i64 0, .int .i64 0, .slice none 0 0, .int .i64 0] mr7 (by kernel_rfl) (by kernel_rfl) (by kernel_rfl) ?_))
  refine bodyPost_ret ((results_cell1 (p := 2) (ty := 36) rfl _ _ (w.heap.size + 1) 36 _ (0, 0) _ rfl (mr7.row #[.int .i64 s, .int .i64 k, .int .i64 c, .slice A6 l.length c6, .int .i64 i]) Try.underlying36 rfl (by kernel_rfl)).trans rfl) rfl ⟨A6, c6, rfl, owns_mono (owns_eff o7 (eff_setRow w7 (w.heap.size + 1) #[.int .i64 s, .int .i64 k, .int .i64 c, .slice A6 l.length c6, .int .i64 i]) fun q hq e => (own_tag o7 q hq).2.2.ne (mem_tag mr7) (by decide) e) b2.size, below_setRow b7 (by omega) _⟩
theorem ix_none (b c : Nat) (A : Option Addr) (w : World) : Calls Try.prog 37 #[.slice A 0 c, .func (.func 38) #[] #[.pointer (some ⟨b, 0, none⟩)]] w fun e w' => e = .returned (.int .i64 (-1)) ∧ w = w' := by
  go_enter Try.func37, Try.ntmps37
  go_wp2
  go_loopw [8] (fun s8 wr => s8 = .int .i64 0 ∧ w = wr) (fun _ _ => 0)
  case atStart => exact ⟨rfl, rfl⟩
  case round =>
    obtain ⟨rfl, rfl⟩ := hrel
    go_wp2
    go_ret
    exact ⟨by trivial, by trivial⟩
theorem pred_id (x y : Nat) (s k c i : Int) (v : Value) (b : Nat) (w : World) (hb : Mem w b 23 #[.int .u64 (y : Nat)]) : Calls Try.prog 38 #[.agg #[.int .u64 (x : Nat), .int .i64 s, .int .i64 k, .int .i64 c, v, .int .i64 i], .pointer (some ⟨b, 0, none⟩)] w fun e w' => e = .returned (.bool (x == y)) ∧ Below w.heap.size w w' := by
  have b1 := (Below.refl _ w).alloc (Nat.le_refl _) (.cells #[.int .u64 (x : Nat), .int .i64 s, .int .i64 k, .int .i64 c, v, .int .i64 i] 86)
  have k1 := (hb.below b1 hb.lt).cell 0
  go_enter Try.func38, Try.ntmps38
  go_wp2
  go_ret
  refine ⟨?_, b1⟩
  by_cases e : x = y
  · subst e
    simp
  · have e2 : ¬ (x : Int) = (y : Int) := by omega
    rw [beq_eq_false_iff_ne.2 e2, beq_eq_false_iff_ne.2 e]
    rfl
theorem ix_one (x : Nat) (s k c i : Int) (v : Value) (g cap b : Nat) (w : World) (B : Nat) (ho : w.ownsRow B 86 6 (.slice (some ⟨g, 0, none⟩) 1 cap) 1 [.int .u64 (x : Nat), .int .i64 s, .int .i64 k, .int .i64 c, v, .int .i64 i]) (hb : Mem w b 23 #[.int .u64 (x : Nat)]) : Calls Try.prog 37 #[.slice (some ⟨g, 0, none⟩) 1 cap, .func (.func 38) #[] #[.pointer (some ⟨b, 0, none⟩)]] w fun e w' => e = .returned (.int .i64 0) ∧ Below w.heap.size w w' := by
  have k0 := own_cells ho 0 _ rfl
  have k1 := own_cells ho 1 _ rfl
  have k2 := own_cells ho 2 _ rfl
  have k3 := own_cells ho 3 _ rfl
  have k4 := own_cells ho 4 _ rfl
  have k5 := own_cells ho 5 _ rfl
  have hp := pred_id x x s k c i v b w hb
  rw [beq_self_eq_true] at hp
  obtain ⟨A', c', hv, hc1, hc2⟩ := own_form ho
  obtain ⟨_, _, rfl⟩ : True ∧ True ∧ cap = c' := by injection hv with a b c; exact ⟨trivial, trivial, c⟩
  go_enter Try.func37, Try.ntmps37
  go_wp2
  go_loopw [8] (fun s8 wr => s8 = .int .i64 0 ∧ w = wr) (fun _ _ => 0)
  case atStart => exact ⟨rfl, rfl⟩
  case round =>
    obtain ⟨rfl, rfl⟩ := hrel
    go_wp2_with (go_at_call 38; (with_reducible refine hp.mono ?_); rintro e w5 ⟨rfl, hb5⟩)
    go_ret
    exact ⟨rfl, hb5⟩
theorem own_at0 {W : World} {b e sz n : Nat} {v : Value} {xs : List Value} (ho : W.ownsRow b e sz v n xs) (hn : 0 < n) : ∃ G p, v = .slice (some ⟨G, 0, none⟩) n p := by
  rcases ho.2 with ⟨_, h0⟩ | ⟨G, p, cur, hv, _⟩
  · omega
  · exact ⟨G, p, hv⟩
theorem one_cells (a : Int) (s k c i : Int) (A : Option Addr) (n ca : Nat) : ∀ u ∈ ([.int .u64 a, .int .i64 s, .int .i64 k, .int .i64 c, .slice A n ca, .int .i64 i] : List Value), u.oneCell' = true := by
  intro u hu
  simp only [List.mem_cons, List.not_mem_nil, or_false] at hu
  rcases hu with rfl | rfl | rfl | rfl | rfl | rfl <;> rfl
/-- The row of one command that was done, by number 1. -/
def Told (W : World) (b : Nat) (tv : Value) (s k c i : Int) (l : List UInt8) : Prop := ∃ G cap A ca, tv = .slice (some ⟨G, 0, none⟩) 1 cap ∧ W.ownsRow b 86 6 (.slice (some ⟨G, 0, none⟩) 1 cap) 1 [.int .u64 1, .int .i64 s, .int .i64 k, .int .i64 c, .slice A l.length ca, .int .i64 i] ∧ W.ownsRow b 5 1 (.slice A l.length ca) l.length (bs l)
theorem Told.below {W W' : World} {b : Nat} {tv : Value} {s k c i : Int} {l : List UInt8} (ht : Told W b tv s k c i l) (hb : Below W.heap.size W W') : Told W' b tv s k c i l := by
  obtain ⟨G, cap, A, ca, h1, h2, h3⟩ := ht
  exact ⟨G, cap, A, ca, h1, owns_below h2 hb, owns_below h3 hb⟩
theorem Told.mono {W : World} {b b' : Nat} {tv : Value} {s k c i : Int} {l : List UInt8} (ht : Told W b tv s k c i l) (hb : b' ≤ b) : Told W b' tv s k c i l := by
  obtain ⟨G, cap, A, ca, h1, h2, h3⟩ := ht
  exact ⟨G, cap, A, ca, h1, owns_mono h2 hb, owns_mono h3 hb⟩
theorem Told.box {W W' : World} {b Q T : Nat} {tv : Value} {s k c i : Int} {l : List UInt8} (ht : Told W b tv s k c i l) (hT : Tag W Q T) (h1 : T ≠ 86) (h2 : T ≠ 5) (he : Eff (fun q => q = Q) W W') : Told W' b tv s k c i l := by
  obtain ⟨G, cap, A, ca, e, h3, h4⟩ := ht
  exact ⟨G, cap, A, ca, e, owns_eff h3 he fun q hq e => (own_tag h3 q hq).2.2.ne hT h1.symm e, owns_eff h4 he fun q hq e => (own_tag h4 q hq).2.2.ne hT h2.symm e⟩
theorem UnM.hosts {hs' : List Value} (hu : UnM w B Z X g h Y N D M t hs) (hm : Mem w' Z 63 (unRow X Y hs')) (hl : hs'.length = 24) (he : Eff (fun q => q = Z) w w') : UnM w' B Z X g h Y N D M t hs' :=
  ⟨hm, hl, SpInv.eff hu.sp he (fun e => (mem_tag hu.sp.mem).ne (mem_tag hu.mem) (by decide) e) (fun e => (mem_tag hu.sp.data).ne (mem_tag hu.mem) (by decide) e) (fun e => (mem_tag hu.sp.map).ne (mem_tag hu.mem) (by decide) e), ⟨hu.tab.mem.eff he fun e => (mem_tag hu.tab.mem).ne (mem_tag hu.mem) (by decide) e, hu.tab.len⟩, hu.bZ, hu.bY⟩
theorem row_kept (W : World) (a b c d e f : Value) (b0 : Nat) (hb : b0 ≤ W.heap.size) : (W.alloc (.cells #[a, b, c, d, e, f] 86)).ownsRow b0 86 6 (.slice (some ⟨W.heap.size, 0, none⟩) 1 1) 1 [a, b, c, d, e, f] :=
  ⟨rfl, .inr ⟨W.heap.size, 1, _, rfl, hb, heap_alloc_new W _, Nat.le_refl _, by unfold maxLen; omega, rfl, rfl⟩⟩
set_option maxHeartbeats 4000000 in
theorem once_first (hu : UnM w B Z X g h Y N D M t hs0) (kd a n ck cn ct : Int) (v : Value) (cf : Bool) {s k c i : Int} {l : List UInt8} {QM : List UInt8 → Prop} (hl : l.length ≤ 100000) (hD : ∀ W, Below w.heap.size w W → Calls Try.prog 10 #[.pointer (some ⟨Z, 0, none⟩), .int .i64 0, .agg #[.int .i64 kd, .int .i64 a, .int .i64 n, v, .int .u64 ck, .int .u64 cn, .int .i64 ct, .bool cf]] W fun e w' => ∃ v M', e = .returned v ∧ Rep w' W.heap.size v s k c i l ∧ QM M' ∧ UnM w' B Z X g h Y N D' M' t hs0 ∧ Eff (SpS g h) W w') : Calls Try.prog 15 #[.pointer (some ⟨Z, 0, none⟩), .int .i64 0, .int .u64 1, .int .u64 0, .agg #[.int .i64 kd, .int .i64 a, .int .i64 n, v, .int .u64 ck, .int .u64 cn, .int .i64 ct, .bool cf]] w fun e w' => ∃ v tv M', e = .returned (.tuple #[v, .bool true]) ∧ Rep w' w.heap.size v s k c i l ∧ QM M' ∧ UnM w' B Z X g h Y N D' M' t (hs0.set 2 tv) ∧ Told w' w.heap.size tv s k c i l ∧ Eff (fun q => SpS g h q ∨ q = Z) w w' := by
  obtain ⟨ik, hik, hkz0, hkz1, hkz2⟩ := info_parts info_kept
  have cH : ∀ W, Calls Try.prog 22 #[.int .i64 0] W fun e w' => e = .returned (.bool true) ∧ W = w' := fun W => isHost_any 0 W
  have cI := fun b W => ix_none b 0 none W
  obtain ⟨w4, e4, mi, mc, mr, mb, b4⟩ : ∃ w4, w4 = (((w.alloc (.cells #[.int .u64 1] 23)).alloc (.cells #[.int .i64 kd, .int .i64 a, .int .i64 n, v, .int .u64 ck, .int .u64 cn, .int .i64 ct, .bool cf] 25)).alloc (.cells #[.int .i64 0, .int .i64 0, .int .i64 0, .slice none 0 0, .int .i64 0] 36)).alloc (.cells #[.int .i64 8, .int .i64 0, .int .i64 0, .slice none 0 0, .int .i64 0] 36) ∧ Mem w4 w.heap.size 23 #[.int .u64 1] ∧ Mem w4 (w.heap.size + 1) 25 #[.int .i64 kd, .int .i64 a, .int .i64 n, v, .int .u64 ck, .int .u64 cn, .int .i64 ct, .bool cf] ∧ Mem w4 (w.heap.size + 1 + 1) 36 #[.int .i64 0, .int .i64 0, .int .i64 0, .slice none 0 0, .int .i64 0] ∧ Mem w4 (w.heap.size + 1 + 1 + 1) 36 #[.int .i64 8, .int .i64 0, .int .i64 0, .slice none 0 0, .int .i64 0] ∧ Below w.heap.size w w4 := by
    have m1 := Mem.new w 23 #[.int .u64 1]
    have b1 := (Below.refl _ w).alloc (Nat.le_refl _) (.cells #[.int .u64 1] 23)
    have z1 : (w.alloc (.cells #[.int .u64 1] 23)).heap.size = w.heap.size + 1 := World.size_alloc ..
    generalize w.alloc (.cells #[.int .u64 1] 23) = v1 at *
    have m2 := Mem.new v1 25 #[.int .i64 kd, .int .i64 a, .int .i64 n, v, .int .u64 ck, .int .u64 cn, .int .i64 ct, .bool cf]
    have b2 := (Below.refl _ v1).alloc (Nat.le_refl _) (.cells #[.int .i64 kd, .int .i64 a, .int .i64 n, v, .int .u64 ck, .int .u64 cn, .int .i64 ct, .bool cf] 25)
    have z2 : (v1.alloc (.cells #[.int .i64 kd, .int .i64 a, .int .i64 n, v, .int .u64 ck, .int .u64 cn, .int .i64 ct, .bool cf] 25)).heap.size = v1.heap.size + 1 := World.size_alloc ..
    generalize v1.alloc (.cells #[.int .i64 kd, .int .i64 a, .int .i64 n, v, .int .u64 ck, .int .u64 cn, .int .i64 ct, .bool cf] 25) = v2 at *
    have m3 := Mem.new v2 36 #[.int .i64 0, .int .i64 0, .int .i64 0, .slice none 0 0, .int .i64 0]
    have b3 := (Below.refl _ v2).alloc (Nat.le_refl _) (.cells #[.int .i64 0, .int .i64 0, .int .i64 0, .slice none 0 0, .int .i64 0] 36)
    have z3 : (v2.alloc (.cells #[.int .i64 0, .int .i64 0, .int .i64 0, .slice none 0 0, .int .i64 0] 36)).heap.size = v2.heap.size + 1 := World.size_alloc ..
    generalize v2.alloc (.cells #[.int .i64 0, .int .i64 0, .int .i64 0, .slice none 0 0, .int .i64 0] 36) = v3 at *
    have m4 := Mem.new v3 36 #[.int .i64 8, .int .i64 0, .int .i64 0, .slice none 0 0, .int .i64 0]
    have b4 := (Below.refl _ v3).alloc (Nat.le_refl _) (.cells #[.int .i64 8, .int .i64 0, .int .i64 0, .slice none 0 0, .int .i64 0] 36)
    have q2 : v1.heap.size = w.heap.size + 1 := z1
    have q3 : v2.heap.size = w.heap.size + 1 + 1 := by omega
    have q4 : v3.heap.size = w.heap.size + 1 + 1 + 1 := by omega
    rw [q2] at m2
    rw [q3] at m3
    rw [q4] at m4
    have B34 := b3.trans (b4.mono b3.size)
    have B24 := b2.trans (B34.mono b2.size)
    exact ⟨_, rfl, m1.below B24 m1.lt, m2.below B34 m2.lt, m3.below b4 m3.lt, m4, b1.trans (B24.mono b1.size)⟩
  have hu4 := hu.below b4
  have k0 := mi.cell 0
  have hZl := hu.mem.lt
  go_enter Try.func15, Try.ntmps15
  go_upto_region 2 with (fail)
  rw [← e4]
  clear e4
  go_upto_region 5 with (go_at_call 22; (with_reducible refine (cH _).mono ?_); rintro e' w3 ⟨rfl, rfl⟩)
  apply calm_region [.is _, .is _, .is _, .is _, .is _, .is _] [[], [], [1], [2], [3], [0, 4]] (by kernel_rfl) (by kernel_rfl) (by kernel_rfl) rfl
  intro f a1 ha1
  simp only [putL, Act.put, List.setIfInBounds_toArray, List.set_cons_succ, List.set_cons_zero] at ha1
  subst ha1
  refine ⟨?_, ?_⟩
  · refine AllCalm.cons (fun W hB hd => ?_) ?_
    · have q0 := (mi.below hB mi.lt).cell 0
      go_wp2_with (fail)
      exact CalmQ.mk rfl _ rfl (Below.refl _ _) rfl
    refine AllCalm.cons (fun W hB hd => ?_) ?_
    · go_wp2_with (fail)
      exact CalmQ.mk rfl _ rfl (Below.refl _ _) rfl
    refine AllCalm.cons (fun W hB hd => ?_) ?_
    · obtain ⟨h1, -⟩ := hd
      have h1 : f 1 = _ := h1
      rw [h1]
      go_wp2_with (fail)
      exact CalmQ.mk rfl _ rfl (Below.refl _ _) rfl
    refine AllCalm.cons (fun W hB hd => ?_) ?_
    · obtain ⟨h2, -⟩ := hd
      have h2 : f 2 = _ := h2
      rw [h2]
      go_wp2_with (fail)
      exact CalmQ.mk rfl _ rfl (Below.refl _ _) rfl
    refine AllCalm.cons (fun W hB hd => ?_) ?_
    · obtain ⟨h3, -⟩ := hd
      have h3 : f 3 = _ := h3
      rw [h3]
      have q0 : W.cell? ⟨Z, 3, none⟩ = some (.int .u64 0) := (hu4.below hB).ch 1
      go_wp2_with (fail)
      exact CalmQ.mk rfl _ rfl (Below.refl _ _) rfl
    refine AllCalm.cons (fun W hB hd => ?_) ?_
    · obtain ⟨h0, h4, -⟩ := hd
      have h0 : f 0 = _ := h0
      have h4 : f 4 = _ := h4
      rw [h0, h4]
      go_wp2_with (fail)
      exact CalmQ.mk rfl _ rfl (Below.refl _ _) rfl
    exact AllCalm.nil
  · intro W hB hT
    obtain ⟨h0, h1, h2, h3, h4, h5, -⟩ := hT
    have h0 : f 0 = _ := h0
    have h1 : f 1 = _ := h1
    have h2 : f 2 = _ := h2
    have h3 : f 3 = _ := h3
    have h4 : f 4 = _ := h4
    have h5 : f 5 = _ := h5
    rw [h0, h1, h2, h3, h4, h5]
    clear h0 h1 h2 h3 h4 h5
    have hu5 := hu4.below hB
    have B5 := b4.trans (hB.mono b4.size)
    have mi5 := mi.below hB mi.lt
    have mc5 := mc.below hB mc.lt
    have mr5 := mr.below hB mr.lt
    generalize W = W5 at *
    go_upto_region 7 with (fail)
    apply calm_tail 8 [.is _, .is _, .is _, .is _, .is _, .is _, .is (.int .u64 0), .is (.int .u64 0)] [[], [0], [1], [2], [], [], [4, 5], [3, 6]] (by kernel_rfl) (by kernel_rfl) (by kernel_rfl) rfl
    intro f a1 ha1
    simp only [List.take_succ_cons, List.take_zero, putL, Act.put, List.setIfInBounds_toArray, List.set_cons_succ, List.set_cons_zero] at ha1
    subst ha1
    refine ⟨?_, ?_⟩
    · refine AllCalm.cons (fun W hB hd => ?_) ?_
      · go_wp2_with (fail)
        exact CalmQ.mk rfl _ rfl (Below.refl _ _) rfl
      refine AllCalm.cons (fun W hB hd => ?_) ?_
      · obtain ⟨h0, -⟩ := hd
        have h0 : f 0 = _ := h0
        rw [h0]
        go_wp2_with (fail)
        exact CalmQ.mk rfl _ rfl (Below.refl _ _) rfl
      refine AllCalm.cons (fun W hB hd => ?_) ?_
      · obtain ⟨h1, -⟩ := hd
        have h1 : f 1 = _ := h1
        rw [h1]
        go_wp2_with (fail)
        exact CalmQ.mk rfl _ rfl (Below.refl _ _) rfl
      refine AllCalm.cons (fun W hB hd => ?_) ?_
      · obtain ⟨h2, -⟩ := hd
        have h2 : f 2 = _ := h2
        rw [h2]
        have q0 : W.cell? ⟨Z, 3, none⟩ = some (.int .u64 0) := (hu5.below hB).ch 1
        go_wp2_with (fail)
        exact CalmQ.mk rfl _ rfl (Below.refl _ _) rfl
      refine AllCalm.cons (fun W hB hd => ?_) ?_
      · go_wp2_with (fail)
        exact CalmQ.mk rfl _ rfl (Below.refl _ _) rfl
      refine AllCalm.cons (fun W hB hd => ?_) ?_
      · have q0 := (mi5.below hB mi5.lt).cell 0
        go_wp2_with (fail)
        exact CalmQ.mk rfl _ rfl (Below.refl _ _) rfl
      refine AllCalm.cons (fun W hB hd => ?_) ?_
      · obtain ⟨h4, h5, -⟩ := hd
        have h4 : f 4 = _ := h4
        have h5 : f 5 = _ := h5
        rw [h4, h5]
        go_wp2_with (fail)
        exact CalmQ.mk rfl _ rfl (Below.refl _ _) rfl
      refine AllCalm.cons (fun W hB hd => ?_) ?_
      · obtain ⟨h3, h6, -⟩ := hd
        have h3 : f 3 = _ := h3
        have h6 : f 6 = _ := h6
        rw [h3, h6]
        go_wp2_with (fail)
        exact CalmQ.mk rfl _ rfl (Below.refl _ _) rfl
      exact AllCalm.nil
    · intro W hB hT
      obtain ⟨h0, h1, h2, h3, h4, h5, h6, h7, -⟩ := hT
      have h0 : f 0 = _ := h0
      have h1 : f 1 = _ := h1
      have h2 : f 2 = _ := h2
      have h3 : f 3 = _ := h3
      have h4 : f 4 = _ := h4
      have h5 : f 5 = _ := h5
      have h6 : f 6 = _ := h6
      have h7 : f 7 = _ := h7
      rw [h0, h1, h2, h3, h4, h5, h6, h7]
      clear h0 h1 h2 h3 h4 h5 h6 h7
      simp only [List.drop_succ_cons, List.drop_zero]
      have hu7 := hu5.below hB
      have B7 := B5.trans (hB.mono B5.size)
      have mi7 := mi5.below hB mi5.lt
      have mc7 := mc5.below hB mc5.lt
      have mr7 := mr5.below hB mr5.lt
      generalize W = W7 at *
      have z4 : W7.cell? ⟨Z, 4, none⟩ = some (.slice none 0 0) := hu7.ch 2
      go_wp2
      go_loopw [14, 52] (fun y x wr => y = .slice none 0 0 ∧ x = .int .i64 0 ∧ W7 = wr) (fun _ _ _ => 0)
      case atStart => exact ⟨rfl, rfl, rfl⟩
      case round =>
        obtain ⟨rfl, rfl, rfl⟩ := hrel
        have cD7 := hD W7 B7
        go_upto_region 22 with (first
          | (go_at_call 37; (with_reducible refine (cI _ _).mono ?_); rintro e' w3 ⟨rfl, rfl⟩)
          | (refine wpList_load_row rfl 25 (.tmp 9) rfl (w.heap.size + 1) rfl 25 #[.int .i64 kd, .int .i64 a, .int .i64 n, v, .int .u64 ck, .int .u64 cn, .int .i64 ct, .bool cf] (0, 0) _ mc7 Try.underlying25 rfl (by kernel_rfl) ?_)
          | (go_at_call 10; (with_reducible refine cD7.mono ?_); rintro e' w8 ⟨v8, M8, rfl, ⟨A8, c8, rfl, o8⟩, p8, u8, E8⟩; have mr8 := mr7.eff E8 (fun e => e.elim (fun e => (by have := hu.sp.data.lt; omega)) (fun e => (by have := hu.sp.map.lt; omega))); have mi8 := mi7.eff E8 (fun e => e.elim (fun e => (by have := hu.sp.data.lt; omega)) (fun e => (by have := hu.sp.map.lt; omega))))
          | (refine wpList_store_row rfl 36 (.tmp 10) (.tmp 91) rfl (w.heap.size + 1 + 1) #[.int .i64 s, .int .i64 k, .int .i64 c, .slice A8 l.length c8, .int .i64 i] rfl rfl 36 #[.int .i64 0, .int .i64 0, .int .i64 0, .slice none 0 0, .int .i64 0] mr8 (by kernel_rfl) (by kernel_rfl) (by kernel_rfl) ?_))
        have E08 : Eff (SpS g h) w w8 := (Eff.of (S := SpS g h) B7).trans E8 fun _ _ h => h
        have hz8 := E08.size
        have EF := eff_setRow w8 (w.heap.size + 1 + 1) #[.int .i64 s, .int .i64 k, .int .i64 c, .slice A8 l.length c8, .int .i64 i]
        obtain ⟨w9, e9, m9, mi9, o9, u9, E9, h89⟩ : ∃ w9, w9 = w8.setRow (w.heap.size + 1 + 1) #[.int .i64 s, .int .i64 k, .int .i64 c, .slice A8 l.length c8, .int .i64 i] ∧ Mem w9 (w.heap.size + 1 + 1) 36 #[.int .i64 s, .int .i64 k, .int .i64 c, .slice A8 l.length c8, .int .i64 i] ∧ Mem w9 w.heap.size 23 #[.int .u64 1] ∧ w9.ownsRow w.heap.size 5 1 (.slice A8 l.length c8) l.length (bs l) ∧ UnM w9 B Z X g h Y N D' M8 t hs0 ∧ Eff (SpS g h) w w9 ∧ w8.heap.size ≤ w9.heap.size := ⟨_, rfl, mr8.row _, mi8.eff EF (fun e => by omega), owns_mono (owns_eff o8 EF fun q hq e => (own_tag o8 q hq).2.2.ne (mem_tag mr8) (by decide) e) B7.size, UnM.box u8 (mem_tag mr8) (by decide) (by decide) (by decide) (by decide) EF, E08.trans EF fun i hi e => absurd hi (by omega), EF.size⟩
        rw [← e9]
        clear e9 EF o8 mr8 mi8 u8 E8 cD7 hD cI cH
        refine wp_region_any (by kernel_rfl) ?_
        change wpAny _ _ _ _ _ _ _ (World.drew _)
        refine wpAny_take (i := 1) (oi := { dst := some 93, op := Op.move (Operand.tmp 13), type := 84, pos := "lu.go:210", after := #[{ on := 12, ground := Ground.gcOnly Departure.lateStores }], guard := none }) (v := (.pointer (some ⟨Z, 2, none⟩))) rfl (by kernel_rfl) (by kernel_rfl) (by kernel_rfl) (fun _ _ _ h => h) (Or.inl ⟨by rfl, by intro w; go_simp⟩) ?_
        try dsimp only [Act.put]
        try simp only [List.setIfInBounds_toArray, List.set_cons_succ, List.set_cons_zero]
        apply calm_tailK 12 [1] [.is _, .is (.pointer (some ⟨Z, 2, none⟩)), .is _, .is _, .is _, .is _, .of (fun x V => ∃ A ca, x = .agg #[.int .i64 s, .int .i64 k, .int .i64 c, .slice A l.length ca, .int .i64 i] ∧ V.ownsRow w.heap.size 5 1 (.slice A l.length ca) l.length (bs l)) (fun x V V' hb ⟨A, ca, q1, q2⟩ => ⟨A, ca, q1, owns_below q2 hb⟩), .of (fun x V => ∃ A ca, x = .agg #[.int .u64 1, .int .i64 s, .int .i64 k, .int .i64 c, .slice A l.length ca, .int .i64 i] ∧ V.ownsRow w.heap.size 5 1 (.slice A l.length ca) l.length (bs l)) (fun x V V' hb ⟨A, ca, q1, q2⟩ => ⟨A, ca, q1, owns_below q2 hb⟩), .of (fun x V => Told V w.heap.size x s k c i l) (fun x V V' hb q => q.below hb), .of (fun x V => Told V w.heap.size x s k c i l) (fun x V V' hb q => q.below hb), .is _, .is _] [[], [], [], [], [], [], [5], [4, 6], [7], [3, 8, 6], [0, 0, 2, 6, 9], [10, 0, 2, 6, 9]] (by kernel_rfl) (by kernel_rfl) rfl (by decide) (by intro i hi o ho; obtain rfl := List.mem_singleton.1 hi; obtain rfl := Option.some.inj ho; exact rfl)
        intro f a1 ha1
        simp only [List.take_succ_cons, List.take_zero, putL, Act.put, List.setIfInBounds_toArray, List.set_cons_succ, List.set_cons_zero] at ha1
        subst ha1
        refine ⟨?_, ?_⟩
        · refine AllCalm.cons (fun W hB hd => ?_) ?_
          · go_wp2_with (fail)
            exact CalmQ.mk rfl _ rfl (Below.refl _ _) rfl
          refine AllCalm.cons (fun W hB hd => ?_) ?_
          · go_wp2_with (fail)
            exact CalmQ.mk rfl _ rfl (Below.refl _ _) rfl
          refine AllCalm.cons (fun W hB hd => ?_) ?_
          · go_wp2_with (fail)
            exact CalmQ.mk rfl _ rfl (Below.refl _ _) rfl
          refine AllCalm.cons (fun W hB hd => ?_) ?_
          · go_wp2_with (fail)
            exact CalmQ.mk rfl _ rfl (Below.refl _ _) rfl
          refine AllCalm.cons (fun W hB hd => ?_) ?_
          · have q0 := (mi9.below ((Below.refl _ w9).drew.trans hB) mi9.lt).cell 0
            go_wp2_with (fail)
            exact CalmQ.mk rfl _ rfl (Below.refl _ _) rfl
          refine AllCalm.cons (fun W hB hd => ?_) ?_
          · have kb := m9.below ((Below.refl _ w9).drew.trans hB) m9.lt; have k0 := kb.cell 0; have k1 := kb.cell 1; have k2 := kb.cell 2; have k3 := kb.cell 3; have k4 := kb.cell 4
            go_wp2_with (fail)
            exact CalmQ.mk rfl _ rfl (Below.refl _ _) rfl
          refine AllCalm.cons (fun W hB hd => ?_) ?_
          · obtain ⟨h5, -⟩ := hd
            have h5 : f 5 = _ := h5
            rw [h5]
            have BV := (Below.refl _ w9).drew.trans hB; have cC := clone_any s k c i (.slice A8 l.length c8) l hl W (Sl.of_own (owns_below o9 BV))
            go_wp2_with ((go_at_call 39; (with_reducible refine cC.mono ?_); rintro e' w3 ⟨A3, c3, rfl, o3, b3⟩))
            exact CalmQ.mk rfl _ rfl b3 ⟨A3, c3, rfl, owns_mono o3 (Nat.le_trans E9.size BV.size)⟩
          refine AllCalm.cons (fun W hB hd => ?_) ?_
          · obtain ⟨h4, h6, -⟩ := hd
            have h4 : f 4 = _ := h4
            rw [h4]
            obtain ⟨A6, c6, e6, o6⟩ := h6; rw [e6]
            go_wp2_with (fail)
            exact CalmQ.mk rfl _ rfl (Below.refl _ _) ⟨A6, c6, rfl, o6⟩
          refine AllCalm.cons (fun W hB hd => ?_) ?_
          · obtain ⟨h7, -⟩ := hd
            obtain ⟨A7, c7, e7, o7⟩ := h7; rw [e7]; have BV := (Below.refl _ w9).drew.trans hB
            go_wp2_with (fail)
            exact CalmQ.mk rfl _ rfl ((Below.refl _ W).alloc (Nat.le_refl _) _) ⟨_, 1, A7, c7, rfl, row_kept W _ _ _ _ _ _ _ (Nat.le_trans E9.size BV.size), owns_below o7 ((Below.refl _ W).alloc (Nat.le_refl _) _)⟩
          refine AllCalm.cons (fun W hB hd => ?_) ?_
          · obtain ⟨h3, h8, h6, -⟩ := hd
            have h3 : f 3 = _ := h3
            rw [h3]
            obtain ⟨G8, q8, A7, c7, e8, o8, o7⟩ := h8; rw [e8]; have BV := (Below.refl _ w9).drew.trans hB; have hc8 : ∀ j u, ([.int .u64 1, .int .i64 s, .int .i64 k, .int .i64 c, .slice A7 l.length c7, .int .i64 i] : List Value)[j]? = some u → W.cell? ((⟨G8, 0, none⟩ : Addr).add j) = some u := fun j u hu => (rcell_any o8).1 _ rfl j u hu
            go_wp2_with ((at_builtin; (refine wpList_append_at _ rfl (.tmp 95) (.tmp 100) 58 rfl w.heap.size 86 ik _ 6 64 Try.underlying58 hik hkz0 hkz1 hkz2 rfl (by decide) (.slice none 0 0) 0 [] rfl (World.ownsRow_nil _ _ _ _) ⟨G8, 0, none⟩ 1 q8 [.int .u64 1, .int .i64 s, .int .i64 k, .int .i64 c, .slice A7 l.length c7, .int .i64 i] rfl rfl hc8 (one_cells _ _ _ _ _ _ _ _) (by decide) (by decide) (Nat.le_trans E9.size BV.size) ?_); intro v3 w3 ho3 hg3 hat3; have b3 := (Below.refl _ W).grown hg3 (Nat.le_refl _) (fun k hk => (by cases hk)); have ho3' : w3.ownsRow w.heap.size 86 6 v3 1 [.int .u64 1, .int .i64 s, .int .i64 k, .int .i64 c, .slice A7 l.length c7, .int .i64 i] := (by simpa using ho3); obtain ⟨G3, p3, rfl⟩ := own_at0 ho3' (by decide)))
            exact CalmQ.mk rfl _ rfl b3 ⟨G3, p3, A7, c7, rfl, ho3', owns_below o7 b3⟩
          refine AllCalm.cons (fun W hB hd => ?_) ?_
          · obtain ⟨h0, -, h2, h6, h9, -⟩ := hd
            have h0 : f 0 = _ := h0
            have h2 : f 2 = _ := h2
            rw [h0, h2]
            go_wp2_with (fail)
            exact CalmQ.mk rfl _ rfl (Below.refl _ _) rfl
          refine AllCalm.cons (fun W hB hd => ?_) ?_
          · obtain ⟨h10, h0, h2, h6, h9, -⟩ := hd
            have h10 : f 10 = _ := h10
            have h0 : f 0 = _ := h0
            have h2 : f 2 = _ := h2
            rw [h10, h0, h2]
            go_wp2_with (fail)
            exact CalmQ.mk rfl _ rfl (Below.refl _ _) rfl
          exact AllCalm.nil
        · intro W hB hT
          obtain ⟨h0, h1, h2, h3, h4, h5, h6, h7, h8, h9, h10, h11, -⟩ := hT
          have h0 : f 0 = _ := h0
          have h1 : f 1 = _ := h1
          have h2 : f 2 = _ := h2
          have h3 : f 3 = _ := h3
          have h4 : f 4 = _ := h4
          have h5 : f 5 = _ := h5
          have h10 : f 10 = _ := h10
          have h11 : f 11 = _ := h11
          rw [h0, h1, h2, h3, h4, h5, h10, h11]
          clear h0 h1 h2 h3 h4 h5 h10 h11
          simp only [List.drop_succ_cons, List.drop_zero]
          obtain ⟨G9, p9, A9, c9, e9, r9, d9⟩ := h9
          have e9 : f 9 = _ := e9
          rw [e9]
          have BV := (Below.refl _ w9).drew.trans hB
          have uW := u9.below BV
          have mW := m9.below BV m9.lt
          have oW := owns_below o9 BV
          have f3 := uW.mem.free 3
          have k3 : W.cell? ⟨Z, 3, none⟩ = some (.int .u64 0) := uW.ch 1
          have mZ := uW.mem.put 3 (.int .u64 0)
          have f4 := mZ.free 4
          have k4 : (W.setCell ⟨Z, 3, none⟩ (.int .u64 0)).cell? ⟨Z, 4, none⟩ = some (.slice none 0 0) := mZ.cell 4
          have EZ : Eff (fun q => q = Z) W ((W.setCell ⟨Z, 3, none⟩ (.int .u64 0)).setCell ⟨Z, 4, none⟩ (.slice (some ⟨G9, 0, none⟩) 1 p9)) := Eff.setCell (S := fun q => q = Z) (Eff.setCell (S := fun q => q = Z) (Eff.refl _ _) (p := ⟨Z, 3, none⟩) rfl _) (p := ⟨Z, 4, none⟩) rfl _
          have hz9 := E9.size
          have hzW := BV.size
          go_upto_region 23 with (fail)
          obtain ⟨wa, ea, ua, ma, oa, ta, Ea⟩ : ∃ wa, wa = (W.setCell ⟨Z, 3, none⟩ (.int .u64 0)).setCell ⟨Z, 4, none⟩ (.slice (some ⟨G9, 0, none⟩) 1 p9) ∧ UnM wa B Z X g h Y N D' M8 t (hs0.set 2 (.slice (some ⟨G9, 0, none⟩) 1 p9)) ∧ Mem wa (w.heap.size + 1 + 1) 36 #[.int .i64 s, .int .i64 k, .int .i64 c, .slice A8 l.length c8, .int .i64 i] ∧ wa.ownsRow w.heap.size 5 1 (.slice A8 l.length c8) l.length (bs l) ∧ Told wa w.heap.size (.slice (some ⟨G9, 0, none⟩) 1 p9) s k c i l ∧ Eff (fun q => SpS g h q ∨ q = Z) w wa := ⟨_, rfl, uW.hosts (mZ.put 4 (.slice (some ⟨G9, 0, none⟩) 1 p9)) rfl EZ, mW.eff EZ (fun e => by omega), owns_eff oW EZ fun q hq e => (own_tag oW q hq).2.2.ne (mem_tag uW.mem) (by decide) e, Told.box ⟨G9, p9, A9, c9, rfl, r9, d9⟩ (mem_tag uW.mem) (by decide) (by decide) EZ, ((E9.mono fun _ _ h => .inl h).trans (Eff.of (S := fun _ => False) BV) fun _ _ h => h.elim).trans EZ fun _ _ h => .inr h⟩
          rw [← ea]
          clear ea EZ f3 k3 f4 k4 mZ mW oW uW BV u9 m9 o9 mi9
          go_wp2_with (first
            | (refine wpList_load_row rfl 36 (.tmp 10) rfl (w.heap.size + 1 + 1) rfl 36 #[.int .i64 s, .int .i64 k, .int .i64 c, .slice A8 l.length c8, .int .i64 i] (0, 0) _ ma Try.underlying36 rfl (by kernel_rfl) ?_)
            | (refine wpList_store_row rfl 36 (.tmp 10) (.tmp 106) rfl (w.heap.size + 1 + 1) #[.int .i64 s, .int .i64 k, .int .i64 c, .slice A8 l.length c8, .int .i64 i] rfl rfl 36 #[.int .i64 s, .int .i64 k, .int .i64 c, .slice A8 l.length c8, .int .i64 i] ma (by kernel_rfl) (by kernel_rfl) (by kernel_rfl) ?_))
          try rw [Exit.noGoto_ret]
          have EF := eff_setRow wa (w.heap.size + 1 + 1) #[.int .i64 s, .int .i64 k, .int .i64 c, .slice A8 l.length c8, .int .i64 i]
          refine bodyPost_ret (v := .tuple #[.agg #[.int .i64 s, .int .i64 k, .int .i64 c, .slice A8 l.length c8, .int .i64 i], .bool true]) ?_ rfl ⟨_, _, M8, rfl, ⟨A8, c8, rfl, owns_eff oa EF fun q hq e => (own_tag oa q hq).2.2.ne (mem_tag ma) (by decide) e⟩, p8, UnM.box ua (mem_tag ma) (by decide) (by decide) (by decide) (by decide) EF, Told.box ta (mem_tag ma) (by decide) (by decide) EF, Ea.trans EF fun q hq e => absurd hq (by omega)⟩
          exact (results_cell2 (p := 10) (a := 11) (ty := 36) rfl _ _ (w.heap.size + 1 + 1) 36 _ (0, 0) _ rfl (ma.row #[.int .i64 s, .int .i64 k, .int .i64 c, .slice A8 l.length c8, .int .i64 i]) Try.underlying36 rfl (by kernel_rfl)).trans rfl
end
end Un
end Go.Proofs.Ytpkebbibafldkaa
