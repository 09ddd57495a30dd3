/- UnitApart: for all numbers and bytes the statement's function tells true and turns nothing that was there. No condition. -/
import Derived.Test.YtpkebbibafldkaaUnG
import Derived.Test.YtpkebbibafldkaaBase2
namespace Go.Proofs.Ytpkebbibafldkaa
open Go.ChangeShapes Go.WideShapes Go.ChangeAt Go.RowKit Go.Lib
set_option linter.unusedVariables false
set_option linter.unusedSimpArgs false
set_option maxRecDepth 100000
namespace Un
open Rv
theorem UnM.eff {w w' : World} {B Z X g h Y N : Nat} {D M : List UInt8} {t : RT} {hs : List Value} {S : Nat → Prop} (hu : UnM w B Z X g h Y N D M t hs) (he : Eff S w w') (hZ : ¬ S Z) (hX : ¬ S X) (hY : ¬ S Y) (hg : ¬ S g) (hh : ¬ S h) : UnM w' B Z X g h Y N D M t hs := ⟨hu.mem.eff he hZ, hu.len, SpInv.eff hu.sp he hX hg hh, ⟨hu.tab.mem.eff he hY, hu.tab.len⟩, hu.bZ, hu.bY⟩
/-- A unit of 32 blocks whose own blocks lie in lo .. hi. -/
structure KB (lo hi : Nat) (W : World) (Z X g h Y : Nat) (D : List UInt8) : Prop where
  un : ∃ M, UnM W lo Z X g h Y 32 D M RT.zero hs0
  le : hi ≤ W.heap.size
  lZ : Z < hi
  lX : X < hi
  lY : Y < hi
  lg : g < hi
  lh : h < hi
section
variable {lo hi lo' hi' : Nat} {w W W' : World} {Z X g h Y : Nat} {D D' : List UInt8}
theorem KB.below (k : KB lo hi W Z X g h Y D) (hb : Below W.heap.size W W') : KB lo hi W' Z X g h Y D := by
  obtain ⟨M, u⟩ := k.un
  exact ⟨⟨M, u.below hb⟩, Nat.le_trans k.le hb.size, k.lZ, k.lX, k.lY, k.lg, k.lh⟩
theorem KB.off (k : KB lo hi W Z X g h Y D) (he : Eff (fun q => lo' ≤ q ∧ q < hi') W W') (hd : hi ≤ lo' ∨ hi' ≤ lo) : KB lo hi W' Z X g h Y D := by
  obtain ⟨M, u⟩ := k.un
  have bZ := u.bZ
  have bY := u.bY
  have bX := u.sp.bX
  have bg := u.sp.bg
  have bh := u.sp.bh
  obtain ⟨_, a1, a2, a3, a4, a5, a6⟩ := k
  exact ⟨⟨M, u.eff he (by omega) (by omega) (by omega) (by omega) (by omega)⟩, Nat.le_trans a1 he.size, a2, a3, a4, a5, a6⟩
theorem new32 (W : World) : Calls Try.prog 12 #[.int .i64 32] W fun e w' => ∃ Z X g h Y, e = .returned (.tuple #[.pointer (some ⟨Z, 0, none⟩), .int .i64 0]) ∧ KB W.heap.size w'.heap.size w' Z X g h Y (List.replicate 256 0) ∧ Below W.heap.size W w' := (unew_any 32 (by decide) (by decide) W).mono fun e w' ⟨Z, X, g, h, Y, a1, a2, a3⟩ => ⟨Z, X, g, h, Y, a1, ⟨⟨_, a2⟩, Nat.le_refl _, a2.mem.lt, a2.sp.mem.lt, a2.tab.mem.lt, a2.sp.data.lt, a2.sp.map.lt⟩, a3⟩
theorem wr_any {v : Value} {l : List UInt8} {a n H : Nat} (k : KB lo hi W Z X g h Y D) (hb : Below w.heap.size w W) (hw : w.heap.size ≤ lo) (hv : Sl w w.heap.size v l.length (bs l)) (hl : l.length = n * 8) (hn : n ≤ 32) (ha : a + n ≤ 32) (hH : H < 8) : Calls Try.prog 10 #[.pointer (some ⟨Z, 0, none⟩), .int .i64 (H : Nat), .agg #[.int .i64 3, .int .i64 (a : Nat), .int .i64 (n : Nat), v, .int .u64 0, .int .u64 0, .int .i64 0, .bool false]] W fun e w' => ∃ A c, e = .returned (.agg #[.int .i64 0, .int .i64 0, .int .i64 0, .slice A 0 c, .int .i64 0]) ∧ KB lo hi w' Z X g h Y (laid D a l) ∧ Below w.heap.size w w' ∧ Eff (fun q => lo ≤ q ∧ q < hi) W w' := by
  obtain ⟨M, u⟩ := k.un
  refine (do_blk3 u H hH (hs0_at H hH) rfl a n v 0 0 0 false (OnB.write u a n hn ha (hv.now hb) hl)).mono ?_
  rintro e w' ⟨v, M', rfl, ⟨A, c, rfl, o⟩, hM, u', E⟩
  have E' : Eff (fun q => lo ≤ q ∧ q < hi) W w' := E.mono fun q _ hq => hq.elim (fun e => e ▸ ⟨u.sp.bg, k.lg⟩) (fun e => e ▸ ⟨u.sp.bh, k.lh⟩)
  exact ⟨A, c, rfl, ⟨⟨M', u'⟩, Nat.le_trans k.le E.size, k.lZ, k.lX, k.lY, k.lg, k.lh⟩, E'.below hb hb.size fun q _ hq => Nat.le_trans hw hq.1, E'⟩
theorem rd_any {H : Nat} (k : KB lo hi W Z X g h Y D) (hb : Below w.heap.size w W) (hl : D.length = 256) (hH : H < 8) : Calls Try.prog 10 #[.pointer (some ⟨Z, 0, none⟩), .int .i64 (H : Nat), .agg #[.int .i64 2, .int .i64 0, .int .i64 32, .slice none 0 0, .int .u64 0, .int .u64 0, .int .i64 0, .bool false]] W fun e w' => ∃ v, e = .returned v ∧ Rep w' w.heap.size v 0 0 0 0 D ∧ Below W.heap.size W w' := by
  obtain ⟨M, u⟩ := k.un
  refine (do_read u H hH (hs0_at H hH) rfl 0 32 (.slice none 0 0) 0 0 0 false fun W2 h2 => onb_read (u.below h2) 0 32 (.slice none 0 0) 0 0 0 false (by decide) (by decide)).mono ?_
  rintro e w' ⟨v, rfl, h1, h2⟩
  have hp : piece D 0 32 = D := by
    unfold piece
    rw [Nat.zero_mul, List.drop_zero, List.take_of_length_le (by omega)]
  rw [hp] at h1
  exact ⟨v, rfl, h1.mono hb.size, h2⟩
end
set_option maxHeartbeats 4000000 in
theorem walk_out (a b : Int) (v1 : Value) (x : List UInt8) (v2 : Value) (y : List UInt8) (w : World) (n m r s : Nat) (h1 : Sl w w.heap.size v1 x.length (bs x)) (h2 : Sl w w.heap.size v2 y.length (bs y)) (hn : x.length = 8 * n + r) (hr : r < 8) (hm : y.length = 8 * m + s) (hs : s < 8) (ho : ¬ (r : Int) = 0 ∨ ¬ (s : Int) = 0 ∨ (16 : Int) < n ∨ (16 : Int) < m ∨ a < 0 ∨ b < 0 ∨ 32 < a ∨ 32 < b ∨ 32 < a + n ∨ 32 < b + m ∨ (a < b + m ∧ b < a + n)) :
    Calls Try.prog 6 #[.int .i64 a, .int .i64 b, v1, v2] w fun e w' => e = .returned (.bool true) ∧ Below w.heap.size w w' := by
  have q1 : (x.length : Int).tdiv 8 = (n : Nat) := by rw [Int.tdiv_eq_ediv_of_nonneg (by omega)]; omega
  have q2 : (y.length : Int).tdiv 8 = (m : Nat) := by rw [Int.tdiv_eq_ediv_of_nonneg (by omega)]; omega
  have q3 : (x.length : Int).tmod 8 = (r : Nat) := by rw [Int.tmod_eq_emod_of_nonneg (by omega)]; omega
  have q4 : (y.length : Int).tmod 8 = (s : Nat) := by rw [Int.tmod_eq_emod_of_nonneg (by omega)]; omega
  obtain ⟨A1, c1, rfl, u1, u2⟩ := h1.form
  obtain ⟨A2, c2, rfl, u3, u4⟩ := h2.form
  have W1 : IntKind.i64.wrap (n : Int) = n := IntWalk.i64_in _ (by simp only [maxLen] at u2; omega)
  have W2 : IntKind.i64.wrap (m : Int) = m := IntWalk.i64_in _ (by simp only [maxLen] at u4; omega)
  clear u1 u2 u3 u4
  have n0 : (0 : Int) ≤ n := by omega
  have m0 : (0 : Int) ≤ m := by omega
  clear hn hm hr hs h1 h2
  generalize (n : Int) = ni at *
  generalize (m : Int) = mi at *
  generalize (r : Int) = ri at *
  generalize (s : Int) = si at *
  by_cases g0 : ¬ ri = 0
  · clear ho
    go_enter Try.func6, Try.ntmps6
    go_upto_region 2 with (go_at_call 7; refine (known_any _).mono ?_; rintro e w1 ⟨rfl, hb1⟩)
    go_wp2
    go_ret
    exact ⟨rfl, hb1⟩
  have g0 : ri = 0 := by omega
  by_cases g1 : ¬ si = 0
  · clear ho
    go_enter Try.func6, Try.ntmps6
    go_upto_region 2 with (go_at_call 7; refine (known_any _).mono ?_; rintro e w1 ⟨rfl, hb1⟩)
    go_wp2
    go_ret
    exact ⟨rfl, hb1⟩
  have g1 : si = 0 := by omega
  by_cases g2 : 16 < ni
  · clear ho
    go_enter Try.func6, Try.ntmps6
    go_upto_region 2 with (go_at_call 7; refine (known_any _).mono ?_; rintro e w1 ⟨rfl, hb1⟩)
    go_wp2
    go_ret
    exact ⟨rfl, hb1⟩
  by_cases g3 : 16 < mi
  · clear ho
    go_enter Try.func6, Try.ntmps6
    go_upto_region 2 with (go_at_call 7; refine (known_any _).mono ?_; rintro e w1 ⟨rfl, hb1⟩)
    go_wp2
    go_ret
    exact ⟨rfl, hb1⟩
  by_cases g4 : a < 0
  · clear ho
    go_enter Try.func6, Try.ntmps6
    go_upto_region 2 with (go_at_call 7; refine (known_any _).mono ?_; rintro e w1 ⟨rfl, hb1⟩)
    go_wp2
    go_ret
    exact ⟨rfl, hb1⟩
  by_cases g5 : b < 0
  · clear ho
    go_enter Try.func6, Try.ntmps6
    go_upto_region 2 with (go_at_call 7; refine (known_any _).mono ?_; rintro e w1 ⟨rfl, hb1⟩)
    go_wp2
    go_ret
    exact ⟨rfl, hb1⟩
  by_cases g6 : 32 < a
  · clear ho
    go_enter Try.func6, Try.ntmps6
    go_upto_region 2 with (go_at_call 7; refine (known_any _).mono ?_; rintro e w1 ⟨rfl, hb1⟩)
    go_wp2
    go_ret
    exact ⟨rfl, hb1⟩
  by_cases g7 : 32 < b
  · clear ho
    go_enter Try.func6, Try.ntmps6
    go_upto_region 2 with (go_at_call 7; refine (known_any _).mono ?_; rintro e w1 ⟨rfl, hb1⟩)
    go_wp2
    go_ret
    exact ⟨rfl, hb1⟩
  by_cases g8 : 32 < a + ni
  · clear ho
    have e1 : IntKind.i64.wrap (a + ni) = a + ni := IntWalk.i64_in _ (by omega)
    go_enter Try.func6, Try.ntmps6
    go_upto_region 2 with (go_at_call 7; refine (known_any _).mono ?_; rintro e w1 ⟨rfl, hb1⟩)
    go_wp2
    go_ret
    exact ⟨rfl, hb1⟩
  by_cases g9 : 32 < b + mi
  · clear ho
    have e1 : IntKind.i64.wrap (a + ni) = a + ni := IntWalk.i64_in _ (by omega)
    have e2 : IntKind.i64.wrap (b + mi) = b + mi := IntWalk.i64_in _ (by omega)
    go_enter Try.func6, Try.ntmps6
    go_upto_region 2 with (go_at_call 7; refine (known_any _).mono ?_; rintro e w1 ⟨rfl, hb1⟩)
    go_wp2
    go_ret
    exact ⟨rfl, hb1⟩
  · obtain ⟨ga, gb⟩ : a < b + mi ∧ b < a + ni := by omega
    clear ho
    have e1 : IntKind.i64.wrap (a + ni) = a + ni := IntWalk.i64_in _ (by omega)
    have e2 : IntKind.i64.wrap (b + mi) = b + mi := IntWalk.i64_in _ (by omega)
    go_enter Try.func6, Try.ntmps6
    go_upto_region 2 with (go_at_call 7; refine (known_any _).mono ?_; rintro e w1 ⟨rfl, hb1⟩)
    go_wp2
    go_ret
    exact ⟨rfl, hb1⟩
set_option maxHeartbeats 8000000 in
theorem walk_in (a b n m : Nat) (v1 : Value) (x : List UInt8) (v2 : Value) (y : List UInt8) (w : World) (h1 : Sl w w.heap.size v1 x.length (bs x)) (h2 : Sl w w.heap.size v2 y.length (bs y)) (hn : x.length = n * 8) (hm : y.length = m * 8) (gn : n ≤ 16) (gm : m ≤ 16) (gan : a + n ≤ 32) (gbm : b + m ≤ 32) (gd : a + n ≤ b ∨ b + m ≤ a) :
    Calls Try.prog 6 #[.int .i64 (a : Nat), .int .i64 (b : Nat), v1, v2] w fun e w' => e = .returned (.bool true) ∧ Below w.heap.size w w' := by
  have q1 : (x.length : Int).tdiv 8 = (n : Nat) := by rw [Int.tdiv_eq_ediv_of_nonneg (by omega)]; omega
  have q2 : (y.length : Int).tdiv 8 = (m : Nat) := by rw [Int.tdiv_eq_ediv_of_nonneg (by omega)]; omega
  have q3 : (x.length : Int).tmod 8 = 0 := by rw [Int.tmod_eq_emod_of_nonneg (by omega)]; omega
  have q4 : (y.length : Int).tmod 8 = 0 := by rw [Int.tmod_eq_emod_of_nonneg (by omega)]; omega
  have f1 : ¬ (16 : Int) < (n : Nat) := by omega
  have f2 : ¬ (16 : Int) < (m : Nat) := by omega
  have f3 : ¬ (a : Int) < 0 := by omega
  have f4 : ¬ (b : Int) < 0 := by omega
  have f5 : ¬ 32 < (a : Int) := by omega
  have f6 : ¬ 32 < (b : Int) := by omega
  have e1 : IntKind.i64.wrap ((a : Int) + (n : Nat)) = (a : Int) + (n : Nat) := IntWalk.i64_in _ (by omega)
  have e2 : IntKind.i64.wrap ((b : Int) + (m : Nat)) = (b : Int) + (m : Nat) := IntWalk.i64_in _ (by omega)
  have f7 : ¬ 32 < (a : Int) + (n : Nat) := by omega
  have f8 : ¬ 32 < (b : Int) + (m : Nat) := by omega
  have f9 : ¬ (a : Int) < (b : Int) + (m : Nat) ∨ ((a : Int) < (b : Int) + (m : Nat) ∧ ¬ (b : Int) < (a : Int) + (n : Nat)) := by omega
  obtain ⟨A1, c1, rfl, u1, u2⟩ := h1.form
  obtain ⟨A2, c2, rfl, u3, u4⟩ := h2.form
  have W1 : IntKind.i64.wrap (n : Int) = n := IntWalk.i64_in _ (by simp only [maxLen] at u2; omega)
  have W2 : IntKind.i64.wrap (m : Int) = m := IntWalk.i64_in _ (by simp only [maxLen] at u4; omega)
  clear u1 u2 u3 u4
  have gan' := Lib.hid gan
  have gbm' := Lib.hid gbm
  have gd' := Lib.hid gd
  have gn' := Lib.hid gn
  have gm' := Lib.hid gm
  have hx' := Lib.hid hn
  have hy' := Lib.hid hm
  clear gd hn hm
  rcases f9 with fa | ⟨fa, fb⟩
  all_goals
    go_enter Try.func6, Try.ntmps6
    go_upto_region 2 with (go_at_call 7; (with_reducible refine (known_any _).mono ?_); rintro e' w1 ⟨rfl, B1⟩)
    go_upto_region 7 with (fail)
    have cu := new32 w1
    go_upto_region 8 with (go_at_call 12; (with_reducible refine cu.mono ?_); rintro e' w2 ⟨Z, X, g, h, Y, rfl, U2, b2⟩)
    have cv := new32 w2
    go_upto_region 9 with (go_at_call 12; (with_reducible refine cv.mono ?_); rintro e' w3 ⟨Z2, X2, g2, h2b, Y2, rfl, V3, b3⟩)
    have U3 := U2.below b3
    have B2 := B1.trans (b2.mono B1.size)
    have B3 := B2.trans (b3.mono B2.size)
    have s1 := B1.size
    have s2 := b2.size
    have s3 := b3.size
    obtain ⟨w4, e4, mp, b4⟩ : ∃ w4, w4 = w3.alloc (.cells #[.int .i64 3, .int .i64 (a : Nat), .int .i64 (n : Nat), .slice A1 x.length c1, .int .u64 0, .int .u64 0, .int .i64 0, .bool false] 25) ∧ Mem w4 w3.heap.size 25 #[.int .i64 3, .int .i64 (a : Nat), .int .i64 (n : Nat), .slice A1 x.length c1, .int .u64 0, .int .u64 0, .int .i64 0, .bool false] ∧ Below w3.heap.size w3 w4 := ⟨_, rfl, Mem.new w3 _ _, (Below.refl _ w3).alloc (Nat.le_refl _) _⟩
    go_upto_region 10 with (fail)
    rw [← e4]
    clear e4
    obtain ⟨w5, e5, mq, b5⟩ : ∃ w5, w5 = w4.alloc (.cells #[.int .i64 3, .int .i64 (b : Nat), .int .i64 (m : Nat), .slice A2 y.length c2, .int .u64 0, .int .u64 0, .int .i64 0, .bool false] 25) ∧ Mem w5 w4.heap.size 25 #[.int .i64 3, .int .i64 (b : Nat), .int .i64 (m : Nat), .slice A2 y.length c2, .int .u64 0, .int .u64 0, .int .i64 0, .bool false] ∧ Below w4.heap.size w4 w5 := ⟨_, rfl, Mem.new w4 _ _, (Below.refl _ w4).alloc (Nat.le_refl _) _⟩
    go_upto_region 11 with (fail)
    rw [← e5]
    clear e5
    have b45 := b4.trans (b5.mono b4.size)
    have B5 := B3.trans (b45.mono B3.size)
    have U5 := U3.below b45
    have V5 := V3.below b45
    have mp5 := mp.below b5 mp.lt
    have s4 := b4.size
    generalize hlo : w1.heap.size = lo at *
    generalize hmi : w2.heap.size = mid at *
    generalize hhi : w3.heap.size = hi at *
    generalize hpq : w4.heap.size = pq at *
    clear hlo hmi hhi hpq
    have d6 : Calls Try.prog 10 #[.pointer (some ⟨Z, 0, none⟩), .int .i64 0, .agg #[.int .i64 3, .int .i64 (a : Nat), .int .i64 (n : Nat), .slice A1 x.length c1, .int .u64 0, .int .u64 0, .int .i64 0, .bool false]] w5 fun e w' => ∃ A c, e = .returned (.agg #[.int .i64 0, .int .i64 0, .int .i64 0, .slice A 0 c, .int .i64 0]) ∧ KB lo mid w' Z X g h Y (laid (List.replicate 256 0) a x) ∧ Below w.heap.size w w' ∧ Eff (fun q => lo ≤ q ∧ q < mid) w5 w' := wr_any (H := 0) U5 B5 (by omega) h1 hx'.out (by have := gn'.out; omega) gan'.out (by decide)
    go_upto_region 12 with (first
      | (refine wpList_load_row rfl 25 (.tmp 15) rfl hi rfl 25 #[.int .i64 3, .int .i64 (a : Nat), .int .i64 (n : Nat), .slice A1 x.length c1, .int .u64 0, .int .u64 0, .int .i64 0, .bool false] (0, 0) _ mp5 Try.underlying25 rfl (by kernel_rfl) ?_)
      | (go_at_call 10; (with_reducible refine d6.mono ?_); rintro e' w6 ⟨R6, k6, rfl, K6, T6, E6⟩))
    have mp6 := mp5.eff E6 (by omega)
    have mq6 := mq.eff E6 (by omega)
    have O6 := V5.off E6 (by omega)
    obtain ⟨w7, e7, mr7, b7⟩ := box_new w6 #[.int .i64 0, .int .i64 0, .int .i64 0, .slice R6 0 k6, .int .i64 0]
    rw [← e7]
    clear e7 d6
    have B7 := T6.trans (b7.mono T6.size)
    have mp7 := mp6.below b7 mp6.lt
    have mq7 := mq6.below b7 mq6.lt
    have U7 := K6.below b7
    have V7 := O6.below b7
    have hp7 : hi ≤ w6.heap.size := by have := K6.le; have := O6.le; omega
    generalize w6.heap.size = p7 at *
    have d8 : Calls Try.prog 10 #[.pointer (some ⟨Z, 0, none⟩), .int .i64 1, .agg #[.int .i64 3, .int .i64 (b : Nat), .int .i64 (m : Nat), .slice A2 y.length c2, .int .u64 0, .int .u64 0, .int .i64 0, .bool false]] w7 fun e w' => ∃ A c, e = .returned (.agg #[.int .i64 0, .int .i64 0, .int .i64 0, .slice A 0 c, .int .i64 0]) ∧ KB lo mid w' Z X g h Y (laid (laid (List.replicate 256 0) a x) b y) ∧ Below w.heap.size w w' ∧ Eff (fun q => lo ≤ q ∧ q < mid) w7 w' := wr_any (H := 1) U7 B7 (by omega) h2 hy'.out (by have := gm'.out; omega) gbm'.out (by decide)
    go_upto_region 13 with (first
      | (refine wpList_load_row rfl 25 (.tmp 16) rfl pq rfl 25 #[.int .i64 3, .int .i64 (b : Nat), .int .i64 (m : Nat), .slice A2 y.length c2, .int .u64 0, .int .u64 0, .int .i64 0, .bool false] (0, 0) _ mq7 Try.underlying25 rfl (by kernel_rfl) ?_)
      | (go_at_call 10; (with_reducible refine d8.mono ?_); rintro e' w8 ⟨R8, k8, rfl, K8, T8, E8⟩))
    have mp8 := mp7.eff E8 (by omega)
    have mq8 := mq7.eff E8 (by omega)
    have O8 := V7.off E8 (by omega)
    have r7_8 := mr7.eff E8 (by have := hp7; omega)
    obtain ⟨w9, e9, mr9, b9⟩ := box_new w8 #[.int .i64 0, .int .i64 0, .int .i64 0, .slice R8 0 k8, .int .i64 0]
    rw [← e9]
    clear e9 d8
    have B9 := T8.trans (b9.mono T8.size)
    have mp9 := mp8.below b9 mp8.lt
    have mq9 := mq8.below b9 mq8.lt
    have U9 := K8.below b9
    have V9 := O8.below b9
    have r7_9 := r7_8.below b9 r7_8.lt
    have hp9 : hi ≤ w8.heap.size := by have := K8.le; have := O8.le; omega
    generalize w8.heap.size = p9 at *
    have d10 : Calls Try.prog 10 #[.pointer (some ⟨Z2, 0, none⟩), .int .i64 1, .agg #[.int .i64 3, .int .i64 (b : Nat), .int .i64 (m : Nat), .slice A2 y.length c2, .int .u64 0, .int .u64 0, .int .i64 0, .bool false]] w9 fun e w' => ∃ A c, e = .returned (.agg #[.int .i64 0, .int .i64 0, .int .i64 0, .slice A 0 c, .int .i64 0]) ∧ KB mid hi w' Z2 X2 g2 h2b Y2 (laid (List.replicate 256 0) b y) ∧ Below w.heap.size w w' ∧ Eff (fun q => mid ≤ q ∧ q < hi) w9 w' := wr_any (H := 1) V9 B9 (by omega) h2 hy'.out (by have := gm'.out; omega) gbm'.out (by decide)
    go_upto_region 14 with (first
      | (refine wpList_load_row rfl 25 (.tmp 16) rfl pq rfl 25 #[.int .i64 3, .int .i64 (b : Nat), .int .i64 (m : Nat), .slice A2 y.length c2, .int .u64 0, .int .u64 0, .int .i64 0, .bool false] (0, 0) _ mq9 Try.underlying25 rfl (by kernel_rfl) ?_)
      | (go_at_call 10; (with_reducible refine d10.mono ?_); rintro e' w10 ⟨R10, k10, rfl, K10, T10, E10⟩))
    have mp10 := mp9.eff E10 (by omega)
    have mq10 := mq9.eff E10 (by omega)
    have O10 := U9.off E10 (by omega)
    have r7_10 := r7_9.eff E10 (by have := hp7; omega)
    have r9_10 := mr9.eff E10 (by have := hp9; omega)
    obtain ⟨w11, e11, mr11, b11⟩ := box_new w10 #[.int .i64 0, .int .i64 0, .int .i64 0, .slice R10 0 k10, .int .i64 0]
    rw [← e11]
    clear e11 d10
    have B11 := T10.trans (b11.mono T10.size)
    have mp11 := mp10.below b11 mp10.lt
    have mq11 := mq10.below b11 mq10.lt
    have V11 := K10.below b11
    have U11 := O10.below b11
    have r7_11 := r7_10.below b11 r7_10.lt
    have r9_11 := r9_10.below b11 r9_10.lt
    have hp11 : hi ≤ w10.heap.size := by have := K10.le; have := O10.le; omega
    generalize w10.heap.size = p11 at *
    have d12 : Calls Try.prog 10 #[.pointer (some ⟨Z2, 0, none⟩), .int .i64 0, .agg #[.int .i64 3, .int .i64 (a : Nat), .int .i64 (n : Nat), .slice A1 x.length c1, .int .u64 0, .int .u64 0, .int .i64 0, .bool false]] w11 fun e w' => ∃ A c, e = .returned (.agg #[.int .i64 0, .int .i64 0, .int .i64 0, .slice A 0 c, .int .i64 0]) ∧ KB mid hi w' Z2 X2 g2 h2b Y2 (laid (laid (List.replicate 256 0) b y) a x) ∧ Below w.heap.size w w' ∧ Eff (fun q => mid ≤ q ∧ q < hi) w11 w' := wr_any (H := 0) V11 B11 (by omega) h1 hx'.out (by have := gn'.out; omega) gan'.out (by decide)
    go_upto_region 15 with (first
      | (refine wpList_load_row rfl 25 (.tmp 15) rfl hi rfl 25 #[.int .i64 3, .int .i64 (a : Nat), .int .i64 (n : Nat), .slice A1 x.length c1, .int .u64 0, .int .u64 0, .int .i64 0, .bool false] (0, 0) _ mp11 Try.underlying25 rfl (by kernel_rfl) ?_)
      | (go_at_call 10; (with_reducible refine d12.mono ?_); rintro e' w12 ⟨R12, k12, rfl, K12, T12, E12⟩))
    have mp12 := mp11.eff E12 (by omega)
    have mq12 := mq11.eff E12 (by omega)
    have O12 := U11.off E12 (by omega)
    have r7_12 := r7_11.eff E12 (by have := hp7; omega)
    have r9_12 := r9_11.eff E12 (by have := hp9; omega)
    have r11_12 := mr11.eff E12 (by have := hp11; omega)
    obtain ⟨w13, e13, mr13, b13⟩ := box_new w12 #[.int .i64 0, .int .i64 0, .int .i64 0, .slice R12 0 k12, .int .i64 0]
    rw [← e13]
    clear e13 d12
    have B13 := T12.trans (b13.mono T12.size)
    have mp13 := mp12.below b13 mp12.lt
    have mq13 := mq12.below b13 mq12.lt
    have V13 := K12.below b13
    have U13 := O12.below b13
    have r7_13 := r7_12.below b13 r7_12.lt
    have r9_13 := r9_12.below b13 r9_12.lt
    have r11_13 := r11_12.below b13 r11_12.lt
    have hp13 : hi ≤ w12.heap.size := by have := K12.le; have := O12.le; omega
    generalize w12.heap.size = p13 at *
    obtain ⟨wf, ef, mall, bf⟩ : ∃ wf, wf = w13.alloc (.cells #[.int .i64 2, .int .i64 0, .int .i64 32, .slice none 0 0, .int .u64 0, .int .u64 0, .int .i64 0, .bool false] 25) ∧ Mem wf w13.heap.size 25 #[.int .i64 2, .int .i64 0, .int .i64 32, .slice none 0 0, .int .u64 0, .int .u64 0, .int .i64 0, .bool false] ∧ Below w13.heap.size w13 wf := ⟨_, rfl, Mem.new w13 _ _, (Below.refl _ w13).alloc (Nat.le_refl _) _⟩
    go_upto_region 16 with (fail)
    rw [← ef]
    clear ef
    have BF := B13.trans (bf.mono B13.size)
    have UF := U13.below bf
    have VF := V13.below bf
    have rf7 := r7_13.below bf r7_13.lt
    have rf9 := r9_13.below bf r9_13.lt
    have rf11 := r11_13.below bf r11_13.lt
    have rf13 := mr13.below bf mr13.lt
    have hsw : laid (laid (List.replicate 256 0) b y) a x = laid (laid (List.replicate 256 0) a x) b y := (laid_swap hx'.out hy'.out (by have := gan'.out; rw [List.length_replicate]; omega) (by have := gbm'.out; rw [List.length_replicate]; omega) gd'.out).symm
    rw [hsw] at VF
    have hDl : (laid (laid (List.replicate 256 0) a x) b y).length = 256 := by
      have q1 : (laid (List.replicate 256 0) a x).length = (List.replicate 256 (0 : UInt8)).length := laid_len (by have := gan'.out; have := hx'.out; rw [List.length_replicate]; omega)
      rw [List.length_replicate] at q1
      rw [laid_len (by have := gbm'.out; have := hy'.out; omega), q1]
    clear hsw
    generalize laid (laid (List.replicate 256 0) a x) b y = DD at *
    generalize w13.heap.size = pall at *
    have HDl := Lib.hid hDl
    clear hDl
    have cU : ∀ W, Below wf.heap.size wf W → Calls Try.prog 10 #[.pointer (some ⟨Z, 0, none⟩), .int .i64 2, .agg #[.int .i64 2, .int .i64 0, .int .i64 32, .slice none 0 0, .int .u64 0, .int .u64 0, .int .i64 0, .bool false]] W fun e w' => ∃ v, e = .returned v ∧ Rep w' w.heap.size v 0 0 0 0 DD ∧ Below W.heap.size W w' := fun W hB => rd_any (H := 2) (UF.below hB) (BF.trans (hB.mono BF.size)) HDl.out (by decide)
    have cV : ∀ W, Below wf.heap.size wf W → Calls Try.prog 10 #[.pointer (some ⟨Z2, 0, none⟩), .int .i64 2, .agg #[.int .i64 2, .int .i64 0, .int .i64 32, .slice none 0 0, .int .u64 0, .int .u64 0, .int .i64 0, .bool false]] W fun e w' => ∃ v, e = .returned v ∧ Rep w' w.heap.size v 0 0 0 0 DD ∧ Below W.heap.size W w' := fun W hB => rd_any (H := 2) (VF.below hB) (BF.trans (hB.mono BF.size)) HDl.out (by decide)
    apply calm_region [.is _, .is _, .is _, .is _, .is _, .is _, .is _, .is _, .is _, .is _, .is _, .is _, .is _, .is _, .is _, .of (fun v W => Rep W w.heap.size v 0 0 0 0 DD) (fun v W W' hb h => h.below hb), .is _, .is _, .of (fun v W => Rep W w.heap.size v 0 0 0 0 DD) (fun v W W' hb h => h.below hb), .is _, .is _, .is _] [[], [0], [], [2], [1, 3], [], [5], [4, 6], [], [8], [7, 9], [10], [11], [12], [12], [13, 14, 12, 12], [12], [12], [16, 17, 15, 12], [15, 18, 18, 12], [12, 19], [20, 19, 0, 1, 2, 3, 4, 5, 6, 7, 8, 9, 10, 11, 12, 13, 14, 15, 16, 17, 18, 19, 20]] (by kernel_rfl) (by kernel_rfl) (by kernel_rfl) rfl
    intro f a1 ha1
    simp only [putL, Act.put, List.setIfInBounds_toArray, List.set_cons_succ, List.set_cons_zero] at ha1
    subst ha1
    refine ⟨?_, ?_⟩
    · refine AllCalm.cons (fun W hB hd => ?_) ?_
      · go_wp2_with (fail)
        exact CalmQ.mk rfl _ rfl (Below.refl _ _) rfl
      refine AllCalm.cons (fun W hB hd => ?_) ?_
      · obtain ⟨h0, -⟩ := hd
        have h0 : f 0 = _ := h0
        rw [h0]
        have q0 := (rf7.below hB rf7.lt).cell 0
        go_wp2_with (fail)
        exact CalmQ.mk rfl _ rfl (Below.refl _ _) rfl
      refine AllCalm.cons (fun W hB hd => ?_) ?_
      · go_wp2_with (fail)
        exact CalmQ.mk rfl _ rfl (Below.refl _ _) rfl
      refine AllCalm.cons (fun W hB hd => ?_) ?_
      · obtain ⟨h2, -⟩ := hd
        have h2 : f 2 = _ := h2
        rw [h2]
        have q0 := (rf9.below hB rf9.lt).cell 0
        go_wp2_with (fail)
        exact CalmQ.mk rfl _ rfl (Below.refl _ _) rfl
      refine AllCalm.cons (fun W hB hd => ?_) ?_
      · obtain ⟨h1, h3, -⟩ := hd
        have h1 : f 1 = _ := h1
        have h3 : f 3 = _ := h3
        rw [h1, h3]
        go_wp2_with (fail)
        exact CalmQ.mk rfl _ rfl (Below.refl _ _) rfl
      refine AllCalm.cons (fun W hB hd => ?_) ?_
      · go_wp2_with (fail)
        exact CalmQ.mk rfl _ rfl (Below.refl _ _) rfl
      refine AllCalm.cons (fun W hB hd => ?_) ?_
      · obtain ⟨h5, -⟩ := hd
        have h5 : f 5 = _ := h5
        rw [h5]
        have q0 := (rf11.below hB rf11.lt).cell 0
        go_wp2_with (fail)
        exact CalmQ.mk rfl _ rfl (Below.refl _ _) rfl
      refine AllCalm.cons (fun W hB hd => ?_) ?_
      · obtain ⟨h4, h6, -⟩ := hd
        have h4 : f 4 = _ := h4
        have h6 : f 6 = _ := h6
        rw [h4, h6]
        go_wp2_with (fail)
        exact CalmQ.mk rfl _ rfl (Below.refl _ _) rfl
      refine AllCalm.cons (fun W hB hd => ?_) ?_
      · go_wp2_with (fail)
        exact CalmQ.mk rfl _ rfl (Below.refl _ _) rfl
      refine AllCalm.cons (fun W hB hd => ?_) ?_
      · obtain ⟨h8, -⟩ := hd
        have h8 : f 8 = _ := h8
        rw [h8]
        have q0 := (rf13.below hB rf13.lt).cell 0
        go_wp2_with (fail)
        exact CalmQ.mk rfl _ rfl (Below.refl _ _) rfl
      refine AllCalm.cons (fun W hB hd => ?_) ?_
      · obtain ⟨h7, h9, -⟩ := hd
        have h7 : f 7 = _ := h7
        have h9 : f 9 = _ := h9
        rw [h7, h9]
        go_wp2_with (fail)
        exact CalmQ.mk rfl _ rfl (Below.refl _ _) rfl
      refine AllCalm.cons (fun W hB hd => ?_) ?_
      · obtain ⟨h10, -⟩ := hd
        have h10 : f 10 = _ := h10
        rw [h10]
        go_wp2_with (fail)
        exact CalmQ.mk rfl _ rfl (Below.refl _ _) rfl
      refine AllCalm.cons (fun W hB hd => ?_) ?_
      · obtain ⟨h11, -⟩ := hd
        have h11 : f 11 = _ := h11
        rw [h11]
        go_wp2_with (fail)
        exact CalmQ.mk rfl _ rfl (Below.refl _ _) rfl
      refine AllCalm.cons (fun W hB hd => ?_) ?_
      · obtain ⟨h12, -⟩ := hd
        have h12 : f 12 = _ := h12
        rw [h12]
        go_wp2_with (fail)
        exact CalmQ.mk rfl _ rfl (Below.refl _ _) rfl
      refine AllCalm.cons (fun W hB hd => ?_) ?_
      · obtain ⟨h12, -⟩ := hd
        have h12 : f 12 = _ := h12
        rw [h12]
        have y0 := (mall.below hB mall.lt).cell 0; have y1 := (mall.below hB mall.lt).cell 1; have y2 := (mall.below hB mall.lt).cell 2; have y3 := (mall.below hB mall.lt).cell 3; have y4 := (mall.below hB mall.lt).cell 4; have y5 := (mall.below hB mall.lt).cell 5; have y6 := (mall.below hB mall.lt).cell 6; have y7 := (mall.below hB mall.lt).cell 7
        go_wp2_with (fail)
        exact CalmQ.mk rfl _ rfl (Below.refl _ _) rfl
      refine AllCalm.cons (fun W hB hd => ?_) ?_
      · obtain ⟨h13, h14, h12, -, -⟩ := hd
        have h13 : f 13 = _ := h13
        have h14 : f 14 = _ := h14
        have h12 : f 12 = _ := h12
        rw [h13, h14, h12]
        have cW := cU W hB
        go_wp2_with ((go_at_call 10; (with_reducible refine cW.mono ?_); rintro e' w9 ⟨v9, rfl, hr9, b9⟩))
        exact CalmQ.mk rfl _ rfl b9 hr9
      refine AllCalm.cons (fun W hB hd => ?_) ?_
      · obtain ⟨h12, -⟩ := hd
        have h12 : f 12 = _ := h12
        rw [h12]
        go_wp2_with (fail)
        exact CalmQ.mk rfl _ rfl (Below.refl _ _) rfl
      refine AllCalm.cons (fun W hB hd => ?_) ?_
      · obtain ⟨h12, -⟩ := hd
        have h12 : f 12 = _ := h12
        rw [h12]
        have y0 := (mall.below hB mall.lt).cell 0; have y1 := (mall.below hB mall.lt).cell 1; have y2 := (mall.below hB mall.lt).cell 2; have y3 := (mall.below hB mall.lt).cell 3; have y4 := (mall.below hB mall.lt).cell 4; have y5 := (mall.below hB mall.lt).cell 5; have y6 := (mall.below hB mall.lt).cell 6; have y7 := (mall.below hB mall.lt).cell 7
        go_wp2_with (fail)
        exact CalmQ.mk rfl _ rfl (Below.refl _ _) rfl
      refine AllCalm.cons (fun W hB hd => ?_) ?_
      · obtain ⟨h16, h17, h15, h12, -⟩ := hd
        have h16 : f 16 = _ := h16
        have h17 : f 17 = _ := h17
        have h12 : f 12 = _ := h12
        rw [h16, h17, h12]
        have cW := cV W hB
        go_wp2_with ((go_at_call 10; (with_reducible refine cW.mono ?_); rintro e' w9 ⟨v9, rfl, hr9, b9⟩))
        exact CalmQ.mk rfl _ rfl b9 hr9
      refine AllCalm.cons (fun W hB hd => ?_) ?_
      · obtain ⟨h15, h18, -, h12, -⟩ := hd
        have h12 : f 12 = _ := h12
        rw [h12]
        have H15 : Rep W w.heap.size (f 15) 0 0 0 0 DD := h15; have H18 : Rep W w.heap.size (f 18) 0 0 0 0 DD := h18; obtain ⟨Aa, ca, ea, oa⟩ := H15; obtain ⟨Ab, cb, eb, ob⟩ := H18; rw [ea, eb]; have cS := rsame_any 0 0 0 0 DD (Sl.of_own oa) (Sl.of_own ob)
        go_wp2_with ((go_at_call 14; (with_reducible refine cS.mono ?_); rintro e' w9 ⟨rfl, b9⟩))
        exact CalmQ.mk rfl _ rfl b9 rfl
      refine AllCalm.cons (fun W hB hd => ?_) ?_
      · obtain ⟨h12, h19, -⟩ := hd
        have h12 : f 12 = _ := h12
        have h19 : f 19 = _ := h19
        rw [h12, h19]
        go_wp2_with (fail)
        exact CalmQ.mk rfl _ rfl (Below.refl _ _) rfl
      refine AllCalm.cons (fun W hB hd => ?_) ?_
      · obtain ⟨h20, h19, h0, h1, h2, h3, h4, h5, h6, h7, h8, h9, h10, h11, h12, h13, h14, h15, h16, h17, h18, -, -, -⟩ := hd
        have h20 : f 20 = _ := h20
        have h19 : f 19 = _ := h19
        have h0 : f 0 = _ := h0
        have h1 : f 1 = _ := h1
        have h2 : f 2 = _ := h2
        have h3 : f 3 = _ := h3
        have h4 : f 4 = _ := h4
        have h5 : f 5 = _ := h5
        have h6 : f 6 = _ := h6
        have h7 : f 7 = _ := h7
        have h8 : f 8 = _ := h8
        have h9 : f 9 = _ := h9
        have h10 : f 10 = _ := h10
        have h11 : f 11 = _ := h11
        have h12 : f 12 = _ := h12
        have h13 : f 13 = _ := h13
        have h14 : f 14 = _ := h14
        have h16 : f 16 = _ := h16
        have h17 : f 17 = _ := h17
        rw [h20, h19, h0, h1, h2, h3, h4, h5, h6, h7, h8, h9, h10, h11, h12, h13, h14, h16, h17]
        go_wp2_with (fail)
        exact CalmQ.mk rfl _ rfl (Below.refl _ _) rfl
      exact AllCalm.nil
    · intro W hB hT
      obtain ⟨h0, h1, h2, h3, h4, h5, h6, h7, h8, h9, h10, h11, h12, h13, h14, h15, h16, h17, h18, h19, h20, h21, -⟩ := hT
      have h0 : f 0 = _ := h0
      have h1 : f 1 = _ := h1
      have h2 : f 2 = _ := h2
      have h3 : f 3 = _ := h3
      have h4 : f 4 = _ := h4
      have h5 : f 5 = _ := h5
      have h6 : f 6 = _ := h6
      have h7 : f 7 = _ := h7
      have h8 : f 8 = _ := h8
      have h9 : f 9 = _ := h9
      have h10 : f 10 = _ := h10
      have h11 : f 11 = _ := h11
      have h12 : f 12 = _ := h12
      have h13 : f 13 = _ := h13
      have h14 : f 14 = _ := h14
      have h16 : f 16 = _ := h16
      have h17 : f 17 = _ := h17
      have h19 : f 19 = _ := h19
      have h20 : f 20 = _ := h20
      have h21 : f 21 = _ := h21
      rw [h0, h1, h2, h3, h4, h5, h6, h7, h8, h9, h10, h11, h12, h13, h14, h16, h17, h19, h20, h21]
      clear h0 h1 h2 h3 h4 h5 h6 h7 h8 h9 h10 h11 h12 h13 h14 h16 h17 h19 h20 h21
      go_wp2
      go_ret
      exact ⟨rfl, BF.trans (hB.mono BF.size)⟩
theorem walk (a b : Int) (v1 : Value) (x : List UInt8) (v2 : Value) (y : List UInt8) (w : World) (_ : -9223372036854775808 ≤ a) (_ : a ≤ 9223372036854775807) (_ : -9223372036854775808 ≤ b) (_ : b ≤ 9223372036854775807) (h1 : Sl w w.heap.size v1 x.length (bs x)) (h2 : Sl w w.heap.size v2 y.length (bs y)) :
    Calls Try.prog 6 #[.int .i64 a, .int .i64 b, v1, v2] w fun e w' => e = .returned (.bool true) ∧ Below w.heap.size w w' := by
  obtain ⟨n, r, hn, hr⟩ : ∃ n r, x.length = 8 * n + r ∧ r < 8 := ⟨x.length / 8, x.length % 8, by omega, by omega⟩
  obtain ⟨m, s, hm, hs⟩ : ∃ m s, y.length = 8 * m + s ∧ s < 8 := ⟨y.length / 8, y.length % 8, by omega, by omega⟩
  by_cases ho : ¬ (r : Int) = 0 ∨ ¬ (s : Int) = 0 ∨ (16 : Int) < n ∨ (16 : Int) < m ∨ a < 0 ∨ b < 0 ∨ 32 < a ∨ 32 < b ∨ 32 < a + n ∨ 32 < b + m ∨ (a < b + m ∧ b < a + n)
  · exact walk_out a b v1 x v2 y w n m r s h1 h2 hn hr hm hs ho
  · obtain ⟨i, rfl⟩ : ∃ i : Nat, a = i := ⟨a.toNat, by omega⟩
    obtain ⟨j, rfl⟩ : ∃ j : Nat, b = j := ⟨b.toNat, by omega⟩
    exact walk_in i j n m v1 x v2 y w h1 h2 (by omega) (by omega) (by omega) (by omega) (by omega) (by omega) (by omega)
set_option maxRecDepth 100000 in
theorem lifted (os : Os) (started : os.Started) (H : Type) (enc : TypeId × Value → H) :
    ReturnsInHanded {} Try.checked os 6 .any (Rows.unitApartSpec.pre6 enc Try.prog Try.f6 Rows.unitApartRow.domain false) (Rows.unitApartSpec.post enc Try.prog Try.f6 false true false false) := by
  refine returnsInHanded_of_change (C := Try.checked) own started (by kernel_rfl) Try.func6
    (ChangeSpec.witness6 (enc := enc) (C := Try.checked) false ⟨#[], #[.int .i64 0, .int .i64 0, .slice none 0 0, .slice none 0 0], []⟩ 8 (by kernel_rfl) (by kernel_rfl) (by kernel_rfl) (by kernel_rfl)) ?_
  intro W base args ds gs before hval0 hW hcnd _
  have hval : ∀ (j : Nat) t v, Try.f6.params[j]? = some t → args[j]? = some v → Value.okWide Try.prog W .any base t v := hval0
  have hW' := hW
  obtain ⟨p, q, hA0, hV, rfl, hfz, hnd⟩ := hW
  have hA : DataW.TrodAll enc Try.prog W 0 (fun _ => true) true Try.f6.params.toList args.toList ds p := hA0
  rw [Try.params6] at hA hval
  obtain ⟨v0, vs0, d0, ds0, p0, q0, hargs, rfl, rfl, h0, r0⟩ := trodAll_cons hA
  obtain ⟨v1, vs1, d1, ds1, p1, q1, rfl, rfl, rfl, h1, r1⟩ := trodAll_cons r0
  obtain ⟨v2, vs2, d2, ds2, p2, q2, rfl, rfl, rfl, h2, r2⟩ := trodAll_cons r1
  obtain ⟨v3, vs3, d3, ds3, p3, q3, rfl, rfl, rfl, h3, r3⟩ := trodAll_cons r2
  obtain ⟨rfl, rfl, rfl⟩ := trodAll_nil r3
  obtain rfl : args = #[v0, v1, v2, v3] := by cases args; simp_all
  obtain ⟨rfl, rfl⟩ := trodVars_none hV
  obtain ⟨a0, rfl, _, _, w0⟩ := open_int Try.underlying3 (hval 0 3 v0 rfl rfl) h0
  have b0 := bounds_i64 w0
  obtain ⟨a1, rfl, _, _, w1⟩ := open_int Try.underlying3 (hval 1 3 v1 rfl rfl) h1
  have b1 := bounds_i64 w1
  obtain ⟨l2, s2, e2⟩ := open_bytes Try.underlying22 Try.underlying5 (by kernel_rfl) (hval 2 22 v2 rfl rfl) h2
  obtain ⟨l3, s3, e3⟩ := open_bytes Try.underlying22 Try.underlying5 (by kernel_rfl) (hval 3 22 v3 rfl rfl) h3
  refine (walk a0 a1 v2 l2 v3 l3 W b0.1 b0.2 b1.1 b1.2 s2 s3).mono fun e W' ⟨he, hb⟩ => ?_
  subst he
  exact ⟨_, rfl, law_post laidOut (by kernel_rfl) rfl (by kernel_rfl) Try.underlying4 rfl rfl rfl hW' hb⟩

theorem proved : Rows.UnitApartSaid :=
  OpenClaim.holds_of_wide 6 Try.f6 rfl rfl rfl rfl rfl rfl rfl ⟨rfl, rfl, rfl, rfl, rfl⟩ rfl rfl rfl rfl rfl (by kernel_rfl) Try.func6 (by kernel_rfl)
    (of_decide_eq_true (by kernel_rfl)) (by unfold Func.isWrapper; first | (rw [if_pos (by decide +kernel)]; kernel_rfl) | (rw [if_neg (by decide +kernel)]; exact ⟨rfl, rfl⟩))
    (fun os started H enc _ => lifted os started H enc)
end Un
end Go.Proofs.Ytpkebbibafldkaa
