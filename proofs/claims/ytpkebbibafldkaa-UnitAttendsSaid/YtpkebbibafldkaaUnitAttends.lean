/- UnitAttends: for all numbers and bytes the statement's function tells true and turns nothing that was there. No condition. -/
import Derived.Test.YtpkebbibafldkaaUnQ
import Derived.Test.YtpkebbibafldkaaBase2
import Derived.Deep.OwnRows
namespace Go.Proofs.Ytpkebbibafldkaa
open Go.ChangeShapes Go.WideShapes Go.ChangeAt Go.RowKit Go.Lib
set_option linter.unusedVariables false
set_option linter.unusedSimpArgs false
set_option maxRecDepth 100000
namespace Un
open Rv
theorem UnM.eff {w w' : World} {B Z X g h Y N : Nat} {D M : List UInt8} {t : RT} {hs : List Value} {S : Nat → Prop} (hu : UnM w B Z X g h Y N D M t hs) (he : Eff S w w') (hZ : ¬ S Z) (hX : ¬ S X) (hY : ¬ S Y) (hg : ¬ S g) (hh : ¬ S h) : UnM w' B Z X g h Y N D M t hs := ⟨hu.mem.eff he hZ, hu.len, SpInv.eff hu.sp he hX hg hh, ⟨hu.tab.mem.eff he hY, hu.tab.len⟩, hu.bZ, hu.bY⟩
/-- A unit of four blocks whose own blocks lie in lo .. hi. -/
structure KA (lo hi : Nat) (W : World) (Z X g h Y : Nat) (D : List UInt8) (hs : List Value) : Prop where
  un : ∃ M, UnM W lo Z X g h Y 4 D M RT.zero hs
  le : hi ≤ W.heap.size
  lZ : Z < hi
  lX : X < hi
  lY : Y < hi
  lg : g < hi
  lh : h < hi
section
variable {lo hi : Nat} {w W W' : World} {Z X g h Y : Nat} {D D' : List UInt8} {hs : List Value}
theorem KA.below (k : KA lo hi W Z X g h Y D hs) (hb : Below W.heap.size W W') : KA lo hi W' Z X g h Y D hs := by
  obtain ⟨M, u⟩ := k.un
  exact ⟨⟨M, u.below hb⟩, Nat.le_trans k.le hb.size, k.lZ, k.lX, k.lY, k.lg, k.lh⟩
theorem KA.z (k : KA lo hi W Z X g h Y D hs) : lo ≤ Z := k.un.elim fun _ u => u.bZ
theorem new4 (W : World) : Calls Try.prog 12 #[.int .i64 4] W fun e w' => ∃ Z X g h Y, e = .returned (.tuple #[.pointer (some ⟨Z, 0, none⟩), .int .i64 0]) ∧ KA W.heap.size w'.heap.size w' Z X g h Y (List.replicate 32 0) hs0 ∧ Below W.heap.size W w' := (unew_any 4 (by decide) (by decide) W).mono fun e w' ⟨Z, X, g, h, Y, a1, a2, a3⟩ => ⟨Z, X, g, h, Y, a1, ⟨⟨_, a2⟩, Nat.le_refl _, a2.mem.lt, a2.sp.mem.lt, a2.tab.mem.lt, a2.sp.data.lt, a2.sp.map.lt⟩, a3⟩
theorem rst_any (k : KA lo hi W Z X g h Y D hs0) (H : Nat) (hH : H < 8) (v : Value) (hv : v.oneCell' = true) : Calls Try.prog 10 #[.pointer (some ⟨Z, 0, none⟩), .int .i64 (H : Nat), .agg #[.int .i64 18, .int .i64 0, .int .i64 0, v, .int .u64 0, .int .u64 0, .int .i64 0, .bool false]] W fun e w' => ∃ v hs', e = .returned v ∧ KA lo hi w' Z X g h Y D hs' ∧ Ntc w' W.heap.size hs' 8 ∧ Eff (fun q => q = Z) W w' := by
  obtain ⟨M, u⟩ := k.un
  refine (do_reset u H hH (fun H h => hs0_at H h) rfl 0 0 v hv 0 0 0 false).mono ?_
  rintro e w' ⟨v', hs', rfl, u', n', E⟩
  exact ⟨v', hs', rfl, ⟨⟨M, u'⟩, Nat.le_trans k.le E.size, k.lZ, k.lX, k.lY, k.lg, k.lh⟩, n', E⟩
theorem pnd_one {b : Nat} (k : KA lo hi W Z X g h Y D hs) (n : Ntc W b hs 8) (H : Nat) (hH : H < 8) : Calls Try.prog 13 #[.pointer (some ⟨Z, 0, none⟩), .int .i64 (H : Nat)] W fun e w' => ∃ A c, e = .returned (.slice A 1 c) ∧ w'.ownsRow W.heap.size 3 1 (.slice A 1 c) 1 [.int .i64 10499] ∧ Below W.heap.size W w' := by
  obtain ⟨M, u⟩ := k.un
  obtain ⟨G, p, h1, h2⟩ := n.has H hH
  refine (pending_any u H hH [10499] h1 (Sl.of_own h2) (by decide)).mono ?_
  rintro e w' ⟨v', rfl, o, B⟩
  obtain ⟨A, c, rfl, _, _⟩ := own_form o
  exact ⟨A, c, rfl, o, B⟩
theorem pnd_none {A : Option Addr} {c : Nat} (k : KA lo hi W Z X g h Y D hs) (H : Nat) (hH : H < 8) (hw : hs[3 * H]? = some (.slice A 0 c)) (hv : Sl W W.heap.size (.slice A 0 c) 0 []) : Calls Try.prog 13 #[.pointer (some ⟨Z, 0, none⟩), .int .i64 (H : Nat)] W fun e w' => ∃ A c, e = .returned (.slice A 0 c) ∧ Below W.heap.size W w' := by
  obtain ⟨M, u⟩ := k.un
  refine (pending_any u H hH [] hw hv (by decide)).mono ?_
  rintro e w' ⟨v', rfl, o, B⟩
  obtain ⟨A, c, rfl, _, _⟩ := own_form o
  exact ⟨A, c, rfl, B⟩
theorem iq_any (k : KA lo hi W Z X g h Y D hs) (H : Nat) (hH : H < 8) (v : Value) (hv : v.oneCell' = true) : Calls Try.prog 10 #[.pointer (some ⟨Z, 0, none⟩), .int .i64 (H : Nat), .agg #[.int .i64 8, .int .i64 0, .int .i64 0, v, .int .u64 0, .int .u64 0, .int .i64 0, .bool false]] W fun e w' => ∃ A c, e = .returned (.agg #[.int .i64 0, .int .i64 0, .int .i64 0, .slice A 36 c, .int .i64 0]) ∧ Below W.heap.size W w' := by
  obtain ⟨M, u⟩ := k.un
  exact do_inq u H hH rfl 0 0 v hv 0 0 0 false
/-- What is laid where the host's attentions were: an empty slice that reads as such. -/
theorem at_any {b : Nat} (k : KA lo hi W Z X g h Y D hs) (n : Ntc W b hs 8) (H : Nat) (hH : H < 8) (a : Nat) (v : Value) : Calls Try.prog 10 #[.pointer (some ⟨Z, 0, none⟩), .int .i64 (H : Nat), .agg #[.int .i64 3, .int .i64 (a : Nat), .int .i64 1, v, .int .u64 0, .int .u64 0, .int .i64 0, .bool false]] W fun e w' => e = .returned (.agg #[.int .i64 2, .int .i64 6, .int .i64 10499, .slice none 0 0, .int .i64 0]) ∧ (∃ hs' A c, KA lo hi w' Z X g h Y D hs' ∧ hs'[3 * H]? = some (.slice A 0 c) ∧ c ≤ maxLen) ∧ Eff (fun q => q = Z) W w' := by
  obtain ⟨M, u⟩ := k.un
  obtain ⟨G, p, h1, h2⟩ := n.has H hH
  have hc := own_cells h2 0 _ rfl
  obtain ⟨A0, c0, e0, hp, hp2⟩ := own_form h2
  injection e0 with _ _ e3
  subst e3
  have hl := (own_tag h2 G rfl).2.1
  refine (do_att u H hH h1 10499 hp hp2 hc hl a 1 v 0 0 0 false).mono ?_
  rintro e w' ⟨rfl, ⟨A, c, hc', u'⟩, E⟩
  exact ⟨rfl, ⟨_, A, c, ⟨⟨M, u'⟩, Nat.le_trans k.le E.size, k.lZ, k.lX, k.lY, k.lg, k.lh⟩, List.getElem?_set_self (by have := u.len; omega), hc'⟩, E⟩
theorem rd_any {A : Option Addr} {c : Nat} (k : KA lo hi W Z X g h Y D hs) (H : Nat) (hH : H < 8) (hw : hs[3 * H]? = some (.slice A 0 c)) (a : Nat) (ha : a < 4) (l : List UInt8) (hl : piece D a 1 = l) (h8 : l.length = 8) : Calls Try.prog 10 #[.pointer (some ⟨Z, 0, none⟩), .int .i64 (H : Nat), .agg #[.int .i64 2, .int .i64 (a : Nat), .int .i64 1, .slice none 0 0, .int .u64 0, .int .u64 0, .int .i64 0, .bool false]] W fun e w' => ∃ A c, e = .returned (.agg #[.int .i64 0, .int .i64 0, .int .i64 0, .slice A 8 c, .int .i64 0]) ∧ w'.ownsRow W.heap.size 5 1 (.slice A 8 c) 8 (bs l) ∧ Below W.heap.size W w' := by
  obtain ⟨M, u⟩ := k.un
  refine (do_read u H hH hw rfl a 1 (.slice none 0 0) 0 0 0 false fun W2 h2 => onb_read (u.below h2) a 1 (.slice none 0 0) 0 0 0 false (by decide) (by omega)).mono ?_
  rintro e w' ⟨v, rfl, h1, h2⟩
  rw [hl] at h1
  obtain ⟨A, c, rfl, o⟩ := h1
  rw [h8] at o ⊢
  exact ⟨A, c, rfl, o, h2⟩
theorem wr_any {A : Option Addr} {c : Nat} {v : Value} {l : List UInt8} (k : KA lo hi W Z X g h Y D hs) (H : Nat) (hH : H < 8) (hw : hs[3 * H]? = some (.slice A 0 c)) (a : Nat) (ha : a < 4) (hv : Sl W W.heap.size v l.length (bs l)) (h8 : l.length = 8) : Calls Try.prog 10 #[.pointer (some ⟨Z, 0, none⟩), .int .i64 (H : Nat), .agg #[.int .i64 3, .int .i64 (a : Nat), .int .i64 1, v, .int .u64 0, .int .u64 0, .int .i64 0, .bool false]] W fun e w' => ∃ A c, e = .returned (.agg #[.int .i64 0, .int .i64 0, .int .i64 0, .slice A 0 c, .int .i64 0]) ∧ KA lo hi w' Z X g h Y (laid D a l) hs ∧ Eff (fun q => lo ≤ q ∧ q < hi) W w' := by
  obtain ⟨M, u⟩ := k.un
  refine (do_blk3 u H hH hw rfl a 1 v 0 0 0 false (OnB.write u a 1 (by decide) (by omega) hv (by omega))).mono ?_
  rintro e w' ⟨v, M', rfl, ⟨A, c, rfl, o⟩, hM, u', E⟩
  have E' : Eff (fun q => lo ≤ q ∧ q < hi) W w' := E.mono fun q _ hq => hq.elim (fun e => e ▸ ⟨u.sp.bg, k.lg⟩) (fun e => e ▸ ⟨u.sp.bh, k.lh⟩)
  exact ⟨A, c, rfl, ⟨⟨M', u'⟩, Nat.le_trans k.le E.size, k.lZ, k.lX, k.lY, k.lg, k.lh⟩, E'⟩
theorem piece_same {D l : List UInt8} {a : Nat} (ha : a < 4) (hD : D.length = 32) (hl : l.length = 8) : piece (laid D a l) a 1 = l := by
  have hL : (laid D a l).length = 32 := by rw [laid_len (by omega)]; exact hD
  apply List.ext_getElem?
  intro k
  by_cases hk : k < 8
  · rw [piece_get (by omega) (by omega), laid_get (by omega), if_pos (by omega)]
    congr 1
    omega
  · rw [List.getElem?_eq_none (by rw [piece_len (by omega)]; omega), List.getElem?_eq_none (by omega)]
theorem piece_nought {a : Nat} (ha : a < 4) : piece (List.replicate 32 0) a 1 = List.replicate 8 0 := by
  have : a = 0 ∨ a = 1 ∨ a = 2 ∨ a = 3 := by omega
  rcases this with rfl | rfl | rfl | rfl <;> rfl
end
set_option maxHeartbeats 4000000 in
theorem walk_out (host by_ : Int) (v1 : Value) (x : List UInt8) (a : Int) (w : World) (h1 : Sl w w.heap.size v1 x.length (bs x)) (ho : host < 0 ∨ 7 < host ∨ by_ < 0 ∨ 7 < by_ ∨ ¬ (x.length : Int) = 8 ∨ a < 0 ∨ 3 < a) :
    Calls Try.prog 4 #[.int .i64 host, .int .i64 by_, v1, .int .i64 a] w fun e w' => e = .returned (.bool true) ∧ Below w.heap.size w w' := by
  obtain ⟨A1, c1, rfl, u1, u2⟩ := h1.form
  clear u1 u2 h1
  generalize hxl : (x.length : Int) = xl at *
  by_cases g0 : host < 0
  · clear ho
    go_enter Try.func4, Try.ntmps4
    go_upto_region 2 with (go_at_call 7; refine (known_any _).mono ?_; rintro e w1 ⟨rfl, hb1⟩)
    go_wp2
    go_ret
    exact ⟨rfl, hb1⟩
  by_cases g1 : 7 < host
  · clear ho
    go_enter Try.func4, Try.ntmps4
    go_upto_region 2 with (go_at_call 7; refine (known_any _).mono ?_; rintro e w1 ⟨rfl, hb1⟩)
    go_wp2
    go_ret
    exact ⟨rfl, hb1⟩
  by_cases g2 : by_ < 0
  · clear ho
    go_enter Try.func4, Try.ntmps4
    go_upto_region 2 with (go_at_call 7; refine (known_any _).mono ?_; rintro e w1 ⟨rfl, hb1⟩)
    go_wp2
    go_ret
    exact ⟨rfl, hb1⟩
  by_cases g3 : 7 < by_
  · clear ho
    go_enter Try.func4, Try.ntmps4
    go_upto_region 2 with (go_at_call 7; refine (known_any _).mono ?_; rintro e w1 ⟨rfl, hb1⟩)
    go_wp2
    go_ret
    exact ⟨rfl, hb1⟩
  by_cases g4 : ¬ xl = 8
  · clear ho
    go_enter Try.func4, Try.ntmps4
    go_upto_region 2 with (go_at_call 7; refine (known_any _).mono ?_; rintro e w1 ⟨rfl, hb1⟩)
    go_wp2
    go_ret
    exact ⟨rfl, hb1⟩
  have g4 : xl = 8 := by omega
  by_cases g5 : a < 0
  · clear ho
    go_enter Try.func4, Try.ntmps4
    go_upto_region 2 with (go_at_call 7; refine (known_any _).mono ?_; rintro e w1 ⟨rfl, hb1⟩)
    go_wp2
    go_ret
    exact ⟨rfl, hb1⟩
  · have g6 : 3 < a := by omega
    clear ho
    go_enter Try.func4, Try.ntmps4
    go_upto_region 2 with (go_at_call 7; refine (known_any _).mono ?_; rintro e w1 ⟨rfl, hb1⟩)
    go_wp2
    go_ret
    exact ⟨rfl, hb1⟩
set_option maxHeartbeats 8000000 in
theorem walk_in (H K a : Nat) (v1 : Value) (x : List UInt8) (w : World) (h1 : Sl w w.heap.size v1 x.length (bs x)) (hH : H < 8) (hK : K < 8) (ha : a < 4) (hx : x.length = 8) :
    Calls Try.prog 4 #[.int .i64 (H : Nat), .int .i64 (K : Nat), v1, .int .i64 (a : Nat)] w fun e w' => e = .returned (.bool true) ∧ Below w.heap.size w w' := by
  have f0 : ¬ (H : Int) < 0 := by omega
  have f1 : ¬ 7 < (H : Int) := by omega
  have f2 : ¬ (K : Int) < 0 := by omega
  have f3 : ¬ 7 < (K : Int) := by omega
  have f4 : ¬ (a : Int) < 0 := by omega
  have f5 : ¬ 3 < (a : Int) := by omega
  obtain ⟨A1, c1, rfl, u1, u2⟩ := h1.form
  clear u1 u2
  have hsx : ∀ W, Below w.heap.size w W → Sl W W.heap.size (.slice A1 8 c1) 8 (bs x) := fun W hB => by
    have q := h1.now hB
    rw [hx] at q
    exact q
  have hsx' : ∀ W, Below w.heap.size w W → Sl W W.heap.size (.slice A1 8 c1) x.length (bs x) := fun W hB => by
    rw [hx]
    exact hsx W hB
  clear h1
  have hxl := Lib.hid hx
  rw [hx]
  clear hx
  have HH := Lib.hid hH
  have HK := Lib.hid hK
  have Ha := Lib.hid ha
  clear hH hK ha
  go_enter Try.func4, Try.ntmps4
  go_upto_region 2 with (go_at_call 7; (with_reducible refine (known_any _).mono ?_); rintro e' w1 ⟨rfl, B1⟩)
  go_upto_region 5 with (fail)
  have cu := new4 w1
  go_upto_region 6 with (go_at_call 12; (with_reducible refine cu.mono ?_); rintro e' w2 ⟨Z, X, g, h, Y, rfl, U2, b2⟩)
  have s1 := B1.size
  have B2 := B1.trans (b2.mono B1.size)
  have hlo : w.heap.size ≤ w1.heap.size := s1
  obtain ⟨w3, e3, mp, b3⟩ : ∃ w3, w3 = w2.alloc (.cells #[.int .i64 3, .int .i64 (a : Nat), .int .i64 1, .slice A1 8 c1, .int .u64 0, .int .u64 0, .int .i64 0, .bool false] 25) ∧ Mem w3 w2.heap.size 25 #[.int .i64 3, .int .i64 (a : Nat), .int .i64 1, .slice A1 8 c1, .int .u64 0, .int .u64 0, .int .i64 0, .bool false] ∧ Below w2.heap.size w2 w3 := ⟨_, rfl, Mem.new w2 _ _, (Below.refl _ w2).alloc (Nat.le_refl _) _⟩
  go_upto_region 7 with (fail)
  rw [← e3]
  clear e3
  have U3 := U2.below b3
  have B3 := B2.trans (b3.mono B2.size)
  generalize w1.heap.size = lo at *
  have d4 := rst_any U3 K HK.out (.slice none 0 0) rfl
  have hU2le := U2.le
  generalize w2.heap.size = hi at *
  go_upto_region 8 with (go_at_call 10; (with_reducible refine d4.mono ?_); rintro e' w4 ⟨v4, hs4, rfl, K4, N4, E4⟩)
  have zl := U3.z
  have zh := U3.lZ
  have B4 : Below w.heap.size w w4 := E4.below B3 B3.size fun q _ hq => (by omega)
  have mp4 := mp.eff E4 (by omega)
  clear d4
  have d5 := pnd_one K4 N4 H HH.out
  go_upto_region 9 with (go_at_call 13; (with_reducible refine d5.mono ?_); rintro e' w5 ⟨A5, c5, rfl, o5, b5⟩)
  have B5 := B4.trans (b5.mono B4.size)
  have K5 := K4.below b5
  have N5 := N4.below b5
  have mp5 := mp4.below b5 mp4.lt
  have p4 := K4.le
  clear d5
  have d6 := iq_any K5 H HH.out (.slice none 0 0) rfl
  go_upto_region 10 with (go_at_call 10; (with_reducible refine d6.mono ?_); rintro e' w6 ⟨A6, c6, rfl, b6⟩)
  clear d6
  obtain ⟨w7, e7, mq7, b7⟩ := box_new w6 #[.int .i64 0, .int .i64 0, .int .i64 0, .slice A6 36 c6, .int .i64 0]
  rw [← e7]
  clear e7
  have b57 := b6.trans (b7.mono b6.size)
  have B7 := B5.trans (b57.mono B5.size)
  have K7 := K5.below b57
  have N7 := N5.below b57
  have o7 := owns_below o5 b57
  have mp7 := mp5.below b57 mp5.lt
  have p7 := (K5.below b6).le
  generalize w6.heap.size = pq at *
  generalize w4.heap.size = bP at *
  have d8 := at_any K7 N7 H HH.out a (.slice A1 8 c1)
  go_upto_region 11 with (first
    | (refine wpList_load_row rfl 25 (.tmp 11) rfl hi rfl 25 #[.int .i64 3, .int .i64 (a : Nat), .int .i64 1, .slice A1 8 c1, .int .u64 0, .int .u64 0, .int .i64 0, .bool false] (0, 0) _ mp7 Try.underlying25 rfl (by kernel_rfl) ?_)
    | (go_at_call 10; (with_reducible refine d8.mono ?_); rintro e' w8 ⟨rfl, ⟨hs8, A8, c8, K8, I8, J8⟩, E8⟩))
  clear d8
  have hE : ∀ W : World, Sl W W.heap.size (.slice A8 0 c8) 0 [] := fun W => ⟨rfl, A8, c8, rfl, Nat.zero_le _, J8, fun h => absurd rfl h⟩
  clear J8
  have B8 : Below w.heap.size w w8 := E8.below B7 B7.size fun q _ hq => (by omega)
  have mq8 := mq7.eff E8 (by omega)
  have mp8 := mp7.eff E8 (by omega)
  have o8 := owns_eff o7 E8 fun q hq e => (by have := (own_tag o7 q hq).1; omega)
  obtain ⟨w9, e9, mr9, b9⟩ := box_new w8 #[.int .i64 2, .int .i64 6, .int .i64 10499, .slice none 0 0, .int .i64 0]
  rw [← e9]
  clear e9
  have B9 := B8.trans (b9.mono B8.size)
  have K9 := K8.below b9
  have mq9 := mq8.below b9 mq8.lt
  have mp9 := mp8.below b9 mp8.lt
  have o9 := owns_below o8 b9
  have p9 := K8.le
  generalize w8.heap.size = pr at *
  have d10 := rd_any K9 H HH.out I8 a Ha.out (List.replicate 8 0) (piece_nought Ha.out) rfl
  go_upto_region 12 with (go_at_call 10; (with_reducible refine d10.mono ?_); rintro e' w10 ⟨A10, c10, rfl, o10, b10⟩)
  clear d10
  obtain ⟨w11, e11, mx11, b11⟩ := box_new w10 #[.int .i64 0, .int .i64 0, .int .i64 0, .slice A10 8 c10, .int .i64 0]
  rw [← e11]
  clear e11
  have b911 := b10.trans (b11.mono b10.size)
  have B11 := B9.trans (b911.mono B9.size)
  have K11 := K9.below b911
  have mq11 := mq9.below b911 mq9.lt
  have mr11 := mr9.below b911 mr9.lt
  have mp11 := mp9.below b911 mp9.lt
  have o11 := owns_below o9 b911
  have ox11 := owns_below o10 b11
  have p10 := K9.le
  have p11 := (K9.below b10).le
  generalize w10.heap.size = px at *
  generalize w9.heap.size = bX at *
  have d12 := wr_any K11 H HH.out I8 a Ha.out (hsx' _ B11) hxl.out
  go_upto_region 13 with (first
    | (refine wpList_load_row rfl 25 (.tmp 11) rfl hi rfl 25 #[.int .i64 3, .int .i64 (a : Nat), .int .i64 1, .slice A1 8 c1, .int .u64 0, .int .u64 0, .int .i64 0, .bool false] (0, 0) _ mp11 Try.underlying25 rfl (by kernel_rfl) ?_)
    | (go_at_call 10; (with_reducible refine d12.mono ?_); rintro e' w12 ⟨A12, c12, rfl, K12, E12⟩))
  clear d12
  have B12 : Below w.heap.size w w12 := E12.below B11 B11.size fun q _ hq => (by omega)
  have mq12 := mq11.eff E12 (by omega)
  have mr12 := mr11.eff E12 (by omega)
  have mx12 := mx11.eff E12 (by omega)
  have o12 := owns_eff o11 E12 fun q hq e => (by have := (own_tag o11 q hq).1; omega)
  have ox12 := owns_eff ox11 E12 fun q hq e => (by have := (own_tag ox11 q hq).1; omega)
  obtain ⟨w13, e13, ms13, b13⟩ := box_new w12 #[.int .i64 0, .int .i64 0, .int .i64 0, .slice A12 0 c12, .int .i64 0]
  rw [← e13]
  clear e13
  have B13 := B12.trans (b13.mono B12.size)
  have K13 := K12.below b13
  have mq13 := mq12.below b13 mq12.lt
  have mr13 := mr12.below b13 mr12.lt
  have mx13 := mx12.below b13 mx12.lt
  have o13 := owns_below o12 b13
  have ox13 := owns_below ox12 b13
  generalize w12.heap.size = ps at *
  have d14 := rd_any K13 H HH.out I8 a Ha.out x (piece_same Ha.out rfl hxl.out) hxl.out
  go_upto_region 14 with (go_at_call 10; (with_reducible refine d14.mono ?_); rintro e' w14 ⟨A14, c14, rfl, o14, b14⟩)
  clear d14
  obtain ⟨w15, e15, my15, b15⟩ := box_new w14 #[.int .i64 0, .int .i64 0, .int .i64 0, .slice A14 8 c14, .int .i64 0]
  rw [← e15]
  clear e15
  have b1315 := b14.trans (b15.mono b14.size)
  have B15 := B13.trans (b1315.mono B13.size)
  have K15 := K13.below b1315
  have mq15 := mq13.below b1315 mq13.lt
  have mr15 := mr13.below b1315 mr13.lt
  have mx15 := mx13.below b1315 mx13.lt
  have ms15 := ms13.below b1315 ms13.lt
  have o15 := owns_below o13 b1315
  have ox15 := owns_below ox13 b1315
  have oy15 := owns_below o14 b15
  generalize w14.heap.size = py at *
  clear B1 B2 B3 B4 B5 B7 B8 B9 B11 B12 B13 mq7 mq8 mq9 mq11 mq12 mq13 mr9 mr11 mr12 mr13 mx11 mx12 mx13 ms13 o5 o7 o8 o9 o11 o12 o13 o10 ox11 ox12 ox13 o14 mp mp4 mp5 mp7 mp8 mp9 mp11 U2 U3 K4 K5 K7 K8 K9 K11 K12 K13 N4 N5 N7
  obtain ⟨i0, hi0, hz0, hz1, hz2⟩ := info_parts info_u8
  obtain ⟨hcI, -⟩ := rcell_any o15
  have HI : ∀ W, Below w15.heap.size w15 W → ∃ b off, A5 = some ⟨b, off, none⟩ ∧ W.cell? ⟨b, off, none⟩ = some (.int .i64 10499) := fun W hB => by
    obtain ⟨b, off, e, q1, q2⟩ := (Sl.of_own (owns_below o15 hB)).at_ (by decide)
    exact ⟨b, off, e, by simpa using q2 0 _ rfl⟩
  obtain ⟨g5, off5, e5, -⟩ := HI w15 (Below.refl _ _)
  subst e5
  have HJ : ∀ W, Below w15.heap.size w15 W → W.cell? ⟨g5, off5, none⟩ = some (.int .i64 10499) := fun W hB => by
    obtain ⟨b, off, e, q⟩ := HI W hB
    injection e with e
    injection e with e1 e2
    subst e1 e2
    exact q
  clear HI hcI
  have hR : ∀ W : World, (Instr.makeSlice 22 (.int .i64 8) (.int .i64 8)).run Try.prog W = .ok (.slice (some ⟨W.heap.size, 0, none⟩) 8 8) (W.alloc (.cells #[.int .u8 0, .int .u8 0, .int .u8 0, .int .u8 0, .int .u8 0, .int .u8 0, .int .u8 0, .int .u8 0] 5)) := fun W => by
    have e0 : madeCells #[Value.int .u8 0] 8 = #[.int .u8 0, .int .u8 0, .int .u8 0, .int .u8 0, .int .u8 0, .int .u8 0, .int .u8 0, .int .u8 0] := Array.ext' (toList_madeCells_one _ 8)
    have q := run_make_row 22 5 i0 (.int .u8 0) Try.underlying22 hi0 hz0 hz1 rfl .i64 .i64 8 (by rw [hz2]; omega) (by omega) W
    rw [e0] at q
    exact q
  apply calm_region ((.is _) :: (.is _) :: (.is _) :: (.is _) :: (.is _) :: (.is _) :: (.is _) :: (.is _) :: (.is _) :: (.is _) :: (.is _) :: (.is _) :: (.is _) :: (.is _) :: (.is _) :: (.is _) :: (.is _) :: (.is _) :: (.is _) :: (.is _) :: (.is _) :: (.is _) :: (.is _) :: (.is _) :: (.is _) :: (.is _) :: (.is _) :: (.is _) :: (.is _) :: (.is _) :: (.is _) :: (.is _) :: (.is _) :: (.is _) :: (.is _) :: (.is _) :: (.is _) :: (.is _) :: (.is _) :: (.sl 8 (bs (List.replicate 8 0))) :: (.is _) :: (.is _) :: (.is _) :: (.is _) :: (.is _) :: (.is _) :: (.is _) :: (.is _) :: (.is _) :: (.is _) :: (.is _) :: (.is _) :: (.is _) :: (.is _) :: (.is _) :: (.is _) :: (.is _) :: (.is _) :: (.is _) :: (.of (fun v W => ∃ A c, v = .slice A 0 c) (fun v W W' hb h => h)) :: (.is _) :: (.is _) :: (.is _) :: (.is _) :: []) [[], [0], [1], [2], [3], [4, 3], [5, 3], [6, 3], [3, 7], [8, 3], [9], [10, 9], [11, 9], [9, 12], [13, 9], [14], [15, 14], [16, 14], [17, 14], [14, 18], [19, 14], [20], [21, 20], [22, 20], [20, 23], [24, 20], [25], [26, 25], [27, 25], [25, 28], [29, 25], [30], [31, 30], [32, 30], [30, 33], [34, 30], [35], [36, 35], [37, 35], [35], [39, 35], [38, 40, 35], [35, 41], [42, 35], [43], [44, 43], [45, 43], [43, 46], [47, 43], [48], [49, 48], [50, 48], [48], [52, 48], [51, 53, 48], [48, 54], [55, 48], [56], [56], [57, 58, 56, 56], [59, 56], [60, 56], [56, 61], [62, 59, 0, 1, 2, 3, 4, 5, 6, 7, 8, 9, 10, 11, 12, 13, 14, 15, 16, 17, 18, 19, 20, 21, 22, 23, 24, 25, 26, 27, 28, 29, 30, 31, 32, 33, 34, 35, 36, 37, 38, 39, 40, 41, 42, 43, 44, 45, 46, 47, 48, 49, 50, 51, 52, 53, 54, 55, 56, 57, 58, 59, 60, 61, 62]] (by kernel_rfl) (by kernel_rfl) (by kernel_rfl) rfl
  intro f a1 ha1
  simp only [putL, Act.put, List.setIfInBounds_toArray, List.set_cons_succ, List.set_cons_zero] at ha1
  subst ha1
  refine ⟨?_, ?_⟩
  · refine AllCalm.cons (fun W hB hd => ?_) ?_
    · go_wp2_with (fail)
      exact CalmQ.mk rfl _ rfl (Below.refl _ _) rfl
    refine AllCalm.cons (fun W hB hd => ?_) ?_
    · obtain ⟨h0, -⟩ := hd
      have h0 : f 0 = _ := h0
      rw [h0]
      go_wp2_with (fail)
      exact CalmQ.mk rfl _ rfl (Below.refl _ _) rfl
    refine AllCalm.cons (fun W hB hd => ?_) ?_
    · obtain ⟨h1, -⟩ := hd
      have h1 : f 1 = _ := h1
      rw [h1]
      go_wp2_with (fail)
      exact CalmQ.mk rfl _ rfl (Below.refl _ _) rfl
    refine AllCalm.cons (fun W hB hd => ?_) ?_
    · obtain ⟨h2, -⟩ := hd
      have h2 : f 2 = _ := h2
      rw [h2]
      go_wp2_with (fail)
      exact CalmQ.mk rfl _ rfl (Below.refl _ _) rfl
    refine AllCalm.cons (fun W hB hd => ?_) ?_
    · obtain ⟨h3, -⟩ := hd
      have h3 : f 3 = _ := h3
      rw [h3]
      go_wp2_with (fail)
      exact CalmQ.mk rfl _ rfl (Below.refl _ _) rfl
    refine AllCalm.cons (fun W hB hd => ?_) ?_
    · obtain ⟨h4, h3, -⟩ := hd
      have h4 : f 4 = _ := h4
      have h3 : f 3 = _ := h3
      rw [h4, h3]
      go_wp2_with (fail)
      exact CalmQ.mk rfl _ rfl (Below.refl _ _) rfl
    refine AllCalm.cons (fun W hB hd => ?_) ?_
    · obtain ⟨h5, h3, -⟩ := hd
      have h5 : f 5 = _ := h5
      have h3 : f 3 = _ := h3
      rw [h5, h3]
      have q0 := HJ W hB
      go_wp2_with (fail)
      exact CalmQ.mk rfl _ rfl (Below.refl _ _) rfl
    refine AllCalm.cons (fun W hB hd => ?_) ?_
    · obtain ⟨h6, h3, -⟩ := hd
      have h6 : f 6 = _ := h6
      have h3 : f 3 = _ := h3
      rw [h6, h3]
      go_wp2_with (fail)
      exact CalmQ.mk rfl _ rfl (Below.refl _ _) rfl
    refine AllCalm.cons (fun W hB hd => ?_) ?_
    · obtain ⟨h3, h7, -⟩ := hd
      have h3 : f 3 = _ := h3
      have h7 : f 7 = _ := h7
      rw [h3, h7]
      go_wp2_with (fail)
      exact CalmQ.mk rfl _ rfl (Below.refl _ _) rfl
    refine AllCalm.cons (fun W hB hd => ?_) ?_
    · obtain ⟨h8, h3, -⟩ := hd
      have h8 : f 8 = _ := h8
      have h3 : f 3 = _ := h3
      rw [h8, h3]
      go_wp2_with (fail)
      exact CalmQ.mk rfl _ rfl (Below.refl _ _) rfl
    refine AllCalm.cons (fun W hB hd => ?_) ?_
    · obtain ⟨h9, -⟩ := hd
      have h9 : f 9 = _ := h9
      rw [h9]
      go_wp2_with (fail)
      exact CalmQ.mk rfl _ rfl (Below.refl _ _) rfl
    refine AllCalm.cons (fun W hB hd => ?_) ?_
    · obtain ⟨h10, h9, -⟩ := hd
      have h10 : f 10 = _ := h10
      have h9 : f 9 = _ := h9
      rw [h10, h9]
      have q0 := (mq15.below hB mq15.lt).cell 0
      go_wp2_with (fail)
      exact CalmQ.mk rfl _ rfl (Below.refl _ _) rfl
    refine AllCalm.cons (fun W hB hd => ?_) ?_
    · obtain ⟨h11, h9, -⟩ := hd
      have h11 : f 11 = _ := h11
      have h9 : f 9 = _ := h9
      rw [h11, h9]
      go_wp2_with (fail)
      exact CalmQ.mk rfl _ rfl (Below.refl _ _) rfl
    refine AllCalm.cons (fun W hB hd => ?_) ?_
    · obtain ⟨h9, h12, -⟩ := hd
      have h9 : f 9 = _ := h9
      have h12 : f 12 = _ := h12
      rw [h9, h12]
      go_wp2_with (fail)
      exact CalmQ.mk rfl _ rfl (Below.refl _ _) rfl
    refine AllCalm.cons (fun W hB hd => ?_) ?_
    · obtain ⟨h13, h9, -⟩ := hd
      have h13 : f 13 = _ := h13
      have h9 : f 9 = _ := h9
      rw [h13, h9]
      go_wp2_with (fail)
      exact CalmQ.mk rfl _ rfl (Below.refl _ _) rfl
    refine AllCalm.cons (fun W hB hd => ?_) ?_
    · obtain ⟨h14, -⟩ := hd
      have h14 : f 14 = _ := h14
      rw [h14]
      go_wp2_with (fail)
      exact CalmQ.mk rfl _ rfl (Below.refl _ _) rfl
    refine AllCalm.cons (fun W hB hd => ?_) ?_
    · obtain ⟨h15, h14, -⟩ := hd
      have h15 : f 15 = _ := h15
      have h14 : f 14 = _ := h14
      rw [h15, h14]
      have q0 := (mq15.below hB mq15.lt).cell 3
      go_wp2_with (fail)
      exact CalmQ.mk rfl _ rfl (Below.refl _ _) rfl
    refine AllCalm.cons (fun W hB hd => ?_) ?_
    · obtain ⟨h16, h14, -⟩ := hd
      have h16 : f 16 = _ := h16
      have h14 : f 14 = _ := h14
      rw [h16, h14]
      go_wp2_with (fail)
      exact CalmQ.mk rfl _ rfl (Below.refl _ _) rfl
    refine AllCalm.cons (fun W hB hd => ?_) ?_
    · obtain ⟨h17, h14, -⟩ := hd
      have h17 : f 17 = _ := h17
      have h14 : f 14 = _ := h14
      rw [h17, h14]
      go_wp2_with (fail)
      exact CalmQ.mk rfl _ rfl (Below.refl _ _) rfl
    refine AllCalm.cons (fun W hB hd => ?_) ?_
    · obtain ⟨h14, h18, -⟩ := hd
      have h14 : f 14 = _ := h14
      have h18 : f 18 = _ := h18
      rw [h14, h18]
      go_wp2_with (fail)
      exact CalmQ.mk rfl _ rfl (Below.refl _ _) rfl
    refine AllCalm.cons (fun W hB hd => ?_) ?_
    · obtain ⟨h19, h14, -⟩ := hd
      have h19 : f 19 = _ := h19
      have h14 : f 14 = _ := h14
      rw [h19, h14]
      go_wp2_with (fail)
      exact CalmQ.mk rfl _ rfl (Below.refl _ _) rfl
    refine AllCalm.cons (fun W hB hd => ?_) ?_
    · obtain ⟨h20, -⟩ := hd
      have h20 : f 20 = _ := h20
      rw [h20]
      go_wp2_with (fail)
      exact CalmQ.mk rfl _ rfl (Below.refl _ _) rfl
    refine AllCalm.cons (fun W hB hd => ?_) ?_
    · obtain ⟨h21, h20, -⟩ := hd
      have h21 : f 21 = _ := h21
      have h20 : f 20 = _ := h20
      rw [h21, h20]
      have q0 := (mr15.below hB mr15.lt).cell 0
      go_wp2_with (fail)
      exact CalmQ.mk rfl _ rfl (Below.refl _ _) rfl
    refine AllCalm.cons (fun W hB hd => ?_) ?_
    · obtain ⟨h22, h20, -⟩ := hd
      have h22 : f 22 = _ := h22
      have h20 : f 20 = _ := h20
      rw [h22, h20]
      go_wp2_with (fail)
      exact CalmQ.mk rfl _ rfl (Below.refl _ _) rfl
    refine AllCalm.cons (fun W hB hd => ?_) ?_
    · obtain ⟨h20, h23, -⟩ := hd
      have h20 : f 20 = _ := h20
      have h23 : f 23 = _ := h23
      rw [h20, h23]
      go_wp2_with (fail)
      exact CalmQ.mk rfl _ rfl (Below.refl _ _) rfl
    refine AllCalm.cons (fun W hB hd => ?_) ?_
    · obtain ⟨h24, h20, -⟩ := hd
      have h24 : f 24 = _ := h24
      have h20 : f 20 = _ := h20
      rw [h24, h20]
      go_wp2_with (fail)
      exact CalmQ.mk rfl _ rfl (Below.refl _ _) rfl
    refine AllCalm.cons (fun W hB hd => ?_) ?_
    · obtain ⟨h25, -⟩ := hd
      have h25 : f 25 = _ := h25
      rw [h25]
      go_wp2_with (fail)
      exact CalmQ.mk rfl _ rfl (Below.refl _ _) rfl
    refine AllCalm.cons (fun W hB hd => ?_) ?_
    · obtain ⟨h26, h25, -⟩ := hd
      have h26 : f 26 = _ := h26
      have h25 : f 25 = _ := h25
      rw [h26, h25]
      have q0 := (mr15.below hB mr15.lt).cell 1
      go_wp2_with (fail)
      exact CalmQ.mk rfl _ rfl (Below.refl _ _) rfl
    refine AllCalm.cons (fun W hB hd => ?_) ?_
    · obtain ⟨h27, h25, -⟩ := hd
      have h27 : f 27 = _ := h27
      have h25 : f 25 = _ := h25
      rw [h27, h25]
      go_wp2_with (fail)
      exact CalmQ.mk rfl _ rfl (Below.refl _ _) rfl
    refine AllCalm.cons (fun W hB hd => ?_) ?_
    · obtain ⟨h25, h28, -⟩ := hd
      have h25 : f 25 = _ := h25
      have h28 : f 28 = _ := h28
      rw [h25, h28]
      go_wp2_with (fail)
      exact CalmQ.mk rfl _ rfl (Below.refl _ _) rfl
    refine AllCalm.cons (fun W hB hd => ?_) ?_
    · obtain ⟨h29, h25, -⟩ := hd
      have h29 : f 29 = _ := h29
      have h25 : f 25 = _ := h25
      rw [h29, h25]
      go_wp2_with (fail)
      exact CalmQ.mk rfl _ rfl (Below.refl _ _) rfl
    refine AllCalm.cons (fun W hB hd => ?_) ?_
    · obtain ⟨h30, -⟩ := hd
      have h30 : f 30 = _ := h30
      rw [h30]
      go_wp2_with (fail)
      exact CalmQ.mk rfl _ rfl (Below.refl _ _) rfl
    refine AllCalm.cons (fun W hB hd => ?_) ?_
    · obtain ⟨h31, h30, -⟩ := hd
      have h31 : f 31 = _ := h31
      have h30 : f 30 = _ := h30
      rw [h31, h30]
      have q0 := (mr15.below hB mr15.lt).cell 2
      go_wp2_with (fail)
      exact CalmQ.mk rfl _ rfl (Below.refl _ _) rfl
    refine AllCalm.cons (fun W hB hd => ?_) ?_
    · obtain ⟨h32, h30, -⟩ := hd
      have h32 : f 32 = _ := h32
      have h30 : f 30 = _ := h30
      rw [h32, h30]
      go_wp2_with (fail)
      exact CalmQ.mk rfl _ rfl (Below.refl _ _) rfl
    refine AllCalm.cons (fun W hB hd => ?_) ?_
    · obtain ⟨h30, h33, -⟩ := hd
      have h30 : f 30 = _ := h30
      have h33 : f 33 = _ := h33
      rw [h30, h33]
      go_wp2_with (fail)
      exact CalmQ.mk rfl _ rfl (Below.refl _ _) rfl
    refine AllCalm.cons (fun W hB hd => ?_) ?_
    · obtain ⟨h34, h30, -⟩ := hd
      have h34 : f 34 = _ := h34
      have h30 : f 30 = _ := h30
      rw [h34, h30]
      go_wp2_with (fail)
      exact CalmQ.mk rfl _ rfl (Below.refl _ _) rfl
    refine AllCalm.cons (fun W hB hd => ?_) ?_
    · obtain ⟨h35, -⟩ := hd
      have h35 : f 35 = _ := h35
      rw [h35]
      go_wp2_with (fail)
      exact CalmQ.mk rfl _ rfl (Below.refl _ _) rfl
    refine AllCalm.cons (fun W hB hd => ?_) ?_
    · obtain ⟨h36, h35, -⟩ := hd
      have h36 : f 36 = _ := h36
      have h35 : f 35 = _ := h35
      rw [h36, h35]
      have q0 := (mx15.below hB mx15.lt).cell 3
      go_wp2_with (fail)
      exact CalmQ.mk rfl _ rfl (Below.refl _ _) rfl
    refine AllCalm.cons (fun W hB hd => ?_) ?_
    · obtain ⟨h37, h35, -⟩ := hd
      have h37 : f 37 = _ := h37
      have h35 : f 35 = _ := h35
      rw [h37, h35]
      have q0 : (convert 22 9 (.slice A10 8 c10)).run Try.prog W = .ok (.string ⟨#[0, 0, 0, 0, 0, 0, 0, 0]⟩) W := ustr (l := List.replicate 8 0) (Sl.of_own (owns_below ox15 hB))
      go_wp2_with (fail)
      exact CalmQ.mk rfl _ rfl (Below.refl _ _) rfl
    refine AllCalm.cons (fun W hB hd => ?_) ?_
    · obtain ⟨h35, -⟩ := hd
      have h35 : f 35 = _ := h35
      rw [h35]
      have q0 := hR W
      go_wp2_with (fail)
      exact CalmQ.mk rfl _ rfl ((Below.refl _ W).alloc (Nat.le_refl _) _) (Sl.fresh (n := 8) W #[.int .u8 0, .int .u8 0, .int .u8 0, .int .u8 0, .int .u8 0, .int .u8 0, .int .u8 0, .int .u8 0] _ rfl (by decide))
    refine AllCalm.cons (fun W hB hd => ?_) ?_
    · obtain ⟨h39, h35, -⟩ := hd
      have h39 : Sl W W.heap.size (f 39) _ _ := h39
      have h35 : f 35 = _ := h35
      rw [h35]
      have q0 := ustr (l := List.replicate 8 0) h39
      go_wp2_with (fail)
      exact CalmQ.mk rfl _ rfl (Below.refl _ _) rfl
    refine AllCalm.cons (fun W hB hd => ?_) ?_
    · obtain ⟨h38, h40, h35, -⟩ := hd
      have h38 : f 38 = _ := h38
      have h40 : f 40 = _ := h40
      have h35 : f 35 = _ := h35
      rw [h38, h40, h35]
      go_wp2_with (fail)
      exact CalmQ.mk rfl _ rfl (Below.refl _ _) rfl
    refine AllCalm.cons (fun W hB hd => ?_) ?_
    · obtain ⟨h35, h41, -⟩ := hd
      have h35 : f 35 = _ := h35
      have h41 : f 41 = _ := h41
      rw [h35, h41]
      go_wp2_with (fail)
      exact CalmQ.mk rfl _ rfl (Below.refl _ _) rfl
    refine AllCalm.cons (fun W hB hd => ?_) ?_
    · obtain ⟨h42, h35, -⟩ := hd
      have h42 : f 42 = _ := h42
      have h35 : f 35 = _ := h35
      rw [h42, h35]
      go_wp2_with (fail)
      exact CalmQ.mk rfl _ rfl (Below.refl _ _) rfl
    refine AllCalm.cons (fun W hB hd => ?_) ?_
    · obtain ⟨h43, -⟩ := hd
      have h43 : f 43 = _ := h43
      rw [h43]
      go_wp2_with (fail)
      exact CalmQ.mk rfl _ rfl (Below.refl _ _) rfl
    refine AllCalm.cons (fun W hB hd => ?_) ?_
    · obtain ⟨h44, h43, -⟩ := hd
      have h44 : f 44 = _ := h44
      have h43 : f 43 = _ := h43
      rw [h44, h43]
      have q0 := (ms15.below hB ms15.lt).cell 0
      go_wp2_with (fail)
      exact CalmQ.mk rfl _ rfl (Below.refl _ _) rfl
    refine AllCalm.cons (fun W hB hd => ?_) ?_
    · obtain ⟨h45, h43, -⟩ := hd
      have h45 : f 45 = _ := h45
      have h43 : f 43 = _ := h43
      rw [h45, h43]
      go_wp2_with (fail)
      exact CalmQ.mk rfl _ rfl (Below.refl _ _) rfl
    refine AllCalm.cons (fun W hB hd => ?_) ?_
    · obtain ⟨h43, h46, -⟩ := hd
      have h43 : f 43 = _ := h43
      have h46 : f 46 = _ := h46
      rw [h43, h46]
      go_wp2_with (fail)
      exact CalmQ.mk rfl _ rfl (Below.refl _ _) rfl
    refine AllCalm.cons (fun W hB hd => ?_) ?_
    · obtain ⟨h47, h43, -⟩ := hd
      have h47 : f 47 = _ := h47
      have h43 : f 43 = _ := h43
      rw [h47, h43]
      go_wp2_with (fail)
      exact CalmQ.mk rfl _ rfl (Below.refl _ _) rfl
    refine AllCalm.cons (fun W hB hd => ?_) ?_
    · obtain ⟨h48, -⟩ := hd
      have h48 : f 48 = _ := h48
      rw [h48]
      go_wp2_with (fail)
      exact CalmQ.mk rfl _ rfl (Below.refl _ _) rfl
    refine AllCalm.cons (fun W hB hd => ?_) ?_
    · obtain ⟨h49, h48, -⟩ := hd
      have h49 : f 49 = _ := h49
      have h48 : f 48 = _ := h48
      rw [h49, h48]
      have q0 := (my15.below hB my15.lt).cell 3
      go_wp2_with (fail)
      exact CalmQ.mk rfl _ rfl (Below.refl _ _) rfl
    refine AllCalm.cons (fun W hB hd => ?_) ?_
    · obtain ⟨h50, h48, -⟩ := hd
      have h50 : f 50 = _ := h50
      have h48 : f 48 = _ := h48
      rw [h50, h48]
      have q0 : (convert 22 9 (.slice A14 8 c14)).run Try.prog W = .ok (.string ⟨x.toArray⟩) W := ustr (l := x) (Sl.of_own (owns_below oy15 hB))
      go_wp2_with (fail)
      exact CalmQ.mk rfl _ rfl (Below.refl _ _) rfl
    refine AllCalm.cons (fun W hB hd => ?_) ?_
    · obtain ⟨h48, -⟩ := hd
      have h48 : f 48 = _ := h48
      rw [h48]
      go_wp2_with (fail)
      exact CalmQ.mk rfl _ rfl (Below.refl _ _) rfl
    refine AllCalm.cons (fun W hB hd => ?_) ?_
    · obtain ⟨h52, h48, -⟩ := hd
      have h52 : f 52 = _ := h52
      have h48 : f 48 = _ := h48
      rw [h52, h48]
      have q0 : (convert 22 9 (.slice A1 8 c1)).run Try.prog W = .ok (.string ⟨x.toArray⟩) W := ustr (l := x) (hsx W (B15.trans (hB.mono B15.size)))
      go_wp2_with (fail)
      exact CalmQ.mk rfl _ rfl (Below.refl _ _) rfl
    refine AllCalm.cons (fun W hB hd => ?_) ?_
    · obtain ⟨h51, h53, h48, -⟩ := hd
      have h51 : f 51 = _ := h51
      have h53 : f 53 = _ := h53
      have h48 : f 48 = _ := h48
      rw [h51, h53, h48]
      go_wp2_with (fail)
      exact CalmQ.mk rfl _ rfl (Below.refl _ _) rfl
    refine AllCalm.cons (fun W hB hd => ?_) ?_
    · obtain ⟨h48, h54, -⟩ := hd
      have h48 : f 48 = _ := h48
      have h54 : f 54 = _ := h54
      rw [h48, h54]
      go_wp2_with (fail)
      exact CalmQ.mk rfl _ rfl (Below.refl _ _) rfl
    refine AllCalm.cons (fun W hB hd => ?_) ?_
    · obtain ⟨h55, h48, -⟩ := hd
      have h55 : f 55 = _ := h55
      have h48 : f 48 = _ := h48
      rw [h55, h48]
      go_wp2_with (fail)
      exact CalmQ.mk rfl _ rfl (Below.refl _ _) rfl
    refine AllCalm.cons (fun W hB hd => ?_) ?_
    · obtain ⟨h56, -⟩ := hd
      have h56 : f 56 = _ := h56
      rw [h56]
      go_wp2_with (fail)
      exact CalmQ.mk rfl _ rfl (Below.refl _ _) rfl
    refine AllCalm.cons (fun W hB hd => ?_) ?_
    · obtain ⟨h56, -⟩ := hd
      have h56 : f 56 = _ := h56
      rw [h56]
      go_wp2_with (fail)
      exact CalmQ.mk rfl _ rfl (Below.refl _ _) rfl
    refine AllCalm.cons (fun W hB hd => ?_) ?_
    · obtain ⟨h57, h58, h56, -, -⟩ := hd
      have h57 : f 57 = _ := h57
      have h58 : f 58 = _ := h58
      have h56 : f 56 = _ := h56
      rw [h57, h58, h56]
      have cW := pnd_none (K15.below hB) H HH.out I8 (hE W)
      go_wp2_with ((go_at_call 13; (with_reducible refine cW.mono ?_); rintro e' w9 ⟨A9, c9, rfl, b9⟩))
      exact CalmQ.mk rfl _ rfl b9 ⟨A9, c9, rfl⟩
    refine AllCalm.cons (fun W hB hd => ?_) ?_
    · obtain ⟨h59, h56, -⟩ := hd
      have h56 : f 56 = _ := h56
      rw [h56]
      obtain ⟨A9, c9, e9⟩ : ∃ A c, f 59 = .slice A 0 c := h59; rw [e9]
      go_wp2_with (fail)
      exact CalmQ.mk rfl _ rfl (Below.refl _ _) rfl
    refine AllCalm.cons (fun W hB hd => ?_) ?_
    · obtain ⟨h60, h56, -⟩ := hd
      have h60 : f 60 = _ := h60
      have h56 : f 56 = _ := h56
      rw [h60, h56]
      go_wp2_with (fail)
      exact CalmQ.mk rfl _ rfl (Below.refl _ _) rfl
    refine AllCalm.cons (fun W hB hd => ?_) ?_
    · obtain ⟨h56, h61, -⟩ := hd
      have h56 : f 56 = _ := h56
      have h61 : f 61 = _ := h61
      rw [h56, h61]
      go_wp2_with (fail)
      exact CalmQ.mk rfl _ rfl (Below.refl _ _) rfl
    refine AllCalm.cons (fun W hB hd => ?_) ?_
    · obtain ⟨h62, h59, h0, h1, h2, h3, h4, h5, h6, h7, h8, h9, h10, h11, h12, h13, h14, h15, h16, h17, h18, h19, h20, h21, h22, h23, h24, h25, h26, h27, h28, h29, h30, h31, h32, h33, h34, h35, h36, h37, h38, h39, h40, h41, h42, h43, h44, h45, h46, h47, h48, h49, h50, h51, h52, h53, h54, h55, h56, h57, h58, -, h60, h61, -, -⟩ := hd
      have h62 : f 62 = _ := h62
      have h0 : f 0 = _ := h0
      have h1 : f 1 = _ := h1
      have h2 : f 2 = _ := h2
      have h3 : f 3 = _ := h3
      have h4 : f 4 = _ := h4
      have h5 : f 5 = _ := h5
      have h6 : f 6 = _ := h6
      have h7 : f 7 = _ := h7
      have h8 : f 8 = _ := h8
      have h9 : f 9 = _ := h9
      have h10 : f 10 = _ := h10
      have h11 : f 11 = _ := h11
      have h12 : f 12 = _ := h12
      have h13 : f 13 = _ := h13
      have h14 : f 14 = _ := h14
      have h15 : f 15 = _ := h15
      have h16 : f 16 = _ := h16
      have h17 : f 17 = _ := h17
      have h18 : f 18 = _ := h18
      have h19 : f 19 = _ := h19
      have h20 : f 20 = _ := h20
      have h21 : f 21 = _ := h21
      have h22 : f 22 = _ := h22
      have h23 : f 23 = _ := h23
      have h24 : f 24 = _ := h24
      have h25 : f 25 = _ := h25
      have h26 : f 26 = _ := h26
      have h27 : f 27 = _ := h27
      have h28 : f 28 = _ := h28
      have h29 : f 29 = _ := h29
      have h30 : f 30 = _ := h30
      have h31 : f 31 = _ := h31
      have h32 : f 32 = _ := h32
      have h33 : f 33 = _ := h33
      have h34 : f 34 = _ := h34
      have h35 : f 35 = _ := h35
      have h36 : f 36 = _ := h36
      have h37 : f 37 = _ := h37
      have h38 : f 38 = _ := h38
      have h39 : Sl W W.heap.size (f 39) _ _ := h39
      have h40 : f 40 = _ := h40
      have h41 : f 41 = _ := h41
      have h42 : f 42 = _ := h42
      have h43 : f 43 = _ := h43
      have h44 : f 44 = _ := h44
      have h45 : f 45 = _ := h45
      have h46 : f 46 = _ := h46
      have h47 : f 47 = _ := h47
      have h48 : f 48 = _ := h48
      have h49 : f 49 = _ := h49
      have h50 : f 50 = _ := h50
      have h51 : f 51 = _ := h51
      have h52 : f 52 = _ := h52
      have h53 : f 53 = _ := h53
      have h54 : f 54 = _ := h54
      have h55 : f 55 = _ := h55
      have h56 : f 56 = _ := h56
      have h57 : f 57 = _ := h57
      have h58 : f 58 = _ := h58
      have h60 : f 60 = _ := h60
      have h61 : f 61 = _ := h61
      rw [h62, h0, h1, h2, h3, h4, h5, h6, h7, h8, h9, h10, h11, h12, h13, h14, h15, h16, h17, h18, h19, h20, h21, h22, h23, h24, h25, h26, h27, h28, h29, h30, h31, h32, h33, h34, h35, h36, h37, h38, h40, h41, h42, h43, h44, h45, h46, h47, h48, h49, h50, h51, h52, h53, h54, h55, h56, h57, h58, h60, h61]
      go_wp2_with (fail)
      exact CalmQ.mk rfl _ rfl (Below.refl _ _) rfl
    exact AllCalm.nil
  · intro W hB hT
    obtain ⟨h0, h1, h2, h3, h4, h5, h6, h7, h8, h9, h10, h11, h12, h13, h14, h15, h16, h17, h18, h19, h20, h21, h22, h23, h24, h25, h26, h27, h28, h29, h30, h31, h32, h33, h34, h35, h36, h37, h38, h39, h40, h41, h42, h43, h44, h45, h46, h47, h48, h49, h50, h51, h52, h53, h54, h55, h56, h57, h58, h59, h60, h61, h62, h63, -⟩ := hT
    have h0 : f 0 = _ := h0
    have h1 : f 1 = _ := h1
    have h2 : f 2 = _ := h2
    have h3 : f 3 = _ := h3
    have h4 : f 4 = _ := h4
    have h5 : f 5 = _ := h5
    have h6 : f 6 = _ := h6
    have h7 : f 7 = _ := h7
    have h8 : f 8 = _ := h8
    have h9 : f 9 = _ := h9
    have h10 : f 10 = _ := h10
    have h11 : f 11 = _ := h11
    have h12 : f 12 = _ := h12
    have h13 : f 13 = _ := h13
    have h14 : f 14 = _ := h14
    have h15 : f 15 = _ := h15
    have h16 : f 16 = _ := h16
    have h17 : f 17 = _ := h17
    have h18 : f 18 = _ := h18
    have h19 : f 19 = _ := h19
    have h20 : f 20 = _ := h20
    have h21 : f 21 = _ := h21
    have h22 : f 22 = _ := h22
    have h23 : f 23 = _ := h23
    have h24 : f 24 = _ := h24
    have h25 : f 25 = _ := h25
    have h26 : f 26 = _ := h26
    have h27 : f 27 = _ := h27
    have h28 : f 28 = _ := h28
    have h29 : f 29 = _ := h29
    have h30 : f 30 = _ := h30
    have h31 : f 31 = _ := h31
    have h32 : f 32 = _ := h32
    have h33 : f 33 = _ := h33
    have h34 : f 34 = _ := h34
    have h35 : f 35 = _ := h35
    have h36 : f 36 = _ := h36
    have h37 : f 37 = _ := h37
    have h38 : f 38 = _ := h38
    have h39 : Sl W W.heap.size (f 39) _ _ := h39
    have h40 : f 40 = _ := h40
    have h41 : f 41 = _ := h41
    have h42 : f 42 = _ := h42
    have h43 : f 43 = _ := h43
    have h44 : f 44 = _ := h44
    have h45 : f 45 = _ := h45
    have h46 : f 46 = _ := h46
    have h47 : f 47 = _ := h47
    have h48 : f 48 = _ := h48
    have h49 : f 49 = _ := h49
    have h50 : f 50 = _ := h50
    have h51 : f 51 = _ := h51
    have h52 : f 52 = _ := h52
    have h53 : f 53 = _ := h53
    have h54 : f 54 = _ := h54
    have h55 : f 55 = _ := h55
    have h56 : f 56 = _ := h56
    have h57 : f 57 = _ := h57
    have h58 : f 58 = _ := h58
    have h60 : f 60 = _ := h60
    have h61 : f 61 = _ := h61
    have h62 : f 62 = _ := h62
    have h63 : f 63 = _ := h63
    rw [h0, h1, h2, h3, h4, h5, h6, h7, h8, h9, h10, h11, h12, h13, h14, h15, h16, h17, h18, h19, h20, h21, h22, h23, h24, h25, h26, h27, h28, h29, h30, h31, h32, h33, h34, h35, h36, h37, h38, h40, h41, h42, h43, h44, h45, h46, h47, h48, h49, h50, h51, h52, h53, h54, h55, h56, h57, h58, h60, h61, h62, h63]
    clear h0 h1 h2 h3 h4 h5 h6 h7 h8 h9 h10 h11 h12 h13 h14 h15 h16 h17 h18 h19 h20 h21 h22 h23 h24 h25 h26 h27 h28 h29 h30 h31 h32 h33 h34 h35 h36 h37 h38 h40 h41 h42 h43 h44 h45 h46 h47 h48 h49 h50 h51 h52 h53 h54 h55 h56 h57 h58 h60 h61 h62 h63
    go_wp2
    go_ret
    exact ⟨rfl, B15.trans (hB.mono B15.size)⟩
theorem walk (host by_ : Int) (v1 : Value) (x : List UInt8) (a : Int) (w : World) (_ : -9223372036854775808 ≤ host) (_ : host ≤ 9223372036854775807) (_ : -9223372036854775808 ≤ by_) (_ : by_ ≤ 9223372036854775807) (h1 : Sl w w.heap.size v1 x.length (bs x)) (_ : -9223372036854775808 ≤ a) (_ : a ≤ 9223372036854775807) :
    Calls Try.prog 4 #[.int .i64 host, .int .i64 by_, v1, .int .i64 a] w fun e w' => e = .returned (.bool true) ∧ Below w.heap.size w w' := by
  by_cases ho : host < 0 ∨ 7 < host ∨ by_ < 0 ∨ 7 < by_ ∨ ¬ (x.length : Int) = 8 ∨ a < 0 ∨ 3 < a
  · exact walk_out host by_ v1 x a w h1 ho
  · obtain ⟨i, rfl⟩ : ∃ i : Nat, host = i := ⟨host.toNat, by omega⟩
    obtain ⟨j, rfl⟩ : ∃ j : Nat, by_ = j := ⟨by_.toNat, by omega⟩
    obtain ⟨k, rfl⟩ : ∃ k : Nat, a = k := ⟨a.toNat, by omega⟩
    exact walk_in i j k v1 x w h1 (by omega) (by omega) (by omega) (by omega)
set_option maxRecDepth 100000 in
theorem lifted (os : Os) (started : os.Started) (H : Type) (enc : TypeId × Value → H) :
    ReturnsInHanded {} Try.checked os 4 .any (Rows.unitAttendsSpec.pre6 enc Try.prog Try.f4 Rows.unitAttendsRow.domain false) (Rows.unitAttendsSpec.post enc Try.prog Try.f4 false true false false) := by
  refine returnsInHanded_of_change (C := Try.checked) own started (by kernel_rfl) Try.func4
    (ChangeSpec.witness6 (enc := enc) (C := Try.checked) false ⟨#[], #[.int .i64 0, .int .i64 0, .slice none 0 0, .int .i64 0], []⟩ 8 (by kernel_rfl) (by kernel_rfl) (by kernel_rfl) (by kernel_rfl)) ?_
  intro W base args ds gs before hval0 hW hcnd _
  have hval : ∀ (j : Nat) t v, Try.f4.params[j]? = some t → args[j]? = some v → Value.okWide Try.prog W .any base t v := hval0
  have hW' := hW
  obtain ⟨p, q, hA0, hV, rfl, hfz, hnd⟩ := hW
  have hA : DataW.TrodAll enc Try.prog W 0 (fun _ => true) true Try.f4.params.toList args.toList ds p := hA0
  rw [Try.params4] at hA hval
  obtain ⟨v0, vs0, d0, ds0, p0, q0, hargs, rfl, rfl, h0, r0⟩ := trodAll_cons hA
  obtain ⟨v1, vs1, d1, ds1, p1, q1, rfl, rfl, rfl, h1, r1⟩ := trodAll_cons r0
  obtain ⟨v2, vs2, d2, ds2, p2, q2, rfl, rfl, rfl, h2, r2⟩ := trodAll_cons r1
  obtain ⟨v3, vs3, d3, ds3, p3, q3, rfl, rfl, rfl, h3, r3⟩ := trodAll_cons r2
  obtain ⟨rfl, rfl, rfl⟩ := trodAll_nil r3
  obtain rfl : args = #[v0, v1, v2, v3] := by cases args; simp_all
  obtain ⟨rfl, rfl⟩ := trodVars_none hV
  obtain ⟨a0, rfl, _, _, w0⟩ := open_int Try.underlying3 (hval 0 3 v0 rfl rfl) h0
  have b0 := bounds_i64 w0
  obtain ⟨a1, rfl, _, _, w1⟩ := open_int Try.underlying3 (hval 1 3 v1 rfl rfl) h1
  have b1 := bounds_i64 w1
  obtain ⟨l2, s2, e2⟩ := open_bytes Try.underlying22 Try.underlying5 (by kernel_rfl) (hval 2 22 v2 rfl rfl) h2
  obtain ⟨a3, rfl, _, _, w3⟩ := open_int Try.underlying3 (hval 3 3 v3 rfl rfl) h3
  have b3 := bounds_i64 w3
  refine (walk a0 a1 v2 l2 a3 W b0.1 b0.2 b1.1 b1.2 s2 b3.1 b3.2).mono fun e W' ⟨he, hb⟩ => ?_
  subst he
  exact ⟨_, rfl, law_post laidOut (by kernel_rfl) rfl (by kernel_rfl) Try.underlying4 rfl rfl rfl hW' hb⟩

theorem proved : Rows.UnitAttendsSaid :=
  OpenClaim.holds_of_wide 4 Try.f4 rfl rfl rfl rfl rfl rfl rfl ⟨rfl, rfl, rfl, rfl, rfl⟩ rfl rfl rfl rfl rfl (by kernel_rfl) Try.func4 (by kernel_rfl)
    (of_decide_eq_true (by kernel_rfl)) (by unfold Func.isWrapper; first | (rw [if_pos (by decide +kernel)]; kernel_rfl) | (rw [if_neg (by decide +kernel)]; exact ⟨rfl, rfl⟩))
    (fun os started H enc _ => lifted os started H enc)
end Un
end Go.Proofs.Ytpkebbibafldkaa
