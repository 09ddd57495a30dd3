/- gemellaw17: Few; what Do of a command of blocks tells and makes of sixteen blocks, whatever the command. Written by tools/gen-unr.py. -/
import Derived.Test.YtpkebbibafldkaaActU
import Derived.Deep.MidRow
namespace Go.Proofs.Ytpkebbibafldkaa
open Go.ChangeShapes Go.WideShapes Go.ChangeAt Go.RowKit Go.Lib
set_option linter.unusedVariables false
set_option linter.unusedSimpArgs false
set_option maxRecDepth 100000
namespace Un
open Rv
def fewA (acs : List ActU) : Prop := acs.length ≤ 60 ∧ ∀ a ∈ acs, a.datal.length ≤ 600
theorem acts_more {w : World} {B B' : Nat} {v : Value} {acs : List ActU} (h : Acts w B v acs) (hb : B ≤ B') : Acts w B' v acs := by
  obtain ⟨A, c, e, h1, h2, h3, h4⟩ := h
  refine ⟨A, c, e, h1, h2, fun a ha => ?_, fun hx => ?_⟩
  · obtain ⟨q0, q1, q2, q3, q4, q5, q6, q7, q8, q9, qa, qb, qc⟩ := h3 a ha
    exact ⟨q0, q1, q2, q3, q4.more hb, q5, q6, q7, q8, q9, qa, qb, qc⟩
  · obtain ⟨b, off, ea, hlt, hc⟩ := h4 hx
    exact ⟨b, off, ea, Nat.lt_of_lt_of_le hlt hb, hc⟩
set_option maxHeartbeats 2000000 in
theorem few_any (v : Value) (acs : List ActU) (w : World) (hv : Acts w w.heap.size v acs) : Calls Try.prog 8 #[v] w fun e w' => ∃ b : Bool, e = .returned (.bool b) ∧ (b = true ↔ fewA acs) ∧ w = w' := by
  obtain ⟨A, c, rfl, hc1, hc2⟩ := hv.form
  unfold maxLen at hc2
  by_cases h60 : acs.length ≤ 60
  · have h60x : (acs.length : Int) ≤ 60 := by omega
    go_enter Try.func8, Try.ntmps8
    go_wp2
    go_loopw [3] (fun i wr => ∃ k : Nat, k ≤ acs.length ∧ i = .int .i64 k ∧ (∀ j (h : j < acs.length), j < k → acs[j].datal.length ≤ 600) ∧ w = wr) (fun i _ => acs.length - (intOf i).toNat)
    case atStart => exact ⟨0, Nat.zero_le _, rfl, fun j _ h => by omega, rfl⟩
    case round =>
      obtain ⟨k, hk, rfl, hno, rfl⟩ := hrel
      by_cases hlt : k < acs.length
      · have hltx : (k : Int) < (acs.length : Int) := by omega
        obtain ⟨b, off, rfl, hb, x0, x1, x2, x3, x4, x5, x6, x7, x8, x9, x10, x11, x12⟩ := hv.at_ hlt
        have hok := (hv.ok _ (List.getElem_mem hlt)).data
        obtain ⟨Ad, cd, hd, _, _⟩ := hok.form
        rw [hd] at x4
        by_cases hf : acs[k].datal.length ≤ 600
        · have hn := Lib.hid (show ∀ j (h : j < acs.length), j < k + 1 → acs[j].datal.length ≤ 600 from fun j hj hjk => by
            rcases Nat.lt_or_ge j k with h | h
            · exact hno j hj h
            · obtain rfl : j = k := by omega
              exact hf)
          have hfx : (acs[k].datal.length : Int) ≤ 600 := by omega
          clear hno hok hd hf
          generalize acs[k].datal.length = m at *
          go_wp2
          exact ⟨⟨k + 1, by omega, by go_num, fun j hj h => hn.out j hj h, trivial⟩, by simp [intOf]; omega⟩
        · have hfx : 600 < (acs[k].datal.length : Int) := by omega
          have hN := Lib.hid (show ¬ fewA acs from fun h => hf (h.2 _ (List.getElem_mem hlt)))
          clear hno hok hd hf
          generalize acs[k].datal.length = m at *
          go_wp2
          go_ret
          exact ⟨false, rfl, ⟨fun h => (by cases h), fun h => absurd h hN.out⟩, rfl⟩
      · obtain rfl : k = acs.length := by omega
        have hn := Lib.hid hno
        have H60 := Lib.hid h60
        clear hno h60
        go_wp2
        go_ret
        exact ⟨true, rfl, ⟨fun _ => ⟨H60.out, fun a ha => by
          obtain ⟨i, hi, rfl⟩ := List.getElem_of_mem ha
          exact hn.out i hi hi⟩, fun _ => rfl⟩, rfl⟩
  · have h60x : 60 < (acs.length : Int) := by omega
    have hN := Lib.hid (show ¬ fewA acs from fun h => h60 h.1)
    clear h60
    go_enter Try.func8, Try.ntmps8
    go_wp2
    go_ret
    exact ⟨false, rfl, ⟨fun h => (by cases h), fun h => absurd h hN.out⟩, rfl⟩
theorem UnM.eff {w w' : World} {B Z X g h Y N : Nat} {D M : List UInt8} {t : RT} {hs : List Value} {S : Nat → Prop} (hu : UnM w B Z X g h Y N D M t hs) (he : Eff S w w') (hZ : ¬ S Z) (hX : ¬ S X) (hY : ¬ S Y) (hg : ¬ S g) (hh : ¬ S h) : UnM w' B Z X g h Y N D M t hs := ⟨hu.mem.eff he hZ, hu.len, SpInv.eff hu.sp he hX hg hh, ⟨hu.tab.mem.eff he hY, hu.tab.len⟩, hu.bZ, hu.bY⟩
/-- A unit of sixteen blocks whose own blocks lie in lo .. hi; nobody waits. -/
structure KR (lo hi : Nat) (W : World) (Z X g h Y : Nat) (D : List UInt8) : Prop where
  un : ∃ M, UnM W lo Z X g h Y 16 D M RT.zero hs0
  le : hi ≤ W.heap.size
  lZ : Z < hi
  lX : X < hi
  lY : Y < hi
  lg : g < hi
  lh : h < hi
  len : D.length = 128
/-- What a command of blocks tells of sixteen blocks D, and makes of them. -/
def Out (D : List UInt8) (kd a n : Int) (l : List UInt8) (s ky c : Int) (r D' : List UInt8) : Prop :=
  (inB 16 a n = false ∧ s = 2 ∧ c = 8448 ∧ r = [] ∧ D' = D) ∨ ∃ a' n' : Nat, a = a' ∧ n = n' ∧ n' ≤ 16 ∧ a' ≤ 16 ∧ a' + n' ≤ 16 ∧
    ((kd = 2 ∧ s = 0 ∧ r = piece D a' n' ∧ D' = D)
    ∨ (kd = 3 ∧ l.length = n' * 8 ∧ s = 0 ∧ r = [] ∧ D' = laid D a' l)
    ∨ (kd = 3 ∧ l.length ≠ n' * 8 ∧ s = 2 ∧ r = [] ∧ D' = D)
    ∨ (kd = 4 ∧ s = 0 ∧ r = [] ∧ D' = D)
    ∨ (kd = 5 ∧ s = 0 ∧ r = [] ∧ D' = laid D a' (List.replicate (n' * 8) 0))
    ∨ (kd = 6 ∧ l.length ≠ n' * 16 ∧ s = 2 ∧ r = [] ∧ D' = D)
    ∨ (kd = 6 ∧ l.length = n' * 16 ∧ piece D a' n' = l.take (n' * 8) ∧ s = 0 ∧ r = [] ∧ D' = laid D a' (l.drop (n' * 8)))
    ∨ (kd = 6 ∧ l.length = n' * 16 ∧ piece D a' n' ≠ l.take (n' * 8) ∧ s = 2 ∧ ky = 14 ∧ r = [] ∧ D' = D))
section
variable {lo hi : Nat} {w W W' : World} {Z X g h Y : Nat} {D D' : List UInt8}
theorem KR.below (k : KR lo hi W Z X g h Y D) (hb : Below W.heap.size W W') : KR lo hi W' Z X g h Y D := by
  obtain ⟨M, u⟩ := k.un
  exact ⟨⟨M, u.below hb⟩, Nat.le_trans k.le hb.size, k.lZ, k.lX, k.lY, k.lg, k.lh, k.len⟩
theorem KR.off {S : Nat → Prop} (k : KR lo hi W Z X g h Y D) (he : Eff S W W') (hd : ∀ q, q < hi → ¬ S q) : KR lo hi W' Z X g h Y D := by
  obtain ⟨M, u⟩ := k.un
  exact ⟨⟨M, u.eff he (hd _ k.lZ) (hd _ k.lX) (hd _ k.lY) (hd _ k.lg) (hd _ k.lh)⟩, Nat.le_trans k.le he.size, k.lZ, k.lX, k.lY, k.lg, k.lh, k.len⟩
theorem new16 (W : World) : Calls Try.prog 12 #[.int .i64 16] W fun e w' => ∃ Z X g h Y, e = .returned (.tuple #[.pointer (some ⟨Z, 0, none⟩), .int .i64 0]) ∧ KR W.heap.size w'.heap.size w' Z X g h Y (List.replicate 128 0) ∧ Below W.heap.size W w' := (unew_any 16 (by decide) (by decide) W).mono fun e w' ⟨Z, X, g, h, Y, a1, a2, a3⟩ => ⟨Z, X, g, h, Y, a1, ⟨⟨_, a2⟩, Nat.le_refl _, a2.mem.lt, a2.sp.mem.lt, a2.tab.mem.lt, a2.sp.data.lt, a2.sp.map.lt, rfl⟩, a3⟩
/-- What Do tells: a reply in rows of its own, and the unit as it is then. -/
def Said (lo hi : Nat) (Z X g h Y : Nat) (b0 : Nat) (D : List UInt8) (kd a n : Int) (l : List UInt8) (v : Value) (w' : World) : Prop := ∃ (s ky c i : Int) (A : Option Addr) (cp : Nat) (r D' : List UInt8), v = .agg #[.int .i64 s, .int .i64 ky, .int .i64 c, .slice A r.length cp, .int .i64 i] ∧ Out D kd a n l s ky c r D' ∧ w'.ownsRow b0 5 1 (.slice A r.length cp) r.length (bs r) ∧ KR lo hi w' Z X g h Y D'
theorem Said.below {b0 : Nat} {kd a n : Int} {l : List UInt8} {v : Value} (s : Said lo hi Z X g h Y b0 D kd a n l v W) (hb : Below W.heap.size W W') : Said lo hi Z X g h Y b0 D kd a n l v W' := by
  obtain ⟨s, ky, c, i, A, cp, r, D', h1, h2, h3, h4⟩ := s
  exact ⟨s, ky, c, i, A, cp, r, D', h1, h2, owns_below h3 hb, h4.below hb⟩
theorem said2 (k : KR lo hi W Z X g h Y D) (H : Nat) (hH : H < 8) (a n : Int) (v : Value) (l : List UInt8) (ck cn ct : Int) (cf : Bool) {s ky c i : Int} {r : List UInt8} (ho : Out D 2 a n l s ky c r D') (hl : D'.length = 128) (hon : ∀ M, UnM W lo Z X g h Y 16 D M RT.zero hs0 → ∃ QM, OnB W lo Z X g h Y 16 RT.zero hs0 (cmd 2 a n v ck cn ct cf) s ky c i r D' QM) : Calls Try.prog 10 #[.pointer (some ⟨Z, 0, none⟩), .int .i64 (H : Nat), .agg #[.int .i64 2, .int .i64 a, .int .i64 n, v, .int .u64 ck, .int .u64 cn, .int .i64 ct, .bool cf]] W fun e w' => ∃ u, e = .returned u ∧ Said lo hi Z X g h Y W.heap.size D 2 a n l u w' ∧ Eff (fun q => lo ≤ q ∧ q < hi) W w' := by
  obtain ⟨M, u⟩ := k.un
  obtain ⟨QM, hQ⟩ := hon M u
  refine (do_blk2 u H hH (hs0_at H hH) rfl a n v ck cn ct cf hQ).mono ?_
  rintro e w' ⟨v, M', rfl, ⟨A, cp, rfl, o⟩, hM, u', E⟩
  have E' : Eff (fun q => lo ≤ q ∧ q < hi) W w' := E.mono fun q _ hq => hq.elim (fun e => e ▸ ⟨u.sp.bg, k.lg⟩) (fun e => e ▸ ⟨u.sp.bh, k.lh⟩)
  exact ⟨_, rfl, ⟨s, ky, c, i, A, cp, r, D', rfl, ho, o, ⟨⟨M', u'⟩, Nat.le_trans k.le E.size, k.lZ, k.lX, k.lY, k.lg, k.lh, hl⟩⟩, E'⟩
theorem said3 (k : KR lo hi W Z X g h Y D) (H : Nat) (hH : H < 8) (a n : Int) (v : Value) (l : List UInt8) (ck cn ct : Int) (cf : Bool) {s ky c i : Int} {r : List UInt8} (ho : Out D 3 a n l s ky c r D') (hl : D'.length = 128) (hon : ∀ M, UnM W lo Z X g h Y 16 D M RT.zero hs0 → ∃ QM, OnB W lo Z X g h Y 16 RT.zero hs0 (cmd 3 a n v ck cn ct cf) s ky c i r D' QM) : Calls Try.prog 10 #[.pointer (some ⟨Z, 0, none⟩), .int .i64 (H : Nat), .agg #[.int .i64 3, .int .i64 a, .int .i64 n, v, .int .u64 ck, .int .u64 cn, .int .i64 ct, .bool cf]] W fun e w' => ∃ u, e = .returned u ∧ Said lo hi Z X g h Y W.heap.size D 3 a n l u w' ∧ Eff (fun q => lo ≤ q ∧ q < hi) W w' := by
  obtain ⟨M, u⟩ := k.un
  obtain ⟨QM, hQ⟩ := hon M u
  refine (do_blk3 u H hH (hs0_at H hH) rfl a n v ck cn ct cf hQ).mono ?_
  rintro e w' ⟨v, M', rfl, ⟨A, cp, rfl, o⟩, hM, u', E⟩
  have E' : Eff (fun q => lo ≤ q ∧ q < hi) W w' := E.mono fun q _ hq => hq.elim (fun e => e ▸ ⟨u.sp.bg, k.lg⟩) (fun e => e ▸ ⟨u.sp.bh, k.lh⟩)
  exact ⟨_, rfl, ⟨s, ky, c, i, A, cp, r, D', rfl, ho, o, ⟨⟨M', u'⟩, Nat.le_trans k.le E.size, k.lZ, k.lX, k.lY, k.lg, k.lh, hl⟩⟩, E'⟩
theorem said4 (k : KR lo hi W Z X g h Y D) (H : Nat) (hH : H < 8) (a n : Int) (v : Value) (l : List UInt8) (ck cn ct : Int) (cf : Bool) {s ky c i : Int} {r : List UInt8} (ho : Out D 4 a n l s ky c r D') (hl : D'.length = 128) (hon : ∀ M, UnM W lo Z X g h Y 16 D M RT.zero hs0 → ∃ QM, OnB W lo Z X g h Y 16 RT.zero hs0 (cmd 4 a n v ck cn ct cf) s ky c i r D' QM) : Calls Try.prog 10 #[.pointer (some ⟨Z, 0, none⟩), .int .i64 (H : Nat), .agg #[.int .i64 4, .int .i64 a, .int .i64 n, v, .int .u64 ck, .int .u64 cn, .int .i64 ct, .bool cf]] W fun e w' => ∃ u, e = .returned u ∧ Said lo hi Z X g h Y W.heap.size D 4 a n l u w' ∧ Eff (fun q => lo ≤ q ∧ q < hi) W w' := by
  obtain ⟨M, u⟩ := k.un
  obtain ⟨QM, hQ⟩ := hon M u
  refine (do_blk4 u H hH (hs0_at H hH) rfl a n v ck cn ct cf hQ).mono ?_
  rintro e w' ⟨v, M', rfl, ⟨A, cp, rfl, o⟩, hM, u', E⟩
  have E' : Eff (fun q => lo ≤ q ∧ q < hi) W w' := E.mono fun q _ hq => hq.elim (fun e => e ▸ ⟨u.sp.bg, k.lg⟩) (fun e => e ▸ ⟨u.sp.bh, k.lh⟩)
  exact ⟨_, rfl, ⟨s, ky, c, i, A, cp, r, D', rfl, ho, o, ⟨⟨M', u'⟩, Nat.le_trans k.le E.size, k.lZ, k.lX, k.lY, k.lg, k.lh, hl⟩⟩, E'⟩
theorem said5 (k : KR lo hi W Z X g h Y D) (H : Nat) (hH : H < 8) (a n : Int) (v : Value) (l : List UInt8) (ck cn ct : Int) (cf : Bool) {s ky c i : Int} {r : List UInt8} (ho : Out D 5 a n l s ky c r D') (hl : D'.length = 128) (hon : ∀ M, UnM W lo Z X g h Y 16 D M RT.zero hs0 → ∃ QM, OnB W lo Z X g h Y 16 RT.zero hs0 (cmd 5 a n v ck cn ct cf) s ky c i r D' QM) : Calls Try.prog 10 #[.pointer (some ⟨Z, 0, none⟩), .int .i64 (H : Nat), .agg #[.int .i64 5, .int .i64 a, .int .i64 n, v, .int .u64 ck, .int .u64 cn, .int .i64 ct, .bool cf]] W fun e w' => ∃ u, e = .returned u ∧ Said lo hi Z X g h Y W.heap.size D 5 a n l u w' ∧ Eff (fun q => lo ≤ q ∧ q < hi) W w' := by
  obtain ⟨M, u⟩ := k.un
  obtain ⟨QM, hQ⟩ := hon M u
  refine (do_blk5 u H hH (hs0_at H hH) rfl a n v ck cn ct cf hQ).mono ?_
  rintro e w' ⟨v, M', rfl, ⟨A, cp, rfl, o⟩, hM, u', E⟩
  have E' : Eff (fun q => lo ≤ q ∧ q < hi) W w' := E.mono fun q _ hq => hq.elim (fun e => e ▸ ⟨u.sp.bg, k.lg⟩) (fun e => e ▸ ⟨u.sp.bh, k.lh⟩)
  exact ⟨_, rfl, ⟨s, ky, c, i, A, cp, r, D', rfl, ho, o, ⟨⟨M', u'⟩, Nat.le_trans k.le E.size, k.lZ, k.lX, k.lY, k.lg, k.lh, hl⟩⟩, E'⟩
theorem said6 (k : KR lo hi W Z X g h Y D) (H : Nat) (hH : H < 8) (a n : Int) (v : Value) (l : List UInt8) (ck cn ct : Int) (cf : Bool) {s ky c i : Int} {r : List UInt8} (ho : Out D 6 a n l s ky c r D') (hl : D'.length = 128) (hon : ∀ M, UnM W lo Z X g h Y 16 D M RT.zero hs0 → ∃ QM, OnB W lo Z X g h Y 16 RT.zero hs0 (cmd 6 a n v ck cn ct cf) s ky c i r D' QM) : Calls Try.prog 10 #[.pointer (some ⟨Z, 0, none⟩), .int .i64 (H : Nat), .agg #[.int .i64 6, .int .i64 a, .int .i64 n, v, .int .u64 ck, .int .u64 cn, .int .i64 ct, .bool cf]] W fun e w' => ∃ u, e = .returned u ∧ Said lo hi Z X g h Y W.heap.size D 6 a n l u w' ∧ Eff (fun q => lo ≤ q ∧ q < hi) W w' := by
  obtain ⟨M, u⟩ := k.un
  obtain ⟨QM, hQ⟩ := hon M u
  refine (do_blk6 u H hH (hs0_at H hH) rfl a n v ck cn ct cf hQ).mono ?_
  rintro e w' ⟨v, M', rfl, ⟨A, cp, rfl, o⟩, hM, u', E⟩
  have E' : Eff (fun q => lo ≤ q ∧ q < hi) W w' := E.mono fun q _ hq => hq.elim (fun e => e ▸ ⟨u.sp.bg, k.lg⟩) (fun e => e ▸ ⟨u.sp.bh, k.lh⟩)
  exact ⟨_, rfl, ⟨s, ky, c, i, A, cp, r, D', rfl, ho, o, ⟨⟨M', u'⟩, Nat.le_trans k.le E.size, k.lZ, k.lX, k.lY, k.lg, k.lh, hl⟩⟩, E'⟩
theorem Said.mono {b0 b1 : Nat} {kd a n : Int} {l : List UInt8} {v : Value} (s : Said lo hi Z X g h Y b0 D kd a n l v W) (hb : b1 ≤ b0) : Said lo hi Z X g h Y b1 D kd a n l v W := by
  obtain ⟨s, ky, c, i, A, cp, r, D', h1, h2, h3, h4⟩ := s
  exact ⟨s, ky, c, i, A, cp, r, D', h1, h2, owns_mono h3 hb, h4⟩
theorem rd16 (k : KR lo hi W Z X g h Y D) : Calls Try.prog 10 #[.pointer (some ⟨Z, 0, none⟩), .int .i64 0, .agg #[.int .i64 2, .int .i64 0, .int .i64 16, .slice none 0 0, .int .u64 0, .int .u64 0, .int .i64 0, .bool false]] W fun e w' => ∃ A c, e = .returned (.agg #[.int .i64 0, .int .i64 0, .int .i64 0, .slice A 128 c, .int .i64 0]) ∧ w'.ownsRow W.heap.size 5 1 (.slice A 128 c) 128 (bs D) ∧ Below W.heap.size W w' := by
  obtain ⟨M, u⟩ := k.un
  refine (do_read u 0 (by decide) (hs0_at 0 (by decide)) rfl 0 16 (.slice none 0 0) 0 0 0 false fun W2 h2 => onb_read (u.below h2) 0 16 (.slice none 0 0) 0 0 0 false (by decide) (by decide)).mono ?_
  rintro e w' ⟨v, rfl, h1, h2⟩
  have hp : piece D 0 16 = D := by
    unfold piece
    rw [Nat.zero_mul, List.drop_zero, List.take_of_length_le (by have := k.len; omega)]
  rw [hp] at h1
  obtain ⟨A, c, rfl, o⟩ := h1
  rw [k.len] at o ⊢
  exact ⟨A, c, rfl, o, h2⟩
/-- A piece of the row of 128 bytes, as a slice expression tells it. -/
theorem slice_now (G a n : Nat) (ha : a + n ≤ 16) : ∃ A3 c3, (∀ W : World, (Instr.slice 22 (.slice (some ⟨G, 0, none⟩) 128 128) (some (.int .i64 (8 * (a : Int)))) (some (.int .i64 (8 * (a : Int) + 8 * (n : Int)))) none).run Try.prog W = .ok (.slice A3 (n * 8) c3) W) ∧ ∀ (W : World) (D : List UInt8) (b : Nat), W.ownsRow b 5 1 (.slice (some ⟨G, 0, none⟩) 128 128) 128 (bs D) → Sl W W.heap.size (.slice A3 (n * 8) c3) (n * 8) (bs (piece D a n)) := by
  obtain ⟨i0, hi, hz0, hz1, hz2⟩ := info_parts info_u8
  have hform : ∃ A3 c3, sliced (some ⟨G, 0, none⟩) (a * 8) (a * 8 + n * 8) 128 1 = .slice A3 (n * 8) c3 := ⟨_, _, by unfold sliced; rw [show a * 8 + n * 8 - a * 8 = n * 8 by omega]⟩
  obtain ⟨A3, c3, hA3⟩ := hform
  refine ⟨A3, c3, fun W => ?_, fun W D b ho => ?_⟩
  · have h1 := run_slice_lh (P := Try.prog) (w := W) 22 (some ⟨G, 0, none⟩) 128 128 (by kernel_rfl) .i64 .i64 (8 * (a : Int)) (8 * (a : Int) + 8 * (n : Int)) (by omega) (by omega) (by omega)
    rw [h1, show Try.prog.elem 22 = 5 by kernel_rfl, show (sizeOf 5).run Try.prog W = .ok 1 W by simp [sizeOf, typeInfo, hi, hz1]]
    simp only [Result.andThen]
    rw [show (8 * (a : Int)).toNat = a * 8 by omega, show (8 * (a : Int) + 8 * (n : Int)).toNat = a * 8 + n * 8 by omega, hA3]
  · have q := sl_piece (Sl.of_own ho) (a * 8) (n * 8) (by omega)
    have e : ((bs D).drop (a * 8)).take (n * 8) = bs (piece D a n) := by
      unfold piece bs
      rw [← List.map_drop, ← List.map_take]
    rw [e, hA3] at q
    exact q
/-- The first half of a row of bytes. -/
theorem slice_half (A : Option Addr) (c n : Nat) (l : List UInt8) (hl : l.length = n * 16) (hc : l.length ≤ c) : ∃ A3 c3, (∀ W : World, (Instr.slice 22 (.slice A l.length c) none (some (.int .i64 (8 * (n : Int)))) none).run Try.prog W = .ok (.slice A3 (n * 8) c3) W) ∧ ∀ (W : World), Sl W W.heap.size (.slice A l.length c) l.length (bs l) → Sl W W.heap.size (.slice A3 (n * 8) c3) (n * 8) (bs (l.take (n * 8))) := by
  obtain ⟨i0, hi, hz0, hz1, hz2⟩ := info_parts info_u8
  have hform : ∃ A3 c3, sliced A 0 (0 + n * 8) c 1 = .slice A3 (n * 8) c3 := ⟨_, _, by unfold sliced; rw [show 0 + n * 8 - 0 = n * 8 by omega]⟩
  obtain ⟨A3, c3, hA3⟩ := hform
  refine ⟨A3, c3, fun W => ?_, fun W ho => ?_⟩
  · have h1 := run_slice_h (P := Try.prog) (w := W) 22 A l.length c (by kernel_rfl) .i64 (8 * (n : Int)) (by omega) (by omega)
    rw [h1, show Try.prog.elem 22 = 5 by kernel_rfl, show (sizeOf 5).run Try.prog W = .ok 1 W by simp [sizeOf, typeInfo, hi, hz1]]
    simp only [Result.andThen]
    rw [show (8 * (n : Int)).toNat = 0 + n * 8 by omega, hA3]
  · have q := sl_piece ho 0 (n * 8) (by omega)
    have e : ((bs l).drop 0).take (n * 8) = bs (l.take (n * 8)) := by
      unfold bs
      rw [List.drop_zero, ← List.map_take]
    rw [e, hA3] at q
    exact q
/-- The first place where two rows of bytes are unlike. -/
theorem first_unlike {p q : List UInt8} (h : p.length = q.length) (hne : p ≠ q) : ∃ k, k < q.length ∧ (∀ j, j < k → p[j]? = q[j]?) ∧ p[k]? ≠ q[k]? := by
  induction p generalizing q with
  | nil =>
    cases q with
    | nil => exact absurd rfl hne
    | cons y q => simp at h
  | cons x p ih =>
    cases q with
    | nil => simp at h
    | cons y q =>
      by_cases e : x = y
      · subst e
        obtain ⟨k, h1, h2, h3⟩ := ih (q := q) (by simpa using h) (fun e => hne (by rw [e]))
        refine ⟨k + 1, by simp; omega, fun j hj => ?_, by simpa using h3⟩
        cases j with
        | zero => rfl
        | succ j => simpa using h2 j (by omega)
      · exact ⟨0, by simp, fun j hj => by omega, by simpa using e⟩
theorem said_any (k : KR lo hi W Z X g h Y D) (H : Nat) (hH : H < 8) (kd : Int) (h2 : 2 ≤ kd) (h6 : kd ≤ 6) (a n : Int) (hn : n ≤ 9223372036854775807) (v : Value) (l : List UInt8) (hv : Sl W W.heap.size v l.length (bs l)) (hl : l.length ≤ 600) (ck cn ct : Int) (cf : Bool) : Calls Try.prog 10 #[.pointer (some ⟨Z, 0, none⟩), .int .i64 (H : Nat), .agg #[.int .i64 kd, .int .i64 a, .int .i64 n, v, .int .u64 ck, .int .u64 cn, .int .i64 ct, .bool cf]] W fun e w' => ∃ u, e = .returned u ∧ Said lo hi Z X g h Y W.heap.size D kd a n l u w' ∧ Eff (fun q => lo ≤ q ∧ q < hi) W w' := by
  have hD := k.len
  have hk : kd = 2 ∨ kd = 3 ∨ kd = 4 ∨ kd = 5 ∨ kd = 6 := by omega
  by_cases hi : inB 16 a n = false
  · have hr : ∀ kd : Int, kd ≠ 1 → ∀ M, UnM W lo Z X g h Y 16 D M RT.zero hs0 → ∃ QM, OnB W lo Z X g h Y 16 RT.zero hs0 (cmd kd a n v ck cn ct cf) 2 5 8448 0 [] D QM := fun kd hk M u => ⟨_, OnB.range u kd a n hk hn hi⟩
    rcases hk with rfl | rfl | rfl | rfl | rfl
    · exact said2 k H hH a n v l ck cn ct cf (.inl ⟨hi, rfl, rfl, rfl, rfl⟩) hD (hr 2 (by decide))
    · exact said3 k H hH a n v l ck cn ct cf (.inl ⟨hi, rfl, rfl, rfl, rfl⟩) hD (hr 3 (by decide))
    · exact said4 k H hH a n v l ck cn ct cf (.inl ⟨hi, rfl, rfl, rfl, rfl⟩) hD (hr 4 (by decide))
    · exact said5 k H hH a n v l ck cn ct cf (.inl ⟨hi, rfl, rfl, rfl, rfl⟩) hD (hr 5 (by decide))
    · exact said6 k H hH a n v l ck cn ct cf (.inl ⟨hi, rfl, rfl, rfl, rfl⟩) hD (hr 6 (by decide))
  · have hi' : inB 16 a n = true := by simpa using hi
    unfold inB at hi'
    have hb := of_decide_eq_true hi'
    obtain ⟨a', rfl⟩ : ∃ a' : Nat, a = a' := ⟨a.toNat, by omega⟩
    obtain ⟨n', rfl⟩ : ∃ n' : Nat, n = n' := ⟨n.toNat, by omega⟩
    have b1 : n' ≤ 32 := by omega
    have b2 : a' + n' ≤ 16 := by omega
    have b3 : n' ≤ 16 := by omega
    have b4 : a' ≤ 16 := by omega
    have inn : ∀ {kd s ky c : Int} {r D' : List UInt8}, _ → Out D kd (a' : Nat) (n' : Nat) l s ky c r D' := fun h => .inr ⟨a', n', rfl, rfl, b3, b4, b2, h⟩
    rcases hk with rfl | rfl | rfl | rfl | rfl
    · exact said2 k H hH a' n' v l ck cn ct cf (inn (.inl ⟨rfl, rfl, rfl, rfl⟩)) hD fun M u => ⟨_, OnB.read u a' n' b1 b2⟩
    · by_cases hll : l.length = n' * 8
      · exact said3 k H hH a' n' v l ck cn ct cf (inn (.inr (.inl ⟨rfl, hll, rfl, rfl, rfl⟩))) (by rw [laid_len (by omega)]; exact hD) fun M u => ⟨_, OnB.write u a' n' b1 b2 hv hll⟩
      · exact said3 k H hH a' n' v l ck cn ct cf (inn (.inr (.inr (.inl ⟨rfl, hll, rfl, rfl, rfl⟩)))) hD fun M u => ⟨_, OnB.write_bad u a' n' b1 b2 hv hll (by omega)⟩
    · exact said4 k H hH a' n' v l ck cn ct cf (inn (.inr (.inr (.inr (.inl ⟨rfl, rfl, rfl, rfl⟩))))) hD fun M u => ⟨_, OnB.sync u a' n' b1 b2⟩
    · exact said5 k H hH a' n' v l ck cn ct cf (inn (.inr (.inr (.inr (.inr (.inl ⟨rfl, rfl, rfl, rfl⟩)))))) (by rw [laid_len (by rw [List.length_replicate]; omega)]; exact hD) fun M u => ⟨_, OnB.unmap u a' n' b1 b2⟩
    · by_cases hll : l.length = n' * 16
      · have hp : (piece D a' n').length = n' * 8 := piece_len (by omega)
        have hq : (l.take (n' * 8)).length = n' * 8 := by rw [List.length_take]; omega
        have hx : ∀ j, j < n' * 8 → D[a' * 8 + j]? = (piece D a' n')[j]? := fun j hj => (piece_get (by omega) hj).symm
        have hy : ∀ j, j < n' * 8 → l[j]? = (l.take (n' * 8))[j]? := fun j hj => by rw [List.getElem?_take, if_pos hj]
        by_cases he : piece D a' n' = l.take (n' * 8)
        · exact said6 k H hH a' n' v l ck cn ct cf (inn (.inr (.inr (.inr (.inr (.inr (.inr (.inl ⟨rfl, hll, he, rfl, rfl, rfl⟩)))))))) (by rw [laid_len (by rw [List.length_drop]; omega)]; exact hD) fun M u => ⟨_, OnB.cmp_yes u a' n' b1 b2 hv hll fun j hj => by rw [hx j hj, hy j hj, he]⟩
        · obtain ⟨j, j1, j2, j3⟩ := first_unlike (by rw [hp, hq]) he
          rw [hq] at j1
          exact said6 k H hH a' n' v l ck cn ct cf (inn (.inr (.inr (.inr (.inr (.inr (.inr (.inr ⟨rfl, hll, he, rfl, rfl, rfl, rfl⟩)))))))) hD fun M u => ⟨_, OnB.cmp_no u a' n' b1 b2 hv hll j j1 (fun i hi => by rw [hx i (by omega), hy i (by omega)]; exact j2 i hi) (by rw [hx j j1, hy j j1]; exact j3)⟩
      · exact said6 k H hH a' n' v l ck cn ct cf (inn (.inr (.inr (.inr (.inr (.inr (.inl ⟨rfl, hll, rfl, rfl, rfl⟩))))))) hD fun M u => ⟨_, OnB.cmp_bad u a' n' b1 b2 hv hll (by omega)⟩
/-- One byte more of a piece is laid. -/
theorem laid_more {D L : List UInt8} {a k : Nat} (hk : k < L.length) (hf : a * 8 + L.length ≤ D.length) : bs (laid D a (L.take (k + 1))) = (bs (laid D a (L.take k))).set (a * 8 + k) (.int .u8 ((L[k]).toNat : Int)) := by
  have e : laid D a (L.take (k + 1)) = (laid D a (L.take k)).set (a * 8 + k) L[k] := by
    have l1 : (L.take (k + 1)).length = k + 1 := by rw [List.length_take]; omega
    have l2 : (L.take k).length = k := by rw [List.length_take]; omega
    apply List.ext_getElem?
    intro j
    rw [laid_get (by omega), List.getElem?_set, laid_get (by omega), laid_len (by omega), l1, l2]
    by_cases h1 : a * 8 + k = j
    · subst h1
      rw [if_pos ⟨by omega, by omega⟩, if_pos rfl, if_pos (by omega), show a * 8 + k - a * 8 = k by omega, List.getElem?_take, if_pos (by omega), List.getElem?_eq_getElem hk]
    · rw [if_neg h1]
      by_cases h2 : a * 8 ≤ j ∧ j < a * 8 + k
      · rw [if_pos ⟨h2.1, by omega⟩, if_pos h2, List.getElem?_take, if_pos (by omega), List.getElem?_take, if_pos (by omega)]
      · rw [if_neg (fun h => h2 ⟨h.1, by omega⟩), if_neg h2]
  rw [e]
  simp [bs, List.map_set]
theorem own_made (W : World) (n : Nat) (hn : n ≤ maxLen) : (W.alloc (.cells (madeCells #[Value.int .u8 0] n) 5)).ownsRow W.heap.size 5 1 (.slice (some ⟨W.heap.size, 0, none⟩) n n) n (bs (List.replicate n 0)) := by
  have e : bs (List.replicate n 0) = (madeCells #[Value.int .u8 0] n).toList := by rw [toList_madeCells_one]; simp [bs]
  have hl : (madeCells #[Value.int .u8 0] n).size = n := by rw [← Array.length_toList, toList_madeCells_one, List.length_replicate]
  refine ⟨by rw [bs_len, List.length_replicate, Nat.mul_one], .inr ⟨W.heap.size, n, madeCells #[Value.int .u8 0] n, rfl, Nat.le_refl _, heap_alloc_new W _, Nat.le_refl _, hn, by rw [hl, Nat.mul_one], ?_⟩⟩
  rw [e, Nat.mul_one]
  exact List.take_of_length_le (by rw [Array.length_toList, hl]; omega)
theorem range8 {W : World} {b o p : Nat} {c1 c2 c3 c4 c5 c6 c7 c8 : Value} (hp : o + 1 = p) (x1 : W.cell? ⟨b, o + 1, none⟩ = some c1) (x2 : W.cell? ⟨b, o + 2, none⟩ = some c2) (x3 : W.cell? ⟨b, o + 3, none⟩ = some c3) (x4 : W.cell? ⟨b, o + 4, none⟩ = some c4) (x5 : W.cell? ⟨b, o + 5, none⟩ = some c5) (x6 : W.cell? ⟨b, o + 6, none⟩ = some c6) (x7 : W.cell? ⟨b, o + 7, none⟩ = some c7) (x8 : W.cell? ⟨b, o + 8, none⟩ = some c8) : W.rangeAt b p [c1, c2, c3, c4, c5, c6, c7, c8] := by
  subst hp
  intro j v hv
  match j, hv with
  | 0, h => exact (by simpa using h : c1 = v) ▸ x1
  | 1, h => exact (by simpa using h : c2 = v) ▸ x2
  | 2, h => exact (by simpa using h : c3 = v) ▸ x3
  | 3, h => exact (by simpa using h : c4 = v) ▸ x4
  | 4, h => exact (by simpa using h : c5 = v) ▸ x5
  | 5, h => exact (by simpa using h : c6 = v) ▸ x6
  | 6, h => exact (by simpa using h : c7 = v) ▸ x7
  | 7, h => exact (by simpa using h : c8 = v) ▸ x8
theorem laid_none (D : List UInt8) (a : Nat) : laid D a [] = D := by
  unfold laid splice
  simp
end
end Un
end Go.Proofs.Ytpkebbibafldkaa
