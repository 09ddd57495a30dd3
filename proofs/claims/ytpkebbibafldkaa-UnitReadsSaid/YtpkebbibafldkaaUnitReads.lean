/- UnitReads: for all rows of acts the statement's function tells true and turns nothing that was there. No condition. -/
import Derived.Test.YtpkebbibafldkaaUnR
import Derived.Deep.OwnRows
import Derived.BigQuiet
import Derived.Deep.QuietTactic
namespace Go.Proofs.Ytpkebbibafldkaa
open Go.ChangeShapes Go.WideShapes Go.ChangeAt Go.RowKit Go.Lib
set_option linter.unusedVariables false
set_option linter.unusedSimpArgs false
set_option maxRecDepth 100000
namespace Un
open Rv
set_option maxHeartbeats 16000000 in
theorem walk (v : Value) (acs : List ActU) (w : World) (hv : Acts w w.heap.size v acs) : Calls Try.prog 5 #[v] w fun e w' => e = .returned (.bool true) ∧ Below w.heap.size w w' := by
  obtain ⟨i0, hi0, hz0, hz1, hz2⟩ := info_parts info_u8
  obtain ⟨A, c, rfl, hc1, hc2⟩ := hv.form
  clear hc1 hc2
  by_cases hf : fewA acs
  case neg =>
    have cF : ∀ W, Below w.heap.size w W → Calls Try.prog 8 #[.slice A acs.length c] W fun e w' => e = .returned (.bool false) ∧ W = w' := fun W hB => ((few_any _ acs W (acts_more (hv.below hB) hB.size))).mono fun e w' ⟨b, h1, h2, h3⟩ => ⟨by cases b; exact h1; exact absurd (h2.1 rfl) hf, h3⟩
    go_enter Try.func5, Try.ntmps5
    go_wp2_with (first
      | (go_at_call 7; (with_reducible refine (known_any _).mono ?_); rintro e' w1 ⟨rfl, B1⟩; have cF1 := cF _ B1)
      | (go_at_call 8; (with_reducible refine cF1.mono ?_); rintro e' w2 ⟨rfl, rfl⟩))
    go_ret
    exact ⟨rfl, B1⟩
  have cF : ∀ W, Below w.heap.size w W → Calls Try.prog 8 #[.slice A acs.length c] W fun e w' => e = .returned (.bool true) ∧ W = w' := fun W hB => ((few_any _ acs W (acts_more (hv.below hB) hB.size))).mono fun e w' ⟨b, h1, h2, h3⟩ => ⟨by cases b; exact absurd (h2.2 hf) (by simp); exact h1, h3⟩
  have HF := Lib.hid hf
  clear hf
  go_enter Try.func5, Try.ntmps5
  go_upto_region 3 with (first
    | (go_at_call 7; (with_reducible refine (known_any _).mono ?_); rintro e' w1 ⟨rfl, B1⟩))
  have cF1 := cF _ B1
  clear cF
  go_upto_region 5 with (go_at_call 8; (with_reducible refine cF1.mono ?_); rintro e' w2 ⟨rfl, rfl⟩)
  clear cF1
  have cN := new16 w1
  go_upto_region 6 with (go_at_call 12; (with_reducible refine cN.mono ?_); rintro e' w2 ⟨Z, X, g, h, Y, rfl, K2, b2⟩)
  clear cN
  have B2 := B1.trans (b2.mono B1.size)
  have s1 := B1.size
  have s2 := b2.size
  obtain ⟨w3, e3, o3, b3⟩ : ∃ w3, w3 = w2.alloc (.cells (madeCells #[Value.int .u8 0] 128) 5) ∧ w3.ownsRow w2.heap.size 5 1 (.slice (some ⟨w2.heap.size, 0, none⟩) 128 128) 128 (bs (List.replicate 128 0)) ∧ Below w2.heap.size w2 w3 := ⟨_, rfl, own_made w2 128 (by decide), (Below.refl _ w2).alloc (Nat.le_refl _) _⟩
  have q0 : (Instr.makeSlice 22 (.int .i64 128) (.int .i64 128)).run Try.prog w2 = .ok (.slice (some ⟨w2.heap.size, 0, none⟩) 128 128) (w2.alloc (.cells (madeCells #[Value.int .u8 0] 128) 5)) := run_make_row 22 5 i0 (.int .u8 0) Try.underlying22 hi0 hz0 hz1 rfl .i64 .i64 128 (by rw [hz2]; omega) (by omega) w2
  go_upto_region 7 with (fail)
  rw [← e3]
  clear e3 q0
  have K3 := K2.below b3
  have B3 := B2.trans (b3.mono B2.size)
  have p3 : w2.heap.size < w3.heap.size := (own_tag o3 _ rfl).2.1
  generalize w1.heap.size = lo at *
  generalize hhi : w2.heap.size = hi at *
  clear K2 b2 b3 B2 hhi
  go_wp2
  go_loopw [6] (fun x wr => ∃ (i : Nat) (D : List UInt8), x = .int .i64 (i : Nat) ∧ i ≤ acs.length ∧ KR lo hi wr Z X g h Y D ∧ wr.ownsRow hi 5 1 (.slice (some ⟨hi, 0, none⟩) 128 128) 128 (bs D) ∧ Below w.heap.size w wr ∧ hi < wr.heap.size) (fun x _ => acs.length - (intOf x).toNat)
  case atStart => exact ⟨0, _, rfl, Nat.zero_le _, K3, o3, B3, p3⟩
  case round =>
    obtain ⟨i, D, rfl, hil, KW, oW, BW, pW⟩ := hrel
    generalize wr = wo at *
    have HFo := HF.out
    unfold fewA at HFo
    by_cases hlt : i < acs.length
    case neg =>
      as_aux_lemma =>
        obtain rfl : i = acs.length := by omega
        have c16 := rd16 KW
        have hKl := KW.len
        clear hlt hil HFo
        go_upto_region 41 with (go_at_call 10; (with_reducible refine c16.mono ?_); rintro e' w5 ⟨A5, c5, rfl, o5, b5⟩)
        clear c16
        obtain ⟨w6, e6, m6, b6⟩ := box_new w5 #[.int .i64 0, .int .i64 0, .int .i64 0, .slice A5 128 c5, .int .i64 0]
        rw [← e6]
        clear e6
        have o6 := owns_below o5 b6
        have b56 := b5.trans (b6.mono b5.size)
        have n6 := owns_below oW b56
        have B6 := BW.trans (b56.mono BW.size)
        generalize w5.heap.size = pq at *
        have a0 := m6.cell 0
        have a1 := m6.cell 1
        have a2 := m6.cell 2
        have a3 := m6.cell 3
        have a4 := m6.cell 4
        have t1 : (convert 22 9 (.slice A5 128 c5)).run Try.prog w6 = .ok (.string ⟨D.toArray⟩) w6 := ustr (Sl.of_own o6)
        have t2 : (convert 22 9 (.slice (some ⟨hi, 0, none⟩) 128 128)).run Try.prog w6 = .ok (.string ⟨D.toArray⟩) w6 := ustr (Sl.of_own n6)
        have cS : Calls Try.prog 14 #[.agg #[.int .i64 0, .int .i64 0, .int .i64 0, .slice A5 128 c5, .int .i64 0], .agg #[.int .i64 0, .int .i64 0, .int .i64 0, .slice (some ⟨hi, 0, none⟩) 128 128, .int .i64 0]] w6 fun e w' => e = .returned (.bool true) ∧ Below w6.heap.size w6 w' := by
          have q := rsame_any (w := w6) 0 0 0 0 D (A := A5) (A' := some ⟨hi, 0, none⟩) (ca := c5) (ca' := 128) (by rw [hKl]; exact Sl.of_own o6) (by rw [hKl]; exact Sl.of_own n6)
          rw [hKl] at q
          exact q
        clear hKl o6 n6 o5 oW KW
        go_wp2_with (go_at_call 14; (with_reducible refine cS.mono ?_); rintro e' w9 ⟨rfl, b9⟩)
        go_ret
        exact ⟨rfl, B6.trans (b9.mono B6.size)⟩
    have hltx : (i : Int) < (acs.length : Int) := by omega
    obtain ⟨b, off, rfl, hb, x0, x1, x2, x3, x4, x5, x6, x7, x8, x9, x10, x11, x12⟩ := (hv.below BW).at_ hlt
    have hok := hv.ok _ (List.getElem_mem hlt)
    have h600 := HFo.2 _ (List.getElem_mem hlt)
    have h60x : (i : Int) < 60 := by have := HFo.1; omega
    clear HFo x9 x10 x11 x12
    generalize acs[i] = ac at *
    obtain ⟨H, kd, a, n, dv, dl, ck, cn, ct, cf, z1, z2, z3, z4⟩ := ac
    dsimp only at x0 x1 x2 x3 x4 x5 x6 x7 x8 h600
    obtain ⟨k0, k1, k2, k3, k4, -, -, -, -, -, -, -, -⟩ := hok
    dsimp only [I64] at k0 k1 k2 k3 k4
    have d4 := k4.now BW
    obtain ⟨Ad, cd, rfl, hcd1, hcd2⟩ := d4.form
    have HCD := Lib.hid hcd1
    clear hcd1 hcd2 z1 z2 z3 z4
    obtain ⟨w4, e4, mC, b4⟩ : ∃ w4, w4 = wo.alloc (.cells #[.int .i64 kd, .int .i64 a, .int .i64 n, .slice Ad dl.length cd, .int .u64 (ck : Nat), .int .u64 (cn : Nat), .int .i64 ct, .bool cf] 25) ∧ Mem w4 wo.heap.size 25 #[.int .i64 kd, .int .i64 a, .int .i64 n, .slice Ad dl.length cd, .int .u64 (ck : Nat), .int .u64 (cn : Nat), .int .i64 ct, .bool cf] ∧ Below wo.heap.size wo w4 := ⟨_, rfl, Mem.new wo _ _, (Below.refl _ wo).alloc (Nat.le_refl _) _⟩
    have y0 := (b4.cell (p := ⟨b, off + i * 13, none⟩) (Nat.lt_of_lt_of_le hb BW.size)).trans x0
    have c0 := mC.cell 0
    have hrg := range8 (p := off + i * 13 + 1) rfl x1 x2 x3 x4 x5 x6 x7 x8
    have k2' := k2.1
    have J3 := Lib.hid k3
    clear x1 x2 x3 x4 x5 x6 x7 x8 k0 k1 k2 k3 k2'
    go_upto_region 11 with (refine wpList_load_mid rfl 25 (.tmp 34) rfl b (off + i * 13 + 1) rfl [.int .i64 kd, .int .i64 a, .int .i64 n, .slice Ad dl.length cd, .int .u64 (ck : Nat), .int .u64 (cn : Nat), .int .i64 ct, .bool cf] _ hrg Try.underlying25 rfl (by kernel_rfl) ?_)
    clear hrg
    rw [← e4]
    clear e4
    by_cases hs0 : H < 0
    · as_aux_lemma =>
      have i1 := Lib.hid hlt
      have hil' := Lib.hid hil
      clear hlt hil k4 h600
      go_wp2
      have i2 := i1.out
      exact ⟨⟨i + 1, D, rfl, i2, KW.below b4, owns_below oW b4, BW.trans (b4.mono BW.size), Nat.lt_of_lt_of_le pW b4.size⟩, by simp [intOf]; omega⟩
    by_cases hs1 : 7 < H
    · as_aux_lemma =>
      have i1 := Lib.hid hlt
      have hil' := Lib.hid hil
      clear hlt hil k4 h600
      go_wp2
      have i2 := i1.out
      exact ⟨⟨i + 1, D, rfl, i2, KW.below b4, owns_below oW b4, BW.trans (b4.mono BW.size), Nat.lt_of_lt_of_le pW b4.size⟩, by simp [intOf]; omega⟩
    by_cases hs2 : kd < 2
    · as_aux_lemma =>
      have i1 := Lib.hid hlt
      have hil' := Lib.hid hil
      clear hlt hil k4 h600
      go_wp2
      have i2 := i1.out
      exact ⟨⟨i + 1, D, rfl, i2, KW.below b4, owns_below oW b4, BW.trans (b4.mono BW.size), Nat.lt_of_lt_of_le pW b4.size⟩, by simp [intOf]; omega⟩
    by_cases hs3 : 6 < kd
    · as_aux_lemma =>
      have i1 := Lib.hid hlt
      have hil' := Lib.hid hil
      clear hlt hil k4 h600
      go_wp2
      have i2 := i1.out
      exact ⟨⟨i + 1, D, rfl, i2, KW.below b4, owns_below oW b4, BW.trans (b4.mono BW.size), Nat.lt_of_lt_of_le pW b4.size⟩, by simp [intOf]; omega⟩
    obtain ⟨H, rfl⟩ : ∃ H' : Nat, H = H' := ⟨H.toNat, by omega⟩
    have hH8 : H < 8 := by omega
    have hs2' : 2 ≤ kd := by omega
    have hs3' : kd ≤ 6 := by omega
    have hn63 : n ≤ 9223372036854775807 := J3.out.2
    have K4 := KW.below b4
    have o4 := owns_below oW b4
    have B4 := BW.trans (b4.mono BW.size)
    have p4 := Nat.lt_of_lt_of_le pW b4.size
    have d4' := d4.now b4
    have slo : lo ≤ hi := by
      obtain ⟨M, u⟩ := K4.un
      have := u.bZ
      have := K4.lZ
      omega
    have swl : w.heap.size ≤ lo := s1
    have pC := mC.lt
    have pO : hi < wo.heap.size := pW
    have hDlen := KW.len
    have I1 := Lib.hid hlt
    have IL := Lib.hid hil
    have cD : ∀ W, Below w4.heap.size w4 W → Calls Try.prog 10 #[.pointer (some ⟨Z, 0, none⟩), .int .i64 (H : Nat), .agg #[.int .i64 kd, .int .i64 a, .int .i64 n, .slice Ad dl.length cd, .int .u64 (ck : Nat), .int .u64 (cn : Nat), .int .i64 ct, .bool cf]] W fun e w' => ∃ u, e = .returned u ∧ Said lo hi Z X g h Y w4.heap.size D kd a n dl u w' ∧ Eff (fun q => lo ≤ q ∧ q < hi) W w' := fun W hB => (said_any (K4.below hB) H hH8 kd hs2' hs3' a n hn63 _ dl (d4'.now hB) h600 ck cn ct cf).mono fun e w' ⟨u, q1, q2, q3⟩ => ⟨u, q1, q2.mono hB.size, q3⟩
    have HY : ∀ W, Eff (fun q => lo ≤ q ∧ q < hi) w4 W → W.cell? ⟨b, off + i * 13, none⟩ = some (.int .i64 (H : Nat)) := fun W hE => (hE.cell (p := ⟨b, off + i * 13, none⟩) (Nat.lt_of_lt_of_le hb B4.size) (fun hq => absurd hq.1 (show ¬ lo ≤ b by omega))).trans y0
    have HC : ∀ W, Eff (fun q => lo ≤ q ∧ q < hi) w4 W → Mem W wo.heap.size 25 #[.int .i64 kd, .int .i64 a, .int .i64 n, .slice Ad dl.length cd, .int .u64 (ck : Nat), .int .u64 (cn : Nat), .int .i64 ct, .bool cf] := fun W hE => mC.eff hE (by omega)
    have HG : ∀ G, w4.heap.size ≤ G → ¬ (lo ≤ G ∧ G < hi) := fun G hG => by omega
    have d0 := hlt
    clear hlt hil d0 hn63 hs2' hs3' hH8
    go_upto_region 12 with (fail)
    apply CalmR.calm_tail (R := effR (fun q => lo ≤ q ∧ q < hi)) 9 [.is (.pointer (some ⟨Z, 0, none⟩)), .is (.slice (some ⟨b, off, none⟩) acs.length c), .is (.int .i64 (i : Nat)), .is (.pointer (some ⟨b, off + i * 13, none⟩)), .is (.pointer (some ⟨b, off + i * 13, none⟩)), .is (.int .i64 (H : Nat)), .is (.agg #[.int .i64 kd, .int .i64 a, .int .i64 n, .slice Ad dl.length cd, .int .u64 (ck : Nat), .int .u64 (cn : Nat), .int .i64 ct, .bool cf]), .frail (fun x W => Said lo hi Z X g h Y w4.heap.size D kd a n dl x W ∧ Eff (fun q => lo ≤ q ∧ q < hi) w4 W) (fun x W W' hb hx => ⟨hx.1.below hb, hx.2.trans (Eff.of hb) fun _ _ h => h⟩), .of (fun x W => ∃ G, x = .pointer (some ⟨G, 0, none⟩) ∧ w4.heap.size ≤ G ∧ Mem W G 36 #[.int .i64 0, .int .i64 0, .int .i64 0, .slice none 0 0, .int .i64 0]) (fun x W W' hb ⟨G, q1, q2, q3⟩ => ⟨G, q1, q2, q3.eff hb (HG G q2)⟩)] [[], [], [], [1, 2], [3], [4], [], [0, 5, 6], []] (by kernel_rfl) (by kernel_rfl) (by kernel_rfl) rfl rfl
    intro f a1 ha1
    simp only [List.take_succ_cons, List.take_zero, putL, Act.put, List.setIfInBounds_toArray, List.set_cons_succ, List.set_cons_zero] at ha1
    subst ha1
    refine ⟨?_, ?_⟩
    · refine CalmR.AllCalm.cons (fun W hB hd => ?_) ?_
      · have hB : Eff (fun q => lo ≤ q ∧ q < hi) _ W := hB
        go_wp2_with (fail)
        exact CalmR.CalmQ.mk rfl _ rfl (Below.refl _ _) rfl
      refine CalmR.AllCalm.cons (fun W hB hd => ?_) ?_
      · have hB : Eff (fun q => lo ≤ q ∧ q < hi) _ W := hB
        go_wp2_with (fail)
        exact CalmR.CalmQ.mk rfl _ rfl (Below.refl _ _) rfl
      refine CalmR.AllCalm.cons (fun W hB hd => ?_) ?_
      · have hB : Eff (fun q => lo ≤ q ∧ q < hi) _ W := hB
        go_wp2_with (fail)
        exact CalmR.CalmQ.mk rfl _ rfl (Below.refl _ _) rfl
      refine CalmR.AllCalm.cons (fun W hB hd => ?_) ?_
      · have hB : Eff (fun q => lo ≤ q ∧ q < hi) _ W := hB
        obtain ⟨h1, h2, -⟩ := hd
        have h1 : f 1 = _ := h1
        have h2 : f 2 = _ := h2
        rw [h1, h2]
        have hlt := I1.out; have hltx : (i : Int) < (acs.length : Int) := (by omega)
        go_wp2_with (fail)
        exact CalmR.CalmQ.mk rfl _ rfl (Below.refl _ _) rfl
      refine CalmR.AllCalm.cons (fun W hB hd => ?_) ?_
      · have hB : Eff (fun q => lo ≤ q ∧ q < hi) _ W := hB
        obtain ⟨h3, -⟩ := hd
        have h3 : f 3 = _ := h3
        rw [h3]
        go_wp2_with (fail)
        exact CalmR.CalmQ.mk rfl _ rfl (Below.refl _ _) rfl
      refine CalmR.AllCalm.cons (fun W hB hd => ?_) ?_
      · have hB : Eff (fun q => lo ≤ q ∧ q < hi) _ W := hB
        obtain ⟨h4, -⟩ := hd
        have h4 : f 4 = _ := h4
        rw [h4]
        have q0 := HY W hB
        go_wp2_with (fail)
        exact CalmR.CalmQ.mk rfl _ rfl (Below.refl _ _) rfl
      refine CalmR.AllCalm.cons (fun W hB hd => ?_) ?_
      · have hB : Eff (fun q => lo ≤ q ∧ q < hi) _ W := hB
        have mc := HC W hB
        go_wp2_with ((refine wpList_load_row rfl 25 (.tmp 7) rfl wo.heap.size rfl 25 #[.int .i64 kd, .int .i64 a, .int .i64 n, .slice Ad dl.length cd, .int .u64 (ck : Nat), .int .u64 (cn : Nat), .int .i64 ct, .bool cf] (0, 0) _ mc Try.underlying25 rfl (by kernel_rfl) ?_))
        exact CalmR.CalmQ.mk rfl _ rfl (Below.refl _ _) rfl
      refine CalmR.AllCalm.cons (fun W hB hd => ?_) ?_
      · have hB : Below _ _ W := hB
        obtain ⟨h0, h5, h6, -⟩ := hd
        have h0 : f 0 = _ := h0
        have h5 : f 5 = _ := h5
        have h6 : f 6 = _ := h6
        rw [h0, h5, h6]
        have cW := cD W hB
        go_wp2_with ((go_at_call 10; (with_reducible refine cW.mono ?_); rintro e' w9 ⟨v9, rfl, s9, e9⟩))
        exact CalmR.CalmQ.mk rfl _ rfl e9 ⟨s9, (Eff.of hB).trans e9 fun _ _ h => h⟩
      refine CalmR.AllCalm.cons (fun W hB hd => ?_) ?_
      · have hB : Eff (fun q => lo ≤ q ∧ q < hi) _ W := hB
        go_wp2_with (fail)
        exact CalmR.CalmQ.mk rfl _ rfl ((Below.refl _ W).alloc (Nat.le_refl _) _) ⟨W.heap.size, rfl, hB.size, Mem.new W _ _⟩
      exact CalmR.AllCalm.nil
    · intro W hB hT
      have hB : Eff (fun q => lo ≤ q ∧ q < hi) _ W := hB
      obtain ⟨h0, h1, h2, h3, h4, h5, h6, h7, h8, -⟩ := hT
      have h0 : f 0 = _ := h0
      have h1 : f 1 = _ := h1
      have h2 : f 2 = _ := h2
      have h3 : f 3 = _ := h3
      have h4 : f 4 = _ := h4
      have h5 : f 5 = _ := h5
      have h6 : f 6 = _ := h6
      rw [h0, h1, h2, h3, h4, h5, h6]
      clear h0 h1 h2 h3 h4 h5 h6
      simp only [List.drop_succ_cons, List.drop_zero]
      obtain ⟨⟨s, ky, cc, ii, Ar, cpr, r, D', e7, O7, o7, K7⟩, E7⟩ := h7
      obtain ⟨G, e8, g8, m8⟩ := h8
      rw [e7, e8]
      clear cD HY e7 e8
      have mC7 := HC _ E7
      have n7 := owns_eff o4 E7 fun q hq e => (by have := (own_tag o4 q hq).1; omega)
      have B7 : Below w.heap.size w W := E7.below B4 B4.size fun q _ hq => (by omega)
      obtain ⟨W2, e2, m2⟩ : ∃ W2, W2 = W.setRow G #[.int .i64 s, .int .i64 ky, .int .i64 cc, .slice Ar r.length cpr, .int .i64 ii] ∧ Mem W2 G 36 #[.int .i64 s, .int .i64 ky, .int .i64 cc, .slice Ar r.length cpr, .int .i64 ii] := ⟨_, rfl, m8.row _⟩
      have E2 : Eff (fun q => q = G) W W2 := e2 ▸ eff_setRow W G _
      have K2 := K7.off E2 fun q hq e => (by omega)
      have mC2 := mC7.eff E2 (by omega)
      have oR2 := owns_eff o7 E2 fun q hq e => (own_tag o7 q hq).2.2.ne (mem_tag m8) (by decide) e
      have n2 := owns_eff n7 E2 fun q hq e => (own_tag n7 q hq).2.2.ne (mem_tag m8) (by decide) e
      have B2 : Below w.heap.size w W2 := E2.below B7 B7.size fun q _ hq => (by omega)
      have p2 : hi < W2.heap.size := by have := K2.le; have := (own_tag n2 hi rfl).2.1; omega
      have gC : G ≠ hi := by omega
      have cC : wo.heap.size ≠ hi := by omega
      have m2c0 := m2.cell 0
      subst e2
      go_upto_region 13 with (refine wpList_store_row rfl 36 (.tmp 8) (.tmp 67) rfl G #[.int .i64 s, .int .i64 ky, .int .i64 cc, .slice Ar r.length cpr, .int .i64 ii] rfl rfl 36 #[.int .i64 0, .int .i64 0, .int .i64 0, .slice none 0 0, .int .i64 0] m8 (by kernel_rfl) (by kernel_rfl) (by kernel_rfl) ?_)
      generalize W.setRow G #[.int .i64 s, .int .i64 ky, .int .i64 cc, .slice Ar r.length cpr, .int .i64 ii] = W2 at *
      clear m2c0 E2 m8 n7 o7 K7 mC7 B7 E7 HC HG hB
      have z0 := mC2.cell 0
      have z1 := mC2.cell 1
      have z2 := mC2.cell 2
      have z3 := mC2.cell 3
      have r0 := m2.cell 0
      have r1 := m2.cell 1
      have r2 := m2.cell 2
      have r3 := m2.cell 3
      obtain ⟨W3, e3, oW3, b3⟩ : ∃ W3, W3 = W2.alloc (.cells (madeCells #[Value.int .u8 0] 0) 5) ∧ W3.ownsRow W2.heap.size 5 1 (.slice (some ⟨W2.heap.size, 0, none⟩) 0 0) 0 (bs []) ∧ Below W2.heap.size W2 W3 := ⟨_, rfl, own_made W2 0 (by decide), (Below.refl _ W2).alloc (Nat.le_refl _) _⟩
      have qm : (Instr.makeSlice 22 (.int .i64 0) (.int .i64 0)).run Try.prog W2 = .ok (.slice (some ⟨W2.heap.size, 0, none⟩) 0 0) W3 := e3 ▸ run_make_row 22 5 i0 (.int .u8 0) Try.underlying22 hi0 hz0 hz1 rfl .i64 .i64 0 (by omega) (by omega) W2
      clear e3
      have mC3 := mC2.below b3 mC2.lt
      have m3 := m2.below b3 m2.lt
      have n3 := owns_below n2 b3
      have oR3 := owns_below oR2 b3
      have K3 := K2.below b3
      have B3 := B2.trans (b3.mono B2.size)
      have p3 := Nat.lt_of_lt_of_le p2 b3.size
      have y0 := mC3.cell 0
      have y1 := mC3.cell 1
      have y2 := mC3.cell 2
      have y3 := mC3.cell 3
      have v0 := m3.cell 0
      have v1 := m3.cell 1
      have v2 := m3.cell 2
      have v3 := m3.cell 3
      have wW : W2.heap.size ≠ hi := by omega
      have GL2 := Lib.hid p2
      clear p2 x0
      rcases O7 with ⟨hin, rfl, rfl, rfl, hDD⟩ | ⟨a', n', rfl, rfl, ln, la, lan, O7⟩
      · rw [hDD] at K2 K3
        clear hDD
        have hin' : ¬ (0 ≤ n ∧ n ≤ 32 ∧ 0 ≤ a ∧ a + n ≤ 16) := by
          unfold inB at hin
          exact of_decide_eq_false hin
        clear hin
        by_cases g0 : 0 ≤ a
        case neg => as_aux_lemma =>
          clear hin'
          go_wp2
          exact ⟨⟨i + 1, D, rfl, I1.out, K3, n3, B3, p3⟩, by have := I1.out; simp [intOf]; omega⟩
        by_cases g1 : 0 ≤ n
        case neg => as_aux_lemma =>
          clear hin'
          go_wp2
          exact ⟨⟨i + 1, D, rfl, I1.out, K3, n3, B3, p3⟩, by have := I1.out; simp [intOf]; omega⟩
        by_cases g2 : n ≤ 32
        case neg => as_aux_lemma =>
          clear hin'
          go_wp2
          exact ⟨⟨i + 1, D, rfl, I1.out, K3, n3, B3, p3⟩, by have := I1.out; simp [intOf]; omega⟩
        by_cases g3 : a ≤ 16
        case neg => as_aux_lemma =>
          clear hin'
          go_wp2
          exact ⟨⟨i + 1, D, rfl, I1.out, K3, n3, B3, p3⟩, by have := I1.out; simp [intOf]; omega⟩
        have e1 : IntKind.i64.wrap (16 - a) = 16 - a := IntWalk.i64_in _ (by omega)
        have g4x : ¬ n ≤ 16 - a := by omega
        · as_aux_lemma =>
          clear hin'
          go_wp2
          exact ⟨⟨i + 1, D, rfl, I1.out, K3, n3, B3, p3⟩, by have := I1.out; simp [intOf]; omega⟩
      · have f1 : (0 : Int) ≤ (a' : Int) := by omega
        have f2 : (0 : Int) ≤ (n' : Int) := by omega
        have f3 : (n' : Int) ≤ 32 := by omega
        have f4 : (a' : Int) ≤ 16 := by omega
        have f5 : (n' : Int) ≤ 16 - (a' : Int) := by omega
        have e1 : IntKind.i64.wrap (16 - (a' : Int)) = 16 - (a' : Int) := IntWalk.i64_in _ (by omega)
        have e2 : IntKind.i64.wrap (8 * (a' : Int)) = 8 * (a' : Int) := IntWalk.i64_in _ (by omega)
        have e3 : IntKind.i64.wrap (8 * (n' : Int)) = 8 * (n' : Int) := IntWalk.i64_in _ (by omega)
        have e4 : IntKind.i64.wrap (16 * (n' : Int)) = 16 * (n' : Int) := IntWalk.i64_in _ (by omega)
        have e5 : IntKind.i64.wrap (8 * (a' : Int) + 8 * (n' : Int)) = 8 * (a' : Int) + 8 * (n' : Int) := IntWalk.i64_in _ (by omega)
        have HLN := Lib.hid ln
        have HLA := Lib.hid la
        have HLL := Lib.hid lan
        have HDL := Lib.hid hDlen
        clear ln la lan hDlen
        have t0 : ∀ W : World, Below W2.heap.size W2 W → (convert 22 9 (.slice (some ⟨W2.heap.size, 0, none⟩) 0 0)).run Try.prog W = .ok (.string ⟨#[]⟩) W := fun W hB => ustr (l := []) ⟨rfl, _, _, rfl, Nat.le_refl _, by decide, fun h => absurd rfl h⟩
        obtain ⟨A9, c9, hs9, hs9l⟩ := slice_now hi a' n' HLL.out
        rcases O7 with ⟨rfl, rfl, rfl, hDD⟩ | ⟨rfl, hl, rfl, rfl, hDD⟩ | ⟨rfl, hl, rfl, rfl, hDD⟩ | ⟨rfl, rfl, rfl, hDD⟩ | ⟨rfl, rfl, rfl, hDD⟩ | ⟨rfl, hl, rfl, rfl, hDD⟩ | ⟨rfl, hl, hq, rfl, rfl, hDD⟩ | ⟨rfl, hl, hq, rfl, rfl, rfl, hDD⟩
        · as_aux_lemma =>
          rw [hDD] at K2 K3
          clear hDD
          have hpl : (piece D a' n').length = n' * 8 := piece_len (by have := HLL.out; have := HDL.out; omega)
          have hpc := hs9l W3 D hi n3
          rw [hpl] at v3 oR3 m3
          have hs9' := hs9 W3
          have HPL := Lib.hid hpl
          generalize piece D a' n' = pc at *
          clear hpl hs9 hs9l t0
          have hc8 : n' * 8 ≤ 128 := by have := HLN.out; omega
          have HC8 := Lib.hid hc8
          generalize n' * 8 = n8 at *
          clear hc8
          go_upto_region 38 with (at_builtin; (refine wpList_append_sl _ rfl (.tmp 215) (.tmp 227) _ rfl W2.heap.size 5 i0 _ Try.underlying22 hi0 hz0 hz1 (by omega) rfl (.slice (some ⟨W2.heap.size, 0, none⟩) 0 0) 0 [] rfl oW3 W3.heap.size (.slice A9 n8 c9) n8 (bs pc) rfl hpc bs_one (by have := HC8.out; omega) b3.size ?_); intro v6 w6 ho6 hg6 hat6; have b6 := b3.grown hg6 b3.size fun k hk => (own_tag oW3 k hk).1; have ho6' : w6.ownsRow W2.heap.size 5 1 v6 n8 (bs pc) := (by simpa using ho6); clear ho6; obtain ⟨A6, c6, rfl, _, _⟩ := own_form ho6')
          have u0 := (m2.below b6 m2.lt).cell 0
          have u3 := (m2.below b6 m2.lt).cell 3
          rw [HPL.out] at u3
          have t1 : (convert 22 9 (.slice Ar n8 cpr)).run Try.prog w6 = .ok (.string ⟨pc.toArray⟩) w6 := ustr (Sl.of_own (owns_below (HPL.out ▸ oR2) b6))
          have t2 : (convert 22 9 (.slice A6 n8 c6)).run Try.prog w6 = .ok (.string ⟨pc.toArray⟩) w6 := ustr (Sl.of_own ho6')
          go_wp2
          exact ⟨⟨i + 1, D, rfl, I1.out, K2.below b6, owns_below n2 b6, B2.trans (b6.mono B2.size), Nat.lt_of_lt_of_le GL2.out b6.size⟩, by have := I1.out; simp [intOf]; omega⟩
        · as_aux_lemma =>
          rw [hDD] at K2 K3
          clear hDD
          obtain ⟨Lx, hLx⟩ : ∃ Lx : List UInt8, dl = Lx := ⟨_, rfl⟩
          have HLl : Lx.length = n' * 8 := by rw [← hLx]; exact hl
          have hlx : (dl.length : Int) = 8 * (n' : Int) := by omega
          have HL8 := Lib.hid HLl
          have HX := Lib.hid hLx
          clear hLx HLl hs9 hs9l
          go_wp2
          go_loopw [11] (fun x wq => ∃ k : Nat, x = .int .i64 (k : Nat) ∧ k ≤ n' * 8 ∧ Eff (fun q => q = hi) W3 wq ∧ wq.ownsRow hi 5 1 (.slice (some ⟨hi, 0, none⟩) 128 128) 128 (bs (laid D a' (Lx.take k)))) (fun x _ => n' * 8 - (intOf x).toNat)
          case atStart => exact ⟨0, rfl, Nat.zero_le _, Eff.refl _ _, by rw [List.take_zero, laid_none]; exact n3⟩
          case round =>
            obtain ⟨k, rfl, hk, EQ, oQ⟩ := hrel
            generalize wr = wq at *
            have mQ := mC3.eff EQ cC
            have gQ := m3.eff EQ gC
            have u0 := mQ.cell 0
            have u1 := mQ.cell 1
            have u2 := mQ.cell 2
            have u3 := mQ.cell 3
            have BQ : Below w.heap.size w wq := EQ.below B3 B3.size fun q _ hq => (by omega)
            by_cases hk2 : k < n' * 8
            · have hkx : (k : Int) < 8 * (n' : Int) := by omega
              have hkL : k < Lx.length := by have := HL8.out; omega
              obtain ⟨mm, hmm⟩ : ∃ mm, a' * 8 + k = mm := ⟨_, rfl⟩
              have hm128 : mm < 128 := by have := HLL.out; omega
              have hmx : (mm : Int) < 128 := by omega
              have W9 : IntKind.i64.wrap (8 * (a' : Int) + (k : Int)) = (mm : Nat) := by rw [IntWalk.i64_in _ (by omega)]; omega
              have ow := laid_more (a := a') hkL (by have := HL8.out; have := HLL.out; have := HDL.out; omega) (D := D)
              rw [hmm] at ow
              have HOW := Lib.hid ow
              have HK2 := Lib.hid hk2
              obtain ⟨ov, xc⟩ : ∃ ov, wq.cell? ⟨hi, mm, none⟩ = some ov := ⟨_, own_cells oQ mm _ (List.getElem?_eq_getElem (by rw [oQ.1]; omega))⟩
              have xf := own_free oQ mm
              have hX := HX.out
              subst hX
              obtain ⟨gb, ob, rfl, hgb, hcb⟩ := (k4.now BQ).at_ (by have := HL8.out; omega)
              have xq := hcb k _ (bs_get hkL)
              clear ow hk hk2 hmm hm128
              go_wp2
              go_region
              go_wp2
              exact ⟨⟨k + 1, rfl, HK2.out, (EQ.setCell (p := ⟨hi, mm, none⟩) rfl _).trans (Eff.of (Below.refl _ _).drew) fun _ _ h => h, by rw [HOW.out]; exact own_put oQ (by have := hmx; omega) _⟩, by have := HK2.out; simp [intOf]; omega⟩
            · obtain rfl : k = n' * 8 := by omega
              have oQ' : wq.ownsRow hi 5 1 (.slice (some ⟨hi, 0, none⟩) 128 128) 128 (bs (laid D a' (dl))) := by
                rw [List.take_of_length_le (by have := HL8.out; omega), ← HX.out] at oQ
                exact oQ
              have hkx : ¬ ((n' * 8 : Nat) : Int) < 8 * (n' : Int) := by omega
              have g0 := gQ.cell 0
              have g3 := gQ.cell 3
              have oRQ := owns_eff oR3 EQ fun q hq e => (by have := (own_tag oR3 q hq).1; omega)
              have t1 : (convert 22 9 (.slice (some ⟨W2.heap.size, 0, none⟩) 0 0)).run Try.prog wq = .ok (.string ⟨#[]⟩) wq := ustr (l := []) ⟨rfl, _, _, rfl, Nat.le_refl _, by decide, fun h => absurd rfl h⟩
              have t2 : (convert 22 9 (.slice Ar 0 cpr)).run Try.prog wq = .ok (.string ⟨#[]⟩) wq := ustr (l := []) (Sl.of_own oRQ)
              skip
              clear t0 oQ hk hk2
              go_wp2
              exact ⟨⟨i + 1, laid D a' (dl), rfl, I1.out, K3.off EQ fun q hq e => by omega, oQ', BQ, Nat.lt_of_lt_of_le p3 EQ.size⟩, by have := I1.out; simp [intOf]; omega⟩
        · as_aux_lemma =>
          rw [hDD] at K2 K3
          clear hDD
          have hlx : ¬ (dl.length : Int) = 8 * (n' : Int) := by omega
          clear t0 hs9 hs9l hl
          go_wp2
          exact ⟨⟨i + 1, D, rfl, I1.out, K3, n3, B3, p3⟩, by have := I1.out; simp [intOf]; omega⟩
        · as_aux_lemma =>
          rw [hDD] at K2 K3
          clear hDD
          have t1 := t0 W3 b3
          have t2 : (convert 22 9 (.slice Ar 0 cpr)).run Try.prog W3 = .ok (.string ⟨#[]⟩) W3 := ustr (l := []) (Sl.of_own oR3)
          clear t0 hs9 hs9l
          go_wp2
          exact ⟨⟨i + 1, D, rfl, I1.out, K3, n3, B3, p3⟩, by have := I1.out; simp [intOf]; omega⟩
        · as_aux_lemma =>
          rw [hDD] at K2 K3
          clear hDD
          obtain ⟨Lx, hLx⟩ : ∃ Lx : List UInt8, List.replicate (n' * 8) 0 = Lx := ⟨_, rfl⟩
          have HLl : Lx.length = n' * 8 := by rw [← hLx]; exact List.length_replicate
          skip
          have HL8 := Lib.hid HLl
          have HX := Lib.hid hLx
          clear hLx HLl hs9 hs9l
          go_wp2
          go_loopw [12] (fun x wq => ∃ k : Nat, x = .int .i64 (k : Nat) ∧ k ≤ n' * 8 ∧ Eff (fun q => q = hi) W3 wq ∧ wq.ownsRow hi 5 1 (.slice (some ⟨hi, 0, none⟩) 128 128) 128 (bs (laid D a' (Lx.take k)))) (fun x _ => n' * 8 - (intOf x).toNat)
          case atStart => exact ⟨0, rfl, Nat.zero_le _, Eff.refl _ _, by rw [List.take_zero, laid_none]; exact n3⟩
          case round =>
            obtain ⟨k, rfl, hk, EQ, oQ⟩ := hrel
            generalize wr = wq at *
            have mQ := mC3.eff EQ cC
            have gQ := m3.eff EQ gC
            have u0 := mQ.cell 0
            have u1 := mQ.cell 1
            have u2 := mQ.cell 2
            have u3 := mQ.cell 3
            have BQ : Below w.heap.size w wq := EQ.below B3 B3.size fun q _ hq => (by omega)
            by_cases hk2 : k < n' * 8
            · have hkx : (k : Int) < 8 * (n' : Int) := by omega
              have hkL : k < Lx.length := by have := HL8.out; omega
              obtain ⟨mm, hmm⟩ : ∃ mm, a' * 8 + k = mm := ⟨_, rfl⟩
              have hm128 : mm < 128 := by have := HLL.out; omega
              have hmx : (mm : Int) < 128 := by omega
              have W9 : IntKind.i64.wrap (8 * (a' : Int) + (k : Int)) = (mm : Nat) := by rw [IntWalk.i64_in _ (by omega)]; omega
              have ow := laid_more (a := a') hkL (by have := HL8.out; have := HLL.out; have := HDL.out; omega) (D := D)
              rw [hmm] at ow
              have HOW := Lib.hid ow
              have HK2 := Lib.hid hk2
              obtain ⟨ov, xc⟩ : ∃ ov, wq.cell? ⟨hi, mm, none⟩ = some ov := ⟨_, own_cells oQ mm _ (List.getElem?_eq_getElem (by rw [oQ.1]; omega))⟩
              have xf := own_free oQ mm
              have hL0 : Value.int .u8 ((Lx[k]).toNat : Int) = .int .u8 0 := by
                have hX := HX.out
                subst hX
                simp
              clear ow hk hk2 hmm hm128
              go_wp2
              exact ⟨⟨k + 1, rfl, HK2.out, EQ.setCell (p := ⟨hi, mm, none⟩) rfl (.int .u8 0), by rw [HOW.out, hL0]; exact own_put oQ (by have := hmx; omega) _⟩, by have := HK2.out; simp [intOf]; omega⟩
            · obtain rfl : k = n' * 8 := by omega
              have oQ' : wq.ownsRow hi 5 1 (.slice (some ⟨hi, 0, none⟩) 128 128) 128 (bs (laid D a' (List.replicate (n' * 8) 0))) := by
                rw [List.take_of_length_le (by have := HL8.out; omega), ← HX.out] at oQ
                exact oQ
              have hkx : ¬ ((n' * 8 : Nat) : Int) < 8 * (n' : Int) := by omega
              have g0 := gQ.cell 0
              have g3 := gQ.cell 3
              have oRQ := owns_eff oR3 EQ fun q hq e => (by have := (own_tag oR3 q hq).1; omega)
              have t1 : (convert 22 9 (.slice (some ⟨W2.heap.size, 0, none⟩) 0 0)).run Try.prog wq = .ok (.string ⟨#[]⟩) wq := ustr (l := []) ⟨rfl, _, _, rfl, Nat.le_refl _, by decide, fun h => absurd rfl h⟩
              have t2 : (convert 22 9 (.slice Ar 0 cpr)).run Try.prog wq = .ok (.string ⟨#[]⟩) wq := ustr (l := []) (Sl.of_own oRQ)
              skip
              clear t0 oQ hk hk2
              go_wp2
              exact ⟨⟨i + 1, laid D a' (List.replicate (n' * 8) 0), rfl, I1.out, K3.off EQ fun q hq e => by omega, oQ', BQ, Nat.lt_of_lt_of_le p3 EQ.size⟩, by have := I1.out; simp [intOf]; omega⟩
        · as_aux_lemma =>
          rw [hDD] at K2 K3
          clear hDD
          have hlx : ¬ (dl.length : Int) = 16 * (n' : Int) := by omega
          clear t0 hs9 hs9l hl
          go_wp2
          exact ⟨⟨i + 1, D, rfl, I1.out, K3, n3, B3, p3⟩, by have := I1.out; simp [intOf]; omega⟩
        · as_aux_lemma =>
          rw [hDD] at K2 K3
          clear hDD
          have hcdl : dl.length ≤ cd := HCD.out
          obtain ⟨dB, cB, hsB, hsBl⟩ := slice_half Ad cd n' dl hl hcdl
          have hlx : (dl.length : Int) = 16 * (n' : Int) := by omega
          have hlq : (dl.take (n' * 8)).length = n' * 8 := by rw [List.length_take]; omega
          have HD16 := Lib.hid hl
          clear hl
          have HPL : (piece D a' n').length = n' * 8 := piece_len (by have := HLL.out; have := HDL.out; omega)
          obtain ⟨px, hpx⟩ : ∃ px, piece D a' n' = px := ⟨_, rfl⟩
          obtain ⟨qx, hqx⟩ : ∃ qx, dl.take (n' * 8) = qx := ⟨_, rfl⟩
          have s1 : ∀ W, Below W3.heap.size W3 W → (convert 22 9 (.slice A9 (n' * 8) c9)).run Try.prog W = .ok (.string ⟨px.toArray⟩) W := fun W hB => ustr (hpx ▸ hs9l W D hi (owns_below n3 hB))
          have s2 : ∀ W, Below W3.heap.size W3 W → (convert 22 9 (.slice dB (n' * 8) cB)).run Try.prog W = .ok (.string ⟨qx.toArray⟩) W := fun W hB => ustr (hqx ▸ hsBl W (k4.now (B3.trans (hB.mono B3.size))))
          have hpq : px = qx := by rw [← hpx, ← hqx]; exact hq
          subst hpq
          clear hpx hqx hq hs9l hsBl hlq HPL hcdl
          go_upto_region 29 with (fail)
          have s1n := fun m => s1 (W3.drewN m) (below_drewN (Below.refl _ W3) m)
          have s2n := fun m => s2 (W3.drewN m) (below_drewN (Below.refl _ W3) m)
          go_quiet (fail)
          clear s1 s2 hsB s1n s2n
          obtain ⟨Lx, hLx⟩ : ∃ Lx : List UInt8, dl.drop (n' * 8) = Lx := ⟨_, rfl⟩
          have HLl : Lx.length = n' * 8 := by rw [← hLx]; rw [List.length_drop]; have := HD16.out; omega
          skip
          have HL8 := Lib.hid HLl
          have HX := Lib.hid hLx
          clear hLx HLl hs9
          go_wp2
          go_loopw [13] (fun x wq => ∃ k : Nat, x = .int .i64 (k : Nat) ∧ k ≤ n' * 8 ∧ Eff (fun q => q = hi) W3 wq ∧ wq.ownsRow hi 5 1 (.slice (some ⟨hi, 0, none⟩) 128 128) 128 (bs (laid D a' (Lx.take k)))) (fun x _ => n' * 8 - (intOf x).toNat)
          case atStart => exact ⟨0, rfl, Nat.zero_le _, Eff.of (below_drewN (Below.refl _ W3) _), by rw [List.take_zero, laid_none]; exact n3⟩
          case round =>
            obtain ⟨k, rfl, hk, EQ, oQ⟩ := hrel
            generalize wr = wq at *
            have mQ := mC3.eff EQ cC
            have gQ := m3.eff EQ gC
            have u0 := mQ.cell 0
            have u1 := mQ.cell 1
            have u2 := mQ.cell 2
            have u3 := mQ.cell 3
            have BQ : Below w.heap.size w wq := EQ.below B3 B3.size fun q _ hq => (by omega)
            by_cases hk2 : k < n' * 8
            · have hkx : (k : Int) < 8 * (n' : Int) := by omega
              have hkL : k < Lx.length := by have := HL8.out; omega
              obtain ⟨mm, hmm⟩ : ∃ mm, a' * 8 + k = mm := ⟨_, rfl⟩
              have hm128 : mm < 128 := by have := HLL.out; omega
              have hmx : (mm : Int) < 128 := by omega
              have W9 : IntKind.i64.wrap (8 * (a' : Int) + (k : Int)) = (mm : Nat) := by rw [IntWalk.i64_in _ (by omega)]; omega
              have ow := laid_more (a := a') hkL (by have := HL8.out; have := HLL.out; have := HDL.out; omega) (D := D)
              rw [hmm] at ow
              have HOW := Lib.hid ow
              have HK2 := Lib.hid hk2
              obtain ⟨ov, xc⟩ : ∃ ov, wq.cell? ⟨hi, mm, none⟩ = some ov := ⟨_, own_cells oQ mm _ (List.getElem?_eq_getElem (by rw [oQ.1]; omega))⟩
              have xf := own_free oQ mm
              obtain ⟨m2x, hm2x⟩ : ∃ m2x, n' * 8 + k = m2x := ⟨_, rfl⟩
              have hm2L : m2x < dl.length := by have := HD16.out; omega
              have hm2y : (m2x : Int) < 16 * (n' : Int) := by have := HD16.out; omega
              have W10 : IntKind.i64.wrap (8 * (n' : Int) + (k : Int)) = (m2x : Nat) := by rw [IntWalk.i64_in _ (by omega)]; omega
              have hLk : Lx[k] = dl[m2x] := by
                have hX := HX.out
                subst hX hm2x
                rw [List.getElem_drop]
              obtain ⟨gb, ob, rfl, hgb, hcb⟩ := (k4.now BQ).at_ (by omega)
              have xq := hcb m2x _ (bs_get hm2L)
              rw [← hLk] at xq
              clear hLk hm2x hm2L
              clear ow hk hk2 hmm hm128
              go_wp2
              go_region
              go_wp2
              exact ⟨⟨k + 1, rfl, HK2.out, (EQ.setCell (p := ⟨hi, mm, none⟩) rfl _).trans (Eff.of (Below.refl _ _).drew) fun _ _ h => h, by rw [HOW.out]; exact own_put oQ (by have := hmx; omega) _⟩, by have := HK2.out; simp [intOf]; omega⟩
            · obtain rfl : k = n' * 8 := by omega
              have oQ' : wq.ownsRow hi 5 1 (.slice (some ⟨hi, 0, none⟩) 128 128) 128 (bs (laid D a' (dl.drop (n' * 8)))) := by
                rw [List.take_of_length_le (by have := HL8.out; omega), ← HX.out] at oQ
                exact oQ
              have hkx : ¬ ((n' * 8 : Nat) : Int) < 8 * (n' : Int) := by omega
              have g0 := gQ.cell 0
              have g3 := gQ.cell 3
              have oRQ := owns_eff oR3 EQ fun q hq e => (by have := (own_tag oR3 q hq).1; omega)
              have t1 : (convert 22 9 (.slice (some ⟨W2.heap.size, 0, none⟩) 0 0)).run Try.prog wq = .ok (.string ⟨#[]⟩) wq := ustr (l := []) ⟨rfl, _, _, rfl, Nat.le_refl _, by decide, fun h => absurd rfl h⟩
              have t2 : (convert 22 9 (.slice Ar 0 cpr)).run Try.prog wq = .ok (.string ⟨#[]⟩) wq := ustr (l := []) (Sl.of_own oRQ)
              skip
              clear t0 oQ hk hk2
              go_wp2
              exact ⟨⟨i + 1, laid D a' (dl.drop (n' * 8)), rfl, I1.out, K3.off EQ fun q hq e => by omega, oQ', BQ, Nat.lt_of_lt_of_le p3 EQ.size⟩, by have := I1.out; simp [intOf]; omega⟩
        · as_aux_lemma =>
          rw [hDD] at K2 K3
          clear hDD
          have hcdl : dl.length ≤ cd := HCD.out
          obtain ⟨dB, cB, hsB, hsBl⟩ := slice_half Ad cd n' dl hl hcdl
          have hlx : (dl.length : Int) = 16 * (n' : Int) := by omega
          have hlq : (dl.take (n' * 8)).length = n' * 8 := by rw [List.length_take]; omega
          have HD16 := Lib.hid hl
          clear hl
          have HPL : (piece D a' n').length = n' * 8 := piece_len (by have := HLL.out; have := HDL.out; omega)
          obtain ⟨px, hpx⟩ : ∃ px, piece D a' n' = px := ⟨_, rfl⟩
          obtain ⟨qx, hqx⟩ : ∃ qx, dl.take (n' * 8) = qx := ⟨_, rfl⟩
          have s1 : ∀ W, Below W3.heap.size W3 W → (convert 22 9 (.slice A9 (n' * 8) c9)).run Try.prog W = .ok (.string ⟨px.toArray⟩) W := fun W hB => ustr (hpx ▸ hs9l W D hi (owns_below n3 hB))
          have s2 : ∀ W, Below W3.heap.size W3 W → (convert 22 9 (.slice dB (n' * 8) cB)).run Try.prog W = .ok (.string ⟨qx.toArray⟩) W := fun W hB => ustr (hqx ▸ hsBl W (k4.now (B3.trans (hB.mono B3.size))))
          have hpq : (px == qx) = false := by rw [← hpx, ← hqx]; simpa using hq
          have hpq2 : ¬ px = qx := by rw [← hpx, ← hqx]; exact hq
          clear hpx hqx hq hs9l hsBl hlq HPL hcdl
          go_upto_region 29 with (fail)
          have s1n := fun m => s1 (W3.drewN m) (below_drewN (Below.refl _ W3) m)
          have s2n := fun m => s2 (W3.drewN m) (below_drewN (Below.refl _ W3) m)
          go_quiet (fail)
          clear s1 s2 hsB hs9 t0 s1n s2n
          go_wp2
          exact ⟨⟨i + 1, D, rfl, I1.out, K3.below (below_drewN (Below.refl _ W3) _), n3, below_drewN B3 _, p3⟩, by have := I1.out; simp [intOf]; omega⟩
set_option maxRecDepth 100000 in
theorem lifted (os : Os) (started : os.Started) (H : Type) (enc : TypeId × Value → H) :
    ReturnsInHanded {} Try.checked os 5 .any (Rows.unitReadsSpec.pre6 enc Try.prog Try.f5 Rows.unitReadsRow.domain false) (Rows.unitReadsSpec.post enc Try.prog Try.f5 false true false false) := by
  refine returnsInHanded_of_change (C := Try.checked) own started (by kernel_rfl) Try.func5
    (ChangeSpec.witness6 (enc := enc) (C := Try.checked) false ⟨#[], #[.slice none 0 0], []⟩ 8 (by kernel_rfl) (by kernel_rfl) (by kernel_rfl) (by kernel_rfl)) ?_
  intro W base args ds gs before hval0 hW hcnd _
  have hval : ∀ (j : Nat) t v, Try.f5.params[j]? = some t → args[j]? = some v → Value.okWide Try.prog W .any base t v := hval0
  have hW' := hW
  obtain ⟨p, q, hA0, hV, rfl, hfz, hnd⟩ := hW
  have hA : DataW.TrodAll enc Try.prog W 0 (fun _ => true) true Try.f5.params.toList args.toList ds p := hA0
  rw [Try.params5] at hA hval
  obtain ⟨v0, vs0, d0, ds0, p0, q0, hargs, rfl, rfl, h0, r0⟩ := trodAll_cons hA
  obtain ⟨rfl, rfl, rfl⟩ := trodAll_nil r0
  obtain rfl : args = #[v0] := by cases args; simp_all
  obtain ⟨rfl, rfl⟩ := trodVars_none hV
  obtain ⟨acs0, s0⟩ := open_acts (hval 0 30 v0 rfl rfl) h0
  refine (walk v0 acs0 W s0).mono fun e W' ⟨he, hb⟩ => ?_
  subst he
  exact ⟨_, rfl, law_post laidOut (by kernel_rfl) rfl (by kernel_rfl) Try.underlying4 rfl rfl rfl hW' hb⟩

theorem proved : Rows.UnitReadsSaid :=
  OpenClaim.holds_of_wide 5 Try.f5 rfl rfl rfl rfl rfl rfl rfl ⟨rfl, rfl, rfl, rfl, rfl⟩ rfl rfl rfl rfl rfl (by kernel_rfl) Try.func5 (by kernel_rfl)
    (of_decide_eq_true (by kernel_rfl)) (by unfold Func.isWrapper; first | (rw [if_pos (by decide +kernel)]; kernel_rfl) | (rw [if_neg (by decide +kernel)]; exact ⟨rfl, rfl⟩))
    (fun os started H enc _ => lifted os started H enc)
end Un
end Go.Proofs.Ytpkebbibafldkaa
