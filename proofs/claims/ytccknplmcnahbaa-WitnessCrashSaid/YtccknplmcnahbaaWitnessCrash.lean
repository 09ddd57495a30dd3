/- WitnessCrash: for all bytes, any number of calls until the power goes and all picks the statement's function tells true and turns nothing that was there. No condition. -/
import Derived.Test.YtccknplmcnahbaaWt7
import Derived.Laws.BitsLemmas
import Derived.Deep.DeepCutAuto
namespace Go.Proofs.Ytccknplmcnahbaa
open Go.ChangeShapes Go.WideShapes Go.ChangeAt Go.RowKit Go.Lib
set_option linter.unusedVariables false
set_option linter.unusedSimpArgs false
set_option maxRecDepth 100000
namespace Wt
open Dk Tw
theorem u8_and1' (x : Nat) (h : x ≤ 255) : bits .and .u8 (x : Int) 1 = ((x % 2 : Nat) : Int) := by
  have := bits_mask .u8 8 (by decide) wraps_u8 1 (by decide) (x : Int) (by omega) (by omega)
  exact this.trans (by omega)
set_option maxHeartbeats 8000000 in
theorem walk_no (v0 : Value) (l : List UInt8) (a1 : Int) (v2 : Value) (zs : List Int) (w : World) (h0 : Sl w w.heap.size v0 l.length (bs l)) (h2 : Sl w w.heap.size v2 zs.length (zints zs)) (hno : 20 < l.length ∨ a1 < 1 ∨ 60 < a1 ∨ 20 < zs.length) : Calls Try.prog 4 #[v0, .int .i64 a1, v2] w fun e' w' => e' = .returned (.bool true) ∧ Below w.heap.size w w' := by
  obtain ⟨A, c, rfl, hc1, hc2⟩ := h0.form
  obtain ⟨A2, c2, rfl, hd1, hd2⟩ := h2.form
  clear h0 h2 hc1 hc2 hd1 hd2
  by_cases x1 : 20 < l.length
  · have x1x : 20 < (l.length : Int) := by omega
    clear hno
    go_enter Try.func4, Try.ntmps4
    go_wp2_with (go_at_call 6; refine (known_any _).mono ?_; rintro e' w1 ⟨rfl, hb1⟩)
    go_ret
    exact ⟨rfl, hb1⟩
  have x1x : (l.length : Int) ≤ 20 := by omega
  by_cases x2 : a1 < 1
  · clear hno
    go_enter Try.func4, Try.ntmps4
    go_wp2_with (go_at_call 6; refine (known_any _).mono ?_; rintro e' w1 ⟨rfl, hb1⟩)
    go_ret
    exact ⟨rfl, hb1⟩
  have x2x : 1 ≤ a1 := by omega
  by_cases x3 : 60 < a1
  · clear hno
    go_enter Try.func4, Try.ntmps4
    go_wp2_with (go_at_call 6; refine (known_any _).mono ?_; rintro e' w1 ⟨rfl, hb1⟩)
    go_ret
    exact ⟨rfl, hb1⟩
  have x3x : a1 ≤ 60 := by omega
  have x4x : 20 < (zs.length : Int) := by omega
  clear hno x1 x2 x3
  go_enter Try.func4, Try.ntmps4
  go_wp2_with (go_at_call 6; refine (known_any _).mono ?_; rintro e' w1 ⟨rfl, hb1⟩)
  go_ret
  exact ⟨rfl, hb1⟩
set_option maxHeartbeats 16000000 in
theorem walk_yes (v0 : Value) (l : List UInt8) (am : Nat) (v2 : Value) (zs : List Int) (w : World) (hv : Sl w w.heap.size v0 l.length (bs l)) (H2 : Sl w w.heap.size v2 zs.length (zints zs)) (hz : PkOk zs) (hl : l.length ≤ 20) (ha1 : 1 ≤ am) (ha2 : am ≤ 60) (hzl : zs.length ≤ 20) : Calls Try.prog 4 #[v0, .int .i64 (am : Nat), v2] w fun e' w' => e' = .returned (.bool true) ∧ Below w.heap.size w w' := by
  obtain ⟨A, c, rfl, hc1, hc2⟩ := hv.form
  obtain ⟨A2, c2, rfl, hd1, hd2⟩ := H2.form
  unfold maxLen at hc2 hd2
  have hlx : (l.length : Int) ≤ 20 := by omega
  have hax : ¬ (am : Int) < 1 := by omega
  have hay : ¬ 60 < (am : Int) := by omega
  have hzx : (zs.length : Int) ≤ 20 := by omega
  have cN : ∀ W, Below w.heap.size w W → Calls Try.prog 10 #[.int .i64 2] W fun e' w' => ∃ X O, e' = .returned (.tuple #[.pointer (some ⟨X, 0, none⟩), .int .i64 0]) ∧ Dsk w w' X O (DS.new 2) := fun W hW => (d_new (o := w) 2 (by decide) (by decide) hW).mono fun e' w' ⟨X, O, h1, h2, _⟩ => ⟨X, O, h1, h2⟩
  have cF : ∀ X O W, Dsk w W X O (DS.new 2) → Calls Try.prog 11 #[.pointer (some ⟨X, 0, none⟩), .agg #[.int .u64 1, .int .i64 0, .int .i64 3]] W fun e' w' => ∃ O', e' = .returned (.int .i64 0) ∧ Dsk w w' X O' S0 := fun X O W h => (wformat_ok (e := 1) (p := 0) (m := 3) h (new_up 2) (by decide) (by decide) (by decide) (by decide) rfl).mono fun e' w' ⟨O', h1, h2, _⟩ => ⟨O', h1, h2⟩
  have cO : ∀ X O W, Dsk w W X O S0 → Calls Try.prog 12 #[.pointer (some ⟨X, 0, none⟩)] W fun e' w' => ∃ Z Y, e' = .returned (.tuple #[.pointer (some ⟨Z, 0, none⟩), .int .i64 0]) ∧ Wit w w' Z Y X O S0 1 (encS 1 0 3) 1 0 3 := fun X O W h => (wopen_is (e := 1) (p := 0) (m := 3) h S0_cl.dead S0_cl.off (by rw [S0_cl.len]; decide) (by rw [S0_cl.wtg]; decide) (by decide) rfl S0_cl.best).mono fun e' w' ⟨Z, Y, h1, h2, _⟩ => ⟨Z, Y, h1, h2⟩
  have cA : ∀ Z Y X O W, Wit w W Z Y X O S0 1 (encS 1 0 3) 1 0 3 → Calls Try.prog 13 #[.pointer (some ⟨X, 0, none⟩), .int .i64 (am : Nat), .slice A2 zs.length c2] W fun e' w' => e' = .returned (.tuple #[]) ∧ ∃ O', Wit w w' Z Y X O' { S0 with arm := am, picks := zs } 1 (encS 1 0 3) 1 0 3 := fun Z Y X O W h => (d_arm h.dsk am ha1 (by omega) (.slice A2 zs.length c2) zs (H2.below h.dsk.bl) (by omega)).mono fun e' w' ⟨h1, O', h2, h3, h4⟩ => ⟨h1, O', h.re h2 h3 h4⟩
  go_enter Try.func4, Try.ntmps4
  go_wp2_with (first
    | (go_at_call 6; refine (known_any _).mono ?_; rintro e' w1 ⟨rfl, hb1⟩)
    | (go_at_call 10; (with_reducible refine (cN _ hb1).mono ?_); rintro e' w2 ⟨X, O2, rfl, h2⟩)
    | (go_at_call 11; (with_reducible refine (cF _ _ _ h2).mono ?_); rintro e' w3 ⟨O3, rfl, h3⟩)
    | (go_at_call 12; (with_reducible refine (cO _ _ _ h3).mono ?_); rintro e' w4 ⟨Z, Y, rfl, h4⟩)
    | (go_at_call 13; (with_reducible refine (cA _ _ _ _ _ h4).mono ?_); rintro e' w5 ⟨rfl, O5, h5⟩)
    | (refine wpList_store_row rfl 24 (.tmp 11) (.tmp 55) rfl w5.heap.size #[.int .u64 1, .int .i64 0, .int .i64 3] rfl rfl 24 #[.int .u64 0, .int .i64 0, .int .i64 0] (Mem.new w5 _ _) (by kernel_rfl) (by kernel_rfl) (by kernel_rfl) ?_; obtain ⟨w6, e6, h6, m6, b6⟩ := boxW h5 #[.int .u64 1, .int .i64 0, .int .i64 3]; rw [← e6]; clear e6))
  obtain ⟨N, hN, hP0⟩ : ∃ N, N = w5.heap.size ∧ Ph w w6 Z Y X N 0 O5 { S0 with arm := am, picks := zs } 1 1 0 3 := ⟨_, rfl, h6, S0_cl.armed am (by omega) zs hz, m6, fun hO => by obtain ⟨V, hV⟩ := h5.dsk.is; have := hV.lt _ hO; omega, h5.dsk.bl.size, rfl, Nat.le_refl _, Nat.le_refl _⟩
  rw [← hN]
  generalize ({ S0 with arm := am, picks := zs } : DS) = S5 at *
  clear cN cF cO cA hN m6 b6 h6 h5 h4 h3 h2 hb1 hax hay
  go_loopw [9, 12] (fun s9 s12 wr => ∃ (j Z Y : Nat) (O : Nat → Prop) (S : DS) (n e p m : Nat), j ≤ l.length ∧ s9 = .pointer (some ⟨Z, 0, none⟩) ∧ s12 = .int .i64 (j : Nat) ∧ Ph w wr Z Y X N j O S n e p m) (fun _ s12 _ => l.length - (intOf s12).toNat)
  case atStart => exact ⟨0, Z, Y, O5, S5, 1, 1, 0, 3, Nat.zero_le _, rfl, rfl, hP0⟩
  case round =>
    clear hP0
    obtain ⟨j, Z, Y, O, S, n, e, p, m, hj, rfl, rfl, hP⟩ := hrel
    by_cases hlt : j < l.length
    · have hltx : (j : Int) < (l.length : Int) := by omega
      obtain ⟨b, off, rfl, hb, hcell⟩ := hv.at_ (by omega)
      have x0 := hcell j _ (bs_get hlt)
      generalize l[j] = u at *
      have hu := u.toNat_lt
      generalize u.toNat = q at *
      have y1 := u8_and1' q (by omega)
      obtain ⟨P, hp, hp2⟩ : ∃ P, q % 2 = P ∧ P < 2 := ⟨_, rfl, by omega⟩
      rw [hp] at y1
      obtain ⟨d2, y2⟩ : ∃ d2 : Int, bits .and .u8 (q : Int) 2 = d2 := ⟨_, rfl⟩
      have hqx : (q : Int) ≤ 255 := by omega
      have hs : ∀ W, Below wr.heap.size wr W → W.cell? ⟨b, off + j, none⟩ = some (.int .u8 (q : Nat)) := fun W hW => ((hP.bl.trans (hW.mono hP.bl.size)).cell (p := ⟨b, off + j, none⟩) hb).trans x0
      have hj20 : j ≤ 20 := by omega
      have hle : (e : Int) ≤ 30 := by have := hP.le; omega
      have hjx : (j : Int) ≤ 20 := by omega
      clear hp hu x0 hcell
      go_upto_region 13 with (fail)
      rename_i K0 hK0
      have HK0 := Lib.hid hK0
      clear hK0
      apply calm_tail 11 [.is _, .is _, .is _, .is _, .is _, .is _, .is _, .is _, .is _, .is _, .of (fun u W => ∃ g, u = .pointer (some ⟨g, 0, none⟩) ∧ wr.heap.size ≤ g ∧ Mem W g 24 #[.int .u64 0, .int .i64 0, .int .i64 0]) (fun u W W' hb ⟨g, hu, h1, h2⟩ => ⟨g, hu, h1, Mem.below h2 hb (Mem.lt h2)⟩)] [[], [0], [1], [], [], [3, 4], [5], [6], [7], [2, 8], []] (by kernel_rfl) (by kernel_rfl) (by kernel_rfl) rfl
      intro f a1 ha1
      simp only [List.take_succ_cons, List.take_zero, putL, Act.put, List.setIfInBounds_toArray, List.set_cons_succ, List.set_cons_zero] at ha1
      subst ha1
      refine ⟨?_, ?_⟩
      · refine AllCalm.cons (fun W hB hd => ?_) ?_
        · go_wp2_with (fail)
          exact CalmQ.mk rfl _ rfl (Below.refl _ _) rfl
        refine AllCalm.cons (fun W hB hd => ?_) ?_
        · obtain ⟨h0, -⟩ := hd
          have h0 : f 0 = _ := h0
          rw [h0]
          have k8 := (l3 (hP.below hB).mN).cell 0
          go_wp2_with (fail)
          exact CalmQ.mk rfl _ rfl (Below.refl _ _) rfl
        refine AllCalm.cons (fun W hB hd => ?_) ?_
        · obtain ⟨h1, -⟩ := hd
          have h1 : f 1 = _ := h1
          rw [h1]
          go_wp2_with (fail)
          exact CalmQ.mk rfl _ rfl (Below.refl _ _) rfl
        refine AllCalm.cons (fun W hB hd => ?_) ?_
        · go_wp2_with (fail)
          exact CalmQ.mk rfl _ rfl (Below.refl _ _) rfl
        refine AllCalm.cons (fun W hB hd => ?_) ?_
        · go_wp2_with (fail)
          exact CalmQ.mk rfl _ rfl (Below.refl _ _) rfl
        refine AllCalm.cons (fun W hB hd => ?_) ?_
        · obtain ⟨h3, h4, -⟩ := hd
          have h3 : f 3 = _ := h3
          have h4 : f 4 = _ := h4
          rw [h3, h4]
          go_wp2_with (fail)
          exact CalmQ.mk rfl _ rfl (Below.refl _ _) rfl
        refine AllCalm.cons (fun W hB hd => ?_) ?_
        · obtain ⟨h5, -⟩ := hd
          have h5 : f 5 = _ := h5
          rw [h5]
          have y0 := hs W hB
          go_wp2_with (fail)
          exact CalmQ.mk rfl _ rfl (Below.refl _ _) rfl
        refine AllCalm.cons (fun W hB hd => ?_) ?_
        · obtain ⟨h6, -⟩ := hd
          have h6 : f 6 = _ := h6
          rw [h6]
          go_wp2_with (fail)
          exact CalmQ.mk rfl _ rfl (Below.refl _ _) rfl
        refine AllCalm.cons (fun W hB hd => ?_) ?_
        · obtain ⟨h7, -⟩ := hd
          have h7 : f 7 = _ := h7
          rw [h7]
          go_wp2_with (fail)
          exact CalmQ.mk rfl _ rfl (Below.refl _ _) rfl
        refine AllCalm.cons (fun W hB hd => ?_) ?_
        · obtain ⟨h2, h8, -⟩ := hd
          have h2 : f 2 = _ := h2
          have h8 : f 8 = _ := h8
          rw [h2, h8]
          go_wp2_with (fail)
          exact CalmQ.mk rfl _ rfl (Below.refl _ _) rfl
        refine AllCalm.cons (fun W hB hd => ?_) ?_
        · go_wp2_with (fail)
          exact CalmQ.mk rfl _ rfl ((Below.refl _ W).alloc (Nat.le_refl _) _) ⟨_, rfl, hB.size, Mem.new _ _ _⟩
        exact AllCalm.nil
      · intro W hB hT
        obtain ⟨h0, h1, h2, h3, h4, h5, h6, h7, h8, h9, h10, -⟩ := hT
        have h0 : f 0 = _ := h0
        have h1 : f 1 = _ := h1
        have h2 : f 2 = _ := h2
        have h3 : f 3 = _ := h3
        have h4 : f 4 = _ := h4
        have h5 : f 5 = _ := h5
        have h6 : f 6 = _ := h6
        have h7 : f 7 = _ := h7
        have h8 : f 8 = _ := h8
        have h9 : f 9 = _ := h9
        rw [h0, h1, h2, h3, h4, h5, h6, h7, h8, h9]
        clear h0 h1 h2 h3 h4 h5 h6 h7 h8 h9
        simp only [List.drop_succ_cons, List.drop_zero]
        have hz0 := trivial
        obtain ⟨g, hgv, hg1, hgm⟩ := h10
        rw [hgv]
        obtain ⟨W2, e2, B2, m2⟩ : ∃ W2, W2 = W.setRow g #[.int .u64 ((e : Int) + 1), .int .i64 (P : Nat), .int .i64 3] ∧ Below wr.heap.size wr W2 ∧ Mem W2 g 24 #[.int .u64 ((e : Int) + 1), .int .i64 (P : Nat), .int .i64 3] := ⟨_, rfl, below_setRow hB hg1 _, hgm.row _⟩
        subst e2
        go_wp2_with (refine wpList_store_row rfl 24 (.tmp 13) (.tmp 71) rfl g #[.int .u64 ((e : Int) + 1), .int .i64 (P : Nat), .int .i64 3] rfl rfl 24 #[.int .u64 0, .int .i64 0, .int .i64 0] hgm (by kernel_rfl) (by kernel_rfl) (by kernel_rfl) ?_)
        refine HK0.out _ _ ?_
        clear HK0 K0 h0 h1 h2 h3 h4 h5 h6 h7 h8 h9 hgv
        generalize W.setRow g #[.int .u64 ((e : Int) + 1), .int .i64 (P : Nat), .int .i64 3] = W2 at *
        go_step
        go_simp
        go_cut [] (fun wx => ∃ m' : Nat, Cut w wx Z Y X N g j O S n e p m (e + 1) P m')
        case first =>
          have z0 := hs W2 B2
          have c1 := m2.cell 1
          have c2 := m2.cell 2
          have fr := m2.free 2
          by_cases hd : d2 = 2
          · subst hd
            have hP01 : P = 0 ∨ P = 1 := by omega
            rcases hP01 with rfl | rfl
            · go_wp2
              go_meet
              exact ⟨1, hP.cut (B2.setCell hg1 _) hg1 (m2.put 2 _) rfl⟩
            · go_wp2
              go_meet
              exact ⟨2, hP.cut (B2.setCell hg1 _) hg1 (m2.put 2 _) rfl⟩
          · have hdx : (d2 == 2) = false := beq_eq_false_iff_ne.2 hd
            go_wp2
            go_meet
            exact ⟨3, hP.cut B2 hg1 m2 (by
              have hP01 : P = 0 ∨ P = 1 := by omega
              rcases hP01 with rfl | rfl <;> rfl)⟩
        case rest =>
          obtain ⟨m', hC⟩ := hcut
          clear hs B2 m2 hgm hB
          generalize e + 1 = ff at hC
          have hCn := hC.ph.le
          have hO1 := hC.ph.ok
          have hO2 := hC.ok'
          have hf2 : ff ≤ j + 1 + 1 := by have := hC.ne; omega
          have HF := Lib.hid hf2
          have q0 := (l3 hC.ph.mN).cell 0
          have mg := l3 hC.mg
          have kf : ((ff : Int) == (e : Int)) = false := beq_eq_false_iff_ne.2 (by have := hC.ne; omega)
          by_cases hA : S.arm = 1 ∨ S.arm = 2
          · have hc := cas_dn hC hj20 hA
            clear hC hA
            go_wp2_with (first
              | (refine wpList_load_row rfl 24 (.tmp 13) rfl g rfl 24 #[.int .u64 (ff : Nat), .int .i64 (P : Nat), .int .i64 (m' : Nat)] (0, 0) _ mg Try.underlying24 rfl (by kernel_rfl) ?_)
              | (go_at_call 14; (with_reducible refine hc.mono ?_); rintro e' w6 ⟨rfl, O6, S6, h6⟩)
              | (refine wpList_store_row rfl 24 (.tmp 14) (.tmp 89) rfl w6.heap.size #[.int .u64 (e : Nat), .int .i64 (p : Nat), .int .i64 (m : Nat)] rfl rfl 24 #[.int .u64 0, .int .i64 0, .int .i64 0] (Mem.new w6 _ _) (by kernel_rfl) (by kernel_rfl) (by kernel_rfl) ?_; obtain ⟨w7, e7, b7⟩ := box3 w6 #[.int .u64 (e : Nat), .int .i64 (p : Nat), .int .i64 (m : Nat)]; rw [← e7]; clear e7; have h7 := h6.below b7)
              | (go_at_call 15; (with_reducible refine (dn_on h7).mono ?_); rintro e' w8 ⟨rfl, S8, n8, h8⟩))
            rcases h8 with h8 | h8
            · have ho := rs_open h8 hO1 (by omega)
              clear h8 h7 h6 hc q0 mg b7
              go_wp2_with (go_at_call 12; (with_reducible refine ho.mono ?_); rintro e' w9 ⟨Z9, Y9, rfl, H9⟩)
              clear ho
              have hg9 : ∀ W, Below w9.heap.size w9 W → Calls Try.prog 16 #[.pointer (some ⟨Z9, 0, none⟩)] W fun e' w' => e' = .returned (.agg #[.int .u64 (e : Nat), .int .i64 (p : Nat), .int .i64 (m : Nat)]) ∧ Below W.heap.size W w' := fun W hB => get_any (H9.below hB).wit
              apply calm_region [.is _, .is _, .is _, .is _, .is _, .is _, .is _, .is _, .is _, .is _, .is (.bool false), .is (.bool false), .any, .any, .any, .any, .is _, .is _] [[], [0], [1], [2], [3, 2], [2, 4], [5, 2], [6], [7, 6, 6], [6], [8, 9, 6], [10, 8, 6], [11], [12, 11, 11], [11], [13, 14, 11], [11, 15, 6], [6, 16]] (by kernel_rfl) (by kernel_rfl) (by kernel_rfl) rfl
              intro f a1 ha1
              simp only [putL, Act.put, List.setIfInBounds_toArray, List.set_cons_succ, List.set_cons_zero] at ha1
              subst ha1
              refine ⟨?_, ?_⟩
              · refine AllCalm.cons (fun W hB hd => ?_) ?_
                · go_wp2_with (fail)
                  exact CalmQ.mk rfl _ rfl (Below.refl _ _) rfl
                refine AllCalm.cons (fun W hB hd => ?_) ?_
                · obtain ⟨h0, -⟩ := hd
                  have h0 : f 0 = _ := h0
                  rw [h0]
                  go_wp2_with (fail)
                  exact CalmQ.mk rfl _ rfl (Below.refl _ _) rfl
                refine AllCalm.cons (fun W hB hd => ?_) ?_
                · obtain ⟨h1, -⟩ := hd
                  have h1 : f 1 = _ := h1
                  rw [h1]
                  go_wp2_with (fail)
                  exact CalmQ.mk rfl _ rfl (Below.refl _ _) rfl
                refine AllCalm.cons (fun W hB hd => ?_) ?_
                · obtain ⟨h2, -⟩ := hd
                  have h2 : f 2 = _ := h2
                  rw [h2]
                  go_wp2_with (fail)
                  exact CalmQ.mk rfl _ rfl (Below.refl _ _) rfl
                refine AllCalm.cons (fun W hB hd => ?_) ?_
                · obtain ⟨h3, h2, -⟩ := hd
                  have h3 : f 3 = _ := h3
                  have h2 : f 2 = _ := h2
                  rw [h3, h2]
                  go_wp2_with (fail)
                  exact CalmQ.mk rfl _ rfl (Below.refl _ _) rfl
                refine AllCalm.cons (fun W hB hd => ?_) ?_
                · obtain ⟨h2, h4, -⟩ := hd
                  have h2 : f 2 = _ := h2
                  have h4 : f 4 = _ := h4
                  rw [h2, h4]
                  go_wp2_with (fail)
                  exact CalmQ.mk rfl _ rfl (Below.refl _ _) rfl
                refine AllCalm.cons (fun W hB hd => ?_) ?_
                · obtain ⟨h5, h2, -⟩ := hd
                  have h5 : f 5 = _ := h5
                  have h2 : f 2 = _ := h2
                  rw [h5, h2]
                  go_wp2_with (fail)
                  exact CalmQ.mk rfl _ rfl (Below.refl _ _) rfl
                refine AllCalm.cons (fun W hB hd => ?_) ?_
                · obtain ⟨h6, -⟩ := hd
                  have h6 : f 6 = _ := h6
                  rw [h6]
                  go_wp2_with (fail)
                  exact CalmQ.mk rfl _ rfl (Below.refl _ _) rfl
                refine AllCalm.cons (fun W hB hd => ?_) ?_
                · obtain ⟨h7, h6, -, -⟩ := hd
                  have h7 : f 7 = _ := h7
                  have h6 : f 6 = _ := h6
                  rw [h7, h6]
                  go_wp2_with ((go_at_call 16; (with_reducible refine (hg9 _ hB).mono ?_); rintro e' w8 ⟨rfl, b8⟩))
                  exact CalmQ.mk rfl _ rfl b8 rfl
                refine AllCalm.cons (fun W hB hd => ?_) ?_
                · obtain ⟨h6, -⟩ := hd
                  have h6 : f 6 = _ := h6
                  rw [h6]
                  have k8 := l3 (H9.below hB).mN; have u0 := k8.cell 0; have u1 := k8.cell 1; have u2 := k8.cell 2
                  go_wp2_with (fail)
                  exact CalmQ.mk rfl _ rfl (Below.refl _ _) rfl
                refine AllCalm.cons (fun W hB hd => ?_) ?_
                · obtain ⟨h8, h9, h6, -⟩ := hd
                  have h8 : f 8 = _ := h8
                  have h9 : f 9 = _ := h9
                  have h6 : f 6 = _ := h6
                  rw [h8, h9, h6]
                  go_wp2_with (fail)
                  exact CalmQ.mk rfl _ rfl (Below.refl _ _) rfl
                refine AllCalm.cons (fun W hB hd => ?_) ?_
                · obtain ⟨h10, h8, h6, -⟩ := hd
                  have h10 : f 10 = _ := h10
                  have h8 : f 8 = _ := h8
                  have h6 : f 6 = _ := h6
                  rw [h10, h8, h6]
                  go_wp2_with (fail)
                  exact CalmQ.mk rfl _ rfl (Below.refl _ _) rfl
                refine AllCalm.cons (fun W hB hd => ?_) ?_
                · obtain ⟨h11, -⟩ := hd
                  have h11 : f 11 = _ := h11
                  rw [h11]
                  go_wp2_with (fail)
                  exact CalmQ.mk rfl _ rfl (Below.refl _ _) trivial
                refine AllCalm.cons (fun W hB hd => ?_) ?_
                · obtain ⟨h12, h11, -, -⟩ := hd
                  have h11 : f 11 = _ := h11
                  rw [h11]
                  go_wp2_with (fail)
                  exact CalmQ.mk rfl _ rfl (Below.refl _ _) trivial
                refine AllCalm.cons (fun W hB hd => ?_) ?_
                · obtain ⟨h11, -⟩ := hd
                  have h11 : f 11 = _ := h11
                  rw [h11]
                  go_wp2_with (fail)
                  exact CalmQ.mk rfl _ rfl (Below.refl _ _) trivial
                refine AllCalm.cons (fun W hB hd => ?_) ?_
                · obtain ⟨h13, h14, h11, -⟩ := hd
                  have h11 : f 11 = _ := h11
                  rw [h11]
                  go_wp2_with (fail)
                  exact CalmQ.mk rfl _ rfl (Below.refl _ _) trivial
                refine AllCalm.cons (fun W hB hd => ?_) ?_
                · obtain ⟨h11, h15, h6, -⟩ := hd
                  have h11 : f 11 = _ := h11
                  have h6 : f 6 = _ := h6
                  rw [h11, h6]
                  go_wp2_with (fail)
                  exact CalmQ.mk rfl _ rfl (Below.refl _ _) rfl
                refine AllCalm.cons (fun W hB hd => ?_) ?_
                · obtain ⟨h6, h16, -⟩ := hd
                  have h6 : f 6 = _ := h6
                  have h16 : f 16 = _ := h16
                  rw [h6, h16]
                  go_wp2_with (fail)
                  exact CalmQ.mk rfl _ rfl (Below.refl _ _) rfl
                exact AllCalm.nil
              · intro W hB hT
                obtain ⟨h0, h1, h2, h3, h4, h5, h6, h7, h8, h9, h10, h11, h12, h13, h14, h15, h16, h17, -⟩ := hT
                have h0 : f 0 = _ := h0
                have h1 : f 1 = _ := h1
                have h2 : f 2 = _ := h2
                have h3 : f 3 = _ := h3
                have h4 : f 4 = _ := h4
                have h5 : f 5 = _ := h5
                have h6 : f 6 = _ := h6
                have h7 : f 7 = _ := h7
                have h8 : f 8 = _ := h8
                have h9 : f 9 = _ := h9
                have h10 : f 10 = _ := h10
                have h11 : f 11 = _ := h11
                have h16 : f 16 = _ := h16
                have h17 : f 17 = _ := h17
                rw [h0, h1, h2, h3, h4, h5, h6, h7, h8, h9, h10, h11, h16, h17]
                clear h0 h1 h2 h3 h4 h5 h6 h7 h8 h9 h10 h11 h16 h17
                have hA9 := H9.below hB
                go_wp2_with (first
                  | (go_at_call 16; (with_reducible refine (hg9 _ hB).mono ?_); rintro e' w10 ⟨rfl, b10⟩; have h10 := hA9.below b10)
                  | (refine wpList_store_row rfl 24 (.tmp 11) (.tmp 134) rfl N #[.int .u64 (e : Nat), .int .i64 (p : Nat), .int .i64 (m : Nat)] rfl rfl 24 #[.int .u64 (e : Nat), .int .i64 (p : Nat), .int .i64 (m : Nat)] (l3 h10.mN) (by kernel_rfl) (by kernel_rfl) (by kernel_rfl) ?_; obtain ⟨w11, e11, h11⟩ := h10.now hO1 (by omega); rw [← e11]; clear e11))
                exact ⟨⟨j + 1, Z9, Y9, O6, S8, n8, e, p, m, hlt, rfl, by go_num, h11⟩, by simp [intOf]; omega⟩
            · have ho := rs_open h8 hO2 (by omega)
              clear h8 h7 h6 hc q0 mg b7
              go_wp2_with (go_at_call 12; (with_reducible refine ho.mono ?_); rintro e' w9 ⟨Z9, Y9, rfl, H9⟩)
              clear ho
              have hg9 : ∀ W, Below w9.heap.size w9 W → Calls Try.prog 16 #[.pointer (some ⟨Z9, 0, none⟩)] W fun e' w' => e' = .returned (.agg #[.int .u64 (ff : Nat), .int .i64 (P : Nat), .int .i64 (m' : Nat)]) ∧ Below W.heap.size W w' := fun W hB => get_any (H9.below hB).wit
              apply calm_region [.is _, .is _, .is _, .is _, .is _, .is _, .is _, .is _, .is _, .is _, .is (.bool true), .is (.bool true), .is _, .is _, .is _, .is (.bool false), .is (.bool false), .is _] [[], [0], [1], [2], [3, 2], [2, 4], [5, 2], [6], [7, 6, 6], [6], [8, 9, 6], [10, 8, 6], [11], [12, 11, 11], [11], [13, 14, 11], [11, 15, 6], [6, 16]] (by kernel_rfl) (by kernel_rfl) (by kernel_rfl) rfl
              intro f a1 ha1
              simp only [putL, Act.put, List.setIfInBounds_toArray, List.set_cons_succ, List.set_cons_zero] at ha1
              subst ha1
              refine ⟨?_, ?_⟩
              · refine AllCalm.cons (fun W hB hd => ?_) ?_
                · go_wp2_with (fail)
                  exact CalmQ.mk rfl _ rfl (Below.refl _ _) rfl
                refine AllCalm.cons (fun W hB hd => ?_) ?_
                · obtain ⟨h0, -⟩ := hd
                  have h0 : f 0 = _ := h0
                  rw [h0]
                  go_wp2_with (fail)
                  exact CalmQ.mk rfl _ rfl (Below.refl _ _) rfl
                refine AllCalm.cons (fun W hB hd => ?_) ?_
                · obtain ⟨h1, -⟩ := hd
                  have h1 : f 1 = _ := h1
                  rw [h1]
                  go_wp2_with (fail)
                  exact CalmQ.mk rfl _ rfl (Below.refl _ _) rfl
                refine AllCalm.cons (fun W hB hd => ?_) ?_
                · obtain ⟨h2, -⟩ := hd
                  have h2 : f 2 = _ := h2
                  rw [h2]
                  go_wp2_with (fail)
                  exact CalmQ.mk rfl _ rfl (Below.refl _ _) rfl
                refine AllCalm.cons (fun W hB hd => ?_) ?_
                · obtain ⟨h3, h2, -⟩ := hd
                  have h3 : f 3 = _ := h3
                  have h2 : f 2 = _ := h2
                  rw [h3, h2]
                  go_wp2_with (fail)
                  exact CalmQ.mk rfl _ rfl (Below.refl _ _) rfl
                refine AllCalm.cons (fun W hB hd => ?_) ?_
                · obtain ⟨h2, h4, -⟩ := hd
                  have h2 : f 2 = _ := h2
                  have h4 : f 4 = _ := h4
                  rw [h2, h4]
                  go_wp2_with (fail)
                  exact CalmQ.mk rfl _ rfl (Below.refl _ _) rfl
                refine AllCalm.cons (fun W hB hd => ?_) ?_
                · obtain ⟨h5, h2, -⟩ := hd
                  have h5 : f 5 = _ := h5
                  have h2 : f 2 = _ := h2
                  rw [h5, h2]
                  go_wp2_with (fail)
                  exact CalmQ.mk rfl _ rfl (Below.refl _ _) rfl
                refine AllCalm.cons (fun W hB hd => ?_) ?_
                · obtain ⟨h6, -⟩ := hd
                  have h6 : f 6 = _ := h6
                  rw [h6]
                  go_wp2_with (fail)
                  exact CalmQ.mk rfl _ rfl (Below.refl _ _) rfl
                refine AllCalm.cons (fun W hB hd => ?_) ?_
                · obtain ⟨h7, h6, -, -⟩ := hd
                  have h7 : f 7 = _ := h7
                  have h6 : f 6 = _ := h6
                  rw [h7, h6]
                  go_wp2_with ((go_at_call 16; (with_reducible refine (hg9 _ hB).mono ?_); rintro e' w8 ⟨rfl, b8⟩))
                  exact CalmQ.mk rfl _ rfl b8 rfl
                refine AllCalm.cons (fun W hB hd => ?_) ?_
                · obtain ⟨h6, -⟩ := hd
                  have h6 : f 6 = _ := h6
                  rw [h6]
                  have k8 := l3 (H9.below hB).mN; have u0 := k8.cell 0; have u1 := k8.cell 1; have u2 := k8.cell 2
                  go_wp2_with (fail)
                  exact CalmQ.mk rfl _ rfl (Below.refl _ _) rfl
                refine AllCalm.cons (fun W hB hd => ?_) ?_
                · obtain ⟨h8, h9, h6, -⟩ := hd
                  have h8 : f 8 = _ := h8
                  have h9 : f 9 = _ := h9
                  have h6 : f 6 = _ := h6
                  rw [h8, h9, h6]
                  go_wp2_with (fail)
                  exact CalmQ.mk rfl _ rfl (Below.refl _ _) rfl
                refine AllCalm.cons (fun W hB hd => ?_) ?_
                · obtain ⟨h10, h8, h6, -⟩ := hd
                  have h10 : f 10 = _ := h10
                  have h8 : f 8 = _ := h8
                  have h6 : f 6 = _ := h6
                  rw [h10, h8, h6]
                  go_wp2_with (fail)
                  exact CalmQ.mk rfl _ rfl (Below.refl _ _) rfl
                refine AllCalm.cons (fun W hB hd => ?_) ?_
                · obtain ⟨h11, -⟩ := hd
                  have h11 : f 11 = _ := h11
                  rw [h11]
                  go_wp2_with (fail)
                  exact CalmQ.mk rfl _ rfl (Below.refl _ _) rfl
                refine AllCalm.cons (fun W hB hd => ?_) ?_
                · obtain ⟨h12, h11, -, -⟩ := hd
                  have h12 : f 12 = _ := h12
                  have h11 : f 11 = _ := h11
                  rw [h12, h11]
                  go_wp2_with ((go_at_call 16; (with_reducible refine (hg9 _ hB).mono ?_); rintro e' w8 ⟨rfl, b8⟩))
                  exact CalmQ.mk rfl _ rfl b8 rfl
                refine AllCalm.cons (fun W hB hd => ?_) ?_
                · obtain ⟨h11, -⟩ := hd
                  have h11 : f 11 = _ := h11
                  rw [h11]
                  have k8 := l3 (H9.below hB).mg; have u0 := k8.cell 0; have u1 := k8.cell 1; have u2 := k8.cell 2
                  go_wp2_with (fail)
                  exact CalmQ.mk rfl _ rfl (Below.refl _ _) rfl
                refine AllCalm.cons (fun W hB hd => ?_) ?_
                · obtain ⟨h13, h14, h11, -⟩ := hd
                  have h13 : f 13 = _ := h13
                  have h14 : f 14 = _ := h14
                  have h11 : f 11 = _ := h11
                  rw [h13, h14, h11]
                  go_wp2_with (fail)
                  exact CalmQ.mk rfl _ rfl (Below.refl _ _) rfl
                refine AllCalm.cons (fun W hB hd => ?_) ?_
                · obtain ⟨h11, h15, h6, -⟩ := hd
                  have h11 : f 11 = _ := h11
                  have h15 : f 15 = _ := h15
                  have h6 : f 6 = _ := h6
                  rw [h11, h15, h6]
                  go_wp2_with (fail)
                  exact CalmQ.mk rfl _ rfl (Below.refl _ _) rfl
                refine AllCalm.cons (fun W hB hd => ?_) ?_
                · obtain ⟨h6, h16, -⟩ := hd
                  have h6 : f 6 = _ := h6
                  have h16 : f 16 = _ := h16
                  rw [h6, h16]
                  go_wp2_with (fail)
                  exact CalmQ.mk rfl _ rfl (Below.refl _ _) rfl
                exact AllCalm.nil
              · intro W hB hT
                obtain ⟨h0, h1, h2, h3, h4, h5, h6, h7, h8, h9, h10, h11, h12, h13, h14, h15, h16, h17, -⟩ := hT
                have h0 : f 0 = _ := h0
                have h1 : f 1 = _ := h1
                have h2 : f 2 = _ := h2
                have h3 : f 3 = _ := h3
                have h4 : f 4 = _ := h4
                have h5 : f 5 = _ := h5
                have h6 : f 6 = _ := h6
                have h7 : f 7 = _ := h7
                have h8 : f 8 = _ := h8
                have h9 : f 9 = _ := h9
                have h10 : f 10 = _ := h10
                have h11 : f 11 = _ := h11
                have h12 : f 12 = _ := h12
                have h13 : f 13 = _ := h13
                have h14 : f 14 = _ := h14
                have h15 : f 15 = _ := h15
                have h16 : f 16 = _ := h16
                have h17 : f 17 = _ := h17
                rw [h0, h1, h2, h3, h4, h5, h6, h7, h8, h9, h10, h11, h12, h13, h14, h15, h16, h17]
                clear h0 h1 h2 h3 h4 h5 h6 h7 h8 h9 h10 h11 h12 h13 h14 h15 h16 h17
                have hA9 := H9.below hB
                go_wp2_with (first
                  | (go_at_call 16; (with_reducible refine (hg9 _ hB).mono ?_); rintro e' w10 ⟨rfl, b10⟩; have h10 := hA9.below b10)
                  | (refine wpList_store_row rfl 24 (.tmp 11) (.tmp 134) rfl N #[.int .u64 (ff : Nat), .int .i64 (P : Nat), .int .i64 (m' : Nat)] rfl rfl 24 #[.int .u64 (e : Nat), .int .i64 (p : Nat), .int .i64 (m : Nat)] (l3 h10.mN) (by kernel_rfl) (by kernel_rfl) (by kernel_rfl) ?_; obtain ⟨w11, e11, h11⟩ := h10.now hO2 HF.out; rw [← e11]; clear e11))
                exact ⟨⟨j + 1, Z9, Y9, O6, S8, n8, ff, P, m', hlt, rfl, by go_num, h11⟩, by simp [intOf]; omega⟩
          · have hc := cas_up hC hj20 (fun q => hA (.inl q)) (fun q => hA (.inr q))
            clear hC hA
            go_wp2_with (first
              | (refine wpList_load_row rfl 24 (.tmp 13) rfl g rfl 24 #[.int .u64 (ff : Nat), .int .i64 (P : Nat), .int .i64 (m' : Nat)] (0, 0) _ mg Try.underlying24 rfl (by kernel_rfl) ?_)
              | (go_at_call 14; (with_reducible refine hc.mono ?_); rintro e' w6 ⟨rfl, O6, S6, n6, h6⟩)
              | (refine wpList_store_row rfl 24 (.tmp 14) (.tmp 89) rfl w6.heap.size #[.int .u64 (ff : Nat), .int .i64 (P : Nat), .int .i64 (m' : Nat)] rfl rfl 24 #[.int .u64 0, .int .i64 0, .int .i64 0] (Mem.new w6 _ _) (by kernel_rfl) (by kernel_rfl) (by kernel_rfl) ?_; have mx6 := Mem.new w6 24 #[.int .u64 0, .int .i64 0, .int .i64 0]; obtain ⟨w7, e7, b7⟩ := box3 w6 #[.int .u64 (ff : Nat), .int .i64 (P : Nat), .int .i64 (m' : Nat)]; have mx7 : Mem w7 w6.heap.size 24 #[.int .u64 (ff : Nat), .int .i64 (P : Nat), .int .i64 (m' : Nat)] := (by rw [e7]; exact mx6.row _); rw [← e7]; clear e7 mx6; have h7 := h6.below b7; have c0 := mx7.cell 0; have c1 := mx7.cell 1; have c2 := mx7.cell 2; have g7 := l3 h7.mg; have d0 := g7.cell 0; have d1 := g7.cell 1; have d2 := g7.cell 2)
              | (refine wpList_load_row rfl 24 (.tmp 13) rfl g rfl 24 #[.int .u64 (ff : Nat), .int .i64 (P : Nat), .int .i64 (m' : Nat)] (0, 0) _ g7 Try.underlying24 rfl (by kernel_rfl) ?_)
              | (refine wpList_store_row rfl 24 (.tmp 11) (.tmp 101) rfl N #[.int .u64 (ff : Nat), .int .i64 (P : Nat), .int .i64 (m' : Nat)] rfl rfl 24 #[.int .u64 (e : Nat), .int .i64 (p : Nat), .int .i64 (m : Nat)] (l3 h7.mN) (by kernel_rfl) (by kernel_rfl) (by kernel_rfl) ?_; obtain ⟨w11, e11, h11⟩ := h7.now; rw [← e11]; clear e11))
            exact ⟨⟨j + 1, Z, Y, O6, S6, n6, ff, P, m', hlt, rfl, by go_num, h11⟩, by simp [intOf]; omega⟩
    · obtain rfl : j = l.length := by omega
      have hO1 := hP.ok
      have hle := hP.le
      have hcr := ph_crash hP hl (.slice A2 zs.length c2) zs hz (H2.below hP.bl)
      have hbl : ∀ W, Wit w W Z Y X O S n (encS e p m) e p m → Below w.heap.size w W := fun W h => h.dsk.bl
      clear hP
      go_wp2_with (first
        | (go_at_call 17; (with_reducible refine hcr.mono ?_); rintro e' w3 ⟨rfl, h3⟩)
        | (go_at_call 15; (with_reducible refine (lt_on h3).mono ?_); rintro e' w4 ⟨rfl, d4, c4, m4⟩; have ho := last_open d4 c4 hO1 (by omega) m4)
        | (go_at_call 12; (with_reducible refine ho.mono ?_); rintro e' w9 ⟨Z9, Y9, rfl, H9, m9⟩))
      have M9 : Mem w9 N 24 (rw3 e p m) := m9
      clear hcr h3 d4 c4 m4 ho m9
      have hg9 : ∀ W, Below w9.heap.size w9 W → Calls Try.prog 16 #[.pointer (some ⟨Z9, 0, none⟩)] W fun e' w' => e' = .returned (.agg #[.int .u64 (e : Nat), .int .i64 (p : Nat), .int .i64 (m : Nat)]) ∧ Below W.heap.size W w' := fun W hB => get_any (H9.below hB)
      apply calm_tail 12 [.is _, .is _, .is _, .is _, .is _, .is _, .is _, .is _, .is _, .is _, .is _, .is _] [[], [0], [1], [2], [3, 2], [2, 4], [5, 2], [6], [7, 6, 6], [6], [8, 9, 6], [6, 10]] (by kernel_rfl) (by kernel_rfl) (by kernel_rfl) rfl
      intro f a1 ha1
      simp only [List.take_succ_cons, List.take_zero, putL, Act.put, List.setIfInBounds_toArray, List.set_cons_succ, List.set_cons_zero] at ha1
      subst ha1
      refine ⟨?_, ?_⟩
      · refine AllCalm.cons (fun W hB hd => ?_) ?_
        · go_wp2_with (fail)
          exact CalmQ.mk rfl _ rfl (Below.refl _ _) rfl
        refine AllCalm.cons (fun W hB hd => ?_) ?_
        · obtain ⟨h0, -⟩ := hd
          have h0 : f 0 = _ := h0
          rw [h0]
          go_wp2_with (fail)
          exact CalmQ.mk rfl _ rfl (Below.refl _ _) rfl
        refine AllCalm.cons (fun W hB hd => ?_) ?_
        · obtain ⟨h1, -⟩ := hd
          have h1 : f 1 = _ := h1
          rw [h1]
          go_wp2_with (fail)
          exact CalmQ.mk rfl _ rfl (Below.refl _ _) rfl
        refine AllCalm.cons (fun W hB hd => ?_) ?_
        · obtain ⟨h2, -⟩ := hd
          have h2 : f 2 = _ := h2
          rw [h2]
          go_wp2_with (fail)
          exact CalmQ.mk rfl _ rfl (Below.refl _ _) rfl
        refine AllCalm.cons (fun W hB hd => ?_) ?_
        · obtain ⟨h3, h2, -⟩ := hd
          have h3 : f 3 = _ := h3
          have h2 : f 2 = _ := h2
          rw [h3, h2]
          go_wp2_with (fail)
          exact CalmQ.mk rfl _ rfl (Below.refl _ _) rfl
        refine AllCalm.cons (fun W hB hd => ?_) ?_
        · obtain ⟨h2, h4, -⟩ := hd
          have h2 : f 2 = _ := h2
          have h4 : f 4 = _ := h4
          rw [h2, h4]
          go_wp2_with (fail)
          exact CalmQ.mk rfl _ rfl (Below.refl _ _) rfl
        refine AllCalm.cons (fun W hB hd => ?_) ?_
        · obtain ⟨h5, h2, -⟩ := hd
          have h5 : f 5 = _ := h5
          have h2 : f 2 = _ := h2
          rw [h5, h2]
          go_wp2_with (fail)
          exact CalmQ.mk rfl _ rfl (Below.refl _ _) rfl
        refine AllCalm.cons (fun W hB hd => ?_) ?_
        · obtain ⟨h6, -⟩ := hd
          have h6 : f 6 = _ := h6
          rw [h6]
          go_wp2_with (fail)
          exact CalmQ.mk rfl _ rfl (Below.refl _ _) rfl
        refine AllCalm.cons (fun W hB hd => ?_) ?_
        · obtain ⟨h7, h6, -, -⟩ := hd
          have h7 : f 7 = _ := h7
          have h6 : f 6 = _ := h6
          rw [h7, h6]
          go_wp2_with ((go_at_call 16; (with_reducible refine (hg9 _ hB).mono ?_); rintro e' w8 ⟨rfl, b8⟩))
          exact CalmQ.mk rfl _ rfl b8 rfl
        refine AllCalm.cons (fun W hB hd => ?_) ?_
        · obtain ⟨h6, -⟩ := hd
          have h6 : f 6 = _ := h6
          rw [h6]
          have k8 := l3 (M9.below hB M9.lt); have u0 := k8.cell 0; have u1 := k8.cell 1; have u2 := k8.cell 2
          go_wp2_with (fail)
          exact CalmQ.mk rfl _ rfl (Below.refl _ _) rfl
        refine AllCalm.cons (fun W hB hd => ?_) ?_
        · obtain ⟨h8, h9, h6, -⟩ := hd
          have h8 : f 8 = _ := h8
          have h9 : f 9 = _ := h9
          have h6 : f 6 = _ := h6
          rw [h8, h9, h6]
          go_wp2_with (fail)
          exact CalmQ.mk rfl _ rfl (Below.refl _ _) rfl
        refine AllCalm.cons (fun W hB hd => ?_) ?_
        · obtain ⟨h6, h10, -⟩ := hd
          have h6 : f 6 = _ := h6
          have h10 : f 10 = _ := h10
          rw [h6, h10]
          go_wp2_with (fail)
          exact CalmQ.mk rfl _ rfl (Below.refl _ _) rfl
        exact AllCalm.nil
      · intro W hB hT
        obtain ⟨h0, h1, h2, h3, h4, h5, h6, h7, h8, h9, h10, h11, -⟩ := hT
        have h0 : f 0 = _ := h0
        have h1 : f 1 = _ := h1
        have h2 : f 2 = _ := h2
        have h3 : f 3 = _ := h3
        have h4 : f 4 = _ := h4
        have h5 : f 5 = _ := h5
        have h6 : f 6 = _ := h6
        have h7 : f 7 = _ := h7
        have h8 : f 8 = _ := h8
        have h9 : f 9 = _ := h9
        have h10 : f 10 = _ := h10
        have h11 : f 11 = _ := h11
        rw [h0, h1, h2, h3, h4, h5, h6, h7, h8, h9, h10, h11]
        clear h0 h1 h2 h3 h4 h5 h6 h7 h8 h9 h10 h11
        simp only [List.drop_succ_cons, List.drop_zero]
        go_wp2
        go_ret
        exact ⟨rfl, (H9.below hB).dsk.bl⟩
theorem walk (v0 : Value) (l0 : List UInt8) (a1 : Int) (v2 : Value) (zs : List Int) (w : World) (h0 : Sl w w.heap.size v0 l0.length (bs l0)) (b0 : -9223372036854775808 ≤ a1) (b1 : a1 ≤ 9223372036854775807) (h2 : Sl w w.heap.size v2 zs.length (zs.map (Value.int .i64))) (hw : ∀ n ∈ zs, (Lit.int .i64 n).wf = true) : Calls Try.prog 4 #[v0, .int .i64 a1, v2] w fun e' w' => e' = .returned (.bool true) ∧ Below w.heap.size w w' := by
  by_cases hno : 20 < l0.length ∨ a1 < 1 ∨ 60 < a1 ∨ 20 < zs.length
  · exact walk_no v0 l0 a1 v2 zs w h0 h2 hno
  · obtain ⟨k, rfl⟩ : ∃ k : Nat, a1 = (k : Int) := ⟨a1.toNat, by omega⟩
    exact walk_yes v0 l0 k v2 zs w h0 h2 (fun z hz => bounds_i64 (hw z hz)) (by omega) (by omega) (by omega) (by omega)
set_option maxRecDepth 100000 in
theorem lifted (os : Os) (started : os.Started) (H : Type) (enc : TypeId × Value → H) :
    ReturnsInHanded {} Try.checked os 4 .any (Rows.witnessCrashSpec.pre6 enc Try.prog Try.f4 Rows.witnessCrashRow.domain false) (Rows.witnessCrashSpec.post enc Try.prog Try.f4 false true false false) := by
  refine returnsInHanded_of_change (C := Try.checked) own started (by kernel_rfl) Try.func4
    (ChangeSpec.witness6 (enc := enc) (C := Try.checked) false ⟨#[], #[.slice none 0 0, .int .i64 0, .slice none 0 0], []⟩ 8 (by kernel_rfl) (by kernel_rfl) (by kernel_rfl) (by kernel_rfl)) ?_
  intro W base args ds gs before hval0 hW hcnd _
  have hval : ∀ (j : Nat) t v, Try.f4.params[j]? = some t → args[j]? = some v → Value.okWide Try.prog W .any base t v := hval0
  have hW' := hW
  obtain ⟨p, q, hA0, hV, rfl, hfz, hnd⟩ := hW
  have hA : DataW.TrodAll enc Try.prog W 0 (fun _ => true) true Try.f4.params.toList args.toList ds p := hA0
  rw [Try.params4] at hA hval
  obtain ⟨v0, vs0, d0, ds0, p0, q0, hargs, rfl, rfl, h0, r0⟩ := trodAll_cons hA
  obtain ⟨v1, vs1, d1, ds1, p1, q1, rfl, rfl, rfl, h1, r1⟩ := trodAll_cons r0
  obtain ⟨v2, vs2, d2, ds2, p2, q2, rfl, rfl, rfl, h2, r2⟩ := trodAll_cons r1
  obtain ⟨rfl, rfl, rfl⟩ := trodAll_nil r2
  obtain rfl : args = #[v0, v1, v2] := by cases args; simp_all
  obtain ⟨rfl, rfl⟩ := trodVars_none hV
  obtain ⟨l0, s0, e0⟩ := open_bytes Try.underlying25 Try.underlying5 (by kernel_rfl) (hval 0 25 v0 rfl rfl) h0
  obtain ⟨a1, rfl, _, _, w1⟩ := open_int Try.underlying3 (hval 1 3 v1 rfl rfl) h1
  have b1 := bounds_i64 w1
  obtain ⟨z2, s2, w2, e2⟩ := open_sl Try.underlying33 Try.underlying3 (by kernel_rfl) (hval 2 33 v2 rfl rfl) h2
  refine (walk v0 l0 a1 v2 z2 W s0 b1.1 b1.2 s2 w2).mono fun e W' ⟨he, hb⟩ => ?_
  subst he
  exact ⟨_, rfl, law_post laidOut (by kernel_rfl) rfl (by kernel_rfl) Try.underlying4 rfl rfl rfl hW' hb⟩

theorem proved : Rows.WitnessCrashSaid :=
  OpenClaim.holds_of_wide 4 Try.f4 rfl rfl rfl rfl rfl rfl rfl ⟨rfl, rfl, rfl, rfl, rfl⟩ rfl rfl rfl rfl rfl (by kernel_rfl) Try.func4 (by kernel_rfl)
    (of_decide_eq_true (by kernel_rfl)) (by unfold Func.isWrapper; first | (rw [if_pos (by decide +kernel)]; kernel_rfl) | (rw [if_neg (by decide +kernel)]; exact ⟨rfl, rfl⟩))
    (fun os started H enc _ => lifted os started H enc)
end Wt
end Go.Proofs.Ytccknplmcnahbaa
