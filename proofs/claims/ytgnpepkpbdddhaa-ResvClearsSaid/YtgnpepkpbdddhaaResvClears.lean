/- ResvClears: for all numbers the statement's function tells true and turns nothing that was there. No condition. -/
import Derived.Test.YtgnpepkpbdddhaaRv9
import Derived.BigQuiet
import Derived.Deep.QuietTactic
namespace Go.Proofs.Ytgnpepkpbdddhaa
open Go.ChangeShapes Go.WideShapes Go.ChangeAt Go.RowKit Go.Lib
set_option linter.unusedVariables false
set_option linter.unusedSimpArgs false
namespace Rv
theorem LvI.self {t : RT} {h hk : Nat} {code : Int} {n : Nat} (l : LvI t h hk code h n) (hj : h < 8) (f : Nat) : LvI (t.put h f) h hk code (h + 1) n := by
  have e1 : othTo (t.put h f) (h : Nat) 0 code h = othTo t (h : Nat) 0 code h := othTo_congr _ _ _ _ _ _ fun k hk _ => by rw [put_at t l.len h f k hj, if_neg (by omega)]
  refine ⟨l.hold, l.typ, ?_, ?_, ?_, ?_⟩
  · have := l.gen; show t.gen + 1 ≤ _; omega
  · intro k hk h8 hkh
    rw [put_at t l.len h f k hj, if_neg hkh]
    exact l.later k (by omega) h8 hkh
  · rw [oth_skip _ _ _ _ (.inl rfl), e1]; exact l.num
  · show (t.keys.set h f).length = 8; rw [List.length_set]; exact l.len
set_option maxRecDepth 100000 in
set_option maxHeartbeats 2000000 in
theorem walk (a0 a1 a2 : Int) (w : World) (b0 : 0 ≤ a0) (b1 : a0 ≤ 255) (b2 : 0 ≤ a1) (b3 : a1 ≤ 255) (b4 : 0 ≤ a2) (b5 : a2 ≤ 255) : Calls Try.prog 4 #[.int .u8 a0, .int .u8 a1, .int .u8 a2] w fun e w' => e = .returned (.bool true) ∧ Below w.heap.size w w' := by
  have m3 := u8_and3 a2 b4 b5
  obtain ⟨h, m7, hh⟩ : ∃ h : Nat, bits .and .u8 a1 7 = (h : Int) ∧ h < 8 := ⟨(a1 % 8).toNat, by rw [u8_and7 a1 b2 b3]; omega, by omega⟩
  have hhx : (h : Int) < 8 := by omega
  obtain ⟨y, hy, hy4⟩ : ∃ y : Nat, (y = 1 ∨ y = 3 ∨ y = 5 ∨ y = 6) ∧ ∀ W : World, (W.alloc (.cells #[.int .i64 1, .int .i64 3, .int .i64 5, .int .i64 6] 3)).cell? ⟨W.heap.size, (a2 % 4).toNat, none⟩ = some (.int .i64 (y : Nat)) := by
    have h4 : a2 % 4 = 0 ∨ a2 % 4 = 1 ∨ a2 % 4 = 2 ∨ a2 % 4 = 3 := by omega
    rcases h4 with e | e | e | e
    · exact ⟨1, .inl rfl, fun W => by rw [e]; exact (Mem.new W 3 #[.int .i64 1, .int .i64 3, .int .i64 5, .int .i64 6]).cell 0⟩
    · exact ⟨3, .inr (.inl rfl), fun W => by rw [e]; exact (Mem.new W 3 #[.int .i64 1, .int .i64 3, .int .i64 5, .int .i64 6]).cell 1⟩
    · exact ⟨5, .inr (.inr (.inl rfl)), fun W => by rw [e]; exact (Mem.new W 3 #[.int .i64 1, .int .i64 3, .int .i64 5, .int .i64 6]).cell 2⟩
    · exact ⟨6, .inr (.inr (.inr rfl)), fun W => by rw [e]; exact (Mem.new W 3 #[.int .i64 1, .int .i64 3, .int .i64 5, .int .i64 6]).cell 3⟩
  have q0 : 0 ≤ a2 % 4 := by omega
  have q1 : a2 % 4 < 4 := by omega
  go_enter Try.func4, Try.ntmps4
  go_wp2_with (first
    | (go_at_call 6; refine (known_any _).mono ?_; rintro e w1 ⟨rfl, hb1⟩)
    | (go_at_call 7; (with_reducible refine (new_any _).mono ?_); rintro e w2 ⟨Y, rfl, hY, h2, hb2⟩))
  have hB2 : Below w.heap.size w w2 := hb1.trans (hb2.mono hb1.size)
  have hYw : w.heap.size ≤ Y := Nat.le_trans hb1.size hY
  go_loopw [9, 10] (fun s9 s10 wr => ∃ (t : RT) (j n : Nat), j ≤ 8 ∧ n ≤ j ∧ s9 = .int .i64 (n : Nat) ∧ s10 = .int .i64 (j : Nat) ∧ Hid (LvI t h 1 10755 j n ∧ (j ≤ h → t.at_ h = 0) ∧ (h < j → t.at_ h = 9)) ∧ TabM wr Y t ∧ Below w.heap.size w wr) (fun _ s10 _ => 8 - (intOf s10).toNat)
  case atStart => exact ⟨_, 0, 0, by omega, by omega, rfl, rfl, Lib.hid ⟨⟨rfl, rfl, by decide, fun k _ _ _ => zero_at k, rfl, rfl⟩, fun _ => zero_at h, fun hc => absurd hc (by omega)⟩, h2, hB2⟩
  case round =>
    obtain ⟨t, j, n, hj8, hnj, rfl, rfl, HI, ht, hB⟩ := hrel
    by_cases hj : j < 8
    · have hjx : (j : Int) < 8 := by omega
      by_cases hjh : j = h
      · subst hjh
        have HM : Hid (LvI (t.put j 9) j 1 10755 (j + 1) n ∧ (j + 1 ≤ j → (t.put j 9).at_ j = 0) ∧ (j < j + 1 → (t.put j 9).at_ j = 9)) := Lib.hid ⟨HI.out.1.self hj 9, fun hc => absurd hc (by omega), fun _ => by rw [put_at t HI.out.1.len j 9 j hj, if_pos rfl]⟩
        have cR : ∀ W, TabM W Y t → Calls Try.prog 13 #[.pointer (some ⟨Y, 0, none⟩), .int .i64 (j : Nat), .int .u64 0, .int .u64 9, .bool false] W fun e w' => ∃ v', e = .returned v' ∧ TabM w' Y (t.put j 9) ∧ Keeps Y W w' := fun W h => (reg_new h (by have := HI.out.1.gen; omega) j hj 0 9 (HI.out.2.1 (Nat.le_refl _)) (by decide)).mono fun e w' ⟨v, h1, _, h2, h3⟩ => ⟨_, h1, h2, h3⟩
        clear HI
        go_wp2_with (go_at_call 13; (with_reducible refine (cR _ ht).mono ?_); rintro e w5 ⟨v5, rfl, h5, k5⟩)
        all_goals exact ⟨⟨_, j + 1, n, hj, by omega, rfl, by go_num, HM, h5, hB.trans (k5.below hYw hB.size)⟩, by simp [intOf]; omega⟩
      · have HM : Hid (LvI (t.put j 9) h 1 10755 (j + 1) (n + 1) ∧ (j + 1 ≤ h → (t.put j 9).at_ h = 0) ∧ (h < j + 1 → (t.put j 9).at_ h = 9)) := Lib.hid ⟨HI.out.1.more hj hjh 9 (by decide), fun hc => by rw [put_at t HI.out.1.len j 9 h hj, if_neg (fun e => hjh e.symm)]; exact HI.out.2.1 (by omega), fun hc => by rw [put_at t HI.out.1.len j 9 h hj, if_neg (fun e => hjh e.symm)]; exact HI.out.2.2 (by omega)⟩
        have HS : Hid (LvI t h 1 10755 (j + 1) n ∧ (j + 1 ≤ h → t.at_ h = 0) ∧ (h < j + 1 → t.at_ h = 9)) := Lib.hid ⟨HI.out.1.skip hj hjh, fun hc => HI.out.2.1 (by omega), fun hc => HI.out.2.2 (by omega)⟩
        have cR : ∀ W, TabM W Y t → Calls Try.prog 13 #[.pointer (some ⟨Y, 0, none⟩), .int .i64 (j : Nat), .int .u64 0, .int .u64 9, .bool false] W fun e w' => ∃ v', e = .returned v' ∧ TabM w' Y (t.put j 9) ∧ Keeps Y W w' := fun W h => (reg_new h (by have := HI.out.1.gen; omega) j hj 0 9 (HI.out.1.later j (Nat.le_refl _) hj hjh) (by decide)).mono fun e w' ⟨v, h1, _, h2, h3⟩ => ⟨_, h1, h2, h3⟩
        have n1 : ¬ (j : Int) = (h : Int) := by omega
        have n2 : ((j : Int) == (h : Int)) = false := beq_eq_false_iff_ne.2 n1
        have n3 : ((j : Int) != (h : Int)) = true := bne_iff_ne.2 n1
        clear HI hjh
        go_wp2_with (go_at_call 13; (with_reducible refine (cR _ ht).mono ?_); rintro e w5 ⟨v5, rfl, h5, k5⟩)
        all_goals first
          | exact ⟨⟨_, j + 1, n + 1, hj, by omega, by go_num, by go_num, HM, h5, hB.trans (k5.below hYw hB.size)⟩, by simp [intOf]; omega⟩
          | exact ⟨⟨_, j + 1, n, hj, by omega, rfl, by go_num, HS, ht, hB⟩, by simp [intOf]; omega⟩
    · obtain rfl : j = 8 := by omega
      have hy' : (y : Int) = 1 ∨ (y : Int) = 3 ∨ (y : Int) = 5 ∨ (y : Int) = 6 := by omega
      have hat : t.at_ h = 9 := HI.out.2.2 hh
      have cV : ∀ W, TabM W Y t → Calls Try.prog 14 #[.pointer (some ⟨Y, 0, none⟩), .int .i64 (h : Nat), .int .u64 9, .int .i64 (y : Nat)] W fun e w' => e = .returned (.agg #[Value.int .i64 0, .int .i64 0, .int .i64 0, .slice none 0 0, .int .i64 0]) ∧ TabM w' Y (t.hold h y) ∧ Keeps Y W w' := fun W hW => Reserve_take hW h hh 9 y hy' HI.out.1.hold (Ref.not h hh 9 (by rw [hat]; decide) hat)
      obtain ⟨th, tc, L, hth, f1, f2, f3, f4, f5, cC, f6⟩ : ∃ (th tc : RT) (L : List (Nat × Int)), th = t.hold h y ∧ tc.holder = -1 ∧ tc.typ = 0 ∧ tc.keys = [0, 0, 0, 0, 0, 0, 0, 0] ∧ L.length = n ∧ (∀ p ∈ L, p.2 = 10755 ∧ (p.1 : Int) ≠ (h : Nat)) ∧ (∀ W, TabM W Y th → Calls Try.prog 15 #[.pointer (some ⟨Y, 0, none⟩), .int .i64 (h : Nat), .int .u64 9] W fun e w' => ∃ v', e = .returned (.tuple #[.agg #[Value.int .i64 0, .int .i64 0, .int .i64 0, .slice none 0 0, .int .i64 0], v']) ∧ w'.ownsRow W.heap.size 50 2 v' L.length (nvs L) ∧ TabM w' Y tc ∧ Keeps Y W w') ∧ tc.at_ h = 0 := by
        obtain ⟨hl, _⟩ := HI.out
        have hgn := hl.gen
        have hc : othTo (t.hold h y) (h : Nat) 0 10755 8 = othTo t (h : Nat) 0 10755 8 := othTo_congr _ _ _ _ _ _ fun k _ _ => rfl
        refine ⟨t.hold h y, (t.hold h y).clear, othTo (t.hold h y) (h : Nat) 0 10755 8, rfl, rfl, rfl, rfl, by rw [hc]; exact hl.num.symm, othTo_mem _ _ _ _ _, fun W hW => Clear_good hW h hh 9 (show t.gen ≤ 999999 by omega) (Ref.not h hh 9 (show t.at_ h ≠ 0 by rw [hat]; decide) hat), ?_⟩
        unfold RT.at_ RT.clear
        match h, hh with
        | 0, _ | 1, _ | 2, _ | 3, _ | 4, _ | 5, _ | 6, _ | 7, _ => rfl
      rw [← hth] at cV
      have cH : ∀ W, TabM W Y tc → Calls Try.prog 10 #[.pointer (some ⟨Y, 0, none⟩)] W fun e w' => e = .returned (.tuple #[.int .i64 (-1), .int .i64 0]) ∧ ∃ k, w' = W.drewN k := fun W hW => by have := holder_any hW; rw [f1, f2] at this; exact this
      have cK : ∀ W, TabM W Y tc → Calls Try.prog 16 #[.pointer (some ⟨Y, 0, none⟩)] W fun e w' => e = .returned (.slice none 0 0) ∧ W = w' := fun W hW => keys_none hW f3
      have cD : ∀ W, TabM W Y tc → Calls Try.prog 15 #[.pointer (some ⟨Y, 0, none⟩), .int .i64 (h : Nat), .int .u64 9] W fun e w' => ∃ v', e = .returned (.tuple #[.agg #[Value.int .i64 24, .int .i64 0, .int .i64 0, .slice none 0 0, .int .i64 0], v']) ∧ TabM w' Y tc ∧ Keeps Y W w' := fun W hW => (Clear_ref hW h 9 24 0 0 (Ref.key h hh 9 (.inl f6))).mono fun e w' ⟨v, h1, _, h2, h3⟩ => ⟨v, h1, h2, h3⟩
      have cE : ∀ W, TabM W Y tc → Calls Try.prog 14 #[.pointer (some ⟨Y, 0, none⟩), .int .i64 (h : Nat), .int .u64 9, .int .i64 1] W fun e w' => e = .returned (.agg #[Value.int .i64 24, .int .i64 0, .int .i64 0, .slice none 0 0, .int .i64 0]) ∧ TabM w' Y tc ∧ Keeps Y W w' := fun W hW => Reserve_ref hW h 9 1 24 0 0 (Ref.key h hh 9 (.inl f6))
      have z2 := hy4 wr
      clear HI hy' hy f1 f2 f3 f6 hth hat hy4
      have hta := ht.below ((Below.refl _ wr).alloc (Nat.le_refl _) (.cells #[.int .i64 1, .int .i64 3, .int .i64 5, .int .i64 6] 3))
      have BA := hB.alloc hB.size (.cells #[.int .i64 1, .int .i64 3, .int .i64 5, .int .i64 6] 3)
      go_wp2_with (first
        | (go_at_call 14; (with_reducible refine (cV _ hta).mono ?_); rintro e wv ⟨rfl, hv, kv⟩; have BV := BA.trans (kv.below hYw BA.size))
        | (go_at_call 15; (with_reducible refine (cC _ hv).mono ?_); rintro e wc ⟨vc, rfl, hoc, hc2, kc⟩; obtain ⟨Al, cl, rfl, hl3, hl4⟩ := own_form hoc; have BC := BV.trans (kc.below hYw BV.size))
        | (refine wpList_store_row rfl 40 (.tmp 11) (.tmp 60) rfl wc.heap.size #[Value.int .i64 0, .int .i64 0, .int .i64 0, .slice none 0 0, .int .i64 0] rfl rfl 40 #[Value.int .i64 0, .int .i64 0, .int .i64 0, .slice none 0 0, .int .i64 0] (Mem.new wc _ _) (by kernel_rfl) (by kernel_rfl) (by kernel_rfl) ?_; obtain ⟨xc, ec, jc, mc, bc⟩ := box_new hc2 #[Value.int .i64 0, .int .i64 0, .int .i64 0, .slice none 0 0, .int .i64 0]; rw [← ec]; clear ec; have cz := mc.cell 0; have oz := owns_below hoc bc; have BX := BC.trans (bc.mono BC.size))
        | (go_at_call 10; (with_reducible refine (cH _ jc).mono ?_); rintro e wg ⟨rfl, kg, rfl⟩; have hg2 : TabM (xc.drewN kg) Y tc := ⟨jc.mem, jc.len⟩)
        | (go_at_call 16; (with_reducible refine (cK _ hg2).mono ?_); rintro e wk ⟨rfl, rfl⟩))
      go_loopw [15] (fun s15 wr2 => ∃ q : Nat, q ≤ L.length ∧ s15 = .int .i64 (q : Nat) ∧ xc.drewN kg = wr2) (fun s15 _ => L.length - (intOf s15).toNat)
      case atStart => exact ⟨0, Nat.zero_le _, rfl, rfl⟩
      case round =>
        obtain ⟨q, hq, rfl, rfl⟩ := hrel
        by_cases hql : q < L.length
        · have hLn : L.length ≠ 0 := by omega
          obtain ⟨g, c', hv', _, _, _, _⟩ := own_form2 oz hLn
          obtain rfl : Al = some ⟨g, 0, none⟩ := by injection hv'
          have hcl := fun k u hk => own_cells oz (2 * q + k) u (nvs_get L q hql k u hk)
          have e0 : (xc.drewN kg).cell? ⟨g, q * 2, none⟩ = some (.int .i64 (L[q].1 : Nat)) := by have := hcl 0 _ rfl; rwa [show 2 * q + 0 = q * 2 by omega] at this
          have e1 : (xc.drewN kg).cell? ⟨g, q * 2 + 1, none⟩ = some (.int .i64 10755) := by have := hcl 1 _ rfl; rw [show 2 * q + 1 = q * 2 + 1 by omega, (f5 L[q] (List.getElem_mem hql)).1] at this; exact this
          have e2 := (f5 L[q] (List.getElem_mem hql)).2
          have e3 : (((L[q].1 : Nat) : Int) == (h : Int)) = false := beq_eq_false_iff_ne.2 e2
          have hqx : (q : Int) < (L.length : Int) := by omega
          generalize L[q].1 = a at *
          clear hcl f5 hv'
          go_wp2
          exact ⟨⟨q + 1, hql, by go_num, trivial⟩, by simp [intOf]; omega⟩
        · obtain rfl : q = L.length := by omega
          have BG := below_drewN BX kg
          go_wp2_with (first
            | (go_at_call 15; (with_reducible refine (cD _ hg2).mono ?_); rintro e wd ⟨vd, rfl, hd, kd⟩; have BD := BG.trans (kd.below hYw BG.size); have hYd : wd.heap.size ≠ Y := fun e => by have := hd.mem.lt; omega)
            | (refine wpList_store_row rfl 40 (.tmp 16) (.tmp 115) rfl wd.heap.size #[Value.int .i64 24, .int .i64 0, .int .i64 0, .slice none 0 0, .int .i64 0] rfl rfl 40 #[Value.int .i64 0, .int .i64 0, .int .i64 0, .slice none 0 0, .int .i64 0] (Mem.new wd _ _) (by kernel_rfl) (by kernel_rfl) (by kernel_rfl) ?_; obtain ⟨xd, ed, jd, md, bd⟩ := box_new hd #[Value.int .i64 24, .int .i64 0, .int .i64 0, .slice none 0 0, .int .i64 0]; rw [← ed]; clear ed; have BY := BD.trans (bd.mono BD.size))
            | (go_at_call 14; (with_reducible refine (cE _ jd).mono ?_); rintro e we ⟨rfl, he, ke⟩; have me : Mem we wd.heap.size 40 #[Value.int .i64 24, .int .i64 0, .int .i64 0, .slice none 0 0, .int .i64 0] := (ke.block _ md.lt hYd).trans md; have BE := BY.trans (ke.below hYw BY.size))
            | (refine wpList_store_row rfl 40 (.tmp 18) (.tmp 119) rfl we.heap.size #[Value.int .i64 24, .int .i64 0, .int .i64 0, .slice none 0 0, .int .i64 0] rfl rfl 40 #[Value.int .i64 0, .int .i64 0, .int .i64 0, .slice none 0 0, .int .i64 0] (Mem.new we _ _) (by kernel_rfl) (by kernel_rfl) (by kernel_rfl) ?_; obtain ⟨xe, ee, je, mx, be⟩ := box_new he #[Value.int .i64 24, .int .i64 0, .int .i64 0, .slice none 0 0, .int .i64 0]; rw [← ee]; clear ee; have me2 := me.below be me.lt; have r1 := me2.cell 0; have r2 := mx.cell 0; have BF := BE.trans (be.mono BE.size)))
          go_ret
          exact ⟨rfl, BF⟩
set_option maxRecDepth 100000 in
theorem lifted (os : Os) (started : os.Started) (H : Type) (enc : TypeId × Value → H) :
    ReturnsInHanded {} Try.checked os 4 .any (Rows.resvClearsSpec.pre6 enc Try.prog Try.f4 Rows.resvClearsRow.domain false) (Rows.resvClearsSpec.post enc Try.prog Try.f4 false true false false) := by
  refine returnsInHanded_of_change (C := Try.checked) own started (by kernel_rfl) Try.func4
    (ChangeSpec.witness6 (enc := enc) (C := Try.checked) false ⟨#[], #[.int .u8 0, .int .u8 0, .int .u8 0], []⟩ 8 (by kernel_rfl) (by kernel_rfl) (by kernel_rfl) (by kernel_rfl)) ?_
  intro W base args ds gs before hval0 hW hcnd _
  have hval : ∀ (j : Nat) t v, Try.f4.params[j]? = some t → args[j]? = some v → Value.okWide Try.prog W .any base t v := hval0
  have hW' := hW
  obtain ⟨p, q, hA0, hV, rfl, hfz, hnd⟩ := hW
  have hA : DataW.TrodAll enc Try.prog W 0 (fun _ => true) true Try.f4.params.toList args.toList ds p := hA0
  rw [Try.params4] at hA hval
  obtain ⟨v0, vs0, d0, ds0, p0, q0, hargs, rfl, rfl, h0, r0⟩ := trodAll_cons hA
  obtain ⟨v1, vs1, d1, ds1, p1, q1, rfl, rfl, rfl, h1, r1⟩ := trodAll_cons r0
  obtain ⟨v2, vs2, d2, ds2, p2, q2, rfl, rfl, rfl, h2, r2⟩ := trodAll_cons r1
  obtain ⟨rfl, rfl, rfl⟩ := trodAll_nil r2
  obtain rfl : args = #[v0, v1, v2] := by cases args; simp_all
  obtain ⟨rfl, rfl⟩ := trodVars_none hV
  obtain ⟨a0, rfl, _, _, w0⟩ := open_int Try.underlying5 (hval 0 5 v0 rfl rfl) h0
  have b0 := bounds_u8 w0
  obtain ⟨a1, rfl, _, _, w1⟩ := open_int Try.underlying5 (hval 1 5 v1 rfl rfl) h1
  have b1 := bounds_u8 w1
  obtain ⟨a2, rfl, _, _, w2⟩ := open_int Try.underlying5 (hval 2 5 v2 rfl rfl) h2
  have b2 := bounds_u8 w2
  refine (walk a0 a1 a2 W b0.1 b0.2 b1.1 b1.2 b2.1 b2.2).mono fun e W' ⟨he, hb⟩ => ?_
  subst he
  exact ⟨_, rfl, law_post laidOut (by kernel_rfl) rfl (by kernel_rfl) Try.underlying4 rfl rfl rfl hW' hb⟩

theorem proved : Rows.ResvClearsSaid :=
  OpenClaim.holds_of_wide 4 Try.f4 rfl rfl rfl rfl rfl rfl rfl ⟨rfl, rfl, rfl, rfl, rfl⟩ rfl rfl rfl rfl rfl (by kernel_rfl) Try.func4 (by kernel_rfl)
    (of_decide_eq_true (by kernel_rfl)) (by unfold Func.isWrapper; first | (rw [if_pos (by decide +kernel)]; kernel_rfl) | (rw [if_neg (by decide +kernel)]; exact ⟨rfl, rfl⟩))
    (fun os started H enc _ => lifted os started H enc)
end Rv
end Go.Proofs.Ytgnpepkpbdddhaa
