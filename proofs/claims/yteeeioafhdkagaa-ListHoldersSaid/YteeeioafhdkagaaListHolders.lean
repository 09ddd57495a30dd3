/- ListHolders: for all holders, every cut and every turned byte the statement's function tells true and turns nothing that was there. No condition. -/
import Derived.Test.YteeeioafhdkagaaPrH
import Derived.Deep.AppendLies
import Derived.Deep.RegionWith
import Derived.Test.YteeeioafhdkagaaTail
import Derived.Lib.QuietBelow
import Derived.Deep.DeepCutAuto
import Derived.Deep.QuietTactic
import Derived.BigQuiet
namespace Go.Proofs.Yteeeioafhdkagaa
open Go.ChangeShapes Go.WideShapes Go.ChangeAt Go.RowKit Go.Sort
set_option linter.unusedVariables false
namespace Holders
theorem bs_set (L : List UInt8) (j : Nat) (y : UInt8) : (bs L).set j (.int .u8 (y.toNat : Int)) = bs (L.set j y) := by simp [bs, List.map_set]
set_option maxHeartbeats 4000000 in
set_option maxRecDepth 100000 in
theorem walk (G K Y at_ X cut : Int) (w : World) (hg1 : 0 ≤ G) (hg2 : G ≤ 4294967295) (hk1 : 0 ≤ K) (hk2 : K ≤ 18446744073709551615) (hy1 : 0 ≤ Y) (hy2 : Y ≤ 255) (ha1 : -9223372036854775808 ≤ at_) (ha2 : at_ ≤ 9223372036854775807) (hx1 : 0 ≤ X) (hx2 : X ≤ 255) (hc1 : -9223372036854775808 ≤ cut) (hc2 : cut ≤ 9223372036854775807) :
    Calls Try.prog 8 #[.int .u32 G, .int .u64 K, .int .u8 Y, .int .i64 at_, .int .u8 X, .int .i64 cut] w fun e w' => e = .returned (.bool true) ∧ Below w.heap.size w w' := by
  by_cases hA : at_ < 0
  · go_enter Try.func8, Try.ntmps8
    go_wp2_with (go_at_call 14; with_reducible refine (known_any _).mono ?_; rintro e w1 ⟨rfl, hb1⟩)
    go_ret
    exact ⟨rfl, hb1⟩
  by_cases hC : cut < 0
  · go_enter Try.func8, Try.ntmps8
    go_wp2_with (go_at_call 14; with_reducible refine (known_any _).mono ?_; rintro e w1 ⟨rfl, hb1⟩)
    go_ret
    exact ⟨rfl, hb1⟩
  obtain ⟨g, rfl⟩ : ∃ g : Nat, G = g := ⟨G.toNat, by omega⟩
  obtain ⟨k, rfl⟩ : ∃ k : Nat, K = k := ⟨K.toNat, by omega⟩
  obtain ⟨a, rfl⟩ : ∃ a : Nat, at_ = a := ⟨at_.toNat, by omega⟩
  obtain ⟨C, rfl⟩ : ∃ C : Nat, cut = C := ⟨cut.toNat, by omega⟩
  obtain ⟨xb, rfl⟩ : ∃ xb : UInt8, X = (xb.toNat : Int) := ⟨UInt8.ofNat X.toNat, by rw [UInt8.toNat_ofNat']; omega⟩
  obtain ⟨y, rfl⟩ : ∃ y : UInt8, Y = (y.toNat : Int) := ⟨UInt8.ofNat Y.toNat, by rw [UInt8.toNat_ofNat']; omega⟩
  have hT : (((y.toNat : Nat) : Int) % 16).toNat = y.toNat % 16 := by omega
  have hand := and_u8f y
  have hM : ∃ M, M = (holderS g k (y.toNat % 16)).length := ⟨_, rfl⟩
  obtain ⟨M, hM⟩ := hM
  have hMT : (y.toNat % 16 = 0 ∧ M = 8) ∨ (y.toNat % 16 ≠ 0 ∧ M = 24) := by
    rw [hM, holderS_len]
    by_cases h : y.toNat % 16 = 0
    · left; exact ⟨h, if_pos h⟩
    · right; exact ⟨h, if_neg h⟩
  have cH : ∀ W, Calls Try.prog 23 #[.int .u32 g, .int .u64 k, .int .i64 (y.toNat : Int)] W fun e w' => ∃ A2 c2, e = .returned (.slice A2 M c2) ∧ Sl w' w'.heap.size (.slice A2 M c2) M (bs (holderS g k (y.toNat % 16))) ∧ M ≤ c2 ∧ c2 ≤ maxLen ∧ Below W.heap.size W w' := by
    intro W
    refine (Holder_any g k _ W (by omega) (by omega)).mono ?_
    rintro e w' ⟨v', rfl, hs, hb⟩
    rw [hT, ← hM] at hs
    obtain ⟨A2, c2, rfl, h1, h2⟩ := hs.form
    exact ⟨A2, c2, rfl, hs, h1, h2, hb⟩
  have hcut := holder_cut g k (y.toNat % 16)
  have hy256 := y.toNat_lt
  have hwy : IntKind.i64.wrap (y.toNat : Int) = y.toNat := IntWalk.i64_in _ (by omega)
  generalize holderS g k (y.toNat % 16) = hh at *
  generalize y.toNat % 16 = T at *
  generalize y.toNat = Y at *
  have hM8 : 8 ≤ M ∧ M ≤ 24 := by omega
  have hD : (C : Int) % (M : Int) = ((C % M : Nat) : Int) := by simp
  have hDM : C % M < M := Nat.mod_lt _ (by omega)
  have hQ : (a : Int) % (M : Int) = ((a % M : Nat) : Int) := by simp
  have hqM : a % M < M := Nat.mod_lt _ (by omega)
  generalize C % M = d at *
  generalize a % M = q at *
  have p1 : ∀ W A c, Sl W W.heap.size (.slice A M c) M (bs hh) → Calls Try.prog 19 #[.slice A d c] W fun e w' => e = .returned (.tuple #[.int .u32 0, .int .u64 0, .int .i64 0, .int .i64 3]) ∧ Below W.heap.size W w' := by
    intro W A c hs
    have h1 := hs.take (m := d) (by omega)
    rw [← bs_take] at h1
    have e1 : (hh.take d).length = d := by rw [List.length_take]; omega
    have h2 := ParseHolder_any _ (hh.take d) W (by rw [e1]; exact h1) (by omega)
    rw [hcut d (by omega)] at h2
    exact h2
  have hkl : q < hh.length := by omega
  have hcc : (hh.set q (hh[q] ^^^ xb)).length = M := by rw [List.length_set]; omega
  have hcl := bs_get hkl
  have hxu := xor_u8 hh[q] xb
  have hbl256 := (hh[q]).toNat_lt
  have hxb256 := xb.toNat_lt
  obtain ⟨⟨g', k', t', f'⟩, hph⟩ : ∃ x, phS (hh.set q (hh[q] ^^^ xb)) = x := ⟨_, rfl⟩
  have p4 : ∀ W v, Sl W W.heap.size v M (bs (hh.set q (hh[q] ^^^ xb))) → Calls Try.prog 19 #[v] W fun e w' => e = .returned (.tuple #[.int .u32 g', .int .u64 k', .int .i64 t', .int .i64 f']) ∧ Below W.heap.size W w' := by
    intro W v hs
    have h2 := ParseHolder_any v _ W (by rw [hcc]; exact hs) (by omega)
    rw [hph] at h2
    exact h2
  have hback : f' = 0 → holderS g' k' t' = hh.set q (hh[q] ^^^ xb) ∧ g' < 4294967296 ∧ k' < 18446744073709551616 ∧ t' ≤ 15 := by
    rintro rfl
    exact holder_back hph
  have hM0 : ¬ (M : Int) = 0 := by omega
  have hM9 : (M : Int) ≤ 24 := by omega
  have HBACK := Lib.hid hback
  have P4 := Lib.hid p4
  have HCC := Lib.hid hcc
  have HMT := Lib.hid hMT
  clear hback p4 hcc hph hcut hMT hM hT hg1 hg2 hk1 hk2 hy1 hy2 ha1 hx1 hx2 hc1
  obtain ⟨i0, hi, hz0, hz1, hz2⟩ := info_parts (show (Try.prog.info? 5).map (fun i => (i.zero, i.size, i.bytes)) = some (some (.int .u8 0), 1, 1) by kernel_rfl)
  go_enter Try.func8, Try.ntmps8
  go_wp2_with (first
      | (go_at_call 14; with_reducible refine (known_any _).mono ?_; rintro e w1 ⟨rfl, hb1⟩)
      | (go_at_call 23; with_reducible refine (cH _).mono ?_; rintro e w2 ⟨A2, c2, rfl, hs2, hm2, hm3, hb2⟩; have hdc : (d : Int) ≤ c2 := by omega)
      | (go_at_call 19; with_reducible refine (p1 _ _ _ hs2).mono ?_; rintro e w3 ⟨rfl, hb3⟩; have hs3 := hs2.now hb3)
      | (at_builtin; refine wpList_append_sl _ rfl (.tmp 48) (.tmp 49) _ rfl w3.heap.size 5 i0 _ Try.underlying24 hi hz0 hz1 (by omega) rfl _ 0 [] rfl (World.ownsRow_made w3 #[] 0 (Nat.le_refl _) (by unfold maxLen; omega) rfl) w3.heap.size _ M (bs hh) rfl (hs3.alloc (Nat.le_refl _) _) bs_one (by omega) (by simp) ?_; intro v7 w7 hown7 hg7 hat7
         have ho7 := ownsRow_len hown7 (Nat.zero_add M) (List.nil_append _)
         have hb7 : Below w3.heap.size w3 w7 := below_own ((Below.refl _ _).alloc (Nat.le_refl _) _) hg7 (by simp) (fun k hk => by obtain rfl := Option.some.inj hk; exact Nat.le_refl _)
         clear hown7 hg7 hat7
         obtain ⟨gb, cap, rfl, hgb1, hgb2⟩ := ho7.form (by omega)
         have hc7 : w7.cell? ⟨gb, q, none⟩ = some (.int .u8 ((hh[q]).toNat : Int)) := by rw [ho7.cellAt _ (by omega)]; exact hcl
         have hfz := ho7.frozenAt q
         have HST := Lib.hid (ho7.stored q)))
  have hqM' : (q : Int) < M := by omega
  go_region
  go_wp2_with fail
  have hx8 := HST.out (.int .u8 (((hh[q]).toNat ^^^ xb.toNat : Nat) : Int))
  have hw8 := (hb7.setCell (p := ⟨gb, q, none⟩) hgb1 (.int .u8 (((hh[q]).toNat ^^^ xb.toNat : Nat) : Int))).drew
  have hs8 := Sl.drew (Sl.of_own hx8.1)
  rw [← UInt8.toNat_xor, bs_set] at hs8
  rw [← UInt8.toNat_xor] at hw8 ⊢
  clear hx8 HST hc7 hfz
  have hs8 : Sl (w7.setCell ⟨gb, q, none⟩ (.int .u8 ((hh[q] ^^^ xb).toNat : Int))).drew (w7.setCell ⟨gb, q, none⟩ (.int .u8 ((hh[q] ^^^ xb).toNat : Int))).drew.heap.size (.slice (some ⟨gb, 0, none⟩) M cap) M (bs (hh.set q (hh[q] ^^^ xb))) := hs8
  have hall := bchain (bchain (bchain hb1 hb2) hb3) hw8
  generalize (w7.setCell ⟨gb, q, none⟩ (.int .u8 ((hh[q] ^^^ xb).toNat : Int))).drew = w8 at *
  refine (P4.out _ _ hs8).mono ?_
  rintro e w9 ⟨rfl, hb9⟩
  have hs9 := hs8.now hb9
  have hall9 := bchain hall hb9
  generalize hcx : hh.set q (hh[q] ^^^ xb) = cx at *
  clear hall hb9 hb7 hw8 hb3 hb2 hb1 hs2 hs3 hs8 hcl hxu p1 P4 ho7
  have hfin : (((T : Int) == 0) = true ∧ ((M : Int) == 8) = true) ∨ (((T : Int) == 0) = false ∧ ((M : Int) == 24) = true) := by
    rcases HMT.out with ⟨h1, h2⟩ | ⟨h1, h2⟩
    · left; rw [h1, h2]; exact ⟨rfl, rfl⟩
    · right; rw [h2]; exact ⟨by rw [beq_eq_false_iff_ne]; omega, rfl⟩
  have hsM : Sl w9 w9.heap.size (.slice (some ⟨gb, 0, none⟩) M cap) M (bs cx) := hs9
  go_wp2_with fail
  by_cases hf : f' = 0
  · obtain ⟨e1, e2, e3, e4⟩ := HBACK.out hf
    subst hf
    have c2h : ∀ W, Below w9.heap.size w9 W → Calls Try.prog 23 #[.int .u32 g', .int .u64 k', .int .i64 t'] W fun e w' => ∃ v', e = .returned v' ∧ Sl w' w'.heap.size v' cx.length (bs cx) ∧ Below W.heap.size W w' := by
      intro W hW
      have h := Holder_any g' k' t' W e2 e3
      rw [show ((t' : Int) % 16).toNat = t' by omega, e1] at h
      exact h
    have kcA : ∀ W, Below w9.heap.size w9 W → (convert 24 9 (.slice (some ⟨gb, 0, none⟩) M cap)).run Try.prog W = .ok (.string ⟨cx.toArray⟩) W := fun W hW =>
      bytes_str _ _ _ _ Try.underlying24 Try.underlying5 Try.underlying9 _ _ cx _ (hs9.now hW)
    have kr : ∀ W v, Sl W W.heap.size v cx.length (bs cx) → (convert 24 9 v).run Try.prog W = .ok (.string ⟨cx.toArray⟩) W := fun W v h =>
      bytes_str _ _ _ _ Try.underlying24 Try.underlying5 Try.underlying9 _ _ cx _ h
    rw [show ((0 : Nat) : Int) = 0 from rfl]
    clear e1 e2 e3 e4 hsM HMT HBACK HCC
    clear hdc cH hD hDM hQ hqM' hxb256 hM0 hM9 hm2 hm3 hgb1 hgb2 hwy hy256 hi hz0 hz1 hz2 ha2 hc2 hA hC
    go_cut [84] (fun t wx => t = .bool false ∧ Below w9.heap.size w9 wx)
    case first =>
      refine Tail.region_tail_on (C := fun w' => ∃ p : Regrown, w' = grow (redrawn w9 p.d) p.os) 3 (Array.replicate 3 true ++ Array.replicate 9 false) rfl (by kernel_rfl) (by kernel_rfl) ⟨⟨w9.drawn + 1, #[]⟩, by rw [grow_empty]; rfl⟩ ?_
      simp only [List.take_succ_cons, List.take_zero]
      repeat (go_big_quiet_step (fail))
      refine wpQuiet_nil ?_
      intro w6 hw6
      have hB : Below w9.heap.size w9 w6 := by obtain ⟨p, rfl⟩ := hw6; exact below_regrown _ _ _
      have kc := kcA _ hB
      clear hw6
      refine wpAny_take (i := 3) (v := ?_) rfl (by kernel_rfl) (by kernel_rfl) (by kernel_rfl) (fun _ _ _ h => h) (Or.inl ⟨by rfl, ?_⟩) ?_
      rotate_left
      · intro w
        go_simp
        all_goals with_reducible rfl
      refine wpAny_take (i := 4) (v := ?_) rfl (by kernel_rfl) (by kernel_rfl) (by kernel_rfl) (fun _ _ _ h => h) (Or.inl ⟨by rfl, ?_⟩) ?_
      rotate_left
      · intro w
        go_simp
        all_goals with_reducible rfl
      refine wpAny_take (i := 5) (v := ?_) rfl (by kernel_rfl) (by kernel_rfl) (by kernel_rfl) (fun _ _ _ h => h) (Or.inl ⟨by rfl, ?_⟩) ?_
      rotate_left
      · intro w
        go_simp
        all_goals with_reducible rfl
      refine wpAny_take (i := 8) (v := ?_) rfl (by kernel_rfl) (by kernel_rfl) (by kernel_rfl) (fun _ _ _ h => h) (Or.inl ⟨by rfl, ?_⟩) ?_
      rotate_left
      · intro w
        go_simp
        all_goals with_reducible rfl
      refine wpAny_ready (rs := [6, 9]) (by kernel_rfl) (by simp) ?_
      refine AllReady.cons rfl (fun K hK => ?_) ?_
      · go_simp
        go_at_call 23
        (with_reducible refine (c2h _ hB).mono ?_)
        rintro e w10 ⟨v10, rfl, hs10, hb10⟩
        have hB := hB.trans (hb10.mono hB.size)
        have kr10 := kr _ _ hs10
        have kc := kcA _ hB
        refine hK _ _ ?_
        clear hK K
        refine wpAny_ready (rs := [7, 9]) (by kernel_rfl) (by simp) ?_
        refine AllReady.cons rfl (fun K hK => ?_) ?_
        · go_simp
          refine hK _ _ ?_
          clear hK K
          refine wpAny_ready (rs := [9]) (by kernel_rfl) (by simp) ?_
          refine AllReady.cons rfl (fun K hK => ?_) ?_
          · go_simp
            refine hK _ _ ?_
            clear hK K
            refine wpAny_take (i := 10) (v := ?_) rfl (by kernel_rfl) (by kernel_rfl) (by kernel_rfl) (fun _ _ _ h => h) (Or.inl ⟨by rfl, ?_⟩) ?_
            rotate_left
            · intro w
              go_simp
              all_goals with_reducible rfl
            refine wpAny_take (i := 11) (v := ?_) rfl (by kernel_rfl) (by kernel_rfl) (by kernel_rfl) (fun _ _ _ h => h) (Or.inl ⟨by rfl, ?_⟩) ?_
            rotate_left
            · intro w
              go_simp
              all_goals with_reducible rfl
            refine wpAny_done (by kernel_rfl) ?_ _
            go_wp2_with fail
            go_meet
            exact ⟨rfl, hB⟩
          exact AllReady.nil
        refine AllReady.cons rfl (fun K hK => ?_) ?_
        · go_simp
          refine hK _ _ ?_
          clear hK K
          refine wpAny_ready (rs := [7]) (by kernel_rfl) (by simp) ?_
          refine AllReady.cons rfl (fun K hK => ?_) ?_
          · go_simp
            refine hK _ _ ?_
            clear hK K
            refine wpAny_take (i := 10) (v := ?_) rfl (by kernel_rfl) (by kernel_rfl) (by kernel_rfl) (fun _ _ _ h => h) (Or.inl ⟨by rfl, ?_⟩) ?_
            rotate_left
            · intro w
              go_simp
              all_goals with_reducible rfl
            refine wpAny_take (i := 11) (v := ?_) rfl (by kernel_rfl) (by kernel_rfl) (by kernel_rfl) (fun _ _ _ h => h) (Or.inl ⟨by rfl, ?_⟩) ?_
            rotate_left
            · intro w
              go_simp
              all_goals with_reducible rfl
            refine wpAny_done (by kernel_rfl) ?_ _
            go_wp2_with fail
            go_meet
            exact ⟨rfl, hB⟩
          exact AllReady.nil
        exact AllReady.nil
      refine AllReady.cons rfl (fun K hK => ?_) ?_
      · go_simp
        refine hK _ _ ?_
        clear hK K
        refine wpAny_ready (rs := [6]) (by kernel_rfl) (by simp) ?_
        refine AllReady.cons rfl (fun K hK => ?_) ?_
        · go_simp
          go_at_call 23
          (with_reducible refine (c2h _ hB).mono ?_)
          rintro e w10 ⟨v10, rfl, hs10, hb10⟩
          have hB := hB.trans (hb10.mono hB.size)
          have kr10 := kr _ _ hs10
          have kc := kcA _ hB
          refine hK _ _ ?_
          clear hK K
          refine wpAny_ready (rs := [7]) (by kernel_rfl) (by simp) ?_
          refine AllReady.cons rfl (fun K hK => ?_) ?_
          · go_simp
            refine hK _ _ ?_
            clear hK K
            refine wpAny_take (i := 10) (v := ?_) rfl (by kernel_rfl) (by kernel_rfl) (by kernel_rfl) (fun _ _ _ h => h) (Or.inl ⟨by rfl, ?_⟩) ?_
            rotate_left
            · intro w
              go_simp
              all_goals with_reducible rfl
            refine wpAny_take (i := 11) (v := ?_) rfl (by kernel_rfl) (by kernel_rfl) (by kernel_rfl) (fun _ _ _ h => h) (Or.inl ⟨by rfl, ?_⟩) ?_
            rotate_left
            · intro w
              go_simp
              all_goals with_reducible rfl
            refine wpAny_done (by kernel_rfl) ?_ _
            go_wp2_with fail
            go_meet
            exact ⟨rfl, hB⟩
          exact AllReady.nil
        exact AllReady.nil
      exact AllReady.nil
    case rest =>
      obtain ⟨rfl, hbw⟩ := hcut
      have hend := hall9.trans (hbw.mono hall9.size)
      rcases hfin with ⟨ht, hm⟩ | ⟨ht, hm⟩
      · go_wp2_with fail
        go_ret
        exact ⟨rfl, hend⟩
      · go_wp2_with fail
        go_ret
        exact ⟨rfl, hend⟩
  · have hf' : ((f' : Int) == 0) = false := by rw [beq_eq_false_iff_ne]; omega
    go_quiet (fail)
    rcases hfin with ⟨ht, hm⟩ | ⟨ht, hm⟩
    · go_wp2_with fail
      go_ret
      exact ⟨rfl, below_drewN hall9 _⟩
    · go_wp2_with fail
      go_ret
      exact ⟨rfl, below_drewN hall9 _⟩
set_option maxRecDepth 100000 in
theorem lifted (os : Os) (started : os.Started) (H : Type) (enc : TypeId × Value → H) :
    ReturnsInHanded {} Try.checked os 8 .any (Rows.listHoldersSpec.pre6 enc Try.prog Try.f8 Rows.listHoldersRow.domain false) (Rows.listHoldersSpec.post enc Try.prog Try.f8 false true false false) := by
  refine returnsInHanded_of_change (C := Try.checked) own started (by kernel_rfl) Try.func8
    (ChangeSpec.witness6 (enc := enc) (C := Try.checked) false ⟨#[], #[.int .u32 0, .int .u64 0, .int .u8 0, .int .i64 0, .int .u8 0, .int .i64 0], []⟩ 8 (by kernel_rfl) (by kernel_rfl) (by kernel_rfl) (by kernel_rfl)) ?_
  intro W base args ds gs before hval0 hW hcnd _
  have hval : ∀ (j : Nat) t v, Try.f8.params[j]? = some t → args[j]? = some v → Value.okWide Try.prog W .any base t v := hval0
  have hW' := hW
  obtain ⟨p, q, hA0, hV, rfl, hfz, hnd⟩ := hW
  have hA : DataW.TrodAll enc Try.prog W 0 (fun _ => true) true Try.f8.params.toList args.toList ds p := hA0
  rw [Try.params8] at hA hval
  obtain ⟨v0, vs0, d0, ds0, p0, q0, hargs, rfl, rfl, h0, r0⟩ := trodAll_cons hA
  obtain ⟨v1, vs1, d1, ds1, p1, q1, rfl, rfl, rfl, h1, r1⟩ := trodAll_cons r0
  obtain ⟨v2, vs2, d2, ds2, p2, q2, rfl, rfl, rfl, h2, r2⟩ := trodAll_cons r1
  obtain ⟨v3, vs3, d3, ds3, p3, q3, rfl, rfl, rfl, h3, r3⟩ := trodAll_cons r2
  obtain ⟨v4, vs4, d4, ds4, p4, q4, rfl, rfl, rfl, h4, r4⟩ := trodAll_cons r3
  obtain ⟨v5, vs5, d5, ds5, p5, q5, rfl, rfl, rfl, h5, r5⟩ := trodAll_cons r4
  obtain ⟨rfl, rfl, rfl⟩ := trodAll_nil r5
  obtain rfl : args = #[v0, v1, v2, v3, v4, v5] := by cases args; simp_all
  obtain ⟨rfl, rfl⟩ := trodVars_none hV
  obtain ⟨a0, rfl, _, _, w0⟩ := open_int Try.underlying29 (hval 0 29 v0 rfl rfl) h0
  have b0 := bounds_u32 w0
  obtain ⟨a1, rfl, _, _, w1⟩ := open_int Try.underlying25 (hval 1 25 v1 rfl rfl) h1
  have b1 := bounds_u64 w1
  obtain ⟨a2, rfl, _, _, w2⟩ := open_int Try.underlying5 (hval 2 5 v2 rfl rfl) h2
  have b2 := bounds_u8 w2
  obtain ⟨a3, rfl, _, _, w3⟩ := open_int Try.underlying3 (hval 3 3 v3 rfl rfl) h3
  have b3 := bounds_i64 w3
  obtain ⟨a4, rfl, _, _, w4⟩ := open_int Try.underlying5 (hval 4 5 v4 rfl rfl) h4
  have b4 := bounds_u8 w4
  obtain ⟨a5, rfl, _, _, w5⟩ := open_int Try.underlying3 (hval 5 3 v5 rfl rfl) h5
  have b5 := bounds_i64 w5
  refine (walk a0 a1 a2 a3 a4 a5 W b0.1 b0.2 b1.1 b1.2 b2.1 b2.2 b3.1 b3.2 b4.1 b4.2 b5.1 b5.2).mono fun e W' ⟨he, hb⟩ => ?_
  subst he
  exact ⟨_, rfl, law_post laidOut (by kernel_rfl) rfl (by kernel_rfl) Try.underlying4 rfl rfl rfl hW' hb⟩

theorem proved : Rows.ListHoldersSaid :=
  OpenClaim.holds_of_wide 8 Try.f8 rfl rfl rfl rfl rfl rfl rfl ⟨rfl, rfl, rfl, rfl, rfl⟩ rfl rfl rfl rfl rfl (by kernel_rfl) Try.func8 (by kernel_rfl)
    (of_decide_eq_true (by kernel_rfl)) (by unfold Func.isWrapper; first | (rw [if_pos (by decide +kernel)]; kernel_rfl) | (rw [if_neg (by decide +kernel)]; exact ⟨rfl, rfl⟩))
    (fun os started H enc _ => lifted os started H enc)
end Holders
end Go.Proofs.Yteeeioafhdkagaa
