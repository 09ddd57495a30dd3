/- ListCuts: for all keys, every cut and every turned byte the statement's function tells true and turns nothing that was there. No condition. -/
import Derived.Test.YteeeioafhdkagaaPrC
import Derived.Deep.AppendLies
namespace Go.Proofs.Yteeeioafhdkagaa
open Go.ChangeShapes Go.WideShapes Go.ChangeAt Go.RowKit
set_option linter.unusedVariables false
namespace Cuts
theorem bs_set (L : List UInt8) (j : Nat) (y : UInt8) : (bs L).set j (.int .u8 (y.toNat : Int)) = bs (L.set j y) := by simp [bs, List.map_set]
set_option maxHeartbeats 2000000 in
theorem walk (G : Int) (v : Value) (lz : List Int) (cut X : Int) (w : World) (hg1 : 0 ≤ G) (hg2 : G ≤ 4294967295) (hv : Sl w w.heap.size v lz.length (lz.map (Value.int .u64))) (hwf : ∀ n ∈ lz, (Lit.int .u64 n).wf = true) (hb1 : -9223372036854775808 ≤ cut) (hb2 : cut ≤ 9223372036854775807) (hx1 : 0 ≤ X) (hx2 : X ≤ 255) :
    Calls Try.prog 7 #[.int .u32 G, v, .int .i64 cut, .int .u8 X] w fun e w' => e = .returned (.bool true) ∧ Below w.heap.size w w' := by
  obtain ⟨A, c, rfl, hc1, hc2⟩ := hv.form
  unfold maxLen at hc2
  by_cases hll : 16 < lz.length ∨ cut < 0
  · have hll' : (16 : Int) < lz.length ∨ cut < 0 := by omega
    by_cases h16 : 16 < lz.length
    · have h16' : (16 : Int) < lz.length := by omega
      clear hll hll' hv hwf
      go_enter Try.func7, Try.ntmps7
      go_wp2_with (go_at_call 14; with_reducible refine (known_any _).mono ?_; rintro e w1 ⟨rfl, hb1⟩)
      go_ret
      exact ⟨rfl, hb1⟩
    · have h16' : ¬ (16 : Int) < lz.length := by omega
      have hn : cut < 0 := by omega
      clear hll hll' hv hwf
      go_enter Try.func7, Try.ntmps7
      go_wp2_with (go_at_call 14; with_reducible refine (known_any _).mono ?_; rintro e w1 ⟨rfl, hb1⟩)
      go_ret
      exact ⟨rfl, hb1⟩
  · obtain ⟨l, rfl⟩ : ∃ l : List Nat, lz = l.map fun (n : Nat) => (n : Int) := by
      refine ⟨lz.map Int.toNat, ?_⟩
      rw [List.map_map]
      conv => lhs; rw [← List.map_id lz]
      refine List.map_congr_left fun n hn => ?_
      have := bounds_u64 (hwf n hn)
      simp only [Function.comp, id]
      omega
    have hl64 : ∀ n ∈ l, n < 18446744073709551616 := by
      intro n hn
      have := bounds_u64 (hwf (n : Int) (List.mem_map.2 ⟨n, hn, rfl⟩))
      omega
    have hul : (l.map fun (n : Nat) => (n : Int)).map (Value.int .u64) = u64s l := by simp [u64s]
    rw [hul] at hv
    rw [List.length_map] at hv hll hc1 ⊢
    clear hul hwf
    obtain ⟨g, rfl⟩ : ∃ g : Nat, G = g := ⟨G.toNat, by omega⟩
    obtain ⟨C, rfl⟩ : ∃ C : Nat, cut = C := ⟨cut.toNat, by omega⟩
    obtain ⟨xb, rfl⟩ : ∃ xb : UInt8, X = (xb.toNat : Int) := ⟨UInt8.ofNat X.toNat, by rw [UInt8.toNat_ofNat']; omega⟩
    have hl16 : l.length ≤ 16 := by omega
    have hlen : (keysS g l).length = 8 + 8 * l.length := keysS_len g l
    have hmid := keysS_midV g l hl16
    have cK : ∀ W, Sl W W.heap.size (.slice A l.length c) l.length (u64s l) → Calls Try.prog 22 #[.int .u32 g, .slice A l.length c] W fun e w' => ∃ A2 c2, e = .returned (.slice A2 (8 + 8 * l.length) c2) ∧ Sl w' w'.heap.size (.slice A2 (8 + 8 * l.length) c2) (8 + 8 * l.length) (bs (keysS g l)) ∧ 8 + 8 * l.length ≤ c2 ∧ c2 ≤ maxLen ∧ Below W.heap.size W w' := by
      intro W hW
      refine (Keys_any16 g _ l W (by omega) hW hl64 hl16).mono ?_
      rintro e w' ⟨v', rfl, hs, hb⟩
      rw [hlen] at hs
      obtain ⟨A2, c2, rfl, h1, h2⟩ := hs.form
      exact ⟨A2, c2, rfl, hs, h1, h2, hb⟩
    have hn16 : ¬ (16 : Int) < l.length := by omega
    generalize keysS g l = bl at *
    clear hl64 hb1 hll hg1 hg2 hx1 hx2
    have hlM : ∃ M, M = 8 + 8 * l.length := ⟨_, rfl⟩
    obtain ⟨M, hM⟩ := hlM
    have hM8 : 8 ≤ M ∧ M ≤ 136 := by omega
    rw [← hM] at hlen
    simp only [← hM] at cK
    obtain ⟨n, hn⟩ : ∃ n, n = 8 * l.length := ⟨_, rfl⟩
    rw [← hn] at hmid
    have hln : bl.length = 8 + n := by omega
    have hD : (C : Int) % (M : Int) = ((C % M : Nat) : Int) := by simp
    have hDM : C % M < M := Nat.mod_lt _ (by omega)
    have hkk : (C : Int) % 4 = ((C % 4 : Nat) : Int) := by simp
    have hk4 : C % 4 < 4 := Nat.mod_lt _ (by omega)
    generalize C % M = d at *
    generalize C % 4 = q at *
    have p1 : ∀ W A c, Sl W W.heap.size (.slice A M c) M (bs bl) → Calls Try.prog 17 #[.slice A d c] W fun e w' => e = .returned (.tuple #[.int .u32 0, .slice none 0 0, .int .i64 3]) ∧ Below W.heap.size W w' := by
      intro W A c hs
      have h1 := hs.take (m := d) (by omega)
      rw [← bs_take] at h1
      have e1 : (bl.take d).length = d := by rw [List.length_take]; omega
      exact ParseKeys_err _ (bl.take d) W 3 (by rw [e1]; exact h1) (by omega) (pkE_front (cut_short hmid hln (by omega)) (by omega)) (by omega)
    have p2 : ∀ W v, Sl W W.heap.size v (M + 1) (bs (bl ++ [xb])) → Calls Try.prog 17 #[v] W fun e w' => e = .returned (.tuple #[.int .u32 0, .slice none 0 0, .int .i64 2]) ∧ Below W.heap.size W w' := by
      intro W v hs
      have e1 : (bl ++ [xb]).length = M + 1 := by rw [List.length_append, List.length_singleton]; omega
      exact ParseKeys_err _ (bl ++ [xb]) W 2 (by rw [e1]; exact hs) (by omega) (pkE_front (more_form xb hmid hln) (by omega)) (by omega)
    have hkl : 4 + q < bl.length := by omega
    have p3 : xb ≠ 0 → ∀ W v, Sl W W.heap.size v M (bs (bl.set (4 + q) (bl[4 + q] ^^^ xb))) → ∃ E : Nat, E ≠ 0 ∧ Calls Try.prog 17 #[v] W fun e w' => e = .returned (.tuple #[.int .u32 0, .slice none 0 0, .int .i64 (E : Int)]) ∧ Below W.heap.size W w' := by
      intro hx W v hs
      have h0 := turned_len hmid hln (by omega) (by omega) hx hkl
      have h1 := pkE_front (n := frontE (bl.set (4 + q) (bl[4 + q] ^^^ xb))) rfl h0
      exact ⟨_, h0, ParseKeys_err _ _ W _ (by rw [List.length_set, hlen]; exact hs) (by rw [List.length_set]; omega) h1 h0⟩
    have p4 : ∀ W v, Sl W W.heap.size v M (bs (bl.set (4 + q) (bl[4 + q] ^^^ xb))) → Calls Try.prog 17 #[v] W fun e w' => ∃ (g : Nat) (vr : Value) (err : Nat), e = .returned (.tuple #[.int .u32 g, vr, .int .i64 err]) ∧ Below W.heap.size W w' := by
      intro W v hs
      refine (ParseKeys_any v _ W (by rw [List.length_set, hlen]; exact hs) (by rw [List.length_set]; omega)).mono ?_
      rintro e w' ⟨g, vr, err, h, _, _, _, hb⟩
      exact ⟨g, vr, err, h, hb⟩
    have hkM : 4 + q < M := by omega
    have hcl := bs_get hkl
    have hxu := xor_u8 bl[4 + q] xb
    have hbl256 := (bl[4 + q]).toNat_lt
    have hxb256 := xb.toNat_lt
    have hM0 : ¬ (M : Int) = 0 := by omega
    have hM9 : (M : Int) ≤ 136 := by omega
    have P2 := Lib.hid p2
    have P3 := Lib.hid p3
    have P4 := Lib.hid p4
    have HMID := Lib.hid hmid
    have HLEN := Lib.hid hlen
    have HM := Lib.hid hM
    clear p2 p3 p4 hmid hln hlen hM hn hM8
    obtain ⟨i0, hi, hz0, hz1, hz2⟩ := info_parts (show (Try.prog.info? 5).map (fun i => (i.zero, i.size, i.bytes)) = some (some (.int .u8 0), 1, 1) by kernel_rfl)
    go_enter Try.func7, Try.ntmps7
    go_wp2_with (first
      | (go_at_call 14; with_reducible refine (known_any _).mono ?_; rintro e w1 ⟨rfl, hb1⟩; have hv1 := hv.now hb1)
      | (go_at_call 22; with_reducible refine (cK _ hv1).mono ?_; rintro e w2 ⟨A2, c2, rfl, hs2, hm2, hm3, hb2⟩; have hdc : (d : Int) ≤ c2 := by omega)
      | (go_at_call 17; with_reducible refine (p1 _ _ _ hs2).mono ?_; rintro e w3 ⟨rfl, hb3⟩; have hs3 := hs2.now hb3)
      | (at_builtin; refine wpList_append_sl _ rfl (.tmp 45) (.tmp 46) _ rfl w3.heap.size 5 i0 _ Try.underlying24 hi hz0 hz1 (by omega) rfl _ 0 [] rfl (World.ownsRow_made w3 #[] 0 (Nat.le_refl _) (by unfold maxLen; omega) rfl) w3.heap.size _ M (bs bl) rfl (hs3.alloc (Nat.le_refl _) _) bs_one (by omega) (by simp) ?_; intro v4 w4 hown4 hg4 hat4
         have ho4 := ownsRow_len hown4 (Nat.zero_add M) (List.nil_append _)
         have hb4 : Below w3.heap.size w3 w4 := below_own ((Below.refl _ _).alloc (Nat.le_refl _) _) hg4 (by simp) (fun k hk => by obtain rfl := Option.some.inj hk; exact Nat.le_refl _)
         clear hown4 hg4 hat4)
      | (at_builtin; refine wpList_append_sl _ rfl (.tmp 47) (.tmp 49) _ rfl w3.heap.size 5 i0 _ Try.underlying24 hi hz0 hz1 (by omega) rfl v4 M (bs bl) rfl (ho4.alloc _) _ _ 1 (bs [xb]) rfl (Sl.fresh w4 #[.int .u8 (xb.toNat : Int)] 5 (n := 1) rfl (by unfold maxLen; omega)) bs_one (by omega) (hb4.alloc hb4.size _).size ?_; intro v5 w5 hown5 hg5 hat5
         have hb5 : Below w3.heap.size w3 w5 := below_own (hb4.alloc hb4.size _) hg5 (hb4.alloc hb4.size _).size (fun k hk => (ho4.lt k hk).1)
         have hs5 := hs3.now hb5
         have hz5 := P2.out w5 v5 (by rw [bs_app]; exact Sl.of_own hown5)
         clear hown5 hg5 hat5 ho4 hb4)
      | (go_at_call 17; with_reducible refine hz5.mono ?_; rintro e w6 ⟨rfl, hb6⟩; have hs6 := hs5.now hb6; clear hz5)
      | (at_builtin; refine wpList_append_sl _ rfl (.tmp 55) (.tmp 56) _ rfl w6.heap.size 5 i0 _ Try.underlying24 hi hz0 hz1 (by omega) rfl _ 0 [] rfl (World.ownsRow_made w6 #[] 0 (Nat.le_refl _) (by unfold maxLen; omega) rfl) w6.heap.size _ M (bs bl) rfl (hs6.alloc (Nat.le_refl _) _) bs_one (by omega) (by simp) ?_; intro v7 w7 hown7 hg7 hat7
         have ho7 := ownsRow_len hown7 (Nat.zero_add M) (List.nil_append _)
         have hb7 : Below w6.heap.size w6 w7 := below_own ((Below.refl _ _).alloc (Nat.le_refl _) _) hg7 (by simp) (fun k hk => by obtain rfl := Option.some.inj hk; exact Nat.le_refl _)
         clear hown7 hg7 hat7
         obtain ⟨gb, cap, rfl, hgb1, hgb2⟩ := ho7.form (by omega)
         have hc7 : w7.cell? ⟨gb, 4 + q, none⟩ = some (.int .u8 ((bl[4 + q]).toNat : Int)) := by rw [ho7.cellAt _ (by omega)]; exact hcl
         have hfz := ho7.frozenAt (4 + q)
         have HST := Lib.hid (ho7.stored (4 + q)))
)
    have hx8 := HST.out (.int .u8 (((bl[4 + q]).toNat ^^^ xb.toNat : Nat) : Int))
    have hw8 := hb7.setCell (p := ⟨gb, 4 + q, none⟩) hgb1 (.int .u8 (((bl[4 + q]).toNat ^^^ xb.toNat : Nat) : Int))
    have hs8 := Sl.of_own hx8.1
    rw [← UInt8.toNat_xor, bs_set] at hs8
    rw [← UInt8.toNat_xor] at hw8 ⊢
    clear hx8 HST hc7 hfz
    have hall := bchain (bchain (bchain (bchain (bchain hb1 hb2) hb3) hb5) hb6) hw8
    generalize w7.setCell ⟨gb, 4 + q, none⟩ (.int .u8 ((bl[4 + q] ^^^ xb).toNat : Int)) = w8 at *
    by_cases hx : xb = 0
    · subst hx
      have hxz : (((0 : UInt8).toNat : Int)) = 0 := rfl
      refine (P4.out _ _ hs8).mono ?_
      rintro e w9 ⟨g', vr, err, rfl, hb9⟩
      go_wp2
      go_ret
      exact ⟨rfl, bchain hall hb9⟩
    · have hxz : ¬ (xb.toNat : Int) = 0 := by
        intro h
        exact hx (UInt8.toNat_inj.1 (by show xb.toNat = 0; omega))
      obtain ⟨E, hE, hc8⟩ := P3.out hx _ _ hs8
      have hE' : ((E : Int) == 0) = false := by rw [beq_eq_false_iff_ne]; omega
      refine hc8.mono ?_
      rintro e w9 ⟨rfl, hb9⟩
      go_wp2
      go_ret
      exact ⟨rfl, bchain hall hb9⟩
set_option maxRecDepth 100000 in
theorem lifted (os : Os) (started : os.Started) (H : Type) (enc : TypeId × Value → H) :
    ReturnsInHanded {} Try.checked os 7 .any (Rows.listCutsSpec.pre6 enc Try.prog Try.f7 Rows.listCutsRow.domain false) (Rows.listCutsSpec.post enc Try.prog Try.f7 false true false false) := by
  refine returnsInHanded_of_change (C := Try.checked) own started (by kernel_rfl) Try.func7
    (ChangeSpec.witness6 (enc := enc) (C := Try.checked) false ⟨#[], #[.int .u32 0, .slice none 0 0, .int .i64 0, .int .u8 0], []⟩ 8 (by kernel_rfl) (by kernel_rfl) (by kernel_rfl) (by kernel_rfl)) ?_
  intro W base args ds gs before hval0 hW hcnd _
  have hval : ∀ (j : Nat) t v, Try.f7.params[j]? = some t → args[j]? = some v → Value.okWide Try.prog W .any base t v := hval0
  have hW' := hW
  obtain ⟨p, q, hA0, hV, rfl, hfz, hnd⟩ := hW
  have hA : DataW.TrodAll enc Try.prog W 0 (fun _ => true) true Try.f7.params.toList args.toList ds p := hA0
  rw [Try.params7] at hA hval
  obtain ⟨v0, vs0, d0, ds0, p0, q0, hargs, rfl, rfl, h0, r0⟩ := trodAll_cons hA
  obtain ⟨v1, vs1, d1, ds1, p1, q1, rfl, rfl, rfl, h1, r1⟩ := trodAll_cons r0
  obtain ⟨v2, vs2, d2, ds2, p2, q2, rfl, rfl, rfl, h2, r2⟩ := trodAll_cons r1
  obtain ⟨v3, vs3, d3, ds3, p3, q3, rfl, rfl, rfl, h3, r3⟩ := trodAll_cons r2
  obtain ⟨rfl, rfl, rfl⟩ := trodAll_nil r3
  obtain rfl : args = #[v0, v1, v2, v3] := by cases args; simp_all
  obtain ⟨rfl, rfl⟩ := trodVars_none hV
  obtain ⟨a0, rfl, _, _, w0⟩ := open_int Try.underlying29 (hval 0 29 v0 rfl rfl) h0
  have b0 := bounds_u32 w0
  obtain ⟨z1, s1, w1, e1⟩ := open_sl Try.underlying43 Try.underlying25 (by kernel_rfl) (hval 1 43 v1 rfl rfl) h1
  obtain ⟨a2, rfl, _, _, w2⟩ := open_int Try.underlying3 (hval 2 3 v2 rfl rfl) h2
  have b2 := bounds_i64 w2
  obtain ⟨a3, rfl, _, _, w3⟩ := open_int Try.underlying5 (hval 3 5 v3 rfl rfl) h3
  have b3 := bounds_u8 w3
  refine (walk a0 v1 z1 a2 a3 W b0.1 b0.2 s1 w1 b2.1 b2.2 b3.1 b3.2).mono fun e W' ⟨he, hb⟩ => ?_
  subst he
  exact ⟨_, rfl, law_post laidOut (by kernel_rfl) rfl (by kernel_rfl) Try.underlying4 rfl rfl rfl hW' hb⟩

theorem proved : Rows.ListCutsSaid :=
  OpenClaim.holds_of_wide 7 Try.f7 rfl rfl rfl rfl rfl rfl rfl ⟨rfl, rfl, rfl, rfl, rfl⟩ rfl rfl rfl rfl rfl (by kernel_rfl) Try.func7 (by kernel_rfl)
    (of_decide_eq_true (by kernel_rfl)) (by unfold Func.isWrapper; first | (rw [if_pos (by decide +kernel)]; kernel_rfl) | (rw [if_neg (by decide +kernel)]; exact ⟨rfl, rfl⟩))
    (fun os started H enc _ => lifted os started H enc)
end Cuts
end Go.Proofs.Yteeeioafhdkagaa
