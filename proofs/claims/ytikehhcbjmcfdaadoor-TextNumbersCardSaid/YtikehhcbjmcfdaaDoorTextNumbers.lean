/- TextNumbers: for every number the statement's function tells true and turns nothing that was there. No condition. -/
import Derived.Test.YtikehhcbjmcfdaaDoorTxtK
import Derived.Test.YtikehhcbjmcfdaaDoorTxtF
import Derived.Test.YtikehhcbjmcfdaaDoorTxtW
import Derived.Test.YtikehhcbjmcfdaaDoorCards
import Derived.Test.YtikehhcbjmcfdaaDoorTie
import Derived.Deep.DeepHandedRow
import Derived.Lay
import Derived.IntWalk
namespace Go.Proofs.YtikehhcbjmcfdaaDoor
open Go.ChangeShapes Go.WideShapes Go.ChangeAt Go.RowKit
set_option linter.unusedVariables false
namespace TextNumbers
set_option maxHeartbeats 4000000 in
set_option maxRecDepth 100000 in
theorem walk0 (n : Int) (m : Int) (w : World) (hm : w.cell? ⟨0, 0, none⟩ = some (.int .i64 m)) (hm0 : 0 < w.heap.size) (hn1 : -9223372036854775808 ≤ n) (hn2 : n ≤ 9223372036854775807) :
    Calls Tryd.prog 4 #[.int .i64 n] w fun e w' => e = .returned (.bool true) ∧ Below w.heap.size w w' := by
  have hK := known_any m w hm hm0
  by_cases hr : n < 0 ∨ 999999999 < n
  · go_enter Tryd.func4, Tryd.ntmps4
    go_wp2_with (go_at_call 7; refine hK.mono ?_; rintro e w1 ⟨rfl, hb1⟩)
    all_goals go_ret
    all_goals exact ⟨rfl, hb1⟩
  · obtain ⟨N, rfl⟩ : ∃ N : Nat, n = N := ⟨n.toNat, by omega⟩
    have hN : N ≤ 999999999 := by omega
    obtain ⟨d, hd⟩ : ∃ d : ByteArray, d = ⟨(decS N).toArray⟩ := ⟨_, rfl⟩
    have hdd : d.data.toList = decS N := by rw [hd]
    have hds : d.size ≤ 9 := by
      have h1 : d.data.toList.length = d.size := by simp
      have := decS_le 8 N (by omega)
      rw [← h1, hdd]
      exact this
    have hdec : ∀ W, Calls Tryd.prog 12 #[.int .i64 N] W fun e w' => e = .returned (.string d) ∧ Below W.heap.size W w' := fun W => by rw [hd]; exact decimal_any N W hN
    have hnum : ∀ W, Calls Tryd.prog 10 #[.string d] W fun e w' => e = .returned (.tuple #[.int .i64 N, .bool true]) ∧ W = w' := fun W => by
      have h := Number_any d W (by unfold maxLen; omega)
      rw [hdd, numS_dec hN] at h
      exact h
    have hpre : ∀ (c : UInt8), c.toNat ≤ 57 → (c = 48 ∨ ¬ worthS (c.toNat : Int) < 10) → ∀ W, Calls Tryd.prog 10 #[.string (⟨#[c]⟩ ++ d)] W fun e w' => ∃ z : Int, e = .returned (.tuple #[.int .i64 z, .bool false]) ∧ W = w' := fun c h1 h2 W => by
      have e1 : (ByteArray.mk #[c] ++ d).data.toList = c :: decS N := by rw [← hdd]; simp
      have h := Number_any (⟨#[c]⟩ ++ d) W (by
        have h3 : (ByteArray.mk #[c] ++ d).data.toList.length = (ByteArray.mk #[c] ++ d).size := by rw [Array.length_toList]; rfl
        rw [e1] at h3
        have := decS_le 8 N (by omega)
        rw [List.length_cons] at h3
        rw [← h3]
        unfold maxLen
        omega)
      rw [e1, numS_pre c h1 h2] at h
      exact h.mono fun e w' ⟨he, hw⟩ => ⟨_, he, hw⟩
    have h48 := hpre 48 (by decide) (.inl rfl)
    have h45 := hpre 45 (by decide) (.inr (by decide))
    have h32 := hpre 32 (by decide) (.inr (by decide))
    clear hpre hd hdd
    go_enter Tryd.func4, Tryd.ntmps4
    go_wp2_with (first
      | (go_at_call 7; refine hK.mono ?_; rintro e w1 ⟨rfl, hb1⟩)
      | (go_at_call 12; with_reducible refine (hdec _).mono ?_; rintro e w2 ⟨rfl, hb2⟩)
      | (go_at_call 10; with_reducible refine (hnum _).mono ?_; rintro e w' ⟨rfl, rfl⟩)
      | (go_at_call 10; with_reducible refine (h48 _).mono ?_; rintro e w' ⟨z1, rfl, rfl⟩)
      | (go_at_call 10; with_reducible refine (h45 _).mono ?_; rintro e w' ⟨z2, rfl, rfl⟩)
      | (go_at_call 10; with_reducible refine (h32 _).mono ?_; rintro e w' ⟨z3, rfl, rfl⟩))
    · have hb3 := hb1.trans (hb2.mono hb1.size)
      clear hb1 hb2 hK hdec hnum hm
      go_loopw [6, 7, 8] (fun hs us v wr => ∃ (k V : Nat) (h u : ByteArray), hs = .string h ∧ us = .string u ∧ v = .int .i64 V ∧ k ≤ 6 ∧ V < 16 ^ (7 - k) ∧ h.size = k ∧ u.size = k ∧
        numFrom 16 (some (V : Int)) h.data.toList = some (N : Int) ∧ numFrom 16 (some (V : Int)) u.data.toList = some (N : Int) ∧ Below w.heap.size w wr) (fun _ _ v _ => (intOf v).toNat)
      case atStart => exact ⟨0, N, ⟨#[]⟩, ⟨#[]⟩, rfl, rfl, rfl, by omega, by simp; omega, rfl, rfl, rfl, rfl, hb3⟩
      case round =>
        obtain ⟨k, V, h, u, rfl, rfl, rfl, hk, hV, hh, hu, hhn, hun, hb⟩ := hrel
        have hVm : V < 268435456 := Nat.lt_of_lt_of_le hV (Nat.le_trans (Nat.pow_le_pow_right (by omega) (by omega : 7 - k ≤ 7)) (by decide))
        have h15 := and_15 V hVm
        obtain ⟨hl1, hl2⟩ := hexl_at (V % 16) (by omega)
        obtain ⟨hu1, hu2⟩ := hexu_at (V % 16) (by omega)
        have hz (x : ByteArray) : x.data.toList.length = x.size := by simp
        have z1 : (hexl.extract (V % 16) (V % 16 + 1)).size = 1 := by rw [← hz, hl1]; rfl
        have z2 : (hexu.extract (V % 16) (V % 16 + 1)).size = 1 := by rw [← hz, hu1]; rfl
        have e1 : (hexl.extract (V % 16) (V % 16 + 1) ++ h).data.toList = hexAt hexl (V % 16) :: h.data.toList := by rw [ByteArray.data_append, Array.toList_append, hl1]; rfl
        have e2 : (hexu.extract (V % 16) (V % 16 + 1) ++ u).data.toList = hexAt hexu (V % 16) :: u.data.toList := by rw [ByteArray.data_append, Array.toList_append, hu1]; rfl
        have s1 := hex_step hl2 hhn
        have s2 := hex_step hu2 hun
        rw [← e1] at s1
        rw [← e2] at s2
        have z3 : (hexl.extract (V % 16) (V % 16 + 1) ++ h).size = k + 1 := by rw [← hz, e1, List.length_cons, hz, hh]
        have z4 : (hexu.extract (V % 16) (V % 16 + 1) ++ u).size = k + 1 := by rw [← hz, e2, List.length_cons, hz, hu]
        clear hl1 hl2 hu1 hu2 e1 e2 hhn hun
        by_cases hlt : V < 16
        · have hx : ∀ (t : ByteArray), t.size = k + 1 → numFrom 16 (some ((V / 16 : Nat) : Int)) t.data.toList = some (N : Int) → ∀ W, Calls Tryd.prog 10 #[.string (⟨#[48, 120]⟩ ++ t)] W fun e w' => e = .returned (.tuple #[.int .i64 N, .bool true]) ∧ W = w' := by
            intro t ht hn W
            have e3 : (ByteArray.mk #[48, 120] ++ t).data.toList = [48, 120] ++ t.data.toList := by rw [ByteArray.data_append, Array.toList_append]
            have h := Number_any (⟨#[48, 120]⟩ ++ t) W (by
              rw [← hz, e3, List.length_append, hz, ht]
              show 2 + (k + 1) ≤ maxLen
              unfold maxLen
              omega)
            rw [show V / 16 = 0 by omega] at hn
            rw [e3, numS_hex (by rw [hz]; omega) (by rw [hz]; omega) hn] at h
            exact h
          have hx1 := hx _ z3 s1
          have hx2 := hx _ z4 s2
          clear hx s1 s2 hV hz
          unfold hexl at hx1 z1 z3
          unfold hexu at hx2 z2 z4
          go_wp2_with (first
            | (go_at_call 10; with_reducible refine (hx1 _).mono ?_; rintro e w' ⟨rfl, rfl⟩)
            | (go_at_call 10; with_reducible refine (hx2 _).mono ?_; rintro e w' ⟨rfl, rfl⟩)
            | (go_at_call 10; with_reducible refine (h48 _).mono ?_; rintro e w' ⟨z1, rfl, rfl⟩)
            | (go_at_call 10; with_reducible refine (h45 _).mono ?_; rintro e w' ⟨z2, rfl, rfl⟩)
            | (go_at_call 10; with_reducible refine (h32 _).mono ?_; rintro e w' ⟨z3, rfl, rfl⟩))
          go_ret
          exact ⟨rfl, hb⟩
        · have H1 := Lib.hid s1
          have H2 := Lib.hid s2
          have H3 := Lib.hid hV
          clear s1 s2 hV hz
          unfold hexl at z1 z3
          unfold hexu at z2 z4
          go_wp2
          have h6 : k + 1 ≤ 6 := by
            have h7 := H3.out
            rcases Nat.lt_or_ge k 6 with h8 | h8
            · omega
            · have : 7 - k = 1 := by omega
              rw [this] at h7
              omega
          refine ⟨⟨k + 1, V / 16, _, _, rfl, rfl, by go_num, h6, ?_, z3, z4, H1.out, H2.out, hb⟩, by simp [intOf]; omega⟩
          have h7 := H3.out
          rw [show 7 - k = 7 - (k + 1) + 1 by omega, Nat.pow_succ] at h7
          omega
    · go_ret
      exact ⟨rfl, hb1.trans (hb2.mono hb1.size)⟩
theorem walk (n : Int) (W : World) (hsh : W.ShapedOpen Tryd.prog) (_ : laidMetH Tryd.prog Rows.textNumbersRow.laid W) (hn1 : -9223372036854775808 ≤ n) (hn2 : n ≤ 9223372036854775807) :
    Calls Tryd.prog 4 #[.int .i64 n] W fun e w' => e = .returned (.bool true) ∧ Below W.heap.size W w' := by
  obtain ⟨m, hm⟩ := max_len hsh
  exact walk0 n m W hm (cell_block hm) hn1 hn2
theorem reads (os : Os) {H : Type} (enc : TypeId × Value → H) : ∃ places, DataW.whole enc Tryd.prog ((World.laidAll Tryd.prog os Rows.textNumbersRow.laid).forCall (fun _ _ => 0) ⟨#[], #[.int .i64 0], []⟩).memory Tryd.f4.params.toList Rows.textNumbersSpec.vars false (#[.int .i64 0] : Array Value).toList 8 = some ([.lit (.int .i64 0)], [], places) :=
  ⟨[], by kernel_rfl⟩
set_option maxRecDepth 100000 in
theorem lifted (os : Os) (started : os.Started) (H : Type) (enc : TypeId × Value → H) (F : Stop.Interp) :
    ReturnsInHanded {} Tryd.checked os 4 .any ((OpenSpec.ofChange Rows.textNumbersSpec).preRow enc Tryd.prog Tryd.f4 Rows.textNumbersRow.domain false Rows.textNumbersRow.laid) (((OpenSpec.ofChange Rows.textNumbersSpec).at F).post enc Tryd.prog Tryd.f4 false true false false) := by
  obtain ⟨places, hx⟩ := reads os enc
  have hok : Input.okWideB Tryd.checked.prog ((World.laidAll Tryd.prog os Rows.textNumbersRow.laid).forCall (fun _ _ => 0) ⟨#[], #[.int .i64 0], []⟩) 4 ⟨#[], #[.int .i64 0], []⟩ = true := by kernel_rfl
  refine returnsInHanded_of_row (C := Tryd.checked) (s := OpenSpec.ofChange Rows.textNumbersSpec) own started (by kernel_rfl) Tryd.func4
    ⟨World.laidAll Tryd.prog os Rows.textNumbersRow.laid, fun _ _ => 0, ⟨#[], #[.int .i64 0], []⟩, World.laidAll_os _ _ _, World.shaped_of_ZipB (by kernel_rfl) (by kernel_rfl), (Input.okWide_of_okWideB (base := 0) hok).1, (Input.okWide_of_okWideB hok).2,
      OpenSpec.preRow_of_cond 8 hx (by kernel_rfl) (fun k hk => by cases hk) (by kernel_rfl) (by rw [MakeChecks.laidMetH_plain _ _ _ (by kernel_rfl)]; exact laidMet_laidAll _ (by kernel_rfl) (by kernel_rfl)),
      by simp only [Assume.holds]; exact ⟨by simp, by simp, fun _ => Modest.zero, by simp, by simp⟩⟩ ?_
  intro W base args ds gs before hval0 hW _ _ _ hL hsh _
  have hval : ∀ (j : Nat) t v, Tryd.f4.params[j]? = some t → args[j]? = some v → Value.okWide Tryd.prog W .any base t v := hval0
  have hW' := hW
  obtain ⟨p, q, hA0, hV, rfl, hfz, hnd⟩ := hW
  have hA : DataW.TrodAll enc Tryd.prog W 0 (fun _ => true) true Tryd.f4.params.toList args.toList ds p := hA0
  rw [Tryd.params4] at hA hval
  obtain ⟨v0, vs0, d0, ds0, p0, q0, hargs, rfl, rfl, h0, r0⟩ := trodAll_cons hA
  obtain ⟨rfl, rfl, rfl⟩ := trodAll_nil r0
  obtain rfl : args = #[v0] := by cases args; simp_all
  obtain ⟨rfl, rfl⟩ := trodVars_none hV
  obtain ⟨a0, rfl, _, _, w0⟩ := open_int Tryd.underlying3 (hval 0 3 v0 rfl rfl) h0
  have b0 := bounds_i64 w0
  refine (walk a0 W hsh hL b0.1 b0.2).mono fun e W' ⟨he, hb⟩ => ?_
  subst he
  exact ⟨_, rfl, law_post laidOut (by kernel_rfl) rfl (by kernel_rfl) Tryd.underlying4 rfl rfl rfl hW' hb⟩

theorem said : Rows.TextNumbersSaid :=
  OpenClaim.holds_of_cond 4 Tryd.f4 rfl rfl rfl rfl rfl rfl rfl ⟨rfl, rfl, rfl, rfl, rfl⟩ rfl rfl rfl rfl rfl (by kernel_rfl) Tryd.func4 (by kernel_rfl)
    (of_decide_eq_true (by kernel_rfl)) (by unfold Func.isWrapper; first | (rw [if_pos (by decide +kernel)]; kernel_rfl) | (rw [if_neg (by decide +kernel)]; exact ⟨rfl, rfl⟩))
    (fun os started H enc _ F => by rw [OpenClaim.pre_eq_preRow]; exact lifted os started H enc F)
theorem proved : Rows.TextNumbersCardSaid :=
  Claim7.holds_tied_plain_at .later [] _ _ _ _ said (fun _ h => by cases h) (by kernel_rfl) (fun _ h => by cases h) textNumbers_row_tie rfl ⟨rfl, rfl⟩ (by kernel_rfl) rfl
    (fun f fn hf hfn => by
      obtain rfl : f = 4 := Option.some.inj ((show Tryd.prog.funcNamed "gemel/gemellaw3.TextNumbers" = some 4 by kernel_rfl).symm.trans hf) |>.symm
      obtain rfl : fn = Tryd.f4 := (Option.some.inj (Tryd.func4.symm.trans hfn)).symm
      refine ⟨by kernel_rfl, fun j t ht => ?_⟩
      rw [Tryd.params4] at ht
      have hmem : t ∈ [3] := by simpa using Array.mem_of_getElem? ht
      have hall : ([3].all fun u => !Tryd.prog.wantsStandIn u) = true := by kernel_rfl
      exact (show Tryd.prog.wantsStandIn t = false by simpa using List.all_eq_true.1 hall t hmem))
    (by kernel_rfl)
end TextNumbers
end Go.Proofs.YtikehhcbjmcfdaaDoor
