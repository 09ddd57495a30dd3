/- ListBytes: for any bytes the statement's function tells true and turns nothing that was there. No condition. -/
import Derived.Test.YteeeioafhdkagaaPrG
import Derived.Test.YteeeioafhdkagaaPrK
import Derived.Deep.QuietTactic
import Derived.BigQuiet
namespace Go.Proofs.Yteeeioafhdkagaa
open Go.ChangeShapes Go.WideShapes Go.ChangeAt Go.RowKit
set_option linter.unusedVariables false
namespace Bytes6
def pkL (l : List UInt8) : List Nat := if pkE l = 0 then cutK (l.drop 8) else []
def pkG (l : List UInt8) : Nat := if pkE l = 0 then beVal (l.take 4) else 0
theorem uniform {f : FuncId} {v : Value} {l : List UInt8} {w : World}
    (h : Calls Try.prog f #[v] w fun e w' => ∃ (g : Nat) (vr : Value) (err : Nat), e = .returned (.tuple #[.int .u32 g, vr, .int .i64 err]) ∧ err = pkE l ∧ (pkE l = 0 → g = beVal (l.take 4) ∧ Sl w' w'.heap.size vr (cutK (l.drop 8)).length (u64s (cutK (l.drop 8)))) ∧ (pkE l ≠ 0 → g = 0 ∧ vr = .slice none 0 0) ∧ Below w.heap.size w w') :
    Calls Try.prog f #[v] w fun e w' => ∃ A c, e = .returned (.tuple #[.int .u32 (pkG l), .slice A (pkL l).length c, .int .i64 (pkE l)]) ∧ Sl w' w'.heap.size (.slice A (pkL l).length c) (pkL l).length (u64s (pkL l)) ∧ Below w.heap.size w w' := by
  refine h.mono ?_
  rintro e w' ⟨g, vr, err, rfl, rfl, h1, h2, hb⟩
  by_cases h0 : pkE l = 0
  · obtain ⟨rfl, hs⟩ := h1 h0
    have e1 : pkL l = cutK (l.drop 8) := if_pos h0
    have e2 : pkG l = beVal (l.take 4) := if_pos h0
    rw [← e1] at hs
    obtain ⟨A, c, rfl, _, _⟩ := hs.form
    exact ⟨A, c, by rw [e2], hs, hb⟩
  · obtain ⟨rfl, rfl⟩ := h2 h0
    have e1 : pkL l = [] := if_neg h0
    have e2 : pkG l = 0 := if_neg h0
    refine ⟨none, 0, by rw [e2, e1]; rfl, ?_, hb⟩
    rw [e1]
    exact Sl.nil_
set_option maxHeartbeats 4000000 in
set_option maxRecDepth 100000 in
theorem walk (v : Value) (l : List UInt8) (w : World) (hv : Sl w w.heap.size v l.length (bs l)) :
    Calls Try.prog 5 #[v] w fun e w' => e = .returned (.bool true) ∧ Below w.heap.size w w' := by
  obtain ⟨A, c, rfl, hc1, hc2⟩ := hv.form
  unfold maxLen at hc2
  by_cases hll : 500 < l.length
  · have h500 : (500 : Int) < l.length := by omega
    clear hv
    go_enter Try.func5, Try.ntmps5
    go_wp2_with (go_at_call 14; with_reducible refine (known_any _).mono ?_; rintro e w1 ⟨rfl, hb1⟩)
    go_ret
    exact ⟨rfl, hb1⟩
  · have h500 : ¬ (500 : Int) < l.length := by omega
    have pD : ∀ W, Sl W W.heap.size (.slice A l.length c) l.length (bs l) → Calls Try.prog 15 #[.slice A l.length c] W fun e w' => e = .returned (.tuple #[.int .u64 (prDec l).1, .int .u64 (prDec l).2.1, repR (prDec l).2.2, .bool (prDec l).2.2]) ∧ Below W.heap.size W w' := fun W h => Decode_any _ l W h (by omega)
    have rD : ∀ W, Sl W W.heap.size (.slice A l.length c) l.length (bs l) → Calls Try.prog 16 #[.slice A l.length c] W fun e w' => e = .returned (.tuple #[.int .u64 (prDec l).1, .int .u64 (prDec l).2.1, .bool (prDec l).2.2]) ∧ W = w' := fun W h => rDecode_any _ l W h (by omega)
    have pK := fun (W : World) (h : Sl W W.heap.size (.slice A l.length c) l.length (bs l)) => uniform (ParseKeys_any _ l W h (by omega))
    have rK := fun (W : World) (h : Sl W W.heap.size (.slice A l.length c) l.length (bs l)) => uniform (rParseKeys_any _ l W h (by omega))
    obtain ⟨⟨s, t, u, f⟩, hph⟩ : ∃ x, phS l = x := ⟨_, rfl⟩
    have pH : ∀ W, Sl W W.heap.size (.slice A l.length c) l.length (bs l) → Calls Try.prog 19 #[.slice A l.length c] W fun e w' => e = .returned (.tuple #[.int .u32 s, .int .u64 t, .int .i64 u, .int .i64 f]) ∧ Below W.heap.size W w' := fun W h => by
      have h2 := ParseHolder_any _ l W h (by omega)
      rw [hph] at h2
      exact h2
    have rH : ∀ W, Sl W W.heap.size (.slice A l.length c) l.length (bs l) → Calls Try.prog 20 #[.slice A l.length c] W fun e w' => e = .returned (.tuple #[.int .u32 s, .int .u64 t, .int .i64 u, .int .i64 f]) ∧ Below W.heap.size W w' := fun W h => by
      have h2 := rParseHolder_any _ l W h (by omega)
      rw [hph] at h2
      exact h2
    obtain ⟨⟨k, o, is⟩, hpd⟩ : ∃ x, prDec l = x := ⟨_, rfl⟩
    rw [hpd] at pD rD
    have hLl : (pkL l).length ≤ 100000 := by
      unfold pkL
      split
      · unfold cutK; simp only [List.length_map, List.length_range, List.length_drop]; omega
      · simp
    generalize pkL l = L at *
    generalize pkG l = G at *
    generalize pkE l = E at *
    clear hph hpd hll
    cases is with
    | false =>
      replace pD : ∀ W, Sl W W.heap.size (.slice A l.length c) l.length (bs l) → Calls Try.prog 15 #[.slice A l.length c] W fun e w' => e = .returned (.tuple #[.int .u64 k, .int .u64 o, .agg #[.int .i64 2, .int .i64 5, .int .i64 9728, .slice none 0 0, .int .i64 0], .bool false]) ∧ Below W.heap.size W w' := pD
      replace rD : ∀ W, Sl W W.heap.size (.slice A l.length c) l.length (bs l) → Calls Try.prog 16 #[.slice A l.length c] W fun e w' => e = .returned (.tuple #[.int .u64 k, .int .u64 o, .bool false]) ∧ W = w' := rD
      go_enter Try.func5, Try.ntmps5
      go_wp2_with (first
        | (go_at_call 14; with_reducible refine (known_any _).mono ?_; rintro e w1 ⟨rfl, hb1⟩; have hv1 := hv.now hb1)
        | (go_at_call 15; with_reducible refine (pD _ hv1).mono ?_; rintro e w2 ⟨rfl, hb2⟩
           have hA2 := (Below.refl w2.heap.size w2).alloc (Nat.le_refl _) (.cells #[.int .i64 2, .int .i64 5, .int .i64 9728, .slice none 0 0, .int .i64 0] 35)
           have hb13 := bchain (bchain hb1 hb2) hA2
           have hv3 := hv.now hb13)
        | (go_at_call 16; with_reducible refine (rD _ hv3).mono ?_; rintro e w4 ⟨rfl, rfl⟩)
        | (go_at_call 17; with_reducible refine (pK _ hv3).mono ?_; rintro e w5 ⟨A5, c5, rfl, hs5, hb5⟩; have hv5 := hv3.now hb5)
        | (go_at_call 18; with_reducible refine (rK _ hv5).mono ?_; rintro e w6 ⟨A6, c6, rfl, hs6, hb6⟩; have hv6 := hv5.now hb6; have hs56 := hs5.now hb6; have hb16 := bchain (bchain hb13 hb5) hb6))
      clear hb1 hb2 hA2 hb13 hb5 hb6 hs5 hv1 hv3 hv5 pD rD pK rK
      go_loopw [16] (fun i wr => ∃ j : Nat, j ≤ L.length ∧ i = .int .i64 j ∧ Below w6.heap.size w6 wr) (fun i _ => L.length - (intOf i).toNat)
      case atStart => exact ⟨0, Nat.zero_le _, rfl, Below.refl _ _⟩
      case round =>
        obtain ⟨j, hj, rfl, hbr⟩ := hrel
        by_cases hlt : j < L.length
        · obtain ⟨bm, om, rfl, hbm, hcm⟩ := hs56.at_ (by omega)
          obtain ⟨bl, ol, rfl, hbl, hcl⟩ := hs6.at_ (by omega)
          have x1 : wr.cell? ⟨bm, om + j, none⟩ = some (.int .u64 ((L[j] : Nat) : Int)) := (hbr.cell (p := ⟨bm, om + j, none⟩) hbm).trans (hcm _ _ (u64s_get hlt))
          have x2 : wr.cell? ⟨bl, ol + j, none⟩ = some (.int .u64 ((L[j] : Nat) : Int)) := (hbr.cell (p := ⟨bl, ol + j, none⟩) hbl).trans (hcl _ _ (u64s_get hlt))
          have hltZ : (j : Int) < L.length := by omega
          clear hcm hcl
          go_wp2_with fail
          go_quiet (fail)
          go_wp2_with fail
          refine ⟨⟨j + 1, by omega, by go_num, below_drewN hbr _⟩, by simp [intOf]; omega⟩
        · obtain rfl : j = L.length := by omega
          have hv7 := hv6.now hbr
          have hb17 := bchain hb16 hbr
          go_wp2_with (first
            | (go_at_call 19; with_reducible refine (pH _ hv7).mono ?_; rintro e w8 ⟨rfl, hb8⟩; have hv8 := hv7.now hb8)
            | (go_at_call 20; with_reducible refine (rH _ hv8).mono ?_; rintro e w9 ⟨rfl, hb9⟩))
          go_ret
          exact ⟨rfl, bchain (bchain hb17 hb8) hb9⟩
    | true =>
      replace pD : ∀ W, Sl W W.heap.size (.slice A l.length c) l.length (bs l) → Calls Try.prog 15 #[.slice A l.length c] W fun e w' => e = .returned (.tuple #[.int .u64 k, .int .u64 o, .agg #[.int .i64 0, .int .i64 0, .int .i64 0, .slice none 0 0, .int .i64 0], .bool true]) ∧ Below W.heap.size W w' := pD
      replace rD : ∀ W, Sl W W.heap.size (.slice A l.length c) l.length (bs l) → Calls Try.prog 16 #[.slice A l.length c] W fun e w' => e = .returned (.tuple #[.int .u64 k, .int .u64 o, .bool true]) ∧ W = w' := rD
      go_enter Try.func5, Try.ntmps5
      go_wp2_with (first
        | (go_at_call 14; with_reducible refine (known_any _).mono ?_; rintro e w1 ⟨rfl, hb1⟩; have hv1 := hv.now hb1)
        | (go_at_call 15; with_reducible refine (pD _ hv1).mono ?_; rintro e w2 ⟨rfl, hb2⟩
           have hA2 := (Below.refl w2.heap.size w2).alloc (Nat.le_refl _) (.cells #[.int .i64 0, .int .i64 0, .int .i64 0, .slice none 0 0, .int .i64 0] 35)
           have hb13 := bchain (bchain hb1 hb2) hA2
           have hv3 := hv.now hb13)
        | (go_at_call 16; with_reducible refine (rD _ hv3).mono ?_; rintro e w4 ⟨rfl, rfl⟩)
        | (go_at_call 17; with_reducible refine (pK _ hv3).mono ?_; rintro e w5 ⟨A5, c5, rfl, hs5, hb5⟩; have hv5 := hv3.now hb5)
        | (go_at_call 18; with_reducible refine (rK _ hv5).mono ?_; rintro e w6 ⟨A6, c6, rfl, hs6, hb6⟩; have hv6 := hv5.now hb6; have hs56 := hs5.now hb6; have hb16 := bchain (bchain hb13 hb5) hb6))
      clear hb1 hb2 hA2 hb13 hb5 hb6 hs5 hv1 hv3 hv5 pD rD pK rK
      go_loopw [16] (fun i wr => ∃ j : Nat, j ≤ L.length ∧ i = .int .i64 j ∧ Below w6.heap.size w6 wr) (fun i _ => L.length - (intOf i).toNat)
      case atStart => exact ⟨0, Nat.zero_le _, rfl, Below.refl _ _⟩
      case round =>
        obtain ⟨j, hj, rfl, hbr⟩ := hrel
        by_cases hlt : j < L.length
        · obtain ⟨bm, om, rfl, hbm, hcm⟩ := hs56.at_ (by omega)
          obtain ⟨bl, ol, rfl, hbl, hcl⟩ := hs6.at_ (by omega)
          have x1 : wr.cell? ⟨bm, om + j, none⟩ = some (.int .u64 ((L[j] : Nat) : Int)) := (hbr.cell (p := ⟨bm, om + j, none⟩) hbm).trans (hcm _ _ (u64s_get hlt))
          have x2 : wr.cell? ⟨bl, ol + j, none⟩ = some (.int .u64 ((L[j] : Nat) : Int)) := (hbr.cell (p := ⟨bl, ol + j, none⟩) hbl).trans (hcl _ _ (u64s_get hlt))
          have hltZ : (j : Int) < L.length := by omega
          clear hcm hcl
          go_wp2_with fail
          go_quiet (fail)
          go_wp2_with fail
          refine ⟨⟨j + 1, by omega, by go_num, below_drewN hbr _⟩, by simp [intOf]; omega⟩
        · obtain rfl : j = L.length := by omega
          have hv7 := hv6.now hbr
          have hb17 := bchain hb16 hbr
          go_wp2_with (first
            | (go_at_call 19; with_reducible refine (pH _ hv7).mono ?_; rintro e w8 ⟨rfl, hb8⟩; have hv8 := hv7.now hb8)
            | (go_at_call 20; with_reducible refine (rH _ hv8).mono ?_; rintro e w9 ⟨rfl, hb9⟩))
          go_ret
          exact ⟨rfl, bchain (bchain hb17 hb8) hb9⟩
set_option maxRecDepth 100000 in
theorem lifted (os : Os) (started : os.Started) (H : Type) (enc : TypeId × Value → H) :
    ReturnsInHanded {} Try.checked os 5 .any (Rows.listBytesSpec.pre6 enc Try.prog Try.f5 Rows.listBytesRow.domain false) (Rows.listBytesSpec.post enc Try.prog Try.f5 false true false false) := by
  refine returnsInHanded_of_change (C := Try.checked) own started (by kernel_rfl) Try.func5
    (ChangeSpec.witness6 (enc := enc) (C := Try.checked) false ⟨#[], #[.slice none 0 0], []⟩ 8 (by kernel_rfl) (by kernel_rfl) (by kernel_rfl) (by kernel_rfl)) ?_
  intro W base args ds gs before hval0 hW hcnd _
  have hval : ∀ (j : Nat) t v, Try.f5.params[j]? = some t → args[j]? = some v → Value.okWide Try.prog W .any base t v := hval0
  have hW' := hW
  obtain ⟨p, q, hA0, hV, rfl, hfz, hnd⟩ := hW
  have hA : DataW.TrodAll enc Try.prog W 0 (fun _ => true) true Try.f5.params.toList args.toList ds p := hA0
  rw [Try.params5] at hA hval
  obtain ⟨v0, vs0, d0, ds0, p0, q0, hargs, rfl, rfl, h0, r0⟩ := trodAll_cons hA
  obtain ⟨rfl, rfl, rfl⟩ := trodAll_nil r0
  obtain rfl : args = #[v0] := by cases args; simp_all
  obtain ⟨rfl, rfl⟩ := trodVars_none hV
  obtain ⟨l0, s0, e0⟩ := open_bytes Try.underlying24 Try.underlying5 (by kernel_rfl) (hval 0 24 v0 rfl rfl) h0
  refine (walk v0 l0 W s0).mono fun e W' ⟨he, hb⟩ => ?_
  subst he
  exact ⟨_, rfl, law_post laidOut (by kernel_rfl) rfl (by kernel_rfl) Try.underlying4 rfl rfl rfl hW' hb⟩

theorem proved : Rows.ListBytesSaid :=
  OpenClaim.holds_of_wide 5 Try.f5 rfl rfl rfl rfl rfl rfl rfl ⟨rfl, rfl, rfl, rfl, rfl⟩ rfl rfl rfl rfl rfl (by kernel_rfl) Try.func5 (by kernel_rfl)
    (of_decide_eq_true (by kernel_rfl)) (by unfold Func.isWrapper; first | (rw [if_pos (by decide +kernel)]; kernel_rfl) | (rw [if_neg (by decide +kernel)]; exact ⟨rfl, rfl⟩))
    (fun os started H enc _ => lifted os started H enc)
end Bytes6
end Go.Proofs.Yteeeioafhdkagaa
