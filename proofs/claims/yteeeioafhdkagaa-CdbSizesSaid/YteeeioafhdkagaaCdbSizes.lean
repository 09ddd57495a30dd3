/- CdbSizes: for any number the statement's function tells true and turns nothing that was there. No condition. -/
import Derived.Test.YteeeioafhdkagaaCdK
namespace Go.Proofs.Yteeeioafhdkagaa
open Go.ChangeShapes Go.WideShapes Go.ChangeAt Go.RowKit
set_option linter.unusedVariables false
namespace Sizes
theorem laidOut : laidOutB Try.prog = true := by kernel_rfl
theorem own : ownKnob Try.prog.godebug = none := by kernel_rfl
theorem CmdAt.on {w w' : World} {B : Nat} {k a n t : Int} {f : Bool} (hb : Below w.heap.size w w') (h : CmdAt w B k a n t f) : CmdAt w' B k a n t f := (hb.block _ (Array.getElem?_eq_some_iff.1 h).1).trans h
theorem in_bound (k n : Int) : 0 ≤ inS k n ∧ inS k n ≤ 256 := by
  have h := runS_bound n
  unfold inS
  repeat' split
  all_goals omega
theorem out_bound (k n : Int) : 0 ≤ outS k n ∧ outS k n ≤ 512 := by
  have h := runS_bound n
  unfold outS
  repeat' split
  all_goals omega
theorem in_out (k n : Int) (h : 0 < inS k n) : outS k n = 0 := by
  have hk : k = 2 ∨ k = 7 ∨ k = 8 ∨ k = 9 ∨ k = 16 ∨ k = 17 := by
    apply Classical.byContradiction
    intro hn
    unfold inS at h
    rw [if_neg (by omega), if_neg (by omega), if_neg (by omega), if_neg (by omega), if_neg (by omega), if_neg (by omega)] at h
    omega
  unfold outS
  rw [if_neg (by omega), if_neg (by omega), if_neg (by omega)]
set_option maxHeartbeats 4000000 in
theorem walk (n : Int) (w : World) (hn1 : -9223372036854775808 ≤ n) (hn2 : n ≤ 9223372036854775807) :
    Calls Try.prog 3 #[.int .i64 n] w fun e w' => e = .returned (.bool true) ∧ Below w.heap.size w w' := by
  have o3 : ∀ W, Calls Try.prog 10 #[.agg #[.int .i64 3, .int .i64 0, .int .i64 n, .slice none 0 0, .int .u64 0, .int .u64 0, .int .i64 0, .bool false]] W fun e w' => e = .returned (.int .i64 (runS n)) ∧ Below W.heap.size W w' := fun W => Out_any 3 0 n 0 false W
  have o6 : ∀ W, Calls Try.prog 10 #[.agg #[.int .i64 6, .int .i64 0, .int .i64 n, .slice none 0 0, .int .u64 0, .int .u64 0, .int .i64 0, .bool false]] W fun e w' => e = .returned (.int .i64 (2 * runS n)) ∧ Below W.heap.size W w' := fun W => Out_any 6 0 n 0 false W
  have i2 : ∀ W, Calls Try.prog 11 #[.agg #[.int .i64 2, .int .i64 0, .int .i64 n, .slice none 0 0, .int .u64 0, .int .u64 0, .int .i64 0, .bool false]] W fun e w' => e = .returned (.int .i64 (runS n)) ∧ Below W.heap.size W w' := fun W => In_any 2 0 n 0 false W
  have cI : ∀ W j, Calls Try.prog 11 #[.agg #[.int .i64 j, .int .i64 0, .int .i64 n, .slice none 0 0, .int .u64 0, .int .u64 0, .int .i64 0, .bool false]] W fun e w' => e = .returned (.int .i64 (inS j n)) ∧ Below W.heap.size W w' := fun W j => In_any j 0 n 0 false W
  have cO : ∀ W j, Calls Try.prog 10 #[.agg #[.int .i64 j, .int .i64 0, .int .i64 n, .slice none 0 0, .int .u64 0, .int .u64 0, .int .i64 0, .bool false]] W fun e w' => e = .returned (.int .i64 (outS j n)) ∧ Below W.heap.size W w' := fun W j => Out_any j 0 n 0 false W
  have hb1 := fun j => in_bound j n
  have hb2 := fun j => out_bound j n
  have hb3 := fun j => in_out j n
  have hr : (n < 0 ∧ runS n = 0) ∨ (32 < n ∧ runS n = 0) ∨ (0 ≤ n ∧ n ≤ 32 ∧ runS n = 8 * n) := by
    unfold runS
    by_cases h1 : n < 0
    · left; exact ⟨h1, if_pos (.inl h1)⟩
    · by_cases h2 : 32 < n
      · right; left; exact ⟨h2, if_pos (.inr h2)⟩
      · right; right; exact ⟨by omega, by omega, if_neg (by omega)⟩
  generalize runS n = R at *
  rcases hr with ⟨h1, rfl⟩ | ⟨h1, rfl⟩ | ⟨h1, h2, rfl⟩
  · have hz : ¬ 0 ≤ n := by omega
    go_enter Try.func3, Try.ntmps3
    go_wp2_with (first
      | (go_at_call 9; with_reducible refine (known4_any _).mono ?_; rintro e w1 ⟨rfl, hw1⟩)
      | (go_at_call 10; with_reducible refine (o3 _).mono ?_; rintro e w2 ⟨rfl, hw2⟩; have hw12 := bchain hw1 hw2)
      | (go_at_call 10; with_reducible refine (o6 _).mono ?_; rintro e w3 ⟨rfl, hw3⟩; have hw13 := bchain hw12 hw3)
      | (go_at_call 11; with_reducible refine (i2 _).mono ?_; rintro e w4 ⟨rfl, hw4⟩; have hw14 := bchain hw13 hw4))
    clear hw1 hw2 hw12 hw3 hw13 hw4 o3 o6 i2
    go_loopw [7] (fun i wr => ∃ j : Nat, j ≤ 21 ∧ i = .int .i64 j ∧ Below w.heap.size w wr) (fun i _ => 21 - (intOf i).toNat)
    case atStart => exact ⟨0, by omega, rfl, hw14⟩
    case round =>
      obtain ⟨j, hj, rfl, hbr⟩ := hrel
      by_cases hlt : j ≤ 20
      · have hltZ : (j : Int) ≤ 20 := by omega
        have hcm : CmdAt (wr.alloc (.cells #[.int .i64 j, .int .i64 0, .int .i64 n, .slice none 0 0, .int .u64 0, .int .u64 0, .int .i64 0, .bool false] 27)) wr.heap.size j 0 n 0 false := heap_alloc_new wr _
        have hbc : Below w.heap.size w (wr.alloc (.cells #[.int .i64 j, .int .i64 0, .int .i64 n, .slice none 0 0, .int .u64 0, .int .u64 0, .int .i64 0, .bool false] 27)) := hbr.alloc hbr.size _
        have cI' := fun W => cI W j
        have cO' := fun W => cO W j
        have b1 := hb1 j
        have b2 := hb2 j
        have b3 := hb3 j
        generalize inS j n = I at *
        generalize outS j n = O at *
        obtain ⟨I1, I2⟩ := b1
        obtain ⟨O1, O2⟩ := b2
        have nI1 : ¬ I < 0 := by omega
        have nO1 : ¬ O < 0 := by omega
        have nI2 : ¬ 256 < I := by omega
        have nO2 : ¬ 512 < O := by omega
        by_cases hI : 0 < I
        · obtain rfl : O = 0 := b3 hI
          clear b3 hb1 hb2 hb3 cI cO
          go_wp2_with (first
            | (go_at_call 11; with_reducible refine (cI' _).mono ?_; rintro e w5 ⟨rfl, hb5⟩; have hcm := CmdAt.on hb5 hcm; have hbc := hbc.trans (hb5.mono hbc.size); obtain ⟨p0, p1, p2, p3, p4, p5, p6, p7⟩ := CmdAt.cells hcm)
            | (go_at_call 10; with_reducible refine (cO' _).mono ?_; rintro e w5 ⟨rfl, hb5⟩; have hcm := CmdAt.on hb5 hcm; have hbc := hbc.trans (hb5.mono hbc.size); obtain ⟨p0, p1, p2, p3, p4, p5, p6, p7⟩ := CmdAt.cells hcm))
          refine ⟨⟨j + 1, by omega, by go_num, hbc⟩, by simp [intOf]; omega⟩
        · clear b3 hb1 hb2 hb3 cI cO
          go_wp2_with (first
            | (go_at_call 11; with_reducible refine (cI' _).mono ?_; rintro e w5 ⟨rfl, hb5⟩; have hcm := CmdAt.on hb5 hcm; have hbc := hbc.trans (hb5.mono hbc.size); obtain ⟨p0, p1, p2, p3, p4, p5, p6, p7⟩ := CmdAt.cells hcm)
            | (go_at_call 10; with_reducible refine (cO' _).mono ?_; rintro e w5 ⟨rfl, hb5⟩; have hcm := CmdAt.on hb5 hcm; have hbc := hbc.trans (hb5.mono hbc.size); obtain ⟨p0, p1, p2, p3, p4, p5, p6, p7⟩ := CmdAt.cells hcm))
          refine ⟨⟨j + 1, by omega, by go_num, hbc⟩, by simp [intOf]; omega⟩
      · obtain rfl : j = 21 := by omega
        go_wp2
        go_ret
        exact ⟨rfl, hbr⟩
  · have hz : ¬ n ≤ 32 := by omega
    have hz0 : 0 ≤ n := by omega
    go_enter Try.func3, Try.ntmps3
    go_wp2_with (first
      | (go_at_call 9; with_reducible refine (known4_any _).mono ?_; rintro e w1 ⟨rfl, hw1⟩)
      | (go_at_call 10; with_reducible refine (o3 _).mono ?_; rintro e w2 ⟨rfl, hw2⟩; have hw12 := bchain hw1 hw2)
      | (go_at_call 10; with_reducible refine (o6 _).mono ?_; rintro e w3 ⟨rfl, hw3⟩; have hw13 := bchain hw12 hw3)
      | (go_at_call 11; with_reducible refine (i2 _).mono ?_; rintro e w4 ⟨rfl, hw4⟩; have hw14 := bchain hw13 hw4))
    clear hw1 hw2 hw12 hw3 hw13 hw4 o3 o6 i2
    go_loopw [7] (fun i wr => ∃ j : Nat, j ≤ 21 ∧ i = .int .i64 j ∧ Below w.heap.size w wr) (fun i _ => 21 - (intOf i).toNat)
    case atStart => exact ⟨0, by omega, rfl, hw14⟩
    case round =>
      obtain ⟨j, hj, rfl, hbr⟩ := hrel
      by_cases hlt : j ≤ 20
      · have hltZ : (j : Int) ≤ 20 := by omega
        have hcm : CmdAt (wr.alloc (.cells #[.int .i64 j, .int .i64 0, .int .i64 n, .slice none 0 0, .int .u64 0, .int .u64 0, .int .i64 0, .bool false] 27)) wr.heap.size j 0 n 0 false := heap_alloc_new wr _
        have hbc : Below w.heap.size w (wr.alloc (.cells #[.int .i64 j, .int .i64 0, .int .i64 n, .slice none 0 0, .int .u64 0, .int .u64 0, .int .i64 0, .bool false] 27)) := hbr.alloc hbr.size _
        have cI' := fun W => cI W j
        have cO' := fun W => cO W j
        have b1 := hb1 j
        have b2 := hb2 j
        have b3 := hb3 j
        generalize inS j n = I at *
        generalize outS j n = O at *
        obtain ⟨I1, I2⟩ := b1
        obtain ⟨O1, O2⟩ := b2
        have nI1 : ¬ I < 0 := by omega
        have nO1 : ¬ O < 0 := by omega
        have nI2 : ¬ 256 < I := by omega
        have nO2 : ¬ 512 < O := by omega
        by_cases hI : 0 < I
        · obtain rfl : O = 0 := b3 hI
          clear b3 hb1 hb2 hb3 cI cO
          go_wp2_with (first
            | (go_at_call 11; with_reducible refine (cI' _).mono ?_; rintro e w5 ⟨rfl, hb5⟩; have hcm := CmdAt.on hb5 hcm; have hbc := hbc.trans (hb5.mono hbc.size); obtain ⟨p0, p1, p2, p3, p4, p5, p6, p7⟩ := CmdAt.cells hcm)
            | (go_at_call 10; with_reducible refine (cO' _).mono ?_; rintro e w5 ⟨rfl, hb5⟩; have hcm := CmdAt.on hb5 hcm; have hbc := hbc.trans (hb5.mono hbc.size); obtain ⟨p0, p1, p2, p3, p4, p5, p6, p7⟩ := CmdAt.cells hcm))
          refine ⟨⟨j + 1, by omega, by go_num, hbc⟩, by simp [intOf]; omega⟩
        · clear b3 hb1 hb2 hb3 cI cO
          go_wp2_with (first
            | (go_at_call 11; with_reducible refine (cI' _).mono ?_; rintro e w5 ⟨rfl, hb5⟩; have hcm := CmdAt.on hb5 hcm; have hbc := hbc.trans (hb5.mono hbc.size); obtain ⟨p0, p1, p2, p3, p4, p5, p6, p7⟩ := CmdAt.cells hcm)
            | (go_at_call 10; with_reducible refine (cO' _).mono ?_; rintro e w5 ⟨rfl, hb5⟩; have hcm := CmdAt.on hb5 hcm; have hbc := hbc.trans (hb5.mono hbc.size); obtain ⟨p0, p1, p2, p3, p4, p5, p6, p7⟩ := CmdAt.cells hcm))
          refine ⟨⟨j + 1, by omega, by go_num, hbc⟩, by simp [intOf]; omega⟩
      · obtain rfl : j = 21 := by omega
        go_wp2
        go_ret
        exact ⟨rfl, hbr⟩
  · have hm : IntKind.i64.wrap (8 * n) = 8 * n := IntWalk.i64_in _ (by omega)
    have hm2 : IntKind.i64.wrap (16 * n) = 16 * n := IntWalk.i64_in _ (by omega)
    have hm3 : 2 * (8 * n) = 16 * n := by omega
    rw [hm3] at o6
    go_enter Try.func3, Try.ntmps3
    go_wp2_with (first
      | (go_at_call 9; with_reducible refine (known4_any _).mono ?_; rintro e w1 ⟨rfl, hw1⟩)
      | (go_at_call 10; with_reducible refine (o3 _).mono ?_; rintro e w2 ⟨rfl, hw2⟩; have hw12 := bchain hw1 hw2)
      | (go_at_call 10; with_reducible refine (o6 _).mono ?_; rintro e w3 ⟨rfl, hw3⟩; have hw13 := bchain hw12 hw3)
      | (go_at_call 11; with_reducible refine (i2 _).mono ?_; rintro e w4 ⟨rfl, hw4⟩; have hw14 := bchain hw13 hw4))
    clear hw1 hw2 hw12 hw3 hw13 hw4 o3 o6 i2
    go_loopw [7] (fun i wr => ∃ j : Nat, j ≤ 21 ∧ i = .int .i64 j ∧ Below w.heap.size w wr) (fun i _ => 21 - (intOf i).toNat)
    case atStart => exact ⟨0, by omega, rfl, hw14⟩
    case round =>
      obtain ⟨j, hj, rfl, hbr⟩ := hrel
      by_cases hlt : j ≤ 20
      · have hltZ : (j : Int) ≤ 20 := by omega
        have hcm : CmdAt (wr.alloc (.cells #[.int .i64 j, .int .i64 0, .int .i64 n, .slice none 0 0, .int .u64 0, .int .u64 0, .int .i64 0, .bool false] 27)) wr.heap.size j 0 n 0 false := heap_alloc_new wr _
        have hbc : Below w.heap.size w (wr.alloc (.cells #[.int .i64 j, .int .i64 0, .int .i64 n, .slice none 0 0, .int .u64 0, .int .u64 0, .int .i64 0, .bool false] 27)) := hbr.alloc hbr.size _
        have cI' := fun W => cI W j
        have cO' := fun W => cO W j
        have b1 := hb1 j
        have b2 := hb2 j
        have b3 := hb3 j
        generalize inS j n = I at *
        generalize outS j n = O at *
        obtain ⟨I1, I2⟩ := b1
        obtain ⟨O1, O2⟩ := b2
        have nI1 : ¬ I < 0 := by omega
        have nO1 : ¬ O < 0 := by omega
        have nI2 : ¬ 256 < I := by omega
        have nO2 : ¬ 512 < O := by omega
        by_cases hI : 0 < I
        · obtain rfl : O = 0 := b3 hI
          clear b3 hb1 hb2 hb3 cI cO
          go_wp2_with (first
            | (go_at_call 11; with_reducible refine (cI' _).mono ?_; rintro e w5 ⟨rfl, hb5⟩; have hcm := CmdAt.on hb5 hcm; have hbc := hbc.trans (hb5.mono hbc.size); obtain ⟨p0, p1, p2, p3, p4, p5, p6, p7⟩ := CmdAt.cells hcm)
            | (go_at_call 10; with_reducible refine (cO' _).mono ?_; rintro e w5 ⟨rfl, hb5⟩; have hcm := CmdAt.on hb5 hcm; have hbc := hbc.trans (hb5.mono hbc.size); obtain ⟨p0, p1, p2, p3, p4, p5, p6, p7⟩ := CmdAt.cells hcm))
          refine ⟨⟨j + 1, by omega, by go_num, hbc⟩, by simp [intOf]; omega⟩
        · clear b3 hb1 hb2 hb3 cI cO
          go_wp2_with (first
            | (go_at_call 11; with_reducible refine (cI' _).mono ?_; rintro e w5 ⟨rfl, hb5⟩; have hcm := CmdAt.on hb5 hcm; have hbc := hbc.trans (hb5.mono hbc.size); obtain ⟨p0, p1, p2, p3, p4, p5, p6, p7⟩ := CmdAt.cells hcm)
            | (go_at_call 10; with_reducible refine (cO' _).mono ?_; rintro e w5 ⟨rfl, hb5⟩; have hcm := CmdAt.on hb5 hcm; have hbc := hbc.trans (hb5.mono hbc.size); obtain ⟨p0, p1, p2, p3, p4, p5, p6, p7⟩ := CmdAt.cells hcm))
          refine ⟨⟨j + 1, by omega, by go_num, hbc⟩, by simp [intOf]; omega⟩
      · obtain rfl : j = 21 := by omega
        go_wp2
        go_ret
        exact ⟨rfl, hbr⟩
set_option maxRecDepth 100000 in
theorem lifted (os : Os) (started : os.Started) (H : Type) (enc : TypeId × Value → H) :
    ReturnsInHanded {} Try.checked os 3 .any (Rows.cdbSizesSpec.pre6 enc Try.prog Try.f3 Rows.cdbSizesRow.domain false) (Rows.cdbSizesSpec.post enc Try.prog Try.f3 false true false false) := by
  refine returnsInHanded_of_change (C := Try.checked) own started (by kernel_rfl) Try.func3
    (ChangeSpec.witness6 (enc := enc) (C := Try.checked) false ⟨#[], #[.int .i64 0], []⟩ 8 (by kernel_rfl) (by kernel_rfl) (by kernel_rfl) (by kernel_rfl)) ?_
  intro W base args ds gs before hval0 hW hcnd _
  have hval : ∀ (j : Nat) t v, Try.f3.params[j]? = some t → args[j]? = some v → Value.okWide Try.prog W .any base t v := hval0
  have hW' := hW
  obtain ⟨p, q, hA0, hV, rfl, hfz, hnd⟩ := hW
  have hA : DataW.TrodAll enc Try.prog W 0 (fun _ => true) true Try.f3.params.toList args.toList ds p := hA0
  rw [Try.params3] at hA hval
  obtain ⟨v0, vs0, d0, ds0, p0, q0, hargs, rfl, rfl, h0, r0⟩ := trodAll_cons hA
  obtain ⟨rfl, rfl, rfl⟩ := trodAll_nil r0
  obtain rfl : args = #[v0] := by cases args; simp_all
  obtain ⟨rfl, rfl⟩ := trodVars_none hV
  obtain ⟨a0, rfl, _, _, w0⟩ := open_int Try.underlying3 (hval 0 3 v0 rfl rfl) h0
  have b0 := bounds_i64 w0
  refine (walk a0 W b0.1 b0.2).mono fun e W' ⟨he, hb⟩ => ?_
  subst he
  exact ⟨_, rfl, law_post laidOut (by kernel_rfl) rfl (by kernel_rfl) Try.underlying4 rfl rfl rfl hW' hb⟩

theorem proved : Rows.CdbSizesSaid :=
  OpenClaim.holds_of_wide 3 Try.f3 rfl rfl rfl rfl rfl rfl rfl ⟨rfl, rfl, rfl, rfl, rfl⟩ rfl rfl rfl rfl rfl (by kernel_rfl) Try.func3 (by kernel_rfl)
    (of_decide_eq_true (by kernel_rfl)) (by unfold Func.isWrapper; first | (rw [if_pos (by decide +kernel)]; kernel_rfl) | (rw [if_neg (by decide +kernel)]; exact ⟨rfl, rfl⟩))
    (fun os started H enc _ => lifted os started H enc)
end Sizes
end Go.Proofs.Yteeeioafhdkagaa
