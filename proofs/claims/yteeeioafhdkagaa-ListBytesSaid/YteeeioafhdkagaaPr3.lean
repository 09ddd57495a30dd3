/- Package prlist: ParseKeys: contract. -/
import Derived.Test.YteeeioafhdkagaaPr2
namespace Go.Proofs.Yteeeioafhdkagaa
open Go.ChangeShapes Go.WideShapes Go.ChangeAt Go.RowKit
set_option linter.unusedVariables false
def firstK (r : List UInt8) (k : Nat) : List Nat := (List.range k).map fun i => beVal ((r.drop (8 * i)).take 8)
theorem firstK_len (r : List UInt8) (k : Nat) : (firstK r k).length = k := by simp [firstK]
theorem firstK_succ (r : List UInt8) (k : Nat) : firstK r (k + 1) = firstK r k ++ [beVal ((r.drop (8 * k)).take 8)] := by simp [firstK, List.range_succ]
theorem u64s_app (a b : List Nat) : u64s (a ++ b) = u64s a ++ u64s b := by simp [u64s]
theorem u64s_len (a : List Nat) : (u64s a).length = a.length := by simp [u64s]
theorem cells_new1 (w : World) (t : TypeId) (a : Value) : ∀ (j : Nat) (u : Value), [a][j]? = some u → (w.alloc (.cells #[a] t)).cell? ((⟨w.heap.size, 0, none⟩ : Addr).add j) = some u := by
  intro j u hu
  rw [add_plain, Nat.zero_add]
  exact (cell_of_row _ _ j #[a] t (0, 0) (heap_alloc_new w _)).trans (by simpa using hu)
set_option maxHeartbeats 2000000 in
theorem ParseKeys_any (v : Value) (l : List UInt8) (w : World) (hv : Sl w w.heap.size v l.length (bs l)) (hl : l.length ≤ 100000) :
    Calls Try.prog 17 #[v] w fun e w' => ∃ (g : Nat) (vr : Value) (err : Nat), e = .returned (.tuple #[.int .u32 g, vr, .int .i64 err]) ∧ err = pkE l ∧ (pkE l = 0 → g = beVal (l.take 4) ∧ Sl w' w'.heap.size vr (cutK (l.drop 8)).length (u64s (cutK (l.drop 8)))) ∧ (pkE l ≠ 0 → g = 0 ∧ vr = .slice none 0 0) ∧ Below w.heap.size w w' := by
  have hf := front_any v l w hv hl
  obtain ⟨A, c, rfl, hc1, hc2⟩ := hv.form
  unfold maxLen at hc2
  obtain ⟨i0, hi, hz0, hz1, hz2⟩ := info_parts (show (Try.prog.info? 25).map (fun i => (i.zero, i.size, i.bytes)) = some (some (.int .u64 0), 1, 8) by kernel_rfl)
  by_cases hF : frontE l = 0
  · have hP : pkE l = if (l.length - 8) % 8 ≠ 0 ∨ 128 < l.length - 8 then 2 else 0 := by unfold pkE; rw [if_neg (by omega)]
    obtain ⟨r, hr⟩ : ∃ r, r = l.drop 8 := ⟨_, rfl⟩
    have hrl : r.length = l.length - 8 := by rw [hr, List.length_drop]
    have hf2 : Calls Try.prog 39 #[.slice A l.length c] w fun e w' => ∃ Ar cr, e = .returned (.tuple #[.int .u32 (beVal (l.take 4) : Nat), .slice Ar r.length cr, .int .i64 0]) ∧ Sl w w.heap.size (.slice Ar r.length cr) r.length (bs r) ∧ w = w' := by
      refine hf.mono ?_
      rintro e w' ⟨g, vr, err, rfl, rfl, h1, _, rfl⟩
      obtain ⟨rfl, hs⟩ := h1 hF
      rw [← hr] at hs
      obtain ⟨Ar, cr, rfl, _, _⟩ := hs.form
      exact ⟨Ar, cr, by rw [hF]; rfl, hs, rfl⟩
    rw [← hrl] at hP
    have hrl2 : r.length ≤ 100000 := by omega
    have HP := Lib.hid hP
    have HR := Lib.hid hr
    clear hP hr hrl hf hF
    generalize beVal (l.take 4) = G at *
    have hno : ∀ W, pkE l = 2 → ∃ (g : Nat) (vr : Value) (err : Nat), Ending.returned (.tuple #[.int .u32 0, .slice none 0 0, .int .i64 2]) = .returned (.tuple #[.int .u32 g, vr, .int .i64 err]) ∧ err = pkE l ∧ (pkE l = 0 → g = G ∧ Sl W W.heap.size vr (cutK (l.drop 8)).length (u64s (cutK (l.drop 8)))) ∧ (pkE l ≠ 0 → g = 0 ∧ vr = .slice none 0 0) :=
      fun W h => ⟨0, _, 2, rfl, h.symm, fun h2 => (by rw [h] at h2; cases h2), fun _ => ⟨rfl, rfl⟩⟩
    have HN := Lib.hid hno
    clear hno
    go_enter Try.func17, Try.ntmps17
    go_wp2
    go_step3
    go_wp2_with (go_at_call 39; with_reducible refine hf2.mono ?_; rintro e w' ⟨Ar, cr, rfl, hsr, rfl⟩)
    go_step3
    go_wp2
    go_loopw [8, 9] (fun lv at_ wr => ∃ k : Nat, at_ = .int .i64 (8 * k) ∧ 8 * k ≤ r.length ∧ k ≤ 16 ∧ wr.ownsRow w.heap.size 25 1 lv k (u64s (firstK r k)) ∧ Below w.heap.size w wr) (fun _ at_ _ => r.length - (intOf at_).toNat)
    case atStart => exact ⟨0, rfl, by omega, by omega, World.ownsRow_nil _ _ _ _, Below.refl _ _⟩
    case round =>
      obtain ⟨k, rfl, hk, hk16, hown, hb⟩ := hrel
      obtain ⟨A1, c1, rfl, hc3, hc4⟩ := (Sl.of_own hown).form
      have hsw := hsr.now hb
      by_cases h1 : 8 * k = r.length
      · have gn := get_no _ r (8 * (k : Int)) 8 (8 * k) 8 (by omega) rfl wr hsw (by omega) (by omega) (by omega) (by omega)
        have heq : ((8 * (k : Int)) == (r.length : Int)) = true := by rw [beq_iff_eq]; omega
        go_wp2_with (go_at_call 34; with_reducible refine gn.mono ?_; rintro e w' ⟨rfl, rfl⟩)
        have hP0 : pkE l = 0 := by rw [HP.out, if_neg (by omega)]
        have hcut : cutK (l.drop 8) = firstK r k := by rw [← HR.out]; unfold cutK firstK; rw [show r.length / 8 = k by omega]
        rw [Exit.noGoto_ret]
        refine bodyPost_ret (v := .tuple #[.int .u32 (G : Nat), .slice A1 k c1, .int .i64 0]) (by simp [results, Try.results17, go_sem]) rfl ⟨G, _, 0, rfl, hP0.symm, fun _ => ⟨rfl, ?_⟩, fun h => absurd hP0 h, hb⟩
        rw [hcut, firstK_len]
        exact Sl.of_own hown
      · have hne : ((8 * (k : Int)) == (r.length : Int)) = false := by rw [beq_eq_false_iff_ne]; omega
        by_cases h2 : r.length < 8 * k + 8
        · have gn := get_no _ r (8 * (k : Int)) 8 (8 * k) 8 (by omega) rfl wr hsw (by omega) (by omega) (by omega) (by omega)
          have hP2 : pkE l = 2 := by rw [HP.out, if_pos (by omega)]
          go_wp2_with (go_at_call 34; with_reducible refine gn.mono ?_; rintro e w' ⟨rfl, rfl⟩)
          rw [Exit.noGoto_ret]
          obtain ⟨g, vr, err, e1, e2, e3, e4⟩ := HN.out wr hP2
          exact bodyPost_ret (v := .tuple #[.int .u32 0, .slice none 0 0, .int .i64 2]) (by simp [results, Try.results17, go_sem]) rfl ⟨g, vr, err, e1, e2, e3, e4, hb⟩
        · have gn := get_b _ r (8 * (k : Int)) 8 (8 * k) 8 (by omega) rfl wr hsw (by omega) (by omega) (by omega) (by omega)
          have hsc := firstK_succ r k
          have hkv : beVal ((r.drop (8 * k)).take 8) < 18446744073709551616 := beVal_lt' 8 _ (by simp; omega)
          generalize beVal ((r.drop (8 * k)).take 8) = key at *
          by_cases h3 : k = 16
          · have h3' : ((k : Int) == 16) = true := by rw [h3]; rfl
            have hP2 : pkE l = 2 := by rw [HP.out, if_pos (by omega)]
            have gn := get_b _ r 128 8 128 8 rfl rfl wr hsw (by omega) (by omega) (by omega) (by omega)
            go_wp2_with (go_at_call 34; with_reducible refine gn.mono ?_; rintro e w' ⟨rfl, rfl⟩)
            rw [Exit.noGoto_ret]
            obtain ⟨g, vr, err, e1, e2, e3, e4⟩ := HN.out wr hP2
            exact bodyPost_ret (v := .tuple #[.int .u32 0, .slice none 0 0, .int .i64 2]) (by simp [results, Try.results17, go_sem]) rfl ⟨g, vr, err, e1, e2, e3, e4, hb⟩
          · have h3' : ((k : Int) == 16) = false := by rw [beq_eq_false_iff_ne]; omega
            have hw8 : IntKind.i64.wrap (8 * (k : Int) + 8) = 8 * (k : Int) + 8 := IntWalk.i64_in _ (by omega)
            have hal : w.heap.size ≤ (wr.alloc (.cells #[.int .u64 (key : Int)] 25)).heap.size := (hb.alloc hb.size _).size
            have hnw := cells_new1 wr 25 (.int .u64 (key : Int))
            go_wp2_with (first
              | (go_at_call 34; with_reducible refine gn.mono ?_; rintro e w' ⟨rfl, rfl⟩)
              | (at_builtin; (with_reducible refine wpList_append_own _ rfl (.tmp 42) (.tmp 44) _ rfl w.heap.size 25 i0 _ 1 8 Try.underlying43 hi hz0 hz1 hz2 rfl (by decide) (.slice A1 k c1) k (u64s (firstK r k)) rfl (hown.alloc _) ⟨wr.heap.size, 0, none⟩ 1 1 [.int .u64 (key : Int)] rfl rfl hnw (by simp [Value.oneCell']) (by unfold maxLen; omega) (by omega) hal ?_; intro v1 w1 ho1 hg1 _)))
            have hb1 : Below w.heap.size w w1 := below_own (hb.alloc hb.size _) hg1 hal (fun k hk => (hown.lt k hk).1)
            have ho2 : w1.ownsRow w.heap.size 25 1 v1 (k + 1) (u64s (firstK r (k + 1))) := by
              rw [hsc, u64s_app]
              exact ho1
            go_round
            case rel => exact ⟨k + 1, by go_num, by omega, by omega, ho2, hb1⟩
            case measure => simp [intOf]; omega
  · have hP : pkE l = frontE l := by unfold pkE; rw [if_pos hF]
    have hf2 : Calls Try.prog 39 #[.slice A l.length c] w fun e w' => e = .returned (.tuple #[.int .u32 0, .slice none 0 0, .int .i64 ((frontE l : Nat) : Int)]) ∧ w = w' := by
      refine hf.mono ?_
      rintro e w' ⟨g, vr, err, rfl, rfl, _, h2, rfl⟩
      obtain ⟨rfl, rfl⟩ := h2 hF
      exact ⟨rfl, rfl⟩
    have R : Hid (∃ (g : Nat) (vr : Value) (err : Nat), Ending.returned (.tuple #[.int .u32 0, .slice none 0 0, .int .i64 ((frontE l : Nat) : Int)]) = .returned (.tuple #[.int .u32 g, vr, .int .i64 err]) ∧ err = pkE l ∧ (pkE l = 0 → g = beVal (l.take 4) ∧ Sl w w.heap.size vr (cutK (l.drop 8)).length (u64s (cutK (l.drop 8)))) ∧ (pkE l ≠ 0 → g = 0 ∧ vr = .slice none 0 0) ∧ Below w.heap.size w w) :=
      Lib.hid ⟨0, _, _, rfl, hP.symm, fun h => absurd (hP.symm.trans h) hF, fun _ => ⟨rfl, rfl⟩, Below.refl _ _⟩
    generalize frontE l = E at *
    have hne : ((E : Int) == 0) = false := by rw [beq_eq_false_iff_ne]; omega
    clear hf hF hP
    go_enter Try.func17, Try.ntmps17
    go_wp2
    go_step3
    go_wp2_with (go_at_call 39; with_reducible refine hf2.mono ?_; rintro e w' ⟨rfl, rfl⟩)
    rw [Exit.noGoto_ret]
    exact bodyPost_ret (v := .tuple #[.int .u32 0, .slice none 0 0, .int .i64 (E : Int)]) (by simp [results, Try.results17, go_sem]) rfl R.out
end Go.Proofs.Yteeeioafhdkagaa
