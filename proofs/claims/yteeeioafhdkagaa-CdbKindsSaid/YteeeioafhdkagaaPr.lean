/- Package prlist: contracts. -/
import Derived.Test.YteeeioafhdkagaaPrS
namespace Go.Proofs.Yteeeioafhdkagaa
open Go.ChangeShapes Go.WideShapes Go.ChangeAt Go.RowKit
set_option linter.unusedVariables false
theorem nought_snoc (l : List UInt8) {k : Nat} (h : k < l.length) : nought (l.take (k + 1)) = (nought (l.take k) && l[k] == 0) := by
  unfold nought
  rw [List.take_succ_eq_append_getElem h, List.all_append]
  simp
theorem nought_dead {l : List UInt8} {k : Nat} (h : nought (l.take k) = false) : nought l = false := by
  unfold nought at *
  rw [← List.take_append_drop k l, List.all_append, h, Bool.false_and]
theorem nought_any (v : Value) (l : List UInt8) (w : World) (hv : Sl w w.heap.size v l.length (bs l)) :
    Calls Try.prog 37 #[v] w fun e w' => e = .returned (.bool (nought l)) ∧ w = w' := by
  obtain ⟨A, c, rfl, hc1, hc2⟩ := hv.form
  unfold maxLen at hc2
  go_enter Try.func37, Try.ntmps37
  go_wp2
  go_loop [7] (fun i => ∃ k : Nat, k ≤ l.length ∧ i = .int .i64 k ∧ nought (l.take k) = true) (fun i => l.length - (intOf i).toNat)
  case atStart => exact ⟨0, Nat.zero_le _, rfl, rfl⟩
  case round =>
    obtain ⟨k, hk, rfl, hx⟩ := hrel
    by_cases hlt : k < l.length
    · obtain ⟨b, off, rfl, hbB, hcell⟩ := hv.at_ (by omega)
      have hx1 : w.cell? ⟨b, off + k, none⟩ = some (.int .u8 (l[k]).toNat) := hcell _ _ (bs_get hlt)
      have hsn := nought_snoc l hlt
      rw [hx, Bool.true_and] at hsn
      have HS := Lib.hid hsn
      clear hcell hsn hx
      go_wp2
      · rename_i h hw
        have h0 : (l[k] == 0) = false := by
          rw [beq_eq_false_iff_ne]
          intro e
          rw [e] at h
          exact absurd h (by decide)
        have hd := nought_dead (HS.out.trans h0)
        go_ret
        exact ⟨ret_b hd.symm, rfl⟩
      · rename_i h
        have h0 : (l[k] == 0) = true := by
          rw [beq_iff_eq]
          have h1 : ((l[k]).toNat : Int) = 0 := by simpa using h
          exact UInt8.toNat_inj.1 (by show (l[k]).toNat = 0; omega)
        go_round
        case rel => exact ⟨k + 1, by omega, by go_num, HS.out.trans h0⟩
        case measure => simp [intOf]; omega
    · obtain rfl : k = l.length := by omega
      rw [List.take_length] at hx
      go_wp2
      go_ret
      exact ⟨rfl, rfl⟩
theorem putS_is (l : List UInt8) (x n : Nat) (h : 1 ≤ n ∧ n ≤ 8) : putS l x n = l ++ be x n := by unfold putS; rw [if_neg (by omega)]; simp
/-- bin.Put, as the layers above call it. -/
theorem put_b (v : Value) (l : List UInt8) (X N : Int) (x n : Nat) (hX : X = x) (hN : N = n) (w : World) (hv : Sl w w.heap.size v l.length (bs l)) (hx : x < 18446744073709551616) (hl : l.length ≤ 8796093022208) (hn : 1 ≤ n ∧ n ≤ 8) :
    Calls Try.prog 31 #[v, .int .u64 X, .int .i64 N] w fun e w' => ∃ v', e = .returned v' ∧ Sl w' w'.heap.size v' (l ++ be x n).length (bs (l ++ be x n)) ∧ Below w.heap.size w w' := by
  subst hX; subst hN
  refine (put_any v l x n w hv hx hl (by omega) (by omega)).mono ?_
  rintro e w' ⟨v', rfl, ho, hb⟩
  rw [putS_is l x n hn] at ho
  exact ⟨v', rfl, Sl.of_own ho, hb⟩
theorem Encode_any (k o : Nat) (w : World) (hk : k < 18446744073709551616) (ho : o < 18446744073709551616) :
    Calls Try.prog 21 #[.int .u64 k, .int .u64 o] w fun e w' => ∃ v', e = .returned v' ∧ Sl w' w'.heap.size v' (prEnc k o).length (bs (prEnc k o)) ∧ Below w.heap.size w w' := by
  have c1 := put_b (.slice none 0 0) [] k 8 k 8 rfl rfl w Sl.nil_ hk (by simp) (by omega)
  have c2 : ∀ W v, Sl W W.heap.size v ([] ++ be k 8).length (bs ([] ++ be k 8)) → Calls Try.prog 31 #[v, .int .u64 o, .int .i64 8] W _ := fun W v h => put_b v _ o 8 o 8 rfl rfl W h ho (by simp) (by omega)
  have c3 : ∀ W v, Sl W W.heap.size v ([] ++ be k 8 ++ be o 8).length (bs ([] ++ be k 8 ++ be o 8)) → Calls Try.prog 31 #[v, .int .u64 0, .int .i64 8] W _ := fun W v h => put_b v _ 0 8 0 8 rfl rfl W h (by omega) (by simp) (by omega)
  go_enter Try.func21, Try.ntmps21
  go_wp2_with (first
    | (go_at_call 31; with_reducible refine c1.mono ?_; rintro e w1 ⟨v1, rfl, hs1, hb1⟩)
    | (go_at_call 31; with_reducible refine (c2 _ _ hs1).mono ?_; rintro e w2 ⟨v2, rfl, hs2, hb2⟩)
    | (go_at_call 31; with_reducible refine (c3 _ _ hs2).mono ?_; rintro e w3 ⟨v3, rfl, hs3, hb3⟩))
  go_ret
  exact ⟨_, rfl, hs3, bchain (bchain hb1 hb2) hb3⟩
theorem Sl.empty_any (w : World) (B : Nat) (A : Option Addr) {c : Nat} (hc : c ≤ maxLen) : Sl w B (.slice A 0 c) 0 [] := ⟨rfl, A, c, rfl, Nat.zero_le _, hc, fun h => absurd rfl h⟩
theorem bs_drop (l : List UInt8) (m : Nat) : bs (l.drop m) = (bs l).drop m := by unfold bs; rw [List.map_drop]
theorem bs_take (l : List UInt8) (m : Nat) : bs (l.take m) = (bs l).take m := by unfold bs; rw [List.map_take]
/-- A slice from place m on. -/
theorem Sl.from {w : World} {B c b off : Nat} {l : List UInt8} (h : Sl w B (.slice (some ⟨b, off, none⟩) l.length c) l.length (bs l)) {m : Nat} (hm : m ≤ l.length) (hc : c ≤ maxLen) :
    Sl w B (.slice (some ⟨b, off + m, none⟩) (l.length - m) (c - m)) (l.drop m).length (bs (l.drop m)) := by
  rw [bs_drop, List.length_drop]
  rcases Nat.lt_or_ge m l.length with h1 | h1
  · exact h.drop h1
  · obtain rfl : m = l.length := by omega
    rw [Nat.sub_self, List.drop_of_length_le (by simp)]
    exact Sl.empty_any _ _ _ (by omega)
theorem get_b (v : Value) (l : List UInt8) (T N : Int) (t n : Nat) (hT : T = t) (hN : N = n) (w : World) (hv : Sl w w.heap.size v l.length (bs l)) (hl : l.length ≤ 140737488355328) (ht : t ≤ 140737488355328) (hn : 1 ≤ n ∧ n ≤ 8) (h : t + n ≤ l.length) :
    Calls Try.prog 34 #[v, .int .i64 T, .int .i64 N] w fun e w' => e = .returned (.tuple #[.int .u64 (beVal ((l.drop t).take n)), .bool true]) ∧ w = w' := by
  subst hT; subst hN
  have h1 := get_any v l t n w hv hl (by omega) (by omega) (by omega) (by omega)
  have e : getS l t n = (beVal ((l.drop t).take n), true) := by unfold getS; rw [if_pos (by omega)]; simp
  rw [e] at h1
  exact h1
theorem get_no (v : Value) (l : List UInt8) (T N : Int) (t n : Nat) (hT : T = t) (hN : N = n) (w : World) (hv : Sl w w.heap.size v l.length (bs l)) (hl : l.length ≤ 140737488355328) (ht : t ≤ 140737488355328) (hn : 1 ≤ n ∧ n ≤ 8) (h : l.length < t + n) :
    Calls Try.prog 34 #[v, .int .i64 T, .int .i64 N] w fun e w' => e = .returned (.tuple #[.int .u64 0, .bool false]) ∧ w = w' := by
  subst hT; subst hN
  have h1 := get_any v l t n w hv hl (by omega) (by omega) (by omega) (by omega)
  have e : getS l t n = (0, false) := by unfold getS; rw [if_neg (by omega)]
  rw [e] at h1
  exact h1
set_option maxHeartbeats 1000000 in
theorem front_any (v : Value) (l : List UInt8) (w : World) (hv : Sl w w.heap.size v l.length (bs l)) (hl : l.length ≤ 100000) :
    Calls Try.prog 39 #[v] w fun e w' => ∃ (g : Nat) (vr : Value) (err : Nat), e = .returned (.tuple #[.int .u32 g, vr, .int .i64 err]) ∧ err = frontE l ∧ (frontE l = 0 → g = beVal (l.take 4) ∧ Sl w w.heap.size vr (l.drop 8).length (bs (l.drop 8))) ∧ (frontE l ≠ 0 → g = 0 ∧ vr = .slice none 0 0) ∧ w = w' := by
  obtain ⟨A, c, rfl, hc1, hc2⟩ := hv.form
  have hc2' := hc2
  unfold maxLen at hc2
  by_cases h8 : l.length < 8
  · have hE : Hid (frontE l = 3) := Lib.hid (by unfold frontE; rw [if_pos h8])
    have h8' : (l.length : Int) < 8 := by omega
    go_enter Try.func39, Try.ntmps39
    go_wp2
    exact bodyPost_ret (v := .tuple #[.int .u32 0, .slice none 0 0, .int .i64 3]) (by simp [results, Try.results39, go_sem]) rfl ⟨0, _, 3, rfl, hE.out.symm, fun h => (by rw [hE.out] at h; cases h), fun _ => ⟨rfl, rfl⟩, rfl⟩
  · obtain ⟨b, off, rfl, hbB, hcell⟩ := hv.at_ (by omega)
    have g1 := get_b _ l 0 4 0 4 rfl rfl w hv (by omega) (by omega) (by omega) (by omega)
    have g2 := get_b _ l 4 4 4 4 rfl rfl w hv (by omega) (by omega) (by omega) (by omega)
    rw [List.drop_zero] at g1
    have hr := hv.from (m := 8) (by omega) hc2'
    have hF : frontE l = if l.length - 8 < beVal ((l.drop 4).take 4) then 3 else if beVal ((l.drop 4).take 4) < l.length - 8 then 2 else 0 := by unfold frontE; rw [if_neg h8]
    have y1 : beVal (l.take 4) < 4294967296 := beVal_lt' 4 _ (by simp; omega)
    have y2 : beVal ((l.drop 4).take 4) < 4294967296 := beVal_lt' 4 _ (by simp; omega)
    generalize beVal (l.take 4) = G at *
    generalize beVal ((l.drop 4).take 4) = N at *
    have h8' : ¬ (l.length : Int) < 8 := by omega
    have hw : IntKind.u64.wrap ((l.length - 8 : Nat) : Int) = ((l.length - 8 : Nat) : Int) := by rw [IntKind.wrap_u64]; omega
    have HF := Lib.hid hF
    have HR := Lib.hid hr
    clear hF hr hcell
    have hc8 : (8 : Int) ≤ c := by omega
    have hc8' : (l.length : Int) ≤ c := by omega
    have ret3 : ∀ err : Nat, err = frontE l → frontE l ≠ 0 → ∃ (g : Nat) (vr : Value) (er : Nat), Ending.returned (.tuple #[.int .u32 0, .slice none 0 0, .int .i64 err]) = .returned (.tuple #[.int .u32 g, vr, .int .i64 er]) ∧ er = frontE l ∧ (frontE l = 0 → g = G ∧ Sl w w.heap.size vr (l.drop 8).length (bs (l.drop 8))) ∧ (frontE l ≠ 0 → g = 0 ∧ vr = .slice none 0 0) ∧ w = w :=
      fun err h1 h2 => ⟨0, _, err, rfl, h1, fun h => absurd h h2, fun _ => ⟨rfl, rfl⟩, rfl⟩
    rcases Nat.lt_trichotomy (l.length - 8) N with hlt | heq | hgt
    · have e3 : frontE l = 3 := by rw [HF.out, if_pos hlt]
      have R := Lib.hid (ret3 3 e3.symm (by omega))
      clear ret3 e3
      have hltZ : ((l.length - 8 : Nat) : Int) < N := by omega
      go_enter Try.func39, Try.ntmps39
      go_wp2_with (first
        | (go_at_call 34; with_reducible refine g1.mono ?_; rintro e w' ⟨rfl, rfl⟩)
        | (go_at_call 34; with_reducible refine g2.mono ?_; rintro e w' ⟨rfl, rfl⟩))
      all_goals exact bodyPost_ret (v := .tuple #[.int .u32 0, .slice none 0 0, .int .i64 3]) (by simp [results, Try.results39, go_sem]) rfl (by simpa using R.out)
    · have e3 : frontE l = 0 := by rw [HF.out, if_neg (by omega), if_neg (by omega)]
      have R : Hid (∀ vr, Sl w w.heap.size vr (l.drop 8).length (bs (l.drop 8)) → ∃ (g : Nat) (vr' : Value) (er : Nat), Ending.returned (.tuple #[.int .u32 G, vr, .int .i64 0]) = .returned (.tuple #[.int .u32 g, vr', .int .i64 er]) ∧ er = frontE l ∧ (frontE l = 0 → g = G ∧ Sl w w.heap.size vr' (l.drop 8).length (bs (l.drop 8))) ∧ (frontE l ≠ 0 → g = 0 ∧ vr' = .slice none 0 0) ∧ w = w) :=
        Lib.hid fun vr h => ⟨G, vr, 0, rfl, e3.symm, fun _ => ⟨rfl, h⟩, fun h => absurd e3 h, rfl⟩
      clear ret3 e3
      have hltZ : ¬ ((l.length - 8 : Nat) : Int) < N := by omega
      have hgtZ : ¬ (N : Int) < ((l.length - 8 : Nat) : Int) := by omega
      have hwG : IntKind.u32.wrap (G : Int) = G := by rw [IntKind.wrap_u32]; omega
      go_enter Try.func39, Try.ntmps39
      go_wp2_with (first
        | (go_at_call 34; with_reducible refine g1.mono ?_; rintro e w' ⟨rfl, rfl⟩)
        | (go_at_call 34; with_reducible refine g2.mono ?_; rintro e w' ⟨rfl, rfl⟩))
      · have hN0 : N = 0 := by omega
        have h8l : l.length = 8 := by omega
        have hsl : Sl w w.heap.size (.slice (some ⟨b, off, none⟩) N 0) (l.drop 8).length (bs (l.drop 8)) := by
          rw [hN0, List.drop_of_length_le (by omega)]
          exact Sl.empty_any _ _ _ (by unfold maxLen; omega)
        have r := R.out _ hsl
        exact bodyPost_ret (v := .tuple #[.int .u32 G, .slice (some ⟨b, off, none⟩) N 0, .int .i64 0]) (by simp [results, Try.results39, go_sem]) rfl (by simpa [heq] using r)
      · have r := R.out _ HR.out
        rw [heq] at r
        exact bodyPost_ret (v := .tuple #[.int .u32 G, .slice (some ⟨b, off + 8, none⟩) N (c - 8), .int .i64 0]) (by simp [results, Try.results39, go_sem]) rfl (by simpa [heq] using r)
    · have e3 : frontE l = 2 := by rw [HF.out, if_neg (by omega), if_pos hgt]
      have R := Lib.hid (ret3 2 e3.symm (by omega))
      clear ret3 e3
      have hltZ : ¬ ((l.length - 8 : Nat) : Int) < N := by omega
      have hgtZ : (N : Int) < ((l.length - 8 : Nat) : Int) := by omega
      go_enter Try.func39, Try.ntmps39
      go_wp2_with (first
        | (go_at_call 34; with_reducible refine g1.mono ?_; rintro e w' ⟨rfl, rfl⟩)
        | (go_at_call 34; with_reducible refine g2.mono ?_; rintro e w' ⟨rfl, rfl⟩))
      all_goals exact bodyPost_ret (v := .tuple #[.int .u32 0, .slice none 0 0, .int .i64 2]) (by simp [results, Try.results39, go_sem]) rfl (by simpa using R.out)
/-- A reply of illegal request, a field of a list. -/
def badR : Value := .agg #[.int .i64 2, .int .i64 5, .int .i64 9728, .slice none 0 0, .int .i64 0]
def noneR : Value := .agg #[.int .i64 0, .int .i64 0, .int .i64 0, .slice none 0 0, .int .i64 0]
def repR : Bool → Value
  | true => noneR
  | false => badR
theorem ret_dec {l : List UInt8} {k o : Nat} {t : Bool} (h : prDec l = (k, o, t)) : Ending.returned (.tuple #[.int .u64 k, .int .u64 o, repR t, .bool t]) = .returned (.tuple #[.int .u64 (prDec l).1, .int .u64 (prDec l).2.1, repR (prDec l).2.2, .bool (prDec l).2.2]) := by rw [h]
set_option maxHeartbeats 1000000 in
theorem Decode_any (v : Value) (l : List UInt8) (w : World) (hv : Sl w w.heap.size v l.length (bs l)) (hl : l.length ≤ 100000) :
    Calls Try.prog 15 #[v] w fun e w' => e = .returned (.tuple #[.int .u64 (prDec l).1, .int .u64 (prDec l).2.1, repR (prDec l).2.2, .bool (prDec l).2.2]) ∧ Below w.heap.size w w' := by
  obtain ⟨A, c, rfl, hc1, hc2⟩ := hv.form
  have hc2' := hc2
  unfold maxLen at hc2
  by_cases h24 : l.length = 24
  · obtain ⟨b, off, rfl, hbB, hcell⟩ := hv.at_ (by omega)
    have hr := hv.from (m := 16) (by omega) hc2'
    have hW : Below w.heap.size w (w.alloc (.cells #[.int .i64 0, .int .i64 0, .int .i64 0, .slice none 0 0, .int .i64 0] 35)) := (Below.refl _ _).alloc (Nat.le_refl _) _
    have hW' : Below w.heap.size w (w.alloc (.cells #[.int .i64 2, .int .i64 5, .int .i64 9728, .slice none 0 0, .int .i64 0] 35)) := (Below.refl _ _).alloc (Nat.le_refl _) _
    have n1 := nought_any _ _ _ (hr.now hW)
    have g1 := get_b _ l 0 8 0 8 rfl rfl _ (hv.now hW) (by omega) (by omega) (by omega) (by omega)
    have g2 := get_b _ l 8 8 8 8 rfl rfl _ (hv.now hW) (by omega) (by omega) (by omega) (by omega)
    rw [List.drop_zero] at g1
    have hD : prDec l = if nought (l.drop 16) = true then (beVal (l.take 8), beVal ((l.drop 8).take 8), true) else (0, 0, false) := by
      unfold prDec
      by_cases hn : nought (l.drop 16) = true
      · rw [if_pos ⟨h24, hn⟩, if_pos hn]
      · rw [if_neg (fun h => hn h.2), if_neg hn]
    generalize beVal (l.take 8) = G at *
    generalize beVal ((l.drop 8).take 8) = N at *
    generalize nought (l.drop 16) = t at *
    have hc24 : 24 ≤ c := by omega
    have hc16 : ¬ c = 16 := by omega
    rw [h24] at n1 g1 g2 ⊢
    clear hcell hr hv hc1 hl h24
    cases t
    · have HD := Lib.hid hD
      clear hD
      go_enter Try.func15, Try.ntmps15
      go_wp2_with (go_at_call 37; with_reducible refine n1.mono ?_; rintro e w' ⟨rfl, rfl⟩)
      refine bodyPost_ret (v := .tuple #[.int .u64 (0 : Nat), .int .u64 (0 : Nat), repR false, .bool false]) ?_ rfl ⟨ret_dec (by rw [HD.out]; rfl), hW'⟩
      simp [results, Try.results15, asAddr, repR, badR, go_sem]
    · have HD := Lib.hid hD
      clear hD
      go_enter Try.func15, Try.ntmps15
      go_wp2_with (first
        | (go_at_call 37; with_reducible refine n1.mono ?_; rintro e w' ⟨rfl, rfl⟩)
        | (go_at_call 34; with_reducible refine g1.mono ?_; rintro e w' ⟨rfl, rfl⟩)
        | (go_at_call 34; with_reducible refine g2.mono ?_; rintro e w' ⟨rfl, rfl⟩))
      refine bodyPost_ret (v := .tuple #[.int .u64 G, .int .u64 N, repR true, .bool true]) ?_ rfl ⟨ret_dec (by rw [HD.out]; rfl), hW⟩
      simp [results, Try.results15, asAddr, repR, noneR, go_sem]
  · have hD : Hid (prDec l = (0, 0, false)) := Lib.hid (by unfold prDec; rw [if_neg (fun h => h24 h.1)])
    have h24' : ¬ (l.length : Int) = 24 := by omega
    go_enter Try.func15, Try.ntmps15
    go_wp2
    refine bodyPost_ret (v := .tuple #[.int .u64 (0 : Nat), .int .u64 (0 : Nat), repR false, .bool false]) ?_ rfl ⟨ret_dec hD.out, (Below.refl _ _).alloc (Nat.le_refl _) _⟩
    simp [results, Try.results15, asAddr, repR, badR, go_sem]
end Go.Proofs.Yteeeioafhdkagaa
