/- Package prlist: Holder, ParseHolder: contracts. -/
import Derived.Test.YteeeioafhdkagaaPr3
namespace Go.Proofs.Yteeeioafhdkagaa
open Go.ChangeShapes Go.WideShapes Go.ChangeAt Go.RowKit
set_option linter.unusedVariables false
theorem and_f (T : Int) : bits .and .i64 T 15 = (((T % 16).toNat : Nat) : Int) := by
  have h1 : (BitVec.ofInt 64 T).toNat = (T % 18446744073709551616).toNat := BitVec.toNat_ofInt ..
  show IntKind.i64.wrap ((BitVec.ofInt 64 T &&& BitVec.ofInt 64 15).toNat : Int) = _
  rw [BitVec.toNat_and, h1, show (BitVec.ofInt 64 15).toNat = 2 ^ 4 - 1 from rfl, Nat.and_two_pow_sub_one_eq_mod]
  have e : (T % 18446744073709551616).toNat % 2 ^ 4 = (T % 16).toNat := by
    rw [show (2 : Nat) ^ 4 = 16 from rfl]
    omega
  rw [e]
  exact IntWalk.i64_in _ (by omega)
theorem Holder_any (g k : Nat) (T : Int) (w : World) (hg : g < 4294967296) (hk : k < 18446744073709551616) :
    Calls Try.prog 23 #[.int .u32 g, .int .u64 k, .int .i64 T] w fun e w' => ∃ v', e = .returned v' ∧ Sl w' w'.heap.size v' (holderS g k (T % 16).toNat).length (bs (holderS g k (T % 16).toNat)) ∧ Below w.heap.size w w' := by
  have hT := and_f T
  have ht16 : (T % 16).toNat < 16 := by omega
  generalize (T % 16).toNat = t at *
  have c1 := put_b (.slice none 0 0) [] g 4 g 4 rfl rfl w Sl.nil_ (by omega) (by simp) (by omega)
  rw [List.nil_append] at c1
  by_cases h0 : t = 0
  · subst h0
    have c2 : ∀ W v, Sl W W.heap.size v (be g 4).length (bs (be g 4)) → Calls Try.prog 31 #[v, .int .u64 0, .int .i64 4] W _ := fun W v h => put_b v _ 0 4 0 4 rfl rfl W h (by omega) (by simp) (by omega)
    go_enter Try.func23, Try.ntmps23
    go_wp2_with (first
      | (go_at_call 31; with_reducible refine c1.mono ?_; rintro e w1 ⟨v1, rfl, hs1, hb1⟩)
      | (go_at_call 31; with_reducible refine (c2 _ _ hs1).mono ?_; rintro e w2 ⟨v2, rfl, hs2, hb2⟩))
    go_ret
    exact ⟨_, rfl, hs2, bchain hb1 hb2⟩
  · have e0 : holderS g k t = be g 4 ++ be 16 4 ++ be k 8 ++ be 0 5 ++ be t 1 ++ be 0 2 := by unfold holderS; rw [if_neg h0]
    have c2 : ∀ W v, Sl W W.heap.size v (be g 4).length (bs (be g 4)) → Calls Try.prog 31 #[v, .int .u64 16, .int .i64 4] W _ := fun W v h => put_b v _ 16 4 16 4 rfl rfl W h (by omega) (by simp) (by omega)
    have c3 : ∀ W v, Sl W W.heap.size v (be g 4 ++ be 16 4).length (bs (be g 4 ++ be 16 4)) → Calls Try.prog 31 #[v, .int .u64 k, .int .i64 8] W _ := fun W v h => put_b v _ k 8 k 8 rfl rfl W h (by omega) (by simp) (by omega)
    have c4 : ∀ W v, Sl W W.heap.size v (be g 4 ++ be 16 4 ++ be k 8).length (bs (be g 4 ++ be 16 4 ++ be k 8)) → Calls Try.prog 31 #[v, .int .u64 0, .int .i64 5] W _ := fun W v h => put_b v _ 0 5 0 5 rfl rfl W h (by omega) (by simp) (by omega)
    have c5 : ∀ W v, Sl W W.heap.size v (be g 4 ++ be 16 4 ++ be k 8 ++ be 0 5).length (bs (be g 4 ++ be 16 4 ++ be k 8 ++ be 0 5)) → Calls Try.prog 31 #[v, .int .u64 t, .int .i64 1] W _ := fun W v h => put_b v _ t 1 t 1 rfl rfl W h (by omega) (by simp) (by omega)
    have c6 : ∀ W v, Sl W W.heap.size v (be g 4 ++ be 16 4 ++ be k 8 ++ be 0 5 ++ be t 1).length (bs (be g 4 ++ be 16 4 ++ be k 8 ++ be 0 5 ++ be t 1)) → Calls Try.prog 31 #[v, .int .u64 0, .int .i64 2] W _ := fun W v h => put_b v _ 0 2 0 2 rfl rfl W h (by omega) (by simp) (by omega)
    rw [e0]
    have hne : ((t : Int) == 0) = false := by rw [beq_eq_false_iff_ne]; omega
    have hwt : IntKind.u64.wrap (t : Int) = t := by rw [IntKind.wrap_u64]; omega
    clear e0 h0
    go_enter Try.func23, Try.ntmps23
    go_wp2_with (first
      | (go_at_call 31; with_reducible refine c1.mono ?_; rintro e w1 ⟨v1, rfl, hs1, hb1⟩)
      | (go_at_call 31; with_reducible refine (c2 _ _ hs1).mono ?_; rintro e w2 ⟨v2, rfl, hs2, hb2⟩)
      | (go_at_call 31; with_reducible refine (c3 _ _ hs2).mono ?_; rintro e w3 ⟨v3, rfl, hs3, hb3⟩)
      | (go_at_call 31; with_reducible refine (c4 _ _ hs3).mono ?_; rintro e w4 ⟨v4, rfl, hs4, hb4⟩)
      | (go_at_call 31; with_reducible refine (c5 _ _ hs4).mono ?_; rintro e w5 ⟨v5, rfl, hs5, hb5⟩)
      | (go_at_call 31; with_reducible refine (c6 _ _ hs5).mono ?_; rintro e w6 ⟨v6, rfl, hs6, hb6⟩))
    go_ret
    exact ⟨_, rfl, hs6, bchain (bchain (bchain (bchain (bchain hb1 hb2) hb3) hb4) hb5) hb6⟩
/-- What a holder's bytes tell: generation, key, type, error. -/
def phS (l : List UInt8) : Nat × Nat × Nat × Nat :=
  if frontE l ≠ 0 then (0, 0, 0, frontE l)
  else if (l.drop 8).length = 0 then (beVal (l.take 4), 0, 0, 0)
  else if (l.drop 8).length = 16 ∧ nought (((l.drop 8).drop 8).take 5) = true ∧ nought ((l.drop 8).drop 14) = true ∧ 1 ≤ ((l.drop 8).getD 13 0).toNat ∧ ((l.drop 8).getD 13 0).toNat ≤ 15 then (beVal (l.take 4), beVal ((l.drop 8).take 8), ((l.drop 8).getD 13 0).toNat, 0)
  else (0, 0, 0, 2)
def phV (x : Nat × Nat × Nat × Nat) : Ending := .returned (.tuple #[.int .u32 x.1, .int .u64 x.2.1, .int .i64 x.2.2.1, .int .i64 x.2.2.2])
set_option maxHeartbeats 2000000 in
theorem ParseHolder_any (v : Value) (l : List UInt8) (w : World) (hv : Sl w w.heap.size v l.length (bs l)) (hl : l.length ≤ 100000) :
    Calls Try.prog 19 #[v] w fun e w' => e = phV (phS l) ∧ Below w.heap.size w w' := by
  have hf := front_any v l w hv hl
  obtain ⟨A, c, rfl, hc1, hc2⟩ := hv.form
  unfold maxLen at hc2
  by_cases hF : frontE l = 0
  · have hP : phS l = if (l.drop 8).length = 0 then (beVal (l.take 4), 0, 0, 0)
      else if (l.drop 8).length = 16 ∧ nought (((l.drop 8).drop 8).take 5) = true ∧ nought ((l.drop 8).drop 14) = true ∧ 1 ≤ ((l.drop 8).getD 13 0).toNat ∧ ((l.drop 8).getD 13 0).toNat ≤ 15 then (beVal (l.take 4), beVal ((l.drop 8).take 8), ((l.drop 8).getD 13 0).toNat, 0)
      else (0, 0, 0, 2) := by unfold phS; rw [if_neg (by omega)]
    have hrl2 : (l.drop 8).length ≤ 100000 := by rw [List.length_drop]; omega
    have hf2 : Calls Try.prog 39 #[.slice A l.length c] w fun e w' => ∃ Ar cr, e = .returned (.tuple #[.int .u32 (beVal (l.take 4) : Nat), .slice Ar (l.drop 8).length cr, .int .i64 0]) ∧ Sl w w.heap.size (.slice Ar (l.drop 8).length cr) (l.drop 8).length (bs (l.drop 8)) ∧ w = w' := by
      refine hf.mono ?_
      rintro e w' ⟨g, vr, err, rfl, rfl, h1, _, rfl⟩
      obtain ⟨rfl, hs⟩ := h1 hF
      obtain ⟨Ar, cr, rfl, _, _⟩ := hs.form
      exact ⟨Ar, cr, by rw [hF]; rfl, hs, rfl⟩
    clear hf hF hv
    generalize l.drop 8 = r at *
    generalize beVal (l.take 4) = G at *
    by_cases h0 : r.length = 0
    · have hP0 : phS l = (G, 0, 0, 0) := by rw [hP, if_pos h0]
      have HP := Lib.hid hP0
      rw [h0] at hf2
      clear hP hP0 h0
      go_enter Try.func19, Try.ntmps19
      go_wp2_with (go_at_call 39; with_reducible refine hf2.mono ?_; rintro e w' ⟨Ar, cr, rfl, hsr, rfl⟩)
      exact bodyPost_ret (v := .tuple #[.int .u32 (G : Nat), .int .u64 (0 : Nat), .int .i64 (0 : Nat), .int .i64 (0 : Nat)]) (by simp [results, Try.results19, go_sem]) rfl ⟨by rw [HP.out]; rfl, Below.refl _ _⟩
    · rw [if_neg h0] at hP
      have h0' : ((r.length : Int) == 0) = false := by rw [beq_eq_false_iff_ne]; omega
      by_cases h16 : r.length = 16
      · have hf3 : Calls Try.prog 39 #[.slice A l.length c] w fun e w' => ∃ b off cr, e = .returned (.tuple #[.int .u32 G, .slice (some ⟨b, off, none⟩) 16 cr, .int .i64 0]) ∧ Sl w w.heap.size (.slice (some ⟨b, off, none⟩) r.length cr) r.length (bs r) ∧ 16 ≤ cr ∧ cr ≤ maxLen ∧ w = w' := by
          refine hf2.mono ?_
          rintro e w' ⟨Ar, cr, rfl, hs, rfl⟩
          obtain ⟨_, _, e1, h3, h4⟩ := hs.form
          cases e1
          obtain ⟨b, off, rfl, _, _⟩ := hs.at_ (by omega)
          exact ⟨b, off, cr, by rw [h16], hs, by omega, h4, rfl⟩
        have hd8 : (r.drop 8).length = 8 := by rw [List.length_drop]; omega
        have n1 : ∀ b off cr, Sl w w.heap.size (.slice (some ⟨b, off, none⟩) r.length cr) r.length (bs r) → cr ≤ maxLen → Calls Try.prog 37 #[.slice (some ⟨b, off + 8, none⟩) 5 (cr - 8)] w fun e w' => e = .returned (.bool (nought ((r.drop 8).take 5))) ∧ w = w' := by
          intro b off cr hs hcr
          have h1 := hs.from (m := 8) (by omega) hcr
          rw [h16, hd8] at h1
          have h2 := h1.take (m := 5) (by omega)
          rw [← bs_take] at h2
          exact nought_any _ _ w (by rw [List.length_take, hd8]; exact h2)
        have n2 : ∀ b off cr, Sl w w.heap.size (.slice (some ⟨b, off, none⟩) r.length cr) r.length (bs r) → cr ≤ maxLen → Calls Try.prog 37 #[.slice (some ⟨b, off + 14, none⟩) 2 (cr - 14)] w fun e w' => e = .returned (.bool (nought (r.drop 14))) ∧ w = w' := by
          intro b off cr hs hcr
          have h1 := hs.from (m := 14) (by omega) hcr
          rw [h16] at h1
          exact nought_any _ _ w h1
        have n3 : ∀ b off cr, Sl w w.heap.size (.slice (some ⟨b, off, none⟩) r.length cr) r.length (bs r) → Calls Try.prog 34 #[.slice (some ⟨b, off, none⟩) 16 cr, .int .i64 0, .int .i64 8] w fun e w' => e = .returned (.tuple #[.int .u64 (beVal (r.take 8)), .bool true]) ∧ w = w' := by
          intro b off cr hs
          have h := get_b _ r 0 8 0 8 rfl rfl w hs (by omega) (by omega) (by omega) (by omega)
          rw [h16, List.drop_zero] at h
          exact h
        have hx : ∀ b off cr, Sl w w.heap.size (.slice (some ⟨b, off, none⟩) r.length cr) r.length (bs r) → w.cell? ⟨b, off + 13, none⟩ = some (.int .u8 ((r.getD 13 0).toNat : Int)) := by
          intro b off cr hs
          obtain ⟨b', off', e1, _, hcell⟩ := hs.at_ (by omega)
          cases e1
          have h13 : 13 < r.length := by omega
          have e2 : r.getD 13 0 = r[13] := by simp [List.getD, h13]
          rw [e2]
          exact hcell 13 _ (bs_get h13)
        have hb256 : (r.getD 13 0).toNat < 256 := (r.getD 13 0).toNat_lt
        generalize (r.getD 13 0).toNat = T at *
        generalize nought ((r.drop 8).take 5) = t1 at *
        generalize nought (r.drop 14) = t2 at *
        generalize beVal (r.take 8) = K at *
        have HP := Lib.hid hP
        rw [h16] at h0'
        have h16' := Lib.hid h16
        clear hP h16 hf2 hd8 h0 hrl2
        have hc16 : ∀ cr : Nat, 16 ≤ cr → (13 : Int) ≤ cr ∧ (16 : Int) ≤ cr := fun cr h => by omega
        have hno : Hid (¬ (t1 = true ∧ t2 = true ∧ 1 ≤ T ∧ T ≤ 15) → phS l = (0, 0, 0, 2)) := Lib.hid fun h => by rw [HP.out, if_neg (fun h2 => h h2.2)]
        have hyes : Hid (t1 = true ∧ t2 = true ∧ 1 ≤ T ∧ T ≤ 15 → phS l = (G, K, T, 0)) := Lib.hid fun h => by rw [HP.out, if_pos ⟨h16'.out, h⟩]
        clear HP
        cases t1
        · have HP := Lib.hid (hno.out (by simp))
          clear hno hyes
          go_enter Try.func19, Try.ntmps19
          go_wp2_with (first
            | (go_at_call 39; with_reducible refine hf3.mono ?_; rintro e w' ⟨b, off, cr, rfl, hsr, hcr, hcr2, rfl⟩; have hcc := hc16 cr hcr; obtain ⟨hcc1, hcc2⟩ := hcc; have m1 := n1 b off cr hsr hcr2)
            | (go_at_call 37; with_reducible refine m1.mono ?_; rintro e w' ⟨rfl, rfl⟩))
          exact bodyPost_ret (v := .tuple #[.int .u32 (0 : Nat), .int .u64 (0 : Nat), .int .i64 (0 : Nat), .int .i64 (2 : Nat)]) (by simp [results, Try.results19, go_sem]) rfl ⟨by rw [HP.out]; rfl, Below.refl _ _⟩
        · cases t2
          · have HP := Lib.hid (hno.out (by simp))
            clear hno hyes
            go_enter Try.func19, Try.ntmps19
            go_wp2_with (first
              | (go_at_call 39; with_reducible refine hf3.mono ?_; rintro e w' ⟨b, off, cr, rfl, hsr, hcr, hcr2, rfl⟩; have hcc := hc16 cr hcr; obtain ⟨hcc1, hcc2⟩ := hcc; have m1 := n1 b off cr hsr hcr2; have m2 := n2 b off cr hsr hcr2)
              | (go_at_call 37; with_reducible refine m1.mono ?_; rintro e w' ⟨rfl, rfl⟩)
              | (go_at_call 37; with_reducible refine m2.mono ?_; rintro e w' ⟨rfl, rfl⟩))
            exact bodyPost_ret (v := .tuple #[.int .u32 (0 : Nat), .int .u64 (0 : Nat), .int .i64 (0 : Nat), .int .i64 (2 : Nat)]) (by simp [results, Try.results19, go_sem]) rfl ⟨by rw [HP.out]; rfl, Below.refl _ _⟩
          · by_cases hT1 : T < 1
            · have HP := Lib.hid (hno.out (by omega))
              have hT1' : (T : Int) < 1 := by omega
              clear hno hyes
              go_enter Try.func19, Try.ntmps19
              go_wp2_with (first
                | (go_at_call 39; with_reducible refine hf3.mono ?_; rintro e w' ⟨b, off, cr, rfl, hsr, hcr, hcr2, rfl⟩; have hcc := hc16 cr hcr; obtain ⟨hcc1, hcc2⟩ := hcc; have m1 := n1 b off cr hsr hcr2; have m2 := n2 b off cr hsr hcr2; have m4 := hx b off cr hsr)
                | (go_at_call 37; with_reducible refine m1.mono ?_; rintro e w' ⟨rfl, rfl⟩)
                | (go_at_call 37; with_reducible refine m2.mono ?_; rintro e w' ⟨rfl, rfl⟩))
              exact bodyPost_ret (v := .tuple #[.int .u32 (0 : Nat), .int .u64 (0 : Nat), .int .i64 (0 : Nat), .int .i64 (2 : Nat)]) (by simp [results, Try.results19, go_sem]) rfl ⟨by rw [HP.out]; rfl, Below.refl _ _⟩
            · have hT1' : ¬ (T : Int) < 1 := by omega
              by_cases hT2 : 15 < T
              · have HP := Lib.hid (hno.out (by omega))
                have hT2' : (15 : Int) < T := by omega
                clear hno hyes
                go_enter Try.func19, Try.ntmps19
                go_wp2_with (first
                  | (go_at_call 39; with_reducible refine hf3.mono ?_; rintro e w' ⟨b, off, cr, rfl, hsr, hcr, hcr2, rfl⟩; have hcc := hc16 cr hcr; obtain ⟨hcc1, hcc2⟩ := hcc; have m1 := n1 b off cr hsr hcr2; have m2 := n2 b off cr hsr hcr2; have m4 := hx b off cr hsr)
                  | (go_at_call 37; with_reducible refine m1.mono ?_; rintro e w' ⟨rfl, rfl⟩)
                  | (go_at_call 37; with_reducible refine m2.mono ?_; rintro e w' ⟨rfl, rfl⟩))
                exact bodyPost_ret (v := .tuple #[.int .u32 (0 : Nat), .int .u64 (0 : Nat), .int .i64 (0 : Nat), .int .i64 (2 : Nat)]) (by simp [results, Try.results19, go_sem]) rfl ⟨by rw [HP.out]; rfl, Below.refl _ _⟩
              · have HP := Lib.hid (hyes.out ⟨rfl, rfl, by omega, by omega⟩)
                have hT2' : ¬ (15 : Int) < T := by omega
                clear hno hyes
                go_enter Try.func19, Try.ntmps19
                go_wp2_with (first
                  | (go_at_call 39; with_reducible refine hf3.mono ?_; rintro e w' ⟨b, off, cr, rfl, hsr, hcr, hcr2, rfl⟩; have hcc := hc16 cr hcr; obtain ⟨hcc1, hcc2⟩ := hcc; have m1 := n1 b off cr hsr hcr2; have m2 := n2 b off cr hsr hcr2; have m3 := n3 b off cr hsr; have m4 := hx b off cr hsr)
                  | (go_at_call 37; with_reducible refine m1.mono ?_; rintro e w' ⟨rfl, rfl⟩)
                  | (go_at_call 37; with_reducible refine m2.mono ?_; rintro e w' ⟨rfl, rfl⟩)
                  | (go_at_call 34; with_reducible refine m3.mono ?_; rintro e w' ⟨rfl, rfl⟩))
                have hwT : IntKind.i64.wrap (T : Int) = T := IntWalk.i64_in _ (by omega)
                go_region
                all_goals go_wp2
                exact bodyPost_ret (v := .tuple #[.int .u32 (G : Nat), .int .u64 (K : Nat), .int .i64 (T : Nat), .int .i64 (0 : Nat)]) (by simp [results, Try.results19, go_sem]) rfl ⟨by rw [HP.out]; rfl, (Below.refl _ _).drew⟩
      · have hP0 : phS l = (0, 0, 0, 2) := by rw [hP, if_neg (fun h => h16 h.1)]
        have h16' : ¬ (r.length : Int) = 16 := by omega
        have HP := Lib.hid hP0
        clear hP hP0 h16
        go_enter Try.func19, Try.ntmps19
        go_wp2_with (go_at_call 39; with_reducible refine hf2.mono ?_; rintro e w' ⟨Ar, cr, rfl, hsr, rfl⟩)
        exact bodyPost_ret (v := .tuple #[.int .u32 (0 : Nat), .int .u64 (0 : Nat), .int .i64 (0 : Nat), .int .i64 (2 : Nat)]) (by simp [results, Try.results19, go_sem]) rfl ⟨by rw [HP.out]; rfl, Below.refl _ _⟩
  · have hP : phS l = (0, 0, 0, frontE l) := by unfold phS; rw [if_pos hF]
    have hf2 : Calls Try.prog 39 #[.slice A l.length c] w fun e w' => e = .returned (.tuple #[.int .u32 0, .slice none 0 0, .int .i64 ((frontE l : Nat) : Int)]) ∧ w = w' := by
      refine hf.mono ?_
      rintro e w' ⟨g, vr, err, rfl, rfl, _, h2, rfl⟩
      obtain ⟨rfl, rfl⟩ := h2 hF
      exact ⟨rfl, rfl⟩
    have HP := Lib.hid hP
    clear hP
    generalize frontE l = E at *
    have hne : ((E : Int) == 0) = false := by rw [beq_eq_false_iff_ne]; omega
    clear hf hF
    go_enter Try.func19, Try.ntmps19
    go_wp2_with (go_at_call 39; with_reducible refine hf2.mono ?_; rintro e w' ⟨rfl, rfl⟩)
    exact bodyPost_ret (v := .tuple #[.int .u32 (0 : Nat), .int .u64 (0 : Nat), .int .i64 (0 : Nat), .int .i64 (E : Nat)]) (by simp [results, Try.results19, go_sem]) rfl ⟨by rw [HP.out]; rfl, Below.refl _ _⟩
end Go.Proofs.Yteeeioafhdkagaa
