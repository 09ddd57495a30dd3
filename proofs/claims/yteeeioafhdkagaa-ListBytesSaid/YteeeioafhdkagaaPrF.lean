/- The document's second telling of a holder (gemelref6): ParseHolder. -/
import Derived.Test.YteeeioafhdkagaaPrD
import Derived.Test.YteeeioafhdkagaaCalm
namespace Go.Proofs.Yteeeioafhdkagaa
open Go.ChangeShapes Go.WideShapes Go.ChangeAt Go.RowKit
set_option linter.unusedVariables false
theorem phS_short {l : List UInt8} (h : l.length < 8 ∨ l.length - 8 < beVal ((l.drop 4).take 4)) : phS l = (0, 0, 0, 3) := by
  have hf : frontE l = 3 := by
    unfold frontE
    by_cases h8 : l.length < 8
    · rw [if_pos h8]
    · rw [if_neg h8, if_pos (h.resolve_left h8)]
  unfold phS
  rw [hf, if_pos (by omega)]
theorem frontE_long {l : List UInt8} (h8 : 8 ≤ l.length) (hm : beVal ((l.drop 4).take 4) ≤ l.length - 8) : (frontE l = 0 ∧ beVal ((l.drop 4).take 4) = l.length - 8) ∨ (frontE l = 2 ∧ beVal ((l.drop 4).take 4) < l.length - 8) := by
  unfold frontE
  rw [if_neg (by omega), if_neg (by omega)]
  by_cases h : beVal ((l.drop 4).take 4) < l.length - 8
  · right; exact ⟨if_pos h, h⟩
  · left; exact ⟨if_neg h, by omega⟩
theorem phS_eight {l : List UInt8} (h8 : l.length = 8) (hm : beVal ((l.drop 4).take 4) ≤ l.length - 8) : phS l = (beVal (l.take 4), 0, 0, 0) := by
  have hf : frontE l = 0 := by rcases frontE_long (by omega) hm with h | h <;> omega
  unfold phS
  rw [if_neg (by omega), if_pos (by rw [List.length_drop]; omega)]
theorem phS_odd {l : List UInt8} (h8 : 8 ≤ l.length) (hm : beVal ((l.drop 4).take 4) ≤ l.length - 8) (h1 : l.length ≠ 8) (h2 : l.length ≠ 24 ∨ ((l.drop 8).getD 13 0).toNat = 0) : phS l = (0, 0, 0, 2) := by
  unfold phS
  rcases frontE_long h8 hm with h | h
  · rw [if_neg (by omega), if_neg (by rw [List.length_drop]; omega), if_neg]
    rintro ⟨e1, _, _, e2, _⟩
    rw [List.length_drop] at e1
    omega
  · rw [h.1, if_pos (by omega)]
theorem phS_whole {l : List UInt8} (h8 : l.length = 24) (hm : beVal ((l.drop 4).take 4) ≤ l.length - 8) (h0 : ((l.drop 8).getD 13 0).toNat ≠ 0)
    (hh : holderS (beVal (l.take 4)) (beVal ((l.drop 8).take 8)) (((l.drop 8).getD 13 0).toNat % 16) = l) : phS l = (beVal (l.take 4), beVal ((l.drop 8).take 8), ((l.drop 8).getD 13 0).toNat, 0) := by
  have hg : beVal (l.take 4) < 4294967296 := beVal_lt' 4 _ (by simp; omega)
  have hk : beVal ((l.drop 8).take 8) < 18446744073709551616 := beVal_lt' 8 _ (by simp; omega)
  have ht := holder_told _ _ _ hg hk (show ((l.drop 8).getD 13 0).toNat % 16 ≤ 15 by omega)
  rw [hh] at ht
  have hlen := congrArg List.length hh
  rw [holderS_len] at hlen
  have hne : ((l.drop 8).getD 13 0).toNat % 16 ≠ 0 := by
    intro h
    rw [if_pos h] at hlen
    omega
  rw [if_neg hne] at ht
  unfold phS at ht ⊢
  rcases frontE_long (by omega) hm with h | h
  · rw [if_neg (by omega), if_neg (by rw [List.length_drop]; omega)] at ht ⊢
    by_cases hc : (l.drop 8).length = 16 ∧ nought (((l.drop 8).drop 8).take 5) = true ∧ nought ((l.drop 8).drop 14) = true ∧ 1 ≤ ((l.drop 8).getD 13 0).toNat ∧ ((l.drop 8).getD 13 0).toNat ≤ 15
    · rw [if_pos hc]
    · rw [if_neg hc] at ht
      have := congrArg (fun q => q.2.2.2) ht
      simp at this
  · rw [h.1, if_pos (by omega)] at ht
    have := congrArg (fun q => q.2.2.2) ht
    simp at this
theorem phS_not {l : List UInt8} (h8 : l.length = 24) (hm : beVal ((l.drop 4).take 4) ≤ l.length - 8)
    (hh : holderS (beVal (l.take 4)) (beVal ((l.drop 8).take 8)) (((l.drop 8).getD 13 0).toNat % 16) ≠ l) : phS l = (0, 0, 0, 2) := by
  obtain ⟨⟨g, k, t, e⟩, hp⟩ : ∃ x, phS l = x := ⟨_, rfl⟩
  have h2 := hp
  unfold phS at h2
  rcases frontE_long (by omega) hm with h | h
  · rw [if_neg (by omega), if_neg (by rw [List.length_drop]; omega)] at h2
    by_cases hc : (l.drop 8).length = 16 ∧ nought (((l.drop 8).drop 8).take 5) = true ∧ nought ((l.drop 8).drop 14) = true ∧ 1 ≤ ((l.drop 8).getD 13 0).toNat ∧ ((l.drop 8).getD 13 0).toNat ≤ 15
    · rw [if_pos hc] at h2
      exfalso
      have e0 : e = 0 := by have := congrArg (fun q => q.2.2.2) h2; simpa using this.symm
      subst e0
      have hb := holder_back hp
      obtain ⟨rfl, rfl, rfl⟩ : beVal (l.take 4) = g ∧ beVal ((l.drop 8).take 8) = k ∧ ((l.drop 8).getD 13 0).toNat = t := by simpa using h2
      apply hh
      rw [Nat.mod_eq_of_lt (by omega)]
      exact hb.1
    · rw [if_neg hc] at h2
      rw [hp, ← h2]
  · rw [h.1, if_pos (by omega)] at h2
    rw [hp, ← h2]
set_option maxHeartbeats 4000000 in
theorem rParseHolder_any (v : Value) (l : List UInt8) (w : World) (hv : Sl w w.heap.size v l.length (bs l)) (hl : l.length ≤ 100000) :
    Calls Try.prog 20 #[v] w fun e w' => e = phV (phS l) ∧ Below w.heap.size w w' := by
  obtain ⟨A, c, rfl, hc1, hc2⟩ := hv.form
  unfold maxLen at hc2
  by_cases h8 : l.length < 8
  · have h8' : (l.length : Int) < 8 := by omega
    have HP := Lib.hid (phS_short (.inl h8))
    go_enter Try.func20, Try.ntmps20
    go_wp2
    exact bodyPost_ret (v := .tuple #[.int .u32 (0 : Nat), .int .u64 (0 : Nat), .int .i64 (0 : Nat), .int .i64 (3 : Nat)]) (by simp [results, Try.results20, go_sem]) rfl ⟨by rw [HP.out]; rfl, Below.refl _ _⟩
  · have h8' : ¬ (l.length : Int) < 8 := by omega
    have g1 := rget_b _ l 0 4 0 4 rfl rfl _ hv (by omega) (by omega) (by omega) (by omega)
    have g2 := rget_b _ l 4 4 4 4 rfl rfl _ hv (by omega) (by omega) (by omega) (by omega)
    rw [List.drop_zero] at g1
    have hg : beVal (l.take 4) < 4294967296 := beVal_lt' 4 _ (by simp; omega)
    have hm : beVal ((l.drop 4).take 4) < 4294967296 := beVal_lt' 4 _ (by simp; omega)
    have f1 := fun h => phS_short (l := l) (.inr h)
    have f2 := phS_eight (l := l)
    have f3 := phS_odd (l := l) (by omega)
    have f4 := phS_whole (l := l)
    have f5 := phS_not (l := l)
    generalize hG : beVal (l.take 4) = G at *
    generalize beVal ((l.drop 4).take 4) = M at *
    have hw1 : IntKind.i64.wrap ((l.length : Int) - 8) = (l.length : Int) - 8 := IntWalk.i64_in _ (by omega)
    have hw2 : IntKind.u64.wrap ((l.length : Int) - 8) = (l.length : Int) - 8 := by rw [IntKind.wrap_u64]; omega
    have hwg : IntKind.u32.wrap (G : Int) = G := by rw [IntKind.wrap_u32]; omega
    by_cases hM : l.length - 8 < M
    · have hM' : (l.length : Int) - 8 < M := by omega
      have HP := Lib.hid (f1 hM)
      clear f1 f2 f3 f4 f5
      go_enter Try.func20, Try.ntmps20
      go_wp2_with (first
        | (go_at_call 38; with_reducible refine g1.mono ?_; rintro e w' ⟨rfl, rfl⟩)
        | (go_at_call 38; with_reducible refine g2.mono ?_; rintro e w' ⟨rfl, rfl⟩))
      exact bodyPost_ret (v := .tuple #[.int .u32 (0 : Nat), .int .u64 (0 : Nat), .int .i64 (0 : Nat), .int .i64 (3 : Nat)]) (by simp [results, Try.results20, go_sem]) rfl ⟨by rw [HP.out]; rfl, Below.refl _ _⟩
    · have hM' : ¬ (l.length : Int) - 8 < M := by omega
      replace f2 := fun h => f2 h (by omega)
      replace f3 := f3 (by omega)
      replace f4 := fun h => f4 h (by omega)
      replace f5 := fun h => f5 h (by omega)
      by_cases h0 : l.length = 8
      · have hM0 : M = 0 := by omega
        subst hM0
        have HP := Lib.hid (f2 h0)
        have h0' : (l.length : Int) = 8 := by omega
        clear f1 f2 f3 f4 f5 h0 hM
        go_enter Try.func20, Try.ntmps20
        go_wp2_with (first
          | (go_at_call 38; with_reducible refine g1.mono ?_; rintro e w' ⟨rfl, rfl⟩)
          | (go_at_call 38; with_reducible refine g2.mono ?_; rintro e w' ⟨rfl, rfl⟩))
        exact bodyPost_ret (v := .tuple #[.int .u32 (G : Nat), .int .u64 (0 : Nat), .int .i64 (0 : Nat), .int .i64 (0 : Nat)]) (by simp [results, Try.results20, go_sem]) rfl ⟨by rw [HP.out]; rfl, Below.refl _ _⟩
      · have h0' : ¬ (l.length : Int) = 8 := by omega
        by_cases h24 : l.length = 24
        · have g3 := rget_b _ l 8 8 8 8 rfl rfl _ hv (by omega) (by omega) (by omega) (by omega)
          have hk : beVal ((l.drop 8).take 8) < 18446744073709551616 := beVal_lt' 8 _ (by simp; omega)
          obtain ⟨b, off, rfl, hbB, hcell⟩ := hv.at_ (by omega)
          have hx : w.cell? ⟨b, off + 21, none⟩ = some (.int .u8 (((l.drop 8).getD 13 0).toNat : Int)) := by
            have h21 : 21 < l.length := by omega
            have e2 : (l.drop 8).getD 13 0 = l[21] := by simp [List.getD, h21]
            rw [e2]
            exact hcell 21 _ (bs_get h21)
          have hT := ((l.drop 8).getD 13 0).toNat_lt
          generalize beVal ((l.drop 8).take 8) = K at *
          generalize ((l.drop 8).getD 13 0).toNat = T at *
          have hwT : IntKind.i64.wrap (T : Int) = T := IntWalk.i64_in _ (by omega)
          have hcc : (21 : Int) < c := by omega
          rw [h24] at h8' hw1 hw2 hM' h0' hv
          by_cases hT0 : T = 0
          · have HP := Lib.hid (f3 h0 (.inr hT0))
            subst hT0
            rw [h24] at g1 g2 g3 ⊢
            clear f1 f2 f3 f4 f5 hcell
            go_enter Try.func20, Try.ntmps20
            go_wp2_with (first
              | (go_at_call 38; with_reducible refine g1.mono ?_; rintro e w' ⟨rfl, rfl⟩)
              | (go_at_call 38; with_reducible refine g2.mono ?_; rintro e w' ⟨rfl, rfl⟩)
              | (go_at_call 38; with_reducible refine g3.mono ?_; rintro e w' ⟨rfl, rfl⟩))
            go_quiet (fail)
            go_wp2_with fail
            exact bodyPost_ret (v := .tuple #[.int .u32 (0 : Nat), .int .u64 (0 : Nat), .int .i64 (0 : Nat), .int .i64 (2 : Nat)]) (by simp [results, Try.results20, go_sem]) rfl ⟨by rw [HP.out]; rfl, below_drewN (Below.refl _ _) _⟩
          · have hT0' : ((T : Int) == 0) = false := by rw [beq_eq_false_iff_ne]; omega
            have cH : ∀ W, Calls Try.prog 26 #[.int .u32 G, .int .u64 K, .int .i64 (T : Int)] W fun e w' => ∃ v', e = .returned v' ∧ Sl w' w'.heap.size v' (holderS G K (T % 16)).length (bs (holderS G K (T % 16))) ∧ Below W.heap.size W w' := by
              intro W
              have h := rHolder_any G K T W hg hk
              rw [show ((T : Int) % 16).toNat = T % 16 by omega] at h
              exact h
            replace f4 := f4 h24 hT0
            replace f5 := f5 h24
            generalize holderS G K (T % 16) = hh at *
            have kr : ∀ W v, Sl W W.heap.size v hh.length (bs hh) → (convert 24 9 v).run Try.prog W = .ok (.string ⟨hh.toArray⟩) W := fun W v h =>
              bytes_str _ _ _ _ Try.underlying24 Try.underlying5 Try.underlying9 _ _ hh _ h
            have kv : ∀ W, Below w.heap.size w W → (convert 24 9 (.slice (some ⟨b, off, none⟩) 24 c)).run Try.prog W = .ok (.string ⟨l.toArray⟩) W := fun W hW =>
              bytes_str _ _ _ _ Try.underlying24 Try.underlying5 Try.underlying9 _ _ l _ (show Sl W W.heap.size (.slice (some ⟨b, off, none⟩) 24 c) l.length (bs l) by rw [h24]; exact hv.now hW)
            rw [h24] at g1 g2 g3 ⊢
            clear f1 f2 f3 hcell
            by_cases hhl : hh = l
            · have HP := Lib.hid (f4 hhl)
              have hq : (hh == l) = true := by rw [beq_iff_eq]; exact hhl
              clear f4 f5 hhl
              go_enter Try.func20, Try.ntmps20
              go_wp2_with (first
                | (go_at_call 38; with_reducible refine g1.mono ?_; rintro e w' ⟨rfl, rfl⟩)
                | (go_at_call 38; with_reducible refine g2.mono ?_; rintro e w' ⟨rfl, rfl⟩)
                | (go_at_call 38; with_reducible refine g3.mono ?_; rintro e w' ⟨rfl, rfl⟩))
              apply calm_region [.is _, .is _, .is _, .is _, .is _, .is _, .is _, .sl hh.length (bs hh), .is _, .is _, .is _, .is _, .is _] [[], [0], [1], [2], [3, 2], [2], [2], [4, 5, 6, 2, 2], [7, 2], [2], [9, 2], [8, 10, 2], [2, 11]] (by kernel_rfl) (by kernel_rfl) (by kernel_rfl) rfl
              intro f a1 ha1
              simp only [putL, Act.put, List.setIfInBounds_toArray, List.set_cons_succ, List.set_cons_zero] at ha1
              subst ha1
              refine ⟨?_, ?_⟩
              · refine AllCalm.cons (fun W hB hd => ?_) ?_
                · go_wp2_with (fail)
                  exact CalmQ.mk rfl _ rfl (Below.refl _ _) rfl
                refine AllCalm.cons (fun W hB hd => ?_) ?_
                · obtain ⟨h0, -⟩ := hd
                  have h0 : f 0 = _ := h0
                  rw [h0]
                  go_wp2_with (fail)
                  exact CalmQ.mk rfl _ rfl (Below.refl _ _) rfl
                refine AllCalm.cons (fun W hB hd => ?_) ?_
                · obtain ⟨h1, -⟩ := hd
                  have h1 : f 1 = _ := h1
                  rw [h1]
                  go_wp2_with (fail)
                  exact CalmQ.mk rfl _ rfl (Below.refl _ _) rfl
                refine AllCalm.cons (fun W hB hd => ?_) ?_
                · obtain ⟨h2, -⟩ := hd
                  have h2 : f 2 = _ := h2
                  rw [h2]
                  go_wp2_with (fail)
                  exact CalmQ.mk rfl _ rfl (Below.refl _ _) rfl
                refine AllCalm.cons (fun W hB hd => ?_) ?_
                · obtain ⟨h3, h2, -⟩ := hd
                  have h3 : f 3 = _ := h3
                  have h2 : f 2 = _ := h2
                  rw [h3, h2]
                  go_wp2_with (fail)
                  exact CalmQ.mk rfl _ rfl (Below.refl _ _) rfl
                refine AllCalm.cons (fun W hB hd => ?_) ?_
                · obtain ⟨h2, -⟩ := hd
                  have h2 : f 2 = _ := h2
                  rw [h2]
                  go_wp2_with (fail)
                  exact CalmQ.mk rfl _ rfl (Below.refl _ _) rfl
                refine AllCalm.cons (fun W hB hd => ?_) ?_
                · obtain ⟨h2, -⟩ := hd
                  have h2 : f 2 = _ := h2
                  rw [h2]
                  go_wp2_with (fail)
                  exact CalmQ.mk rfl _ rfl (Below.refl _ _) rfl
                refine AllCalm.cons (fun W hB hd => ?_) ?_
                · obtain ⟨h4, h5, h6, h2, -, -⟩ := hd
                  have h4 : f 4 = _ := h4
                  have h5 : f 5 = _ := h5
                  have h6 : f 6 = _ := h6
                  have h2 : f 2 = _ := h2
                  rw [h4, h5, h6, h2]
                  go_wp2_with ((go_at_call 26; with_reducible refine (cH W).mono ?_; rintro e w2 ⟨v2, rfl, hs2, hb2⟩))
                  exact CalmQ.mk rfl _ rfl hb2 hs2
                refine AllCalm.cons (fun W hB hd => ?_) ?_
                · obtain ⟨h7, h2, -⟩ := hd
                  have h7 : Sl W W.heap.size (f 7) _ _ := h7
                  have h2 : f 2 = _ := h2
                  rw [h2]
                  have kx := kr _ _ h7
                  go_wp2_with (fail)
                  exact CalmQ.mk rfl _ rfl (Below.refl _ _) rfl
                refine AllCalm.cons (fun W hB hd => ?_) ?_
                · obtain ⟨h2, -⟩ := hd
                  have h2 : f 2 = _ := h2
                  rw [h2]
                  go_wp2_with (fail)
                  exact CalmQ.mk rfl _ rfl (Below.refl _ _) rfl
                refine AllCalm.cons (fun W hB hd => ?_) ?_
                · obtain ⟨h9, h2, -⟩ := hd
                  have h9 : f 9 = _ := h9
                  have h2 : f 2 = _ := h2
                  rw [h9, h2]
                  have kx := kv W hB
                  go_wp2_with (fail)
                  exact CalmQ.mk rfl _ rfl (Below.refl _ _) rfl
                refine AllCalm.cons (fun W hB hd => ?_) ?_
                · obtain ⟨h8, h10, h2, -⟩ := hd
                  have h8 : f 8 = _ := h8
                  have h10 : f 10 = _ := h10
                  have h2 : f 2 = _ := h2
                  rw [h8, h10, h2]
                  go_wp2_with (fail)
                  exact CalmQ.mk rfl _ rfl (Below.refl _ _) rfl
                refine AllCalm.cons (fun W hB hd => ?_) ?_
                · obtain ⟨h2, h11, -⟩ := hd
                  have h2 : f 2 = _ := h2
                  have h11 : f 11 = _ := h11
                  rw [h2, h11]
                  go_wp2_with (fail)
                  exact CalmQ.mk rfl _ rfl (Below.refl _ _) rfl
                exact AllCalm.nil
              · intro W hB hT
                obtain ⟨h0, h1, h2, h3, h4, h5, h6, h7, h8, h9, h10, h11, h12, -⟩ := hT
                have h0 : f 0 = _ := h0
                have h1 : f 1 = _ := h1
                have h2 : f 2 = _ := h2
                have h3 : f 3 = _ := h3
                have h4 : f 4 = _ := h4
                have h5 : f 5 = _ := h5
                have h6 : f 6 = _ := h6
                have h7 : Sl W W.heap.size (f 7) _ _ := h7
                have h8 : f 8 = _ := h8
                have h9 : f 9 = _ := h9
                have h10 : f 10 = _ := h10
                have h11 : f 11 = _ := h11
                have h12 : f 12 = _ := h12
                rw [h0, h1, h2, h3, h4, h5, h6, h8, h9, h10, h11, h12]
                clear h0 h1 h2 h3 h4 h5 h6 h8 h9 h10 h11 h12
                go_wp2_with fail
                exact bodyPost_ret (v := .tuple #[.int .u32 (G : Nat), .int .u64 (K : Nat), .int .i64 (T : Nat), .int .i64 (0 : Nat)]) (by simp [results, Try.results20, go_sem]) rfl ⟨by rw [HP.out]; rfl, hB⟩
            · have HP := Lib.hid (f5 hhl)
              have hq : (hh == l) = false := by rw [beq_eq_false_iff_ne]; exact hhl
              clear f4 f5 hhl
              go_enter Try.func20, Try.ntmps20
              go_wp2_with (first
                | (go_at_call 38; with_reducible refine g1.mono ?_; rintro e w' ⟨rfl, rfl⟩)
                | (go_at_call 38; with_reducible refine g2.mono ?_; rintro e w' ⟨rfl, rfl⟩)
                | (go_at_call 38; with_reducible refine g3.mono ?_; rintro e w' ⟨rfl, rfl⟩))
              apply calm_region [.is _, .is _, .is _, .is _, .is _, .is _, .is _, .sl hh.length (bs hh), .is _, .is _, .is _, .is _, .is _] [[], [0], [1], [2], [3, 2], [2], [2], [4, 5, 6, 2, 2], [7, 2], [2], [9, 2], [8, 10, 2], [2, 11]] (by kernel_rfl) (by kernel_rfl) (by kernel_rfl) rfl
              intro f a1 ha1
              simp only [putL, Act.put, List.setIfInBounds_toArray, List.set_cons_succ, List.set_cons_zero] at ha1
              subst ha1
              refine ⟨?_, ?_⟩
              · refine AllCalm.cons (fun W hB hd => ?_) ?_
                · go_wp2_with (fail)
                  exact CalmQ.mk rfl _ rfl (Below.refl _ _) rfl
                refine AllCalm.cons (fun W hB hd => ?_) ?_
                · obtain ⟨h0, -⟩ := hd
                  have h0 : f 0 = _ := h0
                  rw [h0]
                  go_wp2_with (fail)
                  exact CalmQ.mk rfl _ rfl (Below.refl _ _) rfl
                refine AllCalm.cons (fun W hB hd => ?_) ?_
                · obtain ⟨h1, -⟩ := hd
                  have h1 : f 1 = _ := h1
                  rw [h1]
                  go_wp2_with (fail)
                  exact CalmQ.mk rfl _ rfl (Below.refl _ _) rfl
                refine AllCalm.cons (fun W hB hd => ?_) ?_
                · obtain ⟨h2, -⟩ := hd
                  have h2 : f 2 = _ := h2
                  rw [h2]
                  go_wp2_with (fail)
                  exact CalmQ.mk rfl _ rfl (Below.refl _ _) rfl
                refine AllCalm.cons (fun W hB hd => ?_) ?_
                · obtain ⟨h3, h2, -⟩ := hd
                  have h3 : f 3 = _ := h3
                  have h2 : f 2 = _ := h2
                  rw [h3, h2]
                  go_wp2_with (fail)
                  exact CalmQ.mk rfl _ rfl (Below.refl _ _) rfl
                refine AllCalm.cons (fun W hB hd => ?_) ?_
                · obtain ⟨h2, -⟩ := hd
                  have h2 : f 2 = _ := h2
                  rw [h2]
                  go_wp2_with (fail)
                  exact CalmQ.mk rfl _ rfl (Below.refl _ _) rfl
                refine AllCalm.cons (fun W hB hd => ?_) ?_
                · obtain ⟨h2, -⟩ := hd
                  have h2 : f 2 = _ := h2
                  rw [h2]
                  go_wp2_with (fail)
                  exact CalmQ.mk rfl _ rfl (Below.refl _ _) rfl
                refine AllCalm.cons (fun W hB hd => ?_) ?_
                · obtain ⟨h4, h5, h6, h2, -, -⟩ := hd
                  have h4 : f 4 = _ := h4
                  have h5 : f 5 = _ := h5
                  have h6 : f 6 = _ := h6
                  have h2 : f 2 = _ := h2
                  rw [h4, h5, h6, h2]
                  go_wp2_with ((go_at_call 26; with_reducible refine (cH W).mono ?_; rintro e w2 ⟨v2, rfl, hs2, hb2⟩))
                  exact CalmQ.mk rfl _ rfl hb2 hs2
                refine AllCalm.cons (fun W hB hd => ?_) ?_
                · obtain ⟨h7, h2, -⟩ := hd
                  have h7 : Sl W W.heap.size (f 7) _ _ := h7
                  have h2 : f 2 = _ := h2
                  rw [h2]
                  have kx := kr _ _ h7
                  go_wp2_with (fail)
                  exact CalmQ.mk rfl _ rfl (Below.refl _ _) rfl
                refine AllCalm.cons (fun W hB hd => ?_) ?_
                · obtain ⟨h2, -⟩ := hd
                  have h2 : f 2 = _ := h2
                  rw [h2]
                  go_wp2_with (fail)
                  exact CalmQ.mk rfl _ rfl (Below.refl _ _) rfl
                refine AllCalm.cons (fun W hB hd => ?_) ?_
                · obtain ⟨h9, h2, -⟩ := hd
                  have h9 : f 9 = _ := h9
                  have h2 : f 2 = _ := h2
                  rw [h9, h2]
                  have kx := kv W hB
                  go_wp2_with (fail)
                  exact CalmQ.mk rfl _ rfl (Below.refl _ _) rfl
                refine AllCalm.cons (fun W hB hd => ?_) ?_
                · obtain ⟨h8, h10, h2, -⟩ := hd
                  have h8 : f 8 = _ := h8
                  have h10 : f 10 = _ := h10
                  have h2 : f 2 = _ := h2
                  rw [h8, h10, h2]
                  go_wp2_with (fail)
                  exact CalmQ.mk rfl _ rfl (Below.refl _ _) rfl
                refine AllCalm.cons (fun W hB hd => ?_) ?_
                · obtain ⟨h2, h11, -⟩ := hd
                  have h2 : f 2 = _ := h2
                  have h11 : f 11 = _ := h11
                  rw [h2, h11]
                  go_wp2_with (fail)
                  exact CalmQ.mk rfl _ rfl (Below.refl _ _) rfl
                exact AllCalm.nil
              · intro W hB hT
                obtain ⟨h0, h1, h2, h3, h4, h5, h6, h7, h8, h9, h10, h11, h12, -⟩ := hT
                have h0 : f 0 = _ := h0
                have h1 : f 1 = _ := h1
                have h2 : f 2 = _ := h2
                have h3 : f 3 = _ := h3
                have h4 : f 4 = _ := h4
                have h5 : f 5 = _ := h5
                have h6 : f 6 = _ := h6
                have h7 : Sl W W.heap.size (f 7) _ _ := h7
                have h8 : f 8 = _ := h8
                have h9 : f 9 = _ := h9
                have h10 : f 10 = _ := h10
                have h11 : f 11 = _ := h11
                have h12 : f 12 = _ := h12
                rw [h0, h1, h2, h3, h4, h5, h6, h8, h9, h10, h11, h12]
                clear h0 h1 h2 h3 h4 h5 h6 h8 h9 h10 h11 h12
                go_wp2_with fail
                exact bodyPost_ret (v := .tuple #[.int .u32 (0 : Nat), .int .u64 (0 : Nat), .int .i64 (0 : Nat), .int .i64 (2 : Nat)]) (by simp [results, Try.results20, go_sem]) rfl ⟨by rw [HP.out]; rfl, hB⟩
        · have h24' : ¬ (l.length : Int) = 24 := by omega
          have HP := Lib.hid (f3 h0 (.inl h24))
          clear f1 f2 f3 f4 f5
          go_enter Try.func20, Try.ntmps20
          go_wp2_with (first
            | (go_at_call 38; with_reducible refine g1.mono ?_; rintro e w' ⟨rfl, rfl⟩)
            | (go_at_call 38; with_reducible refine g2.mono ?_; rintro e w' ⟨rfl, rfl⟩))
          exact bodyPost_ret (v := .tuple #[.int .u32 (0 : Nat), .int .u64 (0 : Nat), .int .i64 (0 : Nat), .int .i64 (2 : Nat)]) (by simp [results, Try.results20, go_sem]) rfl ⟨by rw [HP.out]; rfl, Below.refl _ _⟩
end Go.Proofs.Yteeeioafhdkagaa
