/- ListBack: for all keys and holders the statement's function tells true and turns nothing that was there. No condition. -/
import Derived.Test.YteeeioafhdkagaaPrB
import Derived.Test.YteeeioafhdkagaaTail
import Derived.Lib.QuietBelow
import Derived.Deep.DeepCutAuto
import Derived.Deep.QuietTactic
import Derived.BigQuiet
namespace Go.Proofs.Yteeeioafhdkagaa
open Go.ChangeShapes Go.WideShapes Go.ChangeAt Go.RowKit Go.Sort
set_option linter.unusedVariables false
namespace Back
theorem wpAny_as {P : Program} {md : Region.Mode} {ops : Array Oper} {Q : Exit → Act → World → Prop} {n : Nat} {L L' : Array Bool} {a : Act} {w : World} (h : L' = L) (x : wpAny P md ops Q n L a w) : wpAny P md ops Q n L' a w := h ▸ x
/-- Where the orders of a stage meet: what stands behind is walked once, whatever the world and the one value that differ. -/
theorem meets {P : Program} {md : Region.Mode} {ops : Array Oper} {Q : Exit → Act → World → Prop} (n : Nat) (L : Array Bool) (B : World → Prop) (A : Value → Act) {goal : Prop} (h1 : (∀ W v, B W → wpAny P md ops Q n L (A v) W) → goal) (h2 : ∀ W v, B W → wpAny P md ops Q n L (A v) W) : goal := h1 h2
set_option maxHeartbeats 4000000 in
set_option maxRecDepth 100000 in
theorem walk (K O G : Int) (v : Value) (lz : List Int) (T : Int) (w : World) (hk1 : 0 ≤ K) (hk2 : K ≤ 18446744073709551615) (ho1 : 0 ≤ O) (ho2 : O ≤ 18446744073709551615) (hg1 : 0 ≤ G) (hg2 : G ≤ 4294967295) (hv : Sl w w.heap.size v lz.length (lz.map (Value.int .u64))) (hwf : ∀ n ∈ lz, (Lit.int .u64 n).wf = true) (ht1 : -9223372036854775808 ≤ T) (ht2 : T ≤ 9223372036854775807) :
    Calls Try.prog 6 #[.int .u64 K, .int .u64 O, .int .u32 G, v, .int .i64 T] w fun e w' => e = .returned (.bool true) ∧ Below w.heap.size w w' := by
  obtain ⟨A, c, rfl, hc1, hc2⟩ := hv.form
  unfold maxLen at hc2
  by_cases hll : 30 < lz.length
  · have h30 : (30 : Int) < lz.length := by omega
    clear hv hwf
    go_enter Try.func6, Try.ntmps6
    go_wp2_with (go_at_call 14; with_reducible refine (known_any _).mono ?_; rintro e w1 ⟨rfl, hb1⟩)
    go_ret
    exact ⟨rfl, hb1⟩
  · obtain ⟨l, rfl⟩ : ∃ l : List Nat, lz = l.map fun (n : Nat) => (n : Int) := by
      refine ⟨lz.map Int.toNat, ?_⟩
      rw [List.map_map]
      conv => lhs; rw [← List.map_id lz]
      refine List.map_congr_left fun n hn => ?_
      have := bounds_u64 (hwf n hn)
      simp only [Function.comp, id]
      omega
    have hl64 : ∀ n ∈ l, n < 18446744073709551616 := by
      intro n hn
      have := bounds_u64 (hwf (n : Int) (List.mem_map.2 ⟨n, hn, rfl⟩))
      omega
    have hul : (l.map fun (n : Nat) => (n : Int)).map (Value.int .u64) = u64s l := by simp [u64s]
    rw [hul] at hv
    rw [List.length_map] at hv hll hc1 ⊢
    clear hul hwf
    obtain ⟨g, rfl⟩ : ∃ g : Nat, G = g := ⟨G.toNat, by omega⟩
    obtain ⟨k, rfl⟩ : ∃ k : Nat, K = k := ⟨K.toNat, by omega⟩
    obtain ⟨o, rfl⟩ : ∃ o : Nat, O = o := ⟨O.toNat, by omega⟩
    have h30 : ¬ (30 : Int) < l.length := by omega
    have hL16 : (l.take 16).length ≤ 16 := by rw [List.length_take]; omega
    have hL64 : ∀ n ∈ l.take 16, n < 18446744073709551616 := fun n hn => hl64 n (List.mem_of_mem_take hn)
    have ht16 : (T % 16).toNat ≤ 15 := by omega
    have hand := and_f T
    have cE : ∀ W, Calls Try.prog 21 #[.int .u64 k, .int .u64 o] W fun e w' => ∃ v', e = .returned v' ∧ Sl w' w'.heap.size v' (prEnc k o).length (bs (prEnc k o)) ∧ Below W.heap.size W w' := fun W => Encode_any k o W (by omega) (by omega)
    have cK : ∀ W, Sl W W.heap.size (.slice A l.length c) l.length (u64s l) → Calls Try.prog 22 #[.int .u32 g, .slice A l.length c] W fun e w' => ∃ v', e = .returned v' ∧ Sl w' w'.heap.size v' (keysS g (l.take 16)).length (bs (keysS g (l.take 16))) ∧ Below W.heap.size W w' := fun W h => Keys_any g _ l W (by omega) h hl64
    have cH : ∀ W, Calls Try.prog 23 #[.int .u32 g, .int .u64 k, .int .i64 T] W fun e w' => ∃ v', e = .returned v' ∧ Sl w' w'.heap.size v' (holderS g k (T % 16).toNat).length (bs (holderS g k (T % 16).toNat)) ∧ Below W.heap.size W w' := fun W => Holder_any g k T W (by omega) (by omega)
    have rE : ∀ W, Calls Try.prog 24 #[.int .u64 k, .int .u64 o] W fun e w' => ∃ v', e = .returned v' ∧ Sl w' w'.heap.size v' (prEnc k o).length (bs (prEnc k o)) ∧ Below W.heap.size W w' := fun W => rEncode_any k o W (by omega) (by omega)
    have rK : ∀ W, Sl W W.heap.size (.slice A l.length c) l.length (u64s l) → Calls Try.prog 25 #[.int .u32 g, .slice A l.length c] W fun e w' => ∃ v', e = .returned v' ∧ Sl w' w'.heap.size v' (keysS g (l.take 16)).length (bs (keysS g (l.take 16))) ∧ Below W.heap.size W w' := fun W h => rKeys_any g _ l W (by omega) h hl64
    have rH : ∀ W, Calls Try.prog 26 #[.int .u32 g, .int .u64 k, .int .i64 T] W fun e w' => ∃ v', e = .returned v' ∧ Sl w' w'.heap.size v' (holderS g k (T % 16).toNat).length (bs (holderS g k (T % 16).toNat)) ∧ Below W.heap.size W w' := fun W => rHolder_any g k T W (by omega) (by omega)
    have pD : ∀ W v, Sl W W.heap.size v (prEnc k o).length (bs (prEnc k o)) → Calls Try.prog 15 #[v] W fun e w' => e = .returned (.tuple #[.int .u64 k, .int .u64 o, .agg #[.int .i64 0, .int .i64 0, .int .i64 0, .slice none 0 0, .int .i64 0], .bool true]) ∧ Below W.heap.size W w' := by
      intro W v hs
      have h := Decode_any v (prEnc k o) W hs (by rw [prEnc_len]; omega)
      rw [prDec_enc (by omega) (by omega)] at h
      exact h
    have pK : ∀ W v, Sl W W.heap.size v (keysS g (l.take 16)).length (bs (keysS g (l.take 16))) → Calls Try.prog 17 #[v] W fun e w' => ∃ A c, e = .returned (.tuple #[.int .u32 g, .slice A (l.take 16).length c, .int .i64 0]) ∧ Sl w' w'.heap.size (.slice A (l.take 16).length c) (l.take 16).length (u64s (l.take 16)) ∧ Below W.heap.size W w' := by
      intro W v hs
      have h := ParseKeys_ok v _ W hs (by rw [keysS_len]; omega) (keysS_pk g _ hL16)
      rw [keysS_gen g _ (by omega), keysS_cut g _ hL64] at h
      exact h
    have pH : ∀ W v, Sl W W.heap.size v (holderS g k (T % 16).toNat).length (bs (holderS g k (T % 16).toNat)) → Calls Try.prog 19 #[v] W fun e w' => e = .returned (.tuple #[.int .u32 g, .int .u64 ((if (T % 16).toNat = 0 then 0 else k : Nat) : Int), .int .i64 ((T % 16).toNat : Nat), .int .i64 0]) ∧ Below W.heap.size W w' := by
      intro W v hs
      have h := ParseHolder_any v _ W hs (by rw [holderS_len]; split <;> omega)
      rw [holder_told g k _ (by omega) (by omega) ht16] at h
      exact h
    have hlen : (l.length ≤ 16 ∧ (l.take 16).length = l.length) ∨ (16 < l.length ∧ (l.take 16).length = 16) := by rw [List.length_take]; omega
    have hat : ∀ i, i < (l.take 16).length → (u64s (l.take 16))[i]? = (u64s l)[i]? := by
      intro i hi
      have h2 : i < 16 := by omega
      simp [u64s, h2]
    generalize hLL : l.take 16 = L at *
    generalize prEnc k o = bE at *
    generalize keysS g L = bK at *
    generalize holderS g k (T % 16).toNat = bH at *
    generalize (T % 16).toNat = t at *
    clear hk1 hk2 ho1 ho2 hg1 hg2 hll hl64 hL64
    have HLEN := Lib.hid hlen
    have HAT := Lib.hid hat
    clear hlen hat
    go_enter Try.func6, Try.ntmps6
    go_wp2_with (first
      | (go_at_call 14; with_reducible refine (known_any _).mono ?_; rintro e w1 ⟨rfl, hb1⟩; have hv1 := hv.now hb1)
      | (go_at_call 21; with_reducible refine (cE _).mono ?_; rintro e w2 ⟨va, rfl, hsa, hb2⟩; have hv2 := hv1.now hb2)
      | (go_at_call 22; with_reducible refine (cK _ hv2).mono ?_; rintro e w3 ⟨vb, rfl, hsb, hb3⟩; have hv3 := hv2.now hb3; have hsa3 := hsa.now hb3)
      | (go_at_call 23; with_reducible refine (cH _).mono ?_; rintro e w4 ⟨vc, rfl, hsc, hb4⟩; have hv4 := hv3.now hb4; have hsa4 := hsa3.now hb4; have hsb4 := hsb.now hb4; have hb14 := bchain (bchain (bchain hb1 hb2) hb3) hb4))
    clear hsa hsb hsa3 hv1 hv2 hv3 hb1 hb2 hb3 hb4 cE cK cH
    have kA : ∀ W, Below w4.heap.size w4 W → (convert 24 9 va).run Try.prog W = .ok (.string ⟨bE.toArray⟩) W := fun W hW => bytes_str _ _ _ _ Try.underlying24 Try.underlying5 Try.underlying9 _ _ bE _ (hsa4.now hW)
    have kB : ∀ W, Below w4.heap.size w4 W → (convert 24 9 vb).run Try.prog W = .ok (.string ⟨bK.toArray⟩) W := fun W hW => bytes_str _ _ _ _ Try.underlying24 Try.underlying5 Try.underlying9 _ _ bK _ (hsb4.now hW)
    have kC : ∀ W, Below w4.heap.size w4 W → (convert 24 9 vc).run Try.prog W = .ok (.string ⟨bH.toArray⟩) W := fun W hW => bytes_str _ _ _ _ Try.underlying24 Try.underlying5 Try.underlying9 _ _ bH _ (hsc.now hW)
    have kR : ∀ (B : List UInt8) W v, Sl W W.heap.size v B.length (bs B) → (convert 24 9 v).run Try.prog W = .ok (.string ⟨B.toArray⟩) W := fun B W v h => bytes_str _ _ _ _ Try.underlying24 Try.underlying5 Try.underlying9 _ _ B _ h
    go_cut [66] (fun t wx => t = .bool false ∧ Below w4.heap.size w4 wx)
    case first =>
      refine wp_region_any (by kernel_rfl) ?_
      have hB : Below w4.heap.size w4 { w4 with drawn := w4.drawn + 1 } := (Below.refl _ _).drew
      generalize ({ w4 with drawn := w4.drawn + 1 } : World) = w5 at hB ⊢
      have kx := kA _ hB
      refine wpAny_take (i := 0) (v := ?_) rfl (by kernel_rfl) (by kernel_rfl) (by kernel_rfl) (fun _ _ _ h => h) (Or.inl ⟨by rfl, ?_⟩) ?_
      rotate_left
      · intro w
        go_simp
        all_goals with_reducible rfl
      refine wpAny_take (i := 2) (v := ?_) rfl (by kernel_rfl) (by kernel_rfl) (by kernel_rfl) (fun _ _ _ h => h) (Or.inl ⟨by rfl, ?_⟩) ?_
      rotate_left
      · intro w
        go_simp
        all_goals with_reducible rfl
      refine wpAny_take (i := 3) (v := ?_) rfl (by kernel_rfl) (by kernel_rfl) (by kernel_rfl) (fun _ _ _ h => h) (Or.inl ⟨by rfl, ?_⟩) ?_
      rotate_left
      · intro w
        go_simp
        all_goals with_reducible rfl
      apply meets 18 (Array.replicate 8 true ++ Array.replicate 18 false) (fun W => Below w4.heap.size w4 W)
      case h1 =>
        intro H
        refine wpAny_ready (rs := [1, 4]) (by kernel_rfl) (by simp) ?_
        refine AllReady.cons rfl (fun K hK => ?_) ?_
        · go_simp
          refine hK _ _ ?_
          clear hK K
          refine wpAny_ready (rs := [4]) (by kernel_rfl) (by simp) ?_
          refine AllReady.cons rfl (fun K hK => ?_) ?_
          · go_simp
            go_at_call 24
            (with_reducible refine (rE _).mono ?_)
            rintro e w10 ⟨v10, rfl, hs10, hb10⟩
            have hB := hB.trans (hb10.mono hB.size)
            have kr := kR _ _ _ hs10
            have kx := kA _ hB
            refine hK _ _ ?_
            clear hK K
            refine wpAny_ready (rs := [5]) (by kernel_rfl) (by simp) ?_
            refine AllReady.cons rfl (fun K hK => ?_) ?_
            · go_simp
              refine hK _ _ ?_
              clear hK K
              refine wpAny_take (i := 6) (v := ?_) rfl (by kernel_rfl) (by kernel_rfl) (by kernel_rfl) (fun _ _ _ h => h) (Or.inl ⟨by rfl, ?_⟩) ?_
              rotate_left
              · intro w
                go_simp
                all_goals with_reducible rfl
              refine wpAny_take (i := 7) (v := ?_) rfl (by kernel_rfl) (by kernel_rfl) (by kernel_rfl) (fun _ _ _ h => h) (Or.inl ⟨by rfl, ?_⟩) ?_
              rotate_left
              · intro w
                go_simp
                all_goals with_reducible rfl
              exact wpAny_as (by kernel_rfl) (H _ v10 hB)
            exact AllReady.nil
          exact AllReady.nil
        refine AllReady.cons rfl (fun K hK => ?_) ?_
        · go_simp
          go_at_call 24
          (with_reducible refine (rE _).mono ?_)
          rintro e w10 ⟨v10, rfl, hs10, hb10⟩
          have hB := hB.trans (hb10.mono hB.size)
          have kr := kR _ _ _ hs10
          have kx := kA _ hB
          refine hK _ _ ?_
          clear hK K
          refine wpAny_ready (rs := [1, 5]) (by kernel_rfl) (by simp) ?_
          refine AllReady.cons rfl (fun K hK => ?_) ?_
          · go_simp
            refine hK _ _ ?_
            clear hK K
            refine wpAny_ready (rs := [5]) (by kernel_rfl) (by simp) ?_
            refine AllReady.cons rfl (fun K hK => ?_) ?_
            · go_simp
              refine hK _ _ ?_
              clear hK K
              refine wpAny_take (i := 6) (v := ?_) rfl (by kernel_rfl) (by kernel_rfl) (by kernel_rfl) (fun _ _ _ h => h) (Or.inl ⟨by rfl, ?_⟩) ?_
              rotate_left
              · intro w
                go_simp
                all_goals with_reducible rfl
              refine wpAny_take (i := 7) (v := ?_) rfl (by kernel_rfl) (by kernel_rfl) (by kernel_rfl) (fun _ _ _ h => h) (Or.inl ⟨by rfl, ?_⟩) ?_
              rotate_left
              · intro w
                go_simp
                all_goals with_reducible rfl
              exact wpAny_as (by kernel_rfl) (H _ v10 hB)
            exact AllReady.nil
          refine AllReady.cons rfl (fun K hK => ?_) ?_
          · go_simp
            refine hK _ _ ?_
            clear hK K
            refine wpAny_ready (rs := [1]) (by kernel_rfl) (by simp) ?_
            refine AllReady.cons rfl (fun K hK => ?_) ?_
            · go_simp
              refine hK _ _ ?_
              clear hK K
              refine wpAny_take (i := 6) (v := ?_) rfl (by kernel_rfl) (by kernel_rfl) (by kernel_rfl) (fun _ _ _ h => h) (Or.inl ⟨by rfl, ?_⟩) ?_
              rotate_left
              · intro w
                go_simp
                all_goals with_reducible rfl
              refine wpAny_take (i := 7) (v := ?_) rfl (by kernel_rfl) (by kernel_rfl) (by kernel_rfl) (fun _ _ _ h => h) (Or.inl ⟨by rfl, ?_⟩) ?_
              rotate_left
              · intro w
                go_simp
                all_goals with_reducible rfl
              exact wpAny_as (by kernel_rfl) (H _ v10 hB)
            exact AllReady.nil
          exact AllReady.nil
        exact AllReady.nil
      case h2 =>
        clear kx
        intro W0 x0 hB
        have kx := kB _ hB
        refine wpAny_take (i := 8) (v := ?_) rfl (by kernel_rfl) (by kernel_rfl) (by kernel_rfl) (fun _ _ _ h => h) (Or.inl ⟨by rfl, ?_⟩) ?_
        rotate_left
        · intro w
          go_simp
          all_goals with_reducible rfl
        refine wpAny_take (i := 10) (v := ?_) rfl (by kernel_rfl) (by kernel_rfl) (by kernel_rfl) (fun _ _ _ h => h) (Or.inl ⟨by rfl, ?_⟩) ?_
        rotate_left
        · intro w
          go_simp
          all_goals with_reducible rfl
        refine wpAny_take (i := 11) (v := ?_) rfl (by kernel_rfl) (by kernel_rfl) (by kernel_rfl) (fun _ _ _ h => h) (Or.inl ⟨by rfl, ?_⟩) ?_
        rotate_left
        · intro w
          go_simp
          all_goals with_reducible rfl
        apply meets 9 (Array.replicate 17 true ++ Array.replicate 9 false) (fun W => Below w4.heap.size w4 W)
        case h1 =>
          intro H
          refine wpAny_ready (rs := [9, 12]) (by kernel_rfl) (by simp) ?_
          refine AllReady.cons rfl (fun K hK => ?_) ?_
          · go_simp
            refine hK _ _ ?_
            clear hK K
            refine wpAny_ready (rs := [12]) (by kernel_rfl) (by simp) ?_
            refine AllReady.cons rfl (fun K hK => ?_) ?_
            · go_simp
              go_at_call 25
              (with_reducible refine (rK _ (hv4.now hB)).mono ?_)
              rintro e w11 ⟨v11, rfl, hs11, hb11⟩
              have hB := hB.trans (hb11.mono hB.size)
              have kr := kR _ _ _ hs11
              have kx := kB _ hB
              refine hK _ _ ?_
              clear hK K
              refine wpAny_ready (rs := [13]) (by kernel_rfl) (by simp) ?_
              refine AllReady.cons rfl (fun K hK => ?_) ?_
              · go_simp
                refine hK _ _ ?_
                clear hK K
                refine wpAny_take (i := 14) (v := ?_) rfl (by kernel_rfl) (by kernel_rfl) (by kernel_rfl) (fun _ _ _ h => h) (Or.inl ⟨by rfl, ?_⟩) ?_
                rotate_left
                · intro w
                  go_simp
                  all_goals with_reducible rfl
                refine wpAny_take (i := 15) (v := ?_) rfl (by kernel_rfl) (by kernel_rfl) (by kernel_rfl) (fun _ _ _ h => h) (Or.inl ⟨by rfl, ?_⟩) ?_
                rotate_left
                · intro w
                  go_simp
                  all_goals with_reducible rfl
                refine wpAny_take (i := 16) (v := ?_) rfl (by kernel_rfl) (by kernel_rfl) (by kernel_rfl) (fun _ _ _ h => h) (Or.inl ⟨by rfl, ?_⟩) ?_
                rotate_left
                · intro w
                  go_simp
                  all_goals with_reducible rfl
                exact wpAny_as (by kernel_rfl) (H _ v11 hB)
              exact AllReady.nil
            exact AllReady.nil
          refine AllReady.cons rfl (fun K hK => ?_) ?_
          · go_simp
            go_at_call 25
            (with_reducible refine (rK _ (hv4.now hB)).mono ?_)
            rintro e w11 ⟨v11, rfl, hs11, hb11⟩
            have hB := hB.trans (hb11.mono hB.size)
            have kr := kR _ _ _ hs11
            have kx := kB _ hB
            refine hK _ _ ?_
            clear hK K
            refine wpAny_ready (rs := [9, 13]) (by kernel_rfl) (by simp) ?_
            refine AllReady.cons rfl (fun K hK => ?_) ?_
            · go_simp
              refine hK _ _ ?_
              clear hK K
              refine wpAny_ready (rs := [13]) (by kernel_rfl) (by simp) ?_
              refine AllReady.cons rfl (fun K hK => ?_) ?_
              · go_simp
                refine hK _ _ ?_
                clear hK K
                refine wpAny_take (i := 14) (v := ?_) rfl (by kernel_rfl) (by kernel_rfl) (by kernel_rfl) (fun _ _ _ h => h) (Or.inl ⟨by rfl, ?_⟩) ?_
                rotate_left
                · intro w
                  go_simp
                  all_goals with_reducible rfl
                refine wpAny_take (i := 15) (v := ?_) rfl (by kernel_rfl) (by kernel_rfl) (by kernel_rfl) (fun _ _ _ h => h) (Or.inl ⟨by rfl, ?_⟩) ?_
                rotate_left
                · intro w
                  go_simp
                  all_goals with_reducible rfl
                refine wpAny_take (i := 16) (v := ?_) rfl (by kernel_rfl) (by kernel_rfl) (by kernel_rfl) (fun _ _ _ h => h) (Or.inl ⟨by rfl, ?_⟩) ?_
                rotate_left
                · intro w
                  go_simp
                  all_goals with_reducible rfl
                exact wpAny_as (by kernel_rfl) (H _ v11 hB)
              exact AllReady.nil
            refine AllReady.cons rfl (fun K hK => ?_) ?_
            · go_simp
              refine hK _ _ ?_
              clear hK K
              refine wpAny_ready (rs := [9]) (by kernel_rfl) (by simp) ?_
              refine AllReady.cons rfl (fun K hK => ?_) ?_
              · go_simp
                refine hK _ _ ?_
                clear hK K
                refine wpAny_take (i := 14) (v := ?_) rfl (by kernel_rfl) (by kernel_rfl) (by kernel_rfl) (fun _ _ _ h => h) (Or.inl ⟨by rfl, ?_⟩) ?_
                rotate_left
                · intro w
                  go_simp
                  all_goals with_reducible rfl
                refine wpAny_take (i := 15) (v := ?_) rfl (by kernel_rfl) (by kernel_rfl) (by kernel_rfl) (fun _ _ _ h => h) (Or.inl ⟨by rfl, ?_⟩) ?_
                rotate_left
                · intro w
                  go_simp
                  all_goals with_reducible rfl
                refine wpAny_take (i := 16) (v := ?_) rfl (by kernel_rfl) (by kernel_rfl) (by kernel_rfl) (fun _ _ _ h => h) (Or.inl ⟨by rfl, ?_⟩) ?_
                rotate_left
                · intro w
                  go_simp
                  all_goals with_reducible rfl
                exact wpAny_as (by kernel_rfl) (H _ v11 hB)
              exact AllReady.nil
            exact AllReady.nil
          exact AllReady.nil
        case h2 =>
          clear kx
          intro W1 x1 hB
          have kx := kC _ hB
          refine wpAny_take (i := 17) (v := ?_) rfl (by kernel_rfl) (by kernel_rfl) (by kernel_rfl) (fun _ _ _ h => h) (Or.inl ⟨by rfl, ?_⟩) ?_
          rotate_left
          · intro w
            go_simp
            all_goals with_reducible rfl
          refine wpAny_take (i := 19) (v := ?_) rfl (by kernel_rfl) (by kernel_rfl) (by kernel_rfl) (fun _ _ _ h => h) (Or.inl ⟨by rfl, ?_⟩) ?_
          rotate_left
          · intro w
            go_simp
            all_goals with_reducible rfl
          refine wpAny_take (i := 20) (v := ?_) rfl (by kernel_rfl) (by kernel_rfl) (by kernel_rfl) (fun _ _ _ h => h) (Or.inl ⟨by rfl, ?_⟩) ?_
          rotate_left
          · intro w
            go_simp
            all_goals with_reducible rfl
          refine wpAny_take (i := 21) (v := ?_) rfl (by kernel_rfl) (by kernel_rfl) (by kernel_rfl) (fun _ _ _ h => h) (Or.inl ⟨by rfl, ?_⟩) ?_
          rotate_left
          · intro w
            go_simp
            all_goals with_reducible rfl
          refine wpAny_ready (rs := [18, 22]) (by kernel_rfl) (by simp) ?_
          refine AllReady.cons rfl (fun K hK => ?_) ?_
          · go_simp
            refine hK _ _ ?_
            clear hK K
            refine wpAny_ready (rs := [22]) (by kernel_rfl) (by simp) ?_
            refine AllReady.cons rfl (fun K hK => ?_) ?_
            · go_simp
              go_at_call 26
              (with_reducible refine (rH _).mono ?_)
              rintro e w12 ⟨v12, rfl, hs12, hb12⟩
              have hB := hB.trans (hb12.mono hB.size)
              have kr := kR _ _ _ hs12
              have kx := kC _ hB
              refine hK _ _ ?_
              clear hK K
              refine wpAny_ready (rs := [23]) (by kernel_rfl) (by simp) ?_
              refine AllReady.cons rfl (fun K hK => ?_) ?_
              · go_simp
                refine hK _ _ ?_
                clear hK K
                refine wpAny_take (i := 24) (v := ?_) rfl (by kernel_rfl) (by kernel_rfl) (by kernel_rfl) (fun _ _ _ h => h) (Or.inl ⟨by rfl, ?_⟩) ?_
                rotate_left
                · intro w
                  go_simp
                  all_goals with_reducible rfl
                refine wpAny_take (i := 25) (v := ?_) rfl (by kernel_rfl) (by kernel_rfl) (by kernel_rfl) (fun _ _ _ h => h) (Or.inl ⟨by rfl, ?_⟩) ?_
                rotate_left
                · intro w
                  go_simp
                  all_goals with_reducible rfl
                refine wpAny_done (by kernel_rfl) ?_ _
                go_wp2_with fail
                go_meet
                exact ⟨rfl, hB⟩
              exact AllReady.nil
            exact AllReady.nil
          refine AllReady.cons rfl (fun K hK => ?_) ?_
          · go_simp
            go_at_call 26
            (with_reducible refine (rH _).mono ?_)
            rintro e w12 ⟨v12, rfl, hs12, hb12⟩
            have hB := hB.trans (hb12.mono hB.size)
            have kr := kR _ _ _ hs12
            have kx := kC _ hB
            refine hK _ _ ?_
            clear hK K
            refine wpAny_ready (rs := [18, 23]) (by kernel_rfl) (by simp) ?_
            refine AllReady.cons rfl (fun K hK => ?_) ?_
            · go_simp
              refine hK _ _ ?_
              clear hK K
              refine wpAny_ready (rs := [23]) (by kernel_rfl) (by simp) ?_
              refine AllReady.cons rfl (fun K hK => ?_) ?_
              · go_simp
                refine hK _ _ ?_
                clear hK K
                refine wpAny_take (i := 24) (v := ?_) rfl (by kernel_rfl) (by kernel_rfl) (by kernel_rfl) (fun _ _ _ h => h) (Or.inl ⟨by rfl, ?_⟩) ?_
                rotate_left
                · intro w
                  go_simp
                  all_goals with_reducible rfl
                refine wpAny_take (i := 25) (v := ?_) rfl (by kernel_rfl) (by kernel_rfl) (by kernel_rfl) (fun _ _ _ h => h) (Or.inl ⟨by rfl, ?_⟩) ?_
                rotate_left
                · intro w
                  go_simp
                  all_goals with_reducible rfl
                refine wpAny_done (by kernel_rfl) ?_ _
                go_wp2_with fail
                go_meet
                exact ⟨rfl, hB⟩
              exact AllReady.nil
            refine AllReady.cons rfl (fun K hK => ?_) ?_
            · go_simp
              refine hK _ _ ?_
              clear hK K
              refine wpAny_ready (rs := [18]) (by kernel_rfl) (by simp) ?_
              refine AllReady.cons rfl (fun K hK => ?_) ?_
              · go_simp
                refine hK _ _ ?_
                clear hK K
                refine wpAny_take (i := 24) (v := ?_) rfl (by kernel_rfl) (by kernel_rfl) (by kernel_rfl) (fun _ _ _ h => h) (Or.inl ⟨by rfl, ?_⟩) ?_
                rotate_left
                · intro w
                  go_simp
                  all_goals with_reducible rfl
                refine wpAny_take (i := 25) (v := ?_) rfl (by kernel_rfl) (by kernel_rfl) (by kernel_rfl) (fun _ _ _ h => h) (Or.inl ⟨by rfl, ?_⟩) ?_
                rotate_left
                · intro w
                  go_simp
                  all_goals with_reducible rfl
                refine wpAny_done (by kernel_rfl) ?_ _
                go_wp2_with fail
                go_meet
                exact ⟨rfl, hB⟩
              exact AllReady.nil
            exact AllReady.nil
          exact AllReady.nil
    case rest =>
      obtain ⟨rfl, hbw⟩ := hcut
      clear kA kB kC kR rE rK rH
      have hv5 := hv4.now hbw
      have hsa5 := hsa4.now hbw
      have hsb5 := hsb4.now hbw
      have hsc5 := hsc.now hbw
      have hb15 := bchain hb14 hbw
      clear hsa4 hsb4 hsc hv4 hb14 hbw
      rcases HLEN.out with ⟨hq1, hq2⟩ | ⟨hq1, hq2⟩
      · have hq : (L.length : Int) = l.length := by omega
        have hLl : L.length ≤ l.length := by omega
        have hq3 : (l.length : Int) ≤ 16 := by omega
        clear hq1 hq2
        go_wp2_with (first
          | (go_at_call 15; with_reducible refine (pD _ _ hsa5).mono ?_; rintro e w6 ⟨rfl, hb6⟩
             have hA6 := (Below.refl w6.heap.size w6).alloc (Nat.le_refl _) (.cells #[.int .i64 0, .int .i64 0, .int .i64 0, .slice none 0 0, .int .i64 0] 35)
             have hb7 := bchain hb6 hA6
             have hsb7 := hsb5.now hb7
             have hsc7 := hsc5.now hb7
             have hv7 := hv5.now hb7)
          | (go_at_call 17; with_reducible refine (pK _ _ hsb7).mono ?_; rintro e w8 ⟨Am, cm, rfl, hsm, hb8⟩; have hsc8 := hsc7.now hb8; have hv8 := hv7.now hb8; have hb18 := bchain (bchain hb15 hb7) hb8))
        go_loopw [21] (fun i wr => ∃ j : Nat, j ≤ L.length ∧ i = .int .i64 j ∧ Below w8.heap.size w8 wr) (fun i _ => L.length - (intOf i).toNat)
        case atStart => exact ⟨0, Nat.zero_le _, rfl, Below.refl _ _⟩
        case round =>
          obtain ⟨j, hj, rfl, hbr⟩ := hrel
          by_cases hlt : j < L.length
          · obtain ⟨bm, om, rfl, hbm, hcm⟩ := hsm.at_ (by omega)
            obtain ⟨bl, ol, rfl, hbl, hcl⟩ := hv8.at_ (by omega)
            have x1 : wr.cell? ⟨bm, om + j, none⟩ = some (.int .u64 ((L[j] : Nat) : Int)) := (hbr.cell (p := ⟨bm, om + j, none⟩) hbm).trans (hcm _ _ (u64s_get hlt))
            have x2 : wr.cell? ⟨bl, ol + j, none⟩ = some (.int .u64 ((L[j] : Nat) : Int)) := (hbr.cell (p := ⟨bl, ol + j, none⟩) hbl).trans (hcl _ _ ((HAT.out j hlt).symm.trans (u64s_get hlt)))
            have hltZ : (j : Int) < L.length := by omega
            have hltY : (j : Int) < l.length := by omega
            clear hcm hcl
            go_wp2_with fail
            go_quiet (fail)
            go_wp2_with fail
            refine ⟨⟨j + 1, by omega, by go_num, below_drewN hbr _⟩, by simp [intOf]; omega⟩
          · obtain rfl : j = L.length := by omega
            have hsc9 := hsc8.now hbr
            have hend := bchain hb18 hbr
            by_cases ht0 : t = 0
            · subst ht0
              go_wp2_with (go_at_call 19; with_reducible refine (pH _ _ hsc9).mono ?_; rintro e w9 ⟨rfl, hb9⟩)
              go_ret
              exact ⟨rfl, bchain hend hb9⟩
            · have htz : ((t : Int) == 0) = false := by rw [beq_eq_false_iff_ne]; omega
              rw [if_neg ht0] at pH
              go_wp2_with (go_at_call 19; with_reducible refine (pH _ _ hsc9).mono ?_; rintro e w9 ⟨rfl, hb9⟩)
              go_ret
              exact ⟨rfl, bchain hend hb9⟩
      · have hq : (L.length : Int) = 16 := by omega
        have hLl : L.length ≤ l.length := by omega
        have hq3 : (16 : Int) < l.length := by omega
        clear hq1 hq2
        go_wp2_with (first
          | (go_at_call 15; with_reducible refine (pD _ _ hsa5).mono ?_; rintro e w6 ⟨rfl, hb6⟩
             have hA6 := (Below.refl w6.heap.size w6).alloc (Nat.le_refl _) (.cells #[.int .i64 0, .int .i64 0, .int .i64 0, .slice none 0 0, .int .i64 0] 35)
             have hb7 := bchain hb6 hA6
             have hsb7 := hsb5.now hb7
             have hsc7 := hsc5.now hb7
             have hv7 := hv5.now hb7)
          | (go_at_call 17; with_reducible refine (pK _ _ hsb7).mono ?_; rintro e w8 ⟨Am, cm, rfl, hsm, hb8⟩; have hsc8 := hsc7.now hb8; have hv8 := hv7.now hb8; have hb18 := bchain (bchain hb15 hb7) hb8))
        go_loopw [21] (fun i wr => ∃ j : Nat, j ≤ L.length ∧ i = .int .i64 j ∧ Below w8.heap.size w8 wr) (fun i _ => L.length - (intOf i).toNat)
        case atStart => exact ⟨0, Nat.zero_le _, rfl, Below.refl _ _⟩
        case round =>
          obtain ⟨j, hj, rfl, hbr⟩ := hrel
          by_cases hlt : j < L.length
          · obtain ⟨bm, om, rfl, hbm, hcm⟩ := hsm.at_ (by omega)
            obtain ⟨bl, ol, rfl, hbl, hcl⟩ := hv8.at_ (by omega)
            have x1 : wr.cell? ⟨bm, om + j, none⟩ = some (.int .u64 ((L[j] : Nat) : Int)) := (hbr.cell (p := ⟨bm, om + j, none⟩) hbm).trans (hcm _ _ (u64s_get hlt))
            have x2 : wr.cell? ⟨bl, ol + j, none⟩ = some (.int .u64 ((L[j] : Nat) : Int)) := (hbr.cell (p := ⟨bl, ol + j, none⟩) hbl).trans (hcl _ _ ((HAT.out j hlt).symm.trans (u64s_get hlt)))
            have hltZ : (j : Int) < L.length := by omega
            have hltY : (j : Int) < l.length := by omega
            clear hcm hcl
            go_wp2_with fail
            go_quiet (fail)
            go_wp2_with fail
            refine ⟨⟨j + 1, by omega, by go_num, below_drewN hbr _⟩, by simp [intOf]; omega⟩
          · obtain rfl : j = L.length := by omega
            have hsc9 := hsc8.now hbr
            have hend := bchain hb18 hbr
            by_cases ht0 : t = 0
            · subst ht0
              go_wp2_with (go_at_call 19; with_reducible refine (pH _ _ hsc9).mono ?_; rintro e w9 ⟨rfl, hb9⟩)
              go_ret
              exact ⟨rfl, bchain hend hb9⟩
            · have htz : ((t : Int) == 0) = false := by rw [beq_eq_false_iff_ne]; omega
              rw [if_neg ht0] at pH
              go_wp2_with (go_at_call 19; with_reducible refine (pH _ _ hsc9).mono ?_; rintro e w9 ⟨rfl, hb9⟩)
              go_ret
              exact ⟨rfl, bchain hend hb9⟩
set_option maxRecDepth 100000 in
theorem lifted (os : Os) (started : os.Started) (H : Type) (enc : TypeId × Value → H) :
    ReturnsInHanded {} Try.checked os 6 .any (Rows.listBackSpec.pre6 enc Try.prog Try.f6 Rows.listBackRow.domain false) (Rows.listBackSpec.post enc Try.prog Try.f6 false true false false) := by
  refine returnsInHanded_of_change (C := Try.checked) own started (by kernel_rfl) Try.func6
    (ChangeSpec.witness6 (enc := enc) (C := Try.checked) false ⟨#[], #[.int .u64 0, .int .u64 0, .int .u32 0, .slice none 0 0, .int .i64 0], []⟩ 8 (by kernel_rfl) (by kernel_rfl) (by kernel_rfl) (by kernel_rfl)) ?_
  intro W base args ds gs before hval0 hW hcnd _
  have hval : ∀ (j : Nat) t v, Try.f6.params[j]? = some t → args[j]? = some v → Value.okWide Try.prog W .any base t v := hval0
  have hW' := hW
  obtain ⟨p, q, hA0, hV, rfl, hfz, hnd⟩ := hW
  have hA : DataW.TrodAll enc Try.prog W 0 (fun _ => true) true Try.f6.params.toList args.toList ds p := hA0
  rw [Try.params6] at hA hval
  obtain ⟨v0, vs0, d0, ds0, p0, q0, hargs, rfl, rfl, h0, r0⟩ := trodAll_cons hA
  obtain ⟨v1, vs1, d1, ds1, p1, q1, rfl, rfl, rfl, h1, r1⟩ := trodAll_cons r0
  obtain ⟨v2, vs2, d2, ds2, p2, q2, rfl, rfl, rfl, h2, r2⟩ := trodAll_cons r1
  obtain ⟨v3, vs3, d3, ds3, p3, q3, rfl, rfl, rfl, h3, r3⟩ := trodAll_cons r2
  obtain ⟨v4, vs4, d4, ds4, p4, q4, rfl, rfl, rfl, h4, r4⟩ := trodAll_cons r3
  obtain ⟨rfl, rfl, rfl⟩ := trodAll_nil r4
  obtain rfl : args = #[v0, v1, v2, v3, v4] := by cases args; simp_all
  obtain ⟨rfl, rfl⟩ := trodVars_none hV
  obtain ⟨a0, rfl, _, _, w0⟩ := open_int Try.underlying25 (hval 0 25 v0 rfl rfl) h0
  have b0 := bounds_u64 w0
  obtain ⟨a1, rfl, _, _, w1⟩ := open_int Try.underlying25 (hval 1 25 v1 rfl rfl) h1
  have b1 := bounds_u64 w1
  obtain ⟨a2, rfl, _, _, w2⟩ := open_int Try.underlying29 (hval 2 29 v2 rfl rfl) h2
  have b2 := bounds_u32 w2
  obtain ⟨z3, s3, w3, e3⟩ := open_sl Try.underlying43 Try.underlying25 (by kernel_rfl) (hval 3 43 v3 rfl rfl) h3
  obtain ⟨a4, rfl, _, _, w4⟩ := open_int Try.underlying3 (hval 4 3 v4 rfl rfl) h4
  have b4 := bounds_i64 w4
  refine (walk a0 a1 a2 v3 z3 a4 W b0.1 b0.2 b1.1 b1.2 b2.1 b2.2 s3 w3 b4.1 b4.2).mono fun e W' ⟨he, hb⟩ => ?_
  subst he
  exact ⟨_, rfl, law_post laidOut (by kernel_rfl) rfl (by kernel_rfl) Try.underlying4 rfl rfl rfl hW' hb⟩

theorem proved : Rows.ListBackSaid :=
  OpenClaim.holds_of_wide 6 Try.f6 rfl rfl rfl rfl rfl rfl rfl ⟨rfl, rfl, rfl, rfl, rfl⟩ rfl rfl rfl rfl rfl (by kernel_rfl) Try.func6 (by kernel_rfl)
    (of_decide_eq_true (by kernel_rfl)) (by unfold Func.isWrapper; first | (rw [if_pos (by decide +kernel)]; kernel_rfl) | (rw [if_neg (by decide +kernel)]; exact ⟨rfl, rfl⟩))
    (fun os started H enc _ => lifted os started H enc)
end Back
end Go.Proofs.Yteeeioafhdkagaa
