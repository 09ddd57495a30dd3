/- BinNumbers: for all bytes, every number, width, place and multiple the statement's function tells true and turns nothing that was there. No condition. -/
import Derived.Test.YtjibednmdnnpbaaKnown1
import Derived.BigQuiet
import Derived.IntWalk
import Derived.Deep.QuietTactic
import Derived.Deep.RegionWith
import Derived.Deep.DeepCutAuto
import Derived.Lib.QuietBelow
import Derived.Test.YtjibednmdnnpbaaTail
import Derived.Test.YtjibednmdnnpbaaNum
import Derived.Test.YtjibednmdnnpbaaRowsB
namespace Go.Proofs.Ytjibednmdnnpbaa
open Go.ChangeShapes Go.WideShapes Go.ChangeAt Go.RowKit Go.Sort
set_option linter.unusedVariables false
namespace Numbers
set_option maxHeartbeats 8000000 in
set_option maxRecDepth 100000 in
theorem walk (v : Value) (l : List UInt8) (x n q t : Int) (w : World) (hv : Sl w w.heap.size v l.length (bs l)) (hx1 : 0 ≤ x) (hx2 : x ≤ 18446744073709551615) (hn1 : -9223372036854775808 ≤ n) (hn2 : n ≤ 9223372036854775807)
    (hq1 : -9223372036854775808 ≤ q) (hq2 : q ≤ 9223372036854775807) (ht1 : -9223372036854775808 ≤ t) (ht2 : t ≤ 9223372036854775807) :
    Calls Try.prog 3 #[v, .int .u64 x, .int .i64 n, .int .i64 q, .int .i64 t] w fun e w' => e = .returned (.bool true) ∧ Below w.heap.size w w' := by
  obtain ⟨i0, hi, hz0, hz1, hz2⟩ := info_parts info_u8
  obtain ⟨A, c, rfl, hc1, hc2⟩ := hv.form
  obtain ⟨X, rfl⟩ : ∃ X : Nat, x = X := ⟨x.toNat, by omega⟩
  unfold maxLen at hc2
  by_cases hll : l.length > 3000
  · go_enter Try.func3, Try.ntmps3
    go_wp2_with (go_at_call 15; refine (known1_any _).mono ?_; rintro e w1 ⟨rfl, hb1⟩)
    all_goals go_ret
    all_goals exact ⟨rfl, hb1⟩
  · have hlx : (l.length : Int) ≤ 3000 := by omega
    go_enter Try.func3, Try.ntmps3
    go_wp2_with (first
      | (go_at_call 15; refine (known1_any _).mono ?_; rintro e w1 ⟨rfl, hb1⟩; have hv1 := (hv.below hb1).more hb1.size)
      | (at_builtin; refine wpList_append_sl _ rfl (.tmp 24) (.tmp 25) _ rfl w1.heap.size 5 i0 _ Try.underlying22 hi hz0 hz1 (by omega) rfl _ 0 [] rfl (World.ownsRow_made w1 #[] 0 (Nat.le_refl _) (by unfold maxLen; omega) rfl) w1.heap.size _ l.length (bs l) rfl (hv1.alloc (Nat.le_refl _) _) bs_one (by omega) (by simp) ?_; intro v2 w2 hown2 hg2 hat2)
      | (go_at_call 16; refine (put_any _ l X n _ (Sl.of_own (ownsRow_len hown2 (by omega) (List.nil_append _))) (by omega) (by omega) (by omega) (by omega)).mono ?_; rintro e w3 ⟨v3, rfl, hown3, hb3⟩
         have hb2 : Below w.heap.size w w2 := below_own (hb1.alloc hb1.size _) hg2 (by have := hb1.size; simp; omega) (fun k hk => by have := hb1.size; obtain rfl := Option.some.inj hk; exact this)
         have hb4 := hb2.trans (hb3.mono hb2.size)
         have hv3 := (hv.below hb4).more hb4.size
         clear hown2 hg2 hat2 hv1
         have hs3 := Sl.of_own hown3)
      | (at_builtin; refine wpList_append_sl _ rfl (.tmp 30) (.tmp 31) _ rfl w3.heap.size 5 i0 _ Try.underlying22 hi hz0 hz1 (by omega) rfl _ 0 [] rfl (World.ownsRow_made w3 #[] 0 (Nat.le_refl _) (by unfold maxLen; omega) rfl) w3.heap.size _ l.length (bs l) rfl (hv3.alloc (Nat.le_refl _) _) bs_one (by omega) (by simp) ?_; intro v4 w4 hown4 hg4 hat4)
      | (go_at_call 17; refine (rput_any _ l X n _ w3.heap.size (ownsRow_len hown4 (by omega) (List.nil_append _)) (Nat.le_trans (by simp) hg4.size) (by omega) (by omega) (by omega) (by omega)).mono ?_; rintro e w5 ⟨v5, rfl, hown5, hb5⟩
         have hb45 : Below w3.heap.size w3 w4 := below_own ((Below.refl _ _).alloc (Nat.le_refl _) _) hg4 (by simp) (fun k hk => by obtain rfl := Option.some.inj hk; exact Nat.le_refl _)
         have hb35 := hb45.trans hb5
         have hb6 := hb4.trans (hb35.mono hb4.size)
         have hs35 := (hs3.below hb35).more hb35.size
         have hv5 := (hv.below hb6).more hb6.size
         have hs5 := Sl.of_own hown5
         clear hown4 hg4 hat4 hv3 hs3)
      | (go_at_call 18; refine (get_any _ l q n _ hv5 (by omega) (by omega) (by omega) (by omega) (by omega)).mono ?_; rintro e w6 ⟨rfl, rfl⟩)
      | (go_at_call 19; refine (rget_any _ l q n _ hv5 (by omega) (by omega) (by omega) (by omega) (by omega)).mono ?_; rintro e w6 ⟨rfl, rfl⟩))
    --TAIL
    clear hb1 hb2 hb3 hb4 hb5 hb45 hb35 hown3 hown5
    generalize hYY : putS l X n = Y at *
    generalize hGG : getS l q n = GG at *
    have k3 : ∀ d os, (convert 22 9 v3).run Try.prog (grow (redrawn w5 d) os) = .ok (.string ⟨Y.toArray⟩) (grow (redrawn w5 d) os) := fun d os => bytes_str _ _ _ _ Try.underlying22 Try.underlying5 Try.underlying9 _ _ Y _ (hs35.now (below_regrown w5 d os))
    have k5 : ∀ d os, (convert 22 9 v5).run Try.prog (grow (redrawn w5 d) os) = .ok (.string ⟨Y.toArray⟩) (grow (redrawn w5 d) os) := fun d os => bytes_str _ _ _ _ Try.underlying22 Try.underlying5 Try.underlying9 _ _ Y _ (hs5.now (below_regrown w5 d os))
    have HY := Lib.hid hYY
    clear hYY hGG
    go_cut [79] (fun t wx => t = .bool false ∧ Below w5.heap.size w5 wx)
    case first =>
      refine Tail.region_tail_on (C := fun w' => ∃ p : Regrown, w' = grow (redrawn w5 p.d) p.os) 16 (Array.replicate 16 true ++ Array.replicate 14 false) rfl (by kernel_rfl) (by kernel_rfl) ⟨⟨w5.drawn + 1, #[]⟩, by rw [grow_empty]; rfl⟩ ?_
      · simp only [List.take_succ_cons, List.take_zero]
        repeat (go_big_quiet_step (fail))
        refine wpQuiet_nil ?_
        intro w6 hw6
        have hB : Below w5.heap.size w5 w6 := by obtain ⟨p, rfl⟩ := hw6; exact below_regrown _ _ _
        clear hw6 k3 k5 hs35 hs5 hv
        refine wpAny_take (i := 17) (v := ?_) rfl (by kernel_rfl) (by kernel_rfl) (by kernel_rfl) (fun _ _ _ h => h) (Or.inl ⟨by rfl, ?_⟩) ?_
        rotate_left
        · intro w
          go_simp
          all_goals with_reducible rfl
        refine wpAny_take (i := 19) (v := ?_) rfl (by kernel_rfl) (by kernel_rfl) (by kernel_rfl) (fun _ _ _ h => h) (Or.inl ⟨by rfl, ?_⟩) ?_
        rotate_left
        · intro w
          go_simp
          all_goals with_reducible rfl
        refine wpAny_take (i := 23) (v := ?_) rfl (by kernel_rfl) (by kernel_rfl) (by kernel_rfl) (fun _ _ _ h => h) (Or.inl ⟨by rfl, ?_⟩) ?_
        rotate_left
        · intro w
          go_simp
          all_goals with_reducible rfl
        refine wpAny_take (i := 25) (v := ?_) rfl (by kernel_rfl) (by kernel_rfl) (by kernel_rfl) (fun _ _ _ h => h) (Or.inl ⟨by rfl, ?_⟩) ?_
        rotate_left
        · intro w
          go_simp
          all_goals with_reducible rfl
        refine wpAny_ready (rs := [16, 22]) (by kernel_rfl) (by simp) ?_
        refine AllReady.cons rfl (fun K hK => ?_) ?_
        · go_simp
          have m1 := Mem.new w6 5 #[]
          have hge1 := hB.size
          have hB := hB.alloc hB.size (.cells #[] 5)
          generalize w6.alloc (.cells #[] 5) = W1 at *
          generalize w6.heap.size = g1 at *
          refine hK _ _ ?_
          clear hK K
          refine wpAny_ready (rs := [18, 22]) (by kernel_rfl) (by simp) ?_
          refine AllReady.cons rfl (fun K hK => ?_) ?_
          · rw [if_pos (by rfl)]
            refine wp_append_sl _ (.tmp 66) (.tmp 67) 22 rfl g1 5 i0 _ Try.underlying22 hi hz0 hz1 (by omega) rfl _ 0 [] rfl (own_of_mem m1) W1.heap.size _ l.length (bs l) rfl (hv5.now hB) bs_one (by omega) (Nat.le_of_lt m1.lt) ?_
            intro v68 W2 ho68 hg68 hat68
            have hB := hB.grown hg68 hB.size (fun k hk => by obtain rfl := Option.some.inj hk; exact hge1)
            refine hK _ _ ?_
            clear hK K
            refine wpAny_ready (rs := [20, 22]) (by kernel_rfl) (by simp) ?_
            refine AllReady.cons rfl (fun K hK => ?_) ?_
            · go_simp
              go_at_call 20
              (with_reducible refine (pad_any v68 l t _ (Sl.of_own (ownsRow_len ho68 (Nat.zero_add _) (List.nil_append _))) (by omega) (by omega) (by omega)).mono ?_)
              rintro e W3 ⟨v70, rfl, ho70, hb70⟩
              have hs70 := Sl.of_own ho70
              have hB := hB.trans (hb70.mono hB.size)
              have k70 : (convert 22 9 v70).run Try.prog W3 = .ok (.string ⟨(padS l t).toArray⟩) W3 := bytes_str _ _ _ _ Try.underlying22 Try.underlying5 Try.underlying9 _ _ (padS l t) _ hs70
              refine hK _ _ ?_
              clear hK K
              refine wpAny_ready (rs := [21, 22]) (by kernel_rfl) (by simp) ?_
              refine AllReady.cons rfl (fun K hK => ?_) ?_
              · go_simp
                refine hK _ _ ?_
                clear hK K
                refine wpAny_ready (rs := [22]) (by kernel_rfl) (by simp) ?_
                refine AllReady.cons rfl (fun K hK => ?_) ?_
                · go_simp
                  have m2 := Mem.new W3 5 #[]
                  have hge2 := hB.size
                  replace hs70 := hs70.now ((Below.refl _ _).alloc (Nat.le_refl _) (.cells #[] 5))
                  have hB := hB.alloc hB.size (.cells #[] 5)
                  generalize W3.alloc (.cells #[] 5) = W4 at *
                  generalize W3.heap.size = g2 at *
                  have k70 : (convert 22 9 v70).run Try.prog W4 = .ok (.string ⟨(padS l t).toArray⟩) W4 := bytes_str _ _ _ _ Try.underlying22 Try.underlying5 Try.underlying9 _ _ (padS l t) _ hs70
                  refine hK _ _ ?_
                  clear hK K
                  refine wpAny_ready (rs := [24]) (by kernel_rfl) (by simp) ?_
                  refine AllReady.cons rfl (fun K hK => ?_) ?_
                  · have hBo := hB
                    rw [if_pos (by rfl)]
                    refine wp_append_sl _ (.tmp 72) (.tmp 73) 22 rfl g2 5 i0 _ Try.underlying22 hi hz0 hz1 (by omega) rfl _ 0 [] rfl (own_of_mem m2) W4.heap.size _ l.length (bs l) rfl (hv5.now hB) bs_one (by omega) (Nat.le_of_lt m2.lt) ?_
                    intro v74 W5 ho74 hg74 hat74
                    have hB := hB.grown hg74 hB.size (fun k hk => by obtain rfl := Option.some.inj hk; exact hge2)
                    have hsp := (hs70.besides m2).grown hg74 (fun b hb e => hb.2 (Option.some.inj e))
                    have hs70 := hsp.sl
                    have k70 : (convert 22 9 v70).run Try.prog W5 = .ok (.string ⟨(padS l t).toArray⟩) W5 := bytes_str _ _ _ _ Try.underlying22 Try.underlying5 Try.underlying9 _ _ (padS l t) _ hs70
                    refine hK _ _ ?_
                    clear hK K
                    refine wpAny_ready (rs := [26]) (by kernel_rfl) (by simp) ?_
                    refine AllReady.cons rfl (fun K hK => ?_) ?_
                    · go_simp
                      go_at_call 21
                      (with_reducible refine (rpad_only v74 l t _ g2 (ownsRow_len ho74 (Nat.zero_add _) (List.nil_append _)) (Nat.le_of_lt (Nat.lt_of_lt_of_le m2.lt hg74.size)) (by omega) (by omega) (by omega)).mono ?_)
                      rintro e W6 ⟨v76, rfl, ho76, hon⟩
                      have hs76 := Sl.of_own ho76
                      have hsp := hsp.grown hon.1 (fun b hb e => by rcases hat74 with h | h <;> rw [h] at e <;> have e := Option.some.inj e <;> first | exact hb.2 e | (have := hb.1; omega))
                      have hs70 := hsp.sl
                      have hB := hB.grown hon.1 hB.size (fun k hk => by rcases hat74 with h | h <;> rw [h] at hk <;> have hk := Option.some.inj hk <;> first | (rw [← hk]; exact hge2) | (rw [← hk]; exact hBo.size))
                      have k70 : (convert 22 9 v70).run Try.prog W6 = .ok (.string ⟨(padS l t).toArray⟩) W6 := bytes_str _ _ _ _ Try.underlying22 Try.underlying5 Try.underlying9 _ _ (padS l t) _ hs70
                      have k76 : (convert 22 9 v76).run Try.prog W6 = .ok (.string ⟨(padS l t).toArray⟩) W6 := bytes_str _ _ _ _ Try.underlying22 Try.underlying5 Try.underlying9 _ _ (padS l t) _ hs76
                      refine hK _ _ ?_
                      clear hK K
                      refine wpAny_ready (rs := [27]) (by kernel_rfl) (by simp) ?_
                      refine AllReady.cons rfl (fun K hK => ?_) ?_
                      · go_simp
                        refine hK _ _ ?_
                        clear hK K
                        refine wpAny_take (i := 28) (v := ?_) rfl (by kernel_rfl) (by kernel_rfl) (by kernel_rfl) (fun _ _ _ h => h) (Or.inl ⟨by rfl, ?_⟩) ?_
                        rotate_left
                        · intro w
                          go_simp
                          all_goals with_reducible rfl
                        refine wpAny_take (i := 29) (v := ?_) rfl (by kernel_rfl) (by kernel_rfl) (by kernel_rfl) (fun _ _ _ h => h) (Or.inl ⟨by rfl, ?_⟩) ?_
                        rotate_left
                        · intro w
                          go_simp
                          all_goals with_reducible rfl
                        refine wpAny_done (by kernel_rfl) ?_ _
                        go_wp2_with fail
                        go_meet
                        exact ⟨rfl, hB⟩
                      exact AllReady.nil
                    exact AllReady.nil
                  exact AllReady.nil
                exact AllReady.nil
              refine AllReady.cons rfl (fun K hK => ?_) ?_
              · go_simp
                have m2 := Mem.new W3 5 #[]
                have hge2 := hB.size
                replace hs70 := hs70.now ((Below.refl _ _).alloc (Nat.le_refl _) (.cells #[] 5))
                have hB := hB.alloc hB.size (.cells #[] 5)
                generalize W3.alloc (.cells #[] 5) = W7 at *
                generalize W3.heap.size = g2 at *
                have k70 : (convert 22 9 v70).run Try.prog W7 = .ok (.string ⟨(padS l t).toArray⟩) W7 := bytes_str _ _ _ _ Try.underlying22 Try.underlying5 Try.underlying9 _ _ (padS l t) _ hs70
                refine hK _ _ ?_
                clear hK K
                refine wpAny_ready (rs := [21, 24]) (by kernel_rfl) (by simp) ?_
                refine AllReady.cons rfl (fun K hK => ?_) ?_
                · go_simp
                  refine hK _ _ ?_
                  clear hK K
                  refine wpAny_ready (rs := [24]) (by kernel_rfl) (by simp) ?_
                  refine AllReady.cons rfl (fun K hK => ?_) ?_
                  · have hBo := hB
                    rw [if_pos (by rfl)]
                    refine wp_append_sl _ (.tmp 72) (.tmp 73) 22 rfl g2 5 i0 _ Try.underlying22 hi hz0 hz1 (by omega) rfl _ 0 [] rfl (own_of_mem m2) W7.heap.size _ l.length (bs l) rfl (hv5.now hB) bs_one (by omega) (Nat.le_of_lt m2.lt) ?_
                    intro v74 W8 ho74 hg74 hat74
                    have hB := hB.grown hg74 hB.size (fun k hk => by obtain rfl := Option.some.inj hk; exact hge2)
                    have hsp := (hs70.besides m2).grown hg74 (fun b hb e => hb.2 (Option.some.inj e))
                    have hs70 := hsp.sl
                    have k70 : (convert 22 9 v70).run Try.prog W8 = .ok (.string ⟨(padS l t).toArray⟩) W8 := bytes_str _ _ _ _ Try.underlying22 Try.underlying5 Try.underlying9 _ _ (padS l t) _ hs70
                    refine hK _ _ ?_
                    clear hK K
                    refine wpAny_ready (rs := [26]) (by kernel_rfl) (by simp) ?_
                    refine AllReady.cons rfl (fun K hK => ?_) ?_
                    · go_simp
                      go_at_call 21
                      (with_reducible refine (rpad_only v74 l t _ g2 (ownsRow_len ho74 (Nat.zero_add _) (List.nil_append _)) (Nat.le_of_lt (Nat.lt_of_lt_of_le m2.lt hg74.size)) (by omega) (by omega) (by omega)).mono ?_)
                      rintro e W9 ⟨v76, rfl, ho76, hon⟩
                      have hs76 := Sl.of_own ho76
                      have hsp := hsp.grown hon.1 (fun b hb e => by rcases hat74 with h | h <;> rw [h] at e <;> have e := Option.some.inj e <;> first | exact hb.2 e | (have := hb.1; omega))
                      have hs70 := hsp.sl
                      have hB := hB.grown hon.1 hB.size (fun k hk => by rcases hat74 with h | h <;> rw [h] at hk <;> have hk := Option.some.inj hk <;> first | (rw [← hk]; exact hge2) | (rw [← hk]; exact hBo.size))
                      have k70 : (convert 22 9 v70).run Try.prog W9 = .ok (.string ⟨(padS l t).toArray⟩) W9 := bytes_str _ _ _ _ Try.underlying22 Try.underlying5 Try.underlying9 _ _ (padS l t) _ hs70
                      have k76 : (convert 22 9 v76).run Try.prog W9 = .ok (.string ⟨(padS l t).toArray⟩) W9 := bytes_str _ _ _ _ Try.underlying22 Try.underlying5 Try.underlying9 _ _ (padS l t) _ hs76
                      refine hK _ _ ?_
                      clear hK K
                      refine wpAny_ready (rs := [27]) (by kernel_rfl) (by simp) ?_
                      refine AllReady.cons rfl (fun K hK => ?_) ?_
                      · go_simp
                        refine hK _ _ ?_
                        clear hK K
                        refine wpAny_take (i := 28) (v := ?_) rfl (by kernel_rfl) (by kernel_rfl) (by kernel_rfl) (fun _ _ _ h => h) (Or.inl ⟨by rfl, ?_⟩) ?_
                        rotate_left
                        · intro w
                          go_simp
                          all_goals with_reducible rfl
                        refine wpAny_take (i := 29) (v := ?_) rfl (by kernel_rfl) (by kernel_rfl) (by kernel_rfl) (fun _ _ _ h => h) (Or.inl ⟨by rfl, ?_⟩) ?_
                        rotate_left
                        · intro w
                          go_simp
                          all_goals with_reducible rfl
                        refine wpAny_done (by kernel_rfl) ?_ _
                        go_wp2_with fail
                        go_meet
                        exact ⟨rfl, hB⟩
                      exact AllReady.nil
                    exact AllReady.nil
                  exact AllReady.nil
                refine AllReady.cons rfl (fun K hK => ?_) ?_
                · have hBo := hB
                  rw [if_pos (by rfl)]
                  refine wp_append_sl _ (.tmp 72) (.tmp 73) 22 rfl g2 5 i0 _ Try.underlying22 hi hz0 hz1 (by omega) rfl _ 0 [] rfl (own_of_mem m2) W7.heap.size _ l.length (bs l) rfl (hv5.now hB) bs_one (by omega) (Nat.le_of_lt m2.lt) ?_
                  intro v74 W10 ho74 hg74 hat74
                  have hB := hB.grown hg74 hB.size (fun k hk => by obtain rfl := Option.some.inj hk; exact hge2)
                  have hsp := (hs70.besides m2).grown hg74 (fun b hb e => hb.2 (Option.some.inj e))
                  have hs70 := hsp.sl
                  have k70 : (convert 22 9 v70).run Try.prog W10 = .ok (.string ⟨(padS l t).toArray⟩) W10 := bytes_str _ _ _ _ Try.underlying22 Try.underlying5 Try.underlying9 _ _ (padS l t) _ hs70
                  refine hK _ _ ?_
                  clear hK K
                  refine wpAny_ready (rs := [21, 26]) (by kernel_rfl) (by simp) ?_
                  refine AllReady.cons rfl (fun K hK => ?_) ?_
                  · go_simp
                    refine hK _ _ ?_
                    clear hK K
                    refine wpAny_ready (rs := [26]) (by kernel_rfl) (by simp) ?_
                    refine AllReady.cons rfl (fun K hK => ?_) ?_
                    · go_simp
                      go_at_call 21
                      (with_reducible refine (rpad_only v74 l t _ g2 (ownsRow_len ho74 (Nat.zero_add _) (List.nil_append _)) (Nat.le_of_lt (Nat.lt_of_lt_of_le m2.lt hg74.size)) (by omega) (by omega) (by omega)).mono ?_)
                      rintro e W11 ⟨v76, rfl, ho76, hon⟩
                      have hs76 := Sl.of_own ho76
                      have hsp := hsp.grown hon.1 (fun b hb e => by rcases hat74 with h | h <;> rw [h] at e <;> have e := Option.some.inj e <;> first | exact hb.2 e | (have := hb.1; omega))
                      have hs70 := hsp.sl
                      have hB := hB.grown hon.1 hB.size (fun k hk => by rcases hat74 with h | h <;> rw [h] at hk <;> have hk := Option.some.inj hk <;> first | (rw [← hk]; exact hge2) | (rw [← hk]; exact hBo.size))
                      have k70 : (convert 22 9 v70).run Try.prog W11 = .ok (.string ⟨(padS l t).toArray⟩) W11 := bytes_str _ _ _ _ Try.underlying22 Try.underlying5 Try.underlying9 _ _ (padS l t) _ hs70
                      have k76 : (convert 22 9 v76).run Try.prog W11 = .ok (.string ⟨(padS l t).toArray⟩) W11 := bytes_str _ _ _ _ Try.underlying22 Try.underlying5 Try.underlying9 _ _ (padS l t) _ hs76
                      refine hK _ _ ?_
                      clear hK K
                      refine wpAny_ready (rs := [27]) (by kernel_rfl) (by simp) ?_
                      refine AllReady.cons rfl (fun K hK => ?_) ?_
                      · go_simp
                        refine hK _ _ ?_
                        clear hK K
                        refine wpAny_take (i := 28) (v := ?_) rfl (by kernel_rfl) (by kernel_rfl) (by kernel_rfl) (fun _ _ _ h => h) (Or.inl ⟨by rfl, ?_⟩) ?_
                        rotate_left
                        · intro w
                          go_simp
                          all_goals with_reducible rfl
                        refine wpAny_take (i := 29) (v := ?_) rfl (by kernel_rfl) (by kernel_rfl) (by kernel_rfl) (fun _ _ _ h => h) (Or.inl ⟨by rfl, ?_⟩) ?_
                        rotate_left
                        · intro w
                          go_simp
                          all_goals with_reducible rfl
                        refine wpAny_done (by kernel_rfl) ?_ _
                        go_wp2_with fail
                        go_meet
                        exact ⟨rfl, hB⟩
                      exact AllReady.nil
                    exact AllReady.nil
                  refine AllReady.cons rfl (fun K hK => ?_) ?_
                  · go_simp
                    go_at_call 21
                    (with_reducible refine (rpad_only v74 l t _ g2 (ownsRow_len ho74 (Nat.zero_add _) (List.nil_append _)) (Nat.le_of_lt (Nat.lt_of_lt_of_le m2.lt hg74.size)) (by omega) (by omega) (by omega)).mono ?_)
                    rintro e W12 ⟨v76, rfl, ho76, hon⟩
                    have hs76 := Sl.of_own ho76
                    have hsp := hsp.grown hon.1 (fun b hb e => by rcases hat74 with h | h <;> rw [h] at e <;> have e := Option.some.inj e <;> first | exact hb.2 e | (have := hb.1; omega))
                    have hs70 := hsp.sl
                    have hB := hB.grown hon.1 hB.size (fun k hk => by rcases hat74 with h | h <;> rw [h] at hk <;> have hk := Option.some.inj hk <;> first | (rw [← hk]; exact hge2) | (rw [← hk]; exact hBo.size))
                    have k70 : (convert 22 9 v70).run Try.prog W12 = .ok (.string ⟨(padS l t).toArray⟩) W12 := bytes_str _ _ _ _ Try.underlying22 Try.underlying5 Try.underlying9 _ _ (padS l t) _ hs70
                    have k76 : (convert 22 9 v76).run Try.prog W12 = .ok (.string ⟨(padS l t).toArray⟩) W12 := bytes_str _ _ _ _ Try.underlying22 Try.underlying5 Try.underlying9 _ _ (padS l t) _ hs76
                    refine hK _ _ ?_
                    clear hK K
                    refine wpAny_ready (rs := [21, 27]) (by kernel_rfl) (by simp) ?_
                    refine AllReady.cons rfl (fun K hK => ?_) ?_
                    · go_simp
                      refine hK _ _ ?_
                      clear hK K
                      refine wpAny_ready (rs := [27]) (by kernel_rfl) (by simp) ?_
                      refine AllReady.cons rfl (fun K hK => ?_) ?_
                      · go_simp
                        refine hK _ _ ?_
                        clear hK K
                        refine wpAny_take (i := 28) (v := ?_) rfl (by kernel_rfl) (by kernel_rfl) (by kernel_rfl) (fun _ _ _ h => h) (Or.inl ⟨by rfl, ?_⟩) ?_
                        rotate_left
                        · intro w
                          go_simp
                          all_goals with_reducible rfl
                        refine wpAny_take (i := 29) (v := ?_) rfl (by kernel_rfl) (by kernel_rfl) (by kernel_rfl) (fun _ _ _ h => h) (Or.inl ⟨by rfl, ?_⟩) ?_
                        rotate_left
                        · intro w
                          go_simp
                          all_goals with_reducible rfl
                        refine wpAny_done (by kernel_rfl) ?_ _
                        go_wp2_with fail
                        go_meet
                        exact ⟨rfl, hB⟩
                      exact AllReady.nil
                    refine AllReady.cons rfl (fun K hK => ?_) ?_
                    · go_simp
                      refine hK _ _ ?_
                      clear hK K
                      refine wpAny_ready (rs := [21]) (by kernel_rfl) (by simp) ?_
                      refine AllReady.cons rfl (fun K hK => ?_) ?_
                      · go_simp
                        refine hK _ _ ?_
                        clear hK K
                        refine wpAny_take (i := 28) (v := ?_) rfl (by kernel_rfl) (by kernel_rfl) (by kernel_rfl) (fun _ _ _ h => h) (Or.inl ⟨by rfl, ?_⟩) ?_
                        rotate_left
                        · intro w
                          go_simp
                          all_goals with_reducible rfl
                        refine wpAny_take (i := 29) (v := ?_) rfl (by kernel_rfl) (by kernel_rfl) (by kernel_rfl) (fun _ _ _ h => h) (Or.inl ⟨by rfl, ?_⟩) ?_
                        rotate_left
                        · intro w
                          go_simp
                          all_goals with_reducible rfl
                        refine wpAny_done (by kernel_rfl) ?_ _
                        go_wp2_with fail
                        go_meet
                        exact ⟨rfl, hB⟩
                      exact AllReady.nil
                    exact AllReady.nil
                  exact AllReady.nil
                exact AllReady.nil
              exact AllReady.nil
            refine AllReady.cons rfl (fun K hK => ?_) ?_
            · go_simp
              have m2 := Mem.new W2 5 #[]
              have hge2 := hB.size
              have hB := hB.alloc hB.size (.cells #[] 5)
              replace ho68 := ho68.alloc (.cells #[] 5)
              generalize W2.alloc (.cells #[] 5) = W13 at *
              generalize W2.heap.size = g2 at *
              refine hK _ _ ?_
              clear hK K
              refine wpAny_ready (rs := [20]) (by kernel_rfl) (by simp) ?_
              refine AllReady.cons rfl (fun K hK => ?_) ?_
              · go_simp
                go_at_call 20
                (with_reducible refine (pad_any v68 l t _ (Sl.of_own (ownsRow_len ho68 (Nat.zero_add _) (List.nil_append _))) (by omega) (by omega) (by omega)).mono ?_)
                rintro e W14 ⟨v70, rfl, ho70, hb70⟩
                have hs70 := Sl.of_own ho70
                have hB := hB.trans (hb70.mono hB.size)
                have m2 := m2.below hb70 m2.lt
                have k70 : (convert 22 9 v70).run Try.prog W14 = .ok (.string ⟨(padS l t).toArray⟩) W14 := bytes_str _ _ _ _ Try.underlying22 Try.underlying5 Try.underlying9 _ _ (padS l t) _ hs70
                refine hK _ _ ?_
                clear hK K
                refine wpAny_ready (rs := [21, 24]) (by kernel_rfl) (by simp) ?_
                refine AllReady.cons rfl (fun K hK => ?_) ?_
                · go_simp
                  refine hK _ _ ?_
                  clear hK K
                  refine wpAny_ready (rs := [24]) (by kernel_rfl) (by simp) ?_
                  refine AllReady.cons rfl (fun K hK => ?_) ?_
                  · have hBo := hB
                    rw [if_pos (by rfl)]
                    refine wp_append_sl _ (.tmp 72) (.tmp 73) 22 rfl g2 5 i0 _ Try.underlying22 hi hz0 hz1 (by omega) rfl _ 0 [] rfl (own_of_mem m2) W14.heap.size _ l.length (bs l) rfl (hv5.now hB) bs_one (by omega) (Nat.le_of_lt m2.lt) ?_
                    intro v74 W15 ho74 hg74 hat74
                    have hB := hB.grown hg74 hB.size (fun k hk => by obtain rfl := Option.some.inj hk; exact hge2)
                    have hsp := (hs70.besides m2).grown hg74 (fun b hb e => hb.2 (Option.some.inj e))
                    have hs70 := hsp.sl
                    have k70 : (convert 22 9 v70).run Try.prog W15 = .ok (.string ⟨(padS l t).toArray⟩) W15 := bytes_str _ _ _ _ Try.underlying22 Try.underlying5 Try.underlying9 _ _ (padS l t) _ hs70
                    refine hK _ _ ?_
                    clear hK K
                    refine wpAny_ready (rs := [26]) (by kernel_rfl) (by simp) ?_
                    refine AllReady.cons rfl (fun K hK => ?_) ?_
                    · go_simp
                      go_at_call 21
                      (with_reducible refine (rpad_only v74 l t _ g2 (ownsRow_len ho74 (Nat.zero_add _) (List.nil_append _)) (Nat.le_of_lt (Nat.lt_of_lt_of_le m2.lt hg74.size)) (by omega) (by omega) (by omega)).mono ?_)
                      rintro e W16 ⟨v76, rfl, ho76, hon⟩
                      have hs76 := Sl.of_own ho76
                      have hsp := hsp.grown hon.1 (fun b hb e => by rcases hat74 with h | h <;> rw [h] at e <;> have e := Option.some.inj e <;> first | exact hb.2 e | (have := hb.1; omega))
                      have hs70 := hsp.sl
                      have hB := hB.grown hon.1 hB.size (fun k hk => by rcases hat74 with h | h <;> rw [h] at hk <;> have hk := Option.some.inj hk <;> first | (rw [← hk]; exact hge2) | (rw [← hk]; exact hBo.size))
                      have k70 : (convert 22 9 v70).run Try.prog W16 = .ok (.string ⟨(padS l t).toArray⟩) W16 := bytes_str _ _ _ _ Try.underlying22 Try.underlying5 Try.underlying9 _ _ (padS l t) _ hs70
                      have k76 : (convert 22 9 v76).run Try.prog W16 = .ok (.string ⟨(padS l t).toArray⟩) W16 := bytes_str _ _ _ _ Try.underlying22 Try.underlying5 Try.underlying9 _ _ (padS l t) _ hs76
                      refine hK _ _ ?_
                      clear hK K
                      refine wpAny_ready (rs := [27]) (by kernel_rfl) (by simp) ?_
                      refine AllReady.cons rfl (fun K hK => ?_) ?_
                      · go_simp
                        refine hK _ _ ?_
                        clear hK K
                        refine wpAny_take (i := 28) (v := ?_) rfl (by kernel_rfl) (by kernel_rfl) (by kernel_rfl) (fun _ _ _ h => h) (Or.inl ⟨by rfl, ?_⟩) ?_
                        rotate_left
                        · intro w
                          go_simp
                          all_goals with_reducible rfl
                        refine wpAny_take (i := 29) (v := ?_) rfl (by kernel_rfl) (by kernel_rfl) (by kernel_rfl) (fun _ _ _ h => h) (Or.inl ⟨by rfl, ?_⟩) ?_
                        rotate_left
                        · intro w
                          go_simp
                          all_goals with_reducible rfl
                        refine wpAny_done (by kernel_rfl) ?_ _
                        go_wp2_with fail
                        go_meet
                        exact ⟨rfl, hB⟩
                      exact AllReady.nil
                    exact AllReady.nil
                  exact AllReady.nil
                refine AllReady.cons rfl (fun K hK => ?_) ?_
                · have hBo := hB
                  rw [if_pos (by rfl)]
                  refine wp_append_sl _ (.tmp 72) (.tmp 73) 22 rfl g2 5 i0 _ Try.underlying22 hi hz0 hz1 (by omega) rfl _ 0 [] rfl (own_of_mem m2) W14.heap.size _ l.length (bs l) rfl (hv5.now hB) bs_one (by omega) (Nat.le_of_lt m2.lt) ?_
                  intro v74 W17 ho74 hg74 hat74
                  have hB := hB.grown hg74 hB.size (fun k hk => by obtain rfl := Option.some.inj hk; exact hge2)
                  have hsp := (hs70.besides m2).grown hg74 (fun b hb e => hb.2 (Option.some.inj e))
                  have hs70 := hsp.sl
                  have k70 : (convert 22 9 v70).run Try.prog W17 = .ok (.string ⟨(padS l t).toArray⟩) W17 := bytes_str _ _ _ _ Try.underlying22 Try.underlying5 Try.underlying9 _ _ (padS l t) _ hs70
                  refine hK _ _ ?_
                  clear hK K
                  refine wpAny_ready (rs := [21, 26]) (by kernel_rfl) (by simp) ?_
                  refine AllReady.cons rfl (fun K hK => ?_) ?_
                  · go_simp
                    refine hK _ _ ?_
                    clear hK K
                    refine wpAny_ready (rs := [26]) (by kernel_rfl) (by simp) ?_
                    refine AllReady.cons rfl (fun K hK => ?_) ?_
                    · go_simp
                      go_at_call 21
                      (with_reducible refine (rpad_only v74 l t _ g2 (ownsRow_len ho74 (Nat.zero_add _) (List.nil_append _)) (Nat.le_of_lt (Nat.lt_of_lt_of_le m2.lt hg74.size)) (by omega) (by omega) (by omega)).mono ?_)
                      rintro e W18 ⟨v76, rfl, ho76, hon⟩
                      have hs76 := Sl.of_own ho76
                      have hsp := hsp.grown hon.1 (fun b hb e => by rcases hat74 with h | h <;> rw [h] at e <;> have e := Option.some.inj e <;> first | exact hb.2 e | (have := hb.1; omega))
                      have hs70 := hsp.sl
                      have hB := hB.grown hon.1 hB.size (fun k hk => by rcases hat74 with h | h <;> rw [h] at hk <;> have hk := Option.some.inj hk <;> first | (rw [← hk]; exact hge2) | (rw [← hk]; exact hBo.size))
                      have k70 : (convert 22 9 v70).run Try.prog W18 = .ok (.string ⟨(padS l t).toArray⟩) W18 := bytes_str _ _ _ _ Try.underlying22 Try.underlying5 Try.underlying9 _ _ (padS l t) _ hs70
                      have k76 : (convert 22 9 v76).run Try.prog W18 = .ok (.string ⟨(padS l t).toArray⟩) W18 := bytes_str _ _ _ _ Try.underlying22 Try.underlying5 Try.underlying9 _ _ (padS l t) _ hs76
                      refine hK _ _ ?_
                      clear hK K
                      refine wpAny_ready (rs := [27]) (by kernel_rfl) (by simp) ?_
                      refine AllReady.cons rfl (fun K hK => ?_) ?_
                      · go_simp
                        refine hK _ _ ?_
                        clear hK K
                        refine wpAny_take (i := 28) (v := ?_) rfl (by kernel_rfl) (by kernel_rfl) (by kernel_rfl) (fun _ _ _ h => h) (Or.inl ⟨by rfl, ?_⟩) ?_
                        rotate_left
                        · intro w
                          go_simp
                          all_goals with_reducible rfl
                        refine wpAny_take (i := 29) (v := ?_) rfl (by kernel_rfl) (by kernel_rfl) (by kernel_rfl) (fun _ _ _ h => h) (Or.inl ⟨by rfl, ?_⟩) ?_
                        rotate_left
                        · intro w
                          go_simp
                          all_goals with_reducible rfl
                        refine wpAny_done (by kernel_rfl) ?_ _
                        go_wp2_with fail
                        go_meet
                        exact ⟨rfl, hB⟩
                      exact AllReady.nil
                    exact AllReady.nil
                  refine AllReady.cons rfl (fun K hK => ?_) ?_
                  · go_simp
                    go_at_call 21
                    (with_reducible refine (rpad_only v74 l t _ g2 (ownsRow_len ho74 (Nat.zero_add _) (List.nil_append _)) (Nat.le_of_lt (Nat.lt_of_lt_of_le m2.lt hg74.size)) (by omega) (by omega) (by omega)).mono ?_)
                    rintro e W19 ⟨v76, rfl, ho76, hon⟩
                    have hs76 := Sl.of_own ho76
                    have hsp := hsp.grown hon.1 (fun b hb e => by rcases hat74 with h | h <;> rw [h] at e <;> have e := Option.some.inj e <;> first | exact hb.2 e | (have := hb.1; omega))
                    have hs70 := hsp.sl
                    have hB := hB.grown hon.1 hB.size (fun k hk => by rcases hat74 with h | h <;> rw [h] at hk <;> have hk := Option.some.inj hk <;> first | (rw [← hk]; exact hge2) | (rw [← hk]; exact hBo.size))
                    have k70 : (convert 22 9 v70).run Try.prog W19 = .ok (.string ⟨(padS l t).toArray⟩) W19 := bytes_str _ _ _ _ Try.underlying22 Try.underlying5 Try.underlying9 _ _ (padS l t) _ hs70
                    have k76 : (convert 22 9 v76).run Try.prog W19 = .ok (.string ⟨(padS l t).toArray⟩) W19 := bytes_str _ _ _ _ Try.underlying22 Try.underlying5 Try.underlying9 _ _ (padS l t) _ hs76
                    refine hK _ _ ?_
                    clear hK K
                    refine wpAny_ready (rs := [21, 27]) (by kernel_rfl) (by simp) ?_
                    refine AllReady.cons rfl (fun K hK => ?_) ?_
                    · go_simp
                      refine hK _ _ ?_
                      clear hK K
                      refine wpAny_ready (rs := [27]) (by kernel_rfl) (by simp) ?_
                      refine AllReady.cons rfl (fun K hK => ?_) ?_
                      · go_simp
                        refine hK _ _ ?_
                        clear hK K
                        refine wpAny_take (i := 28) (v := ?_) rfl (by kernel_rfl) (by kernel_rfl) (by kernel_rfl) (fun _ _ _ h => h) (Or.inl ⟨by rfl, ?_⟩) ?_
                        rotate_left
                        · intro w
                          go_simp
                          all_goals with_reducible rfl
                        refine wpAny_take (i := 29) (v := ?_) rfl (by kernel_rfl) (by kernel_rfl) (by kernel_rfl) (fun _ _ _ h => h) (Or.inl ⟨by rfl, ?_⟩) ?_
                        rotate_left
                        · intro w
                          go_simp
                          all_goals with_reducible rfl
                        refine wpAny_done (by kernel_rfl) ?_ _
                        go_wp2_with fail
                        go_meet
                        exact ⟨rfl, hB⟩
                      exact AllReady.nil
                    refine AllReady.cons rfl (fun K hK => ?_) ?_
                    · go_simp
                      refine hK _ _ ?_
                      clear hK K
                      refine wpAny_ready (rs := [21]) (by kernel_rfl) (by simp) ?_
                      refine AllReady.cons rfl (fun K hK => ?_) ?_
                      · go_simp
                        refine hK _ _ ?_
                        clear hK K
                        refine wpAny_take (i := 28) (v := ?_) rfl (by kernel_rfl) (by kernel_rfl) (by kernel_rfl) (fun _ _ _ h => h) (Or.inl ⟨by rfl, ?_⟩) ?_
                        rotate_left
                        · intro w
                          go_simp
                          all_goals with_reducible rfl
                        refine wpAny_take (i := 29) (v := ?_) rfl (by kernel_rfl) (by kernel_rfl) (by kernel_rfl) (fun _ _ _ h => h) (Or.inl ⟨by rfl, ?_⟩) ?_
                        rotate_left
                        · intro w
                          go_simp
                          all_goals with_reducible rfl
                        refine wpAny_done (by kernel_rfl) ?_ _
                        go_wp2_with fail
                        go_meet
                        exact ⟨rfl, hB⟩
                      exact AllReady.nil
                    exact AllReady.nil
                  exact AllReady.nil
                exact AllReady.nil
              exact AllReady.nil
            exact AllReady.nil
          refine AllReady.cons rfl (fun K hK => ?_) ?_
          · go_simp
            have m2 := Mem.new W1 5 #[]
            have hge2 := hB.size
            have hne : g1 ≠ W1.heap.size := by have := m1.lt; omega
            replace m1 := m1.alloc (.cells #[] 5)
            have hB := hB.alloc hB.size (.cells #[] 5)
            generalize W1.alloc (.cells #[] 5) = W20 at *
            generalize W1.heap.size = g2 at *
            refine hK _ _ ?_
            clear hK K
            refine wpAny_ready (rs := [18]) (by kernel_rfl) (by simp) ?_
            refine AllReady.cons rfl (fun K hK => ?_) ?_
            · rw [if_pos (by rfl)]
              refine wp_append_sl _ (.tmp 66) (.tmp 67) 22 rfl g1 5 i0 _ Try.underlying22 hi hz0 hz1 (by omega) rfl _ 0 [] rfl (own_of_mem m1) W20.heap.size _ l.length (bs l) rfl (hv5.now hB) bs_one (by omega) (Nat.le_of_lt m1.lt) ?_
              intro v68 W21 ho68 hg68 hat68
              have hB := hB.grown hg68 hB.size (fun k hk => by obtain rfl := Option.some.inj hk; exact hge1)
              have m2 := m2.grown hg68 (fun e => hne (Option.some.inj e).symm)
              refine hK _ _ ?_
              clear hK K
              refine wpAny_ready (rs := [20]) (by kernel_rfl) (by simp) ?_
              refine AllReady.cons rfl (fun K hK => ?_) ?_
              · go_simp
                go_at_call 20
                (with_reducible refine (pad_any v68 l t _ (Sl.of_own (ownsRow_len ho68 (Nat.zero_add _) (List.nil_append _))) (by omega) (by omega) (by omega)).mono ?_)
                rintro e W22 ⟨v70, rfl, ho70, hb70⟩
                have hs70 := Sl.of_own ho70
                have hB := hB.trans (hb70.mono hB.size)
                have m2 := m2.below hb70 m2.lt
                have k70 : (convert 22 9 v70).run Try.prog W22 = .ok (.string ⟨(padS l t).toArray⟩) W22 := bytes_str _ _ _ _ Try.underlying22 Try.underlying5 Try.underlying9 _ _ (padS l t) _ hs70
                refine hK _ _ ?_
                clear hK K
                refine wpAny_ready (rs := [21, 24]) (by kernel_rfl) (by simp) ?_
                refine AllReady.cons rfl (fun K hK => ?_) ?_
                · go_simp
                  refine hK _ _ ?_
                  clear hK K
                  refine wpAny_ready (rs := [24]) (by kernel_rfl) (by simp) ?_
                  refine AllReady.cons rfl (fun K hK => ?_) ?_
                  · have hBo := hB
                    rw [if_pos (by rfl)]
                    refine wp_append_sl _ (.tmp 72) (.tmp 73) 22 rfl g2 5 i0 _ Try.underlying22 hi hz0 hz1 (by omega) rfl _ 0 [] rfl (own_of_mem m2) W22.heap.size _ l.length (bs l) rfl (hv5.now hB) bs_one (by omega) (Nat.le_of_lt m2.lt) ?_
                    intro v74 W23 ho74 hg74 hat74
                    have hB := hB.grown hg74 hB.size (fun k hk => by obtain rfl := Option.some.inj hk; exact hge2)
                    have hsp := (hs70.besides m2).grown hg74 (fun b hb e => hb.2 (Option.some.inj e))
                    have hs70 := hsp.sl
                    have k70 : (convert 22 9 v70).run Try.prog W23 = .ok (.string ⟨(padS l t).toArray⟩) W23 := bytes_str _ _ _ _ Try.underlying22 Try.underlying5 Try.underlying9 _ _ (padS l t) _ hs70
                    refine hK _ _ ?_
                    clear hK K
                    refine wpAny_ready (rs := [26]) (by kernel_rfl) (by simp) ?_
                    refine AllReady.cons rfl (fun K hK => ?_) ?_
                    · go_simp
                      go_at_call 21
                      (with_reducible refine (rpad_only v74 l t _ g2 (ownsRow_len ho74 (Nat.zero_add _) (List.nil_append _)) (Nat.le_of_lt (Nat.lt_of_lt_of_le m2.lt hg74.size)) (by omega) (by omega) (by omega)).mono ?_)
                      rintro e W24 ⟨v76, rfl, ho76, hon⟩
                      have hs76 := Sl.of_own ho76
                      have hsp := hsp.grown hon.1 (fun b hb e => by rcases hat74 with h | h <;> rw [h] at e <;> have e := Option.some.inj e <;> first | exact hb.2 e | (have := hb.1; omega))
                      have hs70 := hsp.sl
                      have hB := hB.grown hon.1 hB.size (fun k hk => by rcases hat74 with h | h <;> rw [h] at hk <;> have hk := Option.some.inj hk <;> first | (rw [← hk]; exact hge2) | (rw [← hk]; exact hBo.size))
                      have k70 : (convert 22 9 v70).run Try.prog W24 = .ok (.string ⟨(padS l t).toArray⟩) W24 := bytes_str _ _ _ _ Try.underlying22 Try.underlying5 Try.underlying9 _ _ (padS l t) _ hs70
                      have k76 : (convert 22 9 v76).run Try.prog W24 = .ok (.string ⟨(padS l t).toArray⟩) W24 := bytes_str _ _ _ _ Try.underlying22 Try.underlying5 Try.underlying9 _ _ (padS l t) _ hs76
                      refine hK _ _ ?_
                      clear hK K
                      refine wpAny_ready (rs := [27]) (by kernel_rfl) (by simp) ?_
                      refine AllReady.cons rfl (fun K hK => ?_) ?_
                      · go_simp
                        refine hK _ _ ?_
                        clear hK K
                        refine wpAny_take (i := 28) (v := ?_) rfl (by kernel_rfl) (by kernel_rfl) (by kernel_rfl) (fun _ _ _ h => h) (Or.inl ⟨by rfl, ?_⟩) ?_
                        rotate_left
                        · intro w
                          go_simp
                          all_goals with_reducible rfl
                        refine wpAny_take (i := 29) (v := ?_) rfl (by kernel_rfl) (by kernel_rfl) (by kernel_rfl) (fun _ _ _ h => h) (Or.inl ⟨by rfl, ?_⟩) ?_
                        rotate_left
                        · intro w
                          go_simp
                          all_goals with_reducible rfl
                        refine wpAny_done (by kernel_rfl) ?_ _
                        go_wp2_with fail
                        go_meet
                        exact ⟨rfl, hB⟩
                      exact AllReady.nil
                    exact AllReady.nil
                  exact AllReady.nil
                refine AllReady.cons rfl (fun K hK => ?_) ?_
                · have hBo := hB
                  rw [if_pos (by rfl)]
                  refine wp_append_sl _ (.tmp 72) (.tmp 73) 22 rfl g2 5 i0 _ Try.underlying22 hi hz0 hz1 (by omega) rfl _ 0 [] rfl (own_of_mem m2) W22.heap.size _ l.length (bs l) rfl (hv5.now hB) bs_one (by omega) (Nat.le_of_lt m2.lt) ?_
                  intro v74 W25 ho74 hg74 hat74
                  have hB := hB.grown hg74 hB.size (fun k hk => by obtain rfl := Option.some.inj hk; exact hge2)
                  have hsp := (hs70.besides m2).grown hg74 (fun b hb e => hb.2 (Option.some.inj e))
                  have hs70 := hsp.sl
                  have k70 : (convert 22 9 v70).run Try.prog W25 = .ok (.string ⟨(padS l t).toArray⟩) W25 := bytes_str _ _ _ _ Try.underlying22 Try.underlying5 Try.underlying9 _ _ (padS l t) _ hs70
                  refine hK _ _ ?_
                  clear hK K
                  refine wpAny_ready (rs := [21, 26]) (by kernel_rfl) (by simp) ?_
                  refine AllReady.cons rfl (fun K hK => ?_) ?_
                  · go_simp
                    refine hK _ _ ?_
                    clear hK K
                    refine wpAny_ready (rs := [26]) (by kernel_rfl) (by simp) ?_
                    refine AllReady.cons rfl (fun K hK => ?_) ?_
                    · go_simp
                      go_at_call 21
                      (with_reducible refine (rpad_only v74 l t _ g2 (ownsRow_len ho74 (Nat.zero_add _) (List.nil_append _)) (Nat.le_of_lt (Nat.lt_of_lt_of_le m2.lt hg74.size)) (by omega) (by omega) (by omega)).mono ?_)
                      rintro e W26 ⟨v76, rfl, ho76, hon⟩
                      have hs76 := Sl.of_own ho76
                      have hsp := hsp.grown hon.1 (fun b hb e => by rcases hat74 with h | h <;> rw [h] at e <;> have e := Option.some.inj e <;> first | exact hb.2 e | (have := hb.1; omega))
                      have hs70 := hsp.sl
                      have hB := hB.grown hon.1 hB.size (fun k hk => by rcases hat74 with h | h <;> rw [h] at hk <;> have hk := Option.some.inj hk <;> first | (rw [← hk]; exact hge2) | (rw [← hk]; exact hBo.size))
                      have k70 : (convert 22 9 v70).run Try.prog W26 = .ok (.string ⟨(padS l t).toArray⟩) W26 := bytes_str _ _ _ _ Try.underlying22 Try.underlying5 Try.underlying9 _ _ (padS l t) _ hs70
                      have k76 : (convert 22 9 v76).run Try.prog W26 = .ok (.string ⟨(padS l t).toArray⟩) W26 := bytes_str _ _ _ _ Try.underlying22 Try.underlying5 Try.underlying9 _ _ (padS l t) _ hs76
                      refine hK _ _ ?_
                      clear hK K
                      refine wpAny_ready (rs := [27]) (by kernel_rfl) (by simp) ?_
                      refine AllReady.cons rfl (fun K hK => ?_) ?_
                      · go_simp
                        refine hK _ _ ?_
                        clear hK K
                        refine wpAny_take (i := 28) (v := ?_) rfl (by kernel_rfl) (by kernel_rfl) (by kernel_rfl) (fun _ _ _ h => h) (Or.inl ⟨by rfl, ?_⟩) ?_
                        rotate_left
                        · intro w
                          go_simp
                          all_goals with_reducible rfl
                        refine wpAny_take (i := 29) (v := ?_) rfl (by kernel_rfl) (by kernel_rfl) (by kernel_rfl) (fun _ _ _ h => h) (Or.inl ⟨by rfl, ?_⟩) ?_
                        rotate_left
                        · intro w
                          go_simp
                          all_goals with_reducible rfl
                        refine wpAny_done (by kernel_rfl) ?_ _
                        go_wp2_with fail
                        go_meet
                        exact ⟨rfl, hB⟩
                      exact AllReady.nil
                    exact AllReady.nil
                  refine AllReady.cons rfl (fun K hK => ?_) ?_
                  · go_simp
                    go_at_call 21
                    (with_reducible refine (rpad_only v74 l t _ g2 (ownsRow_len ho74 (Nat.zero_add _) (List.nil_append _)) (Nat.le_of_lt (Nat.lt_of_lt_of_le m2.lt hg74.size)) (by omega) (by omega) (by omega)).mono ?_)
                    rintro e W27 ⟨v76, rfl, ho76, hon⟩
                    have hs76 := Sl.of_own ho76
                    have hsp := hsp.grown hon.1 (fun b hb e => by rcases hat74 with h | h <;> rw [h] at e <;> have e := Option.some.inj e <;> first | exact hb.2 e | (have := hb.1; omega))
                    have hs70 := hsp.sl
                    have hB := hB.grown hon.1 hB.size (fun k hk => by rcases hat74 with h | h <;> rw [h] at hk <;> have hk := Option.some.inj hk <;> first | (rw [← hk]; exact hge2) | (rw [← hk]; exact hBo.size))
                    have k70 : (convert 22 9 v70).run Try.prog W27 = .ok (.string ⟨(padS l t).toArray⟩) W27 := bytes_str _ _ _ _ Try.underlying22 Try.underlying5 Try.underlying9 _ _ (padS l t) _ hs70
                    have k76 : (convert 22 9 v76).run Try.prog W27 = .ok (.string ⟨(padS l t).toArray⟩) W27 := bytes_str _ _ _ _ Try.underlying22 Try.underlying5 Try.underlying9 _ _ (padS l t) _ hs76
                    refine hK _ _ ?_
                    clear hK K
                    refine wpAny_ready (rs := [21, 27]) (by kernel_rfl) (by simp) ?_
                    refine AllReady.cons rfl (fun K hK => ?_) ?_
                    · go_simp
                      refine hK _ _ ?_
                      clear hK K
                      refine wpAny_ready (rs := [27]) (by kernel_rfl) (by simp) ?_
                      refine AllReady.cons rfl (fun K hK => ?_) ?_
                      · go_simp
                        refine hK _ _ ?_
                        clear hK K
                        refine wpAny_take (i := 28) (v := ?_) rfl (by kernel_rfl) (by kernel_rfl) (by kernel_rfl) (fun _ _ _ h => h) (Or.inl ⟨by rfl, ?_⟩) ?_
                        rotate_left
                        · intro w
                          go_simp
                          all_goals with_reducible rfl
                        refine wpAny_take (i := 29) (v := ?_) rfl (by kernel_rfl) (by kernel_rfl) (by kernel_rfl) (fun _ _ _ h => h) (Or.inl ⟨by rfl, ?_⟩) ?_
                        rotate_left
                        · intro w
                          go_simp
                          all_goals with_reducible rfl
                        refine wpAny_done (by kernel_rfl) ?_ _
                        go_wp2_with fail
                        go_meet
                        exact ⟨rfl, hB⟩
                      exact AllReady.nil
                    refine AllReady.cons rfl (fun K hK => ?_) ?_
                    · go_simp
                      refine hK _ _ ?_
                      clear hK K
                      refine wpAny_ready (rs := [21]) (by kernel_rfl) (by simp) ?_
                      refine AllReady.cons rfl (fun K hK => ?_) ?_
                      · go_simp
                        refine hK _ _ ?_
                        clear hK K
                        refine wpAny_take (i := 28) (v := ?_) rfl (by kernel_rfl) (by kernel_rfl) (by kernel_rfl) (fun _ _ _ h => h) (Or.inl ⟨by rfl, ?_⟩) ?_
                        rotate_left
                        · intro w
                          go_simp
                          all_goals with_reducible rfl
                        refine wpAny_take (i := 29) (v := ?_) rfl (by kernel_rfl) (by kernel_rfl) (by kernel_rfl) (fun _ _ _ h => h) (Or.inl ⟨by rfl, ?_⟩) ?_
                        rotate_left
                        · intro w
                          go_simp
                          all_goals with_reducible rfl
                        refine wpAny_done (by kernel_rfl) ?_ _
                        go_wp2_with fail
                        go_meet
                        exact ⟨rfl, hB⟩
                      exact AllReady.nil
                    exact AllReady.nil
                  exact AllReady.nil
                exact AllReady.nil
              exact AllReady.nil
            exact AllReady.nil
          exact AllReady.nil
        refine AllReady.cons rfl (fun K hK => ?_) ?_
        · go_simp
          have m2 := Mem.new w6 5 #[]
          have hge2 := hB.size
          have hB := hB.alloc hB.size (.cells #[] 5)
          generalize w6.alloc (.cells #[] 5) = W28 at *
          generalize w6.heap.size = g2 at *
          refine hK _ _ ?_
          clear hK K
          refine wpAny_ready (rs := [16]) (by kernel_rfl) (by simp) ?_
          refine AllReady.cons rfl (fun K hK => ?_) ?_
          · go_simp
            have m1 := Mem.new W28 5 #[]
            have hge1 := hB.size
            have hne : W28.heap.size ≠ g2 := by have := m2.lt; omega
            replace m2 := m2.alloc (.cells #[] 5)
            have hB := hB.alloc hB.size (.cells #[] 5)
            generalize W28.alloc (.cells #[] 5) = W29 at *
            generalize W28.heap.size = g1 at *
            refine hK _ _ ?_
            clear hK K
            refine wpAny_ready (rs := [18]) (by kernel_rfl) (by simp) ?_
            refine AllReady.cons rfl (fun K hK => ?_) ?_
            · rw [if_pos (by rfl)]
              refine wp_append_sl _ (.tmp 66) (.tmp 67) 22 rfl g1 5 i0 _ Try.underlying22 hi hz0 hz1 (by omega) rfl _ 0 [] rfl (own_of_mem m1) W29.heap.size _ l.length (bs l) rfl (hv5.now hB) bs_one (by omega) (Nat.le_of_lt m1.lt) ?_
              intro v68 W30 ho68 hg68 hat68
              have hB := hB.grown hg68 hB.size (fun k hk => by obtain rfl := Option.some.inj hk; exact hge1)
              have m2 := m2.grown hg68 (fun e => hne (Option.some.inj e).symm)
              refine hK _ _ ?_
              clear hK K
              refine wpAny_ready (rs := [20]) (by kernel_rfl) (by simp) ?_
              refine AllReady.cons rfl (fun K hK => ?_) ?_
              · go_simp
                go_at_call 20
                (with_reducible refine (pad_any v68 l t _ (Sl.of_own (ownsRow_len ho68 (Nat.zero_add _) (List.nil_append _))) (by omega) (by omega) (by omega)).mono ?_)
                rintro e W31 ⟨v70, rfl, ho70, hb70⟩
                have hs70 := Sl.of_own ho70
                have hB := hB.trans (hb70.mono hB.size)
                have m2 := m2.below hb70 m2.lt
                have k70 : (convert 22 9 v70).run Try.prog W31 = .ok (.string ⟨(padS l t).toArray⟩) W31 := bytes_str _ _ _ _ Try.underlying22 Try.underlying5 Try.underlying9 _ _ (padS l t) _ hs70
                refine hK _ _ ?_
                clear hK K
                refine wpAny_ready (rs := [21, 24]) (by kernel_rfl) (by simp) ?_
                refine AllReady.cons rfl (fun K hK => ?_) ?_
                · go_simp
                  refine hK _ _ ?_
                  clear hK K
                  refine wpAny_ready (rs := [24]) (by kernel_rfl) (by simp) ?_
                  refine AllReady.cons rfl (fun K hK => ?_) ?_
                  · have hBo := hB
                    rw [if_pos (by rfl)]
                    refine wp_append_sl _ (.tmp 72) (.tmp 73) 22 rfl g2 5 i0 _ Try.underlying22 hi hz0 hz1 (by omega) rfl _ 0 [] rfl (own_of_mem m2) W31.heap.size _ l.length (bs l) rfl (hv5.now hB) bs_one (by omega) (Nat.le_of_lt m2.lt) ?_
                    intro v74 W32 ho74 hg74 hat74
                    have hB := hB.grown hg74 hB.size (fun k hk => by obtain rfl := Option.some.inj hk; exact hge2)
                    have hsp := (hs70.besides m2).grown hg74 (fun b hb e => hb.2 (Option.some.inj e))
                    have hs70 := hsp.sl
                    have k70 : (convert 22 9 v70).run Try.prog W32 = .ok (.string ⟨(padS l t).toArray⟩) W32 := bytes_str _ _ _ _ Try.underlying22 Try.underlying5 Try.underlying9 _ _ (padS l t) _ hs70
                    refine hK _ _ ?_
                    clear hK K
                    refine wpAny_ready (rs := [26]) (by kernel_rfl) (by simp) ?_
                    refine AllReady.cons rfl (fun K hK => ?_) ?_
                    · go_simp
                      go_at_call 21
                      (with_reducible refine (rpad_only v74 l t _ g2 (ownsRow_len ho74 (Nat.zero_add _) (List.nil_append _)) (Nat.le_of_lt (Nat.lt_of_lt_of_le m2.lt hg74.size)) (by omega) (by omega) (by omega)).mono ?_)
                      rintro e W33 ⟨v76, rfl, ho76, hon⟩
                      have hs76 := Sl.of_own ho76
                      have hsp := hsp.grown hon.1 (fun b hb e => by rcases hat74 with h | h <;> rw [h] at e <;> have e := Option.some.inj e <;> first | exact hb.2 e | (have := hb.1; omega))
                      have hs70 := hsp.sl
                      have hB := hB.grown hon.1 hB.size (fun k hk => by rcases hat74 with h | h <;> rw [h] at hk <;> have hk := Option.some.inj hk <;> first | (rw [← hk]; exact hge2) | (rw [← hk]; exact hBo.size))
                      have k70 : (convert 22 9 v70).run Try.prog W33 = .ok (.string ⟨(padS l t).toArray⟩) W33 := bytes_str _ _ _ _ Try.underlying22 Try.underlying5 Try.underlying9 _ _ (padS l t) _ hs70
                      have k76 : (convert 22 9 v76).run Try.prog W33 = .ok (.string ⟨(padS l t).toArray⟩) W33 := bytes_str _ _ _ _ Try.underlying22 Try.underlying5 Try.underlying9 _ _ (padS l t) _ hs76
                      refine hK _ _ ?_
                      clear hK K
                      refine wpAny_ready (rs := [27]) (by kernel_rfl) (by simp) ?_
                      refine AllReady.cons rfl (fun K hK => ?_) ?_
                      · go_simp
                        refine hK _ _ ?_
                        clear hK K
                        refine wpAny_take (i := 28) (v := ?_) rfl (by kernel_rfl) (by kernel_rfl) (by kernel_rfl) (fun _ _ _ h => h) (Or.inl ⟨by rfl, ?_⟩) ?_
                        rotate_left
                        · intro w
                          go_simp
                          all_goals with_reducible rfl
                        refine wpAny_take (i := 29) (v := ?_) rfl (by kernel_rfl) (by kernel_rfl) (by kernel_rfl) (fun _ _ _ h => h) (Or.inl ⟨by rfl, ?_⟩) ?_
                        rotate_left
                        · intro w
                          go_simp
                          all_goals with_reducible rfl
                        refine wpAny_done (by kernel_rfl) ?_ _
                        go_wp2_with fail
                        go_meet
                        exact ⟨rfl, hB⟩
                      exact AllReady.nil
                    exact AllReady.nil
                  exact AllReady.nil
                refine AllReady.cons rfl (fun K hK => ?_) ?_
                · have hBo := hB
                  rw [if_pos (by rfl)]
                  refine wp_append_sl _ (.tmp 72) (.tmp 73) 22 rfl g2 5 i0 _ Try.underlying22 hi hz0 hz1 (by omega) rfl _ 0 [] rfl (own_of_mem m2) W31.heap.size _ l.length (bs l) rfl (hv5.now hB) bs_one (by omega) (Nat.le_of_lt m2.lt) ?_
                  intro v74 W34 ho74 hg74 hat74
                  have hB := hB.grown hg74 hB.size (fun k hk => by obtain rfl := Option.some.inj hk; exact hge2)
                  have hsp := (hs70.besides m2).grown hg74 (fun b hb e => hb.2 (Option.some.inj e))
                  have hs70 := hsp.sl
                  have k70 : (convert 22 9 v70).run Try.prog W34 = .ok (.string ⟨(padS l t).toArray⟩) W34 := bytes_str _ _ _ _ Try.underlying22 Try.underlying5 Try.underlying9 _ _ (padS l t) _ hs70
                  refine hK _ _ ?_
                  clear hK K
                  refine wpAny_ready (rs := [21, 26]) (by kernel_rfl) (by simp) ?_
                  refine AllReady.cons rfl (fun K hK => ?_) ?_
                  · go_simp
                    refine hK _ _ ?_
                    clear hK K
                    refine wpAny_ready (rs := [26]) (by kernel_rfl) (by simp) ?_
                    refine AllReady.cons rfl (fun K hK => ?_) ?_
                    · go_simp
                      go_at_call 21
                      (with_reducible refine (rpad_only v74 l t _ g2 (ownsRow_len ho74 (Nat.zero_add _) (List.nil_append _)) (Nat.le_of_lt (Nat.lt_of_lt_of_le m2.lt hg74.size)) (by omega) (by omega) (by omega)).mono ?_)
                      rintro e W35 ⟨v76, rfl, ho76, hon⟩
                      have hs76 := Sl.of_own ho76
                      have hsp := hsp.grown hon.1 (fun b hb e => by rcases hat74 with h | h <;> rw [h] at e <;> have e := Option.some.inj e <;> first | exact hb.2 e | (have := hb.1; omega))
                      have hs70 := hsp.sl
                      have hB := hB.grown hon.1 hB.size (fun k hk => by rcases hat74 with h | h <;> rw [h] at hk <;> have hk := Option.some.inj hk <;> first | (rw [← hk]; exact hge2) | (rw [← hk]; exact hBo.size))
                      have k70 : (convert 22 9 v70).run Try.prog W35 = .ok (.string ⟨(padS l t).toArray⟩) W35 := bytes_str _ _ _ _ Try.underlying22 Try.underlying5 Try.underlying9 _ _ (padS l t) _ hs70
                      have k76 : (convert 22 9 v76).run Try.prog W35 = .ok (.string ⟨(padS l t).toArray⟩) W35 := bytes_str _ _ _ _ Try.underlying22 Try.underlying5 Try.underlying9 _ _ (padS l t) _ hs76
                      refine hK _ _ ?_
                      clear hK K
                      refine wpAny_ready (rs := [27]) (by kernel_rfl) (by simp) ?_
                      refine AllReady.cons rfl (fun K hK => ?_) ?_
                      · go_simp
                        refine hK _ _ ?_
                        clear hK K
                        refine wpAny_take (i := 28) (v := ?_) rfl (by kernel_rfl) (by kernel_rfl) (by kernel_rfl) (fun _ _ _ h => h) (Or.inl ⟨by rfl, ?_⟩) ?_
                        rotate_left
                        · intro w
                          go_simp
                          all_goals with_reducible rfl
                        refine wpAny_take (i := 29) (v := ?_) rfl (by kernel_rfl) (by kernel_rfl) (by kernel_rfl) (fun _ _ _ h => h) (Or.inl ⟨by rfl, ?_⟩) ?_
                        rotate_left
                        · intro w
                          go_simp
                          all_goals with_reducible rfl
                        refine wpAny_done (by kernel_rfl) ?_ _
                        go_wp2_with fail
                        go_meet
                        exact ⟨rfl, hB⟩
                      exact AllReady.nil
                    exact AllReady.nil
                  refine AllReady.cons rfl (fun K hK => ?_) ?_
                  · go_simp
                    go_at_call 21
                    (with_reducible refine (rpad_only v74 l t _ g2 (ownsRow_len ho74 (Nat.zero_add _) (List.nil_append _)) (Nat.le_of_lt (Nat.lt_of_lt_of_le m2.lt hg74.size)) (by omega) (by omega) (by omega)).mono ?_)
                    rintro e W36 ⟨v76, rfl, ho76, hon⟩
                    have hs76 := Sl.of_own ho76
                    have hsp := hsp.grown hon.1 (fun b hb e => by rcases hat74 with h | h <;> rw [h] at e <;> have e := Option.some.inj e <;> first | exact hb.2 e | (have := hb.1; omega))
                    have hs70 := hsp.sl
                    have hB := hB.grown hon.1 hB.size (fun k hk => by rcases hat74 with h | h <;> rw [h] at hk <;> have hk := Option.some.inj hk <;> first | (rw [← hk]; exact hge2) | (rw [← hk]; exact hBo.size))
                    have k70 : (convert 22 9 v70).run Try.prog W36 = .ok (.string ⟨(padS l t).toArray⟩) W36 := bytes_str _ _ _ _ Try.underlying22 Try.underlying5 Try.underlying9 _ _ (padS l t) _ hs70
                    have k76 : (convert 22 9 v76).run Try.prog W36 = .ok (.string ⟨(padS l t).toArray⟩) W36 := bytes_str _ _ _ _ Try.underlying22 Try.underlying5 Try.underlying9 _ _ (padS l t) _ hs76
                    refine hK _ _ ?_
                    clear hK K
                    refine wpAny_ready (rs := [21, 27]) (by kernel_rfl) (by simp) ?_
                    refine AllReady.cons rfl (fun K hK => ?_) ?_
                    · go_simp
                      refine hK _ _ ?_
                      clear hK K
                      refine wpAny_ready (rs := [27]) (by kernel_rfl) (by simp) ?_
                      refine AllReady.cons rfl (fun K hK => ?_) ?_
                      · go_simp
                        refine hK _ _ ?_
                        clear hK K
                        refine wpAny_take (i := 28) (v := ?_) rfl (by kernel_rfl) (by kernel_rfl) (by kernel_rfl) (fun _ _ _ h => h) (Or.inl ⟨by rfl, ?_⟩) ?_
                        rotate_left
                        · intro w
                          go_simp
                          all_goals with_reducible rfl
                        refine wpAny_take (i := 29) (v := ?_) rfl (by kernel_rfl) (by kernel_rfl) (by kernel_rfl) (fun _ _ _ h => h) (Or.inl ⟨by rfl, ?_⟩) ?_
                        rotate_left
                        · intro w
                          go_simp
                          all_goals with_reducible rfl
                        refine wpAny_done (by kernel_rfl) ?_ _
                        go_wp2_with fail
                        go_meet
                        exact ⟨rfl, hB⟩
                      exact AllReady.nil
                    refine AllReady.cons rfl (fun K hK => ?_) ?_
                    · go_simp
                      refine hK _ _ ?_
                      clear hK K
                      refine wpAny_ready (rs := [21]) (by kernel_rfl) (by simp) ?_
                      refine AllReady.cons rfl (fun K hK => ?_) ?_
                      · go_simp
                        refine hK _ _ ?_
                        clear hK K
                        refine wpAny_take (i := 28) (v := ?_) rfl (by kernel_rfl) (by kernel_rfl) (by kernel_rfl) (fun _ _ _ h => h) (Or.inl ⟨by rfl, ?_⟩) ?_
                        rotate_left
                        · intro w
                          go_simp
                          all_goals with_reducible rfl
                        refine wpAny_take (i := 29) (v := ?_) rfl (by kernel_rfl) (by kernel_rfl) (by kernel_rfl) (fun _ _ _ h => h) (Or.inl ⟨by rfl, ?_⟩) ?_
                        rotate_left
                        · intro w
                          go_simp
                          all_goals with_reducible rfl
                        refine wpAny_done (by kernel_rfl) ?_ _
                        go_wp2_with fail
                        go_meet
                        exact ⟨rfl, hB⟩
                      exact AllReady.nil
                    exact AllReady.nil
                  exact AllReady.nil
                exact AllReady.nil
              exact AllReady.nil
            exact AllReady.nil
          exact AllReady.nil
        exact AllReady.nil
    case rest =>
      obtain ⟨rfl, hbw⟩ := hcut
      have hb9 := bchain hb6 hbw
      have hs9 := hs35.now hbw
      clear k3 k5 hs35 hs5 hv5 hv
      by_cases hn : n < 1 ∨ 8 < n
      · have hyl : Y = l := by rw [← HY.out]; unfold putS; rw [if_pos hn]
        subst hyl
        obtain ⟨A3, c3, rfl, _, _⟩ := hs9.form
        go_wp2
        all_goals go_ret
        all_goals exact ⟨rfl, hb9⟩
      · obtain ⟨m, rfl⟩ : ∃ m : Nat, n = m := ⟨n.toNat, by omega⟩
        have hm1 : 1 ≤ m := by omega
        have hm8 : m ≤ 8 := by omega
        have hyl : Y = l ++ be X m := by rw [← HY.out]; unfold putS; rw [if_neg hn]; simp
        have hylen : Y.length = l.length + m := by rw [hyl]; simp
        have hgs : getS Y l.length m = (X % 256 ^ m, true) := by
          unfold getS
          rw [if_pos (by omega), Int.toNat_natCast, Int.toNat_natCast, hyl, List.drop_left, List.take_of_length_le (by simp), RowsB.beVal_be]
        have hget := get_any v3 Y l.length m wc hs9 (by omega) (by omega) (by omega) (by omega) (by omega)
        rw [hgs] at hget
        have HG := Lib.hid hget
        have hq : ((X : Int) % 256 ^ m == IntKind.u64.wrap ((X : Int) * 2 ^ (64 - 8 * m)) / 2 ^ (64 - 8 * m)) = true := by
          have h := RowsB.shift_back X m (by omega) hm1 hm8
          rw [IntKind.wrap_u64]
          have h' : ((X * 2 ^ (64 - 8 * m) % 18446744073709551616 / 2 ^ (64 - 8 * m) : Nat) : Int) = ((X % 256 ^ m : Nat) : Int) := by rw [h]
          have e : (X : Int) * 2 ^ (64 - 8 * m) % 18446744073709551616 / 2 ^ (64 - 8 * m) = (X : Int) % 256 ^ m := by simpa using h'
          rw [e]; simp
        clear hget hgs hyl hylen hn hs9
        go_wp2_with (go_at_call 18; (with_reducible refine HG.out.mono ?_); rintro e w7 ⟨rfl, rfl⟩)
        go_ret
        exact ⟨rfl, hb9⟩
set_option maxRecDepth 100000 in
theorem lifted (os : Os) (started : os.Started) (H : Type) (enc : TypeId × Value → H) :
    ReturnsInHanded {} Try.checked os 3 .any (Rows.binNumbersSpec.pre6 enc Try.prog Try.f3 Rows.binNumbersRow.domain false) (Rows.binNumbersSpec.post enc Try.prog Try.f3 false true false false) := by
  refine returnsInHanded_of_change (C := Try.checked) own started (by kernel_rfl) Try.func3
    (ChangeSpec.witness6 (enc := enc) (C := Try.checked) false ⟨#[], #[.slice none 0 0, .int .u64 0, .int .i64 0, .int .i64 0, .int .i64 0], []⟩ 8 (by kernel_rfl) (by kernel_rfl) (by kernel_rfl) (by kernel_rfl)) ?_
  intro W base args ds gs before hval0 hW hcnd _
  have hval : ∀ (j : Nat) t v, Try.f3.params[j]? = some t → args[j]? = some v → Value.okWide Try.prog W .any base t v := hval0
  have hW' := hW
  obtain ⟨p, q, hA0, hV, rfl, hfz, hnd⟩ := hW
  have hA : DataW.TrodAll enc Try.prog W 0 (fun _ => true) true Try.f3.params.toList args.toList ds p := hA0
  rw [Try.params3] at hA hval
  obtain ⟨v0, vs0, d0, ds0, p0, q0, hargs, rfl, rfl, h0, r0⟩ := trodAll_cons hA
  obtain ⟨v1, vs1, d1, ds1, p1, q1, rfl, rfl, rfl, h1, r1⟩ := trodAll_cons r0
  obtain ⟨v2, vs2, d2, ds2, p2, q2, rfl, rfl, rfl, h2, r2⟩ := trodAll_cons r1
  obtain ⟨v3, vs3, d3, ds3, p3, q3, rfl, rfl, rfl, h3, r3⟩ := trodAll_cons r2
  obtain ⟨v4, vs4, d4, ds4, p4, q4, rfl, rfl, rfl, h4, r4⟩ := trodAll_cons r3
  obtain ⟨rfl, rfl, rfl⟩ := trodAll_nil r4
  obtain rfl : args = #[v0, v1, v2, v3, v4] := by cases args; simp_all
  obtain ⟨rfl, rfl⟩ := trodVars_none hV
  obtain ⟨l0, s0, e0⟩ := open_bytes Try.underlying22 Try.underlying5 (by kernel_rfl) (hval 0 22 v0 rfl rfl) h0
  obtain ⟨a1, rfl, _, _, w1⟩ := open_int Try.underlying23 (hval 1 23 v1 rfl rfl) h1
  have b1 := bounds_u64 w1
  obtain ⟨a2, rfl, _, _, w2⟩ := open_int Try.underlying3 (hval 2 3 v2 rfl rfl) h2
  have b2 := bounds_i64 w2
  obtain ⟨a3, rfl, _, _, w3⟩ := open_int Try.underlying3 (hval 3 3 v3 rfl rfl) h3
  have b3 := bounds_i64 w3
  obtain ⟨a4, rfl, _, _, w4⟩ := open_int Try.underlying3 (hval 4 3 v4 rfl rfl) h4
  have b4 := bounds_i64 w4
  refine (walk v0 l0 a1 a2 a3 a4 W s0 b1.1 b1.2 b2.1 b2.2 b3.1 b3.2 b4.1 b4.2).mono fun e W' ⟨he, hb⟩ => ?_
  subst he
  exact ⟨_, rfl, law_post laidOut (by kernel_rfl) rfl (by kernel_rfl) Try.underlying4 rfl rfl rfl hW' hb⟩

theorem proved : Rows.BinNumbersSaid :=
  OpenClaim.holds_of_wide 3 Try.f3 rfl rfl rfl rfl rfl rfl rfl ⟨rfl, rfl, rfl, rfl, rfl⟩ rfl rfl rfl rfl rfl (by kernel_rfl) Try.func3 (by kernel_rfl)
    (of_decide_eq_true (by kernel_rfl)) (by unfold Func.isWrapper; first | (rw [if_pos (by decide +kernel)]; kernel_rfl) | (rw [if_neg (by decide +kernel)]; exact ⟨rfl, rfl⟩))
    (fun os started H enc _ => lifted os started H enc)
end Numbers
end Go.Proofs.Ytjibednmdnnpbaa
