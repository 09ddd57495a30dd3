/- CrcBytes: for all bytes, every cut and every sum the statement's function tells true and turns nothing that was there. No condition. -/
import Derived.Test.YtjibednmdnnpbaaKnown2
import Derived.Deep.RegionWith
import Derived.Deep.DeepCutAuto
import Derived.ChangeAlike
import Derived.BigRegion
import Derived.BigQuiet
import Derived.Lib.QuietBelow
import Derived.Test.YtjibednmdnnpbaaTail
namespace Go.Proofs.Ytjibednmdnnpbaa.Crc
open Go.ChangeShapes Go.WideShapes Go.ChangeAt Go.RowKit Go.Sort
set_option linter.unusedVariables false
namespace Bytes
theorem Sl_drop {w : World} {B n c q : Nat} {A : Option Addr} {xs : List Value} (h : Sl w B (.slice A n c) n xs) (hq : q ≤ n) :
    Sl w B (.slice (if c = q then A else Option.map (fun x => x.add q) A) (n - q) (c - q)) (n - q) (xs.drop q) := by
  obtain ⟨hl, A', c', e, h1, h2, h3⟩ := h
  injection e with e1 e2 e3
  subst e1; subst e3
  refine ⟨by simp [hl], _, _, rfl, by omega, by omega, fun hne => ?_⟩
  have hlt : q < n := by
    rcases Nat.lt_or_ge q n with h | h
    · exact h
    · exact absurd (List.drop_eq_nil_of_le (by omega)) hne
  obtain ⟨b, off, ea, hb, hc⟩ := h3 (by rintro rfl; simp at hl; omega)
  rw [if_neg (by omega), ea]
  refine ⟨b, off + q, by simp [add_plain], hb, fun j u hu => ?_⟩
  rw [Nat.add_assoc]
  exact hc _ u (by rw [← hu, List.getElem?_drop])
set_option maxHeartbeats 1000000 in
set_option maxRecDepth 100000 in
theorem walk (v : Value) (l : List UInt8) (cut s : Int) (w : World) (hv : Sl w w.heap.size v l.length (bs l)) (hc1' : -9223372036854775808 ≤ cut) (hc2' : cut ≤ 9223372036854775807) (hs1 : 0 ≤ s) (hs2 : s ≤ 4294967295) :
    Calls Try.prog 10 #[v, .int .i64 cut, .int .u32 s] w fun e w' => e = .returned (.bool true) ∧ Below w.heap.size w w' := by
  obtain ⟨A, c, rfl, hc1, hc2⟩ := hv.form
  have hc3 : c ≤ 9223372036854775807 := hc2
  clear hc2
  obtain ⟨S, rfl⟩ : ∃ S : Nat, s = S := ⟨s.toNat, by omega⟩
  by_cases hll : l.length > 3000 ∨ cut < 0 ∨ cut > l.length
  · go_enter Try.func10, Try.ntmps10
    go_wp2_with (go_at_call 28; refine (known2_any _).mono ?_; rintro e w1 ⟨rfl, hb1⟩)
    all_goals go_ret
    all_goals exact ⟨rfl, hb1⟩
  · obtain ⟨q, rfl⟩ : ∃ q : Nat, cut = q := ⟨cut.toNat, by omega⟩
    have hl4 : (l.length : Int) ≤ 3000 := by omega
    have hq : (q : Int) ≤ l.length := by omega
    clear hll
    go_enter Try.func10, Try.ntmps10
    go_wp2_with (go_at_call 28; refine (known2_any _).mono ?_; rintro e w1 ⟨rfl, hb1⟩; have hv1 := hv.now hb1)
    refine (open_any _ l _ hv1 (by omega)).mono ?_
    rintro e w2 ⟨x, rfl, hx2, hb2⟩
    go_wp2_with fail
    have hv2 := hv1.now hb2
    refine (ropen_any _ l _ hv2 (by omega)).mono ?_
    rintro e w3 ⟨y, rfl, hy3, hb3⟩
    go_wp2_with fail
    have hv3 := hv2.now hb3
    have hx3 := hx2.now hb3
    refine (seal_any _ l _ hv3 (by omega)).mono ?_
    rintro e w4 ⟨sv, rfl, hown4, hb4⟩
    go_wp2_with fail
    have hop := open_any sv (sealS l) w4 (Sl.of_own hown4) (by rw [sealS_len]; omega)
    rw [open_seal] at hop
    refine hop.mono ?_
    rintro e w5 ⟨z, rfl, hz5, hb5⟩
    have hb35 := bchain hb4 hb5
    have hv5 := hv3.now hb35
    have hx5 := hx3.now hb35
    have hy5 := hy3.now hb35
    have hb15 := bchain hb1 (bchain hb2 (bchain hb3 hb35))
    clear hop hown4 hx2 hx3 hy3 hv1 hv2 hv3 hb2 hb3 hb4 hb5 hb35
    generalize (openS l).1 = X at *
    generalize (openS l).2 = E at *
    go_wp2_with fail
    have hq2 : q ≤ l.length := by omega
    have hqc : (q : Int) ≤ (c : Int) := by omega
    have hvq : Sl w5 w5.heap.size (.slice A q c) (l.take q).length (bs (l.take q)) := by
      have h := hv5.take (m := q) hq2
      rw [bs, ← List.map_take] at h
      rw [show (l.take q).length = q by simp; omega]
      exact h
    have hM0 := moreS_lt 0 l
    have hF0 := moreS_lt 0 (l.take q)
    have cS : ∀ W, Below w5.heap.size w5 W → Calls Try.prog 32 #[.slice A l.length c] W fun e w' => e = .returned (.int .u32 (moreS 0 l : Nat)) ∧ Below W.heap.size W w' := fun W h => sum_any _ l W (hv5.now h)
    have cRS : ∀ W, Below w5.heap.size w5 W → Calls Try.prog 33 #[.slice A l.length c] W fun e w' => e = .returned (.int .u32 (moreS 0 l : Nat)) ∧ W = w' := fun W h => rsum_any _ l W (hv5.now h)
    have cM : ∀ W, Below w5.heap.size w5 W → Calls Try.prog 34 #[.int .u32 S, .slice A l.length c] W fun e w' => e = .returned (.int .u32 (moreS S l : Nat)) ∧ Below W.heap.size W w' := fun W h => more_any S _ l W (by omega) (hv5.now h)
    have cRM : ∀ W, Below w5.heap.size w5 W → Calls Try.prog 35 #[.int .u32 S, .slice A l.length c] W fun e w' => e = .returned (.int .u32 (moreS S l : Nat)) ∧ W = w' := fun W h => rmore_any S _ l W (by omega) (hv5.now h)
    have cF : ∀ W, Below w5.heap.size w5 W → Calls Try.prog 32 #[.slice A q c] W fun e w' => e = .returned (.int .u32 (moreS 0 (l.take q) : Nat)) ∧ Below W.heap.size W w' := fun W h => sum_any _ (l.take q) W (hvq.now h)
    have hdr := Sl_drop hv5 hq2
    have cG : ∀ W, Below w5.heap.size w5 W → Calls Try.prog 34 #[.int .u32 (moreS 0 (l.take q) : Nat), .slice (if c = q then A else Option.map (fun x => x.add q) A) (l.length - q) (c - q)] W fun e w' => e = .returned (.int .u32 (moreS 0 l : Nat)) ∧ Below W.heap.size W w' := fun W h => by
      have h1 := more_any (moreS 0 (l.take q)) (.slice (if c = q then A else Option.map (fun x => x.add q) A) (l.length - q) (c - q)) (l.drop q) W (moreS_lt _ _) (by
        have h2 := hdr.now h
        rw [bs, ← List.map_drop] at h2
        rw [List.length_drop]
        exact h2)
      rw [moreS_app, List.take_append_drop] at h1
      exact h1
    clear hdr
    generalize moreS 0 l = M0 at *
    generalize moreS S l = MS at *
    generalize moreS 0 (l.take q) = F0 at *
    have qS : ∀ d os, Calls Try.prog 32 #[.slice A l.length c] (grow (redrawn w5 d) os) fun e w'' => e = .returned (.int .u32 (M0 : Nat)) ∧ ∃ p : Regrown, w'' = grow (redrawn w5 p.d) p.os := fun d os => Calls.regrown_of (cS _ (below_regrown w5 d os))
    have qRS : ∀ d os, Calls Try.prog 33 #[.slice A l.length c] (grow (redrawn w5 d) os) fun e w'' => e = .returned (.int .u32 (M0 : Nat)) ∧ ∃ p : Regrown, w'' = grow (redrawn w5 p.d) p.os := fun d os => Calls.regrown_of ((cRS _ (below_regrown w5 d os)).mono fun e w' ⟨he, hw⟩ => ⟨he, by rw [← hw]; exact Below.refl _ _⟩)
    have qM : ∀ d os, Calls Try.prog 34 #[.int .u32 S, .slice A l.length c] (grow (redrawn w5 d) os) fun e w'' => e = .returned (.int .u32 (MS : Nat)) ∧ ∃ p : Regrown, w'' = grow (redrawn w5 p.d) p.os := fun d os => Calls.regrown_of (cM _ (below_regrown w5 d os))
    have qRM : ∀ d os, Calls Try.prog 35 #[.int .u32 S, .slice A l.length c] (grow (redrawn w5 d) os) fun e w'' => e = .returned (.int .u32 (MS : Nat)) ∧ ∃ p : Regrown, w'' = grow (redrawn w5 p.d) p.os := fun d os => Calls.regrown_of ((cRM _ (below_regrown w5 d os)).mono fun e w' ⟨he, hw⟩ => ⟨he, by rw [← hw]; exact Below.refl _ _⟩)
    have qF : ∀ d os, Calls Try.prog 32 #[.slice A q c] (grow (redrawn w5 d) os) fun e w'' => e = .returned (.int .u32 (F0 : Nat)) ∧ ∃ p : Regrown, w'' = grow (redrawn w5 p.d) p.os := fun d os => Calls.regrown_of (cF _ (below_regrown w5 d os))
    have qG : ∀ d os, Calls Try.prog 34 #[.int .u32 (F0 : Nat), .slice (if c = q then A else Option.map (fun x => x.add q) A) (l.length - q) (c - q)] (grow (redrawn w5 d) os) fun e w'' => e = .returned (.int .u32 (M0 : Nat)) ∧ ∃ p : Regrown, w'' = grow (redrawn w5 p.d) p.os := fun d os => Calls.regrown_of (cG _ (below_regrown w5 d os))
    have kx : ∀ d os, (convert 22 9 x).run Try.prog (grow (redrawn w5 d) os) = .ok (.string ⟨X.toArray⟩) (grow (redrawn w5 d) os) := fun d os => bytes_str _ _ _ _ Try.underlying22 Try.underlying5 Try.underlying9 _ _ X _ (hx5.now (below_regrown w5 d os))
    have ky : ∀ d os, (convert 22 9 y).run Try.prog (grow (redrawn w5 d) os) = .ok (.string ⟨X.toArray⟩) (grow (redrawn w5 d) os) := fun d os => bytes_str _ _ _ _ Try.underlying22 Try.underlying5 Try.underlying9 _ _ X _ (hy5.now (below_regrown w5 d os))
    have kz : ∀ d os, (convert 22 9 z).run Try.prog (grow (redrawn w5 d) os) = .ok (.string ⟨l.toArray⟩) (grow (redrawn w5 d) os) := fun d os => bytes_str _ _ _ _ Try.underlying22 Try.underlying5 Try.underlying9 _ _ l _ (hz5.now (below_regrown w5 d os))
    have kb : ∀ d os, (convert 22 9 (.slice A l.length c)).run Try.prog (grow (redrawn w5 d) os) = .ok (.string ⟨l.toArray⟩) (grow (redrawn w5 d) os) := fun d os => bytes_str _ _ _ _ Try.underlying22 Try.underlying5 Try.underlying9 _ _ l _ (hv5.now (below_regrown w5 d os))
    go_cut [6] (fun t wx => t = .bool true ∧ Below w5.heap.size w5 wx)
    case first =>
      refine Tail.region_tail_on (C := fun w' => ∃ p : Regrown, w' = grow (redrawn w5 p.d) p.os) 51 (Array.replicate 51 true ++ Array.replicate 9 false) rfl (by kernel_rfl) (by kernel_rfl) ⟨⟨w5.drawn + 1, #[]⟩, by rw [grow_empty]; rfl⟩ ?_
      · simp only [List.take_succ_cons, List.take_zero]
        repeat (go_big_quiet_step (first | (with_reducible exact qS _ _) | (with_reducible exact qRS _ _) | (with_reducible exact qM _ _) | (with_reducible exact qRM _ _) | (with_reducible exact qF _ _) | (with_reducible exact qG _ _)))
        refine wpQuiet_nil ?_
        intro w6 hw6
        generalize (if c = q then A else Option.map (fun x => x.add q) A) = AD
        have hB : Below w5.heap.size w5 w6 := by obtain ⟨p, rfl⟩ := hw6; exact below_regrown _ _ _
        have cSeal : ∀ W, Below w5.heap.size w5 W → Calls Try.prog 31 #[.slice A l.length c] W fun e w' => ∃ v', e = .returned v' ∧ Sl w' w'.heap.size v' (sealS l).length (bs (sealS l)) ∧ Below W.heap.size W w' := fun W h => (seal_any _ l W (hv5.now h) (by omega)).mono fun e w' ⟨v', h1, h2, h3⟩ => ⟨v', h1, Sl.of_own h2, h3⟩
        have cRSeal : ∀ W, Below w5.heap.size w5 W → Calls Try.prog 36 #[.slice A l.length c] W fun e w' => ∃ v', e = .returned v' ∧ Sl w' w'.heap.size v' (sealS l).length (bs (sealS l)) ∧ Below W.heap.size W w' := fun W h => (rseal_any _ l W (hv5.now h) (by omega)).mono fun e w' ⟨v', h1, h2, h3⟩ => ⟨v', h1, Sl.of_own h2, h3⟩
        clear hw6 qS qRS qM qRM qF qG kx ky kz kb cS cRS cM cRM cF cG
        refine wpAny_take (i := 51) (v := ?_) rfl (by kernel_rfl) (by kernel_rfl) (by kernel_rfl) (fun _ _ _ h => h) (Or.inl ⟨by rfl, ?_⟩) ?_
        rotate_left
        · intro w
          go_simp
          all_goals with_reducible rfl
        refine wpAny_take (i := 54) (v := ?_) rfl (by kernel_rfl) (by kernel_rfl) (by kernel_rfl) (fun _ _ _ h => h) (Or.inl ⟨by rfl, ?_⟩) ?_
        rotate_left
        · intro w
          go_simp
          all_goals with_reducible rfl
        refine wpAny_ready (rs := [52]) (by kernel_rfl) (by simp) ?_
        refine AllReady.cons rfl (fun K hK => ?_) ?_
        · go_simp
          go_at_call 31
          (with_reducible refine (cSeal _ hB).mono ?_)
          rintro e w7 ⟨v7, rfl, hs7, hb7⟩
          have hB := hB.trans (hb7.mono hB.size)
          have k7 : (convert 22 9 v7).run Try.prog w7 = .ok (.string ⟨(sealS l).toArray⟩) w7 := bytes_str _ _ _ _ Try.underlying22 Try.underlying5 Try.underlying9 _ _ (sealS l) _ hs7
          refine hK _ _ ?_
          clear hK K
          refine wpAny_ready (rs := [53, 55]) (by kernel_rfl) (by simp) ?_
          refine AllReady.cons rfl (fun K hK => ?_) ?_
          · go_simp
            refine hK _ _ ?_
            clear hK K
            refine wpAny_ready (rs := [55]) (by kernel_rfl) (by simp) ?_
            refine AllReady.cons rfl (fun K hK => ?_) ?_
            · go_simp
              go_at_call 36
              (with_reducible refine (cRSeal _ hB).mono ?_)
              rintro e w8 ⟨v8, rfl, hs8, hb8⟩
              have hB := hB.trans (hb8.mono hB.size)
              have hs7 := hs7.now hb8
              have k7 : (convert 22 9 v7).run Try.prog w8 = .ok (.string ⟨(sealS l).toArray⟩) w8 := bytes_str _ _ _ _ Try.underlying22 Try.underlying5 Try.underlying9 _ _ (sealS l) _ hs7
              have k8 : (convert 22 9 v8).run Try.prog w8 = .ok (.string ⟨(sealS l).toArray⟩) w8 := bytes_str _ _ _ _ Try.underlying22 Try.underlying5 Try.underlying9 _ _ (sealS l) _ hs8
              refine hK _ _ ?_
              clear hK K
              refine wpAny_ready (rs := [56]) (by kernel_rfl) (by simp) ?_
              refine AllReady.cons rfl (fun K hK => ?_) ?_
              · go_simp
                refine hK _ _ ?_
                clear hK K
                refine wpAny_take (i := 57) (v := ?_) rfl (by kernel_rfl) (by kernel_rfl) (by kernel_rfl) (fun _ _ _ h => h) (Or.inl ⟨by rfl, ?_⟩) ?_
                rotate_left
                · intro w
                  go_simp
                  all_goals with_reducible rfl
                refine wpAny_take (i := 58) (v := ?_) rfl (by kernel_rfl) (by kernel_rfl) (by kernel_rfl) (fun _ _ _ h => h) (Or.inl ⟨by rfl, ?_⟩) ?_
                rotate_left
                · intro w
                  go_simp
                  all_goals with_reducible rfl
                refine wpAny_take (i := 59) (v := ?_) rfl (by kernel_rfl) (by kernel_rfl) (by kernel_rfl) (fun _ _ _ h => h) (Or.inl ⟨by rfl, ?_⟩) ?_
                rotate_left
                · intro w
                  go_simp
                  all_goals with_reducible rfl
                refine wpAny_done (by kernel_rfl) ?_ _
                go_wp2_with fail
                go_meet
                exact ⟨rfl, hB⟩
              exact AllReady.nil
            exact AllReady.nil
          refine AllReady.cons rfl (fun K hK => ?_) ?_
          · go_simp
            go_at_call 36
            (with_reducible refine (cRSeal _ hB).mono ?_)
            rintro e w8 ⟨v8, rfl, hs8, hb8⟩
            have hB := hB.trans (hb8.mono hB.size)
            have hs7 := hs7.now hb8
            have k7 : (convert 22 9 v7).run Try.prog w8 = .ok (.string ⟨(sealS l).toArray⟩) w8 := bytes_str _ _ _ _ Try.underlying22 Try.underlying5 Try.underlying9 _ _ (sealS l) _ hs7
            have k8 : (convert 22 9 v8).run Try.prog w8 = .ok (.string ⟨(sealS l).toArray⟩) w8 := bytes_str _ _ _ _ Try.underlying22 Try.underlying5 Try.underlying9 _ _ (sealS l) _ hs8
            refine hK _ _ ?_
            clear hK K
            refine wpAny_ready (rs := [53, 56]) (by kernel_rfl) (by simp) ?_
            refine AllReady.cons rfl (fun K hK => ?_) ?_
            · go_simp
              refine hK _ _ ?_
              clear hK K
              refine wpAny_ready (rs := [56]) (by kernel_rfl) (by simp) ?_
              refine AllReady.cons rfl (fun K hK => ?_) ?_
              · go_simp
                refine hK _ _ ?_
                clear hK K
                refine wpAny_take (i := 57) (v := ?_) rfl (by kernel_rfl) (by kernel_rfl) (by kernel_rfl) (fun _ _ _ h => h) (Or.inl ⟨by rfl, ?_⟩) ?_
                rotate_left
                · intro w
                  go_simp
                  all_goals with_reducible rfl
                refine wpAny_take (i := 58) (v := ?_) rfl (by kernel_rfl) (by kernel_rfl) (by kernel_rfl) (fun _ _ _ h => h) (Or.inl ⟨by rfl, ?_⟩) ?_
                rotate_left
                · intro w
                  go_simp
                  all_goals with_reducible rfl
                refine wpAny_take (i := 59) (v := ?_) rfl (by kernel_rfl) (by kernel_rfl) (by kernel_rfl) (fun _ _ _ h => h) (Or.inl ⟨by rfl, ?_⟩) ?_
                rotate_left
                · intro w
                  go_simp
                  all_goals with_reducible rfl
                refine wpAny_done (by kernel_rfl) ?_ _
                go_wp2_with fail
                go_meet
                exact ⟨rfl, hB⟩
              exact AllReady.nil
            refine AllReady.cons rfl (fun K hK => ?_) ?_
            · go_simp
              refine hK _ _ ?_
              clear hK K
              refine wpAny_ready (rs := [53]) (by kernel_rfl) (by simp) ?_
              refine AllReady.cons rfl (fun K hK => ?_) ?_
              · go_simp
                refine hK _ _ ?_
                clear hK K
                refine wpAny_take (i := 57) (v := ?_) rfl (by kernel_rfl) (by kernel_rfl) (by kernel_rfl) (fun _ _ _ h => h) (Or.inl ⟨by rfl, ?_⟩) ?_
                rotate_left
                · intro w
                  go_simp
                  all_goals with_reducible rfl
                refine wpAny_take (i := 58) (v := ?_) rfl (by kernel_rfl) (by kernel_rfl) (by kernel_rfl) (fun _ _ _ h => h) (Or.inl ⟨by rfl, ?_⟩) ?_
                rotate_left
                · intro w
                  go_simp
                  all_goals with_reducible rfl
                refine wpAny_take (i := 59) (v := ?_) rfl (by kernel_rfl) (by kernel_rfl) (by kernel_rfl) (fun _ _ _ h => h) (Or.inl ⟨by rfl, ?_⟩) ?_
                rotate_left
                · intro w
                  go_simp
                  all_goals with_reducible rfl
                refine wpAny_done (by kernel_rfl) ?_ _
                go_wp2_with fail
                go_meet
                exact ⟨rfl, hB⟩
              exact AllReady.nil
            exact AllReady.nil
          exact AllReady.nil
        exact AllReady.nil
    case rest =>
      obtain ⟨rfl, hbw⟩ := hcut
      go_wp2
      go_ret
      exact ⟨rfl, bchain hb15 hbw⟩
set_option maxRecDepth 100000 in
theorem lifted (os : Os) (started : os.Started) (H : Type) (enc : TypeId × Value → H) :
    ReturnsInHanded {} Try.checked os 10 .any (Rows.crcBytesSpec.pre6 enc Try.prog Try.f10 Rows.crcBytesRow.domain false) (Rows.crcBytesSpec.post enc Try.prog Try.f10 false true false false) := by
  refine returnsInHanded_of_change (C := Try.checked) own started (by kernel_rfl) Try.func10
    (ChangeSpec.witness6 (enc := enc) (C := Try.checked) false ⟨#[], #[.slice none 0 0, .int .i64 0, .int .u32 0], []⟩ 8 (by kernel_rfl) (by kernel_rfl) (by kernel_rfl) (by kernel_rfl)) ?_
  intro W base args ds gs before hval0 hW hcnd _
  have hval : ∀ (j : Nat) t v, Try.f10.params[j]? = some t → args[j]? = some v → Value.okWide Try.prog W .any base t v := hval0
  have hW' := hW
  obtain ⟨p, q, hA0, hV, rfl, hfz, hnd⟩ := hW
  have hA : DataW.TrodAll enc Try.prog W 0 (fun _ => true) true Try.f10.params.toList args.toList ds p := hA0
  rw [Try.params10] at hA hval
  obtain ⟨v0, vs0, d0, ds0, p0, q0, hargs, rfl, rfl, h0, r0⟩ := trodAll_cons hA
  obtain ⟨v1, vs1, d1, ds1, p1, q1, rfl, rfl, rfl, h1, r1⟩ := trodAll_cons r0
  obtain ⟨v2, vs2, d2, ds2, p2, q2, rfl, rfl, rfl, h2, r2⟩ := trodAll_cons r1
  obtain ⟨rfl, rfl, rfl⟩ := trodAll_nil r2
  obtain rfl : args = #[v0, v1, v2] := by cases args; simp_all
  obtain ⟨rfl, rfl⟩ := trodVars_none hV
  obtain ⟨l0, s0, e0⟩ := open_bytes Try.underlying22 Try.underlying5 (by kernel_rfl) (hval 0 22 v0 rfl rfl) h0
  obtain ⟨a1, rfl, _, _, w1⟩ := open_int Try.underlying3 (hval 1 3 v1 rfl rfl) h1
  have b1 := bounds_i64 w1
  obtain ⟨a2, rfl, _, _, w2⟩ := open_int Try.underlying31 (hval 2 31 v2 rfl rfl) h2
  have b2 := bounds_u32 w2
  refine (walk v0 l0 a1 a2 W s0 b1.1 b1.2 b2.1 b2.2).mono fun e W' ⟨he, hb⟩ => ?_
  subst he
  exact ⟨_, rfl, law_post laidOut (by kernel_rfl) rfl (by kernel_rfl) Try.underlying4 rfl rfl rfl hW' hb⟩

theorem proved : Rows.CrcBytesSaid :=
  OpenClaim.holds_of_wide 10 Try.f10 rfl rfl rfl rfl rfl rfl rfl ⟨rfl, rfl, rfl, rfl, rfl⟩ rfl rfl rfl rfl rfl (by kernel_rfl) Try.func10 (by kernel_rfl)
    (of_decide_eq_true (by kernel_rfl)) (by unfold Func.isWrapper; first | (rw [if_pos (by decide +kernel)]; kernel_rfl) | (rw [if_neg (by decide +kernel)]; exact ⟨rfl, rfl⟩))
    (fun os started H enc _ => lifted os started H enc)
end Bytes
end Go.Proofs.Ytjibednmdnnpbaa.Crc
