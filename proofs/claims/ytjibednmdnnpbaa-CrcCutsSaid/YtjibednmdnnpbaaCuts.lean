/- CrcCuts: for all bytes the statement's function tells true and turns nothing that was there. No condition. -/
import Derived.Test.YtjibednmdnnpbaaKnown2
namespace Go.Proofs.Ytjibednmdnnpbaa.Crc
open Go.ChangeShapes Go.WideShapes Go.ChangeAt Go.RowKit Go.Sort
set_option linter.unusedVariables false
namespace Cuts
theorem open_short (v : Value) (l : List UInt8) (w : World) (hv : Sl w w.heap.size v l.length (bs l)) (hl : l.length < 4) : Calls Try.prog 29 #[v] w fun e w' => e = .returned (.tuple #[.slice none 0 0, .int .i64 3]) ∧ w = w' := by
  obtain ⟨A, c, rfl, hc1, hc2⟩ := hv.form
  have hlx : (l.length : Int) < 4 := by omega
  go_enter Try.func29, Try.ntmps29
  go_wp2
  go_ret2
  exact ⟨rfl, rfl⟩
theorem walk (v : Value) (l : List UInt8) (w : World) (hv : Sl w w.heap.size v l.length (bs l)) :
    Calls Try.prog 14 #[v] w fun e w' => e = .returned (.bool true) ∧ Below w.heap.size w w' := by
  obtain ⟨A, c, rfl, hc1, hc2⟩ := hv.form
  have hc2' : c ≤ 9223372036854775807 := hc2
  clear hc2
  by_cases hll : l.length > 3000
  · go_enter Try.func14, Try.ntmps14
    go_wp2_with (go_at_call 28; refine (known2_any _).mono ?_; rintro e w1 ⟨rfl, hb1⟩)
    all_goals go_ret
    all_goals exact ⟨rfl, hb1⟩
  · have hl4 : (l.length : Int) ≤ 3000 := by omega
    by_cases h3 : l.length > 3
    · have hl3 : 3 < (l.length : Int) := by omega
      have hc3 : 3 ≤ (c : Int) := by omega
      go_enter Try.func14, Try.ntmps14
      go_wp2_with (first
        | (go_at_call 28; refine (known2_any _).mono ?_; rintro e w1 ⟨rfl, hb1⟩; have hv1 := hv.now hb1)
        | (go_at_call 31; refine (seal_any _ l _ hv1 (by omega)).mono ?_; rintro e w2 ⟨v2, rfl, hown2, hb2⟩; have hv2 := hv1.now hb2; have hb12 := bchain hb1 hb2; have hs2 := Sl.of_own (ownsRow_len hown2 (sealS_len l) rfl)
           obtain ⟨A2, c2, rfl, hd1, hd2⟩ := hs2.form
           unfold maxLen at hd2)
        | (go_at_call 29; refine (open_short _ (l.take 3) _ (by have := hv2.take (m := 3) (by omega); rw [bs, ← List.map_take] at this; rw [show (l.take 3).length = 3 by simp; omega]; exact this) (by simp; omega)).mono ?_; rintro e w3 ⟨rfl, rfl⟩))
      have k1 : ∀ n, (convert 22 9 (.slice A2 l.length c2)).run Try.prog (w2.drewN n) = .ok (.string ⟨l.toArray⟩) (w2.drewN n) := fun n =>
        bytes_str _ _ _ _ Try.underlying22 Try.underlying5 Try.underlying9 _ _ l _ (by have := (hs2.take (m := l.length) (by omega)).drewN n; rw [bs, ← List.map_take, show (sealS l).take l.length = l by simp [sealS]] at this; exact this)
      have k2 : ∀ n, (convert 22 9 (.slice A l.length c)).run Try.prog (w2.drewN n) = .ok (.string ⟨l.toArray⟩) (w2.drewN n) := fun n =>
        bytes_str _ _ _ _ Try.underlying22 Try.underlying5 Try.underlying9 _ _ l _ (hv2.drewN n)
      have hx1 : (l.length : Int) ≤ (c2 : Int) := by omega
      have hx2 : (c2 : Int) ≤ 9223372036854775807 := by omega
      have hwr : IntKind.i64.wrap ((l.length : Int) + 4) = (l.length : Int) + 4 := IntWalk.i64_in _ (by omega)
      go_quiet (fail)
      clear hwr k1 k2
      go_wp2
      go_ret
      exact ⟨rfl, below_drewN hb12 _⟩
    · have hl3 : (l.length : Int) ≤ 3 := by omega
      go_enter Try.func14, Try.ntmps14
      go_wp2_with (first
        | (go_at_call 28; refine (known2_any _).mono ?_; rintro e w1 ⟨rfl, hb1⟩; have hv1 := hv.now hb1)
        | (go_at_call 31; refine (seal_any _ l _ hv1 (by omega)).mono ?_; rintro e w2 ⟨v2, rfl, hown2, hb2⟩; have hv2 := hv1.now hb2; have hb12 := bchain hb1 hb2; have hs2 := Sl.of_own (ownsRow_len hown2 (sealS_len l) rfl)
           obtain ⟨A2, c2, rfl, hd1, hd2⟩ := hs2.form
           unfold maxLen at hd2)
        | (go_at_call 29; refine (open_short _ l _ hv2 (by omega)).mono ?_; rintro e w3 ⟨rfl, rfl⟩))
      have k1 : ∀ n, (convert 22 9 (.slice A2 l.length c2)).run Try.prog (w2.drewN n) = .ok (.string ⟨l.toArray⟩) (w2.drewN n) := fun n =>
        bytes_str _ _ _ _ Try.underlying22 Try.underlying5 Try.underlying9 _ _ l _ (by have := (hs2.take (m := l.length) (by omega)).drewN n; rw [bs, ← List.map_take, show (sealS l).take l.length = l by simp [sealS]] at this; exact this)
      have k2 : ∀ n, (convert 22 9 (.slice A l.length c)).run Try.prog (w2.drewN n) = .ok (.string ⟨l.toArray⟩) (w2.drewN n) := fun n =>
        bytes_str _ _ _ _ Try.underlying22 Try.underlying5 Try.underlying9 _ _ l _ (hv2.drewN n)
      have hx1 : (l.length : Int) ≤ (c2 : Int) := by omega
      have hx2 : (c2 : Int) ≤ 9223372036854775807 := by omega
      have hwr : IntKind.i64.wrap ((l.length : Int) + 4) = (l.length : Int) + 4 := IntWalk.i64_in _ (by omega)
      go_quiet (fail)
      clear hwr k1 k2
      go_wp2
      go_ret
      exact ⟨rfl, below_drewN hb12 _⟩
set_option maxRecDepth 100000 in
theorem lifted (os : Os) (started : os.Started) (H : Type) (enc : TypeId × Value → H) :
    ReturnsInHanded {} Try.checked os 14 .any (Rows.crcCutsSpec.pre6 enc Try.prog Try.f14 Rows.crcCutsRow.domain false) (Rows.crcCutsSpec.post enc Try.prog Try.f14 false true false false) := by
  refine returnsInHanded_of_change (C := Try.checked) own started (by kernel_rfl) Try.func14
    (ChangeSpec.witness6 (enc := enc) (C := Try.checked) false ⟨#[], #[.slice none 0 0], []⟩ 8 (by kernel_rfl) (by kernel_rfl) (by kernel_rfl) (by kernel_rfl)) ?_
  intro W base args ds gs before hval0 hW hcnd _
  have hval : ∀ (j : Nat) t v, Try.f14.params[j]? = some t → args[j]? = some v → Value.okWide Try.prog W .any base t v := hval0
  have hW' := hW
  obtain ⟨p, q, hA0, hV, rfl, hfz, hnd⟩ := hW
  have hA : DataW.TrodAll enc Try.prog W 0 (fun _ => true) true Try.f14.params.toList args.toList ds p := hA0
  rw [Try.params14] at hA hval
  obtain ⟨v0, vs0, d0, ds0, p0, q0, hargs, rfl, rfl, h0, r0⟩ := trodAll_cons hA
  obtain ⟨rfl, rfl, rfl⟩ := trodAll_nil r0
  obtain rfl : args = #[v0] := by cases args; simp_all
  obtain ⟨rfl, rfl⟩ := trodVars_none hV
  obtain ⟨l0, s0, e0⟩ := open_bytes Try.underlying22 Try.underlying5 (by kernel_rfl) (hval 0 22 v0 rfl rfl) h0
  refine (walk v0 l0 W s0).mono fun e W' ⟨he, hb⟩ => ?_
  subst he
  exact ⟨_, rfl, law_post laidOut (by kernel_rfl) rfl (by kernel_rfl) Try.underlying4 rfl rfl rfl hW' hb⟩

theorem proved : Rows.CrcCutsSaid :=
  OpenClaim.holds_of_wide 14 Try.f14 rfl rfl rfl rfl rfl rfl rfl ⟨rfl, rfl, rfl, rfl, rfl⟩ rfl rfl rfl rfl rfl (by kernel_rfl) Try.func14 (by kernel_rfl)
    (of_decide_eq_true (by kernel_rfl)) (by unfold Func.isWrapper; first | (rw [if_pos (by decide +kernel)]; kernel_rfl) | (rw [if_neg (by decide +kernel)]; exact ⟨rfl, rfl⟩))
    (fun os started H enc _ => lifted os started H enc)
end Cuts
end Go.Proofs.Ytjibednmdnnpbaa.Crc
