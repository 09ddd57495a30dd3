/- BinPads: for all bytes and every multiple the statement's function tells true and turns nothing that was there. No condition. -/
import Derived.Test.YtjibednmdnnpbaaKnown1
import Derived.BigQuiet
import Derived.IntWalk
import Derived.Deep.QuietTactic
namespace Go.Proofs.Ytjibednmdnnpbaa
open Go.ChangeShapes Go.WideShapes Go.ChangeAt Go.RowKit
set_option linter.unusedVariables false
namespace Pads
theorem pad_facts (l : List UInt8) (m : Nat) (h : 1 ≤ m) (h' : m ≤ 4096) :
    (padS l m).length % m = 0 ∧ (padS l m).length < l.length + m ∧ l.length ≤ (padS l m).length ∧ (padS l m).take l.length = l ∧ (∀ i, l.length ≤ i → i < (padS l m).length → (padS l m)[i]? = some 0) ∧ padS (padS l m) m = padS l m := by
  have hp : ∀ x : List UInt8, padS x m = x ++ List.replicate (padN x.length m) 0 := fun x => by unfold padS; rw [if_neg (by omega)]; simp
  have h1 : (l.length + padN l.length m) % m = 0 := (padN_zero (n := l.length) (t := m) (by omega) (Nat.le_refl _)).2 rfl
  have h2 := padN_lt (n := l.length) (t := m) (by omega)
  have hlen : (padS l m).length = l.length + padN l.length m := by rw [hp]; simp
  refine ⟨by rw [hlen]; exact h1, by omega, by omega, by rw [hp]; simp, fun i hi hj => ?_, ?_⟩
  · rw [hp, List.getElem?_append_right hi, List.getElem?_replicate, if_pos (by omega)]
  · rw [hp (padS l m)]
    have h3 : padN (padS l m).length m = 0 := by
      unfold padN
      rw [hlen, h1, Nat.sub_zero, Nat.mod_self]
    rw [h3]; simp
theorem walk (v : Value) (l : List UInt8) (t : Int) (w : World) (hv : Sl w w.heap.size v l.length (bs l)) (ht1 : -9223372036854775808 ≤ t) (ht2 : t ≤ 9223372036854775807) :
    Calls Try.prog 8 #[v, .int .i64 t] w fun e w' => e = .returned (.bool true) ∧ Below w.heap.size w w' := by
  obtain ⟨i0, hi, hz0, hz1, hz2⟩ := info_parts info_u8
  obtain ⟨A, c, rfl, hc1, hc2⟩ := hv.form
  unfold maxLen at hc2
  by_cases hn : l.length > 3000 ∨ t < 1 ∨ t > 4096
  · go_enter Try.func8, Try.ntmps8
    go_wp2_with (go_at_call 15; refine (known1_any _).mono ?_; rintro e w1 ⟨rfl, hb1⟩)
    all_goals go_ret
    all_goals exact ⟨rfl, hb1⟩
  · obtain ⟨m, rfl⟩ : ∃ m : Nat, t = m := ⟨t.toNat, by omega⟩
    have hm1 : 1 ≤ m := by omega
    have hm8 : m ≤ 4096 := by omega
    have hll : l.length ≤ 3000 := by omega
    clear hn ht1 ht2
    go_enter Try.func8, Try.ntmps8
    go_wp2_with (first
      | (go_at_call 15; refine (known1_any _).mono ?_; rintro e w1 ⟨rfl, hb1⟩; have hv1 := (hv.below hb1).more hb1.size)
      | (at_builtin; refine wpList_append_sl _ rfl (.tmp 20) (.tmp 21) _ rfl w1.heap.size 5 i0 _ Try.underlying22 hi hz0 hz1 (by omega) rfl _ 0 [] rfl (World.ownsRow_made w1 #[] 0 (Nat.le_refl _) (by unfold maxLen; omega) rfl) w1.heap.size _ l.length (bs l) rfl (hv1.alloc (Nat.le_refl _) _) bs_one (by omega) (by simp) ?_; intro v2 w2 hown2 hg2 hat2)
      | (go_at_call 20; refine (pad_any _ l m _ (Sl.of_own (ownsRow_len hown2 (by omega) (List.nil_append _))) (by omega) (by omega) (by omega)).mono ?_; rintro e w3 ⟨v3, rfl, hown3, hb3⟩))
    have hb2 : Below w.heap.size w w2 := below_own (hb1.alloc hb1.size _) hg2 (by have := hb1.size; simp; omega) (fun k hk => by have := hb1.size; obtain rfl := Option.some.inj hk; exact this)
    have hb4 := hb2.trans (hb3.mono hb2.size)
    have hv3 := hv.below hb4
    clear hown2 hg2 hat2 hv1
    obtain ⟨f1, f2, f3, f4, f5, f6⟩ := pad_facts l m hm1 hm8
    generalize hX : padS l m = X at *
    clear hX
    have hs3 := Sl.of_own hown3
    obtain ⟨A3, c3, rfl, h31, h32⟩ := hs3.form
    unfold maxLen at h32
    have k1 : ∀ n, (convert 22 9 (.slice A3 l.length c3)).run Try.prog (w3.drewN n) = .ok (.string ⟨l.toArray⟩) (w3.drewN n) := fun n =>
      bytes_str _ _ _ _ Try.underlying22 Try.underlying5 Try.underlying9 _ _ l _ (by have := (hs3.take f3).drewN n; rw [bs, ← List.map_take, f4] at this; exact this)
    have k2 : ∀ n, (convert 22 9 (.slice A l.length c)).run Try.prog (w3.drewN n) = .ok (.string ⟨l.toArray⟩) (w3.drewN n) := fun n =>
      bytes_str _ _ _ _ Try.underlying22 Try.underlying5 Try.underlying9 _ _ l _ (hv3.drewN n)
    have hr0 : ((X.length : Int).tmod (m : Int)) = 0 := by
      rw [Int.tmod_eq_emod_of_nonneg (by omega)]
      have : ((X.length % m : Nat) : Int) = 0 := by omega
      rw [Int.natCast_emod] at this
      exact this
    have hm0 : ¬ m = 0 := by omega
    have hd : decide ((m : Int) ≤ (X.length : Int) - (l.length : Int)) = false := decide_eq_false (by omega)
    have hXl : (X.length : Int) ≤ 8000 := by omega
    have hlc : (l.length : Int) ≤ (c3 : Int) := by omega
    have hwr : IntKind.i64.wrap ((X.length : Int) - (l.length : Int)) = (X.length : Int) - (l.length : Int) := IntWalk.i64_in _ (by omega)
    go_quiet (fail)
    clear hwr hd hr0 hm0 k1 k2
    go_wp2
    go_loop [6] (fun i => ∃ k : Nat, l.length ≤ k ∧ k ≤ X.length ∧ i = .int .i64 k) (fun i => X.length - (intOf i).toNat)
    case atStart => exact ⟨l.length, by omega, by omega, rfl⟩
    case round =>
      obtain ⟨k, hk, hk', rfl⟩ := hrel
      by_cases hlt : k < X.length
      · obtain ⟨b, off, rfl, hb, hcell⟩ := hs3.at_ (by omega)
        have hx : w3.cell? ⟨b, off + k, none⟩ = some (.int .u8 0) := by
          have h0 := f5 k hk hlt
          exact hcell _ _ (by simp [bs, h0])
        clear hcell f5
        go_wp2
        go_round
        case rel => exact ⟨k + 1, by omega, by omega, by go_num⟩
        case measure => simp [intOf]; omega
      · go_wp2_with (go_at_call 20; refine (pad_any _ X m _ (hs3.drewN _) (by omega) (by omega) (by omega)).mono ?_; rintro e w5 ⟨v5, rfl, hown5, hb5⟩; rw [f6] at hown5; obtain ⟨A5, c5, rfl, _, _⟩ := (Sl.of_own hown5).form)
        go_ret
        exact ⟨rfl, (below_drewN hb4 _).trans (hb5.mono hb4.size)⟩
set_option maxRecDepth 100000 in
theorem lifted (os : Os) (started : os.Started) (H : Type) (enc : TypeId × Value → H) :
    ReturnsInHanded {} Try.checked os 8 .any (Rows.binPadsSpec.pre6 enc Try.prog Try.f8 Rows.binPadsRow.domain false) (Rows.binPadsSpec.post enc Try.prog Try.f8 false true false false) := by
  refine returnsInHanded_of_change (C := Try.checked) own started (by kernel_rfl) Try.func8
    (ChangeSpec.witness6 (enc := enc) (C := Try.checked) false ⟨#[], #[.slice none 0 0, .int .i64 0], []⟩ 8 (by kernel_rfl) (by kernel_rfl) (by kernel_rfl) (by kernel_rfl)) ?_
  intro W base args ds gs before hval0 hW hcnd _
  have hval : ∀ (j : Nat) t v, Try.f8.params[j]? = some t → args[j]? = some v → Value.okWide Try.prog W .any base t v := hval0
  have hW' := hW
  obtain ⟨p, q, hA0, hV, rfl, hfz, hnd⟩ := hW
  have hA : DataW.TrodAll enc Try.prog W 0 (fun _ => true) true Try.f8.params.toList args.toList ds p := hA0
  rw [Try.params8] at hA hval
  obtain ⟨v0, vs0, d0, ds0, p0, q0, hargs, rfl, rfl, h0, r0⟩ := trodAll_cons hA
  obtain ⟨v1, vs1, d1, ds1, p1, q1, rfl, rfl, rfl, h1, r1⟩ := trodAll_cons r0
  obtain ⟨rfl, rfl, rfl⟩ := trodAll_nil r1
  obtain rfl : args = #[v0, v1] := by cases args; simp_all
  obtain ⟨rfl, rfl⟩ := trodVars_none hV
  obtain ⟨l0, s0, e0⟩ := open_bytes Try.underlying22 Try.underlying5 (by kernel_rfl) (hval 0 22 v0 rfl rfl) h0
  obtain ⟨a1, rfl, _, _, w1⟩ := open_int Try.underlying3 (hval 1 3 v1 rfl rfl) h1
  have b1 := bounds_i64 w1
  refine (walk v0 l0 a1 W s0 b1.1 b1.2).mono fun e W' ⟨he, hb⟩ => ?_
  subst he
  exact ⟨_, rfl, law_post laidOut (by kernel_rfl) rfl (by kernel_rfl) Try.underlying4 rfl rfl rfl hW' hb⟩

theorem proved : Rows.BinPadsSaid :=
  OpenClaim.holds_of_wide 8 Try.f8 rfl rfl rfl rfl rfl rfl rfl ⟨rfl, rfl, rfl, rfl, rfl⟩ rfl rfl rfl rfl rfl (by kernel_rfl) Try.func8 (by kernel_rfl)
    (of_decide_eq_true (by kernel_rfl)) (by unfold Func.isWrapper; first | (rw [if_pos (by decide +kernel)]; kernel_rfl) | (rw [if_neg (by decide +kernel)]; exact ⟨rfl, rfl⟩))
    (fun os started H enc _ => lifted os started H enc)
end Pads
end Go.Proofs.Ytjibednmdnnpbaa
