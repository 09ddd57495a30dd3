/- Seal and Open of package crc, and of the document's second telling: contracts. -/
import Derived.Test.YtoogmdokcndieaaSealP
import Derived.BigQuiet
import Derived.IntWalk
import Derived.Deep.QuietTactic
import Derived.StillTailTactics
import Derived.Deep.RegionWith
import Derived.OwnWalk
import Derived.Deep.DeepCutAuto
namespace Go.Proofs.Ytoogmdokcndieaa.Crc
open Go.ChangeShapes Go.WideShapes Go.ChangeAt Go.RowKit
set_option linter.unusedVariables false
set_option maxRecDepth 100000
set_option linter.unusedSimpArgs false
set_option maxHeartbeats 4000000 in
theorem ropen_any (v : Value) (l : List UInt8) (w : World) (hv : Sl w w.heap.size v l.length (bs l)) (hl : l.length ≤ 8796093022208) :
    Calls Try.prog 8 #[v] w fun e w' => ∃ v', e = .returned (.tuple #[v', .int .i64 ((openS l).2 : Nat)]) ∧ Sl w' w'.heap.size v' (openS l).1.length (bs (openS l).1) ∧ Below w.heap.size w w' := by
  obtain ⟨i0, hi, hz0, hz1, hz2⟩ := info_parts info_u8
  have hv0 := hv
  obtain ⟨A, c, rfl, hc1, hc2⟩ := hv.form
  unfold maxLen at hc2
  have hlx : (l.length : Int) ≤ 8796093022208 := by omega
  by_cases h4 : l.length < 4
  · have ho : openS l = ([], 3) := by unfold openS; rw [if_pos h4]
    have HO := Lib.hid ho
    clear ho
    go_enter Try.func8, Try.ntmps8
    go_wp2
    go_ret2
    rw [HO.out]
    exact ⟨_, rfl, Sl.nil_, Below.refl _ _⟩
  · obtain ⟨n, hn⟩ : ∃ n, l.length = n + 4 := ⟨l.length - 4, by omega⟩
    obtain ⟨b, off, rfl, hb, hcell⟩ := hv.at_ (by omega)
    have htk : (l.take n).length = n := by simp; omega
    have hs1 : Sl w w.heap.size (.slice (some ⟨b, off, none⟩) n c) (l.take n).length (bs (l.take n)) := by
      have h := hv.take (m := n) (by omega)
      rw [bs, ← List.map_take] at h
      rw [htk]
      exact h
    have hs4 : Sl w w.heap.size (.slice (some ⟨b, off + n, none⟩) 4 (c - n)) 4 (bs (l.drop n)) := by
      refine ⟨by simp; omega, _, _, rfl, by omega, by unfold maxLen; omega, fun _ => ⟨b, off + n, rfl, hb, fun j u hu => ?_⟩⟩
      rw [Nat.add_assoc]
      refine hcell _ u ?_
      rw [← hu, bs, bs, List.map_drop, List.getElem?_drop]
    have hso : openS l = if leV (l.drop n) ≠ moreS 0 (l.take n) then ([], 4) else (l.take n, 0) := by
      unfold openS
      rw [if_neg h4, show l.length - 4 = n by omega]
    have hml := moreS_lt 0 (l.take n)
    have hcmp : (leV (l.drop n) = moreS 0 (l.take n)) ↔ le4 (moreS 0 (l.take n)) = l.drop n := by
      constructor
      · intro h
        rw [← h]
        have hd : l.drop n = [l[n]'(by omega), l[n + 1]'(by omega), l[n + 2]'(by omega), l[n + 3]'(by omega)] := by
          rw [List.drop_eq_getElem_cons (by omega), List.drop_eq_getElem_cons (by omega), List.drop_eq_getElem_cons (by omega), List.drop_eq_getElem_cons (by omega), List.drop_eq_nil_of_le (by omega)]
        rw [hd]
        exact le4_leV _ _ _ _
      · intro h
        rw [← h, leV_le4 _ hml]
    clear hcell
    generalize hDD : l.drop n = D at *
    generalize l.take n = T at *
    generalize hMM : moreS 0 T = M at *
    rw [hn] at hv0 hv
    have HN := Lib.hid hn
    have HM := Lib.hid hMM
    have HT := Lib.hid htk
    have hnc : n + 4 ≤ c := by omega
    have hnl : n ≤ 8796093022208 := by omega
    have k1 : ∀ k, (convert 28 9 (.slice (some ⟨b, off + n, none⟩) 4 (c - n))).run Try.prog (w.drewN k) = .ok (.string ⟨D.toArray⟩) (w.drewN k) := fun k =>
      bytes_str _ _ _ _ Try.underlying28 Try.underlying5 Try.underlying9 _ _ D _ (hs4.drewN k)
    clear hn hlx h4 hc1 hMM htk hDD
    rw [HN.out]
    go_enter Try.func8, Try.ntmps8
    go_wp2
    have hwn : IntKind.i64.wrap (n : Int) = n := IntWalk.i64_in _ (by omega)
    have k0 : (convert 28 9 (.slice (some ⟨b, off + n, none⟩) 4 (c - n))).run Try.prog w.drew = .ok (.string ⟨D.toArray⟩) w.drew := k1 1
    have k01 : (convert 28 9 (.slice (some ⟨b, off + n, none⟩) 4 (c - n))).run Try.prog (w.drewN 1) = .ok (.string ⟨D.toArray⟩) (w.drewN 1) := k1 1
    have HC := Lib.hid hcmp
    have HSO := Lib.hid hso
    clear k1 hcmp hso
    go_cut [23] (fun s wx => s = .bool (!(le4 M == D)) ∧ Below w.heap.size w wx)
    case first =>
      go_region_with (first
        | (go_at_call 16; refine (rsum_any _ T _ (hs1.drewN _)).mono ?_; rw [HM.out]; rintro e w1 ⟨rfl, rfl⟩)
        | (go_at_call 15; refine (four_any M _ hml).mono ?_; rintro e w3 ⟨v3, rfl, hown3, hb3⟩
           have hb4 : Below w.heap.size w w3 := (below_drewN (Below.refl _ w) _).trans hb3
           have k2 : (convert 28 9 (.slice (some ⟨b, off + n, none⟩) 4 (c - n))).run Try.prog w3 = .ok (.string ⟨D.toArray⟩) w3 :=
             bytes_str _ _ _ _ Try.underlying28 Try.underlying5 Try.underlying9 _ _ D _ (hs4.below hb4)
           have k3 : (convert 28 9 v3).run Try.prog w3 = .ok (.string ⟨(le4 M).toArray⟩) w3 :=
             bytes_str _ _ _ _ Try.underlying28 Try.underlying5 Try.underlying9 _ _ (le4 M) _ (Sl.of_own hown3)))
      all_goals (go_wp2_with fail)
      all_goals go_meet
      all_goals exact ⟨rfl, hb4⟩
    case rest =>
      obtain ⟨rfl, hbw⟩ := hcut
      clear k0 k01 hwn
      by_cases hVM : leV D = M
      · have hq : (le4 M == D) = true := by rw [beq_iff_eq]; exact HC.out.1 hVM
        have ho : openS l = (T, 0) := by rw [HSO.out, if_neg (by simpa using hVM)]
        have HO := Lib.hid ho
        clear ho hVM
        rw [hq]
        go_wp2_with (at_builtin; refine wpList_append_sl _ rfl (.tmp 24) (.tmp 25) _ rfl wc.heap.size 5 i0 _ Try.underlying28 hi hz0 hz1 (by omega) rfl _ 0 [] rfl (World.ownsRow_made wc #[] 0 (Nat.le_refl _) (by unfold maxLen; omega) rfl) w.heap.size _ T.length (bs T) rfl ((hs1.below hbw).alloc hbw.size _) bs_one (by rw [HT.out]; omega) (by simp) ?_; intro v2 w2 hown2 hg2 hat2)
        go_ret2
        rw [HO.out]
        have hb2 : Below w.heap.size w w2 := below_own (hbw.alloc hbw.size _) hg2 (by have := hbw.size; simp; omega) (fun k hk => by have := hbw.size; obtain rfl := Option.some.inj hk; exact this)
        exact ⟨_, rfl, Sl.of_own (ownsRow_len hown2 (by simp) (by simp)), hb2⟩
      · have hq : (le4 M == D) = false := by rw [beq_eq_false_iff_ne]; exact fun e => hVM (HC.out.2 e)
        have ho : openS l = ([], 4) := by rw [HSO.out, if_pos hVM]
        have HO := Lib.hid ho
        clear ho hVM
        rw [hq]
        go_wp2
        go_ret2
        rw [HO.out]
        exact ⟨_, rfl, Sl.nil_, hbw⟩
end Go.Proofs.Ytoogmdokcndieaa.Crc
