/- CrcRows: for all lists of byte lists the statement's function tells true and turns nothing that was there. No condition. -/
import Derived.Test.YtjibednmdnnpbaaKnown2
import Derived.Test.YtjibednmdnnpbaaBase2
import Derived.Deep.AppendLies
namespace Go.Proofs.Ytjibednmdnnpbaa.Crc
open Go.ChangeShapes Go.WideShapes Go.ChangeAt Go.RowKit Go.Sort
set_option linter.unusedVariables false
namespace RowsC
theorem cat_next (L : List (List UInt8)) (k : Nat) (h : k < L.length) : (L.take (k + 1)).flatten = (L.take k).flatten ++ L[k] := by
  rw [List.take_succ_eq_append_getElem h, List.flatten_append]; simp
set_option maxHeartbeats 1000000 in
set_option maxRecDepth 100000 in
theorem walk (v : Value) (L : List (List UInt8)) (vs : List Value) (w : World) (hv : Sl w w.heap.size v L.length vs) (hu : Rows2 w w.heap.size vs L) :
    Calls Try.prog 13 #[v] w fun e w' => e = .returned (.bool true) ∧ Below w.heap.size w w' := by
  obtain ⟨i0, hi, hz0, hz1, hz2⟩ := info_parts info_u8
  obtain ⟨A, c, rfl, hc1, hc2⟩ := hv.form
  have hc2' : c ≤ 9223372036854775807 := hc2
  clear hc2
  by_cases hll : L.length > 30
  · have hl4 : 30 < (L.length : Int) := by omega
    go_enter Try.func13, Try.ntmps13
    go_wp2_with (go_at_call 28; refine (known2_any _).mono ?_; rintro e w1 ⟨rfl, hb1⟩)
    all_goals go_ret
    all_goals exact ⟨rfl, hb1⟩
  · have hl4 : (L.length : Int) ≤ 30 := by omega
    clear hll
    go_enter Try.func13, Try.ntmps13
    go_wp2_with (first
      | (go_at_call 28; refine (known2_any _).mono ?_; rintro e w1 ⟨rfl, hb1⟩)
      | (go_at_call 32; refine (sum_none _).mono ?_; rintro e w2 ⟨rfl, hb2⟩))
    have hb12 := bchain hb1 hb2
    have hv2 := hv.now hb12
    go_loopw [3, 4, 5] (fun s a i wr => ∃ k : Nat, k ≤ L.length ∧ i = .int .i64 k ∧ s = .int .u32 (moreS 0 (L.take k).flatten : Nat) ∧ wr.ownsRow w2.heap.size 5 1 a (L.take k).flatten.length (bs (L.take k).flatten) ∧ (L.take k).flatten.length ≤ 300 * k ∧ Below w2.heap.size w2 wr) (fun _ _ i _ => L.length - (intOf i).toNat)
    case atStart => exact ⟨0, by omega, rfl, by rw [show (List.take 0 L).flatten = [] by simp, moreS_nil 0 (by omega)]; rfl, World.ownsRow_nil _ _ _ _, by simp, Below.refl _ _⟩
    case round =>
      obtain ⟨k, hk, rfl, rfl, hown, hlen, hb3⟩ := hrel
      obtain ⟨Aa, ca, rfl, ha1, ha2⟩ := (Sl.of_own hown).form
      by_cases hlt : k < L.length
      · obtain ⟨b, off, rfl, hb, hcell⟩ := hv2.at_ (by omega)
        have hvl : k < vs.length := by rw [hu.1]; exact hlt
        have hsk := (hu.2 k hvl hlt).now (hb12.trans (hb3.mono hb12.size))
        have c1 : wr.cell? ⟨b, off + k, none⟩ = some vs[k] := (hb3.cell (p := ⟨b, off + k, none⟩) hb).trans (hcell _ _ (List.getElem?_eq_getElem hvl))
        have hcn := cat_next L k hlt
        have HC := Lib.hid hcn
        clear hcell hcn
        generalize vs[k] = vk at *
        generalize L[k] = lk at *
        generalize (L.take k).flatten = cat at *
        obtain ⟨Ak, ck, rfl, hk1, hk2⟩ := hsk.form
        unfold maxLen at hk2
        have hkl : (k : Int) < L.length := by omega
        by_cases h300 : lk.length > 300
        · have h300' : 300 < (lk.length : Int) := by omega
          go_wp2
          go_ret
          exact ⟨rfl, hb12.trans (hb3.mono hb12.size)⟩
        · have h300' : (lk.length : Int) ≤ 300 := by omega
          have hms := moreS_app 0 cat lk
          have HM := Lib.hid hms
          have hml := moreS_lt 0 cat
          have hma := more_any (moreS 0 cat) (.slice Ak lk.length ck) lk wr hml hsk
          rw [hms] at hma
          have HMA := Lib.hid hma
          clear hms hma
          go_wp2_with (first
            | (go_at_call 34; refine HMA.out.mono ?_; rintro e w4 ⟨rfl, hb4⟩
               have hown4 := own_below hown hb4
               have hsk4 := hsk.now hb4
               have c14 : w4.cell? ⟨b, off + k, none⟩ = some (.slice Ak lk.length ck) := (hb4.cell (p := ⟨b, off + k, none⟩) (World.block_lt_of_cell? wr _ c1)).trans c1)
            | (at_builtin; refine wpList_append_sl _ rfl (.tmp 34) (.tmp 38) _ rfl w2.heap.size 5 i0 _ Try.underlying22 hi hz0 hz1 (by omega) rfl _ cat.length (bs cat) rfl hown4 w4.heap.size _ lk.length (bs lk) rfl hsk4 bs_one (by omega) (by have := hb3.size; have := hb4.size; omega) ?_; intro v5 w5 hown5 hg5 hat5
               have hb5 : Below w2.heap.size w2 w5 := below_own (hb3.trans (hb4.mono hb3.size)) hg5 (by have := hb3.size; have := hb4.size; omega) (fun k hk => (hown4.lt k hk).1)
               rw [← bs_app] at hown5
               have hown6 := ownsRow_len hown5 (show cat.length + lk.length = (cat ++ lk).length by simp) rfl
               have hs6 := Sl.of_own hown6
               obtain ⟨A6, c6, rfl, _, _⟩ := hs6.form
               have hrs := rsum_any _ _ _ hs6
               rw [List.length_append] at hrs
               have HRS := Lib.hid hrs
               clear hrs)
            | (go_at_call 33; refine HRS.out.mono ?_; rintro e w7 ⟨rfl, rfl⟩))
          refine ⟨⟨k + 1, by omega, by go_num, by rw [HC.out], by rw [HC.out, ← List.length_append]; exact hown6, by rw [HC.out]; simp; omega, hb5⟩, by simp [intOf]; omega⟩
      · obtain rfl : k = L.length := by omega
        have hcat : (L.take L.length).flatten = L.flatten := by rw [List.take_length]
        rw [hcat] at hown hlen ha1 ⊢
        generalize L.flatten = cat at *
        have hs0 := Sl.of_own hown
        go_wp2_with (first
          | (go_at_call 31; (with_reducible refine (seal_any _ cat _ hs0 (by omega)).mono ?_); rintro e w4 ⟨v4, rfl, hown4, hb4⟩; have hs4 := Sl.of_own hown4)
          | (go_at_call 31; (with_reducible refine (seal_any _ (sealS cat) _ hs4 (by rw [sealS_len]; omega)).mono ?_); rintro e w5 ⟨v5, rfl, hown5, hb5⟩; have hs5 := Sl.of_own hown5))
        have ho1 := open_any v5 (sealS (sealS cat)) w5 hs5 (by rw [sealS_len, sealS_len]; omega)
        rw [open_seal] at ho1
        refine ho1.mono ?_
        rintro e w6 ⟨v6, rfl, hs6, hb6⟩
        go_wp2_with fail
        have ho2 := open_any v6 (sealS cat) w6 hs6 (by rw [sealS_len]; omega)
        rw [open_seal] at ho2
        refine ho2.mono ?_
        rintro e w7 ⟨v7, rfl, hs7, hb7⟩
        have hs0' := hs0.now (bchain hb4 (bchain hb5 (bchain hb6 hb7)))
        have k1 : (convert 22 9 v7).run Try.prog w7 = .ok (.string ⟨cat.toArray⟩) w7 := bytes_str _ _ _ _ Try.underlying22 Try.underlying5 Try.underlying9 _ _ cat _ hs7
        have k2 : (convert 22 9 (.slice Aa cat.length ca)).run Try.prog w7 = .ok (.string ⟨cat.toArray⟩) w7 := bytes_str _ _ _ _ Try.underlying22 Try.underlying5 Try.underlying9 _ _ cat _ hs0'
        have hbb := bchain hb4 (bchain hb5 (bchain hb6 hb7))
        clear ho1 ho2 hs0 hs4 hs5 hs6 hs7
        go_wp2
        go_ret
        exact ⟨rfl, hb12.trans ((hb3.trans (hbb.mono hb3.size)).mono hb12.size)⟩
set_option maxRecDepth 100000 in
theorem lifted (os : Os) (started : os.Started) (H : Type) (enc : TypeId × Value → H) :
    ReturnsInHanded {} Try.checked os 13 .any (Rows.crcRowsSpec.pre6 enc Try.prog Try.f13 Rows.crcRowsRow.domain false) (Rows.crcRowsSpec.post enc Try.prog Try.f13 false true false false) := by
  refine returnsInHanded_of_change (C := Try.checked) own started (by kernel_rfl) Try.func13
    (ChangeSpec.witness6 (enc := enc) (C := Try.checked) false ⟨#[], #[.slice none 0 0], []⟩ 8 (by kernel_rfl) (by kernel_rfl) (by kernel_rfl) (by kernel_rfl)) ?_
  intro W base args ds gs before hval0 hW hcnd _
  have hval : ∀ (j : Nat) t v, Try.f13.params[j]? = some t → args[j]? = some v → Value.okWide Try.prog W .any base t v := hval0
  have hW' := hW
  obtain ⟨p, q, hA0, hV, rfl, hfz, hnd⟩ := hW
  have hA : DataW.TrodAll enc Try.prog W 0 (fun _ => true) true Try.f13.params.toList args.toList ds p := hA0
  rw [Try.params13] at hA hval
  obtain ⟨v0, vs0, d0, ds0, p0, q0, hargs, rfl, rfl, h0, r0⟩ := trodAll_cons hA
  obtain ⟨rfl, rfl, rfl⟩ := trodAll_nil r0
  obtain rfl : args = #[v0] := by cases args; simp_all
  obtain ⟨rfl, rfl⟩ := trodVars_none hV
  obtain ⟨L0, vs0x, s0, u0⟩ := open_bytess Try.underlying50 (by kernel_rfl) Try.underlying22 Try.underlying5 (by kernel_rfl) (hval 0 50 v0 rfl rfl) h0
  refine (walk v0 L0 vs0x W s0 u0).mono fun e W' ⟨he, hb⟩ => ?_
  subst he
  exact ⟨_, rfl, law_post laidOut (by kernel_rfl) rfl (by kernel_rfl) Try.underlying4 rfl rfl rfl hW' hb⟩

theorem proved : Rows.CrcRowsSaid :=
  OpenClaim.holds_of_wide 13 Try.f13 rfl rfl rfl rfl rfl rfl rfl ⟨rfl, rfl, rfl, rfl, rfl⟩ rfl rfl rfl rfl rfl (by kernel_rfl) Try.func13 (by kernel_rfl)
    (of_decide_eq_true (by kernel_rfl)) (by unfold Func.isWrapper; first | (rw [if_pos (by decide +kernel)]; kernel_rfl) | (rw [if_neg (by decide +kernel)]; exact ⟨rfl, rfl⟩))
    (fun os started H enc _ => lifted os started H enc)
end RowsC
end Go.Proofs.Ytjibednmdnnpbaa.Crc
