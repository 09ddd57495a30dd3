/- Seal and Open of package crc, and of the document's second telling: contracts. -/
import Derived.Test.YtjibednmdnnpbaaCrc
import Derived.BigQuiet
import Derived.IntWalk
import Derived.Deep.QuietTactic
import Derived.StillTailTactics
import Derived.Deep.RegionWith
import Derived.OwnWalk
import Derived.Deep.DeepCutAuto
namespace Go.Proofs.Ytjibednmdnnpbaa.Crc
open Go.ChangeShapes Go.WideShapes Go.ChangeAt Go.RowKit
set_option linter.unusedVariables false

theorem four_cells (s : Nat) (hs : s < 4294967296) : (#[Value.int .u8 ((s : Int) % 256), .int .u8 ((s : Int) / 256 % 256), .int .u8 ((s : Int) / 65536 % 256), .int .u8 ((s : Int) / 16777216)] : Array Value).toList = bs (le4 s) := by
  have h0 : ((UInt8.ofNat s).toNat : Int) = (s : Int) % 256 := by rw [UInt8.toNat_ofNat']; omega
  have h1 : ((UInt8.ofNat (s / 256)).toNat : Int) = (s : Int) / 256 % 256 := by rw [UInt8.toNat_ofNat']; omega
  have h2 : ((UInt8.ofNat (s / 65536)).toNat : Int) = (s : Int) / 65536 % 256 := by rw [UInt8.toNat_ofNat']; omega
  have h3 : ((UInt8.ofNat (s / 16777216)).toNat : Int) = (s : Int) / 16777216 := by rw [UInt8.toNat_ofNat']; omega
  simp only [bs, le4, List.map_cons, List.map_nil, h0, h1, h2, h3]
theorem le4_len (s : Nat) : (le4 s).length = 4 := rfl

theorem four_any (s : Nat) (w : World) (hs : s < 4294967296) :
    Calls Try.prog 37 #[.int .u32 s] w fun e w' => ∃ v', e = .returned v' ∧ w'.ownsRow w.heap.size 5 1 v' 4 (bs (le4 s)) ∧ Below w.heap.size w w' := by
  go_enter Try.func37, Try.ntmps37
  go_wp2
  go_ret
  refine ⟨_, rfl, ?_, (Below.refl _ _).alloc (Nat.le_refl _) _⟩
  have h := World.ownsRow_lit (base := w.heap.size) (e := 5) (size := 1) w #[Value.int .u8 ((s : Int) % 256), .int .u8 ((s : Int) / 256 % 256), .int .u8 ((s : Int) / 65536 % 256), .int .u8 ((s : Int) / 16777216)] 4 (Nat.le_refl _) (by unfold maxLen; omega) rfl
  rw [four_cells s hs] at h
  exact h

theorem seal_any (v : Value) (l : List UInt8) (w : World) (hv : Sl w w.heap.size v l.length (bs l)) (hl : l.length ≤ 8796093022208) :
    Calls Try.prog 31 #[v] w fun e w' => ∃ v', e = .returned v' ∧ w'.ownsRow w.heap.size 5 1 v' (sealS l).length (bs (sealS l)) ∧ Below w.heap.size w w' := by
  obtain ⟨i0, hi, hz0, hz1, hz2⟩ := info_parts info_u8
  have hv0 := hv
  obtain ⟨A, c, rfl, hc1, hc2⟩ := hv.form
  have hlx : (l.length : Int) ≤ 8796093022208 := by omega
  have hml := moreS_lt 0 l
  have hss : sealS l = l ++ le4 (moreS 0 l) := rfl
  generalize hMM : moreS 0 l = M at *
  have HS := Lib.hid hss
  have HM := Lib.hid hMM
  clear hss hMM
  go_enter Try.func31, Try.ntmps31
  go_wp2_with (first
    | (go_at_call 32; refine (sum_any _ l _ hv0).mono ?_; rw [HM.out]; rintro e w1 ⟨rfl, hb1⟩)
    | (at_make; refine wpList_make_own _ rfl (.const (.int .i64 0)) (.tmp 9) 22 rfl w.heap.size 5 i0 _ 1 Try.underlying22 hi hz0 hz1 .i64 .i64 _ (l.length + 4) rfl rfl (by simp) (by rw [hz2]; omega) (by unfold maxLen; omega) hb1.size ?_; intro w2 hown2 hg2
       have hb2 : Below w.heap.size w w2 := hb1.grown hg2 hb1.size (fun k hk => by cases hk)
       have hv2 := (hv0.below hb2).more hb2.size)
    | (at_builtin; refine wpList_append_sl _ rfl (.tmp 11) (.tmp 12) _ rfl w.heap.size 5 i0 _ Try.underlying22 hi hz0 hz1 (by omega) rfl _ 0 [] rfl hown2 w2.heap.size _ l.length (bs l) rfl hv2 bs_one (by omega) hb2.size ?_; intro v3 w3 hown3 hg3 hat3
       have hb3 : Below w.heap.size w w3 := below_own hb2 hg3 hb2.size (fun k hk => (hown2.lt k hk).1)
       have hsl := Sl.fresh w3 #[Value.int .u8 ((M : Int) % 256), .int .u8 ((M : Int) / 256 % 256), .int .u8 ((M : Int) / 65536 % 256), .int .u8 ((M : Int) / 16777216)] 5 (n := 4) rfl (by unfold maxLen; omega)
       rw [four_cells M hml] at hsl
       have hown4 := hown3.alloc (.cells #[Value.int .u8 ((M : Int) % 256), .int .u8 ((M : Int) / 256 % 256), .int .u8 ((M : Int) / 65536 % 256), .int .u8 ((M : Int) / 16777216)] 5))
    | (at_builtin; refine wpList_append_sl _ rfl (.tmp 14) (.tmp 26) _ rfl w.heap.size 5 i0 _ Try.underlying22 hi hz0 hz1 (by omega) rfl _ (0 + l.length) ([] ++ bs l) rfl hown4 _ _ 4 (bs (le4 M)) rfl hsl bs_one (by omega) (by have := hb3.size; simp; omega) ?_; intro v5 w5 hown5 hg5 hat5))
  go_ret
  have hb5 : Below w.heap.size w w5 := below_own (hb3.alloc hb3.size _) hg5 (by have := hb3.size; simp; omega) (fun k hk => (hown4.lt k hk).1)
  exact ⟨_, rfl, ownsRow_len hown5 (by rw [HS.out, List.length_append, le4_len]; omega) (by rw [HS.out, bs_app]; rfl), hb5⟩

theorem rseal_any (v : Value) (l : List UInt8) (w : World) (hv : Sl w w.heap.size v l.length (bs l)) (hl : l.length ≤ 8796093022208) :
    Calls Try.prog 36 #[v] w fun e w' => ∃ v', e = .returned v' ∧ w'.ownsRow w.heap.size 5 1 v' (sealS l).length (bs (sealS l)) ∧ Below w.heap.size w w' := by
  obtain ⟨i0, hi, hz0, hz1, hz2⟩ := info_parts info_u8
  have hv0 := hv
  obtain ⟨A, c, rfl, hc1, hc2⟩ := hv.form
  have hml := moreS_lt 0 l
  have hss : sealS l = l ++ le4 (moreS 0 l) := rfl
  generalize hMM : moreS 0 l = M at *
  have HS := Lib.hid hss
  have HM := Lib.hid hMM
  clear hss hMM
  go_enter Try.func36, Try.ntmps36
  go_wp2_with (first
    | (at_builtin; refine wpList_append_sl _ rfl (.tmp 3) (.tmp 4) _ rfl w.heap.size 5 i0 _ Try.underlying22 hi hz0 hz1 (by omega) rfl _ 0 [] rfl (World.ownsRow_made w #[] 0 (Nat.le_refl _) (by unfold maxLen; omega) rfl) w.heap.size _ l.length (bs l) rfl (hv0.alloc (Nat.le_refl _) _) bs_one (by omega) (by simp) ?_; intro v2 w2 hown2 hg2 hat2
       have hb2 : Below w.heap.size w w2 := below_own ((Below.refl _ _).alloc (Nat.le_refl _) _) hg2 (by simp) (fun k hk => by obtain rfl := Option.some.inj hk; exact Nat.le_refl _)
       have hv2 := (hv0.below hb2).more hb2.size)
    | (go_at_call 33; refine (rsum_any _ l _ hv2).mono ?_; rw [HM.out]; rintro e w' ⟨rfl, rfl⟩)
    | (go_at_call 37; refine (four_any M _ hml).mono ?_; rintro e w3 ⟨v3, rfl, hown3, hb3⟩
       have hsl := Sl.of_own hown3
       have hown23 : w3.ownsRow w.heap.size 5 1 v2 (0 + l.length) ([] ++ bs l) := own_below hown2 hb3)
    | (at_builtin; refine wpList_append_sl _ rfl (.tmp 5) (.tmp 8) _ rfl w.heap.size 5 i0 _ Try.underlying22 hi hz0 hz1 (by omega) rfl _ (0 + l.length) ([] ++ bs l) rfl hown23 _ _ 4 (bs (le4 M)) rfl hsl bs_one (by omega) (by have := hb2.size; have := hb3.size; omega) ?_; intro v5 w5 hown5 hg5 hat5))
  go_ret
  have hb4 := hb2.trans (hb3.mono hb2.size)
  have hb5 : Below w.heap.size w w5 := below_own hb4 hg5 hb4.size (fun k hk => (hown23.lt k hk).1)
  exact ⟨_, rfl, ownsRow_len hown5 (by rw [HS.out, List.length_append, le4_len]; omega) (by rw [HS.out, bs_app]; rfl), hb5⟩

theorem leV_drop (l : List UInt8) (n : Nat) (h : l.length = n + 4) : leV (l.drop n) = (l[n]'(by omega)).toNat + 256 * ((l[n + 1]'(by omega)).toNat + 256 * ((l[n + 2]'(by omega)).toNat + 256 * (l[n + 3]'(by omega)).toNat)) := by
  have e : l.drop n = [l[n]'(by omega), l[n + 1]'(by omega), l[n + 2]'(by omega), l[n + 3]'(by omega)] := by
    rw [List.drop_eq_getElem_cons (by omega), List.drop_eq_getElem_cons (by omega), List.drop_eq_getElem_cons (by omega), List.drop_eq_getElem_cons (by omega), List.drop_eq_nil_of_le (by omega)]
  rw [e]
  simp [leV]

theorem open_any (v : Value) (l : List UInt8) (w : World) (hv : Sl w w.heap.size v l.length (bs l)) (hl : l.length ≤ 8796093022208) :
    Calls Try.prog 29 #[v] w fun e w' => ∃ v', e = .returned (.tuple #[v', .int .i64 ((openS l).2 : Nat)]) ∧ Sl w' w'.heap.size v' (openS l).1.length (bs (openS l).1) ∧ Below w.heap.size w w' := by
  obtain ⟨i0, hi, hz0, hz1, hz2⟩ := info_parts info_u8
  have hv0 := hv
  obtain ⟨A, c, rfl, hc1, hc2⟩ := hv.form
  unfold maxLen at hc2
  have hlx : (l.length : Int) ≤ 8796093022208 := by omega
  by_cases h4 : l.length < 4
  · have ho : openS l = ([], 3) := by unfold openS; rw [if_pos h4]
    have HO := Lib.hid ho
    clear ho
    go_enter Try.func29, Try.ntmps29
    go_wp2
    go_ret2
    rw [HO.out]
    exact ⟨_, rfl, Sl.nil_, Below.refl _ _⟩
  · obtain ⟨n, hn⟩ : ∃ n, l.length = n + 4 := ⟨l.length - 4, by omega⟩
    obtain ⟨b, off, rfl, hb, hcell⟩ := hv.at_ (by omega)
    have x0 : w.cell? ⟨b, off + n, none⟩ = some (.int .u8 ((l[n]'(by omega)).toNat : Int)) := hcell _ _ (bs_get (by omega))
    have x1 : w.cell? ⟨b, off + n + 1, none⟩ = some (.int .u8 ((l[n + 1]'(by omega)).toNat : Int)) := by rw [Nat.add_assoc]; exact hcell _ _ (bs_get (by omega))
    have x2 : w.cell? ⟨b, off + n + 2, none⟩ = some (.int .u8 ((l[n + 2]'(by omega)).toNat : Int)) := by rw [Nat.add_assoc]; exact hcell _ _ (bs_get (by omega))
    have x3 : w.cell? ⟨b, off + n + 3, none⟩ = some (.int .u8 ((l[n + 3]'(by omega)).toNat : Int)) := by rw [Nat.add_assoc]; exact hcell _ _ (bs_get (by omega))
    have y0 := (l[n]'(by omega)).toNat_lt
    have y1 := (l[n + 1]'(by omega)).toNat_lt
    have y2 := (l[n + 2]'(by omega)).toNat_lt
    have y3 := (l[n + 3]'(by omega)).toNat_lt
    have hlv := leV_drop l n hn
    clear hcell
    generalize (l[n]'(by omega)).toNat = a0 at *
    generalize (l[n + 1]'(by omega)).toNat = a1 at *
    generalize (l[n + 2]'(by omega)).toNat = a2 at *
    generalize (l[n + 3]'(by omega)).toNat = a3 at *
    have htk : (l.take n).length = n := by simp; omega
    have hs1 : Sl w w.heap.size (.slice (some ⟨b, off, none⟩) n c) (l.take n).length (bs (l.take n)) := by
      have h := hv.take (m := n) (by omega)
      rw [bs, ← List.map_take] at h
      rw [htk]
      exact h
    have hso : openS l = if leV (l.drop n) ≠ moreS 0 (l.take n) then ([], 4) else (l.take n, 0) := by
      unfold openS
      rw [if_neg h4, show l.length - 4 = n by omega]
    have hml := moreS_lt 0 (l.take n)
    rw [hlv] at hso
    clear hlv
    generalize l.take n = T at *
    generalize hMM : moreS 0 T = M at *
    have o1 : bits BinOp.or IntKind.u32 (a0 : Int) ((a1 : Int) * 256) = ((a0 + 256 * a1 : Nat) : Int) := by
      have h := u32_or_nat a0 (a1 * 256) (by omega) (by omega)
      rw [Nat.or_comm, nat_join 8 (a1 * 256) a0 (by omega) (by omega)] at h
      rw [show a0 + 256 * a1 = a1 * 256 + a0 by omega, ← h]; simp
    have o2 : bits BinOp.or IntKind.u32 ((a0 + 256 * a1 : Nat) : Int) ((a2 : Int) * 65536) = ((a0 + 256 * (a1 + 256 * a2) : Nat) : Int) := by
      have h := u32_or_nat (a0 + 256 * a1) (a2 * 65536) (by omega) (by omega)
      rw [Nat.or_comm, nat_join 16 (a2 * 65536) (a0 + 256 * a1) (by omega) (by omega)] at h
      rw [show a0 + 256 * (a1 + 256 * a2) = a2 * 65536 + (a0 + 256 * a1) by omega, ← h]; simp
    have o3 : bits BinOp.or IntKind.u32 ((a0 + 256 * (a1 + 256 * a2) : Nat) : Int) ((a3 : Int) * 16777216) = ((a0 + 256 * (a1 + 256 * (a2 + 256 * a3)) : Nat) : Int) := by
      have h := u32_or_nat (a0 + 256 * (a1 + 256 * a2)) (a3 * 16777216) (by omega) (by omega)
      rw [Nat.or_comm, nat_join 24 (a3 * 16777216) (a0 + 256 * (a1 + 256 * a2)) (by omega) (by omega)] at h
      rw [show a0 + 256 * (a1 + 256 * (a2 + 256 * a3)) = a3 * 16777216 + (a0 + 256 * (a1 + 256 * a2)) by omega, ← h]; simp
    generalize a0 + 256 * a1 = V1 at *
    generalize a0 + 256 * (a1 + 256 * a2) = V2 at *
    generalize a0 + 256 * (a1 + 256 * (a2 + 256 * a3)) = V at *
    rw [hn] at hv0 hv
    have HN := Lib.hid hn
    have HM := Lib.hid hMM
    have HT := Lib.hid htk
    have hnc : n + 4 ≤ c := by omega
    have hnl : n ≤ 8796093022208 := by omega
    have HSO := Lib.hid hso
    by_cases hVM : V = M
    · have hs2 : openS l = (T, 0) := by rw [hso, if_neg (by simpa using hVM)]
      have HO := Lib.hid hs2
      have hq : ((V : Int) != (M : Int)) = false := by simp [hVM]
      clear hn hlx h4 hc1 hso hMM htk hs2 hVM
      rw [HN.out]
      go_enter Try.func29, Try.ntmps29
      go_wp2
      go_quiet (fail)
      go_wp2_with (first
        | (go_at_call 32; refine (sum_any _ T _ (hs1.drewN _)).mono ?_; rw [HM.out]; rintro e w1 ⟨rfl, hb1⟩)
        | (at_builtin; refine wpList_append_sl _ rfl (.const (.slice none 0 0)) (.tmp 46) _ rfl w1.heap.size 5 i0 _ Try.underlying22 hi hz0 hz1 (by omega) rfl (.slice none 0 0) 0 [] rfl (World.ownsRow_nil _ _ _ _) w.heap.size _ T.length (bs T) rfl ((hs1.drewN _).below hb1) bs_one (by rw [HT.out]; omega) (Nat.le_refl _) ?_; intro v2 w2 hown2 hg2 hat2))
      go_ret2
      rw [HO.out]
      have hb2 : Below w.heap.size w w2 := below_own ((below_drewN (Below.refl _ w) _).trans hb1) hg2 hb1.size (by simp [Value.ownBlock])
      exact ⟨_, rfl, Sl.of_own (ownsRow_len hown2 (by simp) (by simp)), hb2⟩
    · have hs2 : openS l = ([], 4) := by rw [hso, if_pos hVM]
      have HO := Lib.hid hs2
      have hq : ((V : Int) != (M : Int)) = true := by rw [bne_iff_ne]; omega
      clear hn hlx h4 hc1 hso hMM htk hs2 hVM
      rw [HN.out]
      go_enter Try.func29, Try.ntmps29
      go_wp2
      go_quiet (fail)
      go_wp2_with (go_at_call 32; refine (sum_any _ T _ (hs1.drewN _)).mono ?_; rw [HM.out]; rintro e w1 ⟨rfl, hb1⟩)
      go_ret2
      rw [HO.out]
      exact ⟨_, rfl, Sl.nil_, (below_drewN (Below.refl _ w) _).trans hb1⟩

set_option maxHeartbeats 4000000 in
theorem ropen_any (v : Value) (l : List UInt8) (w : World) (hv : Sl w w.heap.size v l.length (bs l)) (hl : l.length ≤ 8796093022208) :
    Calls Try.prog 30 #[v] w fun e w' => ∃ v', e = .returned (.tuple #[v', .int .i64 ((openS l).2 : Nat)]) ∧ Sl w' w'.heap.size v' (openS l).1.length (bs (openS l).1) ∧ Below w.heap.size w w' := by
  obtain ⟨i0, hi, hz0, hz1, hz2⟩ := info_parts info_u8
  have hv0 := hv
  obtain ⟨A, c, rfl, hc1, hc2⟩ := hv.form
  unfold maxLen at hc2
  have hlx : (l.length : Int) ≤ 8796093022208 := by omega
  by_cases h4 : l.length < 4
  · have ho : openS l = ([], 3) := by unfold openS; rw [if_pos h4]
    have HO := Lib.hid ho
    clear ho
    go_enter Try.func30, Try.ntmps30
    go_wp2
    go_ret2
    rw [HO.out]
    exact ⟨_, rfl, Sl.nil_, Below.refl _ _⟩
  · obtain ⟨n, hn⟩ : ∃ n, l.length = n + 4 := ⟨l.length - 4, by omega⟩
    obtain ⟨b, off, rfl, hb, hcell⟩ := hv.at_ (by omega)
    have htk : (l.take n).length = n := by simp; omega
    have hs1 : Sl w w.heap.size (.slice (some ⟨b, off, none⟩) n c) (l.take n).length (bs (l.take n)) := by
      have h := hv.take (m := n) (by omega)
      rw [bs, ← List.map_take] at h
      rw [htk]
      exact h
    have hs4 : Sl w w.heap.size (.slice (some ⟨b, off + n, none⟩) 4 (c - n)) 4 (bs (l.drop n)) := by
      refine ⟨by simp; omega, _, _, rfl, by omega, by unfold maxLen; omega, fun _ => ⟨b, off + n, rfl, hb, fun j u hu => ?_⟩⟩
      rw [Nat.add_assoc]
      refine hcell _ u ?_
      rw [← hu, bs, bs, List.map_drop, List.getElem?_drop]
    have hso : openS l = if leV (l.drop n) ≠ moreS 0 (l.take n) then ([], 4) else (l.take n, 0) := by
      unfold openS
      rw [if_neg h4, show l.length - 4 = n by omega]
    have hml := moreS_lt 0 (l.take n)
    have hcmp : (leV (l.drop n) = moreS 0 (l.take n)) ↔ le4 (moreS 0 (l.take n)) = l.drop n := by
      constructor
      · intro h
        rw [← h]
        have hd : l.drop n = [l[n]'(by omega), l[n + 1]'(by omega), l[n + 2]'(by omega), l[n + 3]'(by omega)] := by
          rw [List.drop_eq_getElem_cons (by omega), List.drop_eq_getElem_cons (by omega), List.drop_eq_getElem_cons (by omega), List.drop_eq_getElem_cons (by omega), List.drop_eq_nil_of_le (by omega)]
        rw [hd]
        exact le4_leV _ _ _ _
      · intro h
        rw [← h, leV_le4 _ hml]
    clear hcell
    generalize hDD : l.drop n = D at *
    generalize l.take n = T at *
    generalize hMM : moreS 0 T = M at *
    rw [hn] at hv0 hv
    have HN := Lib.hid hn
    have HM := Lib.hid hMM
    have HT := Lib.hid htk
    have hnc : n + 4 ≤ c := by omega
    have hnl : n ≤ 8796093022208 := by omega
    have k1 : ∀ k, (convert 22 9 (.slice (some ⟨b, off + n, none⟩) 4 (c - n))).run Try.prog (w.drewN k) = .ok (.string ⟨D.toArray⟩) (w.drewN k) := fun k =>
      bytes_str _ _ _ _ Try.underlying22 Try.underlying5 Try.underlying9 _ _ D _ (hs4.drewN k)
    clear hn hlx h4 hc1 hMM htk hDD
    rw [HN.out]
    go_enter Try.func30, Try.ntmps30
    go_wp2
    have hwn : IntKind.i64.wrap (n : Int) = n := IntWalk.i64_in _ (by omega)
    have k0 : (convert 22 9 (.slice (some ⟨b, off + n, none⟩) 4 (c - n))).run Try.prog w.drew = .ok (.string ⟨D.toArray⟩) w.drew := k1 1
    have k01 : (convert 22 9 (.slice (some ⟨b, off + n, none⟩) 4 (c - n))).run Try.prog (w.drewN 1) = .ok (.string ⟨D.toArray⟩) (w.drewN 1) := k1 1
    have HC := Lib.hid hcmp
    have HSO := Lib.hid hso
    clear k1 hcmp hso
    go_cut [23] (fun s wx => s = .bool (!(le4 M == D)) ∧ Below w.heap.size w wx)
    case first =>
      go_region_with (first
        | (go_at_call 33; refine (rsum_any _ T _ (hs1.drewN _)).mono ?_; rw [HM.out]; rintro e w1 ⟨rfl, rfl⟩)
        | (go_at_call 37; refine (four_any M _ hml).mono ?_; rintro e w3 ⟨v3, rfl, hown3, hb3⟩
           have hb4 : Below w.heap.size w w3 := (below_drewN (Below.refl _ w) _).trans hb3
           have k2 : (convert 22 9 (.slice (some ⟨b, off + n, none⟩) 4 (c - n))).run Try.prog w3 = .ok (.string ⟨D.toArray⟩) w3 :=
             bytes_str _ _ _ _ Try.underlying22 Try.underlying5 Try.underlying9 _ _ D _ (hs4.below hb4)
           have k3 : (convert 22 9 v3).run Try.prog w3 = .ok (.string ⟨(le4 M).toArray⟩) w3 :=
             bytes_str _ _ _ _ Try.underlying22 Try.underlying5 Try.underlying9 _ _ (le4 M) _ (Sl.of_own hown3)))
      all_goals (go_wp2_with fail)
      all_goals go_meet
      all_goals exact ⟨rfl, hb4⟩
    case rest =>
      obtain ⟨rfl, hbw⟩ := hcut
      clear k0 k01 hwn
      by_cases hVM : leV D = M
      · have hq : (le4 M == D) = true := by rw [beq_iff_eq]; exact HC.out.1 hVM
        have ho : openS l = (T, 0) := by rw [HSO.out, if_neg (by simpa using hVM)]
        have HO := Lib.hid ho
        clear ho hVM
        rw [hq]
        go_wp2_with (at_builtin; refine wpList_append_sl _ rfl (.tmp 24) (.tmp 25) _ rfl wc.heap.size 5 i0 _ Try.underlying22 hi hz0 hz1 (by omega) rfl _ 0 [] rfl (World.ownsRow_made wc #[] 0 (Nat.le_refl _) (by unfold maxLen; omega) rfl) w.heap.size _ T.length (bs T) rfl ((hs1.below hbw).alloc hbw.size _) bs_one (by rw [HT.out]; omega) (by simp) ?_; intro v2 w2 hown2 hg2 hat2)
        go_ret2
        rw [HO.out]
        have hb2 : Below w.heap.size w w2 := below_own (hbw.alloc hbw.size _) hg2 (by have := hbw.size; simp; omega) (fun k hk => by have := hbw.size; obtain rfl := Option.some.inj hk; exact this)
        exact ⟨_, rfl, Sl.of_own (ownsRow_len hown2 (by simp) (by simp)), hb2⟩
      · have hq : (le4 M == D) = false := by rw [beq_eq_false_iff_ne]; exact fun e => hVM (HC.out.2 e)
        have ho : openS l = ([], 4) := by rw [HSO.out, if_pos hVM]
        have HO := Lib.hid ho
        clear ho hVM
        rw [hq]
        go_wp2
        go_ret2
        rw [HO.out]
        exact ⟨_, rfl, Sl.nil_, hbw⟩
end Go.Proofs.Ytjibednmdnnpbaa.Crc
