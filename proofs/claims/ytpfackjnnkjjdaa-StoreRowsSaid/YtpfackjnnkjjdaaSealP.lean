/- Seal and Open of package crc, and of the document's second telling: contracts. -/
import Derived.Test.YtpfackjnnkjjdaaCrc
import Derived.BigQuiet
import Derived.IntWalk
import Derived.Deep.QuietTactic
import Derived.StillTailTactics
import Derived.Deep.RegionWith
import Derived.OwnWalk
import Derived.Deep.DeepCutAuto
namespace Go.Proofs.Ytpfackjnnkjjdaa.Crc
open Go.ChangeShapes Go.WideShapes Go.ChangeAt Go.RowKit
set_option linter.unusedVariables false
set_option maxRecDepth 100000

theorem four_cells (s : Nat) (hs : s < 4294967296) : (#[Value.int .u8 ((s : Int) % 256), .int .u8 ((s : Int) / 256 % 256), .int .u8 ((s : Int) / 65536 % 256), .int .u8 ((s : Int) / 16777216)] : Array Value).toList = bs (le4 s) := by
  have h0 : ((UInt8.ofNat s).toNat : Int) = (s : Int) % 256 := by rw [UInt8.toNat_ofNat']; omega
  have h1 : ((UInt8.ofNat (s / 256)).toNat : Int) = (s : Int) / 256 % 256 := by rw [UInt8.toNat_ofNat']; omega
  have h2 : ((UInt8.ofNat (s / 65536)).toNat : Int) = (s : Int) / 65536 % 256 := by rw [UInt8.toNat_ofNat']; omega
  have h3 : ((UInt8.ofNat (s / 16777216)).toNat : Int) = (s : Int) / 16777216 := by rw [UInt8.toNat_ofNat']; omega
  simp only [bs, le4, List.map_cons, List.map_nil, h0, h1, h2, h3]
theorem le4_len (s : Nat) : (le4 s).length = 4 := rfl

theorem seal_any (v : Value) (l : List UInt8) (w : World) (hv : Sl w w.heap.size v l.length (bs l)) (hl : l.length ≤ 8796093022208) :
    Calls Try.prog 62 #[v] w fun e w' => ∃ v', e = .returned v' ∧ w'.ownsRow w.heap.size 5 1 v' (sealS l).length (bs (sealS l)) ∧ Below w.heap.size w w' := by
  obtain ⟨i0, hi, hz0, hz1, hz2⟩ := info_parts info_u8
  have hv0 := hv
  obtain ⟨A, c, rfl, hc1, hc2⟩ := hv.form
  have hlx : (l.length : Int) ≤ 8796093022208 := by omega
  have hml := moreS_lt 0 l
  have hss : sealS l = l ++ le4 (moreS 0 l) := rfl
  generalize hMM : moreS 0 l = M at *
  have HS := Lib.hid hss
  have HM := Lib.hid hMM
  clear hss hMM
  go_enter Try.func62, Try.ntmps62
  go_wp2_with (first
    | (go_at_call 53; refine (sum_any _ l _ hv0).mono ?_; rw [HM.out]; rintro e w1 ⟨rfl, hb1⟩)
    | (at_make; refine wpList_make_own _ rfl (.const (.int .i64 0)) (.tmp 9) 34 rfl w.heap.size 5 i0 _ 1 Try.underlying34 hi hz0 hz1 .i64 .i64 _ (l.length + 4) rfl rfl (by simp) (by rw [hz2]; omega) (by unfold maxLen; omega) hb1.size ?_; intro w2 hown2 hg2
       have hb2 : Below w.heap.size w w2 := hb1.grown hg2 hb1.size (fun k hk => by cases hk)
       have hv2 := (hv0.below hb2).more hb2.size)
    | (at_builtin; refine wpList_append_sl _ rfl (.tmp 11) (.tmp 12) _ rfl w.heap.size 5 i0 _ Try.underlying34 hi hz0 hz1 (by omega) rfl _ 0 [] rfl hown2 w2.heap.size _ l.length (bs l) rfl hv2 bs_one (by omega) hb2.size ?_; intro v3 w3 hown3 hg3 hat3
       have hb3 : Below w.heap.size w w3 := below_own hb2 hg3 hb2.size (fun k hk => (hown2.lt k hk).1)
       have hsl := Sl.fresh w3 #[Value.int .u8 ((M : Int) % 256), .int .u8 ((M : Int) / 256 % 256), .int .u8 ((M : Int) / 65536 % 256), .int .u8 ((M : Int) / 16777216)] 5 (n := 4) rfl (by unfold maxLen; omega)
       rw [four_cells M hml] at hsl
       have hown4 := hown3.alloc (.cells #[Value.int .u8 ((M : Int) % 256), .int .u8 ((M : Int) / 256 % 256), .int .u8 ((M : Int) / 65536 % 256), .int .u8 ((M : Int) / 16777216)] 5))
    | (at_builtin; refine wpList_append_sl _ rfl (.tmp 14) (.tmp 26) _ rfl w.heap.size 5 i0 _ Try.underlying34 hi hz0 hz1 (by omega) rfl _ (0 + l.length) ([] ++ bs l) rfl hown4 _ _ 4 (bs (le4 M)) rfl hsl bs_one (by omega) (by have := hb3.size; simp; omega) ?_; intro v5 w5 hown5 hg5 hat5))
  go_ret
  have hb5 : Below w.heap.size w w5 := below_own (hb3.alloc hb3.size _) hg5 (by have := hb3.size; simp; omega) (fun k hk => (hown4.lt k hk).1)
  exact ⟨_, rfl, ownsRow_len hown5 (by rw [HS.out, List.length_append, le4_len]; omega) (by rw [HS.out, bs_app]; rfl), hb5⟩

theorem leV_drop (l : List UInt8) (n : Nat) (h : l.length = n + 4) : leV (l.drop n) = (l[n]'(by omega)).toNat + 256 * ((l[n + 1]'(by omega)).toNat + 256 * ((l[n + 2]'(by omega)).toNat + 256 * (l[n + 3]'(by omega)).toNat)) := by
  have e : l.drop n = [l[n]'(by omega), l[n + 1]'(by omega), l[n + 2]'(by omega), l[n + 3]'(by omega)] := by
    rw [List.drop_eq_getElem_cons (by omega), List.drop_eq_getElem_cons (by omega), List.drop_eq_getElem_cons (by omega), List.drop_eq_getElem_cons (by omega), List.drop_eq_nil_of_le (by omega)]
  rw [e]
  simp [leV]

/-- A slice's block, if it has one, is no elder one than B. -/
def Fr (B : Nat) (v : Value) : Prop := ∀ A m c, v = .slice (some A) m c → B ≤ A.block
theorem Fr.of_own {w : World} {B base e n : Nat} {v : Value} {xs : List Value} (h : w.ownsRow base e 1 v n xs) (hb : B ≤ base) : Fr B v := by
  intro A m c he
  obtain ⟨_, h | ⟨g, cap, cur, hv, hge, _⟩⟩ := h
  · rw [h.1] at he; cases he
  · rw [hv] at he
    injection he with e1
    injection e1 with e1
    rw [← e1]
    exact Nat.le_trans hb hge
theorem Fr.nil {B : Nat} : Fr B (.slice none 0 0) := by intro A m c h; cases h
theorem open_fr (v : Value) (l : List UInt8) (w : World) (hv : Sl w w.heap.size v l.length (bs l)) (hl : l.length ≤ 8796093022208) :
    Calls Try.prog 64 #[v] w fun e w' => ∃ v', e = .returned (.tuple #[v', .int .i64 ((openS l).2 : Nat)]) ∧ Sl w' w'.heap.size v' (openS l).1.length (bs (openS l).1) ∧ Below w.heap.size w w' ∧ Fr w.heap.size v' := by
  obtain ⟨i0, hi, hz0, hz1, hz2⟩ := info_parts info_u8
  have hv0 := hv
  obtain ⟨A, c, rfl, hc1, hc2⟩ := hv.form
  unfold maxLen at hc2
  have hlx : (l.length : Int) ≤ 8796093022208 := by omega
  by_cases h4 : l.length < 4
  · have ho : openS l = ([], 3) := by unfold openS; rw [if_pos h4]
    have HO := Lib.hid ho
    clear ho
    go_enter Try.func64, Try.ntmps64
    go_wp2
    go_ret2
    rw [HO.out]
    exact ⟨_, rfl, Sl.nil_, Below.refl _ _, Fr.nil⟩
  · obtain ⟨n, hn⟩ : ∃ n, l.length = n + 4 := ⟨l.length - 4, by omega⟩
    obtain ⟨b, off, rfl, hb, hcell⟩ := hv.at_ (by omega)
    have x0 : w.cell? ⟨b, off + n, none⟩ = some (.int .u8 ((l[n]'(by omega)).toNat : Int)) := hcell _ _ (bs_get (by omega))
    have x1 : w.cell? ⟨b, off + n + 1, none⟩ = some (.int .u8 ((l[n + 1]'(by omega)).toNat : Int)) := by rw [Nat.add_assoc]; exact hcell _ _ (bs_get (by omega))
    have x2 : w.cell? ⟨b, off + n + 2, none⟩ = some (.int .u8 ((l[n + 2]'(by omega)).toNat : Int)) := by rw [Nat.add_assoc]; exact hcell _ _ (bs_get (by omega))
    have x3 : w.cell? ⟨b, off + n + 3, none⟩ = some (.int .u8 ((l[n + 3]'(by omega)).toNat : Int)) := by rw [Nat.add_assoc]; exact hcell _ _ (bs_get (by omega))
    have y0 := (l[n]'(by omega)).toNat_lt
    have y1 := (l[n + 1]'(by omega)).toNat_lt
    have y2 := (l[n + 2]'(by omega)).toNat_lt
    have y3 := (l[n + 3]'(by omega)).toNat_lt
    have hlv := leV_drop l n hn
    clear hcell
    generalize (l[n]'(by omega)).toNat = a0 at *
    generalize (l[n + 1]'(by omega)).toNat = a1 at *
    generalize (l[n + 2]'(by omega)).toNat = a2 at *
    generalize (l[n + 3]'(by omega)).toNat = a3 at *
    have htk : (l.take n).length = n := by simp; omega
    have hs1 : Sl w w.heap.size (.slice (some ⟨b, off, none⟩) n c) (l.take n).length (bs (l.take n)) := by
      have h := hv.take (m := n) (by omega)
      rw [bs, ← List.map_take] at h
      rw [htk]
      exact h
    have hso : openS l = if leV (l.drop n) ≠ moreS 0 (l.take n) then ([], 4) else (l.take n, 0) := by
      unfold openS
      rw [if_neg h4, show l.length - 4 = n by omega]
    have hml := moreS_lt 0 (l.take n)
    rw [hlv] at hso
    clear hlv
    generalize l.take n = T at *
    generalize hMM : moreS 0 T = M at *
    have o1 : bits BinOp.or IntKind.u32 (a0 : Int) ((a1 : Int) * 256) = ((a0 + 256 * a1 : Nat) : Int) := by
      have h := u32_or_nat a0 (a1 * 256) (by omega) (by omega)
      rw [Nat.or_comm, nat_join 8 (a1 * 256) a0 (by omega) (by omega)] at h
      rw [show a0 + 256 * a1 = a1 * 256 + a0 by omega, ← h]; simp
    have o2 : bits BinOp.or IntKind.u32 ((a0 + 256 * a1 : Nat) : Int) ((a2 : Int) * 65536) = ((a0 + 256 * (a1 + 256 * a2) : Nat) : Int) := by
      have h := u32_or_nat (a0 + 256 * a1) (a2 * 65536) (by omega) (by omega)
      rw [Nat.or_comm, nat_join 16 (a2 * 65536) (a0 + 256 * a1) (by omega) (by omega)] at h
      rw [show a0 + 256 * (a1 + 256 * a2) = a2 * 65536 + (a0 + 256 * a1) by omega, ← h]; simp
    have o3 : bits BinOp.or IntKind.u32 ((a0 + 256 * (a1 + 256 * a2) : Nat) : Int) ((a3 : Int) * 16777216) = ((a0 + 256 * (a1 + 256 * (a2 + 256 * a3)) : Nat) : Int) := by
      have h := u32_or_nat (a0 + 256 * (a1 + 256 * a2)) (a3 * 16777216) (by omega) (by omega)
      rw [Nat.or_comm, nat_join 24 (a3 * 16777216) (a0 + 256 * (a1 + 256 * a2)) (by omega) (by omega)] at h
      rw [show a0 + 256 * (a1 + 256 * (a2 + 256 * a3)) = a3 * 16777216 + (a0 + 256 * (a1 + 256 * a2)) by omega, ← h]; simp
    generalize a0 + 256 * a1 = V1 at *
    generalize a0 + 256 * (a1 + 256 * a2) = V2 at *
    generalize a0 + 256 * (a1 + 256 * (a2 + 256 * a3)) = V at *
    rw [hn] at hv0 hv
    have HN := Lib.hid hn
    have HM := Lib.hid hMM
    have HT := Lib.hid htk
    have hnc : n + 4 ≤ c := by omega
    have hnl : n ≤ 8796093022208 := by omega
    have HSO := Lib.hid hso
    by_cases hVM : V = M
    · have hs2 : openS l = (T, 0) := by rw [hso, if_neg (by simpa using hVM)]
      have HO := Lib.hid hs2
      have hq : ((V : Int) != (M : Int)) = false := by simp [hVM]
      clear hn hlx h4 hc1 hso hMM htk hs2 hVM
      rw [HN.out]
      go_enter Try.func64, Try.ntmps64
      go_wp2
      go_quiet (fail)
      go_wp2_with (first
        | (go_at_call 53; refine (sum_any _ T _ (hs1.drewN _)).mono ?_; rw [HM.out]; rintro e w1 ⟨rfl, hb1⟩)
        | (at_builtin; refine wpList_append_sl _ rfl (.const (.slice none 0 0)) (.tmp 46) _ rfl w1.heap.size 5 i0 _ Try.underlying34 hi hz0 hz1 (by omega) rfl (.slice none 0 0) 0 [] rfl (World.ownsRow_nil _ _ _ _) w.heap.size _ T.length (bs T) rfl ((hs1.drewN _).below hb1) bs_one (by rw [HT.out]; omega) (Nat.le_refl _) ?_; intro v2 w2 hown2 hg2 hat2))
      go_ret2
      rw [HO.out]
      have hb2 : Below w.heap.size w w2 := below_own ((below_drewN (Below.refl _ w) _).trans hb1) hg2 hb1.size (by simp [Value.ownBlock])
      exact ⟨_, rfl, Sl.of_own (ownsRow_len hown2 (by simp) (by simp)), hb2, Fr.of_own hown2 hb1.size⟩
    · have hs2 : openS l = ([], 4) := by rw [hso, if_pos hVM]
      have HO := Lib.hid hs2
      have hq : ((V : Int) != (M : Int)) = true := by rw [bne_iff_ne]; omega
      clear hn hlx h4 hc1 hso hMM htk hs2 hVM
      rw [HN.out]
      go_enter Try.func64, Try.ntmps64
      go_wp2
      go_quiet (fail)
      go_wp2_with (go_at_call 53; refine (sum_any _ T _ (hs1.drewN _)).mono ?_; rw [HM.out]; rintro e w1 ⟨rfl, hb1⟩)
      go_ret2
      rw [HO.out]
      exact ⟨_, rfl, Sl.nil_, (below_drewN (Below.refl _ w) _).trans hb1, Fr.nil⟩
theorem open_any (v : Value) (l : List UInt8) (w : World) (hv : Sl w w.heap.size v l.length (bs l)) (hl : l.length ≤ 8796093022208) :
    Calls Try.prog 64 #[v] w fun e w' => ∃ v', e = .returned (.tuple #[v', .int .i64 ((openS l).2 : Nat)]) ∧ Sl w' w'.heap.size v' (openS l).1.length (bs (openS l).1) ∧ Below w.heap.size w w' :=
  (open_fr v l w hv hl).mono fun _ _ ⟨v', h1, h2, h3, _⟩ => ⟨v', h1, h2, h3⟩

end Go.Proofs.Ytpfackjnnkjjdaa.Crc
