/- CrcFlips: for all bytes, every place and every pattern the statement's function tells true and turns nothing that was there. No condition. -/
import Derived.Test.YtjibednmdnnpbaaKnown2
import Derived.Deep.AppendLies
namespace Go.Proofs.Ytjibednmdnnpbaa.Crc
open Go.ChangeShapes Go.WideShapes Go.ChangeAt Go.RowKit Go.Sort
set_option linter.unusedVariables false
namespace Flips

theorem leV_bit : ∀ (L : List UInt8) (q : Nat), (leV L).testBit q = (L.getD (q / 8) 0).toNat.testBit (q % 8) := by
  intro L
  induction L with
  | nil => intro q; simp [leV]
  | cons x L ih =>
    intro q
    have h2 : leV (x :: L) = x.toNat + 256 * leV L := rfl
    rw [h2, show x.toNat + 256 * leV L = 2 ^ 8 * leV L + x.toNat by omega, Nat.testBit_two_pow_mul_add (leV L) (show x.toNat < 2 ^ 8 from x.toNat_lt)]
    by_cases hq : q < 8
    · rw [if_pos hq, show q / 8 = 0 by omega, show q % 8 = q by omega]; rfl
    · rw [if_neg hq, ih, show q / 8 = (q - 8) / 8 + 1 by omega, show (q - 8) % 8 = q % 8 by omega]; rfl
theorem pow_lt8 {k : Nat} (h : k < 8) : 2 ^ k < 256 := Nat.pow_lt_pow_right (a := 2) (by omega) (show k < 8 from h)
theorem xor_nat (x : UInt8) {k : Nat} (h : k < 8) : (x ^^^ UInt8.ofNat (2 ^ k)).toNat = x.toNat ^^^ 2 ^ k := by
  rw [UInt8.toNat_xor, UInt8.toNat_ofNat', Nat.mod_eq_of_lt (pow_lt8 h)]
/-- One bit turned in one byte: the number's bit is turned. -/
theorem leV_set (L : List UInt8) (d : Nat) (h : d / 8 < L.length) : leV (L.set (d / 8) (L[d / 8] ^^^ UInt8.ofNat (2 ^ (d % 8)))) = leV L ^^^ 2 ^ d := by
  apply Nat.eq_of_testBit_eq
  intro q
  rw [leV_bit, Nat.testBit_xor, leV_bit]
  by_cases hj : q / 8 = d / 8
  · have e1 : (L.set (d / 8) (L[d / 8] ^^^ UInt8.ofNat (2 ^ (d % 8)))).getD (q / 8) 0 = L[d / 8] ^^^ UInt8.ofNat (2 ^ (d % 8)) := by rw [hj]; simp [List.getD, h]
    have e2 : L.getD (q / 8) 0 = L[d / 8] := by rw [hj]; simp [List.getD, h]
    rw [e1, e2, xor_nat _ (Nat.mod_lt _ (by omega)), Nat.testBit_xor, Nat.testBit_two_pow, Nat.testBit_two_pow]
    congr 1
    rw [decide_eq_decide]
    omega
  · have e1 : (L.set (d / 8) (L[d / 8] ^^^ UInt8.ofNat (2 ^ (d % 8)))).getD (q / 8) 0 = L.getD (q / 8) 0 := by
      simp only [List.getD, List.getElem?_set]
      rw [if_neg (fun e => hj e.symm)]
    rw [e1, Nat.testBit_two_pow, decide_eq_false (by intro e; subst e; exact hj rfl), Bool.xor_false]
theorem mod_next0 (P i : Nat) (h : P / 2 ^ i % 2 = 0) : P % 2 ^ (i + 1) = P % 2 ^ i := by
  rw [Nat.mod_pow_succ, h, Nat.mul_zero, Nat.add_zero]
theorem mod_next1 (P i : Nat) (h : P / 2 ^ i % 2 = 1) : P % 2 ^ (i + 1) = P % 2 ^ i ^^^ 2 ^ i := by
  rw [Nat.mod_pow_succ, h, Nat.mul_one]
  apply Nat.eq_of_testBit_eq
  intro q
  rw [Nat.add_comm, show 2 ^ i + P % 2 ^ i = 2 ^ i * 1 + P % 2 ^ i by omega, Nat.testBit_two_pow_mul_add 1 (Nat.mod_lt P (Nat.two_pow_pos i)), Nat.testBit_xor, Nat.testBit_two_pow, Nat.testBit_mod_two_pow]
  by_cases hq : q < i
  · simp [hq, show i ≠ q by omega]
  · by_cases he : i = q
    · subst he; simp
    · rw [if_neg hq, decide_eq_false hq, decide_eq_false he]
      have : (1 : Nat).testBit (q - i) = false := Nat.testBit_lt_two_pow (Nat.lt_of_lt_of_le (by omega : 1 < 2 ^ 1) (Nat.pow_le_pow_right (by omega) (show 1 ≤ q - i by omega)))
      rw [this]; rfl
theorem mod_pos1 (P i : Nat) (h : P / 2 ^ i % 2 = 1) : P % 2 ^ (i + 1) ≠ 0 := by
  rw [Nat.mod_pow_succ, h, Nat.mul_one]
  have := Nat.two_pow_pos i
  omega
theorem xor_val (x : UInt8) {k : Nat} (h : k < 8) : bits BinOp.xor IntKind.u8 (x.toNat : Int) (2 ^ k % 256) = ((x ^^^ UInt8.ofNat (2 ^ k)).toNat : Int) := by
  have h1 := pow_lt8 h
  have h2 := u8_xor_nat x.toNat (2 ^ k) x.toNat_lt h1
  rw [xor_nat x h, ← h2]
  congr 1
  have h3 : ((2 : Int) ^ k) = ((2 ^ k : Nat) : Int) := by simp
  rw [h3]
  generalize 2 ^ k = q at *
  omega
theorem bs_set (L : List UInt8) (j : Nat) (y : UInt8) : (bs L).set j (.int .u8 (y.toNat : Int)) = bs (L.set j y) := by simp [bs, List.map_set]
theorem xor_mul (a b k : Nat) : (a ^^^ b) * 2 ^ k = a * 2 ^ k ^^^ b * 2 ^ k := by
  apply Nat.eq_of_testBit_eq
  intro q
  rw [Nat.testBit_mul_two_pow, Nat.testBit_xor, Nat.testBit_xor, Nat.testBit_mul_two_pow, Nat.testBit_mul_two_pow]
  by_cases h : k ≤ q <;> simp [h]

set_option maxHeartbeats 1000000 in
theorem walk (v : Value) (l : List UInt8) (bit pat : Int) (w : World) (hv : Sl w w.heap.size v l.length (bs l)) (hb1 : -9223372036854775808 ≤ bit) (hb2 : bit ≤ 9223372036854775807) (hp1 : 0 ≤ pat) (hp2 : pat ≤ 4294967295) :
    Calls Try.prog 11 #[v, .int .i64 bit, .int .u32 pat] w fun e w' => e = .returned (.bool true) ∧ Below w.heap.size w w' := by
  obtain ⟨A, c, rfl, hc1, hc2⟩ := hv.form
  have hc2' : c ≤ 9223372036854775807 := hc2
  clear hc2
  by_cases hll : l.length > 3000 ∨ bit < 0
  · go_enter Try.func11, Try.ntmps11
    go_wp2_with (go_at_call 28; refine (known2_any _).mono ?_; rintro e w1 ⟨rfl, hb1⟩)
    all_goals go_ret
    all_goals exact ⟨rfl, hb1⟩
  · have hl4 : (l.length : Int) ≤ 3000 := by omega
    obtain ⟨B, rfl⟩ : ∃ B : Nat, bit = B := ⟨bit.toNat, by omega⟩
    obtain ⟨P, rfl⟩ : ∃ P : Nat, pat = P := ⟨pat.toNat, by omega⟩
    clear hll hb1
    have hD0 : B % (8 * (l.length + 4)) < 8 * (l.length + 4) := Nat.mod_lt _ (by omega)
    have hD : (B : Int) % (8 * ((l.length : Int) + 4)) = ((B % (8 * (l.length + 4)) : Nat) : Int) := by simp
    generalize B % (8 * (l.length + 4)) = D at *
    have hPl : P < 4294967296 := by omega
    go_enter Try.func11, Try.ntmps11
    go_wp2_with (first
      | (go_at_call 28; refine (known2_any _).mono ?_; rintro e w1 ⟨rfl, hb1⟩; have hv1 := hv.now hb1)
      | (go_at_call 31; refine (seal_any _ l _ hv1 (by omega)).mono ?_; rintro e w2 ⟨v2, rfl, hown2, hb2⟩; have hv2 := hv1.now hb2; have hb12 := bchain hb1 hb2
         have hown := ownsRow_len hown2 (sealS_len l) rfl
         clear hown2
         obtain ⟨g, cap, rfl, hg1, hg2⟩ := hown.form (by omega)))
    simp only [hD]
    clear hD
    have hfo := flips_found l
    have HFO := Lib.hid hfo
    clear hfo
    have hbase := hg1
    go_loopw [8, 9] (fun tn i wr => ∃ (k : Nat) (L : List UInt8), k ≤ 32 ∧ L.length = l.length + 4 ∧ i = .int .i64 k ∧ tn = .bool (decide (P % 2 ^ k ≠ 0)) ∧ leV L = leV (sealS l) ^^^ (P % 2 ^ k) * 2 ^ D ∧ wr.ownsRow w1.heap.size 5 1 (.slice (some ⟨g, 0, none⟩) (l.length + 4) cap) (l.length + 4) (bs L) ∧ Below w1.heap.size w1 wr) (fun _ i _ => 32 - (intOf i).toNat)
    case atStart => exact ⟨0, sealS l, by omega, by simp, rfl, by simp [Nat.mod_one], by simp [Nat.mod_one], hown, hb2⟩
    case round =>
      obtain ⟨k, L, hk, hL, rfl, rfl, hlv, hown3, hb3⟩ := hrel
      by_cases hlt : k < 32 ∧ D + k < 8 * (l.length + 4)
      · obtain ⟨h32, hDk⟩ := hlt
        have hj : (D + k) / 8 < L.length := by omega
        have hPk : (P / 2 ^ k) < 4294967296 := Nat.lt_of_le_of_lt (Nat.div_le_self _ _) hPl
        have hand : bits BinOp.and IntKind.u32 ((P : Int) / 2 ^ k) 1 = ((P / 2 ^ k % 2 : Nat) : Int) := by
          have h := u32_and_nat (P / 2 ^ k) 1 hPk (by omega)
          rw [nat_mask1] at h
          rw [← h]; simp
        rcases Nat.mod_two_eq_zero_or_one (P / 2 ^ k) with hp | hp
        · rw [hp] at hand
          have hm := mod_next0 P k hp
          have HM := Lib.hid hm
          have HLV := Lib.hid hlv
          clear hm hp hlv
          go_wp2
          refine ⟨⟨k + 1, L, by omega, hL, by go_num, by rw [HM.out]; simp, by rw [HM.out]; exact HLV.out, hown3, hb3⟩, by simp [intOf]; omega⟩
        · have hp0 := hp
          rw [hp] at hand
          have hm := mod_next1 P k hp
          have HM := Lib.hid hm
          have HLV := Lib.hid hlv
          have hset := leV_set L (D + k) hj
          have HS := Lib.hid hset
          have hcl : wr.cell? ⟨g, (D + k) / 8, none⟩ = some (.int .u8 ((L[(D + k) / 8]).toNat : Int)) := by
            rw [hown3.cellAt _ (by omega)]; exact bs_get hj
          have hfz := hown3.frozenAt ((D + k) / 8)
          have hst := hown3.stored ((D + k) / 8)
          have HST := Lib.hid hst
          have hxl := (L[(D + k) / 8]).toNat_lt
          have hk8 : (D + k) % 8 < 8 := Nat.mod_lt _ (by omega)
          clear hm hp hlv hset hst
          have hpos : decide (P % 2 ^ (k + 1) ≠ 0) = true := decide_eq_true (mod_pos1 P k hp0)
          have HP := Lib.hid hpos
          clear hpos hp0
          go_wp2
          refine ⟨⟨k + 1, L.set ((D + k) / 8) (L[(D + k) / 8] ^^^ UInt8.ofNat (2 ^ ((D + k) % 8))), by omega, by simp [hL], by go_num, by rw [HP.out], ?_, ?_, hb3.setCell (by simpa using hg1) _⟩, by simp [intOf]; omega⟩
          · rw [HS.out, HLV.out, HM.out, xor_mul, ← Nat.pow_add, Nat.add_comm k D, Nat.xor_assoc]
          · rw [xor_val _ hk8, ← bs_set]
            exact (HST.out _).1
      · have hpl : P % 2 ^ k < 4294967296 := Nat.lt_of_le_of_lt (Nat.mod_le _ _) hPl
        have hfin := HFO.out L (P % 2 ^ k) D (by rw [hL, sealS_len]) hlv hpl (by rw [hL]; omega)
        have hv3 := hv1.now hb3
        have hsL : Sl wr wr.heap.size (.slice (some ⟨g, 0, none⟩) (l.length + 4) cap) L.length (bs L) := by rw [hL]; exact Sl.of_own hown3
        have hop := open_any _ L wr hsL (by omega)
        by_cases hz : P % 2 ^ k = 0
        · rw [hz] at hfin ⊢
          rw [if_pos rfl] at hfin
          rw [hfin] at hop
          have HOP := Lib.hid hop
          clear hop hfin hlv hz
          go_wp2_with (first
            | (go_at_call 29; refine HOP.out.mono ?_; rintro e w4 ⟨v4, rfl, hs4, hb4⟩
               have hv4 := hv3.now hb4
               have k1 : (convert 22 9 v4).run Try.prog w4 = .ok (.string ⟨l.toArray⟩) w4 := bytes_str _ _ _ _ Try.underlying22 Try.underlying5 Try.underlying9 _ _ l _ hs4
               have k2 : (convert 22 9 (.slice A l.length c)).run Try.prog w4 = .ok (.string ⟨l.toArray⟩) w4 := bytes_str _ _ _ _ Try.underlying22 Try.underlying5 Try.underlying9 _ _ l _ hv4))
          all_goals go_ret
          all_goals exact ⟨rfl, bchain hb1 (hb3.trans (hb4.mono hb3.size))⟩
        · rw [if_neg hz] at hfin
          rw [hfin] at hop
          have HOP := Lib.hid hop
          have hd : decide (P % 2 ^ k ≠ 0) = true := decide_eq_true hz
          rw [hd]
          clear hop hfin hlv hz hd
          go_wp2_with (first
            | (go_at_call 29; refine HOP.out.mono ?_; rintro e w4 ⟨v4, rfl, hs4, hb4⟩
               obtain ⟨A4, c4, rfl, _, _⟩ := hs4.form))
          all_goals go_ret
          all_goals exact ⟨rfl, bchain hb1 (hb3.trans (hb4.mono hb3.size))⟩
set_option maxRecDepth 100000 in
theorem lifted (os : Os) (started : os.Started) (H : Type) (enc : TypeId × Value → H) :
    ReturnsInHanded {} Try.checked os 11 .any (Rows.crcFlipsSpec.pre6 enc Try.prog Try.f11 Rows.crcFlipsRow.domain false) (Rows.crcFlipsSpec.post enc Try.prog Try.f11 false true false false) := by
  refine returnsInHanded_of_change (C := Try.checked) own started (by kernel_rfl) Try.func11
    (ChangeSpec.witness6 (enc := enc) (C := Try.checked) false ⟨#[], #[.slice none 0 0, .int .i64 0, .int .u32 0], []⟩ 8 (by kernel_rfl) (by kernel_rfl) (by kernel_rfl) (by kernel_rfl)) ?_
  intro W base args ds gs before hval0 hW hcnd _
  have hval : ∀ (j : Nat) t v, Try.f11.params[j]? = some t → args[j]? = some v → Value.okWide Try.prog W .any base t v := hval0
  have hW' := hW
  obtain ⟨p, q, hA0, hV, rfl, hfz, hnd⟩ := hW
  have hA : DataW.TrodAll enc Try.prog W 0 (fun _ => true) true Try.f11.params.toList args.toList ds p := hA0
  rw [Try.params11] at hA hval
  obtain ⟨v0, vs0, d0, ds0, p0, q0, hargs, rfl, rfl, h0, r0⟩ := trodAll_cons hA
  obtain ⟨v1, vs1, d1, ds1, p1, q1, rfl, rfl, rfl, h1, r1⟩ := trodAll_cons r0
  obtain ⟨v2, vs2, d2, ds2, p2, q2, rfl, rfl, rfl, h2, r2⟩ := trodAll_cons r1
  obtain ⟨rfl, rfl, rfl⟩ := trodAll_nil r2
  obtain rfl : args = #[v0, v1, v2] := by cases args; simp_all
  obtain ⟨rfl, rfl⟩ := trodVars_none hV
  obtain ⟨l0, s0, e0⟩ := open_bytes Try.underlying22 Try.underlying5 (by kernel_rfl) (hval 0 22 v0 rfl rfl) h0
  obtain ⟨a1, rfl, _, _, w1⟩ := open_int Try.underlying3 (hval 1 3 v1 rfl rfl) h1
  have b1 := bounds_i64 w1
  obtain ⟨a2, rfl, _, _, w2⟩ := open_int Try.underlying31 (hval 2 31 v2 rfl rfl) h2
  have b2 := bounds_u32 w2
  refine (walk v0 l0 a1 a2 W s0 b1.1 b1.2 b2.1 b2.2).mono fun e W' ⟨he, hb⟩ => ?_
  subst he
  exact ⟨_, rfl, law_post laidOut (by kernel_rfl) rfl (by kernel_rfl) Try.underlying4 rfl rfl rfl hW' hb⟩

theorem proved : Rows.CrcFlipsSaid :=
  OpenClaim.holds_of_wide 11 Try.f11 rfl rfl rfl rfl rfl rfl rfl ⟨rfl, rfl, rfl, rfl, rfl⟩ rfl rfl rfl rfl rfl (by kernel_rfl) Try.func11 (by kernel_rfl)
    (of_decide_eq_true (by kernel_rfl)) (by unfold Func.isWrapper; first | (rw [if_pos (by decide +kernel)]; kernel_rfl) | (rw [if_neg (by decide +kernel)]; exact ⟨rfl, rfl⟩))
    (fun os started H enc _ => lifted os started H enc)
end Flips
end Go.Proofs.Ytjibednmdnnpbaa.Crc
