/- CrcMixes: for all pairs of bytes the statement's function tells true and turns nothing that was there. No condition. -/
import Derived.Test.YtjibednmdnnpbaaKnown2
import Derived.Deep.AppendLies
import Derived.ChangeAlike
import Derived.BigRegion
import Derived.Deep.RegionWith
import Derived.Deep.DeepCutAuto
import Derived.Laws.MakeOwn
namespace Go.Proofs.Ytjibednmdnnpbaa.Crc
open Go.ChangeShapes Go.WideShapes Go.ChangeAt Go.RowKit Go.Sort
set_option linter.unusedVariables false
namespace Mixes

def mixS (l m : List UInt8) : List UInt8 := List.zipWith (fun a b => a ^^^ b) l m
def mixTo (l m : List UInt8) (k : Nat) : List UInt8 := (mixS l m).take k ++ List.replicate (l.length - k) 0
theorem mixS_len (l m : List UInt8) (h : l.length ≤ m.length) : (mixS l m).length = l.length := by simp [mixS]; omega
theorem mixTo_len (l m : List UInt8) (k : Nat) (h : l.length ≤ m.length) (hk : k ≤ l.length) : (mixTo l m k).length = l.length := by
  have := mixS_len l m h
  simp [mixTo, this]; omega
theorem mixTo_set (l m : List UInt8) (k : Nat) (h : l.length ≤ m.length) (hk : k < l.length) : (mixTo l m k).set k (l[k] ^^^ m[k]) = mixTo l m (k + 1) := by
  have hl := mixS_len l m h
  have ht : ((mixS l m).take k).length = k := by simp [hl]; omega
  unfold mixTo
  rw [List.set_append_right _ _ (by omega), ht, Nat.sub_self, show l.length - k = (l.length - (k + 1)) + 1 by omega, List.replicate_succ, List.set_cons_zero, List.take_succ_eq_append_getElem (by omega), List.append_assoc]
  congr 1
  simp [mixS]
theorem mixTo_all (l m : List UInt8) (h : l.length ≤ m.length) : mixTo l m l.length = mixS l m := by
  have hl := mixS_len l m h
  simp [mixTo, ← hl]
theorem xor6 (a b c d e : Nat) : a ^^^ b ^^^ c ^^^ (d ^^^ e) = (a ^^^ d) ^^^ (b ^^^ e) ^^^ c := by
  apply Nat.eq_of_testBit_eq
  intro q
  simp only [Nat.testBit_xor]
  cases a.testBit q <;> cases b.testBit q <;> cases c.testBit q <;> cases d.testBit q <;> cases e.testBit q <;> rfl
theorem sum_mix : ∀ (l m : List UInt8) (a b c : Nat), l.length = m.length → sumS (a ^^^ b ^^^ c) (mixS l m) = sumS a l ^^^ sumS b m ^^^ sumS c (List.replicate l.length 0) := by
  intro l
  induction l with
  | nil => intro m a b c h; obtain rfl : m = [] := List.eq_nil_of_length_eq_zero (by simpa using h.symm); rfl
  | cons x l ih =>
    intro m a b c h
    cases m with
    | nil => simp at h
    | cons y m =>
      have e1 : sumS (a ^^^ b ^^^ c) (mixS (x :: l) (y :: m)) = sumS (f8 (a ^^^ b ^^^ c ^^^ (x ^^^ y).toNat)) (mixS l m) := rfl
      have e2 : sumS a (x :: l) = sumS (f8 (a ^^^ x.toNat)) l := rfl
      have e3 : sumS b (y :: m) = sumS (f8 (b ^^^ y.toNat)) m := rfl
      have e4 : sumS c (List.replicate (x :: l).length 0) = sumS (f8 (c ^^^ 0)) (List.replicate l.length 0) := rfl
      rw [e1, e2, e3, e4, ← ih m _ _ _ (by simpa using h), Nat.xor_zero, UInt8.toNat_xor, xor6]
      unfold f8
      rw [fk_xor, fk_xor]
theorem more_mix (l m : List UInt8) (h : l.length ≤ m.length) : moreS 0 (mixS l m) = moreS 0 l ^^^ moreS 0 (m.take l.length) ^^^ moreS 0 (List.replicate l.length 0) := by
  have hz : mixS l m = mixS l (m.take l.length) := by
    unfold mixS
    apply List.ext_getElem
    · simp
    · intro i h1 h2; simp
  have hm : l.length = (m.take l.length).length := by simp; omega
  have h1 := sumS_lt l (s := 4294967295) (by omega)
  have h2 := sumS_lt (m.take l.length) (s := 4294967295) (by omega)
  have h3 := sumS_lt (List.replicate l.length 0) (s := 4294967295) (by omega)
  have hs := sum_mix l (m.take l.length) 4294967295 4294967295 4294967295 hm
  rw [Nat.xor_self, Nat.zero_xor, ← hz] at hs
  have h4 := sumS_lt (mixS l m) (s := 4294967295) (by omega)
  unfold moreS
  rw [Nat.sub_zero, not32 h1, not32 h2, not32 h3, not32 h4, hs]
  generalize sumS 4294967295 l = a
  generalize sumS 4294967295 (m.take l.length) = b
  generalize sumS 4294967295 (List.replicate l.length 0) = c
  apply Nat.eq_of_testBit_eq
  intro q
  simp only [Nat.testBit_xor]
  cases (4294967295 : Nat).testBit q <;> cases a.testBit q <;> cases b.testBit q <;> cases c.testBit q <;> rfl
theorem bs_set (L : List UInt8) (j : Nat) (y : UInt8) : (bs L).set j (.int .u8 (y.toNat : Int)) = bs (L.set j y) := by simp [bs, List.map_set]
theorem zeros_cells (n : Nat) : (madeCells (Value.int .u8 0).cells (n * 1)).toList = bs (List.replicate n 0) := by
  rw [Nat.mul_one, show (Value.int .u8 0).cells = #[Value.int .u8 0] from rfl, toList_madeCells_one]
  simp [bs]

set_option maxHeartbeats 2000000 in
theorem walk (v : Value) (l : List UInt8) (y : Value) (m : List UInt8) (w : World) (hv : Sl w w.heap.size v l.length (bs l)) (hy : Sl w w.heap.size y m.length (bs m)) :
    Calls Try.prog 12 #[v, y] w fun e w' => e = .returned (.bool true) ∧ Below w.heap.size w w' := by
  obtain ⟨i0, hi, hz0, hz1, hz2⟩ := info_parts info_u8
  obtain ⟨A, c, rfl, hc1, hc2⟩ := hv.form
  have hc2' : c ≤ 9223372036854775807 := hc2
  obtain ⟨A', c', rfl, hd1, hd2⟩ := hy.form
  have hd2' : c' ≤ 9223372036854775807 := hd2
  clear hc2 hd2
  by_cases hll : l.length > 3000 ∨ m.length < l.length
  · go_enter Try.func12, Try.ntmps12
    go_wp2_with (go_at_call 28; refine (known2_any _).mono ?_; rintro e w1 ⟨rfl, hb1⟩)
    all_goals go_ret
    all_goals exact ⟨rfl, hb1⟩
  · have hl4 : (l.length : Int) ≤ 3000 := by omega
    obtain ⟨ZC, hZs, hZl, hmk⟩ : ∃ ZC : Array Value, ZC.size = l.length ∧ ZC.toList = bs (List.replicate l.length 0) ∧ ∀ u : World, (Instr.makeSlice 22 (.int .i64 (l.length : Int)) (.int .i64 (l.length : Int))).run Try.prog u = .ok (.slice (some ⟨u.heap.size, 0, none⟩) l.length l.length) (u.alloc (.cells ZC 5)) := by
      refine ⟨madeCells (Value.int .u8 0).cells (l.length * 1), by rw [size_madeCells]; omega, zeros_cells _, fun u => ?_⟩
      have h := run_make (P := Try.prog) u 22 5 i0 (.int .u8 0) Try.underlying22 hi hz0 .i64 .i64 l.length l.length (by omega) (Int.le_refl _) (by rw [hz2]; omega) (by omega)
      simpa [hz1] using h
    have hZm : l.length ≤ maxLen := by unfold maxLen; omega
    have hlm : (l.length : Int) ≤ m.length := by omega
    have hlmn : ¬ (m.length < l.length) := by omega
    clear hll
    go_enter Try.func12, Try.ntmps12
    go_wp2_with (first
      | (go_at_call 28; refine (known2_any _).mono ?_; rintro e w1 ⟨rfl, hb1⟩; have hv1 := hv.now hb1; have hy1 := hy.now hb1)
      | (at_make; refine wpList_make_full _ rfl (.tmp 20) (.tmp 20) 22 rfl w1.heap.size 5 i0 _ 1 Try.underlying22 hi hz0 hz1 .i64 .i64 _ _ l.length rfl rfl rfl rfl (by rw [hz2]; omega) (by unfold maxLen; omega) (Nat.le_refl _) ?_; intro w2 hown2 hg2))
    have hb2 : Below w1.heap.size w1 w2 := (Below.refl _ _).grown hg2 (Nat.le_refl _) (fun k hk => by cases hk)
    go_loopw [6] (fun i wr => ∃ k : Nat, k ≤ l.length ∧ i = .int .i64 k ∧ wr.ownsRow w1.heap.size 5 1 (.slice (some ⟨w1.heap.size, 0, none⟩) l.length l.length) l.length (bs (mixTo l m k)) ∧ Below w1.heap.size w1 wr) (fun i _ => l.length - (intOf i).toNat)
    case atStart => exact ⟨0, by omega, rfl, by rw [zeros_cells] at hown2; simpa [mixTo] using hown2, hb2⟩
    case round =>
      obtain ⟨k, hk, rfl, hown3, hb3⟩ := hrel
      by_cases hlt : k < l.length
      · obtain ⟨b, off, rfl, hb, hcell⟩ := hv1.at_ (by omega)
        obtain ⟨b', off', rfl, hb', hcell'⟩ := hy1.at_ (by omega)
        have c1 : wr.cell? ⟨b, off + k, none⟩ = some (.int .u8 ((l[k]).toNat : Int)) := (hb3.cell (p := ⟨b, off + k, none⟩) hb).trans (hcell _ _ (bs_get hlt))
        have c2 : wr.cell? ⟨b', off' + k, none⟩ = some (.int .u8 ((m[k]'(by omega)).toNat : Int)) := (hb3.cell (p := ⟨b', off' + k, none⟩) hb').trans (hcell' _ _ (bs_get (by omega)))
        have hml := mixTo_len l m k (by omega) hk
        have c3 : wr.cell? ⟨w1.heap.size, k, none⟩ = some (.int .u8 (((mixTo l m k)[k]'(by omega)).toNat : Int)) := (hown3.cellAt k (by omega)).trans (bs_get (by omega))
        have c4 := hown3.frozenAt k
        have hst := hown3.stored k
        have HST := Lib.hid hst
        have hxo : bits BinOp.xor IntKind.u8 ((l[k]).toNat : Int) ((m[k]'(by omega)).toNat : Int) = ((l[k] ^^^ m[k]'(by omega)).toNat : Int) := by rw [UInt8.toNat_xor]; exact u8_xor_nat _ _ (l[k]).toNat_lt (m[k]'(by omega)).toNat_lt
        have hkl : (k : Int) < l.length := by omega
        have hkm : (k : Int) < m.length := by omega
        clear hcell hcell' hst
        go_wp2
        go_region
        all_goals (go_wp2_with fail)
        all_goals
          refine ⟨⟨k + 1, by omega, by go_num, ?_, (hb3.setCell (Nat.le_refl _) _).drew⟩, by simp [intOf]; omega⟩
          have h := (HST.out (.int .u8 ((l[k] ^^^ m[k]'(by omega)).toNat : Int))).1
          rw [bs_set, mixTo_set l m k (by omega) hlt, UInt8.toNat_xor] at h
          exact h
      · obtain rfl : k = l.length := by omega
        rw [mixTo_all l m (by omega)] at hown3
        have hsx := ownsRow_len hown3 (mixS_len l m (by omega)).symm rfl
        have hsx := Sl.of_own hsx
        have hlx := mixS_len l m (by omega)
        rw [hlx] at hsx
        have hv3 := hv1.now hb3
        have hy3 := hy1.now hb3
        have hyt : Sl wr wr.heap.size (.slice A' l.length c') l.length (bs (m.take l.length)) := by
          have h := hy3.take (m := l.length) (by omega)
          rw [bs, ← List.map_take] at h
          exact h
        have hmix := more_mix l m (by omega)
        have cx : ∀ W, Below wr.heap.size wr W → Calls Try.prog 32 #[.slice (some ⟨w1.heap.size, 0, none⟩) l.length l.length] W fun e w' => e = .returned (.int .u32 (moreS 0 (mixS l m) : Nat)) ∧ Below W.heap.size W w' := fun W h => sum_any _ (mixS l m) W (by rw [hlx]; exact hsx.now h)
        have cb : ∀ W, Below wr.heap.size wr W → Calls Try.prog 32 #[.slice A l.length c] W fun e w' => e = .returned (.int .u32 (moreS 0 l : Nat)) ∧ Below W.heap.size W w' := fun W h => sum_any _ l W (hv3.now h)
        have cc : ∀ W, Below wr.heap.size wr W → Calls Try.prog 32 #[.slice A' l.length c'] W fun e w' => e = .returned (.int .u32 (moreS 0 (m.take l.length) : Nat)) ∧ Below W.heap.size W w' := fun W h => sum_any _ (m.take l.length) W (by rw [show (m.take l.length).length = l.length by simp; omega]; exact hyt.now h)
        have cz : ∀ z W, Sl W W.heap.size z l.length ZC.toList → Calls Try.prog 32 #[z] W fun e w' => e = .returned (.int .u32 (moreS 0 (List.replicate l.length 0) : Nat)) ∧ Below W.heap.size W w' := fun z W h => sum_any z (List.replicate l.length 0) W (by rw [List.length_replicate, ← hZl]; exact h)
        have hb0 := moreS_lt 0 l
        have hc0 := moreS_lt 0 (m.take l.length)
        have hz0' := moreS_lt 0 (List.replicate l.length 0)
        generalize moreS 0 (mixS l m) = Mx at *
        generalize moreS 0 l = Mb at *
        generalize moreS 0 (m.take l.length) = Mc at *
        generalize moreS 0 (List.replicate l.length 0) = Mz at *
        have hx1 : bits BinOp.xor IntKind.u32 (Mb : Int) (Mc : Int) = ((Mb ^^^ Mc : Nat) : Int) := u32_xor_nat Mb Mc hb0 hc0
        have hx2 : bits BinOp.xor IntKind.u32 ((Mb ^^^ Mc : Nat) : Int) (Mz : Int) = (Mx : Int) := by rw [hmix]; exact u32_xor_nat _ _ (xor32 hb0 hc0) hz0'
        generalize Mb ^^^ Mc = Mbc at *
        have hlc : (l.length : Int) ≤ (c' : Int) := by omega
        have hB : Below wr.heap.size wr wr.drew := (Below.refl _ _).drew
        have hB4 : Below wr.heap.size wr (wr.alloc (.cells ZC 5)).drew := ((Below.refl wr.heap.size wr).alloc (Nat.le_refl _) (.cells ZC 5)).drew
        have hz4 : Sl (wr.alloc (.cells ZC 5)).drew (wr.alloc (.cells ZC 5)).drew.heap.size (.slice (some ⟨wr.heap.size, 0, none⟩) l.length l.length) l.length ZC.toList := Sl.drew (Sl.fresh wr ZC 5 hZs hZm)
        clear hmix hown3
        go_wp2
        go_cut [4] (fun s wx => s = .bool true ∧ Below wr.heap.size wr wx)
        case first =>
          go_region_with (first
            | (go_at_call 32; (with_reducible refine (cx _ hB4).mono ?_); rintro e w5 ⟨rfl, hb5⟩; have hz := hz4.now hb5; have hB := hB4.trans (hb5.mono hB4.size); clear hb5)
            | (go_at_call 32; (with_reducible refine (cx _ hB).mono ?_); rintro e w5 ⟨rfl, hb5⟩; have hB := hB.trans (hb5.mono hB.size); have hz := hz.now hb5; clear hb5)
            | (go_at_call 32; (with_reducible refine (cx _ hB).mono ?_); rintro e w5 ⟨rfl, hb5⟩; have hB := hB.trans (hb5.mono hB.size); clear hb5)
            | (go_at_call 32; (with_reducible refine (cx _ (hB.alloc hB.size (.cells ZC 5))).mono ?_); rintro e w5 ⟨rfl, hb5⟩; have hz := (Sl.fresh _ ZC 5 hZs hZm).now hb5; have hB := (hB.alloc hB.size (.cells ZC 5)).trans (hb5.mono (hB.alloc hB.size (.cells ZC 5)).size); clear hb5)
            | (go_at_call 32; (with_reducible refine (cb _ hB).mono ?_); rintro e w5 ⟨rfl, hb5⟩; have hB := hB.trans (hb5.mono hB.size); have hz := hz.now hb5; clear hb5)
            | (go_at_call 32; (with_reducible refine (cb _ hB).mono ?_); rintro e w5 ⟨rfl, hb5⟩; have hB := hB.trans (hb5.mono hB.size); clear hb5)
            | (go_at_call 32; (with_reducible refine (cb _ (hB.alloc hB.size (.cells ZC 5))).mono ?_); rintro e w5 ⟨rfl, hb5⟩; have hz := (Sl.fresh _ ZC 5 hZs hZm).now hb5; have hB := (hB.alloc hB.size (.cells ZC 5)).trans (hb5.mono (hB.alloc hB.size (.cells ZC 5)).size); clear hb5)
            | (go_at_call 32; (with_reducible refine (cc _ hB).mono ?_); rintro e w5 ⟨rfl, hb5⟩; have hB := hB.trans (hb5.mono hB.size); have hz := hz.now hb5; clear hb5)
            | (go_at_call 32; (with_reducible refine (cc _ hB).mono ?_); rintro e w5 ⟨rfl, hb5⟩; have hB := hB.trans (hb5.mono hB.size); clear hb5)
            | (go_at_call 32; (with_reducible refine (cc _ (hB.alloc hB.size (.cells ZC 5))).mono ?_); rintro e w5 ⟨rfl, hb5⟩; have hz := (Sl.fresh _ ZC 5 hZs hZm).now hb5; have hB := (hB.alloc hB.size (.cells ZC 5)).trans (hb5.mono (hB.alloc hB.size (.cells ZC 5)).size); clear hb5)
            | (go_at_call 32; (with_reducible refine (cz _ _ hz).mono ?_); rintro e w5 ⟨rfl, hb5⟩; have hB := hB.trans (hb5.mono hB.size); clear hb5)
            | (go_at_call 32; (with_reducible refine (cz _ _ (Sl.fresh _ ZC 5 hZs hZm)).mono ?_); rintro e w5 ⟨rfl, hb5⟩; have hB := (hB.alloc hB.size (.cells ZC 5)).trans (hb5.mono (hB.alloc hB.size (.cells ZC 5)).size); clear hb5))
          all_goals (go_wp2_with fail)
          all_goals go_meet
          all_goals exact ⟨rfl, hB⟩
        case rest =>
          obtain ⟨rfl, hbw⟩ := hcut
          go_wp2
          go_ret
          exact ⟨rfl, bchain hb1 (hb3.trans (hbw.mono hb3.size))⟩
set_option maxRecDepth 100000 in
theorem lifted (os : Os) (started : os.Started) (H : Type) (enc : TypeId × Value → H) :
    ReturnsInHanded {} Try.checked os 12 .any (Rows.crcMixesSpec.pre6 enc Try.prog Try.f12 Rows.crcMixesRow.domain false) (Rows.crcMixesSpec.post enc Try.prog Try.f12 false true false false) := by
  refine returnsInHanded_of_change (C := Try.checked) own started (by kernel_rfl) Try.func12
    (ChangeSpec.witness6 (enc := enc) (C := Try.checked) false ⟨#[], #[.slice none 0 0, .slice none 0 0], []⟩ 8 (by kernel_rfl) (by kernel_rfl) (by kernel_rfl) (by kernel_rfl)) ?_
  intro W base args ds gs before hval0 hW hcnd _
  have hval : ∀ (j : Nat) t v, Try.f12.params[j]? = some t → args[j]? = some v → Value.okWide Try.prog W .any base t v := hval0
  have hW' := hW
  obtain ⟨p, q, hA0, hV, rfl, hfz, hnd⟩ := hW
  have hA : DataW.TrodAll enc Try.prog W 0 (fun _ => true) true Try.f12.params.toList args.toList ds p := hA0
  rw [Try.params12] at hA hval
  obtain ⟨v0, vs0, d0, ds0, p0, q0, hargs, rfl, rfl, h0, r0⟩ := trodAll_cons hA
  obtain ⟨v1, vs1, d1, ds1, p1, q1, rfl, rfl, rfl, h1, r1⟩ := trodAll_cons r0
  obtain ⟨rfl, rfl, rfl⟩ := trodAll_nil r1
  obtain rfl : args = #[v0, v1] := by cases args; simp_all
  obtain ⟨rfl, rfl⟩ := trodVars_none hV
  obtain ⟨l0, s0, e0⟩ := open_bytes Try.underlying22 Try.underlying5 (by kernel_rfl) (hval 0 22 v0 rfl rfl) h0
  obtain ⟨l1, s1, e1⟩ := open_bytes Try.underlying22 Try.underlying5 (by kernel_rfl) (hval 1 22 v1 rfl rfl) h1
  refine (walk v0 l0 v1 l1 W s0 s1).mono fun e W' ⟨he, hb⟩ => ?_
  subst he
  exact ⟨_, rfl, law_post laidOut (by kernel_rfl) rfl (by kernel_rfl) Try.underlying4 rfl rfl rfl hW' hb⟩

theorem proved : Rows.CrcMixesSaid :=
  OpenClaim.holds_of_wide 12 Try.f12 rfl rfl rfl rfl rfl rfl rfl ⟨rfl, rfl, rfl, rfl, rfl⟩ rfl rfl rfl rfl rfl (by kernel_rfl) Try.func12 (by kernel_rfl)
    (of_decide_eq_true (by kernel_rfl)) (by unfold Func.isWrapper; first | (rw [if_pos (by decide +kernel)]; kernel_rfl) | (rw [if_neg (by decide +kernel)]; exact ⟨rfl, rfl⟩))
    (fun os started H enc _ => lifted os started H enc)
end Mixes
end Go.Proofs.Ytjibednmdnnpbaa.Crc
