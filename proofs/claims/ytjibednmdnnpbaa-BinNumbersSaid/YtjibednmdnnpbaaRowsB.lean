/- BinRows: for all numbers and all widths the statement's function tells true and turns nothing that was there. No condition. -/
import Derived.Test.YtjibednmdnnpbaaKnown1
import Derived.BigQuiet
import Derived.IntWalk
import Derived.Deep.QuietTactic
import Derived.StillTailTactics
import Derived.Deep.RegionWith
import Derived.Deep.DeepCutAuto
namespace Go.Proofs.Ytjibednmdnnpbaa
open Go.ChangeShapes Go.WideShapes Go.ChangeAt Go.RowKit
set_option linter.unusedVariables false
namespace RowsB
/-- The width that a byte tells. -/
def wd (x : UInt8) : Nat := 1 + x.toNat % 8
/-- The bytes of the first k numbers. -/
def catTo (l : List Int) (ws : List UInt8) : Nat → List UInt8
  | 0 => []
  | k + 1 => catTo l ws k ++ be (l.getD k 0).toNat (wd (ws.getD k 0))
def posTo (ws : List UInt8) : Nat → Nat
  | 0 => 0
  | k + 1 => posTo ws k + wd (ws.getD k 0)
theorem catTo_len (l : List Int) (ws : List UInt8) : ∀ k, (catTo l ws k).length = posTo ws k
  | 0 => rfl
  | k + 1 => by simp [catTo, posTo, catTo_len l ws k]
theorem wd_le (x : UInt8) : 1 ≤ wd x ∧ wd x ≤ 8 := by unfold wd; omega
theorem posTo_le (ws : List UInt8) : ∀ k, posTo ws k ≤ 8 * k
  | 0 => Nat.le_refl _
  | k + 1 => by have := posTo_le ws k; have := wd_le (ws.getD k 0); simp only [posTo]; omega
theorem catTo_more (l : List Int) (ws : List UInt8) (k : Nat) : ∀ n, k ≤ n → ∃ r, catTo l ws n = catTo l ws k ++ r := by
  intro n
  induction n with
  | zero => intro h; obtain rfl : k = 0 := by omega
            exact ⟨[], by simp⟩
  | succ n ih =>
    intro h
    by_cases hk : k = n + 1
    · subst hk; exact ⟨[], by simp⟩
    · obtain ⟨r, hr⟩ := ih (by omega)
      exact ⟨r ++ be (l.getD n 0).toNat (wd (ws.getD n 0)), by simp only [catTo]; rw [hr, List.append_assoc]⟩
theorem cut_at (l : List Int) (ws : List UInt8) (k n : Nat) (h : k < n) : ((catTo l ws n).drop (posTo ws k)).take (wd (ws.getD k 0)) = be (l.getD k 0).toNat (wd (ws.getD k 0)) := by
  obtain ⟨r, hr⟩ := catTo_more l ws (k + 1) n h
  rw [hr]
  simp only [catTo, List.append_assoc]
  rw [List.drop_left' (catTo_len l ws k), List.take_left' (by simp)]
theorem beVal_beTo (x n : Nat) : ∀ k, k ≤ n → beVal (beTo x n k) = x / 256 ^ (n - k) % 256 ^ k := by
  intro k
  induction k with
  | zero => intro _; simp [beTo, beVal, Nat.mod_one]
  | succ k ih =>
    intro hk
    rw [beTo_succ, beVal_snoc, ih (by omega), UInt8.toNat_ofNat', show n - 1 - k = n - (k + 1) by omega, show n - k = (n - (k + 1)) + 1 by omega, Nat.pow_succ 256 (n - (k + 1)), ← Nat.div_div_eq_div_mul]
    generalize x / 256 ^ (n - (k + 1)) = y
    rw [show (2 : Nat) ^ 8 = 256 from rfl, Nat.pow_succ, Nat.mul_comm (256 ^ k) 256, Nat.mod_mul]
    omega
theorem beVal_be (x n : Nat) : beVal (be x n) = x % 256 ^ n := by
  unfold be
  rw [beVal_beTo x n n (Nat.le_refl _), Nat.sub_self, Nat.pow_zero, Nat.div_one]
/-- A number shifted up and down again. -/
theorem shift_back (x n : Nat) (hx : x < 18446744073709551616) (h1 : 1 ≤ n) (h2 : n ≤ 8) : x * 2 ^ (64 - 8 * n) % 18446744073709551616 / 2 ^ (64 - 8 * n) = x % 256 ^ n := by
  have e1 : (18446744073709551616 : Nat) = 2 ^ (64 - 8 * n) * 256 ^ n := by
    rw [show (256 : Nat) = 2 ^ 8 from rfl, ← Nat.pow_mul, ← Nat.pow_add, show 64 - 8 * n + 8 * n = 64 by omega]
  rw [e1, Nat.mul_comm x, Nat.mul_mod_mul_left, Nat.mul_div_cancel_left _ (Nat.two_pow_pos _)]
theorem own_base {w : World} {base base' e n : Nat} {v : Value} {xs : List Value} (h : w.ownsRow base e 1 v n xs) (hb : base' ≤ base) : w.ownsRow base' e 1 v n xs := by
  refine ⟨h.1, ?_⟩
  rcases h.2 with hn | ⟨g, cap, cur, rfl, hbg, rest⟩
  · exact .inl hn
  · exact .inr ⟨g, cap, cur, rfl, by omega, rest⟩
theorem putS_wd (l : List UInt8) (X : Nat) (x : UInt8) : putS l X (1 + (x.toNat : Int) % 8) = l ++ be X (wd x) := by
  unfold putS wd
  rw [if_neg (by omega)]
  congr 2
set_option maxHeartbeats 1000000 in
theorem walk (v : Value) (l : List Int) (y : Value) (ws : List UInt8) (w : World) (hv : Sl w w.heap.size v l.length (l.map (Value.int .u64))) (hwf : ∀ n ∈ l, (Lit.int .u64 n).wf = true) (hy : Sl w w.heap.size y ws.length (bs ws)) :
    Calls Try.prog 6 #[v, y] w fun e w' => e = .returned (.bool true) ∧ Below w.heap.size w w' := by
  obtain ⟨A, c, rfl, hc1, hc2⟩ := hv.form
  have hc2' : c ≤ 9223372036854775807 := hc2
  obtain ⟨A', c', rfl, hd1, hd2⟩ := hy.form
  have hd2' : c' ≤ 9223372036854775807 := hd2
  clear hc2 hd2
  by_cases hll : l.length > 60 ∨ ws.length < l.length
  · go_enter Try.func6, Try.ntmps6
    go_wp2_with (go_at_call 15; refine (known1_any _).mono ?_; rintro e w1 ⟨rfl, hb1⟩)
    all_goals go_ret
    all_goals exact ⟨rfl, hb1⟩
  · have hl4 : (l.length : Int) ≤ 60 := by omega
    have hlm : (l.length : Int) ≤ ws.length := by omega
    have hlmn : ¬ (ws.length < l.length) := by omega
    clear hll
    go_enter Try.func6, Try.ntmps6
    go_wp2_with (go_at_call 15; refine (known1_any _).mono ?_; rintro e w1 ⟨rfl, hb1⟩)
    have hv1 := hv.now hb1
    have hy1 := hy.now hb1
    go_loopw [5, 6] (fun b i wr => ∃ k : Nat, k ≤ l.length ∧ i = .int .i64 k ∧ wr.ownsRow w1.heap.size 5 1 b (catTo l ws k).length (bs (catTo l ws k)) ∧ Below w1.heap.size w1 wr) (fun _ i _ => l.length - (intOf i).toNat)
    case atStart => exact ⟨0, by omega, rfl, World.ownsRow_nil _ _ _ _, Below.refl _ _⟩
    case round =>
      obtain ⟨k, hk, rfl, hown, hb3⟩ := hrel
      obtain ⟨Ab, cb, rfl, hb1', hb2'⟩ := (Sl.of_own hown).form
      by_cases hlt : k < l.length
      · obtain ⟨b, off, rfl, hb, hcell⟩ := hv1.at_ (by omega)
        obtain ⟨b', off', rfl, hb', hcell'⟩ := hy1.at_ (by omega)
        have hbx := bounds_u64 (hwf l[k] (List.getElem_mem hlt))
        have c1 : wr.cell? ⟨b, off + k, none⟩ = some (.int .u64 l[k]) := (hb3.cell (p := ⟨b, off + k, none⟩) hb).trans (hcell _ _ (by simp [hlt]))
        have c2 : wr.cell? ⟨b', off' + k, none⟩ = some (.int .u8 ((ws[k]'(by omega)).toNat : Int)) := (hb3.cell (p := ⟨b', off' + k, none⟩) hb').trans (hcell' _ _ (bs_get (by omega)))
        have hsb := Sl.of_own hown
        have hcl := catTo_len l ws k
        have hpl := posTo_le ws k
        have hcn : catTo l ws (k + 1) = catTo l ws k ++ be (l[k]).toNat (wd (ws[k]'(by omega))) := by simp only [catTo]; simp [List.getD, hlt, show k < ws.length by omega]
        have HC := Lib.hid hcn
        have hcb : (catTo l ws k).length ≤ 480 := by omega
        clear hcell hcell' hcn hcl hpl
        generalize (ws[k]'(by omega)) = xk at *
        generalize catTo l ws k = cat at *
        obtain ⟨X, hX⟩ : ∃ X : Nat, l[k] = (X : Int) := ⟨(l[k]).toNat, by omega⟩
        rw [hX] at c1 HC hbx
        rw [Int.toNat_natCast] at HC
        have hand : bits BinOp.and IntKind.u8 (xk.toNat : Int) 7 = (xk.toNat : Int) % 8 := by
          have h := u8_and_nat xk.toNat 7 xk.toNat_lt (by omega)
          rw [nat_mask3] at h
          rw [show (7 : Int) = ((7 : Nat) : Int) from rfl, h]; simp
        have hxx := xk.toNat_lt
        have hput := fun W (h : Sl W W.heap.size (.slice Ab cat.length cb) cat.length (bs cat)) => put_any _ cat X (1 + (xk.toNat : Int) % 8) W h (by omega) (by omega) (by omega) (by omega)
        rw [putS_wd] at hput
        have HPUT := Lib.hid hput
        have hkl : (k : Int) < l.length := by omega
        have hkm : (k : Int) < ws.length := by omega
        have hwr0 : IntKind.i64.wrap ((xk.toNat : Int) % 8) = (xk.toNat : Int) % 8 := IntWalk.i64_in _ (by omega)
        have hwr : IntKind.i64.wrap (1 + (xk.toNat : Int) % 8) = 1 + (xk.toNat : Int) % 8 := IntWalk.i64_in _ (by omega)
        clear hX hput
        go_wp2
        go_region_with (go_at_call 16; (with_reducible refine (HPUT.out _ (Sl.drew hsb)).mono ?_); rintro e w5 ⟨v5, rfl, hown5, hb5⟩)
        all_goals
          clear hwr hwr0 hand
          go_wp2
          refine ⟨⟨k + 1, by omega, by go_num, by rw [HC.out]; exact own_base hown5 hb3.size, hb3.trans (Below.trans (Below.refl _ _).drew (hb5.mono hb3.size))⟩, by simp [intOf]; omega⟩
      · obtain rfl : k = l.length := by omega
        have hsb := Sl.of_own hown
        have hcl := catTo_len l ws l.length
        have hpl := posTo_le ws l.length
        have hcb : (catTo l ws l.length).length ≤ 480 := by omega
        have HCL := Lib.hid hcl
        clear hcl hpl
        go_wp2
        go_loop [7, 8, 9, 10, 11] (fun p i _ _ _ => ∃ j : Nat, j ≤ l.length ∧ i = .int .i64 j ∧ p = .int .i64 (posTo ws j)) (fun _ i _ _ _ => l.length - (intOf i).toNat)
        case atStart => exact ⟨0, by omega, rfl, rfl⟩
        case round =>
          obtain ⟨j, hj, rfl, rfl⟩ := hrel
          by_cases hlt2 : j < l.length
          · obtain ⟨b, off, rfl, hb, hcell⟩ := hv1.at_ (by omega)
            obtain ⟨b', off', rfl, hb', hcell'⟩ := hy1.at_ (by omega)
            have hbx := bounds_u64 (hwf l[j] (List.getElem_mem hlt2))
            have c1 : wr.cell? ⟨b, off + j, none⟩ = some (.int .u64 l[j]) := (hb3.cell (p := ⟨b, off + j, none⟩) hb).trans (hcell _ _ (by simp [hlt2]))
            have c2 : wr.cell? ⟨b', off' + j, none⟩ = some (.int .u8 ((ws[j]'(by omega)).toNat : Int)) := (hb3.cell (p := ⟨b', off' + j, none⟩) hb').trans (hcell' _ _ (bs_get (by omega)))
            have hcut := cut_at l ws j l.length hlt2
            rw [show ws.getD j 0 = ws[j]'(by omega) by simp [List.getD, show j < ws.length by omega], show l.getD j 0 = l[j] by simp [List.getD, hlt2]] at hcut
            have hnp : posTo ws (j + 1) = posTo ws j + wd (ws[j]'(by omega)) := by simp [posTo, List.getD, show j < ws.length by omega]
            have hpj := posTo_le ws j
            have hin : posTo ws (j + 1) ≤ posTo ws l.length := by
              obtain ⟨r, hr⟩ := catTo_more l ws (j + 1) l.length hlt2
              have := congrArg List.length hr
              rw [catTo_len, List.length_append, catTo_len] at this
              omega
            rw [← HCL.out, hnp] at hin
            have HNP := Lib.hid hnp
            clear hcell hcell' hnp
            generalize (ws[j]'(by omega)) = xk at *
            obtain ⟨X, hX⟩ : ∃ X : Nat, l[j] = (X : Int) := ⟨(l[j]).toNat, by omega⟩
            rw [hX] at c1 hbx hcut
            rw [Int.toNat_natCast] at hcut
            have hand : bits BinOp.and IntKind.u8 (xk.toNat : Int) 7 = (xk.toNat : Int) % 8 := by
              have h := u8_and_nat xk.toNat 7 xk.toNat_lt (by omega)
              rw [nat_mask3] at h
              rw [show (7 : Int) = ((7 : Nat) : Int) from rfl, h]; simp
            have hxx := xk.toNat_lt
            have hwx := wd_le xk
            have hwe : wd xk = 1 + xk.toNat % 8 := rfl
            have hgs : getS (catTo l ws l.length) (posTo ws j) (1 + (xk.toNat : Int) % 8) = (X % 256 ^ wd xk, true) := by
              unfold getS
              rw [if_pos (by omega)]
              rw [show (1 + (xk.toNat : Int) % 8).toNat = wd xk by omega, Int.toNat_natCast, hcut, beVal_be]
            have hget := get_any (.slice Ab (catTo l ws l.length).length cb) (catTo l ws l.length) (posTo ws j) (1 + (xk.toNat : Int) % 8) wr hsb (by omega) (by omega) (by omega) (by omega) (by omega)
            rw [hgs] at hget
            have HG := Lib.hid hget
            have hkl : (j : Int) < l.length := by omega
            have hkm : (j : Int) < ws.length := by omega
            have hq : ((X : Int) % 256 ^ wd xk != IntKind.u64.wrap ((X : Int) * 2 ^ (64 - 8 * (1 + xk.toNat % 8))) / 2 ^ (64 - 8 * (1 + xk.toNat % 8))) = false := by
              have h := shift_back X (wd xk) (by omega) hwx.1 hwx.2
              rw [← hwe, IntKind.wrap_u64]
              have h' : ((X * 2 ^ (64 - 8 * wd xk) % 18446744073709551616 / 2 ^ (64 - 8 * wd xk) : Nat) : Int) = ((X % 256 ^ wd xk : Nat) : Int) := by rw [h]
              have e : (X : Int) * 2 ^ (64 - 8 * wd xk) % 18446744073709551616 / 2 ^ (64 - 8 * wd xk) = (X : Int) % 256 ^ wd xk := by simpa using h'
              rw [e]; simp
            have HWE := Lib.hid hwe
            clear hX hcut hgs hget hwe
            go_wp2_with (go_at_call 18; (with_reducible refine HG.out.mono ?_); rintro e w5 ⟨rfl, rfl⟩)
            refine ⟨⟨j + 1, by omega, by go_num, by rw [HNP.out, HWE.out]; go_num⟩, by simp [intOf]; omega⟩
          · obtain rfl : j = l.length := by omega
            have hgs : getS (catTo l ws l.length) (posTo ws l.length) 1 = (0, false) := by
              unfold getS
              rw [if_neg (by rw [HCL.out]; omega)]
            have hpl := posTo_le ws l.length
            have hget := get_any (.slice Ab (catTo l ws l.length).length cb) (catTo l ws l.length) (posTo ws l.length) 1 wr hsb (by omega) (by omega) (by omega) (by omega) (by omega)
            rw [hgs, HCL.out] at hget
            have HG := Lib.hid hget
            have hcl := HCL.out
            clear hgs hget
            go_wp2_with (go_at_call 18; (with_reducible refine HG.out.mono ?_); rintro e w5 ⟨rfl, rfl⟩)
            go_ret
            exact ⟨rfl, bchain hb1 hb3⟩
set_option maxRecDepth 100000 in
theorem lifted (os : Os) (started : os.Started) (H : Type) (enc : TypeId × Value → H) :
    ReturnsInHanded {} Try.checked os 6 .any (Rows.binRowsSpec.pre6 enc Try.prog Try.f6 Rows.binRowsRow.domain false) (Rows.binRowsSpec.post enc Try.prog Try.f6 false true false false) := by
  refine returnsInHanded_of_change (C := Try.checked) own started (by kernel_rfl) Try.func6
    (ChangeSpec.witness6 (enc := enc) (C := Try.checked) false ⟨#[], #[.slice none 0 0, .slice none 0 0], []⟩ 8 (by kernel_rfl) (by kernel_rfl) (by kernel_rfl) (by kernel_rfl)) ?_
  intro W base args ds gs before hval0 hW hcnd _
  have hval : ∀ (j : Nat) t v, Try.f6.params[j]? = some t → args[j]? = some v → Value.okWide Try.prog W .any base t v := hval0
  have hW' := hW
  obtain ⟨p, q, hA0, hV, rfl, hfz, hnd⟩ := hW
  have hA : DataW.TrodAll enc Try.prog W 0 (fun _ => true) true Try.f6.params.toList args.toList ds p := hA0
  rw [Try.params6] at hA hval
  obtain ⟨v0, vs0, d0, ds0, p0, q0, hargs, rfl, rfl, h0, r0⟩ := trodAll_cons hA
  obtain ⟨v1, vs1, d1, ds1, p1, q1, rfl, rfl, rfl, h1, r1⟩ := trodAll_cons r0
  obtain ⟨rfl, rfl, rfl⟩ := trodAll_nil r1
  obtain rfl : args = #[v0, v1] := by cases args; simp_all
  obtain ⟨rfl, rfl⟩ := trodVars_none hV
  obtain ⟨z0, s0, w0, e0⟩ := open_sl Try.underlying37 Try.underlying23 (by kernel_rfl) (hval 0 37 v0 rfl rfl) h0
  obtain ⟨l1, s1, e1⟩ := open_bytes Try.underlying22 Try.underlying5 (by kernel_rfl) (hval 1 22 v1 rfl rfl) h1
  refine (walk v0 z0 v1 l1 W s0 w0 s1).mono fun e W' ⟨he, hb⟩ => ?_
  subst he
  exact ⟨_, rfl, law_post laidOut (by kernel_rfl) rfl (by kernel_rfl) Try.underlying4 rfl rfl rfl hW' hb⟩

theorem proved : Rows.BinRowsSaid :=
  OpenClaim.holds_of_wide 6 Try.f6 rfl rfl rfl rfl rfl rfl rfl ⟨rfl, rfl, rfl, rfl, rfl⟩ rfl rfl rfl rfl rfl (by kernel_rfl) Try.func6 (by kernel_rfl)
    (of_decide_eq_true (by kernel_rfl)) (by unfold Func.isWrapper; first | (rw [if_pos (by decide +kernel)]; kernel_rfl) | (rw [if_neg (by decide +kernel)]; exact ⟨rfl, rfl⟩))
    (fun os started H enc _ => lifted os started H enc)
end RowsB
end Go.Proofs.Ytjibednmdnnpbaa
