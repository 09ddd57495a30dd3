/- Package ring: nought, Unpack's closure: contracts; what Unpack tells, pure. -/
import Derived.Test.YtpfackjnnkjjdaaRg1
namespace Go.Proofs.Ytpfackjnnkjjdaa
open Go.ChangeShapes Go.WideShapes Go.ChangeAt Go.RowKit Go.Lib
set_option linter.unusedVariables false
set_option linter.unusedSimpArgs false
namespace Rg
open Crc
theorem field_any (g : Nat) (v : Value) (b : List UInt8) (T N : Int) (t n : Nat) (hT : T = t) (hN : N = n) (w : World) (hc : w.cell? ⟨g, 0, none⟩ = some v) (hv : Sl w w.heap.size v b.length (bs b)) (hb : b.length ≤ 140737488355328) (hn : 1 ≤ n ∧ n ≤ 8) (h : t + n ≤ b.length) :
    Calls Try.prog 87 #[.int .i64 T, .int .i64 N, .pointer (some ⟨g, 0, none⟩)] w fun e w' => e = .returned (.int .u64 (beVal ((b.drop t).take n))) ∧ w = w' := by
  have hg := get_b v b T N t n hT hN w hv hb (by omega) hn h
  obtain ⟨A, c, rfl, _, _⟩ := hv.form
  clear hT hN hn h hb
  go_enter Try.func87, Try.ntmps87
  go_wp2_with (go_at_call 42; (with_reducible refine hg.mono ?_); rintro e w1 ⟨rfl, rfl⟩)
  go_ret
  exact ⟨rfl, rfl⟩
theorem nought_any (v : Value) (b : List UInt8) (w : World) (hv : Sl w w.heap.size v b.length (bs b)) (hl : b.length ≤ 1000000) :
    Calls Try.prog 88 #[v] w fun e w' => e = .returned (.bool (nought b)) ∧ w = w' := by
  obtain ⟨A, c, rfl, _, _⟩ := hv.form
  have hlx : (b.length : Int) ≤ 1000000 := by omega
  go_enter Try.func88, Try.ntmps88
  go_wp2
  go_loopw [7] (fun i wr => ∃ j : Nat, j ≤ b.length ∧ i = .int .i64 j ∧ nought (b.take j) = true ∧ w = wr) (fun i _ => b.length - (intOf i).toNat)
  case atStart => exact ⟨0, by omega, rfl, by simp [nought], rfl⟩
  case round =>
    obtain ⟨j, hj, rfl, hno, rfl⟩ := hrel
    by_cases hjl : j < b.length
    · obtain ⟨b1, o1, rfl, _, hcell⟩ := hv.at_ (by omega)
      have hc1 : w.cell? ⟨b1, o1 + j, none⟩ = some (.int .u8 ((b[j]'hjl).toNat : Int)) := hcell j _ (bs_get hjl)
      have hjx : (j : Int) < (b.length : Int) := by omega
      have htk : b.take (j + 1) = b.take j ++ [b[j]] := List.take_succ_eq_append_getElem hjl
      by_cases hx : b[j] = 0
      · have hx0 : ((b[j]'hjl).toNat : Int) = 0 := by rw [hx]; rfl
        have hn2 : nought (b.take (j + 1)) = true := by
          rw [htk, hx]
          unfold nought at hno ⊢
          rw [List.all_append, hno]
          rfl
        have HN := Lib.hid hn2
        clear hno htk hx hcell hn2
        generalize b[j] = y at *
        go_wp2
        exact ⟨⟨j + 1, by omega, by go_num, HN.out, by trivial⟩, by simp [intOf]; omega⟩
      · have hx0 : ¬ ((b[j]'hjl).toNat : Int) = 0 := by
          intro e
          apply hx
          apply UInt8.toNat_inj.1
          show _ = 0
          omega
        have hn2 : nought b = false := by
          cases hb : nought b with
          | false => rfl
          | true =>
            unfold nought at hb
            rw [List.all_eq_true] at hb
            have := hb b[j] (List.getElem_mem hjl)
            exact absurd (by simpa using this) hx
        have HN := Lib.hid hn2
        clear hno htk hx hcell hn2
        generalize b[j] = y at *
        go_wp2
        go_ret
        exact ⟨(congrArg (fun z => Ending.returned (Value.bool z)) HN.out).symm, by trivial⟩
    · obtain rfl : j = b.length := by omega
      rw [List.take_length] at hno
      have HN := Lib.hid hno
      clear hno
      go_wp2
      go_ret
      exact ⟨(congrArg (fun z => Ending.returned (Value.bool z)) HN.out).symm, by trivial⟩
/-- A number in a sealed part. -/
def fld (b : List UInt8) (t n : Nat) : Nat := beVal ((b.drop t).take n)
/-- What Unpack tells: number, life, part, parts, bytes, why not. -/
structure RU where
  num : Nat
  life : Nat
  part : Nat
  parts : Nat
  dat : List UInt8
  err : Nat
def badU (E : Nat) : RU := ⟨0, 0, 0, 0, [], E⟩
def unB (b : List UInt8) : RU := if b.take 4 ≠ mark ∨ fld b 18 2 ≤ fld b 16 2 ∨ 480 < fld b 20 2 ∨ nought (b.drop (22 + fld b 20 2)) = false then badU 2 else ⟨fld b 4 8, fld b 12 4, fld b 16 2, fld b 18 2, (b.drop 22).take (fld b 20 2), 0⟩
def unS (s : List UInt8) : RU := if s.length ≠ 512 then badU 3 else if (openS s).2 ≠ 0 then badU (openS s).2 else unB (openS s).1
end Rg
end Go.Proofs.Ytpfackjnnkjjdaa
