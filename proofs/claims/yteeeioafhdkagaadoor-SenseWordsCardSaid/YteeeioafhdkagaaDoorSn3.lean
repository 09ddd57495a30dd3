/- Package sense: Text: contract; unlike replies have unlike words. -/
import Derived.Test.YteeeioafhdkagaaDoorSn2
import Derived.Test.YteeeioafhdkagaaDoorSnT
import Derived.Lib.ItoaLen
import Derived.Lib.ItoaMem
import Derived.Laws.Concat
namespace Go.Proofs.YteeeioafhdkagaaDoor
open Go.ChangeShapes Go.WideShapes Go.ChangeAt Go.RowKit
set_option linter.unusedVariables false
theorem dd_sign (n : Nat) : ∀ c ∈ Lib.decDigits n, 48 ≤ c.toNat ∧ c.toNat ≤ 57 := by
  induction n using Nat.strongRecOn with
  | ind n ih =>
    intro c hc
    rw [Lib.decDigits] at hc
    by_cases h : n < 10
    · rw [dif_pos h] at hc
      obtain rfl : c = UInt8.ofNat (48 + n) := by simpa using hc
      rw [UInt8.toNat_ofNat']
      omega
    · rw [dif_neg h] at hc
      rcases List.mem_append.1 hc with h1 | h1
      · exact ih (n / 10) (by omega) c h1
      · obtain rfl : c = UInt8.ofNat (48 + n % 10) := by simpa using h1
        rw [UInt8.toNat_ofNat']
        omega
def valD (l : List UInt8) : Nat := l.foldl (fun a c => a * 10 + (c.toNat - 48)) 0
theorem valD_dd (n : Nat) : valD (Lib.decDigits n) = n := by
  induction n using Nat.strongRecOn with
  | ind n ih =>
    rw [Lib.decDigits]
    by_cases h : n < 10
    · rw [dif_pos h]
      simp [valD, UInt8.toNat_ofNat']
      omega
    · rw [dif_neg h]
      unfold valD at ih ⊢
      rw [List.foldl_append, ih (n / 10) (by omega)]
      simp [UInt8.toNat_ofNat']
      omega
theorem dd_ne (n : Nat) : Lib.decDigits n ≠ [] := by
  rw [Lib.decDigits]
  split <;> simp
theorem itoa_inj {m n : Int} (h : Lib.itoa m = Lib.itoa n) : m = n := by
  have hne : ∀ (u v : Nat), (45 : UInt8) :: Lib.decDigits u ≠ Lib.decDigits v := by
    intro u v he
    have := dd_sign v 45 (by rw [← he]; simp)
    revert this
    decide
  unfold Lib.itoa at h
  by_cases h1 : m < 0
  · by_cases h2 : n < 0
    · rw [if_pos h1, if_pos h2] at h
      have h3 := congrArg valD (List.cons.inj h).2
      rw [valD_dd, valD_dd] at h3
      omega
    · rw [if_pos h1, if_neg h2] at h
      exact absurd h (hne _ _)
  · by_cases h2 : n < 0
    · rw [if_neg h1, if_pos h2] at h
      exact absurd h.symm (hne _ _)
    · rw [if_neg h1, if_neg h2] at h
      have h3 := congrArg valD h
      rw [valD_dd, valD_dd] at h3
      omega
theorem itoa_no_space (n : Int) : (32 : UInt8) ∉ Lib.itoa n := by
  intro h
  unfold Lib.itoa at h
  split at h
  · rcases List.mem_cons.1 h with h1 | h1
    · exact absurd h1 (by decide)
    · have := dd_sign _ _ h1
      revert this
      decide
  · have := dd_sign _ _ h
    revert this
    decide
theorem sep_inj : ∀ {x x' y y' : List UInt8}, (32 : UInt8) ∉ x → (32 : UInt8) ∉ x' → x ++ 32 :: y = x' ++ 32 :: y' → x = x' ∧ y = y'
  | [], [], _, _, _, _, h => ⟨rfl, (List.cons.inj h).2⟩
  | [], b :: x', _, _, _, h2, h => by
    have := (List.cons.inj h).1
    exact absurd (by rw [this]; simp) h2
  | a :: x, [], _, _, h1, _, h => by
    have := (List.cons.inj h).1
    exact absurd (by rw [← this]; simp) h1
  | a :: x, b :: x', y, y', h1, h2, h => by
    obtain ⟨e1, e2⟩ := List.cons.inj h
    have := sep_inj (fun hm => h1 (List.mem_cons_of_mem _ hm)) (fun hm => h2 (List.mem_cons_of_mem _ hm)) e2
    exact ⟨by rw [e1, this.1], this.2⟩
/-- A reply in words. -/
def textB (s k a : Int) : ByteArray :=
  if s == 0 then ⟨#[103, 111, 111, 100]⟩ else if s == 24 then ⟨#[99, 111, 110, 102, 108, 105, 99, 116]⟩ else if s == 8 then ⟨#[98, 117, 115, 121]⟩
  else if s == 2 then ((⟨#[99, 104, 101, 99, 107, 32]⟩ ++ ⟨(Lib.itoa k).toArray⟩) ++ ⟨#[32]⟩) ++ ⟨(Lib.itoa a).toArray⟩ else ⟨#[115, 116, 97, 116, 117, 115, 32]⟩ ++ ⟨(Lib.itoa s).toArray⟩
def textS (s k a : Int) : List UInt8 :=
  if s == 0 then [103, 111, 111, 100] else if s == 24 then [99, 111, 110, 102, 108, 105, 99, 116] else if s == 8 then [98, 117, 115, 121]
  else if s == 2 then [99, 104, 101, 99, 107, 32] ++ (Lib.itoa k ++ 32 :: Lib.itoa a) else [115, 116, 97, 116, 117, 115, 32] ++ Lib.itoa s
theorem textB_is (s k a : Int) : (textB s k a).data.toList = textS s k a := by
  unfold textB textS
  repeat' split
  all_goals simp [ByteArray.data_append]
theorem textS_inj (s k a t l b : Int) : textS s k a = textS t l b ↔ (s = t ∧ (s ≠ 2 ∨ a = b ∧ k = l)) := by
  constructor
  · intro h
    unfold textS at h
    simp only [beq_iff_eq] at h
    by_cases s0 : s = 0
    · by_cases t0 : t = 0
      · exact ⟨by omega, .inl (by omega)⟩
      · rw [if_pos s0, if_neg t0] at h
        repeat' split at h
        all_goals simp at h
    · by_cases s1 : s = 24
      · rw [if_neg s0, if_pos s1] at h
        by_cases t1 : t = 24
        · exact ⟨by omega, .inl (by omega)⟩
        · repeat' split at h
          all_goals first | (exfalso; omega) | simp at h
      · by_cases s2 : s = 8
        · rw [if_neg s0, if_neg s1, if_pos s2] at h
          by_cases t1 : t = 8
          · exact ⟨by omega, .inl (by omega)⟩
          · repeat' split at h
            all_goals first | (exfalso; omega) | simp at h
        · by_cases s3 : s = 2
          · rw [if_neg s0, if_neg s1, if_neg s2, if_pos s3] at h
            by_cases t1 : t = 2
            · rw [if_neg (by omega), if_neg (by omega), if_neg (by omega), if_pos t1] at h
              have h1 := sep_inj (itoa_no_space _) (itoa_no_space _) (List.append_cancel_left h)
              exact ⟨by omega, .inr ⟨itoa_inj h1.2, itoa_inj h1.1⟩⟩
            · repeat' split at h
              all_goals first | (exfalso; omega) | simp at h
          · rw [if_neg s0, if_neg s1, if_neg s2, if_neg s3] at h
            by_cases t4 : t = 0 ∨ t = 24 ∨ t = 8 ∨ t = 2
            · repeat' split at h
              all_goals first | (exfalso; omega) | simp at h
            · rw [if_neg (by omega), if_neg (by omega), if_neg (by omega), if_neg (by omega)] at h
              have h1 := itoa_inj (List.append_cancel_left h)
              exact ⟨h1, .inl s3⟩
  · rintro ⟨rfl, h⟩
    rcases h with h | ⟨rfl, rfl⟩
    · unfold textS
      simp only [beq_iff_eq]
      rw [if_neg h, if_neg h]
    · rfl
end Go.Proofs.YteeeioafhdkagaaDoor
