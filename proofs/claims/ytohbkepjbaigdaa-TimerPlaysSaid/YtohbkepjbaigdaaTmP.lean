/- gemellaw10: timers set one by one, with the ticks that a row of bytes tells; a tick at which none goes off. -/
import Derived.Test.YtohbkepjbaigdaaTmK
namespace Go.Proofs.Ytohbkepjbaigdaa
open Go.ChangeShapes Go.WideShapes Go.ChangeAt Go.RowKit Go.Lib
set_option linter.unusedVariables false
theorem gone_none {S : List One} {n : Int} (h : ∀ x ∈ S, x.2 ≠ n) : gone S n = S := by
  unfold gone
  rw [List.filter_eq_self]
  intro x hx
  exact decide_eq_true (h x hx)
theorem tick_none {o w : World} {X : Nat} {S : List One} {now : Int} (h : TmS o w X S now) (hn9 : now < 1000000) (hno : ∀ x ∈ S, x.2 ≠ now + 1) : Calls Try.prog 15 #[.pointer (some ⟨X, 0, none⟩)] w fun e w' => ∃ A c, e = .returned (.slice A 0 c) ∧ TmS o w' X S (now + 1) := by
  refine (ticked h hn9).mono ?_
  rintro e w' ⟨A, c, I, rfl, HI, _, _, h2, _⟩
  obtain rfl := no_ids (I := I) fun i hi => hno _ ((HI.out.2.1 i).1 hi) rfl
  rw [gone_none hno] at h2
  exact ⟨A, c, rfl, h2⟩
/-- The first k are set. -/
structure Laid (l : List UInt8) (k : Nat) (S : List One) : Prop where
  mem : ∀ x, x ∈ S ↔ ∃ i, ∃ h : i < l.length, i < k ∧ x = ((i : Int), 1 + ((l[i]).toNat : Int))
  len : S.length = k
theorem Laid.zero (l : List UInt8) : Laid l 0 [] := ⟨by intro x; simp, rfl⟩
theorem Laid.new {l : List UInt8} {k : Nat} {S : List One} (h : Laid l k S) : (k : Int) ∉ ids S := by
  intro hm
  obtain ⟨x, hx, e⟩ := List.mem_map.1 hm
  obtain ⟨i, hi, hik, rfl⟩ := (h.mem x).1 hx
  simp only at e
  omega
theorem Laid.code {l : List UInt8} {k : Nat} {S : List One} (h : Laid l k S) (hk : k < 100) (b : UInt8) : setC S (k : Int) (1 + (b.toNat : Int)) = 0 := by
  have hb := b.toNat_lt
  unfold setC
  rw [if_neg (by omega), if_neg (fun hh => by have := hh.2; rw [h.len] at this; omega)]
theorem Laid.next {l : List UInt8} {k : Nat} {S : List One} (h : Laid l k S) (hk : k < 100) (hkl : k < l.length) : Laid l (k + 1) (setS S (k : Int) (1 + ((l[k]).toNat : Int)) 0) := by
  unfold setS
  rw [h.code hk, if_pos rfl, rm_no h.new, Int.zero_add]
  refine ⟨fun x => ?_, by rw [List.length_cons, h.len]⟩
  rw [List.mem_cons, h.mem]
  constructor
  · rintro (rfl | ⟨i, hi, hik, rfl⟩)
    · exact ⟨k, hkl, by omega, rfl⟩
    · exact ⟨i, hi, by omega, rfl⟩
  · rintro ⟨i, hi, hik, rfl⟩
    by_cases e : i = k
    · subst e
      exact .inl rfl
    · exact .inr ⟨i, hi, by omega, rfl⟩
theorem Laid.set {o w : World} {X k : Nat} {l : List UInt8} {S : List One} (h : Laid l k S) (hk : k < 100) (hkl : k < l.length) (hs : TmS o w X S 0) : Calls Try.prog 10 #[.pointer (some ⟨X, 0, none⟩), .int .i64 (k : Int), .int .i64 (1 + ((l[k]).toNat : Int))] w fun e w' => e = .returned (.int .i64 0) ∧ ∃ S', Hid (Laid l (k + 1) S') ∧ TmS o w' X S' 0 := by
  have hset := set_s hs (k : Int) (1 + ((l[k]).toNat : Int))
  rw [h.code hk] at hset
  exact hset.mono fun _ _ hh => ⟨hh.1, _, Lib.hid (h.next hk hkl), hh.2.1⟩
end Go.Proofs.Ytohbkepjbaigdaa
