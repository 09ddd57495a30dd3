/- Package resv: each act keeps a table well made (for ResvOne). -/
import Derived.Test.YtgnpepkpbdddhaaRv9
namespace Go.Proofs.Ytgnpepkpbdddhaa
open Go.ChangeShapes Go.WideShapes Go.ChangeAt Go.RowKit Go.Lib
set_option linter.unusedVariables false
set_option linter.unusedSimpArgs false
namespace Rv
/-- Nobody holds it, or one that is registered. -/
def RT.Ok (t : RT) : Prop := (t.holder = -1 ∧ t.typ = 0) ∨ ∃ q : Nat, q < 8 ∧ t.holder = (q : Nat) ∧ t.at_ q ≠ 0 ∧ (t.typ = 1 ∨ t.typ = 3 ∨ t.typ = 5 ∨ t.typ = 6)
theorem ok_zero : RT.zero.Ok := .inl ⟨rfl, rfl⟩
theorem ok_free (t : RT) : t.free.Ok := .inl ⟨rfl, rfl⟩
theorem ok_clear (t : RT) : t.clear.Ok := .inl ⟨rfl, rfl⟩
theorem ok_put {t : RT} (h : t.Ok) (hl : t.keys.length = 8) (i f : Nat) (hi : i < 8) (hf : f ≠ 0 ∨ t.holder ≠ (i : Nat)) : (t.put i f).Ok := by
  rcases h with h | ⟨q, hq, h1, h2, h3⟩
  · exact .inl h
  · refine .inr ⟨q, hq, h1, ?_, h3⟩
    rw [put_at t hl i f q hi]
    split
    · rename_i e
      subst e
      exact hf.resolve_right fun h => h h1
    · exact h2
theorem ok_hold {t : RT} (i y : Nat) (hi : i < 8) (ha : t.at_ i ≠ 0) (hy : (y : Int) = 1 ∨ (y : Int) = 3 ∨ (y : Int) = 5 ∨ (y : Int) = 6) : (t.hold i y).Ok := .inr ⟨i, hi, rfl, ha, by show y = 1 ∨ y = 3 ∨ y = 5 ∨ y = 6; omega⟩
theorem drop_at (t : RT) (q : Nat) : ∀ L : List (Nat × Int), (∀ p ∈ L, p.1 ≠ q) → (t.drop L).at_ q = t.at_ q := by
  intro L
  induction L generalizing t with
  | nil => intro _; rfl
  | cons p L ih =>
    intro h
    have e : t.drop (p :: L) = ({ t with keys := t.keys.set p.1 0 } : RT).drop L := rfl
    rw [e, ih _ fun r hr => h r (List.mem_cons_of_mem _ hr)]
    unfold RT.at_
    show (t.keys.set p.1 0)[q]?.getD 0 = _
    rw [List.getElem?_set_ne (h p List.mem_cons_self)]
theorem ok_drop {t : RT} (h : t.Ok) (L : List (Nat × Int)) (hL : ∀ p ∈ L, (p.1 : Int) ≠ t.holder) : (t.drop L).up.Ok := by
  rcases h with h | ⟨q, hq, h1, h2, h3⟩
  · exact .inl h
  · refine .inr ⟨q, hq, h1, ?_, h3⟩
    show (t.drop L).at_ q ≠ 0
    rw [drop_at t q L fun p hp e => hL p hp (by rw [h1, e])]
    exact h2
theorem othTo_key (t : RT) (host : Int) (key : Nat) (code : Int) (hk : key ≠ 0) (j : Nat) : ∀ p ∈ othTo t host key code j, t.at_ p.1 = key := by
  induction j with
  | zero => intro p hp; cases hp
  | succ j ih =>
    intro p hp
    unfold othTo at hp
    split at hp
    · exact ih p hp
    · rename_i hn
      rcases List.mem_append.1 hp with h | h
      · exact ih p h
      · obtain rfl := List.mem_singleton.1 h
        exact Classical.byContradiction fun e => hn (.inr (.inr ⟨hk, e⟩))
section
variable {w w' : World} {Y : Nat} {t : RT}
/-- What any act leaves. -/
def Went (w : World) (Y : Nat) (t : RT) (e : Ending) (w' : World) : Prop := ∃ (t' : RT) (L : List (Nat × Int)) (s k c : Int), Tells w Y t' s k c L e w' ∧ t'.Ok ∧ t'.gen ≤ t.gen + 1
def Went1 (w : World) (Y : Nat) (t : RT) (e : Ending) (w' : World) : Prop := ∃ (t' : RT) (s k c : Int), Tell1 w Y t' s k c e w' ∧ t'.Ok ∧ t'.gen ≤ t.gen + 1
theorem went_reg (h : TabM w Y t) (ho : t.Ok) (hg : t.gen ≤ 999999) (host : Int) (key fresh : Nat) (ign : Bool) : Calls Try.prog 13 #[.pointer (some ⟨Y, 0, none⟩), .int .i64 host, .int .u64 (key : Nat), .int .u64 (fresh : Nat), .bool ign] w (Went w Y t) := by
  by_cases hh : 0 ≤ host ∧ host < 8
  · obtain ⟨i, rfl⟩ : ∃ i : Nat, host = (i : Nat) := ⟨host.toNat, by omega⟩
    have hi : i < 8 := by omega
    have good : (fresh ≠ 0 → Calls Try.prog 13 #[.pointer (some ⟨Y, 0, none⟩), .int .i64 (i : Nat), .int .u64 (key : Nat), .int .u64 (fresh : Nat), .bool ign] w (Tells w Y (t.put i fresh) 0 0 0 [])) → (fresh = 0 → t.holder ≠ (i : Nat) → Calls Try.prog 13 #[.pointer (some ⟨Y, 0, none⟩), .int .i64 (i : Nat), .int .u64 (key : Nat), .int .u64 (fresh : Nat), .bool ign] w (Tells w Y (t.put i 0) 0 0 0 [])) → (fresh = 0 → t.holder = (i : Nat) → Calls Try.prog 13 #[.pointer (some ⟨Y, 0, none⟩), .int .i64 (i : Nat), .int .u64 (key : Nat), .int .u64 (fresh : Nat), .bool ign] w (Tells w Y (t.put i 0).free 0 0 0 ((t.put i 0).told (i : Nat)))) → Calls Try.prog 13 #[.pointer (some ⟨Y, 0, none⟩), .int .i64 (i : Nat), .int .u64 (key : Nat), .int .u64 (fresh : Nat), .bool ign] w (Went w Y t) := by
      intro c1 c2 c3
      by_cases f0 : fresh = 0
      · by_cases f1 : t.holder = (i : Nat)
        · exact (c3 f0 f1).mono fun e w' he => ⟨_, _, 0, 0, 0, he, ok_free _, Nat.le_refl _⟩
        · exact (c2 f0 f1).mono fun e w' he => ⟨_, _, 0, 0, 0, he, ok_put ho h.len i 0 hi (.inr f1), Nat.le_refl _⟩
      · exact (c1 f0).mono fun e w' he => ⟨_, _, 0, 0, 0, he, ok_put ho h.len i fresh hi (.inl f0), Nat.le_refl _⟩
    cases ign with
    | true => exact good (fun f0 => reg_newI h hg i hi key fresh f0) (fun f0 f1 => by subst f0; exact reg_outI h hg i hi key f1) (fun f0 f1 => by subst f0; exact reg_goneI h hg i hi key f1)
    | false =>
      by_cases hk : t.at_ i = key
      · exact good (fun f0 => reg_new h hg i hi key fresh hk f0) (fun f0 f1 => by subst f0; exact reg_out h hg i hi key hk f1) (fun f0 f1 => by subst f0; exact reg_gone h hg i hi key hk f1)
      · exact (reg_conf h i hi key fresh hk).mono fun e w' he => ⟨_, _, 24, 0, 0, he, ho, Nat.le_succ _⟩
  · exact (reg_host h host key fresh ign hh).mono fun e w' he => ⟨_, _, 2, 5, 9216, he, ho, Nat.le_succ _⟩
/-- A refusal, or none. -/
theorem ref_or (host : Int) (key : Nat) : (∃ s k c, Ref Y t host key s k c true) ∨ ∃ i : Nat, i < 8 ∧ host = (i : Nat) ∧ t.at_ i ≠ 0 ∧ Ref Y t (i : Nat) key 0 0 0 false := by
  by_cases hh : 0 ≤ host ∧ host < 8
  · obtain ⟨i, rfl⟩ : ∃ i : Nat, host = (i : Nat) := ⟨host.toNat, by omega⟩
    have hi : i < 8 := by omega
    by_cases h0 : t.at_ i = 0
    · exact .inl ⟨_, _, _, Ref.key i hi key (.inl h0)⟩
    · by_cases h1 : t.at_ i = key
      · exact .inr ⟨i, hi, rfl, h0, Ref.not i hi key h0 h1⟩
      · exact .inl ⟨_, _, _, Ref.key i hi key (.inr h1)⟩
  · exact .inl ⟨_, _, _, Ref.host host key hh⟩
theorem ty_nat (y : Int) (hy : y = 1 ∨ y = 3 ∨ y = 5 ∨ y = 6) : ∃ n : Nat, y = (n : Nat) ∧ ((n : Int) = 1 ∨ (n : Int) = 3 ∨ (n : Int) = 5 ∨ (n : Int) = 6) := ⟨y.toNat, by omega, by omega⟩
theorem went_reserve (h : TabM w Y t) (ho : t.Ok) (host : Int) (key : Nat) (y : Int) : Calls Try.prog 14 #[.pointer (some ⟨Y, 0, none⟩), .int .i64 host, .int .u64 (key : Nat), .int .i64 y] w (Went1 w Y t) := by
  rcases ref_or (Y := Y) (t := t) host key with ⟨s, k, c, hr⟩ | ⟨i, hi, rfl, ha, hr⟩
  · exact (Reserve_ref h host key y s k c hr).mono fun e w' he => ⟨_, _, _, _, he, ho, Nat.le_succ _⟩
  · by_cases hy : y = 1 ∨ y = 3 ∨ y = 5 ∨ y = 6
    · obtain ⟨n, rfl, hn⟩ := ty_nat y hy
      by_cases h1 : t.holder = -1
      · exact (Reserve_take h i hi key n hn h1 hr).mono fun e w' he => ⟨_, _, _, _, he, ok_hold i n hi ha hn, Nat.le_succ _⟩
      · by_cases h2 : t.holder = (i : Nat)
        · by_cases h3 : t.typ = n
          · exact (Reserve_again h i hi key n hn h2 h3 hr).mono fun e w' he => ⟨_, _, _, _, he, ho, Nat.le_succ _⟩
          · exact (Reserve_typ h i hi key n hn h2 h3 hr).mono fun e w' he => ⟨_, _, _, _, he, ho, Nat.le_succ _⟩
        · exact (Reserve_other h i hi key n hn h1 h2 hr).mono fun e w' he => ⟨_, _, _, _, he, ho, Nat.le_succ _⟩
    · exact (Reserve_type h i hi key y hy hr).mono fun e w' he => ⟨_, _, _, _, he, ho, Nat.le_succ _⟩
theorem went_release (h : TabM w Y t) (ho : t.Ok) (host : Int) (key : Nat) (y : Int) : Calls Try.prog 17 #[.pointer (some ⟨Y, 0, none⟩), .int .i64 host, .int .u64 (key : Nat), .int .i64 y] w (Went w Y t) := by
  rcases ref_or (Y := Y) (t := t) host key with ⟨s, k, c, hr⟩ | ⟨i, hi, rfl, ha, hr⟩
  · exact (Release_ref h host key y s k c hr).mono fun e w' he => ⟨_, _, _, _, _, he, ho, Nat.le_succ _⟩
  · by_cases hy : y = 1 ∨ y = 3 ∨ y = 5 ∨ y = 6
    · obtain ⟨n, rfl, hn⟩ := ty_nat y hy
      by_cases h2 : t.holder = (i : Nat)
      · by_cases h3 : t.typ = n
        · exact (Release_gone h i hi key n hn h2 h3 hr).mono fun e w' he => ⟨_, _, _, _, _, he, ok_free t, Nat.le_succ _⟩
        · exact (Release_typ h i hi key n hn h2 h3 hr).mono fun e w' he => ⟨_, _, _, _, _, he, ho, Nat.le_succ _⟩
      · exact (Release_other h i hi key n hn h2 hr).mono fun e w' he => ⟨_, _, _, _, _, he, ho, Nat.le_succ _⟩
    · exact (Release_type h i hi key y hy hr).mono fun e w' he => ⟨_, _, _, _, _, he, ho, Nat.le_succ _⟩
theorem went_clear (h : TabM w Y t) (ho : t.Ok) (hg : t.gen ≤ 999999) (host : Int) (key : Nat) : Calls Try.prog 15 #[.pointer (some ⟨Y, 0, none⟩), .int .i64 host, .int .u64 (key : Nat)] w (Went w Y t) := by
  rcases ref_or (Y := Y) (t := t) host key with ⟨s, k, c, hr⟩ | ⟨i, hi, rfl, ha, hr⟩
  · exact (Clear_ref h host key s k c hr).mono fun e w' he => ⟨_, _, _, _, _, he, ho, Nat.le_succ _⟩
  · exact (Clear_good h i hi key hg hr).mono fun e w' he => ⟨_, _, _, _, _, he, ok_clear t, Nat.le_refl _⟩
theorem went_preempt (h : TabM w Y t) (ho : t.Ok) (hg : t.gen ≤ 999999) (host : Int) (key other : Nat) (y : Int) : Calls Try.prog 18 #[.pointer (some ⟨Y, 0, none⟩), .int .i64 host, .int .u64 (key : Nat), .int .u64 (other : Nat), .int .i64 y] w (Went w Y t) := by
  rcases ref_or (Y := Y) (t := t) host key with ⟨s, k, c, hr⟩ | ⟨i, hi, rfl, ha, hr⟩
  · exact (Preempt_ref h host key other y s k c hr).mono fun e w' he => ⟨_, _, _, _, _, he, ho, Nat.le_succ _⟩
  · by_cases h0 : other = 0
    · subst h0
      exact (Preempt_zero h i hi key y hr).mono fun e w' he => ⟨_, _, _, _, _, he, ho, Nat.le_succ _⟩
    · by_cases hL : othTo t (i : Nat) other 10757 8 = []
      · exact (Preempt_none h i hi key other h0 hL y hr).mono fun e w' he => ⟨_, _, _, _, _, he, ho, Nat.le_succ _⟩
      · have hne := othTo_mem t (i : Nat) other 10757 8
        have hke := othTo_key t (i : Nat) other 10757 h0 8
        rcases ho with h1 | ⟨q, hq, h1, h2, h3⟩
        · have ho : t.Ok := .inl h1
          exact (Preempt_keepA h i hi key other h0 hL h1.1 y hg hr).mono fun e w' he => ⟨_, _, _, _, _, he, ok_drop ho _ (fun p _ => by rw [h1.1]; omega), Nat.le_refl _⟩
        · have ho : t.Ok := .inr ⟨q, hq, h1, h2, h3⟩
          by_cases hqi : q = i
          · subst hqi
            exact (Preempt_keepB h q hq key other h0 hL h1 y hg hr).mono fun e w' he => ⟨_, _, _, _, _, he, ok_drop ho _ (fun p hp => by rw [h1]; exact (hne p hp).2), Nat.le_refl _⟩
          · by_cases hk : t.at_ q = other
            · by_cases hy : y = 1 ∨ y = 3 ∨ y = 5 ∨ y = 6
              · obtain ⟨n, rfl, hn⟩ := ty_nat y hy
                exact (Preempt_take h i hi key other h0 hL q hq hqi h1 hk n hn hg hr).mono fun e w' he => ⟨_, _, _, _, _, he, ok_drop (ok_hold i n hi ha hn) _ (fun p hp => (hne p hp).2), Nat.le_refl _⟩
              · exact (Preempt_bad h i hi key other h0 hL q hq hqi h1 hk y hy hr).mono fun e w' he => ⟨_, _, _, _, _, he, ho, Nat.le_succ _⟩
            · exact (Preempt_keepC h i hi key other h0 hL q hq hqi h1 hk y hg hr).mono fun e w' he => ⟨_, _, _, _, _, he, ok_drop ho _ (fun p hp => by rw [h1]; intro e; have := hke p hp; rw [show p.1 = q by omega] at this; exact hk this), Nat.le_refl _⟩
end
end Rv
end Go.Proofs.Ytgnpepkpbdddhaa
