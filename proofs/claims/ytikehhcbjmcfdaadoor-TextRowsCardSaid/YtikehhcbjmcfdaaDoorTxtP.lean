/- Package text: pairs in memory; place and Find: contracts. -/
import Derived.Test.YtikehhcbjmcfdaaDoorTxt
namespace Go.Proofs.YtikehhcbjmcfdaaDoor
open Go.ChangeShapes Go.WideShapes Go.ChangeAt Go.RowKit
set_option linter.unusedVariables false
/-- The slice value v shows the pairs l, in blocks below B: two cells a pair. -/
def Pr (w : World) (B : Nat) (v : Value) (l : List (ByteArray × ByteArray)) : Prop :=
  ∃ A c, v = .slice A l.length c ∧ l.length ≤ c ∧ c ≤ maxLen ∧ (∀ p ∈ l, p.1.size ≤ maxLen ∧ p.2.size ≤ maxLen) ∧
    (l ≠ [] → ∃ b off, A = some ⟨b, off, none⟩ ∧ b < B ∧ ∀ j p, l[j]? = some p → w.cell? ⟨b, off + j * 2, none⟩ = some (.string p.1) ∧ w.cell? ⟨b, off + j * 2 + 1, none⟩ = some (.string p.2))
theorem Pr.below {w w' : World} {B : Nat} {v : Value} {l : List (ByteArray × ByteArray)} (h : Pr w B v l) (hb : Below B w w') : Pr w' B v l := by
  obtain ⟨A, c, e, h1, h2, h3, h4⟩ := h
  refine ⟨A, c, e, h1, h2, h3, fun hx => ?_⟩
  obtain ⟨b, off, ea, hlt, hc⟩ := h4 hx
  exact ⟨b, off, ea, hlt, fun j p hp => ⟨(hb.cell (p := ⟨b, _, none⟩) hlt).trans (hc j p hp).1, (hb.cell (p := ⟨b, _, none⟩) hlt).trans (hc j p hp).2⟩⟩
theorem Pr.more {w : World} {B B' : Nat} {v : Value} {l : List (ByteArray × ByteArray)} (h : Pr w B v l) (hB : B ≤ B') : Pr w B' v l := by
  obtain ⟨A, c, e, h1, h2, h3, h4⟩ := h
  refine ⟨A, c, e, h1, h2, h3, fun hx => ?_⟩
  obtain ⟨b, off, ea, hlt, hc⟩ := h4 hx
  exact ⟨b, off, ea, by omega, hc⟩
theorem Pr.now {a b : World} {v : Value} {l : List (ByteArray × ByteArray)} (h : Pr a a.heap.size v l) (k : Below a.heap.size a b) : Pr b b.heap.size v l := (h.below k).more k.size
theorem Pr.form {w : World} {B : Nat} {v : Value} {l : List (ByteArray × ByteArray)} (h : Pr w B v l) : ∃ A c, v = .slice A l.length c ∧ l.length ≤ c ∧ c ≤ maxLen := by
  obtain ⟨A, c, e, h1, h2, _⟩ := h
  exact ⟨A, c, e, h1, h2⟩
theorem Pr.at_ {w : World} {B : Nat} {A : Option Addr} {c : Nat} {l : List (ByteArray × ByteArray)} (h : Pr w B (.slice A l.length c) l) (hn : 0 < l.length) :
    ∃ b off, A = some ⟨b, off, none⟩ ∧ b < B ∧ ∀ j p, l[j]? = some p → w.cell? ⟨b, off + j * 2, none⟩ = some (.string p.1) ∧ w.cell? ⟨b, off + j * 2 + 1, none⟩ = some (.string p.2) := by
  obtain ⟨A', c', e, h1, h2, _, h3⟩ := h
  injection e with e1 e2 e3
  subst e1
  exact h3 (by rintro rfl; simp at hn)
theorem Pr.sizes {w : World} {B : Nat} {v : Value} {l : List (ByteArray × ByteArray)} (h : Pr w B v l) : ∀ p ∈ l, p.1.size ≤ maxLen ∧ p.2.size ≤ maxLen := by
  obtain ⟨A, c, e, h1, h2, h3, _⟩ := h
  exact h3
/-- Where the first pair of that key stands. -/
def placeS (l : List (ByteArray × ByteArray)) (key : ByteArray) : Int := if l.findIdx (fun p => p.1 == key) < l.length then (l.findIdx (fun p => p.1 == key) : Int) else -1
theorem place_any (v : Value) (l : List (ByteArray × ByteArray)) (key : ByteArray) (w : World) (hv : Pr w w.heap.size v l) :
    Calls Tryd.prog 24 #[v, .string key] w fun e w' => e = .returned (.int .i64 (placeS l key)) ∧ Below w.heap.size w w' := by
  obtain ⟨A, c, rfl, hc1, hc2⟩ := hv.form
  unfold maxLen at hc2
  go_enter Tryd.func24, Tryd.ntmps24
  go_wp2
  go_loopw [9] (fun i wr => ∃ k : Nat, k ≤ l.length ∧ i = .int .i64 k ∧ (∀ j (h : j < l.length), j < k → (l[j].1 == key) = false) ∧ Below w.heap.size w wr) (fun i _ => l.length - (intOf i).toNat)
  case atStart => exact ⟨0, Nat.zero_le _, rfl, fun j _ h => by omega, Below.refl _ _⟩
  case round =>
    obtain ⟨k, hk, rfl, hno, hb⟩ := hrel
    by_cases hlt : k < l.length
    · obtain ⟨b, off, rfl, hbB, hcell⟩ := (hv.below hb).at_ (by omega)
      obtain ⟨p, hp⟩ : ∃ p, p = l[k] := ⟨_, rfl⟩
      have hpk : l[k]? = some p := by rw [hp, List.getElem?_eq_getElem hlt]
      obtain ⟨hx0, hx1⟩ := hcell k p hpk
      clear hcell
      have hpk' : p = l[k] := hp
      clear hp
      have hr : k < l.length → l[k] = p := fun _ => hpk'.symm
      clear hpk'
      go_wp2
      · rename_i h
        go_ret
        refine ⟨?_, hb.alloc hb.size _⟩
        rw [← beq_toListBytes] at h
        have e : l.findIdx (fun p => p.1 == key) = k := by
          rw [List.findIdx_eq hlt]
          exact ⟨by rw [hr hlt]; exact h, fun j hj => hno j (by omega) hj⟩
        unfold placeS
        rw [e, if_pos hlt]
        rfl
      · rename_i h
        rw [← beq_toListBytes] at h
        refine ⟨⟨k + 1, by omega, by go_num, fun j hj h1 => ?_, hb.alloc hb.size _⟩, by simp [intOf]; omega⟩
        rcases Nat.lt_or_ge j k with h2 | h2
        · exact hno j hj h2
        · obtain rfl : j = k := by omega
          rw [hr hlt]; exact h
    · obtain rfl : k = l.length := by omega
      go_wp2
      go_ret
      refine ⟨?_, hb⟩
      have e : l.findIdx (fun p => p.1 == key) = l.length := by
        rw [List.findIdx_eq_length]
        intro x hx
        obtain ⟨j, hj, rfl⟩ := List.getElem_of_mem hx
        exact hno j hj hj
      unfold placeS
      rw [e, if_neg (by omega)]
      rfl
/-- The value of the first pair of that key. -/
def findS (l : List (ByteArray × ByteArray)) (key : ByteArray) : ByteArray × Bool := match l[l.findIdx (fun p => p.1 == key)]? with
  | some p => (p.2, true)
  | none => (⟨#[]⟩, false)
theorem ret_find {l : List (ByteArray × ByteArray)} {key s : ByteArray} {t : Bool} (h : findS l key = (s, t)) : Ending.returned (.tuple #[.string s, .bool t]) = .returned (.tuple #[.string (findS l key).1, .bool (findS l key).2]) := by rw [h]
theorem Find_any (v : Value) (l : List (ByteArray × ByteArray)) (key : ByteArray) (w : World) (hv : Pr w w.heap.size v l) :
    Calls Tryd.prog 15 #[v, .string key] w fun e w' => e = .returned (.tuple #[.string (findS l key).1, .bool (findS l key).2]) ∧ Below w.heap.size w w' := by
  obtain ⟨A, c, rfl, hc1, hc2⟩ := hv.form
  unfold maxLen at hc2
  have hp := place_any _ l key w hv
  obtain ⟨k, hk⟩ : ∃ k, k = l.findIdx (fun p => p.1 == key) := ⟨_, rfl⟩
  by_cases hlt : k < l.length
  · have e : placeS l key = k := by unfold placeS; rw [← hk, if_pos hlt]
    rw [e] at hp
    obtain ⟨p, hpk⟩ : ∃ p, l[k]? = some p := ⟨_, List.getElem?_eq_getElem hlt⟩
    have hF : Hid (findS l key = (p.2, true)) := Lib.hid (by unfold findS; rw [← hk, hpk])
    clear hk e
    obtain ⟨b, off, rfl, hbB, hcell⟩ := hv.at_ (by omega)
    obtain ⟨hx0, hx1⟩ := hcell k p hpk
    clear hcell hpk
    go_enter Tryd.func15, Tryd.ntmps15
    go_wp2_with (go_at_call 24; refine hp.mono ?_; rintro e w' ⟨rfl, hb⟩; have hy1 := (hb.cell (p := ⟨b, off + k * 2 + 1, none⟩) hbB).trans hx1)
    exact bodyPost_ret (v := .tuple #[.string p.2, .bool true]) (by simp [results, Tryd.results15, go_sem]) rfl ⟨ret_find hF.out, hb⟩
  · have e : placeS l key = -1 := by unfold placeS; rw [← hk, if_neg hlt]
    rw [e] at hp
    have hF : Hid (findS l key = (⟨#[]⟩, false)) := Lib.hid (by unfold findS; rw [← hk, List.getElem?_eq_none (by omega)])
    clear hk e
    go_enter Tryd.func15, Tryd.ntmps15
    go_wp2_with (go_at_call 24; refine hp.mono ?_; rintro e w' ⟨rfl, hb⟩)
    exact bodyPost_ret (v := .tuple #[.string ⟨#[]⟩, .bool false]) (by simp [results, Tryd.results15, go_sem]) rfl ⟨ret_find hF.out, hb⟩
end Go.Proofs.YtikehhcbjmcfdaaDoor
