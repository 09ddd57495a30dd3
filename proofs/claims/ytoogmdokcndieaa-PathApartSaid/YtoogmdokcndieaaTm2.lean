/- Package timer: place, New, Len, Now: contracts. -/
import Derived.Test.YtoogmdokcndieaaTm1
import Derived.Lib.SliceRun
namespace Go.Proofs.Ytoogmdokcndieaa
open Go.ChangeShapes Go.WideShapes Go.ChangeAt Go.RowKit Go.Lib
set_option linter.unusedVariables false
theorem is_any (a : One) (id : Int) (b : Nat) (w : World) (hc : w.cell? ⟨b, 0, none⟩ = some (.int .i64 id)) : Calls Try.prog 33 #[.agg #[.int .i64 a.1, .int .i64 a.2], .pointer (some ⟨b, 0, none⟩)] w fun e w' => e = .returned (.bool (decide (a.1 = id))) ∧ Below w.heap.size w w' := by
  obtain ⟨a1, a2⟩ := a
  simp only
  have h1 := fun o => Lib.cell?_alloc_some o hc
  go_enter Try.func33, Try.ntmps33
  go_wp2
  go_ret
  exact ⟨by simp only [Ending.returned.injEq]; rfl, (Below.refl _ w).alloc (Nat.le_refl _) _⟩
/-- Where an id is first. -/
def ix (H : List One) (id : Int) : Nat := H.findIdx (fun x => decide (x.1 = id))
theorem ix_le (H : List One) (id : Int) : ix H id ≤ H.length := List.findIdx_le_length
theorem ix_is {H : List One} {id : Int} (h : ix H id < H.length) : (pl H (ix H id)).1 = id := by
  have := List.findIdx_getElem (xs := H) (p := fun x : One => decide (x.1 = id)) (w := h)
  rw [pl_in h]
  exact of_decide_eq_true this
theorem ix_not {H : List One} {id : Int} {j : Nat} (h : j < ix H id) : (pl H j).1 ≠ id := by
  have h2 := List.not_of_lt_findIdx (xs := H) (p := fun x : One => decide (x.1 = id)) h
  rw [pl_in (Nat.lt_of_lt_of_le h (ix_le H id))]
  intro e
  rw [decide_eq_true e] at h2
  cases h2
/-- What place answers. -/
def ixI (H : List One) (id : Int) : Int := if ix H id < H.length then (ix H id : Int) else -1
set_option maxHeartbeats 1000000 in
theorem index_any (B X : Nat) (A : Option Addr) (c : Nat) (H : List One) (now id : Int) (b : Nat) (w : World) (hl : H.length ≤ 1000) (hn : TmInv w B X (.slice A H.length c) H now) (hc : w.cell? ⟨b, 0, none⟩ = some (.int .i64 id)) (hb : b < w.heap.size) :
    Calls Try.prog 32 #[.slice A H.length c, .func (.func 33) #[] #[.pointer (some ⟨b, 0, none⟩)]] w fun e w' => e = .returned (.int .i64 (ixI H id)) ∧ Below w.heap.size w w' := by
  have hlx : (H.length : Int) ≤ 1000 := by omega
  have hix := ix_le H id
  have hnot := fun j => ix_not (H := H) (id := id) (j := j)
  have his := ix_is (H := H) (id := id)
  unfold ixI
  generalize ix H id = m at *
  go_enter Try.func32, Try.ntmps32
  go_wp2
  go_loopw [8] (fun i wr => ∃ k : Nat, k ≤ m ∧ i = .int .i64 k ∧ Below w.heap.size w wr) (fun i _ => m - (intOf i).toNat)
  case atStart => exact ⟨0, by omega, rfl, Below.refl _ _⟩
  case round =>
    obtain ⟨k, hk, rfl, hbw⟩ := hrel
    have hcb : wr.cell? ⟨b, 0, none⟩ = some (.int .i64 id) := (hbw.cell (p := ⟨b, 0, none⟩) hb).trans hc
    by_cases hkl : k < H.length
    · have hkx : (k : Int) < (H.length : Int) := by omega
      obtain ⟨g, rfl, hBg, hgX⟩ := hn.at_ hkl
      have hq := (hn.below hbw).cells hkl
      have hf := is_any (pl H k) id b wr hcb
      have hq1 := hq.1
      have hq2 := hq.2
      by_cases hkm : k < m
      · have e := hnot k hkm
        have ed : decide ((pl H k).1 = id) = false := decide_eq_false e
        rw [ed] at hf
        generalize pl H k = p at *
        go_wp2_with (go_at_call 33; (with_reducible refine hf.mono ?_); rintro e w1 ⟨rfl, hb1⟩)
        exact ⟨⟨k + 1, by omega, by simp, hbw.trans (hb1.mono hbw.size)⟩, by simp [intOf]; omega⟩
      · obtain rfl : k = m := by omega
        have e := his hkl
        have ed : decide ((pl H k).1 = id) = true := decide_eq_true e
        rw [ed] at hf
        clear his hnot e ed
        generalize pl H k = p at *
        go_wp2_with (go_at_call 33; (with_reducible refine hf.mono ?_); rintro e w1 ⟨rfl, hb1⟩)
        go_ret
        exact ⟨by simp, hbw.trans (hb1.mono hbw.size)⟩
    · obtain rfl : k = m := by omega
      obtain rfl : k = H.length := by omega
      go_wp2
      go_ret
      exact ⟨by simp, hbw⟩
theorem place_any (B X : Nat) (v : Value) (H : List One) (now id : Int) (w : World) (hl : H.length ≤ 1000) (hn : TmInv w B X v H now) :
    Calls Try.prog 20 #[.pointer (some ⟨X, 0, none⟩), .int .i64 id] w fun e w' => e = .returned (.int .i64 (ixI H id)) ∧ Below w.heap.size w w' := by
  obtain ⟨A, c, rfl, hc1, hc2⟩ := hn.parts
  have hx := fun o => Lib.cell?_alloc_some o (hn.mem.cell 0)
  have hi := index_any B X A c H now id w.heap.size (w.alloc (.cells #[.int .i64 id] 3)) hl (hn.below ((Below.refl _ w).alloc (Nat.le_refl _) _)) ((Mem.new w 3 #[.int .i64 id]).cell 0) (by simp)
  have hb : Below w.heap.size w (w.alloc (.cells #[.int .i64 id] 3)) := (Below.refl _ w).alloc (Nat.le_refl _) _
  go_enter Try.func20, Try.ntmps20
  go_wp2_with (go_at_call 32; (with_reducible refine hi.mono ?_); rintro e w1 ⟨rfl, hb1⟩)
  go_ret
  exact ⟨rfl, hb.trans (hb1.mono hb.size)⟩
theorem new_any (w : World) : Calls Try.prog 12 #[] w fun e w' => e = .returned (.pointer (some ⟨w.heap.size, 0, none⟩)) ∧ TmInv w' w.heap.size w.heap.size (.slice none 0 0) [] 0 ∧ Below w.heap.size w w' := by
  go_enter Try.func12, Try.ntmps12
  go_wp2
  go_ret
  exact ⟨rfl, ⟨Nat.le_refl _, Mem.new w _ _, World.ownsRow_nil _ _ _ _⟩, (Below.refl _ w).alloc (Nat.le_refl _) _⟩
end Go.Proofs.Ytoogmdokcndieaa
