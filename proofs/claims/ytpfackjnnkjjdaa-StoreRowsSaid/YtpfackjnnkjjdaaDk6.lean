/- Package disk: the touched ones sorted; what a Flush and a Crash leave (plain). -/
import Derived.Test.YtpfackjnnkjjdaaDk5
import Derived.Test.YtpfackjnnkjjdaaShelf
namespace Go.Proofs.Ytpfackjnnkjjdaa
open Go.ChangeShapes Go.WideShapes Go.ChangeAt Go.RowKit Go.Lib
set_option linter.unusedVariables false
set_option linter.unusedSimpArgs false
namespace Dk
/-- The touched ones, rising. -/
def sorted (L : List Nat) : List Nat := ((L.map fun n : Nat => (n : Int)).mergeSort fun x y => decide (x ≤ y)).map Int.toNat
theorem sorted_perm (L : List Nat) : (sorted L).Perm L := by
  have h := (List.mergeSort_perm (L.map fun n : Nat => (n : Int)) fun x y => decide (x ≤ y)).map Int.toNat
  rw [List.map_map, show (Int.toNat ∘ fun n : Nat => (n : Int)) = id from funext fun n => by simp, List.map_id] at h
  exact h
theorem sorted_ints (L : List Nat) : ((L.map fun n : Nat => (n : Int)).mergeSort fun x y => decide (x ≤ y)).map (fun n : Int => Value.int .i64 n) = ints (sorted L) := by
  unfold ints sorted
  rw [List.map_map]
  apply List.map_congr_left
  intro x hx
  have := (List.mergeSort_perm (L.map fun n : Nat => (n : Int)) fun x y => decide (x ≤ y)).mem_iff.1 hx
  obtain ⟨n, _, rfl⟩ := List.mem_map.1 this
  simp
theorem sorted_pair (L : List Nat) : (sorted L).Pairwise (· ≤ ·) := by
  unfold sorted
  rw [List.pairwise_map]
  have h := List.pairwise_mergeSort (le := fun x y : Int => decide (x ≤ y)) (by intro a b c h1 h2; simp at *; omega) (by intro a b; simp; omega) (L.map fun n : Nat => (n : Int))
  exact h.imp fun {a b} h => by simp at h; omega
theorem sorted_len (L : List Nat) : (sorted L).length = L.length := (sorted_perm L).length_eq
section
variable {w : World} {X : Nat} {O : Nat → Prop} {S : DS} {V : DV}
theorem put_all {xs ys : List Value} {cur : Array Value} {zs : List Int} (hx : cur.toList.take zs.length = xs) (hl : zs.length ≤ cur.size) : (Sort.putCells (Value.int .i64) 0 zs.toArray cur).size = cur.size ∧ (Sort.putCells (Value.int .i64) 0 zs.toArray cur).toList.take zs.length = zs.map fun n => Value.int .i64 n := by
  constructor
  · simp [Sort.putCells]
  · apply List.ext_getElem
    · simp [Sort.putCells]; omega
    · intro i h1 h2
      have hi : i < zs.length := by simpa using h2
      simp [Sort.putCells, hi]
theorem sort_any (h : DiskM w X O S V) (hl : S.tch.length ≤ 1000000) : Calls Try.prog 38 #[V.tv] w fun e w' => e = .returned (.tuple #[]) ∧ DiskM w' X O { S with tch := sorted S.tch } V ∧ Eff O w w' ∧ Eff (fun k => V.tv.ownBlock = some k) w w' := by
  rcases h.tch.row.2 with ⟨hv, h0⟩ | ⟨g, cap, cur, hv, hB, hg, h1, h2, h3, h4⟩
  · rw [hv]
    refine (Try.slices_Sort_int_none none 0 w).mono ?_
    rintro e w' ⟨rfl, rfl⟩
    have : S.tch = [] := List.eq_nil_of_length_eq_zero h0
    refine ⟨rfl, ?_, Eff.refl _ _, Eff.refl _ _⟩
    have hs : sorted S.tch = S.tch := by rw [this]; simp [sorted]
    rw [hs]
    exact h
  · have hL : (S.tch.map fun n : Nat => (n : Int)).length = S.tch.length := by simp
    have hcur : S.tch.length ≤ cur.size := by omega
    have hH : Sort.Holds (Value.int .i64) w g 0 (S.tch.map fun n : Nat => (n : Int)).toArray := by
      intro j hj
      have hj' : j < S.tch.length := by simpa using hj
      have hm : Mem w g 3 cur := hg
      rw [Nat.zero_add]
      refine ⟨?_, hm.free j⟩
      have := own_cells (hv ▸ h.tch.row) j _ (ints_get hj')
      rw [this]
      congr 1
      rw [getElem!_pos _ j (by simpa using hj')]
      simp
    rw [hv, ← hL]
    refine (Try.slices_Sort_int g 0 cap _ w hH (Array.getElem?_eq_some_iff.1 hg).1 (by rw [hL]; omega)).mono ?_
    rintro e w' ⟨rfl, n, os, rfl⟩
    have hgl := (Array.getElem?_eq_some_iff.1 hg).1
    have hblk : (Sort.grow (Sort.putRow (Value.int .i64) (Sort.ahead w n) g 0 ((S.tch.map fun n : Nat => (n : Int)).mergeSort fun x y => decide (x ≤ y)).toArray) os).heap[g]? = some (.cells (Sort.putCells (Value.int .i64) 0 ((S.tch.map fun n : Nat => (n : Int)).mergeSort fun x y => decide (x ≤ y)).toArray cur) 3 (0, 0)) := by
      rw [Sort.heap_grow_old _ _ (by simpa using hgl)]
      simp [Sort.putRow, Sort.mapBlock, hg, Sort.onCells, Array.getElem?_modify]
    have hle : ((S.tch.map fun n : Nat => (n : Int)).mergeSort fun x y => decide (x ≤ y)).length = S.tch.length := by simp
    have hpa := put_all (xs := cur.toList.take S.tch.length) (ys := []) (cur := cur) (zs := (S.tch.map fun n : Nat => (n : Int)).mergeSort fun x y => decide (x ≤ y)) (by rw [hle]) (by rw [hle]; exact hcur)
    have he : Eff (fun k => k = g) w (Sort.grow (Sort.putRow (Value.int .i64) (Sort.ahead w n) g 0 ((S.tch.map fun n : Nat => (n : Int)).mergeSort fun x y => decide (x ≤ y)).toArray) os) := by
      refine ⟨rfl, rfl, rfl, by simp, fun k hk hn => ?_⟩
      rw [Sort.heap_grow_old _ _ (by simpa using hk)]
      simp [Sort.putRow, Sort.mapBlock, Array.getElem?_modify, Ne.symm hn]
    generalize Sort.grow (Sort.putRow (Value.int .i64) (Sort.ahead w n) g 0 ((S.tch.map fun n : Nat => (n : Int)).mergeSort fun x y => decide (x ≤ y)).toArray) os = w' at *
    have hno : ∀ {k t : Nat}, Tag w k t → t ≠ 3 → ¬ k = g := fun hk h1 e => hk.ne ⟨_, _, hg⟩ h1 e
    have hOg : O g := h.tch.own g (by rw [hv]; rfl)
    refine ⟨rfl, ⟨h.ox, fun k hk => Nat.lt_of_lt_of_le (h.lt k hk) he.size, h.mem.eff he (hno (mem_tag h.mem) (by decide)), ?_, ?_, ?_, ?_, h.lens, h.ap1, h.ap2, h.ap3⟩, he.mono fun k _ hk => hk ▸ hOg, he.mono fun k _ hk => (by rw [show k = g from hk]; rfl)⟩
    · exact h.last.eff he (fun k hk => hno (h.last.row.tag hk) (by decide)) fun k hk => hno hk (by decide)
    · exact h.waits.eff he (fun k hk => hno (h.waits.row.tag hk) (by decide)) (fun i u k hu hk => hno (h.wtag hu hk) (by decide)) fun k hk => hno hk (by decide)
    · refine ⟨?_, h.tch.own⟩
      show World.ownsRow w' 0 _ 1 V.tv (sorted S.tch).length (ints (sorted S.tch))
      rw [hv, sorted_len]
      refine ⟨by rw [← sorted_ints]; simp, .inr ⟨g, cap, _, rfl, Nat.zero_le _, hblk, h1, h2, by rw [hpa.1]; exact h3, ?_⟩⟩
      rw [hle] at hpa
      rw [Nat.mul_one, hpa.2, sorted_ints]
    · exact h.pck.eff he fun k hk e => h.ap3 k (by rw [hv, e]; rfl) hk
end
end Dk
end Go.Proofs.Ytpfackjnnkjjdaa
