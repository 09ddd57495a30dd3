/- Package net: slices.Delete of one packet: contract. -/
import Derived.Test.YtmlimmcaidkoeaaNt3
import Derived.Lib.SlicesCompact
import Derived.Lib.SlicesDelete
import Derived.Lib.Hide
import Derived.Deep.Upon
import Derived.WalkKit
import Derived.Deep.RegionLaw
import Derived.Lib.SliceRun
namespace Go.Proofs.Ytmlimmcaidkoeaa
open Go.ChangeShapes Go.WideShapes Go.ChangeAt Go.RowKit Go.Lib
set_option linter.unusedVariables false
/-- A row some of whose cells are laid anew. -/
def layV : Array Value → Nat → List Value → Array Value
  | d, _, [] => d
  | d, o, v :: r => layV (d.setIfInBounds o v) (o + 1) r
theorem layV_size : ∀ (vs : List Value) (d : Array Value) (o : Nat), (layV d o vs).size = d.size
  | [], _, _ => rfl
  | v :: r, d, o => by rw [layV, layV_size r]; simp
theorem layV_get : ∀ (vs : List Value) (d : Array Value) (o k : Nat), o + vs.length ≤ d.size → (layV d o vs)[k]? = if o ≤ k ∧ k < o + vs.length then vs[k - o]? else d[k]?
  | [], d, o, k, _ => by rw [if_neg (by simp only [List.length_nil]; omega)]; rfl
  | v :: r, d, o, k, h => by
    simp only [List.length_cons] at h ⊢
    rw [layV, layV_get r _ _ _ (by simp; omega)]
    by_cases h1 : o + 1 ≤ k ∧ k < o + 1 + r.length
    · rw [if_pos h1, if_pos (by omega), show k - o = (k - (o + 1)) + 1 by omega, List.getElem?_cons_succ]
    · by_cases h2 : k = o
      · subst h2
        rw [if_neg (by omega), if_pos (by omega), Nat.sub_self]
        simp [show k < d.size by omega]
      · rw [if_neg h1, if_neg (by omega)]
        simp [Ne.symm h2]
theorem Mem.lay {t g : Nat} : ∀ (vs : List Value) (w : World) (cs : Array Value) (o : Nat), Mem w g t cs → Mem (w.setCells g o vs) g t (layV cs o vs)
  | [], _, _, _, h => h
  | v :: r, w, cs, o, h => Mem.lay r _ _ (o + 1) (h.put o v)
theorem eff_setCells {g : Nat} {a : World} : ∀ (vs : List Value) (w : World) (o : Nat), Eff (fun k => k = g) a w → Eff (fun k => k = g) a (w.setCells g o vs)
  | [], _, _, h => h
  | v :: r, w, o, h => eff_setCells r _ (o + 1) (Eff.setCell (S := fun k => k = g) h (p := ⟨g, o, none⟩) rfl v)
section
variable {P : Program}
theorem run_clear_one (w : World) (t e ty : TypeId) (z : Value) (zs : List Value) (ht : P.underlying t = some (.slice e)) (hv : ∀ w, (zeroValue e).run P w = .ok z w) (hz : (Builtin.zeroCells z.cells 1).toList = zs) (h1 : ∀ u ∈ zs, u.oneCell' = true) (b o c : Nat)
    (hc : ∀ j, j < zs.length → (w.cell? ⟨b, o + j, none⟩).isSome = true) (hf : ∀ j, j < zs.length → w.frozen? ⟨b, o + j, none⟩ = false) :
    (Builtin.clear_ #[t] ty #[.slice (some ⟨b, o, none⟩) 1 c]).run P w = .ok (.tuple #[]) (w.setCells b o zs) := by
  have hst := run_storeCells_cells (P := P) b o zs 0 w (by simpa using hc) (by simpa using hf) h1
  simp only [Nat.add_zero] at hst
  simp [Builtin.clear_, run_underlying ht, hv, hz, hst]
end
theorem flat_erase (L : List Pk) (i : Nat) : flat (L.eraseIdx i) = (flat L).take (3 * i) ++ (flat L).drop (3 * (i + 1)) := by
  rw [flat_take, flat_drop, ← flat_app, List.eraseIdx_eq_take_drop_succ]
set_option maxRecDepth 1000000 in
set_option maxHeartbeats 4000000 in
theorem del_any (B : Nat) (A : Option Addr) (c : Nat) (L : List Pk) (i : Nat) (hi : i < L.length) (hd : ∀ p ∈ L, p.d.oneCell' = true) (w : World) (ho : w.ownsRow B 41 3 (.slice A L.length c) L.length (flat L)) :
    Calls Try.prog 33 #[.slice A L.length c, .int .i64 (i : Nat), .int .i64 ((i : Int) + 1)] w fun e w' => e = .returned (.slice A (L.length - 1) c) ∧ w'.ownsRow B 41 3 (.slice A (L.length - 1) c) (L.length - 1) (flat (L.eraseIdx i)) ∧ Eff (fun k => (Value.slice A L.length c).ownBlock = some k) w w' := by
  rcases ho.2 with ⟨hv, h0⟩ | ⟨g, cap, cur, hv, hBg, hg, hnc, hcm, hcs, htk⟩
  · omega
  simp only [Value.slice.injEq] at hv
  obtain ⟨rfl, _, rfl⟩ := hv
  obtain ⟨i0, hi0, hz0, hz1, hz2⟩ := info_parts pk_info
  generalize hn : L.length = n at *
  obtain ⟨j, hj1, hj2⟩ : ∃ j : Nat, i < j ∧ (i : Int) + 1 = j := ⟨i + 1, by omega, by omega⟩
  obtain ⟨hj3, hj4⟩ : j ≤ i + 1 ∧ j ≤ n := ⟨by omega, by omega⟩
  rw [hj2]
  have hfl : (flat L).length = n * 3 := by rw [flat_len, hn]
  have hcur : ∀ k, k < n * 3 → cur[k]? = (flat L)[k]? := by
    intro k hk
    rw [← htk, List.getElem?_take, if_pos hk, Array.getElem?_toList]
  have hmem : Mem w g 41 cur := hg
  have hmemd : Mem w.drew g 41 cur := hg
  obtain ⟨news, hnews⟩ : ∃ news, news = (flat L).drop (3 * (i + 1)) := ⟨_, rfl⟩
  have hlen : news.length = (n - j) * 3 := by rw [hnews, List.length_drop, hfl]; omega
  have hget : ∀ t, t < news.length → news[t]? = cur[3 * (i + 1) + t]? := by
    intro t ht
    rw [hcur _ (by rw [hlen] at ht; omega), hnews, List.getElem?_drop]
  have hflone : ∀ u ∈ flat L, u.oneCell' = true := by
    intro u hu
    simp only [flat, List.mem_flatMap] at hu
    obtain ⟨p, hp, hu⟩ := hu
    simp only [Pk.cells, List.mem_cons, List.not_mem_nil, or_false] at hu
    rcases hu with rfl | rfl | rfl
    · rfl
    · rfl
    · exact hd p hp
  have hsz : cur.size = c * 3 := hcs
  have hsome : ∀ W : World, ∀ cs : Array Value, cs.size = cur.size → Mem W g 41 cs → ∀ k, k < n * 3 → (W.cell? ⟨g, k, none⟩).isSome = true ∧ W.frozen? ⟨g, k, none⟩ = false := by
    intro W cs hc hm k hk
    refine ⟨?_, hm.free k⟩
    rw [hm.cell k, Array.getElem?_eq_getElem (by omega)]
    rfl
  obtain ⟨A2, hA, hsrc⟩ : ∃ A2 : Addr, (if c = j then some (⟨g, 0, none⟩ : Addr) else some ⟨g, j * 3, none⟩) = some A2 ∧ Hid (∀ t u, news[t]? = some u → w.drew.cell? (A2.add t) = some u) := by
    by_cases h : c = j
    · refine ⟨⟨g, 0, none⟩, by simp [h], Lib.hid fun t u hu => ?_⟩
      have h0 : news.length = 0 := by rw [hlen]; omega
      rw [List.length_eq_zero_iff.1 h0] at hu
      simp at hu
    · refine ⟨⟨g, j * 3, none⟩, by simp [h], Lib.hid fun t u hu => ?_⟩
      have ht : t < news.length := (List.getElem?_eq_some_iff.1 hu).1
      rw [hget t ht] at hu
      rw [add_plain, hmemd.cell, show j * 3 + t = 3 * (i + 1) + t by omega]
      exact hu
  have s1 : Hid (news.length = (n - j) * 3) := Lib.hid hlen
  have s2 : Hid (∀ u ∈ news, u.oneCell' = true) := Lib.hid fun u hu => hflone u (by rw [hnews] at hu; exact List.mem_of_mem_drop hu)
  have s3 : Hid (∀ t, t < news.length → (w.drew.cell? ⟨g, 0 + i * 3 + t, none⟩).isSome = true ∧ w.drew.frozen? ⟨g, 0 + i * 3 + t, none⟩ = false) := Lib.hid fun t ht => by
    rw [hlen] at ht
    exact hsome w.drew cur rfl hmemd _ (by omega)
  obtain ⟨W1, hW1⟩ : ∃ W1, W1 = w.drew.setCells g (0 + i * 3) news := ⟨_, rfl⟩
  have hM1 : Mem W1 g 41 (layV cur (0 + i * 3) news) := by rw [hW1]; exact hmemd.lay news _ _ _
  have hE1 : Eff (fun k => k = g) w W1 := by rw [hW1]; exact eff_setCells news _ _ ⟨rfl, rfl, rfl, Nat.le_refl _, fun _ _ _ => rfl⟩
  have hz3 : ∀ w, (zeroValue 41).run Try.prog w = .ok (.agg #[.int .i64 0, .int .i64 0, .slice none 0 0]) w := fun w => by kernel_rfl
  have hcl : ∀ ty, (Builtin.clear_ #[56] ty #[.slice (some ⟨g, (n - 1) * 3, none⟩) (n - (n - 1)) (c - (n - 1))]).run Try.prog W1 = .ok (.tuple #[]) (W1.setCells g ((n - 1) * 3) [.int .i64 0, .int .i64 0, .slice none 0 0]) := fun ty => by
    rw [show n - (n - 1) = 1 by omega]
    exact run_clear_one W1 56 41 ty _ _ Try.underlying56 hz3 (by kernel_rfl) (by intro u hu; simp at hu; rcases hu with rfl | rfl | rfl <;> rfl) g ((n - 1) * 3) (c - (n - 1)) (fun t ht => (hsome W1 _ (layV_size _ _ _) hM1 _ (by simp at ht; omega)).1) (fun t ht => (hsome W1 _ (layV_size _ _ _) hM1 _ (by simp at ht; omega)).2)
  have hW : Hid (W1 = w.drew.setCells g (0 + i * 3) news) := Lib.hid hW1
  have HM1 := Lib.hid hM1
  have HE1 := Lib.hid hE1
  have HG := Lib.hid hget
  have HC := Lib.hid hcur
  have hnj : i + (n - j) = n - 1 := by omega
  have hic : i ≤ c := by omega
  have hjc : j ≤ c := by omega
  clear hM1 hE1 hW1 hget hcur hsome hflone hmem hmemd hg hlen hfl hd ho
  go_enter Try.func33, Try.ntmps33
  go_wp2_with fail
  go_region_law (refine step_append_room rfl (.tmp 22) (.tmp 25) 56 rfl 41 i0 3 Try.underlying56 hi0 hz1 g 0 i c (by simp [Act.eval, Act.put]) A2 (n - j) (c - j) news (by simp [Act.eval, Act.put]) s1.out hsrc.out s2.out (by omega) s3.out ?_; rw [← hW.out])
  go_wp2
  go_ret
  have hM := HM1.out.lay [.int .i64 0, .int .i64 0, .slice none 0 0] _ _ ((n - 1) * 3)
  refine ⟨rfl, ⟨?_, .inr ⟨g, c, _, rfl, hBg, hM, by omega, hcm, ?_, ?_⟩⟩, ?_⟩
  · rw [flat_len, List.length_eraseIdx_of_lt (by omega)]; omega
  · rw [layV_size, layV_size]; exact hcs
  · rw [flat_erase]
    apply List.ext_getElem?
    intro k
    have hfl : (flat L).length = n * 3 := by rw [flat_len, hn]
    have hnl : news.length = (n - j) * 3 := s1.out
    rw [List.getElem?_take, Array.getElem?_toList, layV_get _ _ _ _ (by rw [layV_size]; simp; omega), layV_get _ _ _ _ (by omega)]
    by_cases hk : k < (n - 1) * 3
    · rw [if_pos hk, if_neg (by omega)]
      by_cases hk2 : k < 3 * i
      · rw [if_neg (by omega), HC.out k (by omega), List.getElem?_append_left (by rw [List.length_take]; omega), List.getElem?_take, if_pos hk2]
      · rw [if_pos (by omega), List.getElem?_append_right (by rw [List.length_take]; omega), hnews, List.length_take]
        congr 1
        omega
    · rw [if_neg hk, List.getElem?_eq_none]
      rw [List.length_append, List.length_take, List.length_drop]
      omega
  · exact (eff_setCells [.int .i64 0, .int .i64 0, .slice none 0 0] _ _ HE1.out).mono fun k _ h => by rw [h]; rfl
end Go.Proofs.Ytmlimmcaidkoeaa
