/- Package disk: Read: contract. -/
import Derived.Test.YtpfackjnnkjjdaaDk2
namespace Go.Proofs.Ytpfackjnnkjjdaa
open Go.ChangeShapes Go.WideShapes Go.ChangeAt Go.RowKit Go.Lib
set_option linter.unusedVariables false
set_option linter.unusedSimpArgs false
namespace Dk
/-- A sector's bytes, 0 behind. -/
def full (l : List UInt8) : List UInt8 := l ++ List.replicate (512 - l.length) 0
theorem full_len {l : List UInt8} (h : l.length ≤ 512) : (full l).length = 512 := by simp [full]; omega
/-- What is read of a sector. -/
def DS.now (S : DS) (n : Nat) : List UInt8 := ((S.wts[n]?.getD []).getLast?).getD (S.last[n]?.getD [])
theorem splice_full {l : List UInt8} (h : l.length ≤ 512) : splice (bs (List.replicate 512 (0 : UInt8))) 0 (bs l) = bs (full l) := by
  unfold splice full
  rw [List.take_zero, List.nil_append, Nat.zero_add, bs_app]
  congr 1
  rw [bs_len]
  unfold bs
  rw [← List.map_drop, List.drop_replicate]
section
variable {w : World} {X : Nat} {O : Nat → Prop} {S : DS} {V : DV}
set_option maxRecDepth 100000 in
set_option maxHeartbeats 1000000 in
theorem read_ok (h : DiskM w X O S V) (hdd : S.dead = false) (hof : S.off = false) (n : Nat) (hn : n < S.last.length) (hf : S.last.length ≤ 4096) (hw : ∀ L, S.wts[n]? = some L → L.length ≤ 1000000) :
    Calls Try.prog 50 #[.pointer (some ⟨X, 0, none⟩), .int .i64 (n : Nat)] w fun e w' => ∃ g, e = .returned (.tuple #[.slice (some ⟨g, 0, none⟩) 512 512, .int .i64 0]) ∧ w.heap.size ≤ g ∧ Mem w' g 5 (bs (full (S.now n))).toArray ∧ Below w.heap.size w w' := by
  obtain ⟨i0, hi, hz0, hz1, hz2⟩ := info_parts (show (Try.prog.info? 5).map (fun i => (i.zero, i.size, i.bytes)) = some (some (.int .u8 0), 1, 1) by kernel_rfl)
  have hsl8 : (Try.prog.info? 5).map (·.size) = some 1 := by kernel_rfl
  have hab := able_any h
  have herr : S.err = 0 := by unfold DS.err; rw [hdd, hof]; rfl
  rw [herr] at hab
  have hhs := has_any h (n : Int)
  rw [decide_eq_true (show 0 ≤ (n : Int) ∧ (n : Int) < (S.last.length : Int) by omega)] at hhs
  obtain ⟨gl, cl, hgl, hl1, hl2, hOl, hltl, hlc, hlf⟩ := h.last.row.at_ (by omega)
  obtain ⟨gw, cw, hgw, hw1, hw2, hOw, hltw, hwc, hwf⟩ := h.waits.row.at_ (by have := h.lens; omega)
  have x0 : w.cell? ⟨X, 0, none⟩ = some V.lv := h.mem.cell 0
  have x1 : w.cell? ⟨X, 1, none⟩ = some V.wv := h.mem.cell 1
  rw [hgl] at x0
  rw [hgw] at x1
  rw [h.lens] at x1
  obtain ⟨u, hu, hdu⟩ := h.last.get hn
  have y0 := hlc _ _ hu
  obtain ⟨v, D, hv, hbv⟩ := h.waits.get (j := n) (by have := h.lens; omega)
  have y1 := hwc _ _ hv
  obtain ⟨A, c, rfl, hc1, hc2⟩ := hbv.row.form
  have hnn : S.now n = ((S.wts[n]'(by have := h.lens; omega)).getLast?).getD S.last[n] := by
    unfold DS.now
    rw [List.getElem?_eq_getElem hn, List.getElem?_eq_getElem (by have := h.lens; omega)]
    rfl
  have hwl := hw _ (List.getElem?_eq_getElem (by have := h.lens; omega))
  have hn1 : (n : Int) < (S.last.length : Int) := by omega
  rw [hnn]
  generalize (S.wts[n]'(by have := h.lens; omega)) = L at *
  generalize S.last[n] = l0 at *
  clear hnn hw hlc hlf hwc hwf
  have hz : ∀ (W : World), W.ownsRow w.heap.size 5 1 (.slice (some ⟨w.heap.size, 0, none⟩) 512 512) 512 (madeCells (Value.int .u8 0).cells (512 * 1)).toList → W.heap[w.heap.size]? = some (.cells (bs (List.replicate 512 (0 : UInt8))).toArray 5 (0, 0)) := by
    intro W ho
    have := row_of_own (n := 512) ho rfl
    rw [made_bytes] at this
    simpa [bs] using this
  by_cases h0 : L.length = 0
  · obtain rfl : L = [] := List.eq_nil_of_length_eq_zero h0
    have hgo : (([] : List (List UInt8)).getLast?).getD l0 = l0 := rfl
    rw [hgo]
    obtain ⟨A3, c3, rfl, hc3, hc4⟩ := hdu.row.form
    have hr3 := rcell_any hdu.row.row
    have hfew := hdu.few
    have hcells : ∀ W, Below w.heap.size w W → 0 < (bs l0).length → ∃ ad, A3 = some ad ∧ ∀ j v, (bs l0)[j]? = some v → W.cell? (ad.add j) = some v := by
      intro W hW hp
      cases A3 with
      | none => have := hr3.2 rfl; simp [bs] at hp; omega
      | some ad => exact ⟨ad, rfl, fun j v hj => by
          have hd2 := hdu.effO (Eff.of (S := fun _ => False) hW) fun _ _ _ hf => hf
          exact (rcell_any hd2.row.row).1 ad rfl j v hj⟩
    clear hr3
    go_enter Try.func50, Try.ntmps50
    go_wp2_with (first
      | (go_at_call 43; (with_reducible refine hab.mono ?_); rintro e w1 ⟨rfl, rfl⟩)
      | (go_at_call 44; (with_reducible refine hhs.mono ?_); rintro e w1 ⟨rfl, rfl⟩)
      | (at_make; go_loud (refine wpList_make_full _ rfl (.const (.int .i64 512)) (.const (.int .i64 512)) 34 rfl w.heap.size 5 i0 _ 1 Try.underlying34 hi hz0 hz1 .i64 .i64 _ _ 512 rfl rfl rfl rfl (by rw [hz2]; omega) (by unfold maxLen; omega) (Nat.le_refl _) ?_; intro w2 hown2 hg2; have hb2 : Below w.heap.size w w2 := (Below.refl _ w).grown hg2 (Nat.le_refl _) (fun k hk => by cases hk); have hm2 := hz w2 hown2; have hcl2 := hcells w2 hb2))
      | (refine wpList_copy_keep rfl (.tmp 43) (.tmp 44) 34 34 rfl 5 Try.underlying34 hsl8 (some ⟨w.heap.size, 0, none⟩) A3 512 512 l0.length c3 rfl rfl w.heap.size 0 (bs (List.replicate 512 (0 : UInt8))) 5 hm2 (bs l0) (by rw [bs_len]; exact (Nat.min_eq_left hfew).symm) (fun h0 => ⟨rfl, hcl2 h0⟩) (by rw [bs_len, bs_len, List.length_replicate]; omega) bs_one ?_; intro w3 hm3 hk3))
    go_ret2
    rw [splice_full hfew] at hm3
    exact ⟨_, rfl, Nat.le_refl _, hm3, hb2.trans (hk3.below (Nat.le_refl _) hb2.size)⟩
  · obtain ⟨gv, cv, hgv, hv1, hv2, hOv, hltv, hvc, hvf⟩ := hbv.row.at_ (by omega)
    simp only [Value.slice.injEq] at hgv
    obtain ⟨rfl, _, rfl⟩ := hgv
    obtain ⟨ux, hux, hdx⟩ := hbv.get (j := L.length - 1) (by omega)
    have y2 := hvc _ _ hux
    have hgo : (L.getLast?).getD l0 = L[L.length - 1]'(by omega) := by rw [List.getLast?_eq_getElem?, List.getElem?_eq_getElem (by omega)]; rfl
    rw [hgo]
    have h0x : 0 < (L.length : Int) := by omega
    have e1 : (L.length : Int) - 1 = ((L.length - 1 : Nat) : Int) := by omega
    clear hgo hvc hvf hux
    generalize (L[L.length - 1]'(by omega)) = lx at *
    have hlm : ((L.length - 1 : Nat) : Int) < (L.length : Int) := by omega
    generalize L.length - 1 = k at *
    obtain ⟨A3, c3, rfl, hc3, hc4⟩ := hdx.row.form
    have hr3 := rcell_any hdx.row.row
    have hfew := hdx.few
    have hcells : ∀ W, Below w.heap.size w W → 0 < (bs lx).length → ∃ ad, A3 = some ad ∧ ∀ j v, (bs lx)[j]? = some v → W.cell? (ad.add j) = some v := by
      intro W hW hp
      cases A3 with
      | none => have := hr3.2 rfl; simp [bs] at hp; omega
      | some ad => exact ⟨ad, rfl, fun j v hj => by
          have hd2 := hdx.effO (Eff.of (S := fun _ => False) hW) fun _ _ _ hf => hf
          exact (rcell_any hd2.row.row).1 ad rfl j v hj⟩
    clear hr3
    go_enter Try.func50, Try.ntmps50
    go_wp2_with (first
      | (go_at_call 43; (with_reducible refine hab.mono ?_); rintro e w1 ⟨rfl, rfl⟩)
      | (go_at_call 44; (with_reducible refine hhs.mono ?_); rintro e w1 ⟨rfl, rfl⟩)
      | (at_make; go_loud (refine wpList_make_full _ rfl (.const (.int .i64 512)) (.const (.int .i64 512)) 34 rfl w.heap.size 5 i0 _ 1 Try.underlying34 hi hz0 hz1 .i64 .i64 _ _ 512 rfl rfl rfl rfl (by rw [hz2]; omega) (by unfold maxLen; omega) (Nat.le_refl _) ?_; intro w2 hown2 hg2; have hb2 : Below w.heap.size w w2 := (Below.refl _ w).grown hg2 (Nat.le_refl _) (fun k hk => by cases hk); have hm2 := hz w2 hown2; have hcl2 := hcells w2 hb2))
      | (refine wpList_copy_keep rfl (.tmp 43) (.tmp 44) 34 34 rfl 5 Try.underlying34 hsl8 (some ⟨w.heap.size, 0, none⟩) A3 512 512 lx.length c3 rfl rfl w.heap.size 0 (bs (List.replicate 512 (0 : UInt8))) 5 hm2 (bs lx) (by rw [bs_len]; exact (Nat.min_eq_left hfew).symm) (fun h0 => ⟨rfl, hcl2 h0⟩) (by rw [bs_len, bs_len, List.length_replicate]; omega) bs_one ?_; intro w3 hm3 hk3))
    go_ret2
    rw [splice_full hfew] at hm3
    exact ⟨_, rfl, Nat.le_refl _, hm3, hb2.trans (hk3.below (Nat.le_refl _) hb2.size)⟩
end
end Dk
end Go.Proofs.Ytpfackjnnkjjdaa
