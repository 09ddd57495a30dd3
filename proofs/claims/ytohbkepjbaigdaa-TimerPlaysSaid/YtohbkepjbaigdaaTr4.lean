/- The document's timers: Tick: contract. -/
import Derived.Test.YtohbkepjbaigdaaTr3
namespace Go.Proofs.Ytohbkepjbaigdaa
open Go.ChangeShapes Go.WideShapes Go.ChangeAt Go.RowKit Go.Lib
set_option linter.unusedVariables false
set_option linter.unusedSimpArgs false
/-- What goes off at the next tick; what is left behind it. -/
def offs (L : List One) : List Int := (L.filter fun x => decide (x.2 = 1)).map (·.1)
def rest (L : List One) : List One := (L.filter fun x => decide (x.2 ≠ 1)).map fun x => (x.1, x.2 - 1)
theorem offs_yes {L : List One} {k : Nat} (h : k < L.length) (h1 : (pl L k).2 = 1) : offs (L.take (k + 1)) = offs (L.take k) ++ [(pl L k).1] ∧ rest (L.take (k + 1)) = rest (L.take k) := by
  rw [pl_in h] at h1 ⊢
  rw [List.take_add_one, List.getElem?_eq_getElem h]
  generalize L.take k = T
  generalize L[k] = x at *
  simp [offs, rest, List.filter_append, List.filter_cons, h1]
theorem offs_no {L : List One} {k : Nat} (h : k < L.length) (h1 : (pl L k).2 ≠ 1) : offs (L.take (k + 1)) = offs (L.take k) ∧ rest (L.take (k + 1)) = rest (L.take k) ++ [((pl L k).1, (pl L k).2 - 1)] := by
  rw [pl_in h] at h1 ⊢
  rw [List.take_add_one, List.getElem?_eq_getElem h]
  generalize L.take k = T
  generalize L[k] = x at *
  simp [offs, rest, List.filter_append, List.filter_cons, h1]
theorem offs_le (L : List One) : (offs L).length ≤ L.length := by
  unfold offs
  rw [List.length_map]
  exact List.length_filter_le _ _
theorem rest_le (L : List One) : (rest L).length ≤ L.length := by
  unfold rest
  rw [List.length_map]
  exact List.length_filter_le _ _
set_option maxRecDepth 100000 in
set_option maxHeartbeats 1000000 in
theorem rtick_any (B R : Nat) (u : Value) (L : List One) (now : Int) (w : World) (hl : L.length ≤ 256) (hBw : B ≤ w.heap.size) (hn : RInv w B R u L now) (hn1 : 0 ≤ now) (hn2 : now ≤ 1099511627776) (hdue : ∀ x ∈ L, 1 ≤ x.2 ∧ x.2 ≤ 1073741824) :
    Calls Try.prog 16 #[.pointer (some ⟨R, 0, none⟩)] w fun e w' => ∃ A c, e = .returned (.slice A (offs L).length c) ∧ w'.ownsRow w.heap.size 3 1 (.slice A (offs L).length c) (offs L).length (ints (offs L)) ∧ RStep w w' B R u (rest L) (now + 1) := by
  obtain ⟨i0, hi0, hz0, hz1, hz2⟩ := info_parts int_info
  obtain ⟨j0, hj0, hy0, hy1, hy2⟩ := info_parts tmr_info
  have x1 := hn.mem.cell 1
  have z1 := hn.mem.free 1
  have hS : Eff (TS R u) w (w.setCell ⟨R, 1, none⟩ (.int .i64 (now + 1))) := (Eff.refl (TS R u) w).setCell (p := ⟨R, 1, none⟩) (.inl rfl) _
  have hSX : Eff (fun k => k = R) w (w.setCell ⟨R, 1, none⟩ (.int .i64 (now + 1))) := (Eff.refl (fun k => k = R) w).setCell (p := ⟨R, 1, none⟩) rfl _
  have hm1 : RInv (w.setCell ⟨R, 1, none⟩ (.int .i64 (now + 1))) B R u L (now + 1) := ⟨hn.base, hn.mem.put 1 _, owns_eff hn.row hSX fun k hk e => hn.apart (e ▸ hk)⟩
  have hsz : (w.setCell ⟨R, 1, none⟩ (.int .i64 (now + 1))).heap.size = w.heap.size := by simp
  go_enter Try.func16, Try.ntmps16
  go_wp2
  generalize w.setCell ⟨R, 1, none⟩ (.int .i64 (now + 1)) = w1 at *
  obtain ⟨A, c, rfl, hc1, hc2⟩ := hn.parts
  have hlx : (L.length : Int) ≤ 256 := by omega
  go_loopw [3, 4, 5] (fun o l i wr => ∃ (k : Nat) (A3 : Option Addr) (c3 : Nat) (A4 : Option Addr) (c4 : Nat), k ≤ L.length ∧ i = .int .i64 k ∧ o = .slice A3 (offs (L.take k)).length c3 ∧ l = .slice A4 (rest (L.take k)).length c4 ∧ wr.ownsRow w1.heap.size 3 1 (.slice A3 (offs (L.take k)).length c3) (offs (L.take k)).length (ints (offs (L.take k))) ∧ wr.ownsRow w1.heap.size 56 2 (.slice A4 (rest (L.take k)).length c4) (rest (L.take k)).length (tflat (rest (L.take k))) ∧ Below w1.heap.size w1 wr) (fun _ _ i _ => L.length - (intOf i).toNat)
  case atStart => exact ⟨0, none, 0, none, 0, by omega, rfl, rfl, rfl, World.ownsRow_nil _ _ _ _, World.ownsRow_nil _ _ _ _, Below.refl _ _⟩
  case round =>
    clear hn hSX x1 z1
    obtain ⟨k, A3, c3, A4, c4, hk, rfl, rfl, rfl, ho3, ho4, hb⟩ := hrel
    have hx0 := (hm1.below hb).mem.cell 0
    by_cases hkl : k < L.length
    · have hkx : (k : Int) < (L.length : Int) := by omega
      obtain ⟨g, rfl, hBg, hgX⟩ := hm1.at_ hkl
      have hq := (hm1.below hb).cells hkl
      have hq1 := hq.1
      have hq2 := hq.2
      have hd := hdue (pl L k) (by rw [pl_in hkl]; exact List.getElem_mem hkl)
      have hol := offs_le (L.take k)
      have hrl := rest_le (L.take k)
      have hlt : (L.take k).length = k := by rw [List.length_take]; omega
      have hW : ∀ o o2, Below wr.heap.size wr ((wr.alloc o).alloc o2) := fun o o2 => ((Below.refl wr.heap.size wr).alloc (Nat.le_refl _) o).alloc (by simp) o2
      have hM : ∀ o cs t, ((wr.alloc o).alloc (.cells cs t)).heap[wr.heap.size + 1]? = some (.cells cs t (0, 0)) := fun o cs t => heap_alloc2_new wr o _
      have hx0A := fun W (hW : Below wr.heap.size wr W) => ((hm1.below hb).below hW).mem.cell 0
      by_cases h1 : (pl L k).2 = 1
      · have hs := offs_yes hkl h1
        have HS := Lib.hid hs
        have hA : ∀ W, Below wr.heap.size wr W → W.ownsRow w1.heap.size 3 1 (.slice A3 (offs (L.take k)).length c3) (offs (L.take k)).length (ints (offs (L.take k))) ∧ W.ownsRow w1.heap.size 56 2 (.slice A4 (rest (L.take k)).length c4) (rest (L.take k)).length (tflat (rest (L.take k))) ∧ w1.heap.size ≤ W.heap.size := fun W hW => ⟨owns_below ho3 hW, owns_below ho4 hW, Nat.le_trans hb.size hW.size⟩
        rw [h1] at hq2
        clear hs hq hd
        generalize (pl L k).1 = id at *
        generalize offs (L.take k) = I at *
        generalize rest (L.take k) = K at *
        have b3 : I.length + 1 ≤ maxLen := by unfold maxLen; omega
        have b4 : (I.length + 1) * 8 ≤ 140737488355328 := by omega
        have F6 : ∀ W w6, Below wr.heap.size wr W → W.grownBy w6 (Value.slice A3 I.length c3).ownBlock → w6.ownsRow w1.heap.size 56 2 (.slice A4 K.length c4) K.length (tflat K) ∧ Below w1.heap.size w1 w6 := fun W w6 hW hg => by
          obtain ⟨q1, q2, q3⟩ := hA W hW
          exact ⟨owns_eff q2 (eff_grown hg) fun k hk h => (own_tag q2 k hk).2.2.ne (own_tag q1 k h).2.2 (by decide) rfl, (hb.trans (hW.mono hb.size)).grown hg q3 (fun j hj => (q1.lt j hj).1)⟩
        go_wp2_with (first
          | (at_builtin; (refine wpList_append_at _ rfl (.tmp 37) (.tmp 40) _ rfl w1.heap.size 3 i0 _ 1 8 Try.underlying37 hi0 hz0 hz1 hz2 rfl (by decide) (.slice A3 I.length c3) I.length (ints I) rfl (hA _ (hW _ _)).1 ⟨wr.heap.size + 1, 0, none⟩ 1 1 [.int .i64 id] rfl rfl (cells_new1 _ _ _ _ _ (hM _ _ _)) (by intro u hu; simp at hu; subst hu; rfl) b3 b4 (hA _ (hW _ _)).2.2 ?_); intro v6 w6 ho6 hg6 hat6; obtain ⟨hk6, hb6⟩ := F6 _ _ (hW _ _) hg6; obtain ⟨A6, c6, rfl, _, _⟩ := own_form ho6))
        have e1 : (offs (L.take (k + 1))).length = I.length + 1 := by rw [HS.out.1]; simp
        have e2 : ints (offs (L.take (k + 1))) = ints I ++ [.int .i64 id] := by rw [HS.out.1]; simp [ints]
        exact ⟨⟨k + 1, A6, c6, A4, c4, by omega, by simp, by rw [e1], by rw [HS.out.2], by rw [e1, e2]; exact ho6, by rw [HS.out.2]; exact hk6, hb6⟩, by simp [intOf]; omega⟩
      · have hs := offs_no hkl h1
        have HS := Lib.hid hs
        have hA : ∀ W, Below wr.heap.size wr W → W.ownsRow w1.heap.size 3 1 (.slice A3 (offs (L.take k)).length c3) (offs (L.take k)).length (ints (offs (L.take k))) ∧ W.ownsRow w1.heap.size 56 2 (.slice A4 (rest (L.take k)).length c4) (rest (L.take k)).length (tflat (rest (L.take k))) ∧ w1.heap.size ≤ W.heap.size := fun W hW => ⟨owns_below ho3 hW, owns_below ho4 hW, Nat.le_trans hb.size hW.size⟩
        clear hs hq
        generalize (pl L k).1 = id at *
        generalize (pl L k).2 = d at *
        obtain ⟨hd1, hd2⟩ := hd
        have hdne : ¬ d - 1 = 0 := by omega
        have hdb : (d - 1 == 0) = false := by simpa using hdne
        generalize offs (L.take k) = I at *
        generalize rest (L.take k) = K at *
        have b3 : K.length + 1 ≤ maxLen := by unfold maxLen; omega
        have b4 : (K.length + 1) * 16 ≤ 140737488355328 := by omega
        have F6 : ∀ W w6, Below wr.heap.size wr W → W.grownBy w6 (Value.slice A4 K.length c4).ownBlock → w6.ownsRow w1.heap.size 3 1 (.slice A3 I.length c3) I.length (ints I) ∧ Below w1.heap.size w1 w6 := fun W w6 hW hg => by
          obtain ⟨q1, q2, q3⟩ := hA W hW
          exact ⟨owns_eff q1 (eff_grown hg) fun k hk h => (own_tag q1 k hk).2.2.ne (own_tag q2 k h).2.2 (by decide) rfl, (hb.trans (hW.mono hb.size)).grown hg q3 (fun j hj => (q2.lt j hj).1)⟩
        go_wp2_with (first
          | (at_builtin; (refine wpList_append_at _ rfl (.tmp 42) (.tmp 44) _ rfl w1.heap.size 56 j0 _ 2 16 Try.underlying27 hj0 hy0 hy1 hy2 rfl (by decide) (.slice A4 K.length c4) K.length (tflat K) rfl (hA _ (hW _ _)).2.1 ⟨wr.heap.size + 1, 0, none⟩ 1 1 [.int .i64 id, .int .i64 (d - 1)] rfl rfl (cells_new2 _ _ _ _ _ _ (hM _ _ _)) (by intro u hu; simp at hu; rcases hu with rfl | rfl <;> rfl) b3 b4 (hA _ (hW _ _)).2.2 ?_); intro v6 w6 ho6 hg6 hat6; obtain ⟨hk6, hb6⟩ := F6 _ _ (hW _ _) hg6; obtain ⟨A6, c6, rfl, _, _⟩ := own_form ho6))
        have e1 : (rest (L.take (k + 1))).length = K.length + 1 := by rw [HS.out.2]; simp
        have e2 : tflat (rest (L.take (k + 1))) = tflat K ++ [.int .i64 id, .int .i64 (d - 1)] := by rw [HS.out.2, tflat_snoc]
        exact ⟨⟨k + 1, A3, c3, A6, c6, by omega, by simp, by rw [HS.out.1], by rw [e1], by rw [HS.out.1]; exact hk6, by rw [e1, e2]; exact ho6, hb6⟩, by simp [intOf]; omega⟩
    · obtain rfl : k = L.length := by omega
      rw [List.take_length] at *
      have hm2 := hm1.below hb
      have kx := hm2.mem.cell 0
      have kz := hm2.mem.free 0
      go_wp2
      go_ret
      have hfin := r_put hm1 (by omega) hb ho4
      obtain ⟨u', q1, q2, q3⟩ := hfin
      have hSr : Eff (fun k => k = R) wr (wr.setCell ⟨R, 0, none⟩ (.slice A4 (rest L).length c4)) := (Eff.refl (fun k => k = R) wr).setCell (p := ⟨R, 0, none⟩) rfl _
      refine ⟨A3, c3, rfl, ?_, u', q1, hS.trans q2 fun _ _ h => h, fun k hk => ?_⟩
      · rw [← hsz]
        refine owns_eff ho3 hSr fun k hk e => ?_
        have h5 := (ho3.lt k hk).1
        have h6 := hm1.mem.lt
        omega
      · rcases q3 k hk with h | h
        · exact .inl h
        · exact .inr (by omega)
end Go.Proofs.Ytohbkepjbaigdaa
