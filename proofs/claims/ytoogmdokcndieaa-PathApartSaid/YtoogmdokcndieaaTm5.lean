/- Package timer: remove: contract. -/
import Derived.Test.YtoogmdokcndieaaTm4
namespace Go.Proofs.Ytoogmdokcndieaa
open Go.ChangeShapes Go.WideShapes Go.ChangeAt Go.RowKit Go.Lib
set_option linter.unusedVariables false
theorem own_take {w : World} {base e sz n m c g : Nat} {xs : List Value} (h : w.ownsRow base e sz (.slice (some ⟨g, 0, none⟩) n c) n xs) (hm : m ≤ n) : w.ownsRow base e sz (.slice (some ⟨g, 0, none⟩) m c) m (xs.take (m * sz)) := by
  have hmul : m * sz ≤ n * sz := Nat.mul_le_mul_right sz hm
  refine ⟨by rw [List.length_take, h.1]; omega, ?_⟩
  rcases h.2 with ⟨hv, _⟩ | ⟨g', cap, cur, hv, hB, hg, hnc, hcm, hcs, htk⟩
  · cases hv
  · simp only [Value.slice.injEq, Option.some.injEq, Addr.mk.injEq, and_true, true_and] at hv
    obtain ⟨rfl, rfl⟩ := hv
    refine .inr ⟨g, c, cur, rfl, hB, hg, by omega, hcm, hcs, ?_⟩
    rw [← htk, List.take_take]
    congr 1
    omega
theorem TmInv.short {w : World} {B X g c l : Nat} {H : List One} {now : Int} (hn : TmInv w B X (.slice (some ⟨g, 0, none⟩) (l + 1) c) H now) (hlen : H.length = l + 1) :
    TmInv (w.setCell ⟨X, 0, none⟩ (.slice (some ⟨g, 0, none⟩) l c)) B X (.slice (some ⟨g, 0, none⟩) l c) (H.take l) now ∧ Eff (fun k => k = X) w (w.setCell ⟨X, 0, none⟩ (.slice (some ⟨g, 0, none⟩) l c)) := by
  have he : Eff (fun k => k = X) w (w.setCell ⟨X, 0, none⟩ (.slice (some ⟨g, 0, none⟩) l c)) := (Eff.refl (fun k => k = X) w).setCell (p := ⟨X, 0, none⟩) rfl _
  refine ⟨⟨hn.base, hn.mem.put 0 _, ?_⟩, he⟩
  have hl : (H.take l).length = l := by rw [List.length_take]; omega
  rw [hl, ← tflat_take]
  have ho := own_take (hn.rowN hlen) (Nat.le_succ l)
  refine owns_eff ho he fun k hk e => ?_
  obtain rfl : g = k := Option.some.inj hk
  exact hn.apart (by rw [← e]; rfl)
set_option maxRecDepth 100000 in
set_option maxHeartbeats 1000000 in
theorem remove_any (B X : Nat) (v : Value) (H : List One) (now : Int) (i : Nat) (w : World) (hl : H.length ≤ 1000) (hBw : B ≤ w.heap.size) (hn : TmInv w B X v H now) (hi : i < H.length) (hh : Heap H) :
    Calls Try.prog 21 #[.pointer (some ⟨X, 0, none⟩), .int .i64 (i : Nat)] w fun e w' => e = .returned (.tuple #[]) ∧ ∃ v' H', H'.Perm (H.eraseIdx i) ∧ Heap H' ∧ TmInv w' B X v' H' now ∧ Eff (TS X v) w w' ∧ v'.ownBlock = v.ownBlock := by
  obtain ⟨A, c, rfl, hc1, hc2⟩ := hn.parts
  obtain ⟨g, rfl, hBg, hgX⟩ := hn.at_ hi
  have hHx : (H.length : Int) ≤ 1000 := by omega
  have hix : (i : Int) < (H.length : Int) := by omega
  obtain ⟨l, hll⟩ : ∃ l, H.length = l + 1 := ⟨H.length - 1, by omega⟩
  have hcx : (l : Int) + 1 ≤ (c : Int) := by omega
  have hcm : (c : Int) ≤ 9223372036854775807 := by unfold maxLen at hc2; omega
  have hF : ∀ W, Below w.heap.size w W → W.cell? ⟨X, 0, none⟩ = some (.slice (some ⟨g, 0, none⟩) (l + 1) c) ∧ W.cell? ⟨g, l * 2, none⟩ = some (.int .i64 (pl H l).1) ∧ W.cell? ⟨g, l * 2 + 1, none⟩ = some (.int .i64 (pl H l).2) := by
    intro W hW
    have hW' := hn.below hW
    rw [← hll]
    exact ⟨hW'.mem.cell 0, hW'.cells (by omega)⟩
  have hcut : Hid (∀ x, x = pl H l → (H.set i x).take l = cut H i) := Lib.hid fun x h => by subst h; unfold cut; rw [show H.length - 1 = l by omega]
  have HP := Lib.hid (cut_perm hi)
  have HC := Lib.hid (cut_len (H := H) i)
  have hcutl := fun h => hh.cut_last (i := i) h (by omega)
  have hcutb := fun h => hh.cut (i := i) h
  have HCL := Lib.hid hcutl
  have HCB := Lib.hid hcutb
  clear hcutl hcutb
  have hi2 : (Try.prog.info? 72).map (·.size) = some 2 := by kernel_rfl
  rw [hll] at hn
  have HLL := Lib.hid hll
  have hHx2 : (l : Int) ≤ 999 := by omega
  have hix2 : (i : Int) < (l : Int) + 1 := by omega
  clear hHx hix hh
  have hil : i < l + 1 := by omega
  clear hi hc1
  generalize pl H l = pb at *
  obtain ⟨b1, b2⟩ := pb
  simp only at hF
  have x0 := (hF w (Below.refl _ _)).1
  clear hll
  go_enter Try.func21, Try.ntmps21
  go_wp2
  apply calm_tail 12 [.is _, .is _, .is _, .is _, .is _, .is _, .is _, .is _, .is _, .is _, .is _, .is _] [[], [0], [1], [2], [], [], [5], [6], [7], [], [8, 9], [10]] (by kernel_rfl) (by kernel_rfl) (by kernel_rfl) rfl
  intro f a1 ha1
  simp only [List.take_succ_cons, List.take_zero, putL, Act.put, List.setIfInBounds_toArray, List.set_cons_succ, List.set_cons_zero] at ha1
  subst ha1
  refine ⟨?_, ?_⟩
  · refine AllCalm.cons (fun W hB hd => ?_) ?_
    · go_wp2_with (fail)
      exact CalmQ.mk rfl _ rfl (Below.refl _ _) rfl
    refine AllCalm.cons (fun W hB hd => ?_) ?_
    · obtain ⟨h0, -⟩ := hd
      have h0 : f 0 = _ := h0
      rw [h0]
      go_wp2_with (fail)
      exact CalmQ.mk rfl _ rfl (Below.refl _ _) rfl
    refine AllCalm.cons (fun W hB hd => ?_) ?_
    · obtain ⟨h1, -⟩ := hd
      have h1 : f 1 = _ := h1
      rw [h1]
      go_wp2_with (fail)
      exact CalmQ.mk rfl _ rfl (Below.refl _ _) rfl
    refine AllCalm.cons (fun W hB hd => ?_) ?_
    · obtain ⟨h2, -⟩ := hd
      have h2 : f 2 = _ := h2
      rw [h2]
      have kx := (hF W hB).1
      go_wp2_with (fail)
      exact CalmQ.mk rfl _ rfl (Below.refl _ _) rfl
    refine AllCalm.cons (fun W hB hd => ?_) ?_
    · go_wp2_with (fail)
      exact CalmQ.mk rfl _ rfl (Below.refl _ _) rfl
    refine AllCalm.cons (fun W hB hd => ?_) ?_
    · go_wp2_with (fail)
      exact CalmQ.mk rfl _ rfl (Below.refl _ _) rfl
    refine AllCalm.cons (fun W hB hd => ?_) ?_
    · obtain ⟨h5, -⟩ := hd
      have h5 : f 5 = _ := h5
      rw [h5]
      go_wp2_with (fail)
      exact CalmQ.mk rfl _ rfl (Below.refl _ _) rfl
    refine AllCalm.cons (fun W hB hd => ?_) ?_
    · obtain ⟨h6, -⟩ := hd
      have h6 : f 6 = _ := h6
      rw [h6]
      go_wp2_with (fail)
      exact CalmQ.mk rfl _ rfl (Below.refl _ _) rfl
    refine AllCalm.cons (fun W hB hd => ?_) ?_
    · obtain ⟨h7, -⟩ := hd
      have h7 : f 7 = _ := h7
      rw [h7]
      have kx := (hF W hB).1
      go_wp2_with (fail)
      exact CalmQ.mk rfl _ rfl (Below.refl _ _) rfl
    refine AllCalm.cons (fun W hB hd => ?_) ?_
    · go_wp2_with (fail)
      exact CalmQ.mk rfl _ rfl (Below.refl _ _) rfl
    refine AllCalm.cons (fun W hB hd => ?_) ?_
    · obtain ⟨h8, h9, -⟩ := hd
      have h8 : f 8 = _ := h8
      have h9 : f 9 = _ := h9
      rw [h8, h9]
      go_wp2_with (fail)
      exact CalmQ.mk rfl _ rfl (Below.refl _ _) rfl
    refine AllCalm.cons (fun W hB hd => ?_) ?_
    · obtain ⟨h10, -⟩ := hd
      have h10 : f 10 = _ := h10
      rw [h10]
      have kx := (hF W hB).2
      go_wp2_with (fail)
      exact CalmQ.mk rfl _ rfl (Below.refl _ _) rfl
    exact AllCalm.nil
  · intro W hB hT
    obtain ⟨h0, h1, h2, h3, h4, h5, h6, h7, h8, h9, h10, h11, -⟩ := hT
    have h0 : f 0 = _ := h0
    have h1 : f 1 = _ := h1
    have h2 : f 2 = _ := h2
    have h3 : f 3 = _ := h3
    have h4 : f 4 = _ := h4
    have h5 : f 5 = _ := h5
    have h6 : f 6 = _ := h6
    have h7 : f 7 = _ := h7
    have h8 : f 8 = _ := h8
    have h9 : f 9 = _ := h9
    have h10 : f 10 = _ := h10
    have h11 : f 11 = _ := h11
    rw [h0, h1, h2, h3, h4, h5, h6, h7, h8, h9, h10, h11]
    clear h0 h1 h2 h3 h4 h5 h6 h7 h8 h9 h10 h11
    simp only [List.drop_succ_cons, List.drop_zero]
    skip
    have hn3 := hn.below hB
    have he3 := Eff.of (S := TS X (.slice (some ⟨g, 0, none⟩) (l + 1) c)) hB
    clear hF hn
    have hcutx := hcut.out (b1, b2) rfl
    have HCX := Lib.hid hcutx
    clear hcutx
    have hBW : B ≤ W.heap.size := Nat.le_trans hBw hB.size
    by_cases hil2 : i < l
    · have hilx : (i : Int) < (l : Int) := by omega
      go_wp2_with (first
        | (refine wpList_store_pair rfl 72 (.tmp 23) (.tmp 22) rfl B 72 (l + 1) c g (tflat H) (hn3.rowN HLL.out) i hil (.int .i64 b1) (.int .i64 b2) rfl rfl hi2 rfl rfl ?_; intro w6 ho6 he6; have hn6 := hn3.set (x := (b1, b2)) HLL.out hil ho6 he6; have x6 := hn6.mem.cell 0; have z6 := hn6.mem.free 0; obtain ⟨hn7, he7⟩ := hn6.short (by rw [List.length_set]; exact HLL.out); rw [HCX.out] at hn7; have hB7 : B ≤ (w6.setCell ⟨X, 0, none⟩ (.slice (some ⟨g, 0, none⟩) l c)).heap.size := Nat.le_trans hBW (Nat.le_trans he6.size he7.size))
        | (go_at_call 22; (with_reducible refine (rise_any B X _ (cut H i) now i _ (by rw [HC.out, HLL.out]; omega) hB7 hn7 (by rw [HC.out, HLL.out]; omega) (HCB.out (by rw [HLL.out]; omega))).mono ?_); rintro e w8 ⟨rfl, H8, hp8, hs8, hn8, he8⟩)
        | (go_at_call 34; (with_reducible refine (sink_any B X _ H8 now i _ (by rw [hp8.length_eq, HC.out, HLL.out]; omega) (Nat.le_trans hB7 he8.size) hn8 (by rw [hp8.length_eq, HC.out, HLL.out]; omega) hs8).mono ?_); rintro e w9 ⟨rfl, H9, hp9, hh9, hn9, he9⟩))
      refine bodyPost_end (v := .tuple #[]) (by simp [results, Try.results21, go_sem]) rfl ?_
      refine ⟨rfl, _, H9, (hp9.trans hp8).trans HP.out, hh9, hn9, ?_, rfl⟩
      have e6 : Eff (TS X (.slice (some ⟨g, 0, none⟩) (l + 1) c)) W w6 := he6.mono fun k _ h => ts_row k h
      have e7 : Eff (TS X (.slice (some ⟨g, 0, none⟩) (l + 1) c)) w6 (w6.setCell ⟨X, 0, none⟩ (.slice (some ⟨g, 0, none⟩) l c)) := he7.mono fun k _ h => .inl h
      exact ((((he3.trans e6 fun _ _ h => h).trans e7 fun _ _ h => h).trans he8 fun _ _ h => h).trans he9 fun _ _ h => h)
    · have hilx : ¬ (i : Int) < (l : Int) := by omega
      go_wp2_with (first
        | (refine wpList_store_pair rfl 72 (.tmp 23) (.tmp 22) rfl B 72 (l + 1) c g (tflat H) (hn3.rowN HLL.out) i hil (.int .i64 b1) (.int .i64 b2) rfl rfl hi2 rfl rfl ?_; intro w6 ho6 he6; have hn6 := hn3.set (x := (b1, b2)) HLL.out hil ho6 he6; have x6 := hn6.mem.cell 0; have z6 := hn6.mem.free 0; obtain ⟨hn7, he7⟩ := hn6.short (by rw [List.length_set]; exact HLL.out); rw [HCX.out] at hn7))
      refine bodyPost_end (v := .tuple #[]) (by simp [results, Try.results21, go_sem]) rfl ?_
      refine ⟨rfl, _, cut H i, HP.out, HCL.out (by rw [HLL.out]; omega), hn7, ?_, rfl⟩
      have e6 : Eff (TS X (.slice (some ⟨g, 0, none⟩) (l + 1) c)) W w6 := he6.mono fun k _ h => ts_row k h
      have e7 : Eff (TS X (.slice (some ⟨g, 0, none⟩) (l + 1) c)) w6 (w6.setCell ⟨X, 0, none⟩ (.slice (some ⟨g, 0, none⟩) l c)) := he7.mono fun k _ h => .inl h
      exact (he3.trans e6 fun _ _ h => h).trans e7 fun _ _ h => h
end Go.Proofs.Ytoogmdokcndieaa
