/- Package timer: Tick: contract. -/
import Derived.Test.YtohbkepjbaigdaaTm7
namespace Go.Proofs.Ytohbkepjbaigdaa
open Go.ChangeShapes Go.WideShapes Go.ChangeAt Go.RowKit Go.Lib
set_option linter.unusedVariables false
def lenV : Value → Nat | .slice _ n _ => n | _ => 0
def ints (I : List Int) : List Value := I.map (Value.int .i64)
/-- What Tick has taken so far. -/
structure Took (H : List One) (now : Int) (I : List Int) (K : List One) : Prop where
  perm : (I.map (fun i => (i, now)) ++ K).Perm H
  heap : Heap K
  sorted : I.Pairwise (· ≤ ·)
  least : ∀ a ∈ I, ∀ x ∈ K, x.2 = now → a ≤ x.1
theorem Took.nil {H : List One} {now : Int} (h : Heap H) : Took H now [] H := ⟨.refl _, h, .nil, by simp⟩
theorem Took.step {H K K' : List One} {now : Int} {I : List Int} (h : Took H now I K) (h0 : 0 < K.length) (hd : (pl K 0).2 = now) (hmin : ∀ x ∈ K, now ≤ x.2) (hp : K'.Perm (K.eraseIdx 0)) (hh : Heap K') : Took H now (I ++ [(pl K 0).1]) K' := by
  obtain ⟨x, R, rfl⟩ : ∃ x R, K = x :: R := by
    cases K with
    | nil => simp at h0
    | cons x R => exact ⟨x, R, rfl⟩
  have e0 : pl (x :: R) 0 = x := rfl
  rw [e0] at hd ⊢
  rw [List.eraseIdx_cons_zero] at hp
  have hm : ∀ y ∈ R, y.2 = now → x.1 ≤ y.1 := by
    intro y hy hyn
    obtain ⟨j, hj, rfl⟩ := List.mem_iff_getElem.1 hy
    have := h.heap.min (j + 1) (by simpa using hj)
    rw [e0, ah_not, pl_in (by simpa using hj)] at this
    simp only [List.getElem_cons_succ] at this
    omega
  refine ⟨?_, hh, ?_, ?_⟩
  · rw [List.map_append, List.append_assoc]
    refine List.Perm.trans (List.Perm.append_left _ ?_) h.perm
    have e1 : [x.1].map (fun i => (i, now)) ++ K' = x :: K' := by
      obtain ⟨a, b⟩ := x
      simp only at hd
      subst hd
      rfl
    rw [e1]
    exact hp.cons _
  · rw [List.pairwise_append]
    refine ⟨h.sorted, List.pairwise_singleton _ _, fun a ha b hb => ?_⟩
    rw [List.mem_singleton] at hb
    subst hb
    exact h.least a ha x (by simp) hd
  · intro a ha y hy hyn
    have hyR : y ∈ R := hp.mem_iff.1 hy
    rw [List.mem_append, List.mem_singleton] at ha
    rcases ha with ha | rfl
    · exact h.least a ha y (by simp [hyR]) hyn
    · exact hm y hyR hyn
theorem int_info : (Try.prog.info? 3).map (fun i => (i.zero, i.size, i.bytes)) = some (some (.int .i64 0), 1, 8) := by kernel_rfl
theorem cells_new1 (w : World) (t : TypeId) (a : Value) (fr : Nat × Nat) (g : Nat) (h : w.heap[g]? = some (.cells #[a] t fr)) : ∀ j u, [a][j]? = some u → w.cell? ((⟨g, 0, none⟩ : Addr).add j) = some u := by
  intro j u hu
  rw [add_plain, Nat.zero_add, cell_of_row _ _ j _ t fr h, ← List.getElem?_toArray] at *
  exact hu
/-- A row of the call's own is none of the timers' blocks. -/
theorem TmInv.row_apart {w : World} {B B2 X n : Nat} {v u : Value} {H : List One} {now : Int} {xs : List Value} (hn : TmInv w B X v H now) (ho : w.ownsRow B2 3 1 u n xs) : ∀ k, u.ownBlock = some k → ¬ TS X v k := by
  intro k hk hs
  have h1 := (own_tag ho k hk).2.2
  rcases (hn.ns k hs).2.2 with h | h
  · exact h1.ne h (by decide) rfl
  · exact h1.ne h (by decide) rfl
set_option maxRecDepth 100000 in
set_option maxHeartbeats 1000000 in
theorem tick_any (B X : Nat) (v : Value) (H : List One) (now : Int) (w : World) (hl : H.length ≤ 900) (hBw : B ≤ w.heap.size) (hn : TmInv w B X v H now) (hh : Heap H) (hn1 : 0 ≤ now) (hn2 : now ≤ 1099511627776) (hdue : ∀ x ∈ H, now < x.2) :
    Calls Try.prog 15 #[.pointer (some ⟨X, 0, none⟩)] w fun e w' => ∃ u I K, e = .returned u ∧ Took H (now + 1) I K ∧ (∀ x ∈ K, now + 1 < x.2) ∧ w'.ownsRow w.heap.size 3 1 u I.length (ints I) ∧ I.length ≤ 900 ∧ TmStep w w' B X v K (now + 1) := by
  obtain ⟨i0, hi0, hz0, hz1, hz2⟩ := info_parts int_info
  have x1 := hn.mem.cell 1
  have z1 := hn.mem.free 1
  have hS : Eff (TS X v) w (w.setCell ⟨X, 1, none⟩ (.int .i64 (now + 1))) := (Eff.refl (TS X v) w).setCell (p := ⟨X, 1, none⟩) (.inl rfl) _
  have hSX : Eff (fun k => k = X) w (w.setCell ⟨X, 1, none⟩ (.int .i64 (now + 1))) := (Eff.refl (fun k => k = X) w).setCell (p := ⟨X, 1, none⟩) rfl _
  have hm1 : TmInv (w.setCell ⟨X, 1, none⟩ (.int .i64 (now + 1))) B X v H (now + 1) := ⟨hn.base, hn.mem.put 1 _, owns_eff hn.row hSX fun k hk e => hn.apart (e ▸ hk)⟩
  have hsz : (w.setCell ⟨X, 1, none⟩ (.int .i64 (now + 1))).heap.size = w.heap.size := by simp
  go_enter Try.func15, Try.ntmps15
  go_wp2
  go_loopw [3] (fun u wr => ∃ (I : List Int) (K : List One) (v' : Value) (A3 : Option Addr) (c3 : Nat), u = .slice A3 I.length c3 ∧ Hid (Took H (now + 1) I K) ∧ I.length + K.length = H.length ∧ wr.ownsRow w.heap.size 3 1 (.slice A3 I.length c3) I.length (ints I) ∧ TmInv wr B X v' K (now + 1) ∧ Eff (TS X v) w wr ∧ (∀ k, v'.ownBlock = some k → v.ownBlock = some k ∨ w.heap.size ≤ k)) (fun u _ => H.length - lenV u)
  case atStart => exact ⟨[], H, v, none, 0, rfl, Lib.hid (Took.nil hh), by simp, World.ownsRow_nil _ _ _ _, hm1, hS, fun k h => .inl h⟩
  case round =>
    clear hn hm1 hS hSX hsz x1 z1 hh
    obtain ⟨I, K, v', A3, c3, rfl, HT, hIK, hou, hn, he, hv⟩ := hrel
    obtain ⟨A, c, rfl, hc1, hc2⟩ := hn.parts
    have hIx : (I.length : Int) ≤ 900 := by omega
    by_cases h0 : K.length = 0
    · have hx0 : ∀ W, Below wr.heap.size wr W → W.cell? ⟨X, 0, none⟩ = some (.slice A 0 c) := fun W hW => by have h := (hn.below hW).mem.cell 0; rw [h0] at h; exact h
      have hK := Lib.hid (List.eq_nil_of_length_eq_zero h0)
      clear h0
      go_wp2
      apply calm_region [.is _, .is _, .is _, .is _, .is _, .is _, .is _, .is _, .is _, .is _, .is _, .is _, .is _, .is _, .is _, .is _, .is _, .is _, .is _, .is _] [[], [0], [1], [2], [3], [4], [5], [6], [7, 6], [8, 6], [9, 6], [10, 6], [11, 6], [12, 6], [6], [14, 6], [15, 6], [16, 6], [13, 17, 6], [6, 18]] (by kernel_rfl) (by kernel_rfl) (by kernel_rfl) rfl
      intro f a1 ha1
      simp only [putL, Act.put, List.setIfInBounds_toArray, List.set_cons_succ, List.set_cons_zero] at ha1
      subst ha1
      refine ⟨?_, ?_⟩
      · refine AllCalm.cons (fun W hB hd => ?_) ?_
        · go_wp2_with (fail)
          exact CalmQ.mk rfl _ rfl (Below.refl _ _) rfl
        refine AllCalm.cons (fun W hB hd => ?_) ?_
        · obtain ⟨h0, -⟩ := hd
          have h0 : f 0 = _ := h0
          rw [h0]
          go_wp2_with (fail)
          exact CalmQ.mk rfl _ rfl (Below.refl _ _) rfl
        refine AllCalm.cons (fun W hB hd => ?_) ?_
        · obtain ⟨h1, -⟩ := hd
          have h1 : f 1 = _ := h1
          rw [h1]
          go_wp2_with (fail)
          exact CalmQ.mk rfl _ rfl (Below.refl _ _) rfl
        refine AllCalm.cons (fun W hB hd => ?_) ?_
        · obtain ⟨h2, -⟩ := hd
          have h2 : f 2 = _ := h2
          rw [h2]
          have kx := hx0 W hB
          go_wp2_with (fail)
          exact CalmQ.mk rfl _ rfl (Below.refl _ _) rfl
        refine AllCalm.cons (fun W hB hd => ?_) ?_
        · obtain ⟨h3, -⟩ := hd
          have h3 : f 3 = _ := h3
          rw [h3]
          go_wp2_with (fail)
          exact CalmQ.mk rfl _ rfl (Below.refl _ _) rfl
        refine AllCalm.cons (fun W hB hd => ?_) ?_
        · obtain ⟨h4, -⟩ := hd
          have h4 : f 4 = _ := h4
          rw [h4]
          go_wp2_with (fail)
          exact CalmQ.mk rfl _ rfl (Below.refl _ _) rfl
        refine AllCalm.cons (fun W hB hd => ?_) ?_
        · obtain ⟨h5, -⟩ := hd
          have h5 : f 5 = _ := h5
          rw [h5]
          go_wp2_with (fail)
          exact CalmQ.mk rfl _ rfl (Below.refl _ _) rfl
        refine AllCalm.cons (fun W hB hd => ?_) ?_
        · obtain ⟨h6, -⟩ := hd
          have h6 : f 6 = _ := h6
          rw [h6]
          go_wp2_with (fail)
          exact CalmQ.mk rfl _ rfl (Below.refl _ _) rfl
        refine AllCalm.cons (fun W hB hd => ?_) ?_
        · obtain ⟨h7, h6, -⟩ := hd
          have h7 : f 7 = _ := h7
          have h6 : f 6 = _ := h6
          rw [h7, h6]
          go_wp2_with (fail)
          exact CalmQ.mk rfl _ rfl (Below.refl _ _) rfl
        refine AllCalm.cons (fun W hB hd => ?_) ?_
        · obtain ⟨h8, h6, -⟩ := hd
          have h8 : f 8 = _ := h8
          have h6 : f 6 = _ := h6
          rw [h8, h6]
          go_wp2_with (fail)
          exact CalmQ.mk rfl _ rfl (Below.refl _ _) rfl
        refine AllCalm.cons (fun W hB hd => ?_) ?_
        · obtain ⟨h9, h6, -⟩ := hd
          have h9 : f 9 = _ := h9
          have h6 : f 6 = _ := h6
          rw [h9, h6]
          go_wp2_with (fail)
          exact CalmQ.mk rfl _ rfl (Below.refl _ _) rfl
        refine AllCalm.cons (fun W hB hd => ?_) ?_
        · obtain ⟨h10, h6, -⟩ := hd
          have h10 : f 10 = _ := h10
          have h6 : f 6 = _ := h6
          rw [h10, h6]
          go_wp2_with (fail)
          exact CalmQ.mk rfl _ rfl (Below.refl _ _) rfl
        refine AllCalm.cons (fun W hB hd => ?_) ?_
        · obtain ⟨h11, h6, -⟩ := hd
          have h11 : f 11 = _ := h11
          have h6 : f 6 = _ := h6
          rw [h11, h6]
          go_wp2_with (fail)
          exact CalmQ.mk rfl _ rfl (Below.refl _ _) rfl
        refine AllCalm.cons (fun W hB hd => ?_) ?_
        · obtain ⟨h12, h6, -⟩ := hd
          have h12 : f 12 = _ := h12
          have h6 : f 6 = _ := h6
          rw [h12, h6]
          go_wp2_with (fail)
          exact CalmQ.mk rfl _ rfl (Below.refl _ _) rfl
        refine AllCalm.cons (fun W hB hd => ?_) ?_
        · obtain ⟨h6, -⟩ := hd
          have h6 : f 6 = _ := h6
          rw [h6]
          go_wp2_with (fail)
          exact CalmQ.mk rfl _ rfl (Below.refl _ _) rfl
        refine AllCalm.cons (fun W hB hd => ?_) ?_
        · obtain ⟨h14, h6, -⟩ := hd
          have h14 : f 14 = _ := h14
          have h6 : f 6 = _ := h6
          rw [h14, h6]
          go_wp2_with (fail)
          exact CalmQ.mk rfl _ rfl (Below.refl _ _) rfl
        refine AllCalm.cons (fun W hB hd => ?_) ?_
        · obtain ⟨h15, h6, -⟩ := hd
          have h15 : f 15 = _ := h15
          have h6 : f 6 = _ := h6
          rw [h15, h6]
          go_wp2_with (fail)
          exact CalmQ.mk rfl _ rfl (Below.refl _ _) rfl
        refine AllCalm.cons (fun W hB hd => ?_) ?_
        · obtain ⟨h16, h6, -⟩ := hd
          have h16 : f 16 = _ := h16
          have h6 : f 6 = _ := h6
          rw [h16, h6]
          go_wp2_with (fail)
          exact CalmQ.mk rfl _ rfl (Below.refl _ _) rfl
        refine AllCalm.cons (fun W hB hd => ?_) ?_
        · obtain ⟨h13, h17, h6, -⟩ := hd
          have h13 : f 13 = _ := h13
          have h17 : f 17 = _ := h17
          have h6 : f 6 = _ := h6
          rw [h13, h17, h6]
          go_wp2_with (fail)
          exact CalmQ.mk rfl _ rfl (Below.refl _ _) rfl
        refine AllCalm.cons (fun W hB hd => ?_) ?_
        · obtain ⟨h6, h18, -⟩ := hd
          have h6 : f 6 = _ := h6
          have h18 : f 18 = _ := h18
          rw [h6, h18]
          go_wp2_with (fail)
          exact CalmQ.mk rfl _ rfl (Below.refl _ _) rfl
        exact AllCalm.nil
      · intro W hB hT
        obtain ⟨h0, h1, h2, h3, h4, h5, h6, h7, h8, h9, h10, h11, h12, h13, h14, h15, h16, h17, h18, h19, -⟩ := hT
        have h0 : f 0 = _ := h0
        have h1 : f 1 = _ := h1
        have h2 : f 2 = _ := h2
        have h3 : f 3 = _ := h3
        have h4 : f 4 = _ := h4
        have h5 : f 5 = _ := h5
        have h6 : f 6 = _ := h6
        have h7 : f 7 = _ := h7
        have h8 : f 8 = _ := h8
        have h9 : f 9 = _ := h9
        have h10 : f 10 = _ := h10
        have h11 : f 11 = _ := h11
        have h12 : f 12 = _ := h12
        have h13 : f 13 = _ := h13
        have h14 : f 14 = _ := h14
        have h15 : f 15 = _ := h15
        have h16 : f 16 = _ := h16
        have h17 : f 17 = _ := h17
        have h18 : f 18 = _ := h18
        have h19 : f 19 = _ := h19
        rw [h0, h1, h2, h3, h4, h5, h6, h7, h8, h9, h10, h11, h12, h13, h14, h15, h16, h17, h18, h19]
        clear h0 h1 h2 h3 h4 h5 h6 h7 h8 h9 h10 h11 h12 h13 h14 h15 h16 h17 h18 h19
        skip
        go_wp2
        go_ret
        have hKe := hK.out
        subst hKe
        exact ⟨_, I, [], rfl, HT.out, by simp, owns_below hou hB, by omega, _, hn.below hB, he.trans (Eff.of (S := TS X v) hB) fun _ _ h => h, hv⟩
    · have h0K : 0 < K.length := by omega
      have h0x : (0 : Int) < (K.length : Int) := by omega
      obtain ⟨g, rfl, hBg, hgX⟩ := hn.at_ h0K
      have hdueK : ∀ x ∈ K, now + 1 ≤ x.2 := fun x hx => by
        have := hdue x (HT.out.perm.mem_iff.1 (List.mem_append_right _ hx))
        omega
      have hmin : ∀ x ∈ K, (pl K 0).2 ≤ x.2 := fun x hx => by
        obtain ⟨j, hj, rfl⟩ := List.mem_iff_getElem.1 hx
        have := HT.out.heap.min j hj
        rw [ah_not, pl_in hj] at this
        omega
      have hd0 := hdueK _ (show pl K 0 ∈ K by rw [pl_in h0K]; exact List.getElem_mem h0K)
      have hF : ∀ W, Below wr.heap.size wr W → W.cell? ⟨X, 0, none⟩ = some (.slice (some ⟨g, 0, none⟩) K.length c) ∧ W.cell? ⟨X, 1, none⟩ = some (.int .i64 (now + 1)) ∧ W.cell? ⟨g, 1, none⟩ = some (.int .i64 (pl K 0).2) ∧ W.cell? ⟨g, 0, none⟩ = some (.int .i64 (pl K 0).1) := by
        intro W hW
        have hW' := hn.below hW
        have h := hW'.cells h0K
        exact ⟨hW'.mem.cell 0, hW'.mem.cell 1, by simpa using h.2, by simpa using h.1⟩
      have hrm := fun W (hW : B ≤ W.heap.size) v1 (hn : TmInv W B X v1 K (now + 1)) => (show Calls Try.prog 24 #[.pointer (some ⟨X, 0, none⟩), .int .i64 0] W _ from remove_any B X v1 K (now + 1) 0 W (by omega) hW hn h0K HT.out.heap)
      by_cases hdd : (pl K 0).2 ≤ now + 1
      · have hde : (pl K 0).2 = now + 1 := by omega
        have hstep := fun K' hp hh => HT.out.step h0K hde hdueK (K' := K') hp hh
        have HST := Lib.hid hstep
        rw [hde] at hF
        clear hstep hmin hdueK hd0 hdd hde
        generalize (pl K 0).1 = id at *
        go_wp2
        apply calm_region [.is _, .is _, .is _, .is _, .is _, .is _, .is _, .is _, .is _, .is _, .is _, .is _, .is _, .is _, .is _, .is _, .is _, .is _, .is _, .is _] [[], [0], [1], [2], [3], [4], [5], [6], [7, 6], [8, 6], [9, 6], [10, 6], [11, 6], [12, 6], [6], [14, 6], [15, 6], [16, 6], [13, 17, 6], [6, 18]] (by kernel_rfl) (by kernel_rfl) (by kernel_rfl) rfl
        intro f a1 ha1
        simp only [putL, Act.put, List.setIfInBounds_toArray, List.set_cons_succ, List.set_cons_zero] at ha1
        subst ha1
        refine ⟨?_, ?_⟩
        · refine AllCalm.cons (fun W hB hd => ?_) ?_
          · go_wp2_with (fail)
            exact CalmQ.mk rfl _ rfl (Below.refl _ _) rfl
          refine AllCalm.cons (fun W hB hd => ?_) ?_
          · obtain ⟨h0, -⟩ := hd
            have h0 : f 0 = _ := h0
            rw [h0]
            go_wp2_with (fail)
            exact CalmQ.mk rfl _ rfl (Below.refl _ _) rfl
          refine AllCalm.cons (fun W hB hd => ?_) ?_
          · obtain ⟨h1, -⟩ := hd
            have h1 : f 1 = _ := h1
            rw [h1]
            go_wp2_with (fail)
            exact CalmQ.mk rfl _ rfl (Below.refl _ _) rfl
          refine AllCalm.cons (fun W hB hd => ?_) ?_
          · obtain ⟨h2, -⟩ := hd
            have h2 : f 2 = _ := h2
            rw [h2]
            have kx := (hF W hB).1
            go_wp2_with (fail)
            exact CalmQ.mk rfl _ rfl (Below.refl _ _) rfl
          refine AllCalm.cons (fun W hB hd => ?_) ?_
          · obtain ⟨h3, -⟩ := hd
            have h3 : f 3 = _ := h3
            rw [h3]
            go_wp2_with (fail)
            exact CalmQ.mk rfl _ rfl (Below.refl _ _) rfl
          refine AllCalm.cons (fun W hB hd => ?_) ?_
          · obtain ⟨h4, -⟩ := hd
            have h4 : f 4 = _ := h4
            rw [h4]
            go_wp2_with (fail)
            exact CalmQ.mk rfl _ rfl (Below.refl _ _) rfl
          refine AllCalm.cons (fun W hB hd => ?_) ?_
          · obtain ⟨h5, -⟩ := hd
            have h5 : f 5 = _ := h5
            rw [h5]
            go_wp2_with (fail)
            exact CalmQ.mk rfl _ rfl (Below.refl _ _) rfl
          refine AllCalm.cons (fun W hB hd => ?_) ?_
          · obtain ⟨h6, -⟩ := hd
            have h6 : f 6 = _ := h6
            rw [h6]
            go_wp2_with (fail)
            exact CalmQ.mk rfl _ rfl (Below.refl _ _) rfl
          refine AllCalm.cons (fun W hB hd => ?_) ?_
          · obtain ⟨h7, h6, -⟩ := hd
            have h7 : f 7 = _ := h7
            have h6 : f 6 = _ := h6
            rw [h7, h6]
            go_wp2_with (fail)
            exact CalmQ.mk rfl _ rfl (Below.refl _ _) rfl
          refine AllCalm.cons (fun W hB hd => ?_) ?_
          · obtain ⟨h8, h6, -⟩ := hd
            have h8 : f 8 = _ := h8
            have h6 : f 6 = _ := h6
            rw [h8, h6]
            go_wp2_with (fail)
            exact CalmQ.mk rfl _ rfl (Below.refl _ _) rfl
          refine AllCalm.cons (fun W hB hd => ?_) ?_
          · obtain ⟨h9, h6, -⟩ := hd
            have h9 : f 9 = _ := h9
            have h6 : f 6 = _ := h6
            rw [h9, h6]
            have kx := (hF W hB).1
            go_wp2_with (fail)
            exact CalmQ.mk rfl _ rfl (Below.refl _ _) rfl
          refine AllCalm.cons (fun W hB hd => ?_) ?_
          · obtain ⟨h10, h6, -⟩ := hd
            have h10 : f 10 = _ := h10
            have h6 : f 6 = _ := h6
            rw [h10, h6]
            go_wp2_with (fail)
            exact CalmQ.mk rfl _ rfl (Below.refl _ _) rfl
          refine AllCalm.cons (fun W hB hd => ?_) ?_
          · obtain ⟨h11, h6, -⟩ := hd
            have h11 : f 11 = _ := h11
            have h6 : f 6 = _ := h6
            rw [h11, h6]
            go_wp2_with (fail)
            exact CalmQ.mk rfl _ rfl (Below.refl _ _) rfl
          refine AllCalm.cons (fun W hB hd => ?_) ?_
          · obtain ⟨h12, h6, -⟩ := hd
            have h12 : f 12 = _ := h12
            have h6 : f 6 = _ := h6
            rw [h12, h6]
            have kx := (hF W hB).2.2.1
            go_wp2_with (fail)
            exact CalmQ.mk rfl _ rfl (Below.refl _ _) rfl
          refine AllCalm.cons (fun W hB hd => ?_) ?_
          · obtain ⟨h6, -⟩ := hd
            have h6 : f 6 = _ := h6
            rw [h6]
            go_wp2_with (fail)
            exact CalmQ.mk rfl _ rfl (Below.refl _ _) rfl
          refine AllCalm.cons (fun W hB hd => ?_) ?_
          · obtain ⟨h14, h6, -⟩ := hd
            have h14 : f 14 = _ := h14
            have h6 : f 6 = _ := h6
            rw [h14, h6]
            go_wp2_with (fail)
            exact CalmQ.mk rfl _ rfl (Below.refl _ _) rfl
          refine AllCalm.cons (fun W hB hd => ?_) ?_
          · obtain ⟨h15, h6, -⟩ := hd
            have h15 : f 15 = _ := h15
            have h6 : f 6 = _ := h6
            rw [h15, h6]
            go_wp2_with (fail)
            exact CalmQ.mk rfl _ rfl (Below.refl _ _) rfl
          refine AllCalm.cons (fun W hB hd => ?_) ?_
          · obtain ⟨h16, h6, -⟩ := hd
            have h16 : f 16 = _ := h16
            have h6 : f 6 = _ := h6
            rw [h16, h6]
            have kx := (hF W hB).2.1
            go_wp2_with (fail)
            exact CalmQ.mk rfl _ rfl (Below.refl _ _) rfl
          refine AllCalm.cons (fun W hB hd => ?_) ?_
          · obtain ⟨h13, h17, h6, -⟩ := hd
            have h13 : f 13 = _ := h13
            have h17 : f 17 = _ := h17
            have h6 : f 6 = _ := h6
            rw [h13, h17, h6]
            go_wp2_with (fail)
            exact CalmQ.mk rfl _ rfl (Below.refl _ _) rfl
          refine AllCalm.cons (fun W hB hd => ?_) ?_
          · obtain ⟨h6, h18, -⟩ := hd
            have h6 : f 6 = _ := h6
            have h18 : f 18 = _ := h18
            rw [h6, h18]
            go_wp2_with (fail)
            exact CalmQ.mk rfl _ rfl (Below.refl _ _) rfl
          exact AllCalm.nil
        · intro W hB hT
          obtain ⟨h0, h1, h2, h3, h4, h5, h6, h7, h8, h9, h10, h11, h12, h13, h14, h15, h16, h17, h18, h19, -⟩ := hT
          have h0 : f 0 = _ := h0
          have h1 : f 1 = _ := h1
          have h2 : f 2 = _ := h2
          have h3 : f 3 = _ := h3
          have h4 : f 4 = _ := h4
          have h5 : f 5 = _ := h5
          have h6 : f 6 = _ := h6
          have h7 : f 7 = _ := h7
          have h8 : f 8 = _ := h8
          have h9 : f 9 = _ := h9
          have h10 : f 10 = _ := h10
          have h11 : f 11 = _ := h11
          have h12 : f 12 = _ := h12
          have h13 : f 13 = _ := h13
          have h14 : f 14 = _ := h14
          have h15 : f 15 = _ := h15
          have h16 : f 16 = _ := h16
          have h17 : f 17 = _ := h17
          have h18 : f 18 = _ := h18
          have h19 : f 19 = _ := h19
          rw [h0, h1, h2, h3, h4, h5, h6, h7, h8, h9, h10, h11, h12, h13, h14, h15, h16, h17, h18, h19]
          clear h0 h1 h2 h3 h4 h5 h6 h7 h8 h9 h10 h11 h12 h13 h14 h15 h16 h17 h18 h19
          skip
          have hn2 := hn.below hB
          have hou2 := owns_below hou hB
          have he2 := he.trans (Eff.of (S := TS X v) hB) fun _ _ h => h
          have x0 := (hF W hB).1
          have x1 := (hF W hB).2.2.2
          have hsW : w.heap.size ≤ W.heap.size := he2.size
          clear hF hn hou he hB
          generalize W = Wo at *
          have hA := fun o => (Below.refl Wo.heap.size Wo).alloc (Nat.le_refl _) o
          have hownA := fun o => owns_below hou2 (hA o)
          have hnA := fun o => hn2.below (hA o)
          have b3 : I.length + 1 ≤ maxLen := by unfold maxLen; omega
          have b4 : (I.length + 1) * 8 ≤ 140737488355328 := by omega
          have hszA : ∀ o, w.heap.size ≤ (Wo.alloc o).heap.size := fun o => Nat.le_trans hsW (hA o).size
          have F6 : ∀ o (v6 : Value) w6, (Wo.alloc o).grownBy w6 (Value.slice A3 I.length c3).ownBlock → TmInv w6 B X (.slice (some ⟨g, 0, none⟩) K.length c) K (now + 1) ∧ Eff (TS X v) w w6 ∧ B ≤ w6.heap.size := by
            intro o v6 w6 hg
            have hap := (hnA o).row_apart (hownA o)
            have e6 := eff_grown hg
            refine ⟨(hnA o).eff e6 (fun h => hap X h (.inl rfl)) (fun k hk h => hap k h (.inr hk)), ?_, ?_⟩
            · refine (he2.trans (Eff.of (S := TS X v) (hA o)) fun _ _ h => h).trans e6 fun k hk h => ?_
              have := ((hownA o).lt k h).1
              omega
            · exact Nat.le_trans (Nat.le_trans hBw (hszA o)) e6.size
          go_wp2_with (first
            | (at_builtin; (refine wpList_append_at _ rfl (.tmp 31) (.tmp 39) _ rfl w.heap.size 3 i0 _ 1 8 Try.underlying37 hi0 hz0 hz1 hz2 rfl (by decide) (.slice A3 I.length c3) I.length (ints I) rfl (hownA _) ⟨Wo.heap.size, 0, none⟩ 1 1 [.int .i64 id] rfl rfl (cells_new1 _ _ _ _ _ (Mem.new _ _ _)) (by intro u hu; simp at hu; subst hu; rfl) b3 b4 (hszA _) ?_); intro v6 w6 ho6 hg6 hat6; obtain ⟨hn6, he6, hB6⟩ := F6 _ v6 w6 hg6; obtain ⟨A6, c6, rfl, _, _⟩ := own_form ho6)
            | (go_at_call 24; (with_reducible refine (hrm _ hB6 _ hn6).mono ?_); rintro e w8 ⟨rfl, v8, H8, hp8, hh8, hn8, he8, hv8⟩))
          have hap6 := hn6.row_apart ho6
          have hl8 : I.length + 1 + H8.length = H.length := by
            have := hp8.length_eq
            rw [List.length_eraseIdx, if_pos h0K] at this
            omega
          have hi9 : (I ++ [id]).length = I.length + 1 := by simp
          have ho9 : w8.ownsRow w.heap.size 3 1 (.slice A6 (I ++ [id]).length c6) (I ++ [id]).length (ints (I ++ [id])) := by
            have e : ints (I ++ [id]) = ints I ++ [.int .i64 id] := by simp [ints]
            rw [e, hi9]
            exact owns_eff ho6 he8 fun k hk h => hap6 k hk h
          refine ⟨⟨I ++ [id], H8, v8, A6, c6, by rw [hi9], Lib.hid (HST.out _ hp8 hh8), by rw [hi9]; exact hl8, ho9, hn8, ?_, ?_⟩, ?_⟩
          · refine he6.trans he8 fun k hk h => ?_
            rcases h with h | h
            · exact .inl h
            · rcases hv k h with h | h
              · exact .inr h
              · omega
          · intro k hk
            exact hv k (hv8 ▸ hk)
          · simp only [lenV]
            omega
      · have hdd' : ¬ (pl K 0).2 ≤ now + 1 := hdd
        have HK : Hid (∀ x ∈ K, now + 1 < x.2) := Lib.hid fun x hx => by have := hmin x hx; omega
        clear hmin hdueK hd0 hdd hrm
        generalize (pl K 0).2 = du at *
        go_wp2
        apply calm_region [.is _, .is _, .is _, .is _, .is _, .is _, .is _, .is _, .is _, .is _, .is _, .is _, .is _, .is _, .is _, .is _, .is _, .is _, .is _, .is _] [[], [0], [1], [2], [3], [4], [5], [6], [7, 6], [8, 6], [9, 6], [10, 6], [11, 6], [12, 6], [6], [14, 6], [15, 6], [16, 6], [13, 17, 6], [6, 18]] (by kernel_rfl) (by kernel_rfl) (by kernel_rfl) rfl
        intro f a1 ha1
        simp only [putL, Act.put, List.setIfInBounds_toArray, List.set_cons_succ, List.set_cons_zero] at ha1
        subst ha1
        refine ⟨?_, ?_⟩
        · refine AllCalm.cons (fun W hB hd => ?_) ?_
          · go_wp2_with (fail)
            exact CalmQ.mk rfl _ rfl (Below.refl _ _) rfl
          refine AllCalm.cons (fun W hB hd => ?_) ?_
          · obtain ⟨h0, -⟩ := hd
            have h0 : f 0 = _ := h0
            rw [h0]
            go_wp2_with (fail)
            exact CalmQ.mk rfl _ rfl (Below.refl _ _) rfl
          refine AllCalm.cons (fun W hB hd => ?_) ?_
          · obtain ⟨h1, -⟩ := hd
            have h1 : f 1 = _ := h1
            rw [h1]
            go_wp2_with (fail)
            exact CalmQ.mk rfl _ rfl (Below.refl _ _) rfl
          refine AllCalm.cons (fun W hB hd => ?_) ?_
          · obtain ⟨h2, -⟩ := hd
            have h2 : f 2 = _ := h2
            rw [h2]
            have kx := (hF W hB).1
            go_wp2_with (fail)
            exact CalmQ.mk rfl _ rfl (Below.refl _ _) rfl
          refine AllCalm.cons (fun W hB hd => ?_) ?_
          · obtain ⟨h3, -⟩ := hd
            have h3 : f 3 = _ := h3
            rw [h3]
            go_wp2_with (fail)
            exact CalmQ.mk rfl _ rfl (Below.refl _ _) rfl
          refine AllCalm.cons (fun W hB hd => ?_) ?_
          · obtain ⟨h4, -⟩ := hd
            have h4 : f 4 = _ := h4
            rw [h4]
            go_wp2_with (fail)
            exact CalmQ.mk rfl _ rfl (Below.refl _ _) rfl
          refine AllCalm.cons (fun W hB hd => ?_) ?_
          · obtain ⟨h5, -⟩ := hd
            have h5 : f 5 = _ := h5
            rw [h5]
            go_wp2_with (fail)
            exact CalmQ.mk rfl _ rfl (Below.refl _ _) rfl
          refine AllCalm.cons (fun W hB hd => ?_) ?_
          · obtain ⟨h6, -⟩ := hd
            have h6 : f 6 = _ := h6
            rw [h6]
            go_wp2_with (fail)
            exact CalmQ.mk rfl _ rfl (Below.refl _ _) rfl
          refine AllCalm.cons (fun W hB hd => ?_) ?_
          · obtain ⟨h7, h6, -⟩ := hd
            have h7 : f 7 = _ := h7
            have h6 : f 6 = _ := h6
            rw [h7, h6]
            go_wp2_with (fail)
            exact CalmQ.mk rfl _ rfl (Below.refl _ _) rfl
          refine AllCalm.cons (fun W hB hd => ?_) ?_
          · obtain ⟨h8, h6, -⟩ := hd
            have h8 : f 8 = _ := h8
            have h6 : f 6 = _ := h6
            rw [h8, h6]
            go_wp2_with (fail)
            exact CalmQ.mk rfl _ rfl (Below.refl _ _) rfl
          refine AllCalm.cons (fun W hB hd => ?_) ?_
          · obtain ⟨h9, h6, -⟩ := hd
            have h9 : f 9 = _ := h9
            have h6 : f 6 = _ := h6
            rw [h9, h6]
            have kx := (hF W hB).1
            go_wp2_with (fail)
            exact CalmQ.mk rfl _ rfl (Below.refl _ _) rfl
          refine AllCalm.cons (fun W hB hd => ?_) ?_
          · obtain ⟨h10, h6, -⟩ := hd
            have h10 : f 10 = _ := h10
            have h6 : f 6 = _ := h6
            rw [h10, h6]
            go_wp2_with (fail)
            exact CalmQ.mk rfl _ rfl (Below.refl _ _) rfl
          refine AllCalm.cons (fun W hB hd => ?_) ?_
          · obtain ⟨h11, h6, -⟩ := hd
            have h11 : f 11 = _ := h11
            have h6 : f 6 = _ := h6
            rw [h11, h6]
            go_wp2_with (fail)
            exact CalmQ.mk rfl _ rfl (Below.refl _ _) rfl
          refine AllCalm.cons (fun W hB hd => ?_) ?_
          · obtain ⟨h12, h6, -⟩ := hd
            have h12 : f 12 = _ := h12
            have h6 : f 6 = _ := h6
            rw [h12, h6]
            have kx := (hF W hB).2.2.1
            go_wp2_with (fail)
            exact CalmQ.mk rfl _ rfl (Below.refl _ _) rfl
          refine AllCalm.cons (fun W hB hd => ?_) ?_
          · obtain ⟨h6, -⟩ := hd
            have h6 : f 6 = _ := h6
            rw [h6]
            go_wp2_with (fail)
            exact CalmQ.mk rfl _ rfl (Below.refl _ _) rfl
          refine AllCalm.cons (fun W hB hd => ?_) ?_
          · obtain ⟨h14, h6, -⟩ := hd
            have h14 : f 14 = _ := h14
            have h6 : f 6 = _ := h6
            rw [h14, h6]
            go_wp2_with (fail)
            exact CalmQ.mk rfl _ rfl (Below.refl _ _) rfl
          refine AllCalm.cons (fun W hB hd => ?_) ?_
          · obtain ⟨h15, h6, -⟩ := hd
            have h15 : f 15 = _ := h15
            have h6 : f 6 = _ := h6
            rw [h15, h6]
            go_wp2_with (fail)
            exact CalmQ.mk rfl _ rfl (Below.refl _ _) rfl
          refine AllCalm.cons (fun W hB hd => ?_) ?_
          · obtain ⟨h16, h6, -⟩ := hd
            have h16 : f 16 = _ := h16
            have h6 : f 6 = _ := h6
            rw [h16, h6]
            have kx := (hF W hB).2.1
            go_wp2_with (fail)
            exact CalmQ.mk rfl _ rfl (Below.refl _ _) rfl
          refine AllCalm.cons (fun W hB hd => ?_) ?_
          · obtain ⟨h13, h17, h6, -⟩ := hd
            have h13 : f 13 = _ := h13
            have h17 : f 17 = _ := h17
            have h6 : f 6 = _ := h6
            rw [h13, h17, h6]
            go_wp2_with (fail)
            exact CalmQ.mk rfl _ rfl (Below.refl _ _) rfl
          refine AllCalm.cons (fun W hB hd => ?_) ?_
          · obtain ⟨h6, h18, -⟩ := hd
            have h6 : f 6 = _ := h6
            have h18 : f 18 = _ := h18
            rw [h6, h18]
            go_wp2_with (fail)
            exact CalmQ.mk rfl _ rfl (Below.refl _ _) rfl
          exact AllCalm.nil
        · intro W hB hT
          obtain ⟨h0, h1, h2, h3, h4, h5, h6, h7, h8, h9, h10, h11, h12, h13, h14, h15, h16, h17, h18, h19, -⟩ := hT
          have h0 : f 0 = _ := h0
          have h1 : f 1 = _ := h1
          have h2 : f 2 = _ := h2
          have h3 : f 3 = _ := h3
          have h4 : f 4 = _ := h4
          have h5 : f 5 = _ := h5
          have h6 : f 6 = _ := h6
          have h7 : f 7 = _ := h7
          have h8 : f 8 = _ := h8
          have h9 : f 9 = _ := h9
          have h10 : f 10 = _ := h10
          have h11 : f 11 = _ := h11
          have h12 : f 12 = _ := h12
          have h13 : f 13 = _ := h13
          have h14 : f 14 = _ := h14
          have h15 : f 15 = _ := h15
          have h16 : f 16 = _ := h16
          have h17 : f 17 = _ := h17
          have h18 : f 18 = _ := h18
          have h19 : f 19 = _ := h19
          rw [h0, h1, h2, h3, h4, h5, h6, h7, h8, h9, h10, h11, h12, h13, h14, h15, h16, h17, h18, h19]
          clear h0 h1 h2 h3 h4 h5 h6 h7 h8 h9 h10 h11 h12 h13 h14 h15 h16 h17 h18 h19
          skip
          go_wp2
          go_ret
          exact ⟨_, I, K, rfl, HT.out, HK.out, owns_below hou hB, by omega, _, hn.below hB, he.trans (Eff.of (S := TS X v) hB) fun _ _ h => h, hv⟩
end Go.Proofs.Ytohbkepjbaigdaa
