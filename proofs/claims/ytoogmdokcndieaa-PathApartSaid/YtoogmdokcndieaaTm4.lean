/- Package timer: sink: contract. -/
import Derived.Test.YtoogmdokcndieaaTm3
namespace Go.Proofs.Ytoogmdokcndieaa
open Go.ChangeShapes Go.WideShapes Go.ChangeAt Go.RowKit Go.Lib
set_option linter.unusedVariables false
/-- The least so far. -/
def lst (H : List One) (i : Nat) : Nat → Nat
  | 0 => i
  | 1 => least1 H i
  | _ => least H i
theorem lst_step {H : List One} {i t : Nat} (ht : t < 2) (h : 2 * i + 1 + t < H.length) : lst H i (t + 1) = if ah (pl H (2 * i + 1 + t)) (pl H (lst H i t)) = true then 2 * i + 1 + t else lst H i t := by
  have : t = 0 ∨ t = 1 := by omega
  rcases this with rfl | rfl
  · show least1 H i = _
    unfold least1
    simp only [Nat.add_zero] at h
    simp only [h, true_and]
    rfl
  · show least H i = _
    unfold least
    have e : 2 * i + 1 + 1 = 2 * i + 2 := by omega
    rw [e] at h ⊢
    simp only [h, true_and]
    rfl
theorem lst_none {H : List One} {i t : Nat} (ht : t < 2) (h : ¬ 2 * i + 1 + t < H.length) : lst H i (t + 1) = lst H i t := by
  have : t = 0 ∨ t = 1 := by omega
  rcases this with rfl | rfl
  · show least1 H i = _
    unfold least1
    rw [if_neg (by omega)]
    rfl
  · show least H i = _
    unfold least
    rw [if_neg (by omega)]
    rfl
theorem lst_lt {H : List One} {i t : Nat} (h : i < H.length) : lst H i t < H.length := by
  have h1 : least1 H i < H.length := by
    unfold least1
    split
    · rename_i h2; exact h2.1
    · exact h
  match t with
  | 0 => exact h
  | 1 => exact h1
  | t + 2 =>
    show least H i < _
    unfold least
    split
    · rename_i h2; exact h2.1
    · exact h1
theorem idx2 (a b : Int) : ∀ t, (t = 0 → ∀ W, (Instr.index 99 (.agg #[.int .i64 a, .int .i64 b]) (.int .i64 0)).run Try.prog W = .ok (.int .i64 a) W) ∧ (t = 1 → ∀ W, (Instr.index 99 (.agg #[.int .i64 a, .int .i64 b]) (.int .i64 1)).run Try.prog W = .ok (.int .i64 b) W) := fun t => ⟨fun _ W => by kernel_rfl, fun _ W => by kernel_rfl⟩
set_option maxRecDepth 100000 in
set_option maxHeartbeats 1000000 in
theorem sink_any (B X : Nat) (v : Value) (H : List One) (now : Int) (i0 : Nat) (w : World) (hl : H.length ≤ 1000) (hB : B ≤ w.heap.size) (hn : TmInv w B X v H now) (hi : i0 < H.length) (hsk : Sk H i0) :
    Calls Try.prog 34 #[.pointer (some ⟨X, 0, none⟩), .int .i64 (i0 : Nat)] w fun e w' => e = .returned (.tuple #[]) ∧ ∃ H', H'.Perm H ∧ Heap H' ∧ TmInv w' B X v H' now ∧ Eff (TS X v) w w' := by
  obtain ⟨A, c, rfl, hc1, hc2⟩ := hn.parts
  obtain ⟨g, rfl, hBg, hgX⟩ := hn.at_ hi
  have hHx : (H.length : Int) ≤ 1000 := by omega
  go_enter Try.func34, Try.ntmps34
  go_wp2
  go_loopw [1] (fun i wr => ∃ (k : Nat) (H' : List One), k < H.length ∧ i = .int .i64 k ∧ Hid (H'.Perm H ∧ Sk H' k) ∧ H'.length = H.length ∧ TmInv wr B X (.slice (some ⟨g, 0, none⟩) H.length c) H' now ∧ Eff (TS X (.slice (some ⟨g, 0, none⟩) H.length c)) w wr) (fun i _ => H.length - (intOf i).toNat)
  case atStart => exact ⟨i0, H, hi, rfl, Lib.hid ⟨List.Perm.refl _, hsk⟩, rfl, hn, Eff.refl _ _⟩
  case round =>
    clear hn hsk
    obtain ⟨k, H', hk, rfl, HP, hlen, hn, he⟩ := hrel
    have hkx : (k : Int) < (H.length : Int) := by omega
    go_wp2
    generalize wr = wo at *
    go_loopw [4, 15] (fun l t wr => ∃ t' : Nat, t' ≤ 2 ∧ t = .int .i64 t' ∧ l = .int .i64 (lst H' k t' : Nat) ∧ Below wo.heap.size wo wr) (fun _ t _ => 2 - (intOf t).toNat)
    case atStart => exact ⟨0, by omega, rfl, rfl, Below.refl _ _⟩
    case round =>
      obtain ⟨t, ht, rfl, rfl, hbw⟩ := hrel
      by_cases ht2 : t < 2
      · have htc : t = 0 ∨ t = 1 := by omega
        clear ht ht2
        rcases htc with rfl | rfl
        · have hsp := lst_step (H := H') (i := k) (t := 0) (by omega)
          have hno := lst_none (H := H') (i := k) (t := 0) (by omega)
          have hlt := lst_lt (H := H') (i := k) (t := 0) (by omega)
          obtain ⟨d, hd⟩ : ∃ d : Nat, d = 2 * k + 1 + 0 := ⟨_, rfl⟩
          have hdx : 2 * (k : Int) + 1 = ((d : Nat) : Int) := by omega
          rw [← hd] at hsp hno
          generalize lst H' k 0 = m at *
          generalize hne : lst H' k (0 + 1) = m' at *
          have HNE := Lib.hid hne
          clear hne hd
          have hx := (idx2 (2 * (k : Int) + 1) (2 * (k : Int) + 2) 0).1 rfl
          have hx0 := Lib.hid hx
          rw [hdx] at hx
          have hF : ∀ W, Below wr.heap.size wr W → W.cell? ⟨X, 0, none⟩ = some (.slice (some ⟨g, 0, none⟩) H.length c) ∧ (d < H.length → W.cell? ⟨g, d * 2, none⟩ = some (.int .i64 (pl H' d).1) ∧ W.cell? ⟨g, d * 2 + 1, none⟩ = some (.int .i64 (pl H' d).2)) ∧ W.cell? ⟨g, m * 2, none⟩ = some (.int .i64 (pl H' m).1) ∧ W.cell? ⟨g, m * 2 + 1, none⟩ = some (.int .i64 (pl H' m).2) := by
            intro W hW
            have hW' := hn.below (hbw.trans (hW.mono hbw.size))
            rw [← hlen] at hW' ⊢
            exact ⟨hW'.mem.cell 0, fun h => hW'.cells h, hW'.cells (by omega)⟩
          rw [hlen] at hsp hno hlt
          have hah := fun W => ahead_any (pl H' d) (pl H' m) W
          have hmx : (m : Int) < (H.length : Int) := by omega
          have HSP := Lib.hid hsp
          have HNO := Lib.hid hno
          clear hsp hno
          by_cases hdl : d < H.length
          · have hdlx : (d : Int) < (H.length : Int) := by omega
            have hF1 := fun W hW => (hF W hW).1
            have hF2 := fun W hW => (hF W hW).2.1 hdl
            have hF3 := fun W hW => (hF W hW).2.2
            clear hF
            generalize pl H' d = pa at *
            generalize pl H' m = pb at *
            obtain ⟨a1, a2⟩ := pa
            obtain ⟨b1, b2⟩ := pb
            simp only at hF2 hF3 hah
            rcases hq : ah (a1, a2) (b1, b2) with _ | _
            · rw [hq] at hah
              have hm' : Hid (m' = m) := Lib.hid (by rw [HSP.out hdl, if_neg (by rw [hq]; simp)])
              clear hq
              go_wp2
              apply calm_region [.is _, .is _, .is _, .is _, .is _, .is _, .is _, .is _, .is _, .is _, .is _, .is _, .is _, .is _, .is _, .is _, .is _, .is _, .is _, .is _, .is _, .is _, .is _, .is _] [[], [], [1], [2], [3], [4], [0, 5], [6], [7], [8, 7], [9, 7], [10, 7], [7], [11, 12, 7], [13, 7], [7], [15, 7], [16, 7], [17, 7], [7], [18, 19, 7], [20, 7], [14, 21, 7, 7], [7, 22]] (by kernel_rfl) (by kernel_rfl) (by kernel_rfl) rfl
              intro f a1 ha1
              simp only [putL, Act.put, List.setIfInBounds_toArray, List.set_cons_succ, List.set_cons_zero] at ha1
              subst ha1
              refine ⟨?_, ?_⟩
              · refine AllCalm.cons (fun W hB hd => ?_) ?_
                · go_wp2_with (fail)
                  exact CalmQ.mk rfl _ rfl (Below.refl _ _) rfl
                refine AllCalm.cons (fun W hB hd => ?_) ?_
                · go_wp2_with (fail)
                  exact CalmQ.mk rfl _ rfl (Below.refl _ _) rfl
                refine AllCalm.cons (fun W hB hd => ?_) ?_
                · obtain ⟨h1, -⟩ := hd
                  have h1 : f 1 = _ := h1
                  rw [h1]
                  go_wp2_with (fail)
                  exact CalmQ.mk rfl _ rfl (Below.refl _ _) rfl
                refine AllCalm.cons (fun W hB hd => ?_) ?_
                · obtain ⟨h2, -⟩ := hd
                  have h2 : f 2 = _ := h2
                  rw [h2]
                  go_wp2_with (fail)
                  exact CalmQ.mk rfl _ rfl (Below.refl _ _) rfl
                refine AllCalm.cons (fun W hB hd => ?_) ?_
                · obtain ⟨h3, -⟩ := hd
                  have h3 : f 3 = _ := h3
                  rw [h3]
                  have kx := hF1 W hB
                  go_wp2_with (fail)
                  exact CalmQ.mk rfl _ rfl (Below.refl _ _) rfl
                refine AllCalm.cons (fun W hB hd => ?_) ?_
                · obtain ⟨h4, -⟩ := hd
                  have h4 : f 4 = _ := h4
                  rw [h4]
                  go_wp2_with (fail)
                  exact CalmQ.mk rfl _ rfl (Below.refl _ _) rfl
                refine AllCalm.cons (fun W hB hd => ?_) ?_
                · obtain ⟨h0, h5, -⟩ := hd
                  have h0 : f 0 = _ := h0
                  have h5 : f 5 = _ := h5
                  rw [h0, h5]
                  go_wp2_with (fail)
                  exact CalmQ.mk rfl _ rfl (Below.refl _ _) rfl
                refine AllCalm.cons (fun W hB hd => ?_) ?_
                · obtain ⟨h6, -⟩ := hd
                  have h6 : f 6 = _ := h6
                  rw [h6]
                  go_wp2_with (fail)
                  exact CalmQ.mk rfl _ rfl (Below.refl _ _) rfl
                refine AllCalm.cons (fun W hB hd => ?_) ?_
                · obtain ⟨h7, -⟩ := hd
                  have h7 : f 7 = _ := h7
                  rw [h7]
                  go_wp2_with (fail)
                  exact CalmQ.mk rfl _ rfl (Below.refl _ _) rfl
                refine AllCalm.cons (fun W hB hd => ?_) ?_
                · obtain ⟨h8, h7, -⟩ := hd
                  have h8 : f 8 = _ := h8
                  have h7 : f 7 = _ := h7
                  rw [h8, h7]
                  go_wp2_with (fail)
                  exact CalmQ.mk rfl _ rfl (Below.refl _ _) rfl
                refine AllCalm.cons (fun W hB hd => ?_) ?_
                · obtain ⟨h9, h7, -⟩ := hd
                  have h9 : f 9 = _ := h9
                  have h7 : f 7 = _ := h7
                  rw [h9, h7]
                  go_wp2_with (fail)
                  exact CalmQ.mk rfl _ rfl (Below.refl _ _) rfl
                refine AllCalm.cons (fun W hB hd => ?_) ?_
                · obtain ⟨h10, h7, -⟩ := hd
                  have h10 : f 10 = _ := h10
                  have h7 : f 7 = _ := h7
                  rw [h10, h7]
                  have kx := hF1 W hB
                  go_wp2_with (fail)
                  exact CalmQ.mk rfl _ rfl (Below.refl _ _) rfl
                refine AllCalm.cons (fun W hB hd => ?_) ?_
                · obtain ⟨h7, -⟩ := hd
                  have h7 : f 7 = _ := h7
                  rw [h7]
                  go_wp2_with (fail)
                  exact CalmQ.mk rfl _ rfl (Below.refl _ _) rfl
                refine AllCalm.cons (fun W hB hd => ?_) ?_
                · obtain ⟨h11, h12, h7, -⟩ := hd
                  have h11 : f 11 = _ := h11
                  have h12 : f 12 = _ := h12
                  have h7 : f 7 = _ := h7
                  rw [h11, h12, h7]
                  go_wp2_with (fail)
                  exact CalmQ.mk rfl _ rfl (Below.refl _ _) rfl
                refine AllCalm.cons (fun W hB hd => ?_) ?_
                · obtain ⟨h13, h7, -⟩ := hd
                  have h13 : f 13 = _ := h13
                  have h7 : f 7 = _ := h7
                  rw [h13, h7]
                  have kx := hF2 W hB
                  go_wp2_with (fail)
                  exact CalmQ.mk rfl _ rfl (Below.refl _ _) rfl
                refine AllCalm.cons (fun W hB hd => ?_) ?_
                · obtain ⟨h7, -⟩ := hd
                  have h7 : f 7 = _ := h7
                  rw [h7]
                  go_wp2_with (fail)
                  exact CalmQ.mk rfl _ rfl (Below.refl _ _) rfl
                refine AllCalm.cons (fun W hB hd => ?_) ?_
                · obtain ⟨h15, h7, -⟩ := hd
                  have h15 : f 15 = _ := h15
                  have h7 : f 7 = _ := h7
                  rw [h15, h7]
                  go_wp2_with (fail)
                  exact CalmQ.mk rfl _ rfl (Below.refl _ _) rfl
                refine AllCalm.cons (fun W hB hd => ?_) ?_
                · obtain ⟨h16, h7, -⟩ := hd
                  have h16 : f 16 = _ := h16
                  have h7 : f 7 = _ := h7
                  rw [h16, h7]
                  go_wp2_with (fail)
                  exact CalmQ.mk rfl _ rfl (Below.refl _ _) rfl
                refine AllCalm.cons (fun W hB hd => ?_) ?_
                · obtain ⟨h17, h7, -⟩ := hd
                  have h17 : f 17 = _ := h17
                  have h7 : f 7 = _ := h7
                  rw [h17, h7]
                  have kx := hF1 W hB
                  go_wp2_with (fail)
                  exact CalmQ.mk rfl _ rfl (Below.refl _ _) rfl
                refine AllCalm.cons (fun W hB hd => ?_) ?_
                · obtain ⟨h7, -⟩ := hd
                  have h7 : f 7 = _ := h7
                  rw [h7]
                  go_wp2_with (fail)
                  exact CalmQ.mk rfl _ rfl (Below.refl _ _) rfl
                refine AllCalm.cons (fun W hB hd => ?_) ?_
                · obtain ⟨h18, h19, h7, -⟩ := hd
                  have h18 : f 18 = _ := h18
                  have h19 : f 19 = _ := h19
                  have h7 : f 7 = _ := h7
                  rw [h18, h19, h7]
                  go_wp2_with (fail)
                  exact CalmQ.mk rfl _ rfl (Below.refl _ _) rfl
                refine AllCalm.cons (fun W hB hd => ?_) ?_
                · obtain ⟨h20, h7, -⟩ := hd
                  have h20 : f 20 = _ := h20
                  have h7 : f 7 = _ := h7
                  rw [h20, h7]
                  have kx := hF3 W hB
                  go_wp2_with (fail)
                  exact CalmQ.mk rfl _ rfl (Below.refl _ _) rfl
                refine AllCalm.cons (fun W hB hd => ?_) ?_
                · obtain ⟨h14, h21, h7, -, -⟩ := hd
                  have h14 : f 14 = _ := h14
                  have h21 : f 21 = _ := h21
                  have h7 : f 7 = _ := h7
                  rw [h14, h21, h7]
                  go_wp2_with ((go_at_call 35; (with_reducible refine (hah W).mono ?_); rintro e w5 ⟨rfl, hb5⟩))
                  exact CalmQ.mk rfl _ rfl hb5 rfl
                refine AllCalm.cons (fun W hB hd => ?_) ?_
                · obtain ⟨h7, h22, -⟩ := hd
                  have h7 : f 7 = _ := h7
                  have h22 : f 22 = _ := h22
                  rw [h7, h22]
                  go_wp2_with (fail)
                  exact CalmQ.mk rfl _ rfl (Below.refl _ _) rfl
                exact AllCalm.nil
              · intro W hB hT
                obtain ⟨h0, h1, h2, h3, h4, h5, h6, h7, h8, h9, h10, h11, h12, h13, h14, h15, h16, h17, h18, h19, h20, h21, h22, h23, -⟩ := hT
                have h0 : f 0 = _ := h0
                have h1 : f 1 = _ := h1
                have h2 : f 2 = _ := h2
                have h3 : f 3 = _ := h3
                have h4 : f 4 = _ := h4
                have h5 : f 5 = _ := h5
                have h6 : f 6 = _ := h6
                have h7 : f 7 = _ := h7
                have h8 : f 8 = _ := h8
                have h9 : f 9 = _ := h9
                have h10 : f 10 = _ := h10
                have h11 : f 11 = _ := h11
                have h12 : f 12 = _ := h12
                have h13 : f 13 = _ := h13
                have h14 : f 14 = _ := h14
                have h15 : f 15 = _ := h15
                have h16 : f 16 = _ := h16
                have h17 : f 17 = _ := h17
                have h18 : f 18 = _ := h18
                have h19 : f 19 = _ := h19
                have h20 : f 20 = _ := h20
                have h21 : f 21 = _ := h21
                have h22 : f 22 = _ := h22
                have h23 : f 23 = _ := h23
                rw [h0, h1, h2, h3, h4, h5, h6, h7, h8, h9, h10, h11, h12, h13, h14, h15, h16, h17, h18, h19, h20, h21, h22, h23]
                clear h0 h1 h2 h3 h4 h5 h6 h7 h8 h9 h10 h11 h12 h13 h14 h15 h16 h17 h18 h19 h20 h21 h22 h23
                skip
                go_wp2
                exact ⟨⟨0 + 1, by omega, rfl, by rw [HNE.out, hm'.out], hbw.trans (hB.mono hbw.size)⟩, by simp [intOf]⟩
            · rw [hq] at hah
              have hm' : Hid (m' = d) := Lib.hid (by rw [HSP.out hdl, if_pos hq])
              clear hq
              go_wp2
              apply calm_region [.is _, .is _, .is _, .is _, .is _, .is _, .is _, .is _, .is _, .is _, .is _, .is _, .is _, .is _, .is _, .is _, .is _, .is _, .is _, .is _, .is _, .is _, .is _, .is _] [[], [], [1], [2], [3], [4], [0, 5], [6], [7], [8, 7], [9, 7], [10, 7], [7], [11, 12, 7], [13, 7], [7], [15, 7], [16, 7], [17, 7], [7], [18, 19, 7], [20, 7], [14, 21, 7, 7], [7, 22]] (by kernel_rfl) (by kernel_rfl) (by kernel_rfl) rfl
              intro f a1 ha1
              simp only [putL, Act.put, List.setIfInBounds_toArray, List.set_cons_succ, List.set_cons_zero] at ha1
              subst ha1
              refine ⟨?_, ?_⟩
              · refine AllCalm.cons (fun W hB hd => ?_) ?_
                · go_wp2_with (fail)
                  exact CalmQ.mk rfl _ rfl (Below.refl _ _) rfl
                refine AllCalm.cons (fun W hB hd => ?_) ?_
                · go_wp2_with (fail)
                  exact CalmQ.mk rfl _ rfl (Below.refl _ _) rfl
                refine AllCalm.cons (fun W hB hd => ?_) ?_
                · obtain ⟨h1, -⟩ := hd
                  have h1 : f 1 = _ := h1
                  rw [h1]
                  go_wp2_with (fail)
                  exact CalmQ.mk rfl _ rfl (Below.refl _ _) rfl
                refine AllCalm.cons (fun W hB hd => ?_) ?_
                · obtain ⟨h2, -⟩ := hd
                  have h2 : f 2 = _ := h2
                  rw [h2]
                  go_wp2_with (fail)
                  exact CalmQ.mk rfl _ rfl (Below.refl _ _) rfl
                refine AllCalm.cons (fun W hB hd => ?_) ?_
                · obtain ⟨h3, -⟩ := hd
                  have h3 : f 3 = _ := h3
                  rw [h3]
                  have kx := hF1 W hB
                  go_wp2_with (fail)
                  exact CalmQ.mk rfl _ rfl (Below.refl _ _) rfl
                refine AllCalm.cons (fun W hB hd => ?_) ?_
                · obtain ⟨h4, -⟩ := hd
                  have h4 : f 4 = _ := h4
                  rw [h4]
                  go_wp2_with (fail)
                  exact CalmQ.mk rfl _ rfl (Below.refl _ _) rfl
                refine AllCalm.cons (fun W hB hd => ?_) ?_
                · obtain ⟨h0, h5, -⟩ := hd
                  have h0 : f 0 = _ := h0
                  have h5 : f 5 = _ := h5
                  rw [h0, h5]
                  go_wp2_with (fail)
                  exact CalmQ.mk rfl _ rfl (Below.refl _ _) rfl
                refine AllCalm.cons (fun W hB hd => ?_) ?_
                · obtain ⟨h6, -⟩ := hd
                  have h6 : f 6 = _ := h6
                  rw [h6]
                  go_wp2_with (fail)
                  exact CalmQ.mk rfl _ rfl (Below.refl _ _) rfl
                refine AllCalm.cons (fun W hB hd => ?_) ?_
                · obtain ⟨h7, -⟩ := hd
                  have h7 : f 7 = _ := h7
                  rw [h7]
                  go_wp2_with (fail)
                  exact CalmQ.mk rfl _ rfl (Below.refl _ _) rfl
                refine AllCalm.cons (fun W hB hd => ?_) ?_
                · obtain ⟨h8, h7, -⟩ := hd
                  have h8 : f 8 = _ := h8
                  have h7 : f 7 = _ := h7
                  rw [h8, h7]
                  go_wp2_with (fail)
                  exact CalmQ.mk rfl _ rfl (Below.refl _ _) rfl
                refine AllCalm.cons (fun W hB hd => ?_) ?_
                · obtain ⟨h9, h7, -⟩ := hd
                  have h9 : f 9 = _ := h9
                  have h7 : f 7 = _ := h7
                  rw [h9, h7]
                  go_wp2_with (fail)
                  exact CalmQ.mk rfl _ rfl (Below.refl _ _) rfl
                refine AllCalm.cons (fun W hB hd => ?_) ?_
                · obtain ⟨h10, h7, -⟩ := hd
                  have h10 : f 10 = _ := h10
                  have h7 : f 7 = _ := h7
                  rw [h10, h7]
                  have kx := hF1 W hB
                  go_wp2_with (fail)
                  exact CalmQ.mk rfl _ rfl (Below.refl _ _) rfl
                refine AllCalm.cons (fun W hB hd => ?_) ?_
                · obtain ⟨h7, -⟩ := hd
                  have h7 : f 7 = _ := h7
                  rw [h7]
                  go_wp2_with (fail)
                  exact CalmQ.mk rfl _ rfl (Below.refl _ _) rfl
                refine AllCalm.cons (fun W hB hd => ?_) ?_
                · obtain ⟨h11, h12, h7, -⟩ := hd
                  have h11 : f 11 = _ := h11
                  have h12 : f 12 = _ := h12
                  have h7 : f 7 = _ := h7
                  rw [h11, h12, h7]
                  go_wp2_with (fail)
                  exact CalmQ.mk rfl _ rfl (Below.refl _ _) rfl
                refine AllCalm.cons (fun W hB hd => ?_) ?_
                · obtain ⟨h13, h7, -⟩ := hd
                  have h13 : f 13 = _ := h13
                  have h7 : f 7 = _ := h7
                  rw [h13, h7]
                  have kx := hF2 W hB
                  go_wp2_with (fail)
                  exact CalmQ.mk rfl _ rfl (Below.refl _ _) rfl
                refine AllCalm.cons (fun W hB hd => ?_) ?_
                · obtain ⟨h7, -⟩ := hd
                  have h7 : f 7 = _ := h7
                  rw [h7]
                  go_wp2_with (fail)
                  exact CalmQ.mk rfl _ rfl (Below.refl _ _) rfl
                refine AllCalm.cons (fun W hB hd => ?_) ?_
                · obtain ⟨h15, h7, -⟩ := hd
                  have h15 : f 15 = _ := h15
                  have h7 : f 7 = _ := h7
                  rw [h15, h7]
                  go_wp2_with (fail)
                  exact CalmQ.mk rfl _ rfl (Below.refl _ _) rfl
                refine AllCalm.cons (fun W hB hd => ?_) ?_
                · obtain ⟨h16, h7, -⟩ := hd
                  have h16 : f 16 = _ := h16
                  have h7 : f 7 = _ := h7
                  rw [h16, h7]
                  go_wp2_with (fail)
                  exact CalmQ.mk rfl _ rfl (Below.refl _ _) rfl
                refine AllCalm.cons (fun W hB hd => ?_) ?_
                · obtain ⟨h17, h7, -⟩ := hd
                  have h17 : f 17 = _ := h17
                  have h7 : f 7 = _ := h7
                  rw [h17, h7]
                  have kx := hF1 W hB
                  go_wp2_with (fail)
                  exact CalmQ.mk rfl _ rfl (Below.refl _ _) rfl
                refine AllCalm.cons (fun W hB hd => ?_) ?_
                · obtain ⟨h7, -⟩ := hd
                  have h7 : f 7 = _ := h7
                  rw [h7]
                  go_wp2_with (fail)
                  exact CalmQ.mk rfl _ rfl (Below.refl _ _) rfl
                refine AllCalm.cons (fun W hB hd => ?_) ?_
                · obtain ⟨h18, h19, h7, -⟩ := hd
                  have h18 : f 18 = _ := h18
                  have h19 : f 19 = _ := h19
                  have h7 : f 7 = _ := h7
                  rw [h18, h19, h7]
                  go_wp2_with (fail)
                  exact CalmQ.mk rfl _ rfl (Below.refl _ _) rfl
                refine AllCalm.cons (fun W hB hd => ?_) ?_
                · obtain ⟨h20, h7, -⟩ := hd
                  have h20 : f 20 = _ := h20
                  have h7 : f 7 = _ := h7
                  rw [h20, h7]
                  have kx := hF3 W hB
                  go_wp2_with (fail)
                  exact CalmQ.mk rfl _ rfl (Below.refl _ _) rfl
                refine AllCalm.cons (fun W hB hd => ?_) ?_
                · obtain ⟨h14, h21, h7, -, -⟩ := hd
                  have h14 : f 14 = _ := h14
                  have h21 : f 21 = _ := h21
                  have h7 : f 7 = _ := h7
                  rw [h14, h21, h7]
                  go_wp2_with ((go_at_call 35; (with_reducible refine (hah W).mono ?_); rintro e w5 ⟨rfl, hb5⟩))
                  exact CalmQ.mk rfl _ rfl hb5 rfl
                refine AllCalm.cons (fun W hB hd => ?_) ?_
                · obtain ⟨h7, h22, -⟩ := hd
                  have h7 : f 7 = _ := h7
                  have h22 : f 22 = _ := h22
                  rw [h7, h22]
                  go_wp2_with (fail)
                  exact CalmQ.mk rfl _ rfl (Below.refl _ _) rfl
                exact AllCalm.nil
              · intro W hB hT
                obtain ⟨h0, h1, h2, h3, h4, h5, h6, h7, h8, h9, h10, h11, h12, h13, h14, h15, h16, h17, h18, h19, h20, h21, h22, h23, -⟩ := hT
                have h0 : f 0 = _ := h0
                have h1 : f 1 = _ := h1
                have h2 : f 2 = _ := h2
                have h3 : f 3 = _ := h3
                have h4 : f 4 = _ := h4
                have h5 : f 5 = _ := h5
                have h6 : f 6 = _ := h6
                have h7 : f 7 = _ := h7
                have h8 : f 8 = _ := h8
                have h9 : f 9 = _ := h9
                have h10 : f 10 = _ := h10
                have h11 : f 11 = _ := h11
                have h12 : f 12 = _ := h12
                have h13 : f 13 = _ := h13
                have h14 : f 14 = _ := h14
                have h15 : f 15 = _ := h15
                have h16 : f 16 = _ := h16
                have h17 : f 17 = _ := h17
                have h18 : f 18 = _ := h18
                have h19 : f 19 = _ := h19
                have h20 : f 20 = _ := h20
                have h21 : f 21 = _ := h21
                have h22 : f 22 = _ := h22
                have h23 : f 23 = _ := h23
                rw [h0, h1, h2, h3, h4, h5, h6, h7, h8, h9, h10, h11, h12, h13, h14, h15, h16, h17, h18, h19, h20, h21, h22, h23]
                clear h0 h1 h2 h3 h4 h5 h6 h7 h8 h9 h10 h11 h12 h13 h14 h15 h16 h17 h18 h19 h20 h21 h22 h23
                skip
                go_wp2
                exact ⟨⟨0 + 1, by omega, rfl, by rw [HNE.out, hm'.out]; try simp [hdx], hbw.trans (hB.mono hbw.size)⟩, by simp [intOf]⟩
          · have hdlx : ¬ 2 * (k : Int) + 1 < (H.length : Int) := by omega
            have hx := hx0.out
            clear hdx
            have hF1 := fun W hW => (hF W hW).1
            have hm' : Hid (m' = m) := Lib.hid (HNO.out hdl)
            clear hF hah
            go_wp2
            apply calm_region [.is _, .is _, .is _, .is _, .is _, .is _, .is _, .is _, .is _, .is _, .is _, .is _, .is _, .is _, .is _, .is _, .is _, .is _, .is _, .is _, .is _, .is _, .is _, .is _] [[], [], [1], [2], [3], [4], [0, 5], [6], [7], [8, 7], [9, 7], [10, 7], [7], [11, 12, 7], [13, 7], [7], [15, 7], [16, 7], [17, 7], [7], [18, 19, 7], [20, 7], [14, 21, 7, 7], [7, 22]] (by kernel_rfl) (by kernel_rfl) (by kernel_rfl) rfl
            intro f a1 ha1
            simp only [putL, Act.put, List.setIfInBounds_toArray, List.set_cons_succ, List.set_cons_zero] at ha1
            subst ha1
            refine ⟨?_, ?_⟩
            · refine AllCalm.cons (fun W hB hd => ?_) ?_
              · go_wp2_with (fail)
                exact CalmQ.mk rfl _ rfl (Below.refl _ _) rfl
              refine AllCalm.cons (fun W hB hd => ?_) ?_
              · go_wp2_with (fail)
                exact CalmQ.mk rfl _ rfl (Below.refl _ _) rfl
              refine AllCalm.cons (fun W hB hd => ?_) ?_
              · obtain ⟨h1, -⟩ := hd
                have h1 : f 1 = _ := h1
                rw [h1]
                go_wp2_with (fail)
                exact CalmQ.mk rfl _ rfl (Below.refl _ _) rfl
              refine AllCalm.cons (fun W hB hd => ?_) ?_
              · obtain ⟨h2, -⟩ := hd
                have h2 : f 2 = _ := h2
                rw [h2]
                go_wp2_with (fail)
                exact CalmQ.mk rfl _ rfl (Below.refl _ _) rfl
              refine AllCalm.cons (fun W hB hd => ?_) ?_
              · obtain ⟨h3, -⟩ := hd
                have h3 : f 3 = _ := h3
                rw [h3]
                have kx := hF1 W hB
                go_wp2_with (fail)
                exact CalmQ.mk rfl _ rfl (Below.refl _ _) rfl
              refine AllCalm.cons (fun W hB hd => ?_) ?_
              · obtain ⟨h4, -⟩ := hd
                have h4 : f 4 = _ := h4
                rw [h4]
                go_wp2_with (fail)
                exact CalmQ.mk rfl _ rfl (Below.refl _ _) rfl
              refine AllCalm.cons (fun W hB hd => ?_) ?_
              · obtain ⟨h0, h5, -⟩ := hd
                have h0 : f 0 = _ := h0
                have h5 : f 5 = _ := h5
                rw [h0, h5]
                go_wp2_with (fail)
                exact CalmQ.mk rfl _ rfl (Below.refl _ _) rfl
              refine AllCalm.cons (fun W hB hd => ?_) ?_
              · obtain ⟨h6, -⟩ := hd
                have h6 : f 6 = _ := h6
                rw [h6]
                go_wp2_with (fail)
                exact CalmQ.mk rfl _ rfl (Below.refl _ _) rfl
              refine AllCalm.cons (fun W hB hd => ?_) ?_
              · obtain ⟨h7, -⟩ := hd
                have h7 : f 7 = _ := h7
                rw [h7]
                go_wp2_with (fail)
                exact CalmQ.mk rfl _ rfl (Below.refl _ _) rfl
              refine AllCalm.cons (fun W hB hd => ?_) ?_
              · obtain ⟨h8, h7, -⟩ := hd
                have h8 : f 8 = _ := h8
                have h7 : f 7 = _ := h7
                rw [h8, h7]
                go_wp2_with (fail)
                exact CalmQ.mk rfl _ rfl (Below.refl _ _) rfl
              refine AllCalm.cons (fun W hB hd => ?_) ?_
              · obtain ⟨h9, h7, -⟩ := hd
                have h9 : f 9 = _ := h9
                have h7 : f 7 = _ := h7
                rw [h9, h7]
                go_wp2_with (fail)
                exact CalmQ.mk rfl _ rfl (Below.refl _ _) rfl
              refine AllCalm.cons (fun W hB hd => ?_) ?_
              · obtain ⟨h10, h7, -⟩ := hd
                have h10 : f 10 = _ := h10
                have h7 : f 7 = _ := h7
                rw [h10, h7]
                go_wp2_with (fail)
                exact CalmQ.mk rfl _ rfl (Below.refl _ _) rfl
              refine AllCalm.cons (fun W hB hd => ?_) ?_
              · obtain ⟨h7, -⟩ := hd
                have h7 : f 7 = _ := h7
                rw [h7]
                go_wp2_with (fail)
                exact CalmQ.mk rfl _ rfl (Below.refl _ _) rfl
              refine AllCalm.cons (fun W hB hd => ?_) ?_
              · obtain ⟨h11, h12, h7, -⟩ := hd
                have h11 : f 11 = _ := h11
                have h12 : f 12 = _ := h12
                have h7 : f 7 = _ := h7
                rw [h11, h12, h7]
                go_wp2_with (fail)
                exact CalmQ.mk rfl _ rfl (Below.refl _ _) rfl
              refine AllCalm.cons (fun W hB hd => ?_) ?_
              · obtain ⟨h13, h7, -⟩ := hd
                have h13 : f 13 = _ := h13
                have h7 : f 7 = _ := h7
                rw [h13, h7]
                go_wp2_with (fail)
                exact CalmQ.mk rfl _ rfl (Below.refl _ _) rfl
              refine AllCalm.cons (fun W hB hd => ?_) ?_
              · obtain ⟨h7, -⟩ := hd
                have h7 : f 7 = _ := h7
                rw [h7]
                go_wp2_with (fail)
                exact CalmQ.mk rfl _ rfl (Below.refl _ _) rfl
              refine AllCalm.cons (fun W hB hd => ?_) ?_
              · obtain ⟨h15, h7, -⟩ := hd
                have h15 : f 15 = _ := h15
                have h7 : f 7 = _ := h7
                rw [h15, h7]
                go_wp2_with (fail)
                exact CalmQ.mk rfl _ rfl (Below.refl _ _) rfl
              refine AllCalm.cons (fun W hB hd => ?_) ?_
              · obtain ⟨h16, h7, -⟩ := hd
                have h16 : f 16 = _ := h16
                have h7 : f 7 = _ := h7
                rw [h16, h7]
                go_wp2_with (fail)
                exact CalmQ.mk rfl _ rfl (Below.refl _ _) rfl
              refine AllCalm.cons (fun W hB hd => ?_) ?_
              · obtain ⟨h17, h7, -⟩ := hd
                have h17 : f 17 = _ := h17
                have h7 : f 7 = _ := h7
                rw [h17, h7]
                go_wp2_with (fail)
                exact CalmQ.mk rfl _ rfl (Below.refl _ _) rfl
              refine AllCalm.cons (fun W hB hd => ?_) ?_
              · obtain ⟨h7, -⟩ := hd
                have h7 : f 7 = _ := h7
                rw [h7]
                go_wp2_with (fail)
                exact CalmQ.mk rfl _ rfl (Below.refl _ _) rfl
              refine AllCalm.cons (fun W hB hd => ?_) ?_
              · obtain ⟨h18, h19, h7, -⟩ := hd
                have h18 : f 18 = _ := h18
                have h19 : f 19 = _ := h19
                have h7 : f 7 = _ := h7
                rw [h18, h19, h7]
                go_wp2_with (fail)
                exact CalmQ.mk rfl _ rfl (Below.refl _ _) rfl
              refine AllCalm.cons (fun W hB hd => ?_) ?_
              · obtain ⟨h20, h7, -⟩ := hd
                have h20 : f 20 = _ := h20
                have h7 : f 7 = _ := h7
                rw [h20, h7]
                go_wp2_with (fail)
                exact CalmQ.mk rfl _ rfl (Below.refl _ _) rfl
              refine AllCalm.cons (fun W hB hd => ?_) ?_
              · obtain ⟨h14, h21, h7, -, -⟩ := hd
                have h14 : f 14 = _ := h14
                have h21 : f 21 = _ := h21
                have h7 : f 7 = _ := h7
                rw [h14, h21, h7]
                go_wp2_with (fail)
                exact CalmQ.mk rfl _ rfl (Below.refl _ _) rfl
              refine AllCalm.cons (fun W hB hd => ?_) ?_
              · obtain ⟨h7, h22, -⟩ := hd
                have h7 : f 7 = _ := h7
                have h22 : f 22 = _ := h22
                rw [h7, h22]
                go_wp2_with (fail)
                exact CalmQ.mk rfl _ rfl (Below.refl _ _) rfl
              exact AllCalm.nil
            · intro W hB hT
              obtain ⟨h0, h1, h2, h3, h4, h5, h6, h7, h8, h9, h10, h11, h12, h13, h14, h15, h16, h17, h18, h19, h20, h21, h22, h23, -⟩ := hT
              have h0 : f 0 = _ := h0
              have h1 : f 1 = _ := h1
              have h2 : f 2 = _ := h2
              have h3 : f 3 = _ := h3
              have h4 : f 4 = _ := h4
              have h5 : f 5 = _ := h5
              have h6 : f 6 = _ := h6
              have h7 : f 7 = _ := h7
              have h8 : f 8 = _ := h8
              have h9 : f 9 = _ := h9
              have h10 : f 10 = _ := h10
              have h11 : f 11 = _ := h11
              have h12 : f 12 = _ := h12
              have h13 : f 13 = _ := h13
              have h14 : f 14 = _ := h14
              have h15 : f 15 = _ := h15
              have h16 : f 16 = _ := h16
              have h17 : f 17 = _ := h17
              have h18 : f 18 = _ := h18
              have h19 : f 19 = _ := h19
              have h20 : f 20 = _ := h20
              have h21 : f 21 = _ := h21
              have h22 : f 22 = _ := h22
              have h23 : f 23 = _ := h23
              rw [h0, h1, h2, h3, h4, h5, h6, h7, h8, h9, h10, h11, h12, h13, h14, h15, h16, h17, h18, h19, h20, h21, h22, h23]
              clear h0 h1 h2 h3 h4 h5 h6 h7 h8 h9 h10 h11 h12 h13 h14 h15 h16 h17 h18 h19 h20 h21 h22 h23
              skip
              go_wp2
              exact ⟨⟨0 + 1, by omega, rfl, by rw [HNE.out, hm'.out], hbw.trans (hB.mono hbw.size)⟩, by simp [intOf]⟩
        · have hsp := lst_step (H := H') (i := k) (t := 1) (by omega)
          have hno := lst_none (H := H') (i := k) (t := 1) (by omega)
          have hlt := lst_lt (H := H') (i := k) (t := 1) (by omega)
          obtain ⟨d, hd⟩ : ∃ d : Nat, d = 2 * k + 1 + 1 := ⟨_, rfl⟩
          have hdx : 2 * (k : Int) + 2 = ((d : Nat) : Int) := by omega
          rw [← hd] at hsp hno
          generalize lst H' k 1 = m at *
          generalize hne : lst H' k (1 + 1) = m' at *
          have HNE := Lib.hid hne
          clear hne hd
          have hx := (idx2 (2 * (k : Int) + 1) (2 * (k : Int) + 2) 1).2 rfl
          have hx0 := Lib.hid hx
          rw [hdx] at hx
          have hF : ∀ W, Below wr.heap.size wr W → W.cell? ⟨X, 0, none⟩ = some (.slice (some ⟨g, 0, none⟩) H.length c) ∧ (d < H.length → W.cell? ⟨g, d * 2, none⟩ = some (.int .i64 (pl H' d).1) ∧ W.cell? ⟨g, d * 2 + 1, none⟩ = some (.int .i64 (pl H' d).2)) ∧ W.cell? ⟨g, m * 2, none⟩ = some (.int .i64 (pl H' m).1) ∧ W.cell? ⟨g, m * 2 + 1, none⟩ = some (.int .i64 (pl H' m).2) := by
            intro W hW
            have hW' := hn.below (hbw.trans (hW.mono hbw.size))
            rw [← hlen] at hW' ⊢
            exact ⟨hW'.mem.cell 0, fun h => hW'.cells h, hW'.cells (by omega)⟩
          rw [hlen] at hsp hno hlt
          have hah := fun W => ahead_any (pl H' d) (pl H' m) W
          have hmx : (m : Int) < (H.length : Int) := by omega
          have HSP := Lib.hid hsp
          have HNO := Lib.hid hno
          clear hsp hno
          by_cases hdl : d < H.length
          · have hdlx : (d : Int) < (H.length : Int) := by omega
            have hF1 := fun W hW => (hF W hW).1
            have hF2 := fun W hW => (hF W hW).2.1 hdl
            have hF3 := fun W hW => (hF W hW).2.2
            clear hF
            generalize pl H' d = pa at *
            generalize pl H' m = pb at *
            obtain ⟨a1, a2⟩ := pa
            obtain ⟨b1, b2⟩ := pb
            simp only at hF2 hF3 hah
            rcases hq : ah (a1, a2) (b1, b2) with _ | _
            · rw [hq] at hah
              have hm' : Hid (m' = m) := Lib.hid (by rw [HSP.out hdl, if_neg (by rw [hq]; simp)])
              clear hq
              go_wp2
              apply calm_region [.is _, .is _, .is _, .is _, .is _, .is _, .is _, .is _, .is _, .is _, .is _, .is _, .is _, .is _, .is _, .is _, .is _, .is _, .is _, .is _, .is _, .is _, .is _, .is _] [[], [], [1], [2], [3], [4], [0, 5], [6], [7], [8, 7], [9, 7], [10, 7], [7], [11, 12, 7], [13, 7], [7], [15, 7], [16, 7], [17, 7], [7], [18, 19, 7], [20, 7], [14, 21, 7, 7], [7, 22]] (by kernel_rfl) (by kernel_rfl) (by kernel_rfl) rfl
              intro f a1 ha1
              simp only [putL, Act.put, List.setIfInBounds_toArray, List.set_cons_succ, List.set_cons_zero] at ha1
              subst ha1
              refine ⟨?_, ?_⟩
              · refine AllCalm.cons (fun W hB hd => ?_) ?_
                · go_wp2_with (fail)
                  exact CalmQ.mk rfl _ rfl (Below.refl _ _) rfl
                refine AllCalm.cons (fun W hB hd => ?_) ?_
                · go_wp2_with (fail)
                  exact CalmQ.mk rfl _ rfl (Below.refl _ _) rfl
                refine AllCalm.cons (fun W hB hd => ?_) ?_
                · obtain ⟨h1, -⟩ := hd
                  have h1 : f 1 = _ := h1
                  rw [h1]
                  go_wp2_with (fail)
                  exact CalmQ.mk rfl _ rfl (Below.refl _ _) rfl
                refine AllCalm.cons (fun W hB hd => ?_) ?_
                · obtain ⟨h2, -⟩ := hd
                  have h2 : f 2 = _ := h2
                  rw [h2]
                  go_wp2_with (fail)
                  exact CalmQ.mk rfl _ rfl (Below.refl _ _) rfl
                refine AllCalm.cons (fun W hB hd => ?_) ?_
                · obtain ⟨h3, -⟩ := hd
                  have h3 : f 3 = _ := h3
                  rw [h3]
                  have kx := hF1 W hB
                  go_wp2_with (fail)
                  exact CalmQ.mk rfl _ rfl (Below.refl _ _) rfl
                refine AllCalm.cons (fun W hB hd => ?_) ?_
                · obtain ⟨h4, -⟩ := hd
                  have h4 : f 4 = _ := h4
                  rw [h4]
                  go_wp2_with (fail)
                  exact CalmQ.mk rfl _ rfl (Below.refl _ _) rfl
                refine AllCalm.cons (fun W hB hd => ?_) ?_
                · obtain ⟨h0, h5, -⟩ := hd
                  have h0 : f 0 = _ := h0
                  have h5 : f 5 = _ := h5
                  rw [h0, h5]
                  go_wp2_with (fail)
                  exact CalmQ.mk rfl _ rfl (Below.refl _ _) rfl
                refine AllCalm.cons (fun W hB hd => ?_) ?_
                · obtain ⟨h6, -⟩ := hd
                  have h6 : f 6 = _ := h6
                  rw [h6]
                  go_wp2_with (fail)
                  exact CalmQ.mk rfl _ rfl (Below.refl _ _) rfl
                refine AllCalm.cons (fun W hB hd => ?_) ?_
                · obtain ⟨h7, -⟩ := hd
                  have h7 : f 7 = _ := h7
                  rw [h7]
                  go_wp2_with (fail)
                  exact CalmQ.mk rfl _ rfl (Below.refl _ _) rfl
                refine AllCalm.cons (fun W hB hd => ?_) ?_
                · obtain ⟨h8, h7, -⟩ := hd
                  have h8 : f 8 = _ := h8
                  have h7 : f 7 = _ := h7
                  rw [h8, h7]
                  go_wp2_with (fail)
                  exact CalmQ.mk rfl _ rfl (Below.refl _ _) rfl
                refine AllCalm.cons (fun W hB hd => ?_) ?_
                · obtain ⟨h9, h7, -⟩ := hd
                  have h9 : f 9 = _ := h9
                  have h7 : f 7 = _ := h7
                  rw [h9, h7]
                  go_wp2_with (fail)
                  exact CalmQ.mk rfl _ rfl (Below.refl _ _) rfl
                refine AllCalm.cons (fun W hB hd => ?_) ?_
                · obtain ⟨h10, h7, -⟩ := hd
                  have h10 : f 10 = _ := h10
                  have h7 : f 7 = _ := h7
                  rw [h10, h7]
                  have kx := hF1 W hB
                  go_wp2_with (fail)
                  exact CalmQ.mk rfl _ rfl (Below.refl _ _) rfl
                refine AllCalm.cons (fun W hB hd => ?_) ?_
                · obtain ⟨h7, -⟩ := hd
                  have h7 : f 7 = _ := h7
                  rw [h7]
                  go_wp2_with (fail)
                  exact CalmQ.mk rfl _ rfl (Below.refl _ _) rfl
                refine AllCalm.cons (fun W hB hd => ?_) ?_
                · obtain ⟨h11, h12, h7, -⟩ := hd
                  have h11 : f 11 = _ := h11
                  have h12 : f 12 = _ := h12
                  have h7 : f 7 = _ := h7
                  rw [h11, h12, h7]
                  go_wp2_with (fail)
                  exact CalmQ.mk rfl _ rfl (Below.refl _ _) rfl
                refine AllCalm.cons (fun W hB hd => ?_) ?_
                · obtain ⟨h13, h7, -⟩ := hd
                  have h13 : f 13 = _ := h13
                  have h7 : f 7 = _ := h7
                  rw [h13, h7]
                  have kx := hF2 W hB
                  go_wp2_with (fail)
                  exact CalmQ.mk rfl _ rfl (Below.refl _ _) rfl
                refine AllCalm.cons (fun W hB hd => ?_) ?_
                · obtain ⟨h7, -⟩ := hd
                  have h7 : f 7 = _ := h7
                  rw [h7]
                  go_wp2_with (fail)
                  exact CalmQ.mk rfl _ rfl (Below.refl _ _) rfl
                refine AllCalm.cons (fun W hB hd => ?_) ?_
                · obtain ⟨h15, h7, -⟩ := hd
                  have h15 : f 15 = _ := h15
                  have h7 : f 7 = _ := h7
                  rw [h15, h7]
                  go_wp2_with (fail)
                  exact CalmQ.mk rfl _ rfl (Below.refl _ _) rfl
                refine AllCalm.cons (fun W hB hd => ?_) ?_
                · obtain ⟨h16, h7, -⟩ := hd
                  have h16 : f 16 = _ := h16
                  have h7 : f 7 = _ := h7
                  rw [h16, h7]
                  go_wp2_with (fail)
                  exact CalmQ.mk rfl _ rfl (Below.refl _ _) rfl
                refine AllCalm.cons (fun W hB hd => ?_) ?_
                · obtain ⟨h17, h7, -⟩ := hd
                  have h17 : f 17 = _ := h17
                  have h7 : f 7 = _ := h7
                  rw [h17, h7]
                  have kx := hF1 W hB
                  go_wp2_with (fail)
                  exact CalmQ.mk rfl _ rfl (Below.refl _ _) rfl
                refine AllCalm.cons (fun W hB hd => ?_) ?_
                · obtain ⟨h7, -⟩ := hd
                  have h7 : f 7 = _ := h7
                  rw [h7]
                  go_wp2_with (fail)
                  exact CalmQ.mk rfl _ rfl (Below.refl _ _) rfl
                refine AllCalm.cons (fun W hB hd => ?_) ?_
                · obtain ⟨h18, h19, h7, -⟩ := hd
                  have h18 : f 18 = _ := h18
                  have h19 : f 19 = _ := h19
                  have h7 : f 7 = _ := h7
                  rw [h18, h19, h7]
                  go_wp2_with (fail)
                  exact CalmQ.mk rfl _ rfl (Below.refl _ _) rfl
                refine AllCalm.cons (fun W hB hd => ?_) ?_
                · obtain ⟨h20, h7, -⟩ := hd
                  have h20 : f 20 = _ := h20
                  have h7 : f 7 = _ := h7
                  rw [h20, h7]
                  have kx := hF3 W hB
                  go_wp2_with (fail)
                  exact CalmQ.mk rfl _ rfl (Below.refl _ _) rfl
                refine AllCalm.cons (fun W hB hd => ?_) ?_
                · obtain ⟨h14, h21, h7, -, -⟩ := hd
                  have h14 : f 14 = _ := h14
                  have h21 : f 21 = _ := h21
                  have h7 : f 7 = _ := h7
                  rw [h14, h21, h7]
                  go_wp2_with ((go_at_call 35; (with_reducible refine (hah W).mono ?_); rintro e w5 ⟨rfl, hb5⟩))
                  exact CalmQ.mk rfl _ rfl hb5 rfl
                refine AllCalm.cons (fun W hB hd => ?_) ?_
                · obtain ⟨h7, h22, -⟩ := hd
                  have h7 : f 7 = _ := h7
                  have h22 : f 22 = _ := h22
                  rw [h7, h22]
                  go_wp2_with (fail)
                  exact CalmQ.mk rfl _ rfl (Below.refl _ _) rfl
                exact AllCalm.nil
              · intro W hB hT
                obtain ⟨h0, h1, h2, h3, h4, h5, h6, h7, h8, h9, h10, h11, h12, h13, h14, h15, h16, h17, h18, h19, h20, h21, h22, h23, -⟩ := hT
                have h0 : f 0 = _ := h0
                have h1 : f 1 = _ := h1
                have h2 : f 2 = _ := h2
                have h3 : f 3 = _ := h3
                have h4 : f 4 = _ := h4
                have h5 : f 5 = _ := h5
                have h6 : f 6 = _ := h6
                have h7 : f 7 = _ := h7
                have h8 : f 8 = _ := h8
                have h9 : f 9 = _ := h9
                have h10 : f 10 = _ := h10
                have h11 : f 11 = _ := h11
                have h12 : f 12 = _ := h12
                have h13 : f 13 = _ := h13
                have h14 : f 14 = _ := h14
                have h15 : f 15 = _ := h15
                have h16 : f 16 = _ := h16
                have h17 : f 17 = _ := h17
                have h18 : f 18 = _ := h18
                have h19 : f 19 = _ := h19
                have h20 : f 20 = _ := h20
                have h21 : f 21 = _ := h21
                have h22 : f 22 = _ := h22
                have h23 : f 23 = _ := h23
                rw [h0, h1, h2, h3, h4, h5, h6, h7, h8, h9, h10, h11, h12, h13, h14, h15, h16, h17, h18, h19, h20, h21, h22, h23]
                clear h0 h1 h2 h3 h4 h5 h6 h7 h8 h9 h10 h11 h12 h13 h14 h15 h16 h17 h18 h19 h20 h21 h22 h23
                skip
                go_wp2
                exact ⟨⟨1 + 1, by omega, rfl, by rw [HNE.out, hm'.out], hbw.trans (hB.mono hbw.size)⟩, by simp [intOf]⟩
            · rw [hq] at hah
              have hm' : Hid (m' = d) := Lib.hid (by rw [HSP.out hdl, if_pos hq])
              clear hq
              go_wp2
              apply calm_region [.is _, .is _, .is _, .is _, .is _, .is _, .is _, .is _, .is _, .is _, .is _, .is _, .is _, .is _, .is _, .is _, .is _, .is _, .is _, .is _, .is _, .is _, .is _, .is _] [[], [], [1], [2], [3], [4], [0, 5], [6], [7], [8, 7], [9, 7], [10, 7], [7], [11, 12, 7], [13, 7], [7], [15, 7], [16, 7], [17, 7], [7], [18, 19, 7], [20, 7], [14, 21, 7, 7], [7, 22]] (by kernel_rfl) (by kernel_rfl) (by kernel_rfl) rfl
              intro f a1 ha1
              simp only [putL, Act.put, List.setIfInBounds_toArray, List.set_cons_succ, List.set_cons_zero] at ha1
              subst ha1
              refine ⟨?_, ?_⟩
              · refine AllCalm.cons (fun W hB hd => ?_) ?_
                · go_wp2_with (fail)
                  exact CalmQ.mk rfl _ rfl (Below.refl _ _) rfl
                refine AllCalm.cons (fun W hB hd => ?_) ?_
                · go_wp2_with (fail)
                  exact CalmQ.mk rfl _ rfl (Below.refl _ _) rfl
                refine AllCalm.cons (fun W hB hd => ?_) ?_
                · obtain ⟨h1, -⟩ := hd
                  have h1 : f 1 = _ := h1
                  rw [h1]
                  go_wp2_with (fail)
                  exact CalmQ.mk rfl _ rfl (Below.refl _ _) rfl
                refine AllCalm.cons (fun W hB hd => ?_) ?_
                · obtain ⟨h2, -⟩ := hd
                  have h2 : f 2 = _ := h2
                  rw [h2]
                  go_wp2_with (fail)
                  exact CalmQ.mk rfl _ rfl (Below.refl _ _) rfl
                refine AllCalm.cons (fun W hB hd => ?_) ?_
                · obtain ⟨h3, -⟩ := hd
                  have h3 : f 3 = _ := h3
                  rw [h3]
                  have kx := hF1 W hB
                  go_wp2_with (fail)
                  exact CalmQ.mk rfl _ rfl (Below.refl _ _) rfl
                refine AllCalm.cons (fun W hB hd => ?_) ?_
                · obtain ⟨h4, -⟩ := hd
                  have h4 : f 4 = _ := h4
                  rw [h4]
                  go_wp2_with (fail)
                  exact CalmQ.mk rfl _ rfl (Below.refl _ _) rfl
                refine AllCalm.cons (fun W hB hd => ?_) ?_
                · obtain ⟨h0, h5, -⟩ := hd
                  have h0 : f 0 = _ := h0
                  have h5 : f 5 = _ := h5
                  rw [h0, h5]
                  go_wp2_with (fail)
                  exact CalmQ.mk rfl _ rfl (Below.refl _ _) rfl
                refine AllCalm.cons (fun W hB hd => ?_) ?_
                · obtain ⟨h6, -⟩ := hd
                  have h6 : f 6 = _ := h6
                  rw [h6]
                  go_wp2_with (fail)
                  exact CalmQ.mk rfl _ rfl (Below.refl _ _) rfl
                refine AllCalm.cons (fun W hB hd => ?_) ?_
                · obtain ⟨h7, -⟩ := hd
                  have h7 : f 7 = _ := h7
                  rw [h7]
                  go_wp2_with (fail)
                  exact CalmQ.mk rfl _ rfl (Below.refl _ _) rfl
                refine AllCalm.cons (fun W hB hd => ?_) ?_
                · obtain ⟨h8, h7, -⟩ := hd
                  have h8 : f 8 = _ := h8
                  have h7 : f 7 = _ := h7
                  rw [h8, h7]
                  go_wp2_with (fail)
                  exact CalmQ.mk rfl _ rfl (Below.refl _ _) rfl
                refine AllCalm.cons (fun W hB hd => ?_) ?_
                · obtain ⟨h9, h7, -⟩ := hd
                  have h9 : f 9 = _ := h9
                  have h7 : f 7 = _ := h7
                  rw [h9, h7]
                  go_wp2_with (fail)
                  exact CalmQ.mk rfl _ rfl (Below.refl _ _) rfl
                refine AllCalm.cons (fun W hB hd => ?_) ?_
                · obtain ⟨h10, h7, -⟩ := hd
                  have h10 : f 10 = _ := h10
                  have h7 : f 7 = _ := h7
                  rw [h10, h7]
                  have kx := hF1 W hB
                  go_wp2_with (fail)
                  exact CalmQ.mk rfl _ rfl (Below.refl _ _) rfl
                refine AllCalm.cons (fun W hB hd => ?_) ?_
                · obtain ⟨h7, -⟩ := hd
                  have h7 : f 7 = _ := h7
                  rw [h7]
                  go_wp2_with (fail)
                  exact CalmQ.mk rfl _ rfl (Below.refl _ _) rfl
                refine AllCalm.cons (fun W hB hd => ?_) ?_
                · obtain ⟨h11, h12, h7, -⟩ := hd
                  have h11 : f 11 = _ := h11
                  have h12 : f 12 = _ := h12
                  have h7 : f 7 = _ := h7
                  rw [h11, h12, h7]
                  go_wp2_with (fail)
                  exact CalmQ.mk rfl _ rfl (Below.refl _ _) rfl
                refine AllCalm.cons (fun W hB hd => ?_) ?_
                · obtain ⟨h13, h7, -⟩ := hd
                  have h13 : f 13 = _ := h13
                  have h7 : f 7 = _ := h7
                  rw [h13, h7]
                  have kx := hF2 W hB
                  go_wp2_with (fail)
                  exact CalmQ.mk rfl _ rfl (Below.refl _ _) rfl
                refine AllCalm.cons (fun W hB hd => ?_) ?_
                · obtain ⟨h7, -⟩ := hd
                  have h7 : f 7 = _ := h7
                  rw [h7]
                  go_wp2_with (fail)
                  exact CalmQ.mk rfl _ rfl (Below.refl _ _) rfl
                refine AllCalm.cons (fun W hB hd => ?_) ?_
                · obtain ⟨h15, h7, -⟩ := hd
                  have h15 : f 15 = _ := h15
                  have h7 : f 7 = _ := h7
                  rw [h15, h7]
                  go_wp2_with (fail)
                  exact CalmQ.mk rfl _ rfl (Below.refl _ _) rfl
                refine AllCalm.cons (fun W hB hd => ?_) ?_
                · obtain ⟨h16, h7, -⟩ := hd
                  have h16 : f 16 = _ := h16
                  have h7 : f 7 = _ := h7
                  rw [h16, h7]
                  go_wp2_with (fail)
                  exact CalmQ.mk rfl _ rfl (Below.refl _ _) rfl
                refine AllCalm.cons (fun W hB hd => ?_) ?_
                · obtain ⟨h17, h7, -⟩ := hd
                  have h17 : f 17 = _ := h17
                  have h7 : f 7 = _ := h7
                  rw [h17, h7]
                  have kx := hF1 W hB
                  go_wp2_with (fail)
                  exact CalmQ.mk rfl _ rfl (Below.refl _ _) rfl
                refine AllCalm.cons (fun W hB hd => ?_) ?_
                · obtain ⟨h7, -⟩ := hd
                  have h7 : f 7 = _ := h7
                  rw [h7]
                  go_wp2_with (fail)
                  exact CalmQ.mk rfl _ rfl (Below.refl _ _) rfl
                refine AllCalm.cons (fun W hB hd => ?_) ?_
                · obtain ⟨h18, h19, h7, -⟩ := hd
                  have h18 : f 18 = _ := h18
                  have h19 : f 19 = _ := h19
                  have h7 : f 7 = _ := h7
                  rw [h18, h19, h7]
                  go_wp2_with (fail)
                  exact CalmQ.mk rfl _ rfl (Below.refl _ _) rfl
                refine AllCalm.cons (fun W hB hd => ?_) ?_
                · obtain ⟨h20, h7, -⟩ := hd
                  have h20 : f 20 = _ := h20
                  have h7 : f 7 = _ := h7
                  rw [h20, h7]
                  have kx := hF3 W hB
                  go_wp2_with (fail)
                  exact CalmQ.mk rfl _ rfl (Below.refl _ _) rfl
                refine AllCalm.cons (fun W hB hd => ?_) ?_
                · obtain ⟨h14, h21, h7, -, -⟩ := hd
                  have h14 : f 14 = _ := h14
                  have h21 : f 21 = _ := h21
                  have h7 : f 7 = _ := h7
                  rw [h14, h21, h7]
                  go_wp2_with ((go_at_call 35; (with_reducible refine (hah W).mono ?_); rintro e w5 ⟨rfl, hb5⟩))
                  exact CalmQ.mk rfl _ rfl hb5 rfl
                refine AllCalm.cons (fun W hB hd => ?_) ?_
                · obtain ⟨h7, h22, -⟩ := hd
                  have h7 : f 7 = _ := h7
                  have h22 : f 22 = _ := h22
                  rw [h7, h22]
                  go_wp2_with (fail)
                  exact CalmQ.mk rfl _ rfl (Below.refl _ _) rfl
                exact AllCalm.nil
              · intro W hB hT
                obtain ⟨h0, h1, h2, h3, h4, h5, h6, h7, h8, h9, h10, h11, h12, h13, h14, h15, h16, h17, h18, h19, h20, h21, h22, h23, -⟩ := hT
                have h0 : f 0 = _ := h0
                have h1 : f 1 = _ := h1
                have h2 : f 2 = _ := h2
                have h3 : f 3 = _ := h3
                have h4 : f 4 = _ := h4
                have h5 : f 5 = _ := h5
                have h6 : f 6 = _ := h6
                have h7 : f 7 = _ := h7
                have h8 : f 8 = _ := h8
                have h9 : f 9 = _ := h9
                have h10 : f 10 = _ := h10
                have h11 : f 11 = _ := h11
                have h12 : f 12 = _ := h12
                have h13 : f 13 = _ := h13
                have h14 : f 14 = _ := h14
                have h15 : f 15 = _ := h15
                have h16 : f 16 = _ := h16
                have h17 : f 17 = _ := h17
                have h18 : f 18 = _ := h18
                have h19 : f 19 = _ := h19
                have h20 : f 20 = _ := h20
                have h21 : f 21 = _ := h21
                have h22 : f 22 = _ := h22
                have h23 : f 23 = _ := h23
                rw [h0, h1, h2, h3, h4, h5, h6, h7, h8, h9, h10, h11, h12, h13, h14, h15, h16, h17, h18, h19, h20, h21, h22, h23]
                clear h0 h1 h2 h3 h4 h5 h6 h7 h8 h9 h10 h11 h12 h13 h14 h15 h16 h17 h18 h19 h20 h21 h22 h23
                skip
                go_wp2
                exact ⟨⟨1 + 1, by omega, rfl, by rw [HNE.out, hm'.out]; try simp [hdx], hbw.trans (hB.mono hbw.size)⟩, by simp [intOf]⟩
          · have hdlx : ¬ 2 * (k : Int) + 2 < (H.length : Int) := by omega
            have hx := hx0.out
            clear hdx
            have hF1 := fun W hW => (hF W hW).1
            have hm' : Hid (m' = m) := Lib.hid (HNO.out hdl)
            clear hF hah
            go_wp2
            apply calm_region [.is _, .is _, .is _, .is _, .is _, .is _, .is _, .is _, .is _, .is _, .is _, .is _, .is _, .is _, .is _, .is _, .is _, .is _, .is _, .is _, .is _, .is _, .is _, .is _] [[], [], [1], [2], [3], [4], [0, 5], [6], [7], [8, 7], [9, 7], [10, 7], [7], [11, 12, 7], [13, 7], [7], [15, 7], [16, 7], [17, 7], [7], [18, 19, 7], [20, 7], [14, 21, 7, 7], [7, 22]] (by kernel_rfl) (by kernel_rfl) (by kernel_rfl) rfl
            intro f a1 ha1
            simp only [putL, Act.put, List.setIfInBounds_toArray, List.set_cons_succ, List.set_cons_zero] at ha1
            subst ha1
            refine ⟨?_, ?_⟩
            · refine AllCalm.cons (fun W hB hd => ?_) ?_
              · go_wp2_with (fail)
                exact CalmQ.mk rfl _ rfl (Below.refl _ _) rfl
              refine AllCalm.cons (fun W hB hd => ?_) ?_
              · go_wp2_with (fail)
                exact CalmQ.mk rfl _ rfl (Below.refl _ _) rfl
              refine AllCalm.cons (fun W hB hd => ?_) ?_
              · obtain ⟨h1, -⟩ := hd
                have h1 : f 1 = _ := h1
                rw [h1]
                go_wp2_with (fail)
                exact CalmQ.mk rfl _ rfl (Below.refl _ _) rfl
              refine AllCalm.cons (fun W hB hd => ?_) ?_
              · obtain ⟨h2, -⟩ := hd
                have h2 : f 2 = _ := h2
                rw [h2]
                go_wp2_with (fail)
                exact CalmQ.mk rfl _ rfl (Below.refl _ _) rfl
              refine AllCalm.cons (fun W hB hd => ?_) ?_
              · obtain ⟨h3, -⟩ := hd
                have h3 : f 3 = _ := h3
                rw [h3]
                have kx := hF1 W hB
                go_wp2_with (fail)
                exact CalmQ.mk rfl _ rfl (Below.refl _ _) rfl
              refine AllCalm.cons (fun W hB hd => ?_) ?_
              · obtain ⟨h4, -⟩ := hd
                have h4 : f 4 = _ := h4
                rw [h4]
                go_wp2_with (fail)
                exact CalmQ.mk rfl _ rfl (Below.refl _ _) rfl
              refine AllCalm.cons (fun W hB hd => ?_) ?_
              · obtain ⟨h0, h5, -⟩ := hd
                have h0 : f 0 = _ := h0
                have h5 : f 5 = _ := h5
                rw [h0, h5]
                go_wp2_with (fail)
                exact CalmQ.mk rfl _ rfl (Below.refl _ _) rfl
              refine AllCalm.cons (fun W hB hd => ?_) ?_
              · obtain ⟨h6, -⟩ := hd
                have h6 : f 6 = _ := h6
                rw [h6]
                go_wp2_with (fail)
                exact CalmQ.mk rfl _ rfl (Below.refl _ _) rfl
              refine AllCalm.cons (fun W hB hd => ?_) ?_
              · obtain ⟨h7, -⟩ := hd
                have h7 : f 7 = _ := h7
                rw [h7]
                go_wp2_with (fail)
                exact CalmQ.mk rfl _ rfl (Below.refl _ _) rfl
              refine AllCalm.cons (fun W hB hd => ?_) ?_
              · obtain ⟨h8, h7, -⟩ := hd
                have h8 : f 8 = _ := h8
                have h7 : f 7 = _ := h7
                rw [h8, h7]
                go_wp2_with (fail)
                exact CalmQ.mk rfl _ rfl (Below.refl _ _) rfl
              refine AllCalm.cons (fun W hB hd => ?_) ?_
              · obtain ⟨h9, h7, -⟩ := hd
                have h9 : f 9 = _ := h9
                have h7 : f 7 = _ := h7
                rw [h9, h7]
                go_wp2_with (fail)
                exact CalmQ.mk rfl _ rfl (Below.refl _ _) rfl
              refine AllCalm.cons (fun W hB hd => ?_) ?_
              · obtain ⟨h10, h7, -⟩ := hd
                have h10 : f 10 = _ := h10
                have h7 : f 7 = _ := h7
                rw [h10, h7]
                go_wp2_with (fail)
                exact CalmQ.mk rfl _ rfl (Below.refl _ _) rfl
              refine AllCalm.cons (fun W hB hd => ?_) ?_
              · obtain ⟨h7, -⟩ := hd
                have h7 : f 7 = _ := h7
                rw [h7]
                go_wp2_with (fail)
                exact CalmQ.mk rfl _ rfl (Below.refl _ _) rfl
              refine AllCalm.cons (fun W hB hd => ?_) ?_
              · obtain ⟨h11, h12, h7, -⟩ := hd
                have h11 : f 11 = _ := h11
                have h12 : f 12 = _ := h12
                have h7 : f 7 = _ := h7
                rw [h11, h12, h7]
                go_wp2_with (fail)
                exact CalmQ.mk rfl _ rfl (Below.refl _ _) rfl
              refine AllCalm.cons (fun W hB hd => ?_) ?_
              · obtain ⟨h13, h7, -⟩ := hd
                have h13 : f 13 = _ := h13
                have h7 : f 7 = _ := h7
                rw [h13, h7]
                go_wp2_with (fail)
                exact CalmQ.mk rfl _ rfl (Below.refl _ _) rfl
              refine AllCalm.cons (fun W hB hd => ?_) ?_
              · obtain ⟨h7, -⟩ := hd
                have h7 : f 7 = _ := h7
                rw [h7]
                go_wp2_with (fail)
                exact CalmQ.mk rfl _ rfl (Below.refl _ _) rfl
              refine AllCalm.cons (fun W hB hd => ?_) ?_
              · obtain ⟨h15, h7, -⟩ := hd
                have h15 : f 15 = _ := h15
                have h7 : f 7 = _ := h7
                rw [h15, h7]
                go_wp2_with (fail)
                exact CalmQ.mk rfl _ rfl (Below.refl _ _) rfl
              refine AllCalm.cons (fun W hB hd => ?_) ?_
              · obtain ⟨h16, h7, -⟩ := hd
                have h16 : f 16 = _ := h16
                have h7 : f 7 = _ := h7
                rw [h16, h7]
                go_wp2_with (fail)
                exact CalmQ.mk rfl _ rfl (Below.refl _ _) rfl
              refine AllCalm.cons (fun W hB hd => ?_) ?_
              · obtain ⟨h17, h7, -⟩ := hd
                have h17 : f 17 = _ := h17
                have h7 : f 7 = _ := h7
                rw [h17, h7]
                go_wp2_with (fail)
                exact CalmQ.mk rfl _ rfl (Below.refl _ _) rfl
              refine AllCalm.cons (fun W hB hd => ?_) ?_
              · obtain ⟨h7, -⟩ := hd
                have h7 : f 7 = _ := h7
                rw [h7]
                go_wp2_with (fail)
                exact CalmQ.mk rfl _ rfl (Below.refl _ _) rfl
              refine AllCalm.cons (fun W hB hd => ?_) ?_
              · obtain ⟨h18, h19, h7, -⟩ := hd
                have h18 : f 18 = _ := h18
                have h19 : f 19 = _ := h19
                have h7 : f 7 = _ := h7
                rw [h18, h19, h7]
                go_wp2_with (fail)
                exact CalmQ.mk rfl _ rfl (Below.refl _ _) rfl
              refine AllCalm.cons (fun W hB hd => ?_) ?_
              · obtain ⟨h20, h7, -⟩ := hd
                have h20 : f 20 = _ := h20
                have h7 : f 7 = _ := h7
                rw [h20, h7]
                go_wp2_with (fail)
                exact CalmQ.mk rfl _ rfl (Below.refl _ _) rfl
              refine AllCalm.cons (fun W hB hd => ?_) ?_
              · obtain ⟨h14, h21, h7, -, -⟩ := hd
                have h14 : f 14 = _ := h14
                have h21 : f 21 = _ := h21
                have h7 : f 7 = _ := h7
                rw [h14, h21, h7]
                go_wp2_with (fail)
                exact CalmQ.mk rfl _ rfl (Below.refl _ _) rfl
              refine AllCalm.cons (fun W hB hd => ?_) ?_
              · obtain ⟨h7, h22, -⟩ := hd
                have h7 : f 7 = _ := h7
                have h22 : f 22 = _ := h22
                rw [h7, h22]
                go_wp2_with (fail)
                exact CalmQ.mk rfl _ rfl (Below.refl _ _) rfl
              exact AllCalm.nil
            · intro W hB hT
              obtain ⟨h0, h1, h2, h3, h4, h5, h6, h7, h8, h9, h10, h11, h12, h13, h14, h15, h16, h17, h18, h19, h20, h21, h22, h23, -⟩ := hT
              have h0 : f 0 = _ := h0
              have h1 : f 1 = _ := h1
              have h2 : f 2 = _ := h2
              have h3 : f 3 = _ := h3
              have h4 : f 4 = _ := h4
              have h5 : f 5 = _ := h5
              have h6 : f 6 = _ := h6
              have h7 : f 7 = _ := h7
              have h8 : f 8 = _ := h8
              have h9 : f 9 = _ := h9
              have h10 : f 10 = _ := h10
              have h11 : f 11 = _ := h11
              have h12 : f 12 = _ := h12
              have h13 : f 13 = _ := h13
              have h14 : f 14 = _ := h14
              have h15 : f 15 = _ := h15
              have h16 : f 16 = _ := h16
              have h17 : f 17 = _ := h17
              have h18 : f 18 = _ := h18
              have h19 : f 19 = _ := h19
              have h20 : f 20 = _ := h20
              have h21 : f 21 = _ := h21
              have h22 : f 22 = _ := h22
              have h23 : f 23 = _ := h23
              rw [h0, h1, h2, h3, h4, h5, h6, h7, h8, h9, h10, h11, h12, h13, h14, h15, h16, h17, h18, h19, h20, h21, h22, h23]
              clear h0 h1 h2 h3 h4 h5 h6 h7 h8 h9 h10 h11 h12 h13 h14 h15 h16 h17 h18 h19 h20 h21 h22 h23
              skip
              go_wp2
              exact ⟨⟨1 + 1, by omega, rfl, by rw [HNE.out, hm'.out], hbw.trans (hB.mono hbw.size)⟩, by simp [intOf]⟩
      · obtain rfl : t = 2 := by omega
        have e2 : lst H' k 2 = least H' k := rfl
        have hmlt := lst_lt (H := H') (i := k) (t := 2) (by omega)
        rw [e2] at hmlt ⊢
        have hstop := HP.out.2.stop (by omega)
        have hsink := HP.out.2.sink (by omega)
        have hsw := fun h => swap_perm (H := H') (i := k) (j := least H' k) (by omega) h
        have hsl := swap_len H' k (least H' k)
        have HS : Hid (∀ x y : One, x = pl H' (least H' k) → y = pl H' k → (H'.set k x).set (least H' k) y = swap H' k (least H' k)) := Lib.hid fun x y h1 h2 => by subst h1; subst h2; rfl
        clear e2
        generalize least H' k = m at *
        have hmx : (m : Int) < (H.length : Int) := by omega
        have HST := Lib.hid hstop
        have HSI := Lib.hid hsink
        have HSW := Lib.hid hsw
        have HSL := Lib.hid hsl
        clear hstop hsink hsw hsl
        by_cases hmk : m = k
        · subst hmk
          go_wp2
          refine bodyPost_ret (v := .tuple #[]) (by simp [results, Try.results34, go_sem]) rfl ?_
          exact ⟨rfl, H', HP.out.1, HST.out (by trivial), hn.below hbw, he.trans (Eff.of (S := TS X (.slice (some ⟨g, 0, none⟩) H.length c)) hbw) fun _ _ h => h⟩
        · have hmk' : ¬ (m : Int) = (k : Int) := by omega
          have hF : ∀ W, Below wr.heap.size wr W → W.cell? ⟨X, 0, none⟩ = some (.slice (some ⟨g, 0, none⟩) H.length c) ∧ (W.cell? ⟨g, k * 2, none⟩ = some (.int .i64 (pl H' k).1) ∧ W.cell? ⟨g, k * 2 + 1, none⟩ = some (.int .i64 (pl H' k).2)) ∧ W.cell? ⟨g, m * 2, none⟩ = some (.int .i64 (pl H' m).1) ∧ W.cell? ⟨g, m * 2 + 1, none⟩ = some (.int .i64 (pl H' m).2) := by
            intro W hW
            have hW' := hn.below (hbw.trans (hW.mono hbw.size))
            rw [← hlen] at hW' ⊢
            exact ⟨hW'.mem.cell 0, hW'.cells (by omega), hW'.cells (by omega)⟩
          have hn2 := hn.below hbw
          have he2 := he.trans (Eff.of (S := TS X (.slice (some ⟨g, 0, none⟩) H.length c)) hbw) fun _ _ h => h
          clear hn he hbw
          generalize pl H' k = pa at *
          generalize pl H' m = pb at *
          obtain ⟨a1, a2⟩ := pa
          obtain ⟨b1, b2⟩ := pb
          simp only at hF
          generalize wr = Wo at *
          have hdr : Below Wo.heap.size Wo Wo.drew := (Below.refl _ _).drew
          go_wp2
          refine wp_region_any (by kernel_rfl) ?_
          change wpAny _ _ _ _ _ _ _ (World.drew _)
          refine wpAny_take (i := 9) (oi := { dst := some 56, op := Op.move (Operand.tmp 4), type := 3, pos := "timer.go:59", after := #[{ on := 25, ground := Ground.gcOnly Departure.lateStores }], guard := none }) (v := (.int .i64 (m : Nat))) rfl (by kernel_rfl) (by kernel_rfl) (by kernel_rfl) (fun _ _ _ h => h) (Or.inl ⟨by rfl, by intro w; go_simp⟩) ?_
          try dsimp only [Act.put]
          try simp only [List.setIfInBounds_toArray, List.set_cons_succ, List.set_cons_zero]
          apply calm_tailK 24 [9] [.is _, .is _, .is _, .is _, .is _, .is _, .is _, .is _, .is _, .is (.int .i64 (m : Nat)), .is _, .is _, .is _, .is _, .is _, .is _, .is _, .is _, .is _, .is _, .is _, .is _, .is _, .is _] [[], [0], [1], [2], [], [], [5], [6], [7], [], [], [10], [11], [12], [], [13, 14], [15], [], [17], [18], [19], [], [20, 21], [22]] (by kernel_rfl) (by kernel_rfl) rfl (by decide) (by intro i hi o ho; obtain rfl := List.mem_singleton.1 hi; obtain rfl := Option.some.inj ho; exact rfl)
          intro f a1 ha1
          simp only [List.take_succ_cons, List.take_zero, putL, Act.put, List.setIfInBounds_toArray, List.set_cons_succ, List.set_cons_zero] at ha1
          subst ha1
          refine ⟨?_, ?_⟩
          · refine AllCalm.cons (fun W hB hd => ?_) ?_
            · go_wp2_with (fail)
              exact CalmQ.mk rfl _ rfl (Below.refl _ _) rfl
            refine AllCalm.cons (fun W hB hd => ?_) ?_
            · obtain ⟨h0, -⟩ := hd
              have h0 : f 0 = _ := h0
              rw [h0]
              go_wp2_with (fail)
              exact CalmQ.mk rfl _ rfl (Below.refl _ _) rfl
            refine AllCalm.cons (fun W hB hd => ?_) ?_
            · obtain ⟨h1, -⟩ := hd
              have h1 : f 1 = _ := h1
              rw [h1]
              go_wp2_with (fail)
              exact CalmQ.mk rfl _ rfl (Below.refl _ _) rfl
            refine AllCalm.cons (fun W hB hd => ?_) ?_
            · obtain ⟨h2, -⟩ := hd
              have h2 : f 2 = _ := h2
              rw [h2]
              have kx := (hF W (hdr.trans (hB.mono hdr.size))).1
              go_wp2_with (fail)
              exact CalmQ.mk rfl _ rfl (Below.refl _ _) rfl
            refine AllCalm.cons (fun W hB hd => ?_) ?_
            · go_wp2_with (fail)
              exact CalmQ.mk rfl _ rfl (Below.refl _ _) rfl
            refine AllCalm.cons (fun W hB hd => ?_) ?_
            · go_wp2_with (fail)
              exact CalmQ.mk rfl _ rfl (Below.refl _ _) rfl
            refine AllCalm.cons (fun W hB hd => ?_) ?_
            · obtain ⟨h5, -⟩ := hd
              have h5 : f 5 = _ := h5
              rw [h5]
              go_wp2_with (fail)
              exact CalmQ.mk rfl _ rfl (Below.refl _ _) rfl
            refine AllCalm.cons (fun W hB hd => ?_) ?_
            · obtain ⟨h6, -⟩ := hd
              have h6 : f 6 = _ := h6
              rw [h6]
              go_wp2_with (fail)
              exact CalmQ.mk rfl _ rfl (Below.refl _ _) rfl
            refine AllCalm.cons (fun W hB hd => ?_) ?_
            · obtain ⟨h7, -⟩ := hd
              have h7 : f 7 = _ := h7
              rw [h7]
              have kx := (hF W (hdr.trans (hB.mono hdr.size))).1
              go_wp2_with (fail)
              exact CalmQ.mk rfl _ rfl (Below.refl _ _) rfl
            refine AllCalm.cons (fun W hB hd => ?_) ?_
            · go_wp2_with (fail)
              exact CalmQ.mk rfl _ rfl (Below.refl _ _) rfl
            refine AllCalm.cons (fun W hB hd => ?_) ?_
            · go_wp2_with (fail)
              exact CalmQ.mk rfl _ rfl (Below.refl _ _) rfl
            refine AllCalm.cons (fun W hB hd => ?_) ?_
            · obtain ⟨h10, -⟩ := hd
              have h10 : f 10 = _ := h10
              rw [h10]
              go_wp2_with (fail)
              exact CalmQ.mk rfl _ rfl (Below.refl _ _) rfl
            refine AllCalm.cons (fun W hB hd => ?_) ?_
            · obtain ⟨h11, -⟩ := hd
              have h11 : f 11 = _ := h11
              rw [h11]
              go_wp2_with (fail)
              exact CalmQ.mk rfl _ rfl (Below.refl _ _) rfl
            refine AllCalm.cons (fun W hB hd => ?_) ?_
            · obtain ⟨h12, -⟩ := hd
              have h12 : f 12 = _ := h12
              rw [h12]
              have kx := (hF W (hdr.trans (hB.mono hdr.size))).1
              go_wp2_with (fail)
              exact CalmQ.mk rfl _ rfl (Below.refl _ _) rfl
            refine AllCalm.cons (fun W hB hd => ?_) ?_
            · go_wp2_with (fail)
              exact CalmQ.mk rfl _ rfl (Below.refl _ _) rfl
            refine AllCalm.cons (fun W hB hd => ?_) ?_
            · obtain ⟨h13, h14, -⟩ := hd
              have h13 : f 13 = _ := h13
              have h14 : f 14 = _ := h14
              rw [h13, h14]
              go_wp2_with (fail)
              exact CalmQ.mk rfl _ rfl (Below.refl _ _) rfl
            refine AllCalm.cons (fun W hB hd => ?_) ?_
            · obtain ⟨h15, -⟩ := hd
              have h15 : f 15 = _ := h15
              rw [h15]
              have kx := (hF W (hdr.trans (hB.mono hdr.size))).2.2
              go_wp2_with (fail)
              exact CalmQ.mk rfl _ rfl (Below.refl _ _) rfl
            refine AllCalm.cons (fun W hB hd => ?_) ?_
            · go_wp2_with (fail)
              exact CalmQ.mk rfl _ rfl (Below.refl _ _) rfl
            refine AllCalm.cons (fun W hB hd => ?_) ?_
            · obtain ⟨h17, -⟩ := hd
              have h17 : f 17 = _ := h17
              rw [h17]
              go_wp2_with (fail)
              exact CalmQ.mk rfl _ rfl (Below.refl _ _) rfl
            refine AllCalm.cons (fun W hB hd => ?_) ?_
            · obtain ⟨h18, -⟩ := hd
              have h18 : f 18 = _ := h18
              rw [h18]
              go_wp2_with (fail)
              exact CalmQ.mk rfl _ rfl (Below.refl _ _) rfl
            refine AllCalm.cons (fun W hB hd => ?_) ?_
            · obtain ⟨h19, -⟩ := hd
              have h19 : f 19 = _ := h19
              rw [h19]
              have kx := (hF W (hdr.trans (hB.mono hdr.size))).1
              go_wp2_with (fail)
              exact CalmQ.mk rfl _ rfl (Below.refl _ _) rfl
            refine AllCalm.cons (fun W hB hd => ?_) ?_
            · go_wp2_with (fail)
              exact CalmQ.mk rfl _ rfl (Below.refl _ _) rfl
            refine AllCalm.cons (fun W hB hd => ?_) ?_
            · obtain ⟨h20, h21, -⟩ := hd
              have h20 : f 20 = _ := h20
              have h21 : f 21 = _ := h21
              rw [h20, h21]
              go_wp2_with (fail)
              exact CalmQ.mk rfl _ rfl (Below.refl _ _) rfl
            refine AllCalm.cons (fun W hB hd => ?_) ?_
            · obtain ⟨h22, -⟩ := hd
              have h22 : f 22 = _ := h22
              rw [h22]
              have kx := (hF W (hdr.trans (hB.mono hdr.size))).2.1
              go_wp2_with (fail)
              exact CalmQ.mk rfl _ rfl (Below.refl _ _) rfl
            exact AllCalm.nil
          · intro W hB hT
            obtain ⟨h0, h1, h2, h3, h4, h5, h6, h7, h8, h9, h10, h11, h12, h13, h14, h15, h16, h17, h18, h19, h20, h21, h22, h23, -⟩ := hT
            have h0 : f 0 = _ := h0
            have h1 : f 1 = _ := h1
            have h2 : f 2 = _ := h2
            have h3 : f 3 = _ := h3
            have h4 : f 4 = _ := h4
            have h5 : f 5 = _ := h5
            have h6 : f 6 = _ := h6
            have h7 : f 7 = _ := h7
            have h8 : f 8 = _ := h8
            have h9 : f 9 = _ := h9
            have h10 : f 10 = _ := h10
            have h11 : f 11 = _ := h11
            have h12 : f 12 = _ := h12
            have h13 : f 13 = _ := h13
            have h14 : f 14 = _ := h14
            have h15 : f 15 = _ := h15
            have h16 : f 16 = _ := h16
            have h17 : f 17 = _ := h17
            have h18 : f 18 = _ := h18
            have h19 : f 19 = _ := h19
            have h20 : f 20 = _ := h20
            have h21 : f 21 = _ := h21
            have h22 : f 22 = _ := h22
            have h23 : f 23 = _ := h23
            rw [h0, h1, h2, h3, h4, h5, h6, h7, h8, h9, h10, h11, h12, h13, h14, h15, h16, h17, h18, h19, h20, h21, h22, h23]
            clear h0 h1 h2 h3 h4 h5 h6 h7 h8 h9 h10 h11 h12 h13 h14 h15 h16 h17 h18 h19 h20 h21 h22 h23
            simp only [List.drop_succ_cons, List.drop_zero]
            skip
            have hn3 := hn2.below (hdr.trans (hB.mono hdr.size))
            have he3 := he2.trans (Eff.of (S := TS X (.slice (some ⟨g, 0, none⟩) H.length c)) (hdr.trans (hB.mono hdr.size))) fun _ _ h => h
            clear hF hn2 he2 hB hdr
            have hi2 : (Try.prog.info? 72).map (·.size) = some 2 := by kernel_rfl
            have hkl : k < H.length := by omega
            have hml2 : m < H.length := by omega
            go_wp2_with (first
              | (refine wpList_store_pair rfl 72 (.tmp 71) (.tmp 63) rfl B 72 H.length c g (tflat H') (hn3.rowN hlen) k hkl (.int .i64 b1) (.int .i64 b2) rfl rfl hi2 rfl rfl ?_; intro w6 ho6 he6; have hn6 := hn3.set (x := (b1, b2)) hlen hkl ho6 he6)
              | (refine wpList_store_pair rfl 72 (.tmp 72) (.tmp 70) rfl B 72 H.length c g (tflat (H'.set k (b1, b2))) (hn6.rowN (by rw [List.length_set]; exact hlen)) m hml2 (.int .i64 a1) (.int .i64 a2) rfl rfl hi2 rfl rfl ?_; intro w7 ho7 he7; have hn7 := hn6.set (x := (a1, a2)) (by rw [List.length_set]; exact hlen) hml2 ho7 he7))
            rw [HS.out _ _ rfl rfl] at hn7
            have hr := HSI.out hmk
            exact ⟨⟨m, swap H' k m, by omega, rfl, Lib.hid ⟨(HSW.out hr.2.1).trans HP.out.1, hr.1⟩, by rw [HSL.out]; exact hlen, hn7, he3.trans ((he6.trans he7 fun _ _ h => h).mono fun k _ h => ts_row k h) fun _ _ h => h⟩, by simp [intOf]; omega⟩
end Go.Proofs.Ytoogmdokcndieaa
