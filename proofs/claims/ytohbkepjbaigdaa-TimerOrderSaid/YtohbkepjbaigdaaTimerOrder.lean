/- TimerOrder: for all bytes the statement's function tells true and turns nothing that was there. No condition. -/
import Derived.Test.YtohbkepjbaigdaaTmP
import Derived.LoopTactic
namespace Go.Proofs.Ytohbkepjbaigdaa
open Go.ChangeShapes Go.WideShapes Go.ChangeAt Go.RowKit Go.Lib
set_option linter.unusedVariables false
namespace Order
/-- Each of them is one of the bytes'. -/
def Of (l : List UInt8) (S : List One) : Prop := ∀ x ∈ S, ∃ i, ∃ h : i < l.length, x = ((i : Int), 1 + ((l[i]).toNat : Int))
set_option maxRecDepth 100000 in
set_option maxHeartbeats 1000000 in
theorem walk (v : Value) (l : List UInt8) (w : World) (hv : Sl w w.heap.size v l.length (bs l)) :
    Calls Try.prog 4 #[v] w fun e w' => e = .returned (.bool true) ∧ Below w.heap.size w w' := by
  obtain ⟨A, c, rfl, hc1, hc2⟩ := hv.form
  by_cases hll : 60 < l.length
  · have hlx : (60 : Int) < (l.length : Int) := by omega
    clear hv
    go_enter Try.func4, Try.ntmps4
    go_wp2_with (go_at_call 8; refine (known_any _).mono ?_; rintro e w1 ⟨rfl, hb1⟩)
    go_ret
    exact ⟨rfl, hb1⟩
  · have hlx : ¬ (60 : Int) < (l.length : Int) := by omega
    go_enter Try.func4, Try.ntmps4
    go_wp2_with (first
      | (go_at_call 8; refine (known_any _).mono ?_; rintro e w1 ⟨rfl, hb1⟩)
      | (go_at_call 9; (with_reducible refine (new_s hb1).mono ?_); rintro e w2 ⟨rfl, hs2, hb2⟩))
    go_loopw [4] (fun i wr => ∃ (k : Nat) (S : List One), k ≤ l.length ∧ i = .int .i64 k ∧ Hid (Laid l k S) ∧ TmS w wr w1.heap.size S 0) (fun i _ => l.length - (intOf i).toNat)
    case atStart => exact ⟨0, [], by omega, rfl, Lib.hid (Laid.zero l), hs2⟩
    case round =>
      clear hs2
      obtain ⟨k, S, hk, rfl, HL, hs⟩ := hrel
      by_cases hkl : k < l.length
      · have hkx : (k : Int) < (l.length : Int) := by omega
        obtain ⟨b, off, rfl, _, hat⟩ := (hv.below hs.bl).at_ (by omega)
        have hcl : wr.cell? ⟨b, off + k, none⟩ = some (.int .u8 ((l[k]).toNat : Int)) := hat _ _ (bs_get hkl)
        have hset := HL.out.set (by omega) hkl hs
        have hx := (l[k]).toNat_lt
        clear hat
        generalize (l[k]).toNat = x at *
        go_wp2_with (go_at_call 10; (with_reducible refine hset.mono ?_); rintro e w3 ⟨rfl, S3, HL3, hs3⟩)
        exact ⟨⟨k + 1, S3, by omega, by simp, HL3, hs3⟩, by simp [intOf]; omega⟩
      · obtain rfl : k = l.length := by omega
        have hall : Of l S := fun x hx => by
          obtain ⟨i, hi, _, rfl⟩ := (HL.out.mem x).1 hx
          exact ⟨i, hi, rfl⟩
        have HA : Hid (S.length = l.length ∧ Of l S) := Lib.hid ⟨HL.out.len, hall⟩
        clear hall HL hkl hk
        go_wp2
        go_loopw [5, 6] (fun seen i wr => ∃ (n d : Nat) (S' : List One), n ≤ 256 ∧ i = .int .i64 ((n : Int) + 1) ∧ seen = .int .i64 d ∧ d + S'.length = l.length ∧ Hid (Of l S') ∧ TmS w wr w1.heap.size S' (n : Int)) (fun _ i _ => 258 - (intOf i).toNat)
        case atStart => exact ⟨0, 0, S, by omega, rfl, rfl, by rw [HA.out.1]; omega, Lib.hid HA.out.2, hs⟩
        case round =>
          clear hs HA
          obtain ⟨n, d, S', hn, rfl, rfl, hd, HO, hs⟩ := hrel
          by_cases hn6 : n < 256
          · have hnx : (n : Int) + 1 ≤ 256 := by omega
            have ht := ticked hs (by omega)
            go_wp2_with (go_at_call 15; (with_reducible refine ht.mono ?_); rintro e w6 ⟨A6, c6, I, rfl, HI, ho6, hI6, hs6, _⟩)
            have hln := HI.out.2.2
            have hIx : (I.length : Int) ≤ 60 := by omega
            have hq : Hid (∀ i, ∀ h : i < I.length, ∃ q, ∃ hq : q < l.length, I[i] = (q : Int) ∧ (l[q]).toNat = n) := Lib.hid fun i h => by
              obtain ⟨q, hq, e⟩ := HO.out _ ((HI.out.2.1 I[i]).1 (List.getElem_mem h))
              injection e with e1 e2
              exact ⟨q, hq, e1, by omega⟩
            go_loopw [8] (fun i wr => ∃ k : Nat, k ≤ I.length ∧ i = .int .i64 k ∧ Below w6.heap.size w6 wr) (fun i _ => I.length - (intOf i).toNat)
            case atStart => exact ⟨0, by omega, rfl, Below.refl _ _⟩
            case round =>
              obtain ⟨k, hk, rfl, hbw⟩ := hrel
              by_cases hkI : k < I.length
              · have hkx : (k : Int) < (I.length : Int) := by omega
                obtain ⟨q, hql, hq1, hq2⟩ := hq.out k hkI
                obtain ⟨g, rfl, hBg, _, hc⟩ := ids_at ho6 hkI
                rw [hq1] at hc
                obtain ⟨b, off, rfl, _, hat⟩ := (hv.below hs6.bl).at_ (by omega)
                have hcl : w6.cell? ⟨b, off + q, none⟩ = some (.int .u8 (n : Int)) := by rw [← hq2]; exact hat _ _ (bs_get hql)
                clear hat
                have hqlx : (q : Int) < (l.length : Int) := by omega
                have hF : ∀ W, Below w6.heap.size w6 W → W.cell? ⟨g, k, none⟩ = some (.int .i64 (q : Int)) ∧ W.cell? ⟨b, off + q, none⟩ = some (.int .u8 (n : Int)) := fun W hW =>
                  ⟨(hW.cell (p := ⟨g, k, none⟩) (World.block_lt_of_cell? w6 _ (by rw [hc]; try rfl))).trans hc, (hW.cell (p := ⟨b, off + q, none⟩) (World.block_lt_of_cell? w6 _ (by rw [hcl]; try rfl))).trans hcl⟩
                have HQ1 := Lib.hid hq1
                clear hq1 hq2 hc hcl
                have hn1 : 1 + (n : Int) = (n : Int) + 1 := by omega
                by_cases hk0 : k = 0
                · subst hk0
                  go_wp2
                  apply calm_region ((.is _) :: (.is _) :: (.is _) :: (.is _) :: (.is _) :: (.is _) :: (.is _) :: (.is _) :: (.is _) :: (.is _) :: (.is _) :: (.is _) :: (.is _) :: (.is _) :: (.is _) :: (.is _) :: (.is _) :: (.is _) :: (.is _) :: (.is _) :: (.is _) :: (.is _) :: (.is _) :: (.is _) :: (.is _) :: (.is _) :: (.is _) :: (.is _) :: (.is _) :: (.is _) :: (.is _) :: (.is _) :: (.is _) :: (.is _) :: (.is _) :: (.is _) :: (.is _) :: (.is _) :: (.is _) :: (.is _) :: (.is _) :: (.is _) :: (.is _) :: []) [[], [], [0, 1], [2], [3], [4], [5], [5], [6, 7, 5], [8, 5], [5], [10, 5], [9, 11, 5], [5, 12], [13, 5], [14], [14], [14], [16, 17, 14], [18, 14], [15, 19, 14], [20, 14], [21, 14], [22, 14], [14], [23, 24, 14], [14, 25], [26, 14], [27], [28, 27], [29, 27, 27], [30], [30], [31, 32, 30], [33, 30], [30], [30], [36, 30], [35, 37, 30], [38, 30], [34, 39, 30], [30, 40, 27], [27, 41]] (by kernel_rfl) (by kernel_rfl) (by kernel_rfl) rfl
                  intro f a1 ha1
                  simp only [putL, Act.put, List.setIfInBounds_toArray, List.set_cons_succ, List.set_cons_zero] at ha1
                  subst ha1
                  refine ⟨?_, ?_⟩
                  · refine AllCalm.cons (fun W hB hd => ?_) ?_
                    · go_wp2_with (fail)
                      exact CalmQ.mk rfl _ rfl (Below.refl _ _) rfl
                    refine AllCalm.cons (fun W hB hd => ?_) ?_
                    · go_wp2_with (fail)
                      exact CalmQ.mk rfl _ rfl (Below.refl _ _) rfl
                    refine AllCalm.cons (fun W hB hd => ?_) ?_
                    · obtain ⟨h0, h1, -⟩ := hd
                      have h0 : f 0 = _ := h0
                      have h1 : f 1 = _ := h1
                      rw [h0, h1]
                      go_wp2_with (fail)
                      exact CalmQ.mk rfl _ rfl (Below.refl _ _) rfl
                    refine AllCalm.cons (fun W hB hd => ?_) ?_
                    · obtain ⟨h2, -⟩ := hd
                      have h2 : f 2 = _ := h2
                      rw [h2]
                      have kx := (hF W (hbw.trans (hB.mono hbw.size))).1
                      go_wp2_with (fail)
                      exact CalmQ.mk rfl _ rfl (Below.refl _ _) rfl
                    refine AllCalm.cons (fun W hB hd => ?_) ?_
                    · obtain ⟨h3, -⟩ := hd
                      have h3 : f 3 = _ := h3
                      rw [h3]
                      go_wp2_with (fail)
                      exact CalmQ.mk rfl _ rfl (Below.refl _ _) rfl
                    refine AllCalm.cons (fun W hB hd => ?_) ?_
                    · obtain ⟨h4, -⟩ := hd
                      have h4 : f 4 = _ := h4
                      rw [h4]
                      go_wp2_with (fail)
                      exact CalmQ.mk rfl _ rfl (Below.refl _ _) rfl
                    refine AllCalm.cons (fun W hB hd => ?_) ?_
                    · obtain ⟨h5, -⟩ := hd
                      have h5 : f 5 = _ := h5
                      rw [h5]
                      go_wp2_with (fail)
                      exact CalmQ.mk rfl _ rfl (Below.refl _ _) rfl
                    refine AllCalm.cons (fun W hB hd => ?_) ?_
                    · obtain ⟨h5, -⟩ := hd
                      have h5 : f 5 = _ := h5
                      rw [h5]
                      go_wp2_with (fail)
                      exact CalmQ.mk rfl _ rfl (Below.refl _ _) rfl
                    refine AllCalm.cons (fun W hB hd => ?_) ?_
                    · obtain ⟨h6, h7, h5, -⟩ := hd
                      have h6 : f 6 = _ := h6
                      have h7 : f 7 = _ := h7
                      have h5 : f 5 = _ := h5
                      rw [h6, h7, h5]
                      go_wp2_with (fail)
                      exact CalmQ.mk rfl _ rfl (Below.refl _ _) rfl
                    refine AllCalm.cons (fun W hB hd => ?_) ?_
                    · obtain ⟨h8, h5, -⟩ := hd
                      have h8 : f 8 = _ := h8
                      have h5 : f 5 = _ := h5
                      rw [h8, h5]
                      have kx := (hF W (hbw.trans (hB.mono hbw.size))).1
                      go_wp2_with (fail)
                      exact CalmQ.mk rfl _ rfl (Below.refl _ _) rfl
                    refine AllCalm.cons (fun W hB hd => ?_) ?_
                    · obtain ⟨h5, -⟩ := hd
                      have h5 : f 5 = _ := h5
                      rw [h5]
                      go_wp2_with (fail)
                      exact CalmQ.mk rfl _ rfl (Below.refl _ _) rfl
                    refine AllCalm.cons (fun W hB hd => ?_) ?_
                    · obtain ⟨h10, h5, -⟩ := hd
                      have h10 : f 10 = _ := h10
                      have h5 : f 5 = _ := h5
                      rw [h10, h5]
                      go_wp2_with (fail)
                      exact CalmQ.mk rfl _ rfl (Below.refl _ _) rfl
                    refine AllCalm.cons (fun W hB hd => ?_) ?_
                    · obtain ⟨h9, h11, h5, -⟩ := hd
                      have h9 : f 9 = _ := h9
                      have h11 : f 11 = _ := h11
                      have h5 : f 5 = _ := h5
                      rw [h9, h11, h5]
                      go_wp2_with (fail)
                      exact CalmQ.mk rfl _ rfl (Below.refl _ _) rfl
                    refine AllCalm.cons (fun W hB hd => ?_) ?_
                    · obtain ⟨h5, h12, -⟩ := hd
                      have h5 : f 5 = _ := h5
                      have h12 : f 12 = _ := h12
                      rw [h5, h12]
                      go_wp2_with (fail)
                      exact CalmQ.mk rfl _ rfl (Below.refl _ _) rfl
                    refine AllCalm.cons (fun W hB hd => ?_) ?_
                    · obtain ⟨h13, h5, -⟩ := hd
                      have h13 : f 13 = _ := h13
                      have h5 : f 5 = _ := h5
                      rw [h13, h5]
                      go_wp2_with (fail)
                      exact CalmQ.mk rfl _ rfl (Below.refl _ _) rfl
                    refine AllCalm.cons (fun W hB hd => ?_) ?_
                    · obtain ⟨h14, -⟩ := hd
                      have h14 : f 14 = _ := h14
                      rw [h14]
                      go_wp2_with (fail)
                      exact CalmQ.mk rfl _ rfl (Below.refl _ _) rfl
                    refine AllCalm.cons (fun W hB hd => ?_) ?_
                    · obtain ⟨h14, -⟩ := hd
                      have h14 : f 14 = _ := h14
                      rw [h14]
                      go_wp2_with (fail)
                      exact CalmQ.mk rfl _ rfl (Below.refl _ _) rfl
                    refine AllCalm.cons (fun W hB hd => ?_) ?_
                    · obtain ⟨h14, -⟩ := hd
                      have h14 : f 14 = _ := h14
                      rw [h14]
                      go_wp2_with (fail)
                      exact CalmQ.mk rfl _ rfl (Below.refl _ _) rfl
                    refine AllCalm.cons (fun W hB hd => ?_) ?_
                    · obtain ⟨h16, h17, h14, -⟩ := hd
                      have h16 : f 16 = _ := h16
                      have h17 : f 17 = _ := h17
                      have h14 : f 14 = _ := h14
                      rw [h16, h17, h14]
                      go_wp2_with (fail)
                      exact CalmQ.mk rfl _ rfl (Below.refl _ _) rfl
                    refine AllCalm.cons (fun W hB hd => ?_) ?_
                    · obtain ⟨h18, h14, -⟩ := hd
                      have h18 : f 18 = _ := h18
                      have h14 : f 14 = _ := h14
                      rw [h18, h14]
                      have kx := (hF W (hbw.trans (hB.mono hbw.size))).1
                      go_wp2_with (fail)
                      exact CalmQ.mk rfl _ rfl (Below.refl _ _) rfl
                    refine AllCalm.cons (fun W hB hd => ?_) ?_
                    · obtain ⟨h15, h19, h14, -⟩ := hd
                      have h15 : f 15 = _ := h15
                      have h19 : f 19 = _ := h19
                      have h14 : f 14 = _ := h14
                      rw [h15, h19, h14]
                      go_wp2_with (fail)
                      exact CalmQ.mk rfl _ rfl (Below.refl _ _) rfl
                    refine AllCalm.cons (fun W hB hd => ?_) ?_
                    · obtain ⟨h20, h14, -⟩ := hd
                      have h20 : f 20 = _ := h20
                      have h14 : f 14 = _ := h14
                      rw [h20, h14]
                      have kx := (hF W (hbw.trans (hB.mono hbw.size))).2
                      go_wp2_with (fail)
                      exact CalmQ.mk rfl _ rfl (Below.refl _ _) rfl
                    refine AllCalm.cons (fun W hB hd => ?_) ?_
                    · obtain ⟨h21, h14, -⟩ := hd
                      have h21 : f 21 = _ := h21
                      have h14 : f 14 = _ := h14
                      rw [h21, h14]
                      go_wp2_with (fail)
                      exact CalmQ.mk rfl _ rfl (Below.refl _ _) rfl
                    refine AllCalm.cons (fun W hB hd => ?_) ?_
                    · obtain ⟨h22, h14, -⟩ := hd
                      have h22 : f 22 = _ := h22
                      have h14 : f 14 = _ := h14
                      rw [h22, h14]
                      go_wp2_with (fail)
                      exact CalmQ.mk rfl _ rfl (Below.refl _ _) rfl
                    refine AllCalm.cons (fun W hB hd => ?_) ?_
                    · obtain ⟨h14, -⟩ := hd
                      have h14 : f 14 = _ := h14
                      rw [h14]
                      go_wp2_with (fail)
                      exact CalmQ.mk rfl _ rfl (Below.refl _ _) rfl
                    refine AllCalm.cons (fun W hB hd => ?_) ?_
                    · obtain ⟨h23, h24, h14, -⟩ := hd
                      have h23 : f 23 = _ := h23
                      have h24 : f 24 = _ := h24
                      have h14 : f 14 = _ := h14
                      rw [h23, h24, h14]
                      go_wp2_with (fail)
                      exact CalmQ.mk rfl _ rfl (Below.refl _ _) rfl
                    refine AllCalm.cons (fun W hB hd => ?_) ?_
                    · obtain ⟨h14, h25, -⟩ := hd
                      have h14 : f 14 = _ := h14
                      have h25 : f 25 = _ := h25
                      rw [h14, h25]
                      go_wp2_with (fail)
                      exact CalmQ.mk rfl _ rfl (Below.refl _ _) rfl
                    refine AllCalm.cons (fun W hB hd => ?_) ?_
                    · obtain ⟨h26, h14, -⟩ := hd
                      have h26 : f 26 = _ := h26
                      have h14 : f 14 = _ := h14
                      rw [h26, h14]
                      go_wp2_with (fail)
                      exact CalmQ.mk rfl _ rfl (Below.refl _ _) rfl
                    refine AllCalm.cons (fun W hB hd => ?_) ?_
                    · obtain ⟨h27, -⟩ := hd
                      have h27 : f 27 = _ := h27
                      rw [h27]
                      go_wp2_with (fail)
                      exact CalmQ.mk rfl _ rfl (Below.refl _ _) rfl
                    refine AllCalm.cons (fun W hB hd => ?_) ?_
                    · obtain ⟨h28, h27, -⟩ := hd
                      have h28 : f 28 = _ := h28
                      have h27 : f 27 = _ := h27
                      rw [h28, h27]
                      go_wp2_with (fail)
                      exact CalmQ.mk rfl _ rfl (Below.refl _ _) rfl
                    refine AllCalm.cons (fun W hB hd => ?_) ?_
                    · obtain ⟨h29, h27, -, -⟩ := hd
                      have h29 : f 29 = _ := h29
                      have h27 : f 27 = _ := h27
                      rw [h29, h27]
                      go_wp2_with (fail)
                      exact CalmQ.mk rfl _ rfl (Below.refl _ _) rfl
                    refine AllCalm.cons (fun W hB hd => ?_) ?_
                    · obtain ⟨h30, -⟩ := hd
                      have h30 : f 30 = _ := h30
                      rw [h30]
                      go_wp2_with (fail)
                      exact CalmQ.mk rfl _ rfl (Below.refl _ _) rfl
                    refine AllCalm.cons (fun W hB hd => ?_) ?_
                    · obtain ⟨h30, -⟩ := hd
                      have h30 : f 30 = _ := h30
                      rw [h30]
                      go_wp2_with (fail)
                      exact CalmQ.mk rfl _ rfl (Below.refl _ _) rfl
                    refine AllCalm.cons (fun W hB hd => ?_) ?_
                    · obtain ⟨h31, h32, h30, -⟩ := hd
                      have h31 : f 31 = _ := h31
                      have h32 : f 32 = _ := h32
                      have h30 : f 30 = _ := h30
                      rw [h31, h32, h30]
                      go_wp2_with (fail)
                      exact CalmQ.mk rfl _ rfl (Below.refl _ _) rfl
                    refine AllCalm.cons (fun W hB hd => ?_) ?_
                    · obtain ⟨h33, h30, -⟩ := hd
                      have h33 : f 33 = _ := h33
                      have h30 : f 30 = _ := h30
                      rw [h33, h30]
                      go_wp2_with (fail)
                      exact CalmQ.mk rfl _ rfl (Below.refl _ _) rfl
                    refine AllCalm.cons (fun W hB hd => ?_) ?_
                    · obtain ⟨h30, -⟩ := hd
                      have h30 : f 30 = _ := h30
                      rw [h30]
                      go_wp2_with (fail)
                      exact CalmQ.mk rfl _ rfl (Below.refl _ _) rfl
                    refine AllCalm.cons (fun W hB hd => ?_) ?_
                    · obtain ⟨h30, -⟩ := hd
                      have h30 : f 30 = _ := h30
                      rw [h30]
                      go_wp2_with (fail)
                      exact CalmQ.mk rfl _ rfl (Below.refl _ _) rfl
                    refine AllCalm.cons (fun W hB hd => ?_) ?_
                    · obtain ⟨h36, h30, -⟩ := hd
                      have h36 : f 36 = _ := h36
                      have h30 : f 30 = _ := h30
                      rw [h36, h30]
                      go_wp2_with (fail)
                      exact CalmQ.mk rfl _ rfl (Below.refl _ _) rfl
                    refine AllCalm.cons (fun W hB hd => ?_) ?_
                    · obtain ⟨h35, h37, h30, -⟩ := hd
                      have h35 : f 35 = _ := h35
                      have h37 : f 37 = _ := h37
                      have h30 : f 30 = _ := h30
                      rw [h35, h37, h30]
                      go_wp2_with (fail)
                      exact CalmQ.mk rfl _ rfl (Below.refl _ _) rfl
                    refine AllCalm.cons (fun W hB hd => ?_) ?_
                    · obtain ⟨h38, h30, -⟩ := hd
                      have h38 : f 38 = _ := h38
                      have h30 : f 30 = _ := h30
                      rw [h38, h30]
                      go_wp2_with (fail)
                      exact CalmQ.mk rfl _ rfl (Below.refl _ _) rfl
                    refine AllCalm.cons (fun W hB hd => ?_) ?_
                    · obtain ⟨h34, h39, h30, -⟩ := hd
                      have h34 : f 34 = _ := h34
                      have h39 : f 39 = _ := h39
                      have h30 : f 30 = _ := h30
                      rw [h34, h39, h30]
                      go_wp2_with (fail)
                      exact CalmQ.mk rfl _ rfl (Below.refl _ _) rfl
                    refine AllCalm.cons (fun W hB hd => ?_) ?_
                    · obtain ⟨h30, h40, h27, -⟩ := hd
                      have h30 : f 30 = _ := h30
                      have h40 : f 40 = _ := h40
                      have h27 : f 27 = _ := h27
                      rw [h30, h40, h27]
                      go_wp2_with (fail)
                      exact CalmQ.mk rfl _ rfl (Below.refl _ _) rfl
                    refine AllCalm.cons (fun W hB hd => ?_) ?_
                    · obtain ⟨h27, h41, -⟩ := hd
                      have h27 : f 27 = _ := h27
                      have h41 : f 41 = _ := h41
                      rw [h27, h41]
                      go_wp2_with (fail)
                      exact CalmQ.mk rfl _ rfl (Below.refl _ _) rfl
                    exact AllCalm.nil
                  · intro W hB hT
                    obtain ⟨h0, h1, h2, h3, h4, h5, h6, h7, h8, h9, h10, h11, h12, h13, h14, h15, h16, h17, h18, h19, h20, h21, h22, h23, h24, h25, h26, h27, h28, h29, h30, h31, h32, h33, h34, h35, h36, h37, h38, h39, h40, h41, h42, -⟩ := hT
                    have h0 : f 0 = _ := h0
                    have h1 : f 1 = _ := h1
                    have h2 : f 2 = _ := h2
                    have h3 : f 3 = _ := h3
                    have h4 : f 4 = _ := h4
                    have h5 : f 5 = _ := h5
                    have h6 : f 6 = _ := h6
                    have h7 : f 7 = _ := h7
                    have h8 : f 8 = _ := h8
                    have h9 : f 9 = _ := h9
                    have h10 : f 10 = _ := h10
                    have h11 : f 11 = _ := h11
                    have h12 : f 12 = _ := h12
                    have h13 : f 13 = _ := h13
                    have h14 : f 14 = _ := h14
                    have h15 : f 15 = _ := h15
                    have h16 : f 16 = _ := h16
                    have h17 : f 17 = _ := h17
                    have h18 : f 18 = _ := h18
                    have h19 : f 19 = _ := h19
                    have h20 : f 20 = _ := h20
                    have h21 : f 21 = _ := h21
                    have h22 : f 22 = _ := h22
                    have h23 : f 23 = _ := h23
                    have h24 : f 24 = _ := h24
                    have h25 : f 25 = _ := h25
                    have h26 : f 26 = _ := h26
                    have h27 : f 27 = _ := h27
                    have h28 : f 28 = _ := h28
                    have h29 : f 29 = _ := h29
                    have h30 : f 30 = _ := h30
                    have h31 : f 31 = _ := h31
                    have h32 : f 32 = _ := h32
                    have h33 : f 33 = _ := h33
                    have h34 : f 34 = _ := h34
                    have h35 : f 35 = _ := h35
                    have h36 : f 36 = _ := h36
                    have h37 : f 37 = _ := h37
                    have h38 : f 38 = _ := h38
                    have h39 : f 39 = _ := h39
                    have h40 : f 40 = _ := h40
                    have h41 : f 41 = _ := h41
                    have h42 : f 42 = _ := h42
                    rw [h0, h1, h2, h3, h4, h5, h6, h7, h8, h9, h10, h11, h12, h13, h14, h15, h16, h17, h18, h19, h20, h21, h22, h23, h24, h25, h26, h27, h28, h29, h30, h31, h32, h33, h34, h35, h36, h37, h38, h39, h40, h41, h42]
                    clear h0 h1 h2 h3 h4 h5 h6 h7 h8 h9 h10 h11 h12 h13 h14 h15 h16 h17 h18 h19 h20 h21 h22 h23 h24 h25 h26 h27 h28 h29 h30 h31 h32 h33 h34 h35 h36 h37 h38 h39 h40 h41 h42
                    skip
                    go_wp2
                    exact ⟨⟨1, by omega, rfl, hbw.trans (hB.mono hbw.size)⟩, by simp [intOf]; omega⟩
                · obtain ⟨q', hql', hq1', _⟩ := hq.out (k - 1) (by omega)
                  obtain ⟨g', eg, _, _, hc'⟩ := ids_at ho6 (i := k - 1) (by omega)
                  injection eg with eg
                  injection eg with eg
                  subst eg
                  rw [hq1'] at hc'
                  have hlt := List.pairwise_iff_getElem.1 HI.out.1 (k - 1) k (by omega) hkI (by omega)
                  rw [hq1', HQ1.out] at hlt
                  have hF2 : ∀ W, Below w6.heap.size w6 W → W.cell? ⟨g, k - 1, none⟩ = some (.int .i64 (q' : Int)) := fun W hW => (hW.cell (p := ⟨g, k - 1, none⟩) (World.block_lt_of_cell? w6 _ (by rw [hc']; try rfl))).trans hc'
                  clear hc' hq1'
                  have hk1 : (k : Int) - 1 = ((k - 1 : Nat) : Int) := by omega
                  have hk2 : ((k - 1 : Nat) : Int) < (I.length : Int) := by omega
                  have hkp : (0 : Int) < (k : Int) := by omega
                  generalize k - 1 = k1 at *
                  have hle : ¬ (q : Int) ≤ (q' : Int) := by omega
                  go_wp2
                  apply calm_region ((.is _) :: (.is _) :: (.is _) :: (.is _) :: (.is _) :: (.is _) :: (.is _) :: (.is _) :: (.is _) :: (.is _) :: (.is _) :: (.is _) :: (.is _) :: (.is _) :: (.is _) :: (.is _) :: (.is _) :: (.is _) :: (.is _) :: (.is _) :: (.is _) :: (.is _) :: (.is _) :: (.is _) :: (.is _) :: (.is _) :: (.is _) :: (.is _) :: (.is _) :: (.is _) :: (.is _) :: (.is _) :: (.is _) :: (.is _) :: (.is _) :: (.is _) :: (.is _) :: (.is _) :: (.is _) :: (.is _) :: (.is _) :: (.is _) :: (.is _) :: []) [[], [], [0, 1], [2], [3], [4], [5], [5], [6, 7, 5], [8, 5], [5], [10, 5], [9, 11, 5], [5, 12], [13, 5], [14], [14], [14], [16, 17, 14], [18, 14], [15, 19, 14], [20, 14], [21, 14], [22, 14], [14], [23, 24, 14], [14, 25], [26, 14], [27], [28, 27], [29, 27, 27], [30], [30], [31, 32, 30], [33, 30], [30], [30], [36, 30], [35, 37, 30], [38, 30], [34, 39, 30], [30, 40, 27], [27, 41]] (by kernel_rfl) (by kernel_rfl) (by kernel_rfl) rfl
                  intro f a1 ha1
                  simp only [putL, Act.put, List.setIfInBounds_toArray, List.set_cons_succ, List.set_cons_zero] at ha1
                  subst ha1
                  refine ⟨?_, ?_⟩
                  · refine AllCalm.cons (fun W hB hd => ?_) ?_
                    · go_wp2_with (fail)
                      exact CalmQ.mk rfl _ rfl (Below.refl _ _) rfl
                    refine AllCalm.cons (fun W hB hd => ?_) ?_
                    · go_wp2_with (fail)
                      exact CalmQ.mk rfl _ rfl (Below.refl _ _) rfl
                    refine AllCalm.cons (fun W hB hd => ?_) ?_
                    · obtain ⟨h0, h1, -⟩ := hd
                      have h0 : f 0 = _ := h0
                      have h1 : f 1 = _ := h1
                      rw [h0, h1]
                      go_wp2_with (fail)
                      exact CalmQ.mk rfl _ rfl (Below.refl _ _) rfl
                    refine AllCalm.cons (fun W hB hd => ?_) ?_
                    · obtain ⟨h2, -⟩ := hd
                      have h2 : f 2 = _ := h2
                      rw [h2]
                      have kx := (hF W (hbw.trans (hB.mono hbw.size))).1
                      go_wp2_with (fail)
                      exact CalmQ.mk rfl _ rfl (Below.refl _ _) rfl
                    refine AllCalm.cons (fun W hB hd => ?_) ?_
                    · obtain ⟨h3, -⟩ := hd
                      have h3 : f 3 = _ := h3
                      rw [h3]
                      go_wp2_with (fail)
                      exact CalmQ.mk rfl _ rfl (Below.refl _ _) rfl
                    refine AllCalm.cons (fun W hB hd => ?_) ?_
                    · obtain ⟨h4, -⟩ := hd
                      have h4 : f 4 = _ := h4
                      rw [h4]
                      go_wp2_with (fail)
                      exact CalmQ.mk rfl _ rfl (Below.refl _ _) rfl
                    refine AllCalm.cons (fun W hB hd => ?_) ?_
                    · obtain ⟨h5, -⟩ := hd
                      have h5 : f 5 = _ := h5
                      rw [h5]
                      go_wp2_with (fail)
                      exact CalmQ.mk rfl _ rfl (Below.refl _ _) rfl
                    refine AllCalm.cons (fun W hB hd => ?_) ?_
                    · obtain ⟨h5, -⟩ := hd
                      have h5 : f 5 = _ := h5
                      rw [h5]
                      go_wp2_with (fail)
                      exact CalmQ.mk rfl _ rfl (Below.refl _ _) rfl
                    refine AllCalm.cons (fun W hB hd => ?_) ?_
                    · obtain ⟨h6, h7, h5, -⟩ := hd
                      have h6 : f 6 = _ := h6
                      have h7 : f 7 = _ := h7
                      have h5 : f 5 = _ := h5
                      rw [h6, h7, h5]
                      go_wp2_with (fail)
                      exact CalmQ.mk rfl _ rfl (Below.refl _ _) rfl
                    refine AllCalm.cons (fun W hB hd => ?_) ?_
                    · obtain ⟨h8, h5, -⟩ := hd
                      have h8 : f 8 = _ := h8
                      have h5 : f 5 = _ := h5
                      rw [h8, h5]
                      have kx := (hF W (hbw.trans (hB.mono hbw.size))).1
                      go_wp2_with (fail)
                      exact CalmQ.mk rfl _ rfl (Below.refl _ _) rfl
                    refine AllCalm.cons (fun W hB hd => ?_) ?_
                    · obtain ⟨h5, -⟩ := hd
                      have h5 : f 5 = _ := h5
                      rw [h5]
                      go_wp2_with (fail)
                      exact CalmQ.mk rfl _ rfl (Below.refl _ _) rfl
                    refine AllCalm.cons (fun W hB hd => ?_) ?_
                    · obtain ⟨h10, h5, -⟩ := hd
                      have h10 : f 10 = _ := h10
                      have h5 : f 5 = _ := h5
                      rw [h10, h5]
                      go_wp2_with (fail)
                      exact CalmQ.mk rfl _ rfl (Below.refl _ _) rfl
                    refine AllCalm.cons (fun W hB hd => ?_) ?_
                    · obtain ⟨h9, h11, h5, -⟩ := hd
                      have h9 : f 9 = _ := h9
                      have h11 : f 11 = _ := h11
                      have h5 : f 5 = _ := h5
                      rw [h9, h11, h5]
                      go_wp2_with (fail)
                      exact CalmQ.mk rfl _ rfl (Below.refl _ _) rfl
                    refine AllCalm.cons (fun W hB hd => ?_) ?_
                    · obtain ⟨h5, h12, -⟩ := hd
                      have h5 : f 5 = _ := h5
                      have h12 : f 12 = _ := h12
                      rw [h5, h12]
                      go_wp2_with (fail)
                      exact CalmQ.mk rfl _ rfl (Below.refl _ _) rfl
                    refine AllCalm.cons (fun W hB hd => ?_) ?_
                    · obtain ⟨h13, h5, -⟩ := hd
                      have h13 : f 13 = _ := h13
                      have h5 : f 5 = _ := h5
                      rw [h13, h5]
                      go_wp2_with (fail)
                      exact CalmQ.mk rfl _ rfl (Below.refl _ _) rfl
                    refine AllCalm.cons (fun W hB hd => ?_) ?_
                    · obtain ⟨h14, -⟩ := hd
                      have h14 : f 14 = _ := h14
                      rw [h14]
                      go_wp2_with (fail)
                      exact CalmQ.mk rfl _ rfl (Below.refl _ _) rfl
                    refine AllCalm.cons (fun W hB hd => ?_) ?_
                    · obtain ⟨h14, -⟩ := hd
                      have h14 : f 14 = _ := h14
                      rw [h14]
                      go_wp2_with (fail)
                      exact CalmQ.mk rfl _ rfl (Below.refl _ _) rfl
                    refine AllCalm.cons (fun W hB hd => ?_) ?_
                    · obtain ⟨h14, -⟩ := hd
                      have h14 : f 14 = _ := h14
                      rw [h14]
                      go_wp2_with (fail)
                      exact CalmQ.mk rfl _ rfl (Below.refl _ _) rfl
                    refine AllCalm.cons (fun W hB hd => ?_) ?_
                    · obtain ⟨h16, h17, h14, -⟩ := hd
                      have h16 : f 16 = _ := h16
                      have h17 : f 17 = _ := h17
                      have h14 : f 14 = _ := h14
                      rw [h16, h17, h14]
                      go_wp2_with (fail)
                      exact CalmQ.mk rfl _ rfl (Below.refl _ _) rfl
                    refine AllCalm.cons (fun W hB hd => ?_) ?_
                    · obtain ⟨h18, h14, -⟩ := hd
                      have h18 : f 18 = _ := h18
                      have h14 : f 14 = _ := h14
                      rw [h18, h14]
                      have kx := (hF W (hbw.trans (hB.mono hbw.size))).1
                      go_wp2_with (fail)
                      exact CalmQ.mk rfl _ rfl (Below.refl _ _) rfl
                    refine AllCalm.cons (fun W hB hd => ?_) ?_
                    · obtain ⟨h15, h19, h14, -⟩ := hd
                      have h15 : f 15 = _ := h15
                      have h19 : f 19 = _ := h19
                      have h14 : f 14 = _ := h14
                      rw [h15, h19, h14]
                      go_wp2_with (fail)
                      exact CalmQ.mk rfl _ rfl (Below.refl _ _) rfl
                    refine AllCalm.cons (fun W hB hd => ?_) ?_
                    · obtain ⟨h20, h14, -⟩ := hd
                      have h20 : f 20 = _ := h20
                      have h14 : f 14 = _ := h14
                      rw [h20, h14]
                      have kx := (hF W (hbw.trans (hB.mono hbw.size))).2
                      go_wp2_with (fail)
                      exact CalmQ.mk rfl _ rfl (Below.refl _ _) rfl
                    refine AllCalm.cons (fun W hB hd => ?_) ?_
                    · obtain ⟨h21, h14, -⟩ := hd
                      have h21 : f 21 = _ := h21
                      have h14 : f 14 = _ := h14
                      rw [h21, h14]
                      go_wp2_with (fail)
                      exact CalmQ.mk rfl _ rfl (Below.refl _ _) rfl
                    refine AllCalm.cons (fun W hB hd => ?_) ?_
                    · obtain ⟨h22, h14, -⟩ := hd
                      have h22 : f 22 = _ := h22
                      have h14 : f 14 = _ := h14
                      rw [h22, h14]
                      go_wp2_with (fail)
                      exact CalmQ.mk rfl _ rfl (Below.refl _ _) rfl
                    refine AllCalm.cons (fun W hB hd => ?_) ?_
                    · obtain ⟨h14, -⟩ := hd
                      have h14 : f 14 = _ := h14
                      rw [h14]
                      go_wp2_with (fail)
                      exact CalmQ.mk rfl _ rfl (Below.refl _ _) rfl
                    refine AllCalm.cons (fun W hB hd => ?_) ?_
                    · obtain ⟨h23, h24, h14, -⟩ := hd
                      have h23 : f 23 = _ := h23
                      have h24 : f 24 = _ := h24
                      have h14 : f 14 = _ := h14
                      rw [h23, h24, h14]
                      go_wp2_with (fail)
                      exact CalmQ.mk rfl _ rfl (Below.refl _ _) rfl
                    refine AllCalm.cons (fun W hB hd => ?_) ?_
                    · obtain ⟨h14, h25, -⟩ := hd
                      have h14 : f 14 = _ := h14
                      have h25 : f 25 = _ := h25
                      rw [h14, h25]
                      go_wp2_with (fail)
                      exact CalmQ.mk rfl _ rfl (Below.refl _ _) rfl
                    refine AllCalm.cons (fun W hB hd => ?_) ?_
                    · obtain ⟨h26, h14, -⟩ := hd
                      have h26 : f 26 = _ := h26
                      have h14 : f 14 = _ := h14
                      rw [h26, h14]
                      go_wp2_with (fail)
                      exact CalmQ.mk rfl _ rfl (Below.refl _ _) rfl
                    refine AllCalm.cons (fun W hB hd => ?_) ?_
                    · obtain ⟨h27, -⟩ := hd
                      have h27 : f 27 = _ := h27
                      rw [h27]
                      go_wp2_with (fail)
                      exact CalmQ.mk rfl _ rfl (Below.refl _ _) rfl
                    refine AllCalm.cons (fun W hB hd => ?_) ?_
                    · obtain ⟨h28, h27, -⟩ := hd
                      have h28 : f 28 = _ := h28
                      have h27 : f 27 = _ := h27
                      rw [h28, h27]
                      go_wp2_with (fail)
                      exact CalmQ.mk rfl _ rfl (Below.refl _ _) rfl
                    refine AllCalm.cons (fun W hB hd => ?_) ?_
                    · obtain ⟨h29, h27, -, -⟩ := hd
                      have h29 : f 29 = _ := h29
                      have h27 : f 27 = _ := h27
                      rw [h29, h27]
                      go_wp2_with (fail)
                      exact CalmQ.mk rfl _ rfl (Below.refl _ _) rfl
                    refine AllCalm.cons (fun W hB hd => ?_) ?_
                    · obtain ⟨h30, -⟩ := hd
                      have h30 : f 30 = _ := h30
                      rw [h30]
                      go_wp2_with (fail)
                      exact CalmQ.mk rfl _ rfl (Below.refl _ _) rfl
                    refine AllCalm.cons (fun W hB hd => ?_) ?_
                    · obtain ⟨h30, -⟩ := hd
                      have h30 : f 30 = _ := h30
                      rw [h30]
                      go_wp2_with (fail)
                      exact CalmQ.mk rfl _ rfl (Below.refl _ _) rfl
                    refine AllCalm.cons (fun W hB hd => ?_) ?_
                    · obtain ⟨h31, h32, h30, -⟩ := hd
                      have h31 : f 31 = _ := h31
                      have h32 : f 32 = _ := h32
                      have h30 : f 30 = _ := h30
                      rw [h31, h32, h30]
                      go_wp2_with (fail)
                      exact CalmQ.mk rfl _ rfl (Below.refl _ _) rfl
                    refine AllCalm.cons (fun W hB hd => ?_) ?_
                    · obtain ⟨h33, h30, -⟩ := hd
                      have h33 : f 33 = _ := h33
                      have h30 : f 30 = _ := h30
                      rw [h33, h30]
                      have kx := (hF W (hbw.trans (hB.mono hbw.size))).1
                      go_wp2_with (fail)
                      exact CalmQ.mk rfl _ rfl (Below.refl _ _) rfl
                    refine AllCalm.cons (fun W hB hd => ?_) ?_
                    · obtain ⟨h30, -⟩ := hd
                      have h30 : f 30 = _ := h30
                      rw [h30]
                      go_wp2_with (fail)
                      exact CalmQ.mk rfl _ rfl (Below.refl _ _) rfl
                    refine AllCalm.cons (fun W hB hd => ?_) ?_
                    · obtain ⟨h30, -⟩ := hd
                      have h30 : f 30 = _ := h30
                      rw [h30]
                      go_wp2_with (fail)
                      exact CalmQ.mk rfl _ rfl (Below.refl _ _) rfl
                    refine AllCalm.cons (fun W hB hd => ?_) ?_
                    · obtain ⟨h36, h30, -⟩ := hd
                      have h36 : f 36 = _ := h36
                      have h30 : f 30 = _ := h30
                      rw [h36, h30]
                      go_wp2_with (fail)
                      exact CalmQ.mk rfl _ rfl (Below.refl _ _) rfl
                    refine AllCalm.cons (fun W hB hd => ?_) ?_
                    · obtain ⟨h35, h37, h30, -⟩ := hd
                      have h35 : f 35 = _ := h35
                      have h37 : f 37 = _ := h37
                      have h30 : f 30 = _ := h30
                      rw [h35, h37, h30]
                      go_wp2_with (fail)
                      exact CalmQ.mk rfl _ rfl (Below.refl _ _) rfl
                    refine AllCalm.cons (fun W hB hd => ?_) ?_
                    · obtain ⟨h38, h30, -⟩ := hd
                      have h38 : f 38 = _ := h38
                      have h30 : f 30 = _ := h30
                      rw [h38, h30]
                      have kx := hF2 W (hbw.trans (hB.mono hbw.size))
                      go_wp2_with (fail)
                      exact CalmQ.mk rfl _ rfl (Below.refl _ _) rfl
                    refine AllCalm.cons (fun W hB hd => ?_) ?_
                    · obtain ⟨h34, h39, h30, -⟩ := hd
                      have h34 : f 34 = _ := h34
                      have h39 : f 39 = _ := h39
                      have h30 : f 30 = _ := h30
                      rw [h34, h39, h30]
                      go_wp2_with (fail)
                      exact CalmQ.mk rfl _ rfl (Below.refl _ _) rfl
                    refine AllCalm.cons (fun W hB hd => ?_) ?_
                    · obtain ⟨h30, h40, h27, -⟩ := hd
                      have h30 : f 30 = _ := h30
                      have h40 : f 40 = _ := h40
                      have h27 : f 27 = _ := h27
                      rw [h30, h40, h27]
                      go_wp2_with (fail)
                      exact CalmQ.mk rfl _ rfl (Below.refl _ _) rfl
                    refine AllCalm.cons (fun W hB hd => ?_) ?_
                    · obtain ⟨h27, h41, -⟩ := hd
                      have h27 : f 27 = _ := h27
                      have h41 : f 41 = _ := h41
                      rw [h27, h41]
                      go_wp2_with (fail)
                      exact CalmQ.mk rfl _ rfl (Below.refl _ _) rfl
                    exact AllCalm.nil
                  · intro W hB hT
                    obtain ⟨h0, h1, h2, h3, h4, h5, h6, h7, h8, h9, h10, h11, h12, h13, h14, h15, h16, h17, h18, h19, h20, h21, h22, h23, h24, h25, h26, h27, h28, h29, h30, h31, h32, h33, h34, h35, h36, h37, h38, h39, h40, h41, h42, -⟩ := hT
                    have h0 : f 0 = _ := h0
                    have h1 : f 1 = _ := h1
                    have h2 : f 2 = _ := h2
                    have h3 : f 3 = _ := h3
                    have h4 : f 4 = _ := h4
                    have h5 : f 5 = _ := h5
                    have h6 : f 6 = _ := h6
                    have h7 : f 7 = _ := h7
                    have h8 : f 8 = _ := h8
                    have h9 : f 9 = _ := h9
                    have h10 : f 10 = _ := h10
                    have h11 : f 11 = _ := h11
                    have h12 : f 12 = _ := h12
                    have h13 : f 13 = _ := h13
                    have h14 : f 14 = _ := h14
                    have h15 : f 15 = _ := h15
                    have h16 : f 16 = _ := h16
                    have h17 : f 17 = _ := h17
                    have h18 : f 18 = _ := h18
                    have h19 : f 19 = _ := h19
                    have h20 : f 20 = _ := h20
                    have h21 : f 21 = _ := h21
                    have h22 : f 22 = _ := h22
                    have h23 : f 23 = _ := h23
                    have h24 : f 24 = _ := h24
                    have h25 : f 25 = _ := h25
                    have h26 : f 26 = _ := h26
                    have h27 : f 27 = _ := h27
                    have h28 : f 28 = _ := h28
                    have h29 : f 29 = _ := h29
                    have h30 : f 30 = _ := h30
                    have h31 : f 31 = _ := h31
                    have h32 : f 32 = _ := h32
                    have h33 : f 33 = _ := h33
                    have h34 : f 34 = _ := h34
                    have h35 : f 35 = _ := h35
                    have h36 : f 36 = _ := h36
                    have h37 : f 37 = _ := h37
                    have h38 : f 38 = _ := h38
                    have h39 : f 39 = _ := h39
                    have h40 : f 40 = _ := h40
                    have h41 : f 41 = _ := h41
                    have h42 : f 42 = _ := h42
                    rw [h0, h1, h2, h3, h4, h5, h6, h7, h8, h9, h10, h11, h12, h13, h14, h15, h16, h17, h18, h19, h20, h21, h22, h23, h24, h25, h26, h27, h28, h29, h30, h31, h32, h33, h34, h35, h36, h37, h38, h39, h40, h41, h42]
                    clear h0 h1 h2 h3 h4 h5 h6 h7 h8 h9 h10 h11 h12 h13 h14 h15 h16 h17 h18 h19 h20 h21 h22 h23 h24 h25 h26 h27 h28 h29 h30 h31 h32 h33 h34 h35 h36 h37 h38 h39 h40 h41 h42
                    skip
                    go_wp2
                    exact ⟨⟨k + 1, by omega, by simp, hbw.trans (hB.mono hbw.size)⟩, by simp [intOf]; omega⟩
              · obtain rfl : k = I.length := by omega
                go_wp2
                have e1 : ((n + 1 : Nat) : Int) = (n : Int) + 1 := by omega
                exact ⟨⟨n + 1, d + I.length, gone S' ((n : Int) + 1), by omega, by simp, by simp, by omega, Lib.hid fun x hx => HO.out x (mem_gone.1 hx).1, by rw [e1]; exact hs6.below hbw⟩, by simp [intOf]; omega⟩
          · obtain rfl : n = 256 := by omega
            obtain rfl : S' = [] := by
              cases S' with
              | nil => rfl
              | cons x R =>
                obtain ⟨i, hi, rfl⟩ := HO.out _ (List.mem_cons_self ..)
                have := (hs.fine.due _ (List.mem_cons_self ..)).1
                have h2 := (l[i]).toNat_lt
                simp only at this
                omega
            have hlen := len_s hs
            have hbl := hs.bl
            have hdl : d = l.length := by simpa using hd
            subst hdl
            clear hd hs
            go_wp2_with (first
              | (go_at_call 22; (with_reducible refine hlen.mono ?_); rintro e w4 ⟨rfl, rfl⟩))
            go_ret
            exact ⟨rfl, hbl⟩
set_option maxRecDepth 100000 in
theorem lifted (os : Os) (started : os.Started) (H : Type) (enc : TypeId × Value → H) :
    ReturnsInHanded {} Try.checked os 4 .any (Rows.timerOrderSpec.pre6 enc Try.prog Try.f4 Rows.timerOrderRow.domain false) (Rows.timerOrderSpec.post enc Try.prog Try.f4 false true false false) := by
  refine returnsInHanded_of_change (C := Try.checked) own started (by kernel_rfl) Try.func4
    (ChangeSpec.witness6 (enc := enc) (C := Try.checked) false ⟨#[], #[.slice none 0 0], []⟩ 8 (by kernel_rfl) (by kernel_rfl) (by kernel_rfl) (by kernel_rfl)) ?_
  intro W base args ds gs before hval0 hW hcnd _
  have hval : ∀ (j : Nat) t v, Try.f4.params[j]? = some t → args[j]? = some v → Value.okWide Try.prog W .any base t v := hval0
  have hW' := hW
  obtain ⟨p, q, hA0, hV, rfl, hfz, hnd⟩ := hW
  have hA : DataW.TrodAll enc Try.prog W 0 (fun _ => true) true Try.f4.params.toList args.toList ds p := hA0
  rw [Try.params4] at hA hval
  obtain ⟨v0, vs0, d0, ds0, p0, q0, hargs, rfl, rfl, h0, r0⟩ := trodAll_cons hA
  obtain ⟨rfl, rfl, rfl⟩ := trodAll_nil r0
  obtain rfl : args = #[v0] := by cases args; simp_all
  obtain ⟨rfl, rfl⟩ := trodVars_none hV
  obtain ⟨l0, s0, e0⟩ := open_bytes Try.underlying44 Try.underlying5 (by kernel_rfl) (hval 0 44 v0 rfl rfl) h0
  refine (walk v0 l0 W s0).mono fun e W' ⟨he, hb⟩ => ?_
  subst he
  exact ⟨_, rfl, law_post laidOut (by kernel_rfl) rfl (by kernel_rfl) Try.underlying4 rfl rfl rfl hW' hb⟩

theorem proved : Rows.TimerOrderSaid :=
  OpenClaim.holds_of_wide 4 Try.f4 rfl rfl rfl rfl rfl rfl rfl ⟨rfl, rfl, rfl, rfl, rfl⟩ rfl rfl rfl rfl rfl (by kernel_rfl) Try.func4 (by kernel_rfl)
    (of_decide_eq_true (by kernel_rfl)) (by unfold Func.isWrapper; first | (rw [if_pos (by decide +kernel)]; kernel_rfl) | (rw [if_neg (by decide +kernel)]; exact ⟨rfl, rfl⟩))
    (fun os started H enc _ => lifted os started H enc)
end Order
end Go.Proofs.Ytohbkepjbaigdaa
