/- TimerPlays: for all acts the statement's function tells true and turns nothing that was there. No condition. -/
import Derived.Test.YtohbkepjbaigdaaActT
import Derived.LoopTactic
import Derived.Deep.RegionHeldLaw
import Derived.Deep.DeepCutAuto
namespace Go.Proofs.Ytohbkepjbaigdaa
open Go.ChangeShapes Go.WideShapes Go.ChangeAt Go.RowKit Go.Lib
set_option linter.unusedVariables false
namespace Plays
set_option maxRecDepth 100000 in
set_option maxHeartbeats 2000000 in
theorem walk (v : Value) (acs : List Act10) (w : World) (hv : Acts w w.heap.size v acs) :
    Calls Try.prog 3 #[v] w fun e w' => e = .returned (.bool true) ∧ Below w.heap.size w w' := by
  obtain ⟨A, c, rfl, hc1, hc2⟩ := hv.form
  by_cases hll : 300 < acs.length
  · have hlx : (300 : Int) < (acs.length : Int) := by omega
    clear hv
    go_enter Try.func3, Try.ntmps3
    go_wp2_with (go_at_call 8; refine (known_any _).mono ?_; rintro e w1 ⟨rfl, hb1⟩)
    go_ret
    exact ⟨rfl, hb1⟩
  · have hlx : ¬ (300 : Int) < (acs.length : Int) := by omega
    go_enter Try.func3, Try.ntmps3
    go_wp2_with (first
      | (go_at_call 8; refine (known_any _).mono ?_; rintro e w1 ⟨rfl, hb1⟩)
      | (go_at_call 9; (with_reducible refine (new_s (Below.refl _ w1)).mono ?_); rintro e w2 ⟨rfl, hs2, hb2⟩))
    have hb3 : Below w2.heap.size w2 (w2.alloc (.cells #[.slice none 0 0, .int .i64 0] 29)) := (Below.refl _ w2).alloc (Nat.le_refl _) _
    have hboth : Both w1 (w2.alloc (.cells #[.slice none 0 0, .int .i64 0] 29)) w1.heap.size w2.heap.size [] [] 0 := by
      refine ⟨hs2.below hb3, ⟨.slice none 0 0, ⟨hb2.size, Mem.new w2 _ _, World.ownsRow_nil _ _ _ _⟩, hb2.trans (hb3.mono hb2.size)⟩, ⟨by simp [ids], by simp, rfl⟩⟩
    generalize w2.alloc (.cells #[.slice none 0 0, .int .i64 0] 29) = w3 at *
    go_loopw [5] (fun i wr => ∃ (k : Nat) (S L : List One) (n : Int), k ≤ acs.length ∧ i = .int .i64 k ∧ Both w1 wr w1.heap.size w2.heap.size S L n ∧ n ≤ 20 * (k : Int)) (fun i _ => acs.length - (intOf i).toNat)
    case atStart => exact ⟨0, [], [], 0, by omega, rfl, hboth, by omega⟩
    case round =>
      clear hboth
      obtain ⟨k, S, L, n, hk, rfl, hB, hn⟩ := hrel
      have hbw := hb1.trans (hB.tm.bl.mono hb1.size)
      by_cases hkl : k < acs.length
      · have hkx : (k : Int) < (acs.length : Int) := by omega
        obtain ⟨b, off, rfl, hbl, hx0, hx1, hx2⟩ := (hv.below hbw).at_ hkl
        have hok := hv.ok _ (List.getElem_mem hkl)
        generalize acs[k] = a at *
        obtain ⟨op, id, m⟩ := a
        simp only at hx0 hx1 hx2
        have hbA : Below wr.heap.size wr (wr.alloc (.cells #[.int .i64 op, .int .i64 id, .int .i64 m] 31)) := (Below.refl _ wr).alloc (Nat.le_refl _) _
        have hBA := hB.below hbA
        have hmA : Mem (wr.alloc (.cells #[.int .i64 op, .int .i64 id, .int .i64 m] 31)) wr.heap.size 31 #[.int .i64 op, .int .i64 id, .int .i64 m] := Mem.new wr _ _
        go_upto_region 11 with (fail)
        rename_i K0 hK0
        have HK0 := Lib.hid hK0
        clear hK0
        go_wp2
        refine HK0.out _ _ ?_
        clear HK0 K0
        clear hx0 hx1 hx2 hB
        generalize hX2 : wr.heap.size = ax at *
        have HX2 := Lib.hid hX2
        clear hX2
        generalize wr.alloc (.cells #[.int .i64 op, .int .i64 id, .int .i64 m] 31) = wa at *
        go_cut [7] (fun s7 wx => ∃ (S' L' : List One) (n' : Int), Both w1 wx w1.heap.size w2.heap.size S' L' n' ∧ n' ≤ n + 20 ∧ Mem wx ax 31 #[.int .i64 op, .int .i64 id, .int .i64 m])
        case rest =>
          obtain ⟨S', L', n', hB2, hn2, hm2⟩ := hcut
          obtain ⟨ln, lb, hL1, hL2⟩ := hB2.left id
          obtain ⟨nn, nb, hN1, hN2⟩ := hB2.next
          have hF : ∀ W, Below wc.heap.size wc W → W.cell? ⟨ax, 1, none⟩ = some (.int .i64 id) := fun W hW => (hm2.below hW hm2.lt).cell 1
          have x0 := hF wc (Below.refl _ _)
          have hT := fun W (hW : Below wc.heap.size wc W) => hB2.tm.below hW
          have hnow := fun W hW => now_s (hT W hW)
          have hlen := fun W hW => len_s (hT W hW)
          rw [hB2.rl.len] at hlen
          obtain ⟨u, q1, q2⟩ := hB2.rf
          obtain ⟨Au, cu, rfl, _, _⟩ := q1.parts
          have hR : ∀ W, Below wc.heap.size wc W → W.cell? ⟨w2.heap.size, 0, none⟩ = some (.slice Au L'.length cu) ∧ W.cell? ⟨w2.heap.size, 1, none⟩ = some (.int .i64 n') := fun W hW => ⟨(q1.below hW).mem.cell 0, (q1.below hW).mem.cell 1⟩
          clear hT q1 q2
          go_wp2_with (first
            | (go_at_call 17; (with_reducible refine (hL1 _ (Below.refl _ _)).mono ?_); rintro e w5 ⟨rfl, hb5⟩; have x5 := hF _ hb5)
            | (go_at_call 18; (with_reducible refine (hL2 _ hb5).mono ?_); rintro e w6 ⟨rfl, hb6'⟩; have hb6 := hb5.trans (hb6'.mono hb5.size))
            | (go_at_call 19; (with_reducible refine (hN1 _ hb6).mono ?_); rintro e w7 ⟨rfl, hb7'⟩; have hb7 := hb6.trans (hb7'.mono hb6.size))
            | (go_at_call 20; (with_reducible refine (hN2 _ hb7).mono ?_); rintro e w8 ⟨rfl, hb8'⟩; have hb8 := hb7.trans (hb8'.mono hb7.size)))
          have hR8 := fun W (hW : Below w8.heap.size w8 W) => hR W (hb8.trans (hW.mono hb8.size))
          have hnow8 := fun W (hW : Below w8.heap.size w8 W) => hnow W (hb8.trans (hW.mono hb8.size))
          have hlen8 := fun W (hW : Below w8.heap.size w8 W) => hlen W (hb8.trans (hW.mono hb8.size))
          clear hL1 hL2 hN1 hN2 hR hnow hlen
          apply calm_region ((.is _) :: (.is _) :: (.is _) :: (.is _) :: (.is _) :: (.is _) :: (.is _) :: (.is _) :: (.is _) :: (.is _) :: (.is _) :: (.is _) :: (.is _) :: (.is _) :: (.is _) :: (.is _) :: (.is _) :: (.is _) :: (.is _) :: (.is _) :: (.is _) :: (.is _) :: (.is _) :: (.is _) :: (.is _) :: (.is _) :: (.is _) :: (.is _) :: (.is _) :: (.is _) :: (.is _) :: (.is _) :: (.is _) :: (.is _) :: (.is _) :: (.is _) :: (.is _) :: []) [[], [], [0, 1], [2], [3], [3], [4, 5, 3], [3, 6], [7, 3], [8], [8], [9, 10, 8], [8, 11], [12, 8], [13], [13], [14, 15, 13], [13, 16], [17, 13], [18], [19, 18, 18], [18], [21, 18], [22, 18], [23, 18], [20, 24, 18], [18, 25], [26, 20], [27], [28, 27, 27], [27], [30, 27], [31, 27], [32, 27], [33, 27], [29, 34, 27], [27, 35]] (by kernel_rfl) (by kernel_rfl) (by kernel_rfl) rfl
          intro f a1 ha1
          simp only [putL, Act.put, List.setIfInBounds_toArray, List.set_cons_succ, List.set_cons_zero] at ha1
          subst ha1
          refine ⟨?_, ?_⟩
          · refine AllCalm.cons (fun W hB hd => ?_) ?_
            · go_wp2_with (fail)
              exact CalmQ.mk rfl _ rfl (Below.refl _ _) rfl
            refine AllCalm.cons (fun W hB hd => ?_) ?_
            · go_wp2_with (fail)
              exact CalmQ.mk rfl _ rfl (Below.refl _ _) rfl
            refine AllCalm.cons (fun W hB hd => ?_) ?_
            · obtain ⟨h0, h1, -⟩ := hd
              have h0 : f 0 = _ := h0
              have h1 : f 1 = _ := h1
              rw [h0, h1]
              go_wp2_with (fail)
              exact CalmQ.mk rfl _ rfl (Below.refl _ _) rfl
            refine AllCalm.cons (fun W hB hd => ?_) ?_
            · obtain ⟨h2, -⟩ := hd
              have h2 : f 2 = _ := h2
              rw [h2]
              go_wp2_with (fail)
              exact CalmQ.mk rfl _ rfl (Below.refl _ _) rfl
            refine AllCalm.cons (fun W hB hd => ?_) ?_
            · obtain ⟨h3, -⟩ := hd
              have h3 : f 3 = _ := h3
              rw [h3]
              go_wp2_with (fail)
              exact CalmQ.mk rfl _ rfl (Below.refl _ _) rfl
            refine AllCalm.cons (fun W hB hd => ?_) ?_
            · obtain ⟨h3, -⟩ := hd
              have h3 : f 3 = _ := h3
              rw [h3]
              go_wp2_with (fail)
              exact CalmQ.mk rfl _ rfl (Below.refl _ _) rfl
            refine AllCalm.cons (fun W hB hd => ?_) ?_
            · obtain ⟨h4, h5, h3, -⟩ := hd
              have h4 : f 4 = _ := h4
              have h5 : f 5 = _ := h5
              have h3 : f 3 = _ := h3
              rw [h4, h5, h3]
              go_wp2_with (fail)
              exact CalmQ.mk rfl _ rfl (Below.refl _ _) rfl
            refine AllCalm.cons (fun W hB hd => ?_) ?_
            · obtain ⟨h3, h6, -⟩ := hd
              have h3 : f 3 = _ := h3
              have h6 : f 6 = _ := h6
              rw [h3, h6]
              go_wp2_with (fail)
              exact CalmQ.mk rfl _ rfl (Below.refl _ _) rfl
            refine AllCalm.cons (fun W hB hd => ?_) ?_
            · obtain ⟨h7, h3, -⟩ := hd
              have h7 : f 7 = _ := h7
              have h3 : f 3 = _ := h3
              rw [h7, h3]
              go_wp2_with (fail)
              exact CalmQ.mk rfl _ rfl (Below.refl _ _) rfl
            refine AllCalm.cons (fun W hB hd => ?_) ?_
            · obtain ⟨h8, -⟩ := hd
              have h8 : f 8 = _ := h8
              rw [h8]
              go_wp2_with (fail)
              exact CalmQ.mk rfl _ rfl (Below.refl _ _) rfl
            refine AllCalm.cons (fun W hB hd => ?_) ?_
            · obtain ⟨h8, -⟩ := hd
              have h8 : f 8 = _ := h8
              rw [h8]
              go_wp2_with (fail)
              exact CalmQ.mk rfl _ rfl (Below.refl _ _) rfl
            refine AllCalm.cons (fun W hB hd => ?_) ?_
            · obtain ⟨h9, h10, h8, -⟩ := hd
              have h9 : f 9 = _ := h9
              have h10 : f 10 = _ := h10
              have h8 : f 8 = _ := h8
              rw [h9, h10, h8]
              go_wp2_with (fail)
              exact CalmQ.mk rfl _ rfl (Below.refl _ _) rfl
            refine AllCalm.cons (fun W hB hd => ?_) ?_
            · obtain ⟨h8, h11, -⟩ := hd
              have h8 : f 8 = _ := h8
              have h11 : f 11 = _ := h11
              rw [h8, h11]
              go_wp2_with (fail)
              exact CalmQ.mk rfl _ rfl (Below.refl _ _) rfl
            refine AllCalm.cons (fun W hB hd => ?_) ?_
            · obtain ⟨h12, h8, -⟩ := hd
              have h12 : f 12 = _ := h12
              have h8 : f 8 = _ := h8
              rw [h12, h8]
              go_wp2_with (fail)
              exact CalmQ.mk rfl _ rfl (Below.refl _ _) rfl
            refine AllCalm.cons (fun W hB hd => ?_) ?_
            · obtain ⟨h13, -⟩ := hd
              have h13 : f 13 = _ := h13
              rw [h13]
              go_wp2_with (fail)
              exact CalmQ.mk rfl _ rfl (Below.refl _ _) rfl
            refine AllCalm.cons (fun W hB hd => ?_) ?_
            · obtain ⟨h13, -⟩ := hd
              have h13 : f 13 = _ := h13
              rw [h13]
              go_wp2_with (fail)
              exact CalmQ.mk rfl _ rfl (Below.refl _ _) rfl
            refine AllCalm.cons (fun W hB hd => ?_) ?_
            · obtain ⟨h14, h15, h13, -⟩ := hd
              have h14 : f 14 = _ := h14
              have h15 : f 15 = _ := h15
              have h13 : f 13 = _ := h13
              rw [h14, h15, h13]
              go_wp2_with (fail)
              exact CalmQ.mk rfl _ rfl (Below.refl _ _) rfl
            refine AllCalm.cons (fun W hB hd => ?_) ?_
            · obtain ⟨h13, h16, -⟩ := hd
              have h13 : f 13 = _ := h13
              have h16 : f 16 = _ := h16
              rw [h13, h16]
              go_wp2_with (fail)
              exact CalmQ.mk rfl _ rfl (Below.refl _ _) rfl
            refine AllCalm.cons (fun W hB hd => ?_) ?_
            · obtain ⟨h17, h13, -⟩ := hd
              have h17 : f 17 = _ := h17
              have h13 : f 13 = _ := h13
              rw [h17, h13]
              go_wp2_with (fail)
              exact CalmQ.mk rfl _ rfl (Below.refl _ _) rfl
            refine AllCalm.cons (fun W hB hd => ?_) ?_
            · obtain ⟨h18, -⟩ := hd
              have h18 : f 18 = _ := h18
              rw [h18]
              go_wp2_with (fail)
              exact CalmQ.mk rfl _ rfl (Below.refl _ _) rfl
            refine AllCalm.cons (fun W hB hd => ?_) ?_
            · obtain ⟨h19, h18, -, -⟩ := hd
              have h19 : f 19 = _ := h19
              have h18 : f 18 = _ := h18
              rw [h19, h18]
              go_wp2_with ((go_at_call 21; (with_reducible refine (hnow8 W hB).mono ?_); rintro e w9 ⟨rfl, rfl⟩))
              exact CalmQ.mk rfl _ rfl (Below.refl _ _) rfl
            refine AllCalm.cons (fun W hB hd => ?_) ?_
            · obtain ⟨h18, -⟩ := hd
              have h18 : f 18 = _ := h18
              rw [h18]
              go_wp2_with (fail)
              exact CalmQ.mk rfl _ rfl (Below.refl _ _) rfl
            refine AllCalm.cons (fun W hB hd => ?_) ?_
            · obtain ⟨h21, h18, -⟩ := hd
              have h21 : f 21 = _ := h21
              have h18 : f 18 = _ := h18
              rw [h21, h18]
              go_wp2_with (fail)
              exact CalmQ.mk rfl _ rfl (Below.refl _ _) rfl
            refine AllCalm.cons (fun W hB hd => ?_) ?_
            · obtain ⟨h22, h18, -⟩ := hd
              have h22 : f 22 = _ := h22
              have h18 : f 18 = _ := h18
              rw [h22, h18]
              go_wp2_with (fail)
              exact CalmQ.mk rfl _ rfl (Below.refl _ _) rfl
            refine AllCalm.cons (fun W hB hd => ?_) ?_
            · obtain ⟨h23, h18, -⟩ := hd
              have h23 : f 23 = _ := h23
              have h18 : f 18 = _ := h18
              rw [h23, h18]
              have kx := (hR8 W hB).2
              go_wp2_with (fail)
              exact CalmQ.mk rfl _ rfl (Below.refl _ _) rfl
            refine AllCalm.cons (fun W hB hd => ?_) ?_
            · obtain ⟨h20, h24, h18, -⟩ := hd
              have h20 : f 20 = _ := h20
              have h24 : f 24 = _ := h24
              have h18 : f 18 = _ := h18
              rw [h20, h24, h18]
              go_wp2_with (fail)
              exact CalmQ.mk rfl _ rfl (Below.refl _ _) rfl
            refine AllCalm.cons (fun W hB hd => ?_) ?_
            · obtain ⟨h18, h25, -⟩ := hd
              have h18 : f 18 = _ := h18
              have h25 : f 25 = _ := h25
              rw [h18, h25]
              go_wp2_with (fail)
              exact CalmQ.mk rfl _ rfl (Below.refl _ _) rfl
            refine AllCalm.cons (fun W hB hd => ?_) ?_
            · obtain ⟨h26, h20, -⟩ := hd
              have h26 : f 26 = _ := h26
              have h20 : f 20 = _ := h20
              rw [h26, h20]
              go_wp2_with (fail)
              exact CalmQ.mk rfl _ rfl (Below.refl _ _) rfl
            refine AllCalm.cons (fun W hB hd => ?_) ?_
            · obtain ⟨h27, -⟩ := hd
              have h27 : f 27 = _ := h27
              rw [h27]
              go_wp2_with (fail)
              exact CalmQ.mk rfl _ rfl (Below.refl _ _) rfl
            refine AllCalm.cons (fun W hB hd => ?_) ?_
            · obtain ⟨h28, h27, -, -⟩ := hd
              have h28 : f 28 = _ := h28
              have h27 : f 27 = _ := h27
              rw [h28, h27]
              go_wp2_with ((go_at_call 22; (with_reducible refine (hlen8 W hB).mono ?_); rintro e w9 ⟨rfl, rfl⟩))
              exact CalmQ.mk rfl _ rfl (Below.refl _ _) rfl
            refine AllCalm.cons (fun W hB hd => ?_) ?_
            · obtain ⟨h27, -⟩ := hd
              have h27 : f 27 = _ := h27
              rw [h27]
              go_wp2_with (fail)
              exact CalmQ.mk rfl _ rfl (Below.refl _ _) rfl
            refine AllCalm.cons (fun W hB hd => ?_) ?_
            · obtain ⟨h30, h27, -⟩ := hd
              have h30 : f 30 = _ := h30
              have h27 : f 27 = _ := h27
              rw [h30, h27]
              go_wp2_with (fail)
              exact CalmQ.mk rfl _ rfl (Below.refl _ _) rfl
            refine AllCalm.cons (fun W hB hd => ?_) ?_
            · obtain ⟨h31, h27, -⟩ := hd
              have h31 : f 31 = _ := h31
              have h27 : f 27 = _ := h27
              rw [h31, h27]
              go_wp2_with (fail)
              exact CalmQ.mk rfl _ rfl (Below.refl _ _) rfl
            refine AllCalm.cons (fun W hB hd => ?_) ?_
            · obtain ⟨h32, h27, -⟩ := hd
              have h32 : f 32 = _ := h32
              have h27 : f 27 = _ := h27
              rw [h32, h27]
              have kx := (hR8 W hB).1
              go_wp2_with (fail)
              exact CalmQ.mk rfl _ rfl (Below.refl _ _) rfl
            refine AllCalm.cons (fun W hB hd => ?_) ?_
            · obtain ⟨h33, h27, -⟩ := hd
              have h33 : f 33 = _ := h33
              have h27 : f 27 = _ := h27
              rw [h33, h27]
              go_wp2_with (fail)
              exact CalmQ.mk rfl _ rfl (Below.refl _ _) rfl
            refine AllCalm.cons (fun W hB hd => ?_) ?_
            · obtain ⟨h29, h34, h27, -⟩ := hd
              have h29 : f 29 = _ := h29
              have h34 : f 34 = _ := h34
              have h27 : f 27 = _ := h27
              rw [h29, h34, h27]
              go_wp2_with (fail)
              exact CalmQ.mk rfl _ rfl (Below.refl _ _) rfl
            refine AllCalm.cons (fun W hB hd => ?_) ?_
            · obtain ⟨h27, h35, -⟩ := hd
              have h27 : f 27 = _ := h27
              have h35 : f 35 = _ := h35
              rw [h27, h35]
              go_wp2_with (fail)
              exact CalmQ.mk rfl _ rfl (Below.refl _ _) rfl
            exact AllCalm.nil
          · intro W hB hT
            obtain ⟨h0, h1, h2, h3, h4, h5, h6, h7, h8, h9, h10, h11, h12, h13, h14, h15, h16, h17, h18, h19, h20, h21, h22, h23, h24, h25, h26, h27, h28, h29, h30, h31, h32, h33, h34, h35, h36, -⟩ := hT
            have h0 : f 0 = _ := h0
            have h1 : f 1 = _ := h1
            have h2 : f 2 = _ := h2
            have h3 : f 3 = _ := h3
            have h4 : f 4 = _ := h4
            have h5 : f 5 = _ := h5
            have h6 : f 6 = _ := h6
            have h7 : f 7 = _ := h7
            have h8 : f 8 = _ := h8
            have h9 : f 9 = _ := h9
            have h10 : f 10 = _ := h10
            have h11 : f 11 = _ := h11
            have h12 : f 12 = _ := h12
            have h13 : f 13 = _ := h13
            have h14 : f 14 = _ := h14
            have h15 : f 15 = _ := h15
            have h16 : f 16 = _ := h16
            have h17 : f 17 = _ := h17
            have h18 : f 18 = _ := h18
            have h19 : f 19 = _ := h19
            have h20 : f 20 = _ := h20
            have h21 : f 21 = _ := h21
            have h22 : f 22 = _ := h22
            have h23 : f 23 = _ := h23
            have h24 : f 24 = _ := h24
            have h25 : f 25 = _ := h25
            have h26 : f 26 = _ := h26
            have h27 : f 27 = _ := h27
            have h28 : f 28 = _ := h28
            have h29 : f 29 = _ := h29
            have h30 : f 30 = _ := h30
            have h31 : f 31 = _ := h31
            have h32 : f 32 = _ := h32
            have h33 : f 33 = _ := h33
            have h34 : f 34 = _ := h34
            have h35 : f 35 = _ := h35
            have h36 : f 36 = _ := h36
            rw [h0, h1, h2, h3, h4, h5, h6, h7, h8, h9, h10, h11, h12, h13, h14, h15, h16, h17, h18, h19, h20, h21, h22, h23, h24, h25, h26, h27, h28, h29, h30, h31, h32, h33, h34, h35, h36]
            clear h0 h1 h2 h3 h4 h5 h6 h7 h8 h9 h10 h11 h12 h13 h14 h15 h16 h17 h18 h19 h20 h21 h22 h23 h24 h25 h26 h27 h28 h29 h30 h31 h32 h33 h34 h35 h36
            skip
            go_wp2
            exact ⟨⟨k + 1, S', L', n', by omega, by simp, hB2.below (hb8.trans (hB.mono hb8.size)), by omega⟩, by simp [intOf]; omega⟩
        case first =>
          have hdr : Below wa.heap.size wa wa.drew := (Below.refl _ _).drew
          have hst : ∀ W, Mem W ax 31 #[.int .i64 op, .int .i64 id, .int .i64 m] → W.cell? ⟨ax, 1, none⟩ = some (.int .i64 id) ∧ W.cell? ⟨ax, 2, none⟩ = some (.int .i64 m) := fun W h => ⟨h.cell 1, h.cell 2⟩
          have hBd := hBA.below hdr
          have hmd : Mem wa.drew ax 31 #[.int .i64 op, .int .i64 id, .int .i64 m] := hmA.below hdr hmA.lt
          have hne : 31 ≠ 50 ∧ 31 ≠ 54 ∧ 31 ≠ 29 ∧ 31 ≠ 56 := ⟨by decide, by decide, by decide, by decide⟩
          by_cases h1 : op = 1
          · obtain ⟨cc, hset⟩ := hBd.set id m
            subst h1
            have xd := hst _ hmd
            go_wp2
            go_region_held_law (fun W => W.cell? ⟨ax, 1, none⟩ = some (.int .i64 id) ∧ W.cell? ⟨ax, 2, none⟩ = some (.int .i64 m)) (first | assumption | exact hst _ hm6 | exact hst _ hm5 | exact hst _ hmd) (first
              | (rw [if_pos (by rfl)]; go_simp; go_at_call 10; (with_reducible refine hset.mono ?_); rintro e w5 ⟨rfl, hk5, hr5⟩; have hm5 := hmd.kp hk5 hne; dsimp only)
              | (rw [if_pos (by rfl)]; go_simp; go_at_call 11; (with_reducible refine hr5.mono ?_); rintro e w6 ⟨rfl, hk6, S6, L6, hB6⟩; have hm6 := hm5.kp hk6 hne; dsimp only))
            all_goals (go_wp2_with fail)
            all_goals go_meet
            all_goals exact ⟨S6, L6, n, hB6, by omega, hm6⟩
          · by_cases h2 : op = 2
            · obtain ⟨cc, hset⟩ := hBd.stop id
              subst h2
              have xd := (hst _ hmd).1
              go_wp2
              go_region_held_law (fun W => W.cell? ⟨ax, 1, none⟩ = some (.int .i64 id)) (first | assumption | exact (hst _ hm6).1 | exact (hst _ hm5).1 | exact (hst _ hmd).1) (first
                | (rw [if_pos (by rfl)]; go_simp; go_at_call 12; (with_reducible refine hset.mono ?_); rintro e w5 ⟨rfl, hk5, hr5⟩; have hm5 := hmd.kp hk5 hne; dsimp only)
                | (rw [if_pos (by rfl)]; go_simp; go_at_call 13; (with_reducible refine hr5.mono ?_); rintro e w6 ⟨rfl, hk6, S6, L6, hB6⟩; have hm6 := hm5.kp hk6 hne; dsimp only))
              all_goals (go_wp2_with fail)
              all_goals go_meet
              all_goals exact ⟨S6, L6, n, hB6, by omega, hm6⟩
            · by_cases h3 : op = 3
              · subst h3
                clear h1 h2 hBd hmd hdr
                go_wp2
                go_loopw [7] (fun s7 wq => ∃ (q : Nat) (S2 L2 : List One), q ≤ 20 ∧ s7 = .int .i64 q ∧ Both w1 wq w1.heap.size w2.heap.size S2 L2 (n + (q : Int)) ∧ Mem wq ax 31 #[.int .i64 3, .int .i64 id, .int .i64 m]) (fun s7 _ => 20 - (intOf s7).toNat)
                case atStart => exact ⟨0, S, L, by omega, rfl, by simpa using hBA, hmA⟩
                case round =>
                  clear hBA hmA
                  obtain ⟨q, S2, L2, hq, rfl, hBq, hmq⟩ := hrel
                  have xq := (hst _ hmq).2
                  by_cases hqm : (q : Int) < m
                  · by_cases hq20 : q < 20
                    · have hq20x : (q : Int) < 20 := by omega
                      have htick := hBq.tick (by omega)
                      go_wp2_with (first
                        | (go_at_call 15; (with_reducible refine htick.mono ?_); rintro e w5 ⟨A1, c1, I, rfl, hk5, hI6, ho5, hr5⟩; have hm5 := hmq.kp hk5 hne)
                        | (go_at_call 16; (with_reducible refine hr5.mono ?_); rintro e w6 ⟨A2, c2, rfl, hk6, ho6, ho56, S6, L6, hB6⟩; have hm6 := hm5.kp hk6 hne)
                        | (go_at_call 14; (with_reducible refine (ints_same A1 A2 c1 c2 _ _ I _ (by omega) ho56 ho6).mono ?_); rintro e w7 ⟨rfl, hb7⟩))
                      have e1 : n + (q : Int) + 1 = n + ((q + 1 : Nat) : Int) := by omega
                      rw [e1] at hB6
                      exact ⟨⟨q + 1, S6, L6, by omega, by simp, hB6.below hb7, hm6.below hb7 hm6.lt⟩, by simp [intOf]; omega⟩
                    · obtain rfl : q = 20 := by omega
                      go_wp2
                      go_meet
                      exact ⟨S2, L2, n + 20, hBq, by omega, hmq⟩
                  · go_wp2
                    go_meet
                    exact ⟨S2, L2, n + (q : Int), hBq, by omega, hmq⟩
              · have xd := hmA.cell 0
                go_wp2
                go_meet
                exact ⟨S, L, n, hBA, by omega, hmA⟩
      · obtain rfl : k = acs.length := by omega
        go_wp2
        go_ret
        exact ⟨rfl, hbw⟩
set_option maxRecDepth 100000 in
theorem lifted (os : Os) (started : os.Started) (H : Type) (enc : TypeId × Value → H) :
    ReturnsInHanded {} Try.checked os 3 .any (Rows.timerPlaysSpec.pre6 enc Try.prog Try.f3 Rows.timerPlaysRow.domain false) (Rows.timerPlaysSpec.post enc Try.prog Try.f3 false true false false) := by
  refine returnsInHanded_of_change (C := Try.checked) own started (by kernel_rfl) Try.func3
    (ChangeSpec.witness6 (enc := enc) (C := Try.checked) false ⟨#[], #[.slice none 0 0], []⟩ 8 (by kernel_rfl) (by kernel_rfl) (by kernel_rfl) (by kernel_rfl)) ?_
  intro W base args ds gs before hval0 hW hcnd _
  have hval : ∀ (j : Nat) t v, Try.f3.params[j]? = some t → args[j]? = some v → Value.okWide Try.prog W .any base t v := hval0
  have hW' := hW
  obtain ⟨p, q, hA0, hV, rfl, hfz, hnd⟩ := hW
  have hA : DataW.TrodAll enc Try.prog W 0 (fun _ => true) true Try.f3.params.toList args.toList ds p := hA0
  rw [Try.params3] at hA hval
  obtain ⟨v0, vs0, d0, ds0, p0, q0, hargs, rfl, rfl, h0, r0⟩ := trodAll_cons hA
  obtain ⟨rfl, rfl, rfl⟩ := trodAll_nil r0
  obtain rfl : args = #[v0] := by cases args; simp_all
  obtain ⟨rfl, rfl⟩ := trodVars_none hV
  obtain ⟨acs0, s0⟩ := open_acts (hval 0 22 v0 rfl rfl) h0
  refine (walk v0 acs0 W s0).mono fun e W' ⟨he, hb⟩ => ?_
  subst he
  exact ⟨_, rfl, law_post laidOut (by kernel_rfl) rfl (by kernel_rfl) Try.underlying4 rfl rfl rfl hW' hb⟩

theorem proved : Rows.TimerPlaysSaid :=
  OpenClaim.holds_of_wide 3 Try.f3 rfl rfl rfl rfl rfl rfl rfl ⟨rfl, rfl, rfl, rfl, rfl⟩ rfl rfl rfl rfl rfl (by kernel_rfl) Try.func3 (by kernel_rfl)
    (of_decide_eq_true (by kernel_rfl)) (by unfold Func.isWrapper; first | (rw [if_pos (by decide +kernel)]; kernel_rfl) | (rw [if_neg (by decide +kernel)]; exact ⟨rfl, rfl⟩))
    (fun os started H enc _ => lifted os started H enc)
end Plays
end Go.Proofs.Ytohbkepjbaigdaa
