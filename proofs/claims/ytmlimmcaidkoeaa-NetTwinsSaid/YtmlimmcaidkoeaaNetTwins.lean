/- NetTwins: for all acts of all three arguments the statement's function tells true and turns nothing that was there. No condition. -/
import Derived.Test.YtmlimmcaidkoeaaTw3
import Derived.LoopTactic
namespace Go.Proofs.Ytmlimmcaidkoeaa
open Go.ChangeShapes Go.WideShapes Go.ChangeAt Go.RowKit Go.Lib
set_option linter.unusedVariables false
namespace Twins
theorem few_len {acs : List Act9} (h : fewB acs = true) : acs.length ≤ 150 := by
  unfold fewB at h
  rw [Bool.and_eq_true] at h
  exact of_decide_eq_true h.1
set_option maxRecDepth 100000 in
set_option maxHeartbeats 1000000 in
theorem walk_no (v0 : Value) (acs0 : List Act9) (v1 : Value) (acs1 : List Act9) (v2 : Value) (acs2 : List Act9) (w : World) (hv0 : Acts w w.heap.size v0 acs0) (hv1 : Acts w w.heap.size v1 acs1) (hv2 : Acts w w.heap.size v2 acs2) (hno : fewB acs0 = false ∨ fewB acs1 = false ∨ fewB acs2 = false) :
    Calls Try.prog 4 #[v0, v1, v2] w fun e w' => e = .returned (.bool true) ∧ Below w.heap.size w w' := by
  obtain ⟨A0, c0, rfl, _, _⟩ := hv0.form
  obtain ⟨A1, c1, rfl, _, _⟩ := hv1.form
  obtain ⟨A2, c2, rfl, _, _⟩ := hv2.form
  have hf0 := fun W hW => few_go1 _ acs0 w W hW hv0
  have hf1 := fun W hW => few_go1 _ acs1 w W hW hv1
  have hf2 := fun W hW => few_go1 _ acs2 w W hW hv2
  clear hv0 hv1 hv2
  generalize fewB acs0 = q0 at *
  generalize fewB acs1 = q1 at *
  generalize fewB acs2 = q2 at *
  cases q0
  · clear hno
    go_enter Try.func4, Try.ntmps4
    go_wp2_with (first
      | (go_at_call 9; refine (known_any _).mono ?_; rintro e w1 ⟨rfl, hb1⟩)
      | (go_at_call 10; (with_reducible refine (hf0 _ hb1).mono ?_); rintro e w2 ⟨rfl, rfl⟩))
    go_ret
    exact ⟨rfl, hb1⟩
  · cases q1
    · clear hno
      go_enter Try.func4, Try.ntmps4
      go_wp2_with (first
        | (go_at_call 9; refine (known_any _).mono ?_; rintro e w1 ⟨rfl, hb1⟩)
        | (go_at_call 10; (with_reducible refine (hf0 _ hb1).mono ?_); rintro e w2 ⟨rfl, rfl⟩)
        | (go_at_call 10; (with_reducible refine (hf1 _ hb1).mono ?_); rintro e w2 ⟨rfl, rfl⟩))
      go_ret
      exact ⟨rfl, hb1⟩
    · obtain rfl : q2 = false := by simpa using hno
      clear hno
      go_enter Try.func4, Try.ntmps4
      go_wp2_with (first
        | (go_at_call 9; refine (known_any _).mono ?_; rintro e w1 ⟨rfl, hb1⟩)
        | (go_at_call 10; (with_reducible refine (hf0 _ hb1).mono ?_); rintro e w2 ⟨rfl, rfl⟩)
        | (go_at_call 10; (with_reducible refine (hf1 _ hb1).mono ?_); rintro e w2 ⟨rfl, rfl⟩)
        | (go_at_call 10; (with_reducible refine (hf2 _ hb1).mono ?_); rintro e w2 ⟨rfl, rfl⟩))
      go_ret
      exact ⟨rfl, hb1⟩
set_option maxRecDepth 100000 in
set_option maxHeartbeats 1000000 in
theorem walk_yes (v0 : Value) (acs0 : List Act9) (v1 : Value) (acs1 : List Act9) (v2 : Value) (acs2 : List Act9) (w : World) (hv0 : Acts w w.heap.size v0 acs0) (hv1 : Acts w w.heap.size v1 acs1) (hv2 : Acts w w.heap.size v2 acs2) (hq0 : fewB acs0 = true) (hq1 : fewB acs1 = true) (hq2 : fewB acs2 = true) :
    Calls Try.prog 4 #[v0, v1, v2] w fun e w' => e = .returned (.bool true) ∧ Below w.heap.size w w' := by
  obtain ⟨A0, c0, rfl, hc01, hc02⟩ := hv0.form
  obtain ⟨A1, c1, rfl, hc11, hc12⟩ := hv1.form
  obtain ⟨A2, c2, rfl, hc21, hc22⟩ := hv2.form
  have hf0 := fun W hW => few_go1 _ acs0 w W hW hv0
  have hf1 := fun W hW => few_go1 _ acs1 w W hW hv1
  have hf2 := fun W hW => few_go1 _ acs2 w W hW hv2
  have hl0 := few_len hq0
  have hl1 := few_len hq1
  have hl2 := few_len hq2
  rw [hq0] at hf0
  rw [hq1] at hf1
  rw [hq2] at hf2
  clear hq0 hq1 hq2
  have hl0x : (acs0.length : Int) ≤ 150 := by omega
  have hl1x : (acs1.length : Int) ≤ 150 := by omega
  have hl2x : (acs2.length : Int) ≤ 150 := by omega
  have hnew : ∀ W, Below w.heap.size w W → Calls Try.prog 11 #[.int .i64 4] W fun e w' => e = .returned (.tuple #[.pointer (some ⟨W.heap.size, 0, none⟩), .int .i64 0]) ∧ NetInv w' w.heap.size W.heap.size (.slice none 0 0) 4 [] 0 ∧ Below w.heap.size w w' := by
    intro W hW
    refine Calls.mono (netnew_any 4 (by omega) (by omega) W) ?_
    rintro e w' ⟨rfl, hn, hb⟩
    exact ⟨rfl, ⟨hW.size, hn.mem, World.ownsRow_nil _ _ _ _, by simp, by simp⟩, hW.trans (hb.mono hW.size)⟩
  have hrnew : ∀ W X, Below w.heap.size w W → NetInv W w.heap.size X (.slice none 0 0) 4 [] 0 → Calls Try.prog 12 #[.int .i64 4] W fun e w' => e = .returned (.tuple #[.pointer (some ⟨W.heap.size, 0, none⟩), .int .i64 0]) ∧ NetInv w' w.heap.size X (.slice none 0 0) 4 [] 0 ∧ RefInv w' w.heap.size W.heap.size (.slice none 0 0) 4 [] 0 ∧ Below w.heap.size w w' := by
    intro W X hW hnW
    refine Calls.mono (rnew_any 4 (by omega) (by omega) W) ?_
    rintro e w' ⟨rfl, hn, hb⟩
    exact ⟨rfl, hnW.below hb, ⟨hW.size, hn.mem, World.ownsRow_nil _ _ _ _, by simp, by simp⟩, hW.trans (hb.mono hW.size)⟩
  go_enter Try.func4, Try.ntmps4
  go_wp2_with (first
    | (go_at_call 9; refine (known_any _).mono ?_; rintro e w1 ⟨rfl, hb1⟩)
    | (go_at_call 10; (with_reducible refine (hf0 _ hb1).mono ?_); rintro e w2 ⟨rfl, rfl⟩)
    | (go_at_call 10; (with_reducible refine (hf1 _ hb1).mono ?_); rintro e w2 ⟨rfl, rfl⟩)
    | (go_at_call 10; (with_reducible refine (hf2 _ hb1).mono ?_); rintro e w2 ⟨rfl, rfl⟩)
    | (go_at_call 11; (with_reducible refine (hnew _ hb1).mono ?_); rintro e w2 ⟨rfl, hn2, hb2⟩)
    | (go_at_call 12; (with_reducible refine (hrnew _ _ hb2 hn2).mono ?_); rintro e w3 ⟨rfl, hn3, hr3, hb3⟩))
  clear hnew hrnew hf0 hf1 hf2
  generalize w1.heap.size = X at *
  generalize w2.heap.size = R at *
  go_loopw [11] (fun i wr => ∃ (v : Value) (u : Value) (L : List Pk) (s k : Nat), k ≤ acs0.length ∧ i = .int .i64 k ∧ NetInv wr w.heap.size X v 4 L s ∧ RefInv wr w.heap.size R u 4 (L.map Pk.ab) s ∧ Below w.heap.size w wr ∧ Hid (s ≤ k)) (fun i _ => acs0.length - (intOf i).toNat)
  case atStart => exact ⟨_, _, [], 0, 0, by omega, rfl, hn3, hr3, hb3, Lib.hid (Nat.le_refl _)⟩
  case round =>
    clear hn3 hr3 hb3 hn2 hb2 hb1
    obtain ⟨v, u, L, s, k, hk, rfl, hn, hr, hb, HS⟩ := hrel
    by_cases hlt : k < acs0.length
    · have hltx : (k : Int) < (acs0.length : Int) := by omega
      obtain ⟨b0, f0, rfl, op, fr, to, n, Ad, cd, ll, hcl, hdo, _⟩ := hv0.doing hlt
      have hdo1 := hdo wr X R 4 s u v L hb hn hr (by have := HS.out; omega)
      obtain ⟨y0, y1, y2, y3, y4⟩ := hcl wr hb
      clear hcl hdo
      go_wp2_with (go_at_call 13; (with_reducible refine hdo1.mono ?_); rintro e w4 ⟨rfl, hb4, v', u', L', s', hn4, hr4, hs4⟩)
      exact ⟨⟨v', u', L', s', k + 1, by omega, by go_num, hn4, hr4, hb4, Lib.hid (by have := HS.out; omega)⟩, by simp [intOf]; omega⟩
    · obtain rfl : k = acs0.length := by omega
      have hXlt := hn.mem.lt
      have hRlt := hr.mem.lt
      have hvlt := fun j hj => (own_tag hn.row j hj).2.1
      have htw : Calls Try.prog 18 #[.pointer (some ⟨X, 0, none⟩)] wr fun e w' => ∃ T, e = .returned (.pointer (some ⟨T, 0, none⟩)) ∧ Below wr.heap.size wr w' ∧ ∃ v' L', wr.heap.size ≤ T ∧ NetInv w' wr.heap.size T v' 4 L' s ∧ L'.map Pk.ab = L.map Pk.ab := by
        refine (twin_any w.heap.size X 4 s v L wr hb.size hn).mono ?_
        rintro e w' ⟨T, v', L', rfl, k1, k2, k3, k4⟩
        exact ⟨T, rfl, k4, v', L', k1, k2, k3⟩
      have hrt : ∀ W, Below wr.heap.size wr W → Calls Try.prog 19 #[.pointer (some ⟨R, 0, none⟩)] W fun e w' => ∃ U, e = .returned (.pointer (some ⟨U, 0, none⟩)) ∧ Below W.heap.size W w' ∧ ∃ u', W.heap.size ≤ U ∧ RefInv w' w.heap.size U u' 4 (L.map Pk.ab) s := by
        intro W hW
        refine (rtwin_any w.heap.size R 4 s u (L.map Pk.ab) W (Nat.le_trans hb.size hW.size) (hr.below hW)).mono ?_
        rintro e w' ⟨U, u', rfl, k1, k2, k3⟩
        exact ⟨U, rfl, k3, u', k1, k2⟩
      have HN := Lib.hid (And.intro hn hr)
      clear hn hr
      go_wp2_with (first
        | (go_at_call 18; (with_reducible refine htw.mono ?_); rintro e w4 ⟨T, rfl, hb4, ht4⟩)
        | (go_at_call 19; (with_reducible refine (hrt _ hb4).mono ?_); rintro e w5 ⟨U, rfl, hb5, hu5⟩))
      obtain ⟨v2, L2, kT, hnT, hLL⟩ := ht4
      obtain ⟨u2, kU, hrU⟩ := hu5
      have htwo : Two w5 w.heap.size X R T U 4 v u v2 u2 L L2 s s := by
        have hb45 := hb4.trans (hb5.mono hb4.size)
        refine ⟨HN.out.1.below hb45, HN.out.2.below hb45, (hnT.mono hb.size).below hb5, by rw [hLL]; exact hrU, by omega, by have := hb4.size; omega, fun j hj hj2 => ?_⟩
        have h1 := hvlt j hj
        have h2 := (own_tag hnT.row j hj2).1
        omega
      have hb5w : Below w.heap.size w w5 := hb.trans ((hb4.trans (hb5.mono hb4.size)).mono hb.size)
      have HS0 : Hid (s ≤ 150) := Lib.hid (by have := HS.out; omega)
      clear HN htw hrt hnT hrU hLL kT kU hXlt hRlt hvlt hb4 hb5 HS hb
      go_loopw [14] (fun i w2 => ∃ (v : Value) (u : Value) (v2 : Value) (u2 : Value) (L : List Pk) (L2 : List Pk) (s s2 k : Nat), k ≤ 150 ∧ i = .int .i64 k ∧ Two w2 w.heap.size X R T U 4 v u v2 u2 L L2 s s2 ∧ Below w.heap.size w w2 ∧ Hid (s ≤ 150 + k ∧ s2 ≤ 150 + k)) (fun i _ => 150 - (intOf i).toNat)
      case atStart => exact ⟨_, _, _, _, _, _, s, s, 0, by omega, rfl, htwo, hb5w, Lib.hid ⟨by have := HS0.out; omega, by have := HS0.out; omega⟩⟩
      case round =>
        clear htwo hb5w HS0
        obtain ⟨v, u, v2, u2, L, L2, s, s2, k, hk, rfl, ht, hb, HS⟩ := hrel
        have hs1 : s < 4611686018427387904 := by have := HS.out; omega
        have hs2 : s2 < 4611686018427387904 := by have := HS.out; omega
        by_cases hm : k < acs1.length
        · have hmx : (k : Int) < (acs1.length : Int) := by omega
          obtain ⟨b1, f1, rfl, op1, fr1, to1, n1, Ad1, cd1, ll1, hcl1, _, hdo1⟩ := hv1.doing hm
          have hdoT := hdo1 wr T U X R 4 s2 s v2 u2 v u L2 L hb ht.swap hs2
          obtain ⟨y0, y1, y2, y3, y4⟩ := hcl1 wr hb
          clear hcl1 hdo1
          by_cases hn : k < acs2.length
          · have hnx : (k : Int) < (acs2.length : Int) := by omega
            obtain ⟨b2, f2, rfl, op2, fr2, to2, n2, Ad2, cd2, ll2, hcl2, _, hdo2⟩ := hv2.doing hn
            have HC := Lib.hid hcl2
            clear hcl2
            go_wp2_with (first
              | (go_at_call 13; (with_reducible refine hdoT.mono ?_); rintro e w4 ⟨rfl, hb4, v2', u2', L2', s2', ht4, hs4⟩; obtain ⟨z0, z1, z2, z3, z4⟩ := HC.out _ hb4)
              | (go_at_call 13; (with_reducible refine (hdo2 _ _ _ _ _ _ _ _ _ _ _ _ _ _ hb4 ht4.swap hs1).mono ?_); rintro e w5 ⟨rfl, hb5, v', u', L', s', ht5, hs5⟩))
            exact ⟨⟨v', u', v2', u2', L', L2', s', s2', k + 1, by omega, by go_num, ht5, hb5, Lib.hid ⟨by have := HS.out; omega, by have := HS.out; omega⟩⟩, by simp [intOf]; omega⟩
          · have hnx : ¬ (k : Int) < (acs2.length : Int) := by omega
            go_wp2_with (go_at_call 13; (with_reducible refine hdoT.mono ?_); rintro e w4 ⟨rfl, hb4, v2', u2', L2', s2', ht4, hs4⟩)
            exact ⟨⟨v, u, v2', u2', L, L2', s, s2', k + 1, by omega, by go_num, ht4.swap, hb4, Lib.hid ⟨by have := HS.out; omega, by have := HS.out; omega⟩⟩, by simp [intOf]; omega⟩
        · have hmx : ¬ (k : Int) < (acs1.length : Int) := by omega
          by_cases hn : k < acs2.length
          · have hnx : (k : Int) < (acs2.length : Int) := by omega
            obtain ⟨b2, f2, rfl, op2, fr2, to2, n2, Ad2, cd2, ll2, hcl2, _, hdo2⟩ := hv2.doing hn
            have hdoX := hdo2 wr X R T U 4 s s2 v u v2 u2 L L2 hb ht hs1
            obtain ⟨y0, y1, y2, y3, y4⟩ := hcl2 wr hb
            clear hcl2 hdo2
            go_wp2_with (go_at_call 13; (with_reducible refine hdoX.mono ?_); rintro e w4 ⟨rfl, hb4, v', u', L', s', ht4, hs4⟩)
            exact ⟨⟨v', u', v2, u2, L', L2, s', s2, k + 1, by omega, by go_num, ht4, hb4, Lib.hid ⟨by have := HS.out; omega, by have := HS.out; omega⟩⟩, by simp [intOf]; omega⟩
          · have hnx : ¬ (k : Int) < (acs2.length : Int) := by omega
            have hcells : ∀ (Y S s : Nat) (u : Value) (L : List Pk), RefInv wr w.heap.size S u 4 (L.map Pk.ab) s → ∃ A c, ∀ W, Below wr.heap.size wr W → W.cell? ⟨S, 1, none⟩ = some (.slice A L.length c) ∧ W.cell? ⟨S, 2, none⟩ = some (.int .i64 (s : Nat)) := by
              intro Y S s u L hr
              obtain ⟨A, c, hu, _⟩ := hr.parts
              refine ⟨A, c, fun W hW => ?_⟩
              have gm := (hr.below hW).mem
              rw [hu, List.length_map] at gm
              exact ⟨gm.cell 1, gm.cell 2⟩
            obtain ⟨AR, cR, hR⟩ := hcells X R s u L ht.2.1
            obtain ⟨AU, cU, hU⟩ := hcells T U s2 u2 L2 ht.2.2.2.1
            clear hcells
            have hwX := fun W (hW : Below wr.heap.size wr W) => waiting_any _ X 4 s v L W (ht.1.below hW)
            have hwT := fun W (hW : Below wr.heap.size wr W) => waiting_any _ T 4 s2 v2 L2 W (ht.2.2.1.below hW)
            have hsX := fun W (hW : Below wr.heap.size wr W) => sent_any _ X 4 s v L W (ht.1.below hW)
            have hsT := fun W (hW : Below wr.heap.size wr W) => sent_any _ T 4 s2 v2 L2 W (ht.2.2.1.below hW)
            clear ht
            go_wp2_with fail
            apply calm_region [.is (.pointer (some ⟨T, 0, none⟩)), .is (.int .i64 (L2.length : Nat)), .is (.pointer (some ⟨U, 0, none⟩)), .is (.pointer (some ⟨U, 0, none⟩)), .is (.pointer (some ⟨U, 1, none⟩)), .is (.slice AU L2.length cU), .is (.int .i64 (L2.length : Nat)), .is (.bool true), .is (.bool true), .is (.pointer (some ⟨X, 0, none⟩)), .is (.int .i64 (L.length : Nat)), .is (.pointer (some ⟨R, 0, none⟩)), .is (.pointer (some ⟨R, 0, none⟩)), .is (.pointer (some ⟨R, 1, none⟩)), .is (.slice AR L.length cR), .is (.int .i64 (L.length : Nat)), .is (.bool true), .is (.bool true), .is (.bool true), .is (.pointer (some ⟨T, 0, none⟩)), .is (.int .i64 (s2 : Nat)), .is (.pointer (some ⟨U, 0, none⟩)), .is (.pointer (some ⟨U, 0, none⟩)), .is (.pointer (some ⟨U, 2, none⟩)), .is (.int .i64 (s2 : Nat)), .is (.bool true), .is (.bool true), .is (.bool true), .is (.pointer (some ⟨X, 0, none⟩)), .is (.int .i64 (s : Nat)), .is (.pointer (some ⟨R, 0, none⟩)), .is (.pointer (some ⟨R, 0, none⟩)), .is (.pointer (some ⟨R, 2, none⟩)), .is (.int .i64 (s : Nat)), .is (.bool true), .is (.bool true), .is (.bool true)] [[], [0], [], [2], [3], [4], [5], [1, 6], [7, 1], [8], [9, 8, 8], [8], [11, 8], [12, 8], [13, 8], [14, 8], [10, 15, 8], [8, 16], [17, 10], [18], [19, 18, 18], [18], [21, 18], [22, 18], [23, 18], [20, 24, 18], [18, 25], [26, 20], [27], [28, 27, 27], [27], [30, 27], [31, 27], [32, 27], [29, 33, 27], [27, 34], [35, 29, 0, 1, 2, 3, 4, 5, 6, 7, 8, 9, 10, 11, 12, 13, 14, 15, 16, 17, 18, 19, 20, 21, 22, 23, 24, 25, 26, 27, 28, 29, 30, 31, 32, 33, 34, 35]] (by kernel_rfl) (by kernel_rfl) (by kernel_rfl) rfl
            intro f a1 ha1
            simp only [putL, Act.put, List.setIfInBounds_toArray, List.set_cons_succ, List.set_cons_zero] at ha1
            subst ha1
            refine ⟨?_, ?_⟩
            · refine AllCalm.cons (fun W hB hd => ?_) ?_
              · go_wp2_with (fail)
                exact CalmQ.mk rfl _ rfl (Below.refl _ _) rfl
              refine AllCalm.cons (fun W hB hd => ?_) ?_
              · obtain ⟨h0, -⟩ := hd
                have h0 : f 0 = _ := h0
                rw [h0]
                have kx := hwT _ hB
                go_wp2_with ((go_at_call 14; (with_reducible refine kx.mono ?_); rintro e w5 ⟨rfl, rfl⟩))
                exact CalmQ.mk rfl _ rfl (Below.refl _ _) rfl
              refine AllCalm.cons (fun W hB hd => ?_) ?_
              · go_wp2_with (fail)
                exact CalmQ.mk rfl _ rfl (Below.refl _ _) rfl
              refine AllCalm.cons (fun W hB hd => ?_) ?_
              · obtain ⟨h2, -⟩ := hd
                have h2 : f 2 = _ := h2
                rw [h2]
                go_wp2_with (fail)
                exact CalmQ.mk rfl _ rfl (Below.refl _ _) rfl
              refine AllCalm.cons (fun W hB hd => ?_) ?_
              · obtain ⟨h3, -⟩ := hd
                have h3 : f 3 = _ := h3
                rw [h3]
                go_wp2_with (fail)
                exact CalmQ.mk rfl _ rfl (Below.refl _ _) rfl
              refine AllCalm.cons (fun W hB hd => ?_) ?_
              · obtain ⟨h4, -⟩ := hd
                have h4 : f 4 = _ := h4
                rw [h4]
                have kx := (hU _ hB).1
                go_wp2_with (fail)
                exact CalmQ.mk rfl _ rfl (Below.refl _ _) rfl
              refine AllCalm.cons (fun W hB hd => ?_) ?_
              · obtain ⟨h5, -⟩ := hd
                have h5 : f 5 = _ := h5
                rw [h5]
                go_wp2_with (fail)
                exact CalmQ.mk rfl _ rfl (Below.refl _ _) rfl
              refine AllCalm.cons (fun W hB hd => ?_) ?_
              · obtain ⟨h1, h6, -⟩ := hd
                have h1 : f 1 = _ := h1
                have h6 : f 6 = _ := h6
                rw [h1, h6]
                go_wp2_with (fail)
                exact CalmQ.mk rfl _ rfl (Below.refl _ _) rfl
              refine AllCalm.cons (fun W hB hd => ?_) ?_
              · obtain ⟨h7, h1, -⟩ := hd
                have h7 : f 7 = _ := h7
                have h1 : f 1 = _ := h1
                rw [h7, h1]
                go_wp2_with (fail)
                exact CalmQ.mk rfl _ rfl (Below.refl _ _) rfl
              refine AllCalm.cons (fun W hB hd => ?_) ?_
              · obtain ⟨h8, -⟩ := hd
                have h8 : f 8 = _ := h8
                rw [h8]
                go_wp2_with (fail)
                exact CalmQ.mk rfl _ rfl (Below.refl _ _) rfl
              refine AllCalm.cons (fun W hB hd => ?_) ?_
              · obtain ⟨h9, h8, -, -⟩ := hd
                have h9 : f 9 = _ := h9
                have h8 : f 8 = _ := h8
                rw [h9, h8]
                have kx := hwX _ hB
                go_wp2_with ((go_at_call 14; (with_reducible refine kx.mono ?_); rintro e w5 ⟨rfl, rfl⟩))
                exact CalmQ.mk rfl _ rfl (Below.refl _ _) rfl
              refine AllCalm.cons (fun W hB hd => ?_) ?_
              · obtain ⟨h8, -⟩ := hd
                have h8 : f 8 = _ := h8
                rw [h8]
                go_wp2_with (fail)
                exact CalmQ.mk rfl _ rfl (Below.refl _ _) rfl
              refine AllCalm.cons (fun W hB hd => ?_) ?_
              · obtain ⟨h11, h8, -⟩ := hd
                have h11 : f 11 = _ := h11
                have h8 : f 8 = _ := h8
                rw [h11, h8]
                go_wp2_with (fail)
                exact CalmQ.mk rfl _ rfl (Below.refl _ _) rfl
              refine AllCalm.cons (fun W hB hd => ?_) ?_
              · obtain ⟨h12, h8, -⟩ := hd
                have h12 : f 12 = _ := h12
                have h8 : f 8 = _ := h8
                rw [h12, h8]
                go_wp2_with (fail)
                exact CalmQ.mk rfl _ rfl (Below.refl _ _) rfl
              refine AllCalm.cons (fun W hB hd => ?_) ?_
              · obtain ⟨h13, h8, -⟩ := hd
                have h13 : f 13 = _ := h13
                have h8 : f 8 = _ := h8
                rw [h13, h8]
                have kx := (hR _ hB).1
                go_wp2_with (fail)
                exact CalmQ.mk rfl _ rfl (Below.refl _ _) rfl
              refine AllCalm.cons (fun W hB hd => ?_) ?_
              · obtain ⟨h14, h8, -⟩ := hd
                have h14 : f 14 = _ := h14
                have h8 : f 8 = _ := h8
                rw [h14, h8]
                go_wp2_with (fail)
                exact CalmQ.mk rfl _ rfl (Below.refl _ _) rfl
              refine AllCalm.cons (fun W hB hd => ?_) ?_
              · obtain ⟨h10, h15, h8, -⟩ := hd
                have h10 : f 10 = _ := h10
                have h15 : f 15 = _ := h15
                have h8 : f 8 = _ := h8
                rw [h10, h15, h8]
                go_wp2_with (fail)
                exact CalmQ.mk rfl _ rfl (Below.refl _ _) rfl
              refine AllCalm.cons (fun W hB hd => ?_) ?_
              · obtain ⟨h8, h16, -⟩ := hd
                have h8 : f 8 = _ := h8
                have h16 : f 16 = _ := h16
                rw [h8, h16]
                go_wp2_with (fail)
                exact CalmQ.mk rfl _ rfl (Below.refl _ _) rfl
              refine AllCalm.cons (fun W hB hd => ?_) ?_
              · obtain ⟨h17, h10, -⟩ := hd
                have h17 : f 17 = _ := h17
                have h10 : f 10 = _ := h10
                rw [h17, h10]
                go_wp2_with (fail)
                exact CalmQ.mk rfl _ rfl (Below.refl _ _) rfl
              refine AllCalm.cons (fun W hB hd => ?_) ?_
              · obtain ⟨h18, -⟩ := hd
                have h18 : f 18 = _ := h18
                rw [h18]
                go_wp2_with (fail)
                exact CalmQ.mk rfl _ rfl (Below.refl _ _) rfl
              refine AllCalm.cons (fun W hB hd => ?_) ?_
              · obtain ⟨h19, h18, -, -⟩ := hd
                have h19 : f 19 = _ := h19
                have h18 : f 18 = _ := h18
                rw [h19, h18]
                have kx := hsT _ hB
                go_wp2_with ((go_at_call 15; (with_reducible refine kx.mono ?_); rintro e w5 ⟨rfl, rfl⟩))
                exact CalmQ.mk rfl _ rfl (Below.refl _ _) rfl
              refine AllCalm.cons (fun W hB hd => ?_) ?_
              · obtain ⟨h18, -⟩ := hd
                have h18 : f 18 = _ := h18
                rw [h18]
                go_wp2_with (fail)
                exact CalmQ.mk rfl _ rfl (Below.refl _ _) rfl
              refine AllCalm.cons (fun W hB hd => ?_) ?_
              · obtain ⟨h21, h18, -⟩ := hd
                have h21 : f 21 = _ := h21
                have h18 : f 18 = _ := h18
                rw [h21, h18]
                go_wp2_with (fail)
                exact CalmQ.mk rfl _ rfl (Below.refl _ _) rfl
              refine AllCalm.cons (fun W hB hd => ?_) ?_
              · obtain ⟨h22, h18, -⟩ := hd
                have h22 : f 22 = _ := h22
                have h18 : f 18 = _ := h18
                rw [h22, h18]
                go_wp2_with (fail)
                exact CalmQ.mk rfl _ rfl (Below.refl _ _) rfl
              refine AllCalm.cons (fun W hB hd => ?_) ?_
              · obtain ⟨h23, h18, -⟩ := hd
                have h23 : f 23 = _ := h23
                have h18 : f 18 = _ := h18
                rw [h23, h18]
                have kx := (hU _ hB).2
                go_wp2_with (fail)
                exact CalmQ.mk rfl _ rfl (Below.refl _ _) rfl
              refine AllCalm.cons (fun W hB hd => ?_) ?_
              · obtain ⟨h20, h24, h18, -⟩ := hd
                have h20 : f 20 = _ := h20
                have h24 : f 24 = _ := h24
                have h18 : f 18 = _ := h18
                rw [h20, h24, h18]
                go_wp2_with (fail)
                exact CalmQ.mk rfl _ rfl (Below.refl _ _) rfl
              refine AllCalm.cons (fun W hB hd => ?_) ?_
              · obtain ⟨h18, h25, -⟩ := hd
                have h18 : f 18 = _ := h18
                have h25 : f 25 = _ := h25
                rw [h18, h25]
                go_wp2_with (fail)
                exact CalmQ.mk rfl _ rfl (Below.refl _ _) rfl
              refine AllCalm.cons (fun W hB hd => ?_) ?_
              · obtain ⟨h26, h20, -⟩ := hd
                have h26 : f 26 = _ := h26
                have h20 : f 20 = _ := h20
                rw [h26, h20]
                go_wp2_with (fail)
                exact CalmQ.mk rfl _ rfl (Below.refl _ _) rfl
              refine AllCalm.cons (fun W hB hd => ?_) ?_
              · obtain ⟨h27, -⟩ := hd
                have h27 : f 27 = _ := h27
                rw [h27]
                go_wp2_with (fail)
                exact CalmQ.mk rfl _ rfl (Below.refl _ _) rfl
              refine AllCalm.cons (fun W hB hd => ?_) ?_
              · obtain ⟨h28, h27, -, -⟩ := hd
                have h28 : f 28 = _ := h28
                have h27 : f 27 = _ := h27
                rw [h28, h27]
                have kx := hsX _ hB
                go_wp2_with ((go_at_call 15; (with_reducible refine kx.mono ?_); rintro e w5 ⟨rfl, rfl⟩))
                exact CalmQ.mk rfl _ rfl (Below.refl _ _) rfl
              refine AllCalm.cons (fun W hB hd => ?_) ?_
              · obtain ⟨h27, -⟩ := hd
                have h27 : f 27 = _ := h27
                rw [h27]
                go_wp2_with (fail)
                exact CalmQ.mk rfl _ rfl (Below.refl _ _) rfl
              refine AllCalm.cons (fun W hB hd => ?_) ?_
              · obtain ⟨h30, h27, -⟩ := hd
                have h30 : f 30 = _ := h30
                have h27 : f 27 = _ := h27
                rw [h30, h27]
                go_wp2_with (fail)
                exact CalmQ.mk rfl _ rfl (Below.refl _ _) rfl
              refine AllCalm.cons (fun W hB hd => ?_) ?_
              · obtain ⟨h31, h27, -⟩ := hd
                have h31 : f 31 = _ := h31
                have h27 : f 27 = _ := h27
                rw [h31, h27]
                go_wp2_with (fail)
                exact CalmQ.mk rfl _ rfl (Below.refl _ _) rfl
              refine AllCalm.cons (fun W hB hd => ?_) ?_
              · obtain ⟨h32, h27, -⟩ := hd
                have h32 : f 32 = _ := h32
                have h27 : f 27 = _ := h27
                rw [h32, h27]
                have kx := (hR _ hB).2
                go_wp2_with (fail)
                exact CalmQ.mk rfl _ rfl (Below.refl _ _) rfl
              refine AllCalm.cons (fun W hB hd => ?_) ?_
              · obtain ⟨h29, h33, h27, -⟩ := hd
                have h29 : f 29 = _ := h29
                have h33 : f 33 = _ := h33
                have h27 : f 27 = _ := h27
                rw [h29, h33, h27]
                go_wp2_with (fail)
                exact CalmQ.mk rfl _ rfl (Below.refl _ _) rfl
              refine AllCalm.cons (fun W hB hd => ?_) ?_
              · obtain ⟨h27, h34, -⟩ := hd
                have h27 : f 27 = _ := h27
                have h34 : f 34 = _ := h34
                rw [h27, h34]
                go_wp2_with (fail)
                exact CalmQ.mk rfl _ rfl (Below.refl _ _) rfl
              refine AllCalm.cons (fun W hB hd => ?_) ?_
              · obtain ⟨h35, h29, h0, h1, h2, h3, h4, h5, h6, h7, h8, h9, h10, h11, h12, h13, h14, h15, h16, h17, h18, h19, h20, h21, h22, h23, h24, h25, h26, h27, h28, -, h30, h31, h32, h33, h34, -, -⟩ := hd
                have h35 : f 35 = _ := h35
                have h29 : f 29 = _ := h29
                have h0 : f 0 = _ := h0
                have h1 : f 1 = _ := h1
                have h2 : f 2 = _ := h2
                have h3 : f 3 = _ := h3
                have h4 : f 4 = _ := h4
                have h5 : f 5 = _ := h5
                have h6 : f 6 = _ := h6
                have h7 : f 7 = _ := h7
                have h8 : f 8 = _ := h8
                have h9 : f 9 = _ := h9
                have h10 : f 10 = _ := h10
                have h11 : f 11 = _ := h11
                have h12 : f 12 = _ := h12
                have h13 : f 13 = _ := h13
                have h14 : f 14 = _ := h14
                have h15 : f 15 = _ := h15
                have h16 : f 16 = _ := h16
                have h17 : f 17 = _ := h17
                have h18 : f 18 = _ := h18
                have h19 : f 19 = _ := h19
                have h20 : f 20 = _ := h20
                have h21 : f 21 = _ := h21
                have h22 : f 22 = _ := h22
                have h23 : f 23 = _ := h23
                have h24 : f 24 = _ := h24
                have h25 : f 25 = _ := h25
                have h26 : f 26 = _ := h26
                have h27 : f 27 = _ := h27
                have h28 : f 28 = _ := h28
                have h30 : f 30 = _ := h30
                have h31 : f 31 = _ := h31
                have h32 : f 32 = _ := h32
                have h33 : f 33 = _ := h33
                have h34 : f 34 = _ := h34
                rw [h35, h29, h0, h1, h2, h3, h4, h5, h6, h7, h8, h9, h10, h11, h12, h13, h14, h15, h16, h17, h18, h19, h20, h21, h22, h23, h24, h25, h26, h27, h28, h30, h31, h32, h33, h34]
                go_wp2_with (fail)
                exact CalmQ.mk rfl _ rfl (Below.refl _ _) rfl
              exact AllCalm.nil
            · intro W hB hT
              obtain ⟨h0, h1, h2, h3, h4, h5, h6, h7, h8, h9, h10, h11, h12, h13, h14, h15, h16, h17, h18, h19, h20, h21, h22, h23, h24, h25, h26, h27, h28, h29, h30, h31, h32, h33, h34, h35, h36, -⟩ := hT
              have h0 : f 0 = _ := h0
              have h1 : f 1 = _ := h1
              have h2 : f 2 = _ := h2
              have h3 : f 3 = _ := h3
              have h4 : f 4 = _ := h4
              have h5 : f 5 = _ := h5
              have h6 : f 6 = _ := h6
              have h7 : f 7 = _ := h7
              have h8 : f 8 = _ := h8
              have h9 : f 9 = _ := h9
              have h10 : f 10 = _ := h10
              have h11 : f 11 = _ := h11
              have h12 : f 12 = _ := h12
              have h13 : f 13 = _ := h13
              have h14 : f 14 = _ := h14
              have h15 : f 15 = _ := h15
              have h16 : f 16 = _ := h16
              have h17 : f 17 = _ := h17
              have h18 : f 18 = _ := h18
              have h19 : f 19 = _ := h19
              have h20 : f 20 = _ := h20
              have h21 : f 21 = _ := h21
              have h22 : f 22 = _ := h22
              have h23 : f 23 = _ := h23
              have h24 : f 24 = _ := h24
              have h25 : f 25 = _ := h25
              have h26 : f 26 = _ := h26
              have h27 : f 27 = _ := h27
              have h28 : f 28 = _ := h28
              have h29 : f 29 = _ := h29
              have h30 : f 30 = _ := h30
              have h31 : f 31 = _ := h31
              have h32 : f 32 = _ := h32
              have h33 : f 33 = _ := h33
              have h34 : f 34 = _ := h34
              have h35 : f 35 = _ := h35
              have h36 : f 36 = _ := h36
              rw [h0, h1, h2, h3, h4, h5, h6, h7, h8, h9, h10, h11, h12, h13, h14, h15, h16, h17, h18, h19, h20, h21, h22, h23, h24, h25, h26, h27, h28, h29, h30, h31, h32, h33, h34, h35, h36]
              clear h0 h1 h2 h3 h4 h5 h6 h7 h8 h9 h10 h11 h12 h13 h14 h15 h16 h17 h18 h19 h20 h21 h22 h23 h24 h25 h26 h27 h28 h29 h30 h31 h32 h33 h34 h35 h36
              go_wp2_with fail
              go_ret
              exact ⟨rfl, hb.trans (hB.mono hb.size)⟩
theorem walk (v0 : Value) (acs0 : List Act9) (v1 : Value) (acs1 : List Act9) (v2 : Value) (acs2 : List Act9) (w : World) (hv0 : Acts w w.heap.size v0 acs0) (hv1 : Acts w w.heap.size v1 acs1) (hv2 : Acts w w.heap.size v2 acs2) :
    Calls Try.prog 4 #[v0, v1, v2] w fun e w' => e = .returned (.bool true) ∧ Below w.heap.size w w' := by
  cases h0 : fewB acs0 with
  | false => exact walk_no v0 acs0 v1 acs1 v2 acs2 w hv0 hv1 hv2 (.inl h0)
  | true =>
    cases h1 : fewB acs1 with
    | false => exact walk_no v0 acs0 v1 acs1 v2 acs2 w hv0 hv1 hv2 (.inr (.inl h1))
    | true =>
      cases h2 : fewB acs2 with
      | false => exact walk_no v0 acs0 v1 acs1 v2 acs2 w hv0 hv1 hv2 (.inr (.inr h2))
      | true => exact walk_yes v0 acs0 v1 acs1 v2 acs2 w hv0 hv1 hv2 h0 h1 h2
set_option maxRecDepth 100000 in
theorem lifted (os : Os) (started : os.Started) (H : Type) (enc : TypeId × Value → H) :
    ReturnsInHanded {} Try.checked os 4 .any (Rows.netTwinsSpec.pre6 enc Try.prog Try.f4 Rows.netTwinsRow.domain false) (Rows.netTwinsSpec.post enc Try.prog Try.f4 false true false false) := by
  refine returnsInHanded_of_change (C := Try.checked) own started (by kernel_rfl) Try.func4
    (ChangeSpec.witness6 (enc := enc) (C := Try.checked) false ⟨#[], #[.slice none 0 0, .slice none 0 0, .slice none 0 0], []⟩ 8 (by kernel_rfl) (by kernel_rfl) (by kernel_rfl) (by kernel_rfl)) ?_
  intro W base args ds gs before hval0 hW hcnd _
  have hval : ∀ (j : Nat) t v, Try.f4.params[j]? = some t → args[j]? = some v → Value.okWide Try.prog W .any base t v := hval0
  have hW' := hW
  obtain ⟨p, q, hA0, hV, rfl, hfz, hnd⟩ := hW
  have hA : DataW.TrodAll enc Try.prog W 0 (fun _ => true) true Try.f4.params.toList args.toList ds p := hA0
  rw [Try.params4] at hA hval
  obtain ⟨v0, vs0, d0, ds0, p0, q0, hargs, rfl, rfl, h0, r0⟩ := trodAll_cons hA
  obtain ⟨v1, vs1, d1, ds1, p1, q1, rfl, rfl, rfl, h1, r1⟩ := trodAll_cons r0
  obtain ⟨v2, vs2, d2, ds2, p2, q2, rfl, rfl, rfl, h2, r2⟩ := trodAll_cons r1
  obtain ⟨rfl, rfl, rfl⟩ := trodAll_nil r2
  obtain rfl : args = #[v0, v1, v2] := by cases args; simp_all
  obtain ⟨rfl, rfl⟩ := trodVars_none hV
  obtain ⟨acs0, s0⟩ := open_acts (hval 0 22 v0 rfl rfl) h0
  obtain ⟨acs1, s1⟩ := open_acts (hval 1 22 v1 rfl rfl) h1
  obtain ⟨acs2, s2⟩ := open_acts (hval 2 22 v2 rfl rfl) h2
  refine (walk v0 acs0 v1 acs1 v2 acs2 W s0 s1 s2).mono fun e W' ⟨he, hb⟩ => ?_
  subst he
  exact ⟨_, rfl, law_post laidOut (by kernel_rfl) rfl (by kernel_rfl) Try.underlying4 rfl rfl rfl hW' hb⟩

theorem proved : Rows.NetTwinsSaid :=
  OpenClaim.holds_of_wide 4 Try.f4 rfl rfl rfl rfl rfl rfl rfl ⟨rfl, rfl, rfl, rfl, rfl⟩ rfl rfl rfl rfl rfl (by kernel_rfl) Try.func4 (by kernel_rfl)
    (of_decide_eq_true (by kernel_rfl)) (by unfold Func.isWrapper; first | (rw [if_pos (by decide +kernel)]; kernel_rfl) | (rw [if_neg (by decide +kernel)]; exact ⟨rfl, rfl⟩))
    (fun os started H enc _ => lifted os started H enc)
end Twins
end Go.Proofs.Ytmlimmcaidkoeaa
