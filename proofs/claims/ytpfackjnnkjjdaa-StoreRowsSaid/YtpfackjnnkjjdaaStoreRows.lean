/- StoreRows: for all lists of rows and all numbers the statement's function tells true and turns nothing that was there. No condition. -/
import Derived.Test.YtpfackjnnkjjdaaSeW
import Derived.BigQuiet
import Derived.Deep.QuietTactic
namespace Go.Proofs.Ytpfackjnnkjjdaa
open Go.ChangeShapes Go.WideShapes Go.ChangeAt Go.RowKit Go.Lib
set_option linter.unusedVariables false
set_option linter.unusedSimpArgs false
set_option maxRecDepth 100000
namespace Se
open Crc Dk Tw Rg
theorem rows_out (v0 : Value) (F : List (List UInt8)) (vs : List Value) (c : Int) (w : World) (h0 : Sl w w.heap.size v0 F.length vs) (ho : 40 < F.length ∨ c < 0 ∨ (F.length : Int) < c) :
    Calls Try.prog 4 #[v0, .int .i64 c] w fun e w' => e = .returned (.bool true) ∧ Below w.heap.size w w' := by
  obtain ⟨A0, c0, rfl, _, _⟩ := h0.form
  by_cases h1 : 40 < F.length
  · have g1 : (40 : Int) < (F.length : Int) := by omega
    clear ho
    go_enter Try.func4, Try.ntmps4
    go_wp2_with (go_at_call 5; refine (known_any _).mono ?_; rintro e w1 ⟨rfl, hb1⟩)
    go_ret
    exact ⟨rfl, hb1⟩
  have g1 : ¬ (40 : Int) < (F.length : Int) := by omega
  by_cases h2 : c < 0
  · clear ho
    go_enter Try.func4, Try.ntmps4
    go_wp2_with (go_at_call 5; refine (known_any _).mono ?_; rintro e w1 ⟨rfl, hb1⟩)
    go_ret
    exact ⟨rfl, hb1⟩
  · have h3 : (F.length : Int) < c := by omega
    clear ho
    go_enter Try.func4, Try.ntmps4
    go_wp2_with (go_at_call 5; refine (known_any _).mono ?_; rintro e w1 ⟨rfl, hb1⟩)
    go_ret
    exact ⟨rfl, hb1⟩
set_option maxHeartbeats 4000000 in
theorem rows_in (v0 : Value) (F : List (List UInt8)) (vs : List Value) (k : Nat) (w : World) (h0 : Sl w w.heap.size v0 F.length vs) (hr0 : Rows2 w w.heap.size vs F) (hF : F.length ≤ 40) (hk : k ≤ F.length) :
    Calls Try.prog 4 #[v0, .int .i64 (k : Nat)] w fun e w' => e = .returned (.bool true) ∧ Below w.heap.size w w' := by
  obtain ⟨A0, c0, rfl, _, _⟩ := h0.form
  have g1 : ¬ (40 : Int) < (F.length : Int) := by omega
  have g2 : ¬ (F.length : Int) < (k : Int) := by omega
  have kc := fun (W : World) (C : Array Value) (n c : Nat) => Lib.run_convert_bytes_const (P := Try.prog) W 34 5 C n c Try.underlying34 Try.underlying5
  have hvl : vs.length = F.length := h0.len_eq
  have hcl := k_calls
  have cLe : ∀ W, Calls Try.prog 7 #[] W fun e w' => e = .returned (.int .i64 610) ∧ W = w' := fun W => least_any W
  have cNew : ∀ W, Below w.heap.size w W → Calls Try.prog 6 #[.int .i64 610] W fun e w' => ∃ X O, e = .returned (.tuple #[.pointer (some ⟨X, 0, none⟩), .int .i64 0]) ∧ Dsk w w' X O (DS.new 610) := fun W hW => (d_new (o := w) 610 (by omega) (by omega) hW).mono fun e w' ⟨X, O, h1, h2, _⟩ => ⟨X, O, h1, h2⟩
  have cFm : ∀ W X O, Dsk w W X O (DS.new 610) → Calls Try.prog 8 #[.pointer (some ⟨X, 0, none⟩)] W fun e w' => ∃ O', e = .returned (.int .i64 0) ∧ Dsk w w' X O' kF := fun W X O h => (format_any h ⟨rfl, rfl, rfl⟩ n_len (by decide) (by decide)).mono fun e w' ⟨O', h1, h2, _⟩ => ⟨O', h1, h2⟩
  have cO1 : ∀ W X O, Dsk w W X O kF → Calls Try.prog 9 #[.pointer (some ⟨X, 0, none⟩)] W fun e w' => ∃ Z, e = .returned (.tuple #[.pointer (some ⟨Z, 0, none⟩), .int .i64 0]) ∧ Rw w w' X Z F 0 := fun W X O h => (sopen_any (Ls := []) h kF_pu.up kF_pu.len (by rw [kF_pu.wtg]; decide) (by omega) kF_pu.tw (by decide) kF_pu.rok kF_pu.sz kF_pu.sum kF_pu.on (by decide) (by decide) (by decide) (by rw [kF_pu.len]; exact (n_len ▸ kT1_ok _ n_len)) kS1_jr.done (no_recs _)).mono fun e w' ⟨O', Yt, Z, Yr, R, h1, h2⟩ => ⟨Z, h1, Rw.start F h2⟩
  clear hcl
  have HF := Lib.hid hF
  have HK := Lib.hid hk
  have gk : (k : Int) ≤ 40 := by omega
  have gF : (F.length : Int) ≤ 40 := by omega
  clear hF hk
  go_enter Try.func4, Try.ntmps4
  go_wp2_with (first
    | (go_at_call 5; refine (known_any _).mono ?_; rintro e w1 ⟨rfl, hb1⟩)
    | (go_at_call 7; (with_reducible refine (cLe _).mono ?_); rintro e w2 ⟨rfl, rfl⟩)
    | (go_at_call 6; (with_reducible refine (cNew _ hb1).mono ?_); rintro e w3 ⟨X, O, rfl, s3⟩)
    | (go_at_call 8; (with_reducible refine (cFm _ _ _ s3).mono ?_); rintro e w4 ⟨O4, rfl, s4⟩)
    | (go_at_call 9; (with_reducible refine (cO1 _ _ _ s4).mono ?_); rintro e w5 ⟨Z, rfl, r5⟩))
  clear cLe cNew cFm cO1
  go_loopw [9] (fun x wr => ∃ (i : Nat), x = .int .i64 (i : Nat) ∧ i ≤ F.length ∧ Rw w wr X Z F i) (fun x _ => F.length - (intOf x).toNat)
  case atStart => exact ⟨0, rfl, Nat.zero_le _, r5⟩
  case round =>
    obtain ⟨i, rfl, hi, hR⟩ := hrel
    generalize wr = wo at *
    have hbl := hR.bl
    by_cases hil : i < F.length
    · have hix : (i : Int) < (F.length : Int) := by omega
      have hi4 : i < 40 := by have := HF.out; omega
      obtain ⟨b1, o1, rfl, hb1l, hcell⟩ := h0.at_ (by omega)
      obtain ⟨u, hu⟩ : ∃ u, vs[i]? = some u := ⟨_, List.getElem?_eq_getElem (by omega)⟩
      obtain ⟨l, hl⟩ : ∃ l, F[i]? = some l := ⟨_, List.getElem?_eq_getElem hil⟩
      have y1 : wo.cell? ⟨b1, o1 + i, none⟩ = some u := (hbl.cell (p := ⟨b1, o1 + i, none⟩) hb1l).trans (hcell i u hu)
      have hsu : Sl w w.heap.size u l.length (bs l) := by
        have := hr0.2 i (by omega) hil
        rw [(List.getElem?_eq_some_iff.1 hu).2, (List.getElem?_eq_some_iff.1 hl).2] at this
        exact this
      obtain ⟨Au, cu, rfl, _, _⟩ := hsu.form
      by_cases hl5 : l.length ≤ 500
      · have hlx : ¬ (500 : Int) < (l.length : Int) := by omega
        have cA := hR.append hi4 hl hl5 _ (hsu.now hbl)
        have HIL := Lib.hid hil
        clear hu hl hcell hsu hr0 h0 hil hl5 hi4 hi kc
        go_wp2_with (go_at_call 10; (with_reducible refine cA.mono ?_); rintro e w6 ⟨rfl, r6⟩)
        exact ⟨⟨i + 1, by simp, HIL.out, r6⟩, by have := HIL.out; simp [intOf]; omega⟩
      · have hlx : (500 : Int) < (l.length : Int) := by omega
        clear hu hl hcell hsu hr0 h0 hil hl5 hi4 hi kc
        go_wp2
        go_ret
        exact ⟨rfl, hbl⟩
    · obtain rfl : i = F.length := by omega
      have hB1 : Below wo.heap.size wo (wo.alloc (.cells #[.int .u8 115, .int .u8 110, .int .u8 97, .int .u8 112] 5 (4, 5))) := (Below.refl _ wo).alloc (Nat.le_refl _) _
      have cC : Calls Try.prog 12 #[.pointer (some ⟨Z, 0, none⟩), .int .u64 (k : Nat), .slice (some ⟨wo.heap.size, 0, none⟩) 4 4] (wo.alloc (.cells #[.int .u8 115, .int .u8 110, .int .u8 97, .int .u8 112] 5 (4, 5))) fun e w' => e = .returned (.int .i64 0) ∧ Rd w w' X F k ([115, 110, 97, 112] : List UInt8) true := hR.compact hB1 HF.out k HK.out (.slice (some ⟨wo.heap.size, 0, none⟩) 4 4) ([115, 110, 97, 112] : List UInt8) (Sl.freshM (c := 4) wo #[.int .u8 115, .int .u8 110, .int .u8 97, .int .u8 112] _ _ rfl (by decide) (by unfold maxLen; omega)) (fun q hq => by
        obtain rfl := Option.some.inj hq
        exact ⟨Nat.le_refl _, by show wo.heap.size < _; rw [World.size_alloc]; omega⟩) (by decide)
      have cCr : ∀ W, Rd w W X F k ([115, 110, 97, 112] : List UInt8) true → Calls Try.prog 15 #[.pointer (some ⟨X, 0, none⟩), .slice none 0 0] W fun e w' => e = .returned (.tuple #[]) ∧ Rd w w' X F k ([115, 110, 97, 112] : List UInt8) false := fun W h => h.crash
      have cOn : ∀ W, Rd w W X F k ([115, 110, 97, 112] : List UInt8) false → Calls Try.prog 16 #[.pointer (some ⟨X, 0, none⟩)] W fun e w' => e = .returned (.tuple #[]) ∧ Rd w w' X F k ([115, 110, 97, 112] : List UInt8) true := fun W h => h.on
      have cOp : ∀ W, Rd w W X F k ([115, 110, 97, 112] : List UInt8) true → Calls Try.prog 9 #[.pointer (some ⟨X, 0, none⟩)] W fun e w' => ∃ Z', e = .returned (.tuple #[.pointer (some ⟨Z', 0, none⟩), .int .i64 0]) ∧ Ro w w' X Z' F k ([115, 110, 97, 112] : List UInt8) := fun W h => h.open_ HF.out HK.out
      have cLa : ∀ W Z', Ro w W X Z' F k ([115, 110, 97, 112] : List UInt8) → Calls Try.prog 14 #[.pointer (some ⟨Z', 0, none⟩)] W fun e w' => e = .returned (.int .u64 (F.length : Nat)) ∧ Below W.heap.size W w' := fun W Z' h => h.last HF.out HK.out
      clear hR hi hil
      go_wp2_with (first
        | (go_at_call 12; (with_reducible refine cC.mono ?_); rintro e w6 ⟨rfl, r6⟩; have cCr6 := cCr _ r6)
        | (go_at_call 15; (with_reducible refine cCr6.mono ?_); rintro e w7 ⟨rfl, r7⟩; have cOn7 := cOn _ r7)
        | (go_at_call 16; (with_reducible refine cOn7.mono ?_); rintro e w8 ⟨rfl, r8⟩; have cOp8 := cOp _ r8)
        | (go_at_call 9; (with_reducible refine cOp8.mono ?_); rintro e w9 ⟨Z9, rfl, r9⟩; have cLa9 := cLa _ _ r9)
        | (go_at_call 14; (with_reducible refine cLa9.mono ?_); rintro e w10 ⟨rfl, b10⟩; have r10 := r9.below b10))
      clear cC cCr cOn cOp cLa kc cCr6 cOn7 cOp8 cLa9 hB1
      go_loopw [12] (fun x wr => ∃ (i : Nat), x = .int .i64 (i : Nat) ∧ i ≤ F.length ∧ Ro w wr X Z9 F k ([115, 110, 97, 112] : List UInt8)) (fun x _ => F.length - (intOf x).toNat)
      case atStart => exact ⟨0, rfl, Nat.zero_le _, r10⟩
      case round =>
        obtain ⟨i, rfl, hi, hR⟩ := hrel
        by_cases hil : i < F.length
        · have hix : (i : Int) < (F.length : Int) := by omega
          obtain ⟨b1, o1, rfl, hb1l, hcell⟩ := h0.at_ (by omega)
          obtain ⟨u, hu⟩ : ∃ u, vs[i]? = some u := ⟨_, List.getElem?_eq_getElem (by omega)⟩
          obtain ⟨l, hl⟩ : ∃ l, F[i]? = some l := ⟨_, List.getElem?_eq_getElem hil⟩
          have hsu : Sl w w.heap.size u l.length (bs l) := by
            have := hr0.2 i (by omega) hil
            rw [(List.getElem?_eq_some_iff.1 hu).2, (List.getElem?_eq_some_iff.1 hl).2] at this
            exact this
          obtain ⟨Au, cu, rfl, _, _⟩ := hsu.form
          by_cases hki : k ≤ i
          · have hkx : (k : Int) ≤ (i : Int) := by omega
            have cE := hR.yes HF.out i hki hil hl
            have HIL := Lib.hid hil
            clear hi hil hl hki
            go_upto_region 26 with (go_at_call 17; (with_reducible refine cE.mono ?_); rintro e w11 ⟨A11, c11, rfl, o11, b11⟩)
            obtain ⟨w12, e12, m12, b12⟩ : ∃ w12, w12 = w11.alloc (.cells #[.int .u64 ((i : Int) + 1), .int .u64 ((i : Int) * 3), .slice A11 l.length c11] 37) ∧ Mem w12 w11.heap.size 37 #[.int .u64 ((i : Int) + 1), .int .u64 ((i : Int) * 3), .slice A11 l.length c11] ∧ Below w11.heap.size w11 w12 := ⟨_, rfl, Mem.new w11 _ _, (Below.refl _ w11).alloc (Nat.le_refl _) _⟩
            rw [← e12]
            clear e12 cE
            have r12 := (hR.below b11).below b12
            have bl12 := r12.bl
            have y1 : w12.cell? ⟨b1, o1 + i, none⟩ = some (.slice Au l.length cu) := (bl12.cell (p := ⟨b1, o1 + i, none⟩) hb1l).trans (hcell i _ hu)
            have y2 := m12.cell 2
            have y3 := m12.cell 1
            have ho12 := owns_below o11 b12
            have hs2 := hsu.now bl12
            clear hu hcell
            apply calm_region [.is _, .is _, .is _, .is (.bool true), .is (.bool false), .is (.bool false), .is (.bool true), .is (.bool true), .is _, .is _, .is (.string ⟨l.toArray⟩), .is _, .is _, .is _, .is _, .is (.string ⟨l.toArray⟩), .is (.bool false), .is (.bool false), .is _, .is _, .is _, .is _, .is _, .is _, .is _, .is _, .is _] [[], [], [], [1, 2], [0, 3], [4], [5], [6, 5, 5], [7], [8, 7], [9, 7], [7], [7], [11, 12, 7], [13, 7], [14, 7], [10, 15, 7], [16, 7, 7], [17], [18, 17], [17], [20, 17], [21, 17], [19, 22, 17], [17, 23, 7], [7, 24, 5], [5, 25]] (by kernel_rfl) (by kernel_rfl) (by kernel_rfl) rfl
            intro f a1 ha1
            simp only [putL, Act.put, List.setIfInBounds_toArray, List.set_cons_succ, List.set_cons_zero] at ha1
            subst ha1
            refine ⟨?_, ?_⟩
            · refine AllCalm.cons (fun W hB hd => ?_) ?_
              · go_wp2_with (fail)
                exact CalmQ.mk rfl _ rfl (Below.refl _ _) rfl
              refine AllCalm.cons (fun W hB hd => ?_) ?_
              · go_wp2_with (fail)
                exact CalmQ.mk rfl _ rfl (Below.refl _ _) rfl
              refine AllCalm.cons (fun W hB hd => ?_) ?_
              · go_wp2_with (fail)
                exact CalmQ.mk rfl _ rfl (Below.refl _ _) rfl
              refine AllCalm.cons (fun W hB hd => ?_) ?_
              · obtain ⟨h1, h2, -⟩ := hd
                have h1 : f 1 = _ := h1
                have h2 : f 2 = _ := h2
                rw [h1, h2]
                go_wp2_with (fail)
                exact CalmQ.mk rfl _ rfl (Below.refl _ _) rfl
              refine AllCalm.cons (fun W hB hd => ?_) ?_
              · obtain ⟨h0, h3, -⟩ := hd
                have h0 : f 0 = _ := h0
                have h3 : f 3 = _ := h3
                rw [h0, h3]
                go_wp2_with (fail)
                exact CalmQ.mk rfl _ rfl (Below.refl _ _) rfl
              refine AllCalm.cons (fun W hB hd => ?_) ?_
              · obtain ⟨h4, -⟩ := hd
                have h4 : f 4 = _ := h4
                rw [h4]
                go_wp2_with (fail)
                exact CalmQ.mk rfl _ rfl (Below.refl _ _) rfl
              refine AllCalm.cons (fun W hB hd => ?_) ?_
              · obtain ⟨h5, -⟩ := hd
                have h5 : f 5 = _ := h5
                rw [h5]
                go_wp2_with (fail)
                exact CalmQ.mk rfl _ rfl (Below.refl _ _) rfl
              refine AllCalm.cons (fun W hB hd => ?_) ?_
              · obtain ⟨h6, h5, -, -⟩ := hd
                have h6 : f 6 = _ := h6
                have h5 : f 5 = _ := h5
                rw [h6, h5]
                go_wp2_with (fail)
                exact CalmQ.mk rfl _ rfl (Below.refl _ _) rfl
              refine AllCalm.cons (fun W hB hd => ?_) ?_
              · obtain ⟨h7, -⟩ := hd
                have h7 : f 7 = _ := h7
                rw [h7]
                go_wp2_with (fail)
                exact CalmQ.mk rfl _ rfl (Below.refl _ _) rfl
              refine AllCalm.cons (fun W hB hd => ?_) ?_
              · obtain ⟨h8, h7, -⟩ := hd
                have h8 : f 8 = _ := h8
                have h7 : f 7 = _ := h7
                rw [h8, h7]
                have q9 := (m12.below hB m12.lt).cell 2
                go_wp2_with (fail)
                exact CalmQ.mk rfl _ rfl (Below.refl _ _) rfl
              refine AllCalm.cons (fun W hB hd => ?_) ?_
              · obtain ⟨h9, h7, -⟩ := hd
                have h9 : f 9 = _ := h9
                have h7 : f 7 = _ := h7
                rw [h9, h7]
                have q10 := Tw.str (Sl.of_own (owns_below ho12 hB))
                go_wp2_with (fail)
                exact CalmQ.mk rfl _ rfl (Below.refl _ _) rfl
              refine AllCalm.cons (fun W hB hd => ?_) ?_
              · obtain ⟨h7, -⟩ := hd
                have h7 : f 7 = _ := h7
                rw [h7]
                go_wp2_with (fail)
                exact CalmQ.mk rfl _ rfl (Below.refl _ _) rfl
              refine AllCalm.cons (fun W hB hd => ?_) ?_
              · obtain ⟨h7, -⟩ := hd
                have h7 : f 7 = _ := h7
                rw [h7]
                go_wp2_with (fail)
                exact CalmQ.mk rfl _ rfl (Below.refl _ _) rfl
              refine AllCalm.cons (fun W hB hd => ?_) ?_
              · obtain ⟨h11, h12, h7, -⟩ := hd
                have h11 : f 11 = _ := h11
                have h12 : f 12 = _ := h12
                have h7 : f 7 = _ := h7
                rw [h11, h12, h7]
                go_wp2_with (fail)
                exact CalmQ.mk rfl _ rfl (Below.refl _ _) rfl
              refine AllCalm.cons (fun W hB hd => ?_) ?_
              · obtain ⟨h13, h7, -⟩ := hd
                have h13 : f 13 = _ := h13
                have h7 : f 7 = _ := h7
                rw [h13, h7]
                have q14 := (hB.cell (p := ⟨b1, o1 + i, none⟩) (Nat.lt_of_lt_of_le hb1l bl12.size)).trans y1
                go_wp2_with (fail)
                exact CalmQ.mk rfl _ rfl (Below.refl _ _) rfl
              refine AllCalm.cons (fun W hB hd => ?_) ?_
              · obtain ⟨h14, h7, -⟩ := hd
                have h14 : f 14 = _ := h14
                have h7 : f 7 = _ := h7
                rw [h14, h7]
                have q15 := Tw.str (hs2.now hB)
                go_wp2_with (fail)
                exact CalmQ.mk rfl _ rfl (Below.refl _ _) rfl
              refine AllCalm.cons (fun W hB hd => ?_) ?_
              · obtain ⟨h10, h15, h7, -⟩ := hd
                have h10 : f 10 = _ := h10
                have h15 : f 15 = _ := h15
                have h7 : f 7 = _ := h7
                rw [h10, h15, h7]
                go_wp2_with (fail)
                exact CalmQ.mk rfl _ rfl (Below.refl _ _) rfl
              refine AllCalm.cons (fun W hB hd => ?_) ?_
              · obtain ⟨h16, h7, -, -⟩ := hd
                have h16 : f 16 = _ := h16
                have h7 : f 7 = _ := h7
                rw [h16, h7]
                go_wp2_with (fail)
                exact CalmQ.mk rfl _ rfl (Below.refl _ _) rfl
              refine AllCalm.cons (fun W hB hd => ?_) ?_
              · obtain ⟨h17, -⟩ := hd
                have h17 : f 17 = _ := h17
                rw [h17]
                go_wp2_with (fail)
                exact CalmQ.mk rfl _ rfl (Below.refl _ _) rfl
              refine AllCalm.cons (fun W hB hd => ?_) ?_
              · obtain ⟨h18, h17, -⟩ := hd
                have h18 : f 18 = _ := h18
                have h17 : f 17 = _ := h17
                rw [h18, h17]
                have q19 := (m12.below hB m12.lt).cell 1
                go_wp2_with (fail)
                exact CalmQ.mk rfl _ rfl (Below.refl _ _) rfl
              refine AllCalm.cons (fun W hB hd => ?_) ?_
              · obtain ⟨h17, -⟩ := hd
                have h17 : f 17 = _ := h17
                rw [h17]
                go_wp2_with (fail)
                exact CalmQ.mk rfl _ rfl (Below.refl _ _) rfl
              refine AllCalm.cons (fun W hB hd => ?_) ?_
              · obtain ⟨h20, h17, -⟩ := hd
                have h20 : f 20 = _ := h20
                have h17 : f 17 = _ := h17
                rw [h20, h17]
                go_wp2_with (fail)
                exact CalmQ.mk rfl _ rfl (Below.refl _ _) rfl
              refine AllCalm.cons (fun W hB hd => ?_) ?_
              · obtain ⟨h21, h17, -⟩ := hd
                have h21 : f 21 = _ := h21
                have h17 : f 17 = _ := h17
                rw [h21, h17]
                go_wp2_with (fail)
                exact CalmQ.mk rfl _ rfl (Below.refl _ _) rfl
              refine AllCalm.cons (fun W hB hd => ?_) ?_
              · obtain ⟨h19, h22, h17, -⟩ := hd
                have h19 : f 19 = _ := h19
                have h22 : f 22 = _ := h22
                have h17 : f 17 = _ := h17
                rw [h19, h22, h17]
                go_wp2_with (fail)
                exact CalmQ.mk rfl _ rfl (Below.refl _ _) rfl
              refine AllCalm.cons (fun W hB hd => ?_) ?_
              · obtain ⟨h17, h23, h7, -⟩ := hd
                have h17 : f 17 = _ := h17
                have h23 : f 23 = _ := h23
                have h7 : f 7 = _ := h7
                rw [h17, h23, h7]
                go_wp2_with (fail)
                exact CalmQ.mk rfl _ rfl (Below.refl _ _) rfl
              refine AllCalm.cons (fun W hB hd => ?_) ?_
              · obtain ⟨h7, h24, h5, -⟩ := hd
                have h7 : f 7 = _ := h7
                have h24 : f 24 = _ := h24
                have h5 : f 5 = _ := h5
                rw [h7, h24, h5]
                go_wp2_with (fail)
                exact CalmQ.mk rfl _ rfl (Below.refl _ _) rfl
              refine AllCalm.cons (fun W hB hd => ?_) ?_
              · obtain ⟨h5, h25, -⟩ := hd
                have h5 : f 5 = _ := h5
                have h25 : f 25 = _ := h25
                rw [h5, h25]
                go_wp2_with (fail)
                exact CalmQ.mk rfl _ rfl (Below.refl _ _) rfl
              exact AllCalm.nil
            · intro W hB hT
              obtain ⟨h0, h1, h2, h3, h4, h5, h6, h7, h8, h9, h10, h11, h12, h13, h14, h15, h16, h17, h18, h19, h20, h21, h22, h23, h24, h25, h26, -⟩ := hT
              have h0 : f 0 = _ := h0
              have h1 : f 1 = _ := h1
              have h2 : f 2 = _ := h2
              have h3 : f 3 = _ := h3
              have h4 : f 4 = _ := h4
              have h5 : f 5 = _ := h5
              have h6 : f 6 = _ := h6
              have h7 : f 7 = _ := h7
              have h8 : f 8 = _ := h8
              have h9 : f 9 = _ := h9
              have h10 : f 10 = _ := h10
              have h11 : f 11 = _ := h11
              have h12 : f 12 = _ := h12
              have h13 : f 13 = _ := h13
              have h14 : f 14 = _ := h14
              have h15 : f 15 = _ := h15
              have h16 : f 16 = _ := h16
              have h17 : f 17 = _ := h17
              have h18 : f 18 = _ := h18
              have h19 : f 19 = _ := h19
              have h20 : f 20 = _ := h20
              have h21 : f 21 = _ := h21
              have h22 : f 22 = _ := h22
              have h23 : f 23 = _ := h23
              have h24 : f 24 = _ := h24
              have h25 : f 25 = _ := h25
              have h26 : f 26 = _ := h26
              rw [h0, h1, h2, h3, h4, h5, h6, h7, h8, h9, h10, h11, h12, h13, h14, h15, h16, h17, h18, h19, h20, h21, h22, h23, h24, h25, h26]
              clear h0 h1 h2 h3 h4 h5 h6 h7 h8 h9 h10 h11 h12 h13 h14 h15 h16 h17 h18 h19 h20 h21 h22 h23 h24 h25 h26
              go_wp2
              exact ⟨⟨i + 1, by simp, HIL.out, r12.below hB⟩, by have := HIL.out; simp [intOf]; omega⟩
          · have hkx : (i : Int) < (k : Int) := by omega
            have hkz : ¬ (k : Int) ≤ (i : Int) := by omega
            have hky : decide ((k : Int) ≤ (i : Int)) = false := decide_eq_false hkz
            have cE := hR.no i (by omega)
            have HKI := Lib.hid hki
            have HIL := Lib.hid hil
            clear hi hil hl hki
            go_upto_region 26 with (go_at_call 17; (with_reducible refine cE.mono ?_); rintro e w11 ⟨rfl, b11⟩)
            obtain ⟨w12, e12, m12, b12⟩ : ∃ w12, w12 = w11.alloc (.cells #[.int .u64 0, .int .u64 0, .slice none 0 0] 37) ∧ Mem w12 w11.heap.size 37 #[.int .u64 0, .int .u64 0, .slice none 0 0] ∧ Below w11.heap.size w11 w12 := ⟨_, rfl, Mem.new w11 _ _, (Below.refl _ w11).alloc (Nat.le_refl _) _⟩
            rw [← e12]
            clear e12 cE
            have r12 := (hR.below b11).below b12
            clear hu hcell hsu
            apply calm_region [.is _, .is _, .is _, .is (.bool false), .is (.bool false), .is (.bool false), .is (.bool false), .is (.bool false), .is undef, .is undef, .is undef, .is undef, .is undef, .is undef, .is undef, .is undef, .is undef, .is undef, .is undef, .is undef, .is undef, .is undef, .is undef, .is undef, .is undef, .is (.bool false), .is (.bool false)] [[], [], [], [1, 2], [0, 3], [4], [5], [6, 5, 5], [7], [8, 7], [9, 7], [7], [7], [11, 12, 7], [13, 7], [14, 7], [10, 15, 7], [16, 7, 7], [17], [18, 17], [17], [20, 17], [21, 17], [19, 22, 17], [17, 23, 7], [7, 24, 5], [5, 25]] (by kernel_rfl) (by kernel_rfl) (by kernel_rfl) rfl
            intro f a1 ha1
            simp only [putL, Act.put, List.setIfInBounds_toArray, List.set_cons_succ, List.set_cons_zero] at ha1
            subst ha1
            refine ⟨?_, ?_⟩
            · refine AllCalm.cons (fun W hB hd => ?_) ?_
              · go_wp2_with (fail)
                exact CalmQ.mk rfl _ rfl (Below.refl _ _) rfl
              refine AllCalm.cons (fun W hB hd => ?_) ?_
              · go_wp2_with (fail)
                exact CalmQ.mk rfl _ rfl (Below.refl _ _) rfl
              refine AllCalm.cons (fun W hB hd => ?_) ?_
              · go_wp2_with (fail)
                exact CalmQ.mk rfl _ rfl (Below.refl _ _) rfl
              refine AllCalm.cons (fun W hB hd => ?_) ?_
              · obtain ⟨h1, h2, -⟩ := hd
                have h1 : f 1 = _ := h1
                have h2 : f 2 = _ := h2
                rw [h1, h2]
                go_wp2_with (fail)
                refine CalmQ.mk rfl _ rfl (Below.refl _ _) ?_; show _ = Value.bool false; simp; have := HKI.out; omega
              refine AllCalm.cons (fun W hB hd => ?_) ?_
              · obtain ⟨h0, h3, -⟩ := hd
                have h0 : f 0 = _ := h0
                have h3 : f 3 = _ := h3
                rw [h0, h3]
                go_wp2_with (fail)
                exact CalmQ.mk rfl _ rfl (Below.refl _ _) rfl
              refine AllCalm.cons (fun W hB hd => ?_) ?_
              · obtain ⟨h4, -⟩ := hd
                have h4 : f 4 = _ := h4
                rw [h4]
                go_wp2_with (fail)
                exact CalmQ.mk rfl _ rfl (Below.refl _ _) rfl
              refine AllCalm.cons (fun W hB hd => ?_) ?_
              · obtain ⟨h5, -⟩ := hd
                have h5 : f 5 = _ := h5
                rw [h5]
                go_wp2_with (fail)
                exact CalmQ.mk rfl _ rfl (Below.refl _ _) rfl
              refine AllCalm.cons (fun W hB hd => ?_) ?_
              · obtain ⟨h6, h5, -, -⟩ := hd
                have h6 : f 6 = _ := h6
                have h5 : f 5 = _ := h5
                rw [h6, h5]
                go_wp2_with (fail)
                exact CalmQ.mk rfl _ rfl (Below.refl _ _) rfl
              refine AllCalm.cons (fun W hB hd => ?_) ?_
              · obtain ⟨h7, -⟩ := hd
                have h7 : f 7 = _ := h7
                rw [h7]
                go_wp2_with (fail)
                exact CalmQ.mk rfl _ rfl (Below.refl _ _) rfl
              refine AllCalm.cons (fun W hB hd => ?_) ?_
              · obtain ⟨h8, h7, -⟩ := hd
                have h8 : f 8 = _ := h8
                have h7 : f 7 = _ := h7
                rw [h8, h7]
                go_wp2_with (fail)
                exact CalmQ.mk rfl _ rfl (Below.refl _ _) rfl
              refine AllCalm.cons (fun W hB hd => ?_) ?_
              · obtain ⟨h9, h7, -⟩ := hd
                have h9 : f 9 = _ := h9
                have h7 : f 7 = _ := h7
                rw [h9, h7]
                go_wp2_with (fail)
                exact CalmQ.mk rfl _ rfl (Below.refl _ _) rfl
              refine AllCalm.cons (fun W hB hd => ?_) ?_
              · obtain ⟨h7, -⟩ := hd
                have h7 : f 7 = _ := h7
                rw [h7]
                go_wp2_with (fail)
                exact CalmQ.mk rfl _ rfl (Below.refl _ _) rfl
              refine AllCalm.cons (fun W hB hd => ?_) ?_
              · obtain ⟨h7, -⟩ := hd
                have h7 : f 7 = _ := h7
                rw [h7]
                go_wp2_with (fail)
                exact CalmQ.mk rfl _ rfl (Below.refl _ _) rfl
              refine AllCalm.cons (fun W hB hd => ?_) ?_
              · obtain ⟨h11, h12, h7, -⟩ := hd
                have h11 : f 11 = _ := h11
                have h12 : f 12 = _ := h12
                have h7 : f 7 = _ := h7
                rw [h11, h12, h7]
                go_wp2_with (fail)
                exact CalmQ.mk rfl _ rfl (Below.refl _ _) rfl
              refine AllCalm.cons (fun W hB hd => ?_) ?_
              · obtain ⟨h13, h7, -⟩ := hd
                have h13 : f 13 = _ := h13
                have h7 : f 7 = _ := h7
                rw [h13, h7]
                go_wp2_with (fail)
                exact CalmQ.mk rfl _ rfl (Below.refl _ _) rfl
              refine AllCalm.cons (fun W hB hd => ?_) ?_
              · obtain ⟨h14, h7, -⟩ := hd
                have h14 : f 14 = _ := h14
                have h7 : f 7 = _ := h7
                rw [h14, h7]
                go_wp2_with (fail)
                exact CalmQ.mk rfl _ rfl (Below.refl _ _) rfl
              refine AllCalm.cons (fun W hB hd => ?_) ?_
              · obtain ⟨h10, h15, h7, -⟩ := hd
                have h10 : f 10 = _ := h10
                have h15 : f 15 = _ := h15
                have h7 : f 7 = _ := h7
                rw [h10, h15, h7]
                go_wp2_with (fail)
                exact CalmQ.mk rfl _ rfl (Below.refl _ _) rfl
              refine AllCalm.cons (fun W hB hd => ?_) ?_
              · obtain ⟨h16, h7, -, -⟩ := hd
                have h16 : f 16 = _ := h16
                have h7 : f 7 = _ := h7
                rw [h16, h7]
                go_wp2_with (fail)
                exact CalmQ.mk rfl _ rfl (Below.refl _ _) rfl
              refine AllCalm.cons (fun W hB hd => ?_) ?_
              · obtain ⟨h17, -⟩ := hd
                have h17 : f 17 = _ := h17
                rw [h17]
                go_wp2_with (fail)
                exact CalmQ.mk rfl _ rfl (Below.refl _ _) rfl
              refine AllCalm.cons (fun W hB hd => ?_) ?_
              · obtain ⟨h18, h17, -⟩ := hd
                have h18 : f 18 = _ := h18
                have h17 : f 17 = _ := h17
                rw [h18, h17]
                go_wp2_with (fail)
                exact CalmQ.mk rfl _ rfl (Below.refl _ _) rfl
              refine AllCalm.cons (fun W hB hd => ?_) ?_
              · obtain ⟨h17, -⟩ := hd
                have h17 : f 17 = _ := h17
                rw [h17]
                go_wp2_with (fail)
                exact CalmQ.mk rfl _ rfl (Below.refl _ _) rfl
              refine AllCalm.cons (fun W hB hd => ?_) ?_
              · obtain ⟨h20, h17, -⟩ := hd
                have h20 : f 20 = _ := h20
                have h17 : f 17 = _ := h17
                rw [h20, h17]
                go_wp2_with (fail)
                exact CalmQ.mk rfl _ rfl (Below.refl _ _) rfl
              refine AllCalm.cons (fun W hB hd => ?_) ?_
              · obtain ⟨h21, h17, -⟩ := hd
                have h21 : f 21 = _ := h21
                have h17 : f 17 = _ := h17
                rw [h21, h17]
                go_wp2_with (fail)
                exact CalmQ.mk rfl _ rfl (Below.refl _ _) rfl
              refine AllCalm.cons (fun W hB hd => ?_) ?_
              · obtain ⟨h19, h22, h17, -⟩ := hd
                have h19 : f 19 = _ := h19
                have h22 : f 22 = _ := h22
                have h17 : f 17 = _ := h17
                rw [h19, h22, h17]
                go_wp2_with (fail)
                exact CalmQ.mk rfl _ rfl (Below.refl _ _) rfl
              refine AllCalm.cons (fun W hB hd => ?_) ?_
              · obtain ⟨h17, h23, h7, -⟩ := hd
                have h17 : f 17 = _ := h17
                have h23 : f 23 = _ := h23
                have h7 : f 7 = _ := h7
                rw [h17, h23, h7]
                go_wp2_with (fail)
                exact CalmQ.mk rfl _ rfl (Below.refl _ _) rfl
              refine AllCalm.cons (fun W hB hd => ?_) ?_
              · obtain ⟨h7, h24, h5, -⟩ := hd
                have h7 : f 7 = _ := h7
                have h24 : f 24 = _ := h24
                have h5 : f 5 = _ := h5
                rw [h7, h24, h5]
                go_wp2_with (fail)
                exact CalmQ.mk rfl _ rfl (Below.refl _ _) rfl
              refine AllCalm.cons (fun W hB hd => ?_) ?_
              · obtain ⟨h5, h25, -⟩ := hd
                have h5 : f 5 = _ := h5
                have h25 : f 25 = _ := h25
                rw [h5, h25]
                go_wp2_with (fail)
                exact CalmQ.mk rfl _ rfl (Below.refl _ _) rfl
              exact AllCalm.nil
            · intro W hB hT
              obtain ⟨h0, h1, h2, h3, h4, h5, h6, h7, h8, h9, h10, h11, h12, h13, h14, h15, h16, h17, h18, h19, h20, h21, h22, h23, h24, h25, h26, -⟩ := hT
              have h0 : f 0 = _ := h0
              have h1 : f 1 = _ := h1
              have h2 : f 2 = _ := h2
              have h3 : f 3 = _ := h3
              have h4 : f 4 = _ := h4
              have h5 : f 5 = _ := h5
              have h6 : f 6 = _ := h6
              have h7 : f 7 = _ := h7
              have h8 : f 8 = _ := h8
              have h9 : f 9 = _ := h9
              have h10 : f 10 = _ := h10
              have h11 : f 11 = _ := h11
              have h12 : f 12 = _ := h12
              have h13 : f 13 = _ := h13
              have h14 : f 14 = _ := h14
              have h15 : f 15 = _ := h15
              have h16 : f 16 = _ := h16
              have h17 : f 17 = _ := h17
              have h18 : f 18 = _ := h18
              have h19 : f 19 = _ := h19
              have h20 : f 20 = _ := h20
              have h21 : f 21 = _ := h21
              have h22 : f 22 = _ := h22
              have h23 : f 23 = _ := h23
              have h24 : f 24 = _ := h24
              have h25 : f 25 = _ := h25
              have h26 : f 26 = _ := h26
              rw [h0, h1, h2, h3, h4, h5, h6, h7, h8, h9, h10, h11, h12, h13, h14, h15, h16, h17, h18, h19, h20, h21, h22, h23, h24, h25, h26]
              clear h0 h1 h2 h3 h4 h5 h6 h7 h8 h9 h10 h11 h12 h13 h14 h15 h16 h17 h18 h19 h20 h21 h22 h23 h24 h25 h26
              go_wp2
              exact ⟨⟨i + 1, by simp, HIL.out, r12.below hB⟩, by have := HIL.out; simp [intOf]; omega⟩
        · obtain rfl : i = F.length := by omega
          have cB : Calls Try.prog 13 #[.pointer (some ⟨Z9, 0, none⟩)] wr fun e w' => ∃ A c, e = .returned (.tuple #[.int .u64 (k : Nat), .slice A 4 c]) ∧ w'.ownsRow wr.heap.size 5 1 (.slice A 4 c) 4 (bs ([115, 110, 97, 112] : List UInt8)) ∧ Below wr.heap.size wr w' := hR.base (by decide)
          clear hi hil
          go_upto_region 29 with (go_at_call 13; (with_reducible refine cB.mono ?_); rintro e w11 ⟨A11, c11, rfl, o11, b11⟩)
          have q5 := Tw.str (l := ([115, 110, 97, 112] : List UInt8)) (Sl.of_own o11)
          go_wp2
          go_ret
          exact ⟨rfl, hR.bl.trans (b11.mono hR.bl.size)⟩
theorem walk (v0 : Value) (F : List (List UInt8)) (vs : List Value) (c : Int) (w : World) (h0 : Sl w w.heap.size v0 F.length vs) (hr0 : Rows2 w w.heap.size vs F) (_ : -9223372036854775808 ≤ c) (_ : c ≤ 9223372036854775807) :
    Calls Try.prog 4 #[v0, .int .i64 c] w fun e w' => e = .returned (.bool true) ∧ Below w.heap.size w w' := by
  by_cases ho : 40 < F.length ∨ c < 0 ∨ (F.length : Int) < c
  · exact rows_out v0 F vs c w h0 ho
  · obtain ⟨k, rfl⟩ : ∃ k : Nat, c = k := ⟨c.toNat, by omega⟩
    exact rows_in v0 F vs k w h0 hr0 (by omega) (by omega)
set_option maxRecDepth 100000 in
theorem lifted (os : Os) (started : os.Started) (H : Type) (enc : TypeId × Value → H) :
    ReturnsInHanded {} Try.checked os 4 .any (Rows.storeRowsSpec.pre6 enc Try.prog Try.f4 Rows.storeRowsRow.domain false) (Rows.storeRowsSpec.post enc Try.prog Try.f4 false true false false) := by
  refine returnsInHanded_of_change (C := Try.checked) own started (by kernel_rfl) Try.func4
    (ChangeSpec.witness6 (enc := enc) (C := Try.checked) false ⟨#[], #[.slice none 0 0, .int .i64 0], []⟩ 8 (by kernel_rfl) (by kernel_rfl) (by kernel_rfl) (by kernel_rfl)) ?_
  intro W base args ds gs before hval0 hW hcnd _
  have hval : ∀ (j : Nat) t v, Try.f4.params[j]? = some t → args[j]? = some v → Value.okWide Try.prog W .any base t v := hval0
  have hW' := hW
  obtain ⟨p, q, hA0, hV, rfl, hfz, hnd⟩ := hW
  have hA : DataW.TrodAll enc Try.prog W 0 (fun _ => true) true Try.f4.params.toList args.toList ds p := hA0
  rw [Try.params4] at hA hval
  obtain ⟨v0, vs0, d0, ds0, p0, q0, hargs, rfl, rfl, h0, r0⟩ := trodAll_cons hA
  obtain ⟨v1, vs1, d1, ds1, p1, q1, rfl, rfl, rfl, h1, r1⟩ := trodAll_cons r0
  obtain ⟨rfl, rfl, rfl⟩ := trodAll_nil r1
  obtain rfl : args = #[v0, v1] := by cases args; simp_all
  obtain ⟨rfl, rfl⟩ := trodVars_none hV
  obtain ⟨L0, vs0x, s0, u0⟩ := open_bytess Try.underlying43 (by kernel_rfl) Try.underlying34 Try.underlying5 (by kernel_rfl) (hval 0 43 v0 rfl rfl) h0
  obtain ⟨a1, rfl, _, _, w1⟩ := open_int Try.underlying3 (hval 1 3 v1 rfl rfl) h1
  have b1 := bounds_i64 w1
  refine (walk v0 L0 vs0x a1 W s0 u0 b1.1 b1.2).mono fun e W' ⟨he, hb⟩ => ?_
  subst he
  exact ⟨_, rfl, law_post laidOut (by kernel_rfl) rfl (by kernel_rfl) Try.underlying4 rfl rfl rfl hW' hb⟩

theorem proved : Rows.StoreRowsSaid :=
  OpenClaim.holds_of_wide 4 Try.f4 rfl rfl rfl rfl rfl rfl rfl ⟨rfl, rfl, rfl, rfl, rfl⟩ rfl rfl rfl rfl rfl (by kernel_rfl) Try.func4 (by kernel_rfl)
    (of_decide_eq_true (by kernel_rfl)) (by unfold Func.isWrapper; first | (rw [if_pos (by decide +kernel)]; kernel_rfl) | (rw [if_neg (by decide +kernel)]; exact ⟨rfl, rfl⟩))
    (fun os started H enc _ => lifted os started H enc)
end Se
end Go.Proofs.Ytpfackjnnkjjdaa
