/- StoreRoom: for all numbers the statement's function tells true and turns nothing that was there. No condition. -/
import Derived.Test.YtpfackjnnkjjdaaSeX
namespace Go.Proofs.Ytpfackjnnkjjdaa
open Go.ChangeShapes Go.WideShapes Go.ChangeAt Go.RowKit Go.Lib
set_option linter.unusedVariables false
set_option linter.unusedSimpArgs false
set_option maxRecDepth 100000
namespace Se
open Crc Dk Tw Rg
theorem walk_out (a b c : Int) (w : World) (ho : a < 1 ∨ 4 < a ∨ b < 0 ∨ 512 < b ∨ c < 0 ∨ 24576 < c) :
    Calls Try.prog 3 #[.int .i64 a, .int .i64 b, .int .i64 c] w fun e w' => e = .returned (.bool true) ∧ Below w.heap.size w w' := by
  by_cases h0 : a < 1
  · clear ho
    go_enter Try.func3, Try.ntmps3
    go_wp2_with (go_at_call 5; refine (known_any _).mono ?_; rintro e w1 ⟨rfl, hb1⟩)
    go_ret
    exact ⟨rfl, hb1⟩
  by_cases h1 : 4 < a
  · clear ho
    go_enter Try.func3, Try.ntmps3
    go_wp2_with (go_at_call 5; refine (known_any _).mono ?_; rintro e w1 ⟨rfl, hb1⟩)
    go_ret
    exact ⟨rfl, hb1⟩
  by_cases h2 : b < 0
  · clear ho
    go_enter Try.func3, Try.ntmps3
    go_wp2_with (go_at_call 5; refine (known_any _).mono ?_; rintro e w1 ⟨rfl, hb1⟩)
    go_ret
    exact ⟨rfl, hb1⟩
  by_cases h3 : 512 < b
  · clear ho
    go_enter Try.func3, Try.ntmps3
    go_wp2_with (go_at_call 5; refine (known_any _).mono ?_; rintro e w1 ⟨rfl, hb1⟩)
    go_ret
    exact ⟨rfl, hb1⟩
  by_cases h4 : c < 0
  · clear ho
    go_enter Try.func3, Try.ntmps3
    go_wp2_with (go_at_call 5; refine (known_any _).mono ?_; rintro e w1 ⟨rfl, hb1⟩)
    go_ret
    exact ⟨rfl, hb1⟩
  · have h9 : 24576 < c := by omega
    clear ho
    go_enter Try.func3, Try.ntmps3
    go_wp2_with (go_at_call 5; refine (known_any _).mono ?_; rintro e w1 ⟨rfl, hb1⟩)
    go_ret
    exact ⟨rfl, hb1⟩
theorem kS1_rm {w W : World} {X Yt Z Yr : Nat} {O R : Nat → Prop} (ss : Nat) (h : Sto w W X O kS1 Yt 2 Z kr1 [] Yr R kT1) : Rm w W X Z 0 ss [] 0 0 := by
  refine ⟨⟨O, kS1, Yt, kr1, Yr, R, kT1, h, kS1_pu, rfl, rfl, rfl, rfl, rfl, rfl, by decide, rfl, rfl, fun m h => by simp [kT1, RS.new] at h, rfl, ?_, ?_⟩⟩
  · exact (Old.fmt n_fine n_len (rootB r0) (0 + 0)).congr fun j => rd_put kF_pu.fine kF_pu.len 2 _ RB (by decide) j
  · have := k_calls.2.1
    omega
set_option maxHeartbeats 4000000 in
theorem walk_in (N ss sn : Nat) (w : World) (hN1 : 1 ≤ N) (hN4 : N ≤ 4) (hss : ss ≤ 512) (hsn : sn ≤ 24576) :
    Calls Try.prog 3 #[.int .i64 (N : Nat), .int .i64 (ss : Nat), .int .i64 (sn : Nat)] w fun e w' => e = .returned (.bool true) ∧ Below w.heap.size w w' := by
  have g1 : ¬ (N : Int) < 1 := by omega
  have g2 : ¬ (4 : Int) < (N : Int) := by omega
  have g3 : ¬ (512 : Int) < (ss : Int) := by omega
  have g4 : ¬ (24576 : Int) < (sn : Int) := by omega
  have hcl := k_calls
  have cLe : ∀ W, Calls Try.prog 7 #[] W fun e w' => e = .returned (.int .i64 610) ∧ W = w' := fun W => least_any W
  have cNew : ∀ W, Below w.heap.size w W → Calls Try.prog 6 #[.int .i64 610] W fun e w' => ∃ X O, e = .returned (.tuple #[.pointer (some ⟨X, 0, none⟩), .int .i64 0]) ∧ Dsk w w' X O (DS.new 610) := fun W hW => (d_new (o := w) 610 (by omega) (by omega) hW).mono fun e w' ⟨X, O, h1, h2, _⟩ => ⟨X, O, h1, h2⟩
  have cFm : ∀ W X O, Dsk w W X O (DS.new 610) → Calls Try.prog 8 #[.pointer (some ⟨X, 0, none⟩)] W fun e w' => ∃ O', e = .returned (.int .i64 0) ∧ Dsk w w' X O' kF := fun W X O h => (format_any h ⟨rfl, rfl, rfl⟩ n_len (by decide) (by decide)).mono fun e w' ⟨O', h1, h2, _⟩ => ⟨O', h1, h2⟩
  have cO1 : ∀ W X O, Dsk w W X O kF → Calls Try.prog 9 #[.pointer (some ⟨X, 0, none⟩)] W fun e w' => ∃ Z, e = .returned (.tuple #[.pointer (some ⟨Z, 0, none⟩), .int .i64 0]) ∧ Rm w w' X Z 0 ss [] 0 0 := fun W X O h => (sopen_any (Ls := []) h kF_pu.up kF_pu.len (by rw [kF_pu.wtg]; decide) (by omega) kF_pu.tw (by decide) kF_pu.rok kF_pu.sz kF_pu.sum kF_pu.on (by decide) (by decide) (by decide) (by rw [kF_pu.len]; exact (n_len ▸ kT1_ok _ n_len)) kS1_jr.done (no_recs _)).mono fun e w' ⟨O', Yt, Z, Yr, R, h1, h2⟩ => ⟨Z, h1, kS1_rm ss h2⟩
  clear hcl
  have HN1 := Lib.hid hN1
  have HN4 := Lib.hid hN4
  have HSS := Lib.hid hss
  have HSN := Lib.hid hsn
  clear hN1 hN4 hss hsn
  go_enter Try.func3, Try.ntmps3
  go_wp2_with (first
    | (go_at_call 5; refine (known_any _).mono ?_; rintro e w1 ⟨rfl, hb1⟩)
    | (go_at_call 7; (with_reducible refine (cLe _).mono ?_); rintro e w2 ⟨rfl, rfl⟩)
    | (go_at_call 6; (with_reducible refine (cNew _ hb1).mono ?_); rintro e w3 ⟨X, O, rfl, s3⟩)
    | (go_at_call 8; (with_reducible refine (cFm _ _ _ s3).mono ?_); rintro e w4 ⟨O4, rfl, s4⟩)
    | (go_at_call 9; (with_reducible refine (cO1 _ _ _ s4).mono ?_); rintro e w5 ⟨Z, rfl, r5⟩))
  clear cLe cNew cFm cO1
  go_loopw [11, 12] (fun n k wr => ∃ (j : Nat) (l : List UInt8), n = .int .u64 ((64 * j : Nat) : Int) ∧ k = .int .i64 (j : Nat) ∧ j ≤ N ∧ Rm w wr X Z (64 * j) ss l j 0 ∧ Hid (j = 0 ∨ l = bytesS sn (j - 1))) (fun _ k _ => N - (intOf k).toNat)
  case atStart => exact ⟨0, [], rfl, rfl, Nat.zero_le _, r5, Lib.hid (.inl rfl)⟩
  case round =>
    obtain ⟨j, l, rfl, rfl, hj, hR, hl⟩ := hrel
    generalize wr = wo at *
    by_cases hjN : j < N
    · have hjx : (j : Int) < (N : Int) := by omega
      have hj4 : (j : Int) ≤ 4 := by omega
      have hj0 := HN4.out
      obtain ⟨b, hb⟩ : ∃ b, 64 * j = b := ⟨_, rfl⟩
      have hb4 : b ≤ 300 := by omega
      have hjn : j ≤ 4 := by omega
      have HB := Lib.hid hb
      have HJN := Lib.hid hjN
      have HB4 := Lib.hid hb4
      have HJ4 := Lib.hid hjn
      rw [hb] at hR ⊢
      clear hb hj hjN hb4 hjn hj0
      go_wp2
      go_loopw [11, 13] (fun n x wr => ∃ (i : Nat), n = .int .u64 ((b + i : Nat) : Int) ∧ x = .int .i64 (i : Nat) ∧ i ≤ 64 ∧ Rm w wr X Z b ss l j i) (fun _ x _ => 64 - (intOf x).toNat)
      case atStart => exact ⟨0, rfl, rfl, by omega, hR⟩
      case round =>
        obtain ⟨i, rfl, rfl, hi, hR⟩ := hrel
        by_cases hi6 : i < 64
        · have hix : (i : Int) < 64 := by omega
          have hb4 := HB4.out
          obtain ⟨m, hm⟩ : ∃ m, b + i = m := ⟨_, rfl⟩
          have hmx : (m : Int) ≤ 400 := by omega
          have cB := fun W => bytes_any ss i (by have := HSS.out; omega) (by omega) W
          have cA : ∀ W A c, Below wr.heap.size wr W → W.ownsRow wr.heap.size 5 1 (.slice A ss c) ss (bs (bytesS ss i)) → Calls Try.prog 10 #[.pointer (some ⟨Z, 0, none⟩), .agg #[.int .u64 ((m : Int) + 1), .int .u64 1, .slice A ss c]] W fun e w' => e = .returned (.int .i64 0) ∧ Rm w w' X Z b ss l j (i + 1) := fun W A c hW ho => (hR.below hW).append HSS.out hi6 (by omega) (by have := HJ4.out; omega) m hm _ (bytesS ss i) (bytesS_len _ _) (Sl.of_own ho)
          have HM := Lib.hid hm
          have HI6 := Lib.hid hi6
          rw [hm]
          clear hm hi hi6 hb4 hR
          go_wp2_with (first
            | (go_at_call 11; (with_reducible refine (cB _).mono ?_); rintro e w6 ⟨A6, c6, rfl, o6, b6⟩; have cA6 := cA _ _ _ b6 o6)
            | (go_at_call 10; (with_reducible refine cA6.mono ?_); rintro e w7 ⟨rfl, r7⟩))
          have hi6 := HI6.out
          exact ⟨⟨i + 1, by rw [← HM.out]; congr 1, by simp, by omega, r7⟩, by simp [intOf]; omega⟩
        · obtain rfl : i = 64 := by omega
          have hb4 := HB4.out
          obtain ⟨m, hm⟩ : ∃ m, b + 64 = m := ⟨_, rfl⟩
          have hmx : (m : Int) ≤ 400 := by omega
          have cB := fun W => bytes_any sn j (by have := HSN.out; omega) (by have := HJ4.out; omega) W
          have cC : ∀ W A c, Below wr.heap.size wr W → W.ownsRow wr.heap.size 5 1 (.slice A sn c) sn (bs (bytesS sn j)) → Calls Try.prog 12 #[.pointer (some ⟨Z, 0, none⟩), .int .u64 (m : Nat), .slice A sn c] W fun e w' => e = .returned (.int .i64 0) ∧ Rm w w' X Z m ss (bytesS sn j) (j + 1) 0 := fun W A c hW ho => Rm.compact (w' := wr) (hR.below hW) HSS.out (Nat.le_refl _) (by omega) (by have := HJ4.out; omega) m hm _ (bytesS sn j) (by rw [bytesS_len]; exact ho) hR hW (by rw [bytesS_len]; exact HSN.out)
          have HM := Lib.hid hm
          rw [hm]
          clear hm hi hi6 hb4 hR
          go_wp2_with (first
            | (go_at_call 11; (with_reducible refine (cB _).mono ?_); rintro e w6 ⟨A6, c6, rfl, o6, b6⟩; have cC6 := cC _ _ _ b6 o6)
            | (go_at_call 12; (with_reducible refine cC6.mono ?_); rintro e w7 ⟨rfl, r7⟩))
          have hjN := HJN.out
          have e64 : 64 * (j + 1) = m := by rw [← HM.out, ← HB.out]; omega
          exact ⟨⟨j + 1, bytesS sn j, by rw [e64], by simp, by omega, by rw [e64]; exact r7, Lib.hid (.inr rfl)⟩, by simp [intOf]; omega⟩
    · obtain rfl : j = N := by omega
      have hj4 := HN4.out
      have hl1 : l = bytesS sn (j - 1) := hl.out.elim (fun h => by have := HN1.out; omega) id
      obtain ⟨m, hm⟩ : ∃ m, 64 * j = m := ⟨_, rfl⟩
      have hm3 : m ≤ 300 := by omega
      rw [hm] at hR ⊢
      have hll : l.length = sn := by rw [hl1, bytesS_len]
      have cO := hR.open_ (by omega) (by omega)
      have cBs : ∀ W Z', Rz w W X Z' m l → Calls Try.prog 13 #[.pointer (some ⟨Z', 0, none⟩)] W fun e w' => ∃ A c, e = .returned (.tuple #[.int .u64 (m : Nat), .slice A sn c]) ∧ w'.ownsRow W.heap.size 5 1 (.slice A sn c) sn (bs l) ∧ Below W.heap.size W w' := fun W Z' h => by
        have q := h.base (by have := HSN.out; omega)
        rw [hll] at q
        exact q
      have cL : ∀ W Z', Rz w W X Z' m l → Calls Try.prog 14 #[.pointer (some ⟨Z', 0, none⟩)] W fun e w' => e = .returned (.int .u64 (m : Nat)) ∧ Below W.heap.size W w' := fun W Z' h => h.last (by omega)
      have hj1 : (j : Int) - 1 = ((j - 1 : Nat) : Int) := by have := HN1.out; omega
      obtain ⟨jm, hjm⟩ : ∃ jm, j - 1 = jm := ⟨_, rfl⟩
      rw [hjm] at hj1 hl1
      have cB : ∀ W, Calls Try.prog 11 #[.int .i64 (sn : Nat), .int .i64 (jm : Nat)] W fun e w' => ∃ A c, e = .returned (.slice A sn c) ∧ w'.ownsRow W.heap.size 5 1 (.slice A sn c) sn (bs l) ∧ Below W.heap.size W w' := fun W => by
        have q := bytes_any sn jm (by have := HSN.out; omega) (by omega) W
        rw [← hl1] at q
        exact q
      clear hm hm3 hll hjm hj4 hj hjN hR hl1 hl
      go_upto_region 24 with (first
        | (go_at_call 9; (with_reducible refine cO.mono ?_); rintro e w6 ⟨Z6, rfl, z6⟩; have cB6 := cBs _ _ z6)
        | (go_at_call 13; (with_reducible refine cB6.mono ?_); rintro e w7 ⟨A7, c7, rfl, o7, b7⟩; have z7 := z6.below b7))
      clear cO cBs cB6
      apply calm_region [.is _, .is _, .is _, .is _, .is _, .is (.string ⟨l.toArray⟩), .is _, .is _, .is _, .of (fun x W => ∃ A c, x = .slice A sn c ∧ W.ownsRow w7.heap.size 5 1 x sn (bs l)) (fun x W W' hb ⟨A, c, h0, h1⟩ => ⟨A, c, h0, owns_below h1 hb⟩), .is (.string ⟨l.toArray⟩), .is _, .is _, .is _, .is _, .is _, .is _, .is _, .is _, .is _] [[], [], [0, 1], [2], [3], [4, 3], [3], [3], [7, 3], [6, 8, 3, 3], [9, 3], [5, 10, 3], [3, 11], [12, 9], [13], [14, 13, 13], [13], [15, 16, 13], [13, 17], [18, 15, 0, 1, 2, 3, 4, 5, 6, 7, 8, 9, 10, 11, 12, 13, 14, 15, 16, 17, 18]] (by kernel_rfl) (by kernel_rfl) (by kernel_rfl) rfl
      intro f a1 ha1
      simp only [putL, Act.put, List.setIfInBounds_toArray, List.set_cons_succ, List.set_cons_zero] at ha1
      subst ha1
      refine ⟨?_, ?_⟩
      · refine AllCalm.cons (fun W hB hd => ?_) ?_
        · go_wp2_with (fail)
          exact CalmQ.mk rfl _ rfl (Below.refl _ _) rfl
        refine AllCalm.cons (fun W hB hd => ?_) ?_
        · go_wp2_with (fail)
          exact CalmQ.mk rfl _ rfl (Below.refl _ _) rfl
        refine AllCalm.cons (fun W hB hd => ?_) ?_
        · obtain ⟨h0, h1, -⟩ := hd
          have h0 : f 0 = _ := h0
          have h1 : f 1 = _ := h1
          rw [h0, h1]
          go_wp2_with (fail)
          exact CalmQ.mk rfl _ rfl (Below.refl _ _) rfl
        refine AllCalm.cons (fun W hB hd => ?_) ?_
        · obtain ⟨h2, -⟩ := hd
          have h2 : f 2 = _ := h2
          rw [h2]
          go_wp2_with (fail)
          exact CalmQ.mk rfl _ rfl (Below.refl _ _) rfl
        refine AllCalm.cons (fun W hB hd => ?_) ?_
        · obtain ⟨h3, -⟩ := hd
          have h3 : f 3 = _ := h3
          rw [h3]
          go_wp2_with (fail)
          exact CalmQ.mk rfl _ rfl (Below.refl _ _) rfl
        refine AllCalm.cons (fun W hB hd => ?_) ?_
        · obtain ⟨h4, h3, -⟩ := hd
          have h4 : f 4 = _ := h4
          have h3 : f 3 = _ := h3
          rw [h4, h3]
          have q5 := Tw.str (Sl.of_own (owns_below o7 hB))
          go_wp2_with (fail)
          exact CalmQ.mk rfl _ rfl (Below.refl _ _) rfl
        refine AllCalm.cons (fun W hB hd => ?_) ?_
        · obtain ⟨h3, -⟩ := hd
          have h3 : f 3 = _ := h3
          rw [h3]
          go_wp2_with (fail)
          exact CalmQ.mk rfl _ rfl (Below.refl _ _) rfl
        refine AllCalm.cons (fun W hB hd => ?_) ?_
        · obtain ⟨h3, -⟩ := hd
          have h3 : f 3 = _ := h3
          rw [h3]
          go_wp2_with (fail)
          exact CalmQ.mk rfl _ rfl (Below.refl _ _) rfl
        refine AllCalm.cons (fun W hB hd => ?_) ?_
        · obtain ⟨h7, h3, -⟩ := hd
          have h7 : f 7 = _ := h7
          have h3 : f 3 = _ := h3
          rw [h7, h3]
          go_wp2_with (fail)
          exact CalmQ.mk rfl _ rfl (Below.refl _ _) rfl
        refine AllCalm.cons (fun W hB hd => ?_) ?_
        · obtain ⟨h6, h8, h3, -, -⟩ := hd
          have h6 : f 6 = _ := h6
          have h8 : f 8 = _ := h8
          have h3 : f 3 = _ := h3
          rw [h6, h8, h3]
          have cW := cB W
          go_wp2_with ((go_at_call 11; (with_reducible refine cW.mono ?_); rintro e' w8 ⟨A8, c8, rfl, o8, b8⟩))
          exact CalmQ.mk rfl _ rfl b8 ⟨A8, c8, rfl, owns_mono o8 hB.size⟩
        refine AllCalm.cons (fun W hB hd => ?_) ?_
        · obtain ⟨h9, h3, -⟩ := hd
          have h3 : f 3 = _ := h3
          rw [h3]
          obtain ⟨A9, c9, e9, o9⟩ := h9; rw [e9] at o9 ⊢; have q10 := Tw.str (Sl.of_own o9)
          go_wp2_with (fail)
          exact CalmQ.mk rfl _ rfl (Below.refl _ _) rfl
        refine AllCalm.cons (fun W hB hd => ?_) ?_
        · obtain ⟨h5, h10, h3, -⟩ := hd
          have h5 : f 5 = _ := h5
          have h10 : f 10 = _ := h10
          have h3 : f 3 = _ := h3
          rw [h5, h10, h3]
          go_wp2_with (fail)
          exact CalmQ.mk rfl _ rfl (Below.refl _ _) rfl
        refine AllCalm.cons (fun W hB hd => ?_) ?_
        · obtain ⟨h3, h11, -⟩ := hd
          have h3 : f 3 = _ := h3
          have h11 : f 11 = _ := h11
          rw [h3, h11]
          go_wp2_with (fail)
          exact CalmQ.mk rfl _ rfl (Below.refl _ _) rfl
        refine AllCalm.cons (fun W hB hd => ?_) ?_
        · obtain ⟨h12, h9, -⟩ := hd
          have h12 : f 12 = _ := h12
          rw [h12]
          go_wp2_with (fail)
          exact CalmQ.mk rfl _ rfl (Below.refl _ _) rfl
        refine AllCalm.cons (fun W hB hd => ?_) ?_
        · obtain ⟨h13, -⟩ := hd
          have h13 : f 13 = _ := h13
          rw [h13]
          go_wp2_with (fail)
          exact CalmQ.mk rfl _ rfl (Below.refl _ _) rfl
        refine AllCalm.cons (fun W hB hd => ?_) ?_
        · obtain ⟨h14, h13, -, -⟩ := hd
          have h14 : f 14 = _ := h14
          have h13 : f 13 = _ := h13
          rw [h14, h13]
          have cW := cL W _ (z7.below hB)
          go_wp2_with ((go_at_call 14; (with_reducible refine cW.mono ?_); rintro e' w8 ⟨rfl, b8⟩))
          exact CalmQ.mk rfl _ rfl b8 rfl
        refine AllCalm.cons (fun W hB hd => ?_) ?_
        · obtain ⟨h13, -⟩ := hd
          have h13 : f 13 = _ := h13
          rw [h13]
          go_wp2_with (fail)
          exact CalmQ.mk rfl _ rfl (Below.refl _ _) rfl
        refine AllCalm.cons (fun W hB hd => ?_) ?_
        · obtain ⟨h15, h16, h13, -⟩ := hd
          have h15 : f 15 = _ := h15
          have h16 : f 16 = _ := h16
          have h13 : f 13 = _ := h13
          rw [h15, h16, h13]
          go_wp2_with (fail)
          exact CalmQ.mk rfl _ rfl (Below.refl _ _) rfl
        refine AllCalm.cons (fun W hB hd => ?_) ?_
        · obtain ⟨h13, h17, -⟩ := hd
          have h13 : f 13 = _ := h13
          have h17 : f 17 = _ := h17
          rw [h13, h17]
          go_wp2_with (fail)
          exact CalmQ.mk rfl _ rfl (Below.refl _ _) rfl
        refine AllCalm.cons (fun W hB hd => ?_) ?_
        · obtain ⟨h18, h15, h0, h1, h2, h3, h4, h5, h6, h7, h8, h9, h10, h11, h12, h13, h14, -, h16, h17, -, -⟩ := hd
          have h18 : f 18 = _ := h18
          have h15 : f 15 = _ := h15
          have h0 : f 0 = _ := h0
          have h1 : f 1 = _ := h1
          have h2 : f 2 = _ := h2
          have h3 : f 3 = _ := h3
          have h4 : f 4 = _ := h4
          have h5 : f 5 = _ := h5
          have h6 : f 6 = _ := h6
          have h7 : f 7 = _ := h7
          have h8 : f 8 = _ := h8
          have h10 : f 10 = _ := h10
          have h11 : f 11 = _ := h11
          have h12 : f 12 = _ := h12
          have h13 : f 13 = _ := h13
          have h14 : f 14 = _ := h14
          have h16 : f 16 = _ := h16
          have h17 : f 17 = _ := h17
          rw [h18, h15, h0, h1, h2, h3, h4, h5, h6, h7, h8, h10, h11, h12, h13, h14, h16, h17]
          go_wp2_with (fail)
          exact CalmQ.mk rfl _ rfl (Below.refl _ _) rfl
        exact AllCalm.nil
      · intro W hB hT
        obtain ⟨h0, h1, h2, h3, h4, h5, h6, h7, h8, h9, h10, h11, h12, h13, h14, h15, h16, h17, h18, h19, -⟩ := hT
        have h0 : f 0 = _ := h0
        have h1 : f 1 = _ := h1
        have h2 : f 2 = _ := h2
        have h3 : f 3 = _ := h3
        have h4 : f 4 = _ := h4
        have h5 : f 5 = _ := h5
        have h6 : f 6 = _ := h6
        have h7 : f 7 = _ := h7
        have h8 : f 8 = _ := h8
        have h10 : f 10 = _ := h10
        have h11 : f 11 = _ := h11
        have h12 : f 12 = _ := h12
        have h13 : f 13 = _ := h13
        have h14 : f 14 = _ := h14
        have h15 : f 15 = _ := h15
        have h16 : f 16 = _ := h16
        have h17 : f 17 = _ := h17
        have h18 : f 18 = _ := h18
        have h19 : f 19 = _ := h19
        rw [h0, h1, h2, h3, h4, h5, h6, h7, h8, h10, h11, h12, h13, h14, h15, h16, h17, h18, h19]
        clear h0 h1 h2 h3 h4 h5 h6 h7 h8 h10 h11 h12 h13 h14 h15 h16 h17 h18 h19
        go_wp2
        go_ret
        exact ⟨rfl, z7.bl.trans (hB.mono z7.bl.size)⟩
theorem walk (a b c : Int) (w : World) (_ : -9223372036854775808 ≤ a) (_ : a ≤ 9223372036854775807) (_ : -9223372036854775808 ≤ b) (_ : b ≤ 9223372036854775807) (_ : -9223372036854775808 ≤ c) (_ : c ≤ 9223372036854775807) :
    Calls Try.prog 3 #[.int .i64 a, .int .i64 b, .int .i64 c] w fun e w' => e = .returned (.bool true) ∧ Below w.heap.size w w' := by
  by_cases ho : a < 1 ∨ 4 < a ∨ b < 0 ∨ 512 < b ∨ c < 0 ∨ 24576 < c
  · exact walk_out a b c w ho
  · obtain ⟨n, rfl⟩ : ∃ n : Nat, a = n := ⟨a.toNat, by omega⟩
    obtain ⟨m, rfl⟩ : ∃ m : Nat, b = m := ⟨b.toNat, by omega⟩
    obtain ⟨k, rfl⟩ : ∃ k : Nat, c = k := ⟨c.toNat, by omega⟩
    exact walk_in n m k w (by omega) (by omega) (by omega) (by omega)
set_option maxRecDepth 100000 in
theorem lifted (os : Os) (started : os.Started) (H : Type) (enc : TypeId × Value → H) :
    ReturnsInHanded {} Try.checked os 3 .any (Rows.storeRoomSpec.pre6 enc Try.prog Try.f3 Rows.storeRoomRow.domain false) (Rows.storeRoomSpec.post enc Try.prog Try.f3 false true false false) := by
  refine returnsInHanded_of_change (C := Try.checked) own started (by kernel_rfl) Try.func3
    (ChangeSpec.witness6 (enc := enc) (C := Try.checked) false ⟨#[], #[.int .i64 0, .int .i64 0, .int .i64 0], []⟩ 8 (by kernel_rfl) (by kernel_rfl) (by kernel_rfl) (by kernel_rfl)) ?_
  intro W base args ds gs before hval0 hW hcnd _
  have hval : ∀ (j : Nat) t v, Try.f3.params[j]? = some t → args[j]? = some v → Value.okWide Try.prog W .any base t v := hval0
  have hW' := hW
  obtain ⟨p, q, hA0, hV, rfl, hfz, hnd⟩ := hW
  have hA : DataW.TrodAll enc Try.prog W 0 (fun _ => true) true Try.f3.params.toList args.toList ds p := hA0
  rw [Try.params3] at hA hval
  obtain ⟨v0, vs0, d0, ds0, p0, q0, hargs, rfl, rfl, h0, r0⟩ := trodAll_cons hA
  obtain ⟨v1, vs1, d1, ds1, p1, q1, rfl, rfl, rfl, h1, r1⟩ := trodAll_cons r0
  obtain ⟨v2, vs2, d2, ds2, p2, q2, rfl, rfl, rfl, h2, r2⟩ := trodAll_cons r1
  obtain ⟨rfl, rfl, rfl⟩ := trodAll_nil r2
  obtain rfl : args = #[v0, v1, v2] := by cases args; simp_all
  obtain ⟨rfl, rfl⟩ := trodVars_none hV
  obtain ⟨a0, rfl, _, _, w0⟩ := open_int Try.underlying3 (hval 0 3 v0 rfl rfl) h0
  have b0 := bounds_i64 w0
  obtain ⟨a1, rfl, _, _, w1⟩ := open_int Try.underlying3 (hval 1 3 v1 rfl rfl) h1
  have b1 := bounds_i64 w1
  obtain ⟨a2, rfl, _, _, w2⟩ := open_int Try.underlying3 (hval 2 3 v2 rfl rfl) h2
  have b2 := bounds_i64 w2
  refine (walk a0 a1 a2 W b0.1 b0.2 b1.1 b1.2 b2.1 b2.2).mono fun e W' ⟨he, hb⟩ => ?_
  subst he
  exact ⟨_, rfl, law_post laidOut (by kernel_rfl) rfl (by kernel_rfl) Try.underlying4 rfl rfl rfl hW' hb⟩

theorem proved : Rows.StoreRoomSaid :=
  OpenClaim.holds_of_wide 3 Try.f3 rfl rfl rfl rfl rfl rfl rfl ⟨rfl, rfl, rfl, rfl, rfl⟩ rfl rfl rfl rfl rfl (by kernel_rfl) Try.func3 (by kernel_rfl)
    (of_decide_eq_true (by kernel_rfl)) (by unfold Func.isWrapper; first | (rw [if_pos (by decide +kernel)]; kernel_rfl) | (rw [if_neg (by decide +kernel)]; exact ⟨rfl, rfl⟩))
    (fun os started H enc _ => lifted os started H enc)
end Se
end Go.Proofs.Ytpfackjnnkjjdaa
