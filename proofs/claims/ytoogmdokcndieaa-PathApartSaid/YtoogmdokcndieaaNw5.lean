/- Package node, wire: the reader's number; open and Answer of a request. -/
import Derived.Test.YtoogmdokcndieaaNw4
import Derived.Test.YtoogmdokcndieaaCalmK
namespace Go.Proofs.Ytoogmdokcndieaa
open Go.ChangeShapes Go.WideShapes Go.ChangeAt Go.RowKit Go.Lib
set_option linter.unusedVariables false
set_option linter.unusedSimpArgs false
set_option maxRecDepth 100000
namespace Nw
/-- A reader at place t of the bytes b. -/
structure Rd (B : Nat) (w : World) (X : Nat) (v : Value) (b : List UInt8) (t : Nat) : Prop where
  from_ : B ≤ X
  mem : Mem w X 97 #[v, .int .i64 (t : Nat), .bool false]
  row : Sl w B v b.length (bs b)
section
variable {w w' : World} {B X : Nat} {v : Value} {b : List UInt8} {t : Nat}
theorem Rd.below (h : Rd B w X v b t) (hb : Below w.heap.size w w') : Rd B w' X v b t := ⟨h.from_, h.mem.below hb h.mem.lt, h.row.below (hb.mono (by have := h.mem.lt; have := h.from_; omega))⟩
set_option maxHeartbeats 4000000 in
theorem rnumber_ok (h : Rd B w X v b t) (n : Nat) (hn : 1 ≤ n ∧ n ≤ 8) (hb : b.length ≤ 1000000) (ht : t + n ≤ b.length) : Calls Try.prog 42 #[.pointer (some ⟨X, 0, none⟩), .int .i64 (n : Nat)] w fun e' w' => e' = .returned (.int .u64 (beVal ((b.drop t).take n) : Nat)) ∧ Rd B w' X v b (t + n) ∧ Below B w w' := by
  obtain ⟨A, c, rfl, hc1, hc2⟩ := h.row.form
  have hm := h.mem
  have hX := h.from_
  have hg : ∀ W, Below w.heap.size w W → Calls Try.prog 45 #[.slice A b.length c, .int .i64 (t : Nat), .int .i64 (n : Nat)] W fun e' w' => e' = .returned (.tuple #[.int .u64 (beVal ((b.drop t).take n) : Nat), .bool true]) ∧ W = w' := fun W hW => get_b (.slice A b.length c) b _ _ t n rfl rfl W ((h.below hW).row.more (by have := (h.below hW).mem.lt; omega)) (by omega) (by omega) hn ht
  have htx : (t : Int) ≤ 1000000 := by omega
  have hnx : (n : Int) ≤ 8 := by omega
  have HR := Lib.hid h.row
  have Ht := Lib.hid ht
  generalize beVal ((b.drop t).take n) = x at *
  clear h ht hn
  go_enter Try.func42, Try.ntmps42
  go_wp2
  refine wp_region_any (by kernel_rfl) ?_
  change wpAny _ _ _ _ _ _ _ (World.drew _)
  refine wpAny_take (i := 0) (oi := { dst := some 8, op := Op.move (Operand.tmp 0), type := 81, pos := "wire.go:81", after := #[], guard := none }) (v := (.pointer (some ⟨X, 0, none⟩))) rfl (by kernel_rfl) (by kernel_rfl) (by kernel_rfl) (fun _ _ _ h => h) (Or.inl ⟨by rfl, by intro w; go_simp⟩) ?_
  try dsimp only [Act.put]
  try simp only [List.setIfInBounds_toArray, List.set_cons_succ, List.set_cons_zero]
  apply calm_tailK 14 [0] [.is (.pointer (some ⟨X, 0, none⟩)), .is _, .is _, .is _, .is _, .is _, .is _, .is _, .is _, .is _, .is _, .is _, .is _, .is _] [[], [0], [1], [2], [], [4], [5], [6], [], [3, 7, 8], [9], [10], [10], [11, 9, 0, 1, 2, 3, 4, 5, 6, 7, 8, 9, 10, 11]] (by kernel_rfl) (by kernel_rfl) rfl (by decide) (by intro i hi o ho; obtain rfl := List.mem_singleton.1 hi; obtain rfl := Option.some.inj ho; exact rfl)
  intro f a1 ha1
  simp only [List.take_succ_cons, List.take_zero, putL, Act.put, List.setIfInBounds_toArray, List.set_cons_succ, List.set_cons_zero] at ha1
  subst ha1
  refine ⟨?_, ?_⟩
  · refine AllCalm.cons (fun W hB hd => ?_) ?_
    · go_wp2_with (fail)
      exact CalmQ.mk rfl _ rfl (Below.refl _ _) rfl
    refine AllCalm.cons (fun W hB hd => ?_) ?_
    · obtain ⟨h0, -⟩ := hd
      have h0 : f 0 = _ := h0
      rw [h0]
      go_wp2_with (fail)
      exact CalmQ.mk rfl _ rfl (Below.refl _ _) rfl
    refine AllCalm.cons (fun W hB hd => ?_) ?_
    · obtain ⟨h1, -⟩ := hd
      have h1 : f 1 = _ := h1
      rw [h1]
      go_wp2_with (fail)
      exact CalmQ.mk rfl _ rfl (Below.refl _ _) rfl
    refine AllCalm.cons (fun W hB hd => ?_) ?_
    · obtain ⟨h2, -⟩ := hd
      have h2 : f 2 = _ := h2
      rw [h2]
      have k0 := (hm.below ((Below.refl _ w).drew.trans hB) hm.lt).cell 0
      go_wp2_with (fail)
      exact CalmQ.mk rfl _ rfl (Below.refl _ _) rfl
    refine AllCalm.cons (fun W hB hd => ?_) ?_
    · go_wp2_with (fail)
      exact CalmQ.mk rfl _ rfl (Below.refl _ _) rfl
    refine AllCalm.cons (fun W hB hd => ?_) ?_
    · obtain ⟨h4, -⟩ := hd
      have h4 : f 4 = _ := h4
      rw [h4]
      go_wp2_with (fail)
      exact CalmQ.mk rfl _ rfl (Below.refl _ _) rfl
    refine AllCalm.cons (fun W hB hd => ?_) ?_
    · obtain ⟨h5, -⟩ := hd
      have h5 : f 5 = _ := h5
      rw [h5]
      go_wp2_with (fail)
      exact CalmQ.mk rfl _ rfl (Below.refl _ _) rfl
    refine AllCalm.cons (fun W hB hd => ?_) ?_
    · obtain ⟨h6, -⟩ := hd
      have h6 : f 6 = _ := h6
      rw [h6]
      have k1 := (hm.below ((Below.refl _ w).drew.trans hB) hm.lt).cell 1
      go_wp2_with (fail)
      exact CalmQ.mk rfl _ rfl (Below.refl _ _) rfl
    refine AllCalm.cons (fun W hB hd => ?_) ?_
    · go_wp2_with (fail)
      exact CalmQ.mk rfl _ rfl (Below.refl _ _) rfl
    refine AllCalm.cons (fun W hB hd => ?_) ?_
    · obtain ⟨h3, h7, h8, -⟩ := hd
      have h3 : f 3 = _ := h3
      have h7 : f 7 = _ := h7
      have h8 : f 8 = _ := h8
      rw [h3, h7, h8]
      have hgW := hg W ((Below.refl _ w).drew.trans hB)
      go_wp2_with ((go_at_call 45; (with_reducible refine hgW.mono ?_); rintro e' w3 ⟨rfl, rfl⟩))
      exact CalmQ.mk rfl _ rfl (Below.refl _ _) rfl
    refine AllCalm.cons (fun W hB hd => ?_) ?_
    · obtain ⟨h9, -⟩ := hd
      have h9 : f 9 = _ := h9
      rw [h9]
      go_wp2_with (fail)
      exact CalmQ.mk rfl _ rfl (Below.refl _ _) rfl
    refine AllCalm.cons (fun W hB hd => ?_) ?_
    · obtain ⟨h10, -⟩ := hd
      have h10 : f 10 = _ := h10
      rw [h10]
      go_wp2_with (fail)
      exact CalmQ.mk rfl _ rfl (Below.refl _ _) rfl
    refine AllCalm.cons (fun W hB hd => ?_) ?_
    · obtain ⟨h10, -⟩ := hd
      have h10 : f 10 = _ := h10
      rw [h10]
      go_wp2_with (fail)
      exact CalmQ.mk rfl _ rfl (Below.refl _ _) rfl
    refine AllCalm.cons (fun W hB hd => ?_) ?_
    · obtain ⟨h11, h9, h0, h1, h2, h3, h4, h5, h6, h7, h8, -, h10, -, -⟩ := hd
      have h11 : f 11 = _ := h11
      have h9 : f 9 = _ := h9
      have h0 : f 0 = _ := h0
      have h1 : f 1 = _ := h1
      have h2 : f 2 = _ := h2
      have h3 : f 3 = _ := h3
      have h4 : f 4 = _ := h4
      have h5 : f 5 = _ := h5
      have h6 : f 6 = _ := h6
      have h7 : f 7 = _ := h7
      have h8 : f 8 = _ := h8
      have h10 : f 10 = _ := h10
      rw [h11, h9, h0, h1, h2, h3, h4, h5, h6, h7, h8, h10]
      go_wp2_with (fail)
      exact CalmQ.mk rfl _ rfl (Below.refl _ _) rfl
    exact AllCalm.nil
  · intro W hB hT
    obtain ⟨h0, h1, h2, h3, h4, h5, h6, h7, h8, h9, h10, h11, h12, h13, -⟩ := hT
    have h0 : f 0 = _ := h0
    have h1 : f 1 = _ := h1
    have h2 : f 2 = _ := h2
    have h3 : f 3 = _ := h3
    have h4 : f 4 = _ := h4
    have h5 : f 5 = _ := h5
    have h6 : f 6 = _ := h6
    have h7 : f 7 = _ := h7
    have h8 : f 8 = _ := h8
    have h9 : f 9 = _ := h9
    have h10 : f 10 = _ := h10
    have h11 : f 11 = _ := h11
    have h12 : f 12 = _ := h12
    have h13 : f 13 = _ := h13
    rw [h0, h1, h2, h3, h4, h5, h6, h7, h8, h9, h10, h11, h12, h13]
    clear h0 h1 h2 h3 h4 h5 h6 h7 h8 h9 h10 h11 h12 h13
    simp only [List.drop_succ_cons, List.drop_zero]
    have hB : Below w.heap.size w W := (Below.refl _ w).drew.trans hB
    have hmW := hm.below hB hm.lt
    have k1 := hmW.cell 1
    have f1 := hmW.free 1
    go_wp2
    go_ret
    have hS : Below B W (W.setCell ⟨X, 1, none⟩ (.int .i64 ((t : Int) + (n : Int)))) := (Below.refl _ W).setCell hX _
    exact ⟨rfl, ⟨hX, hmW.put 1 _, ((HR.out.below (hB.mono (by have := hm.lt; omega))).below hS)⟩, (hB.mono (by have := hm.lt; omega)).trans hS⟩
end
section
variable {w w' : World}
theorem req_two (host id floor : Nat) (c : Cm) (d : List UInt8) : beVal (((reqS host id floor c d).drop 0).take 2) = 18253 ∧ beVal (((reqS host id floor c d).drop 2).take 1) = 1 ∧ 3 ≤ (reqS host id floor c d).length := by
  unfold reqS
  generalize orderS host id floor c d = R
  refine ⟨?_, ?_, ?_⟩
  · rw [List.drop_zero, List.append_assoc, List.take_append_of_le_length (by simp), List.take_of_length_le (by simp)]; rfl
  · rw [List.append_assoc, List.drop_append_of_le_length (by simp), List.drop_of_length_le (by simp), List.nil_append, List.take_append_of_le_length (by simp), List.take_of_length_le (by simp)]; rfl
  · simp only [List.length_append, be_len]; omega
set_option maxHeartbeats 4000000 in
theorem wopen_req (host id floor : Nat) (c : Cm) (d : List UInt8) (hd : d.length ≤ 100000) (v : Value) (hv : Sl w w.heap.size v (Crc.sealS (reqS host id floor c d)).length (bs (Crc.sealS (reqS host id floor c d)))) (hl : (Crc.sealS (reqS host id floor c d)).length ≤ 1000000) (hR : (reqS host id floor c d).length ≤ 1000000) : Calls Try.prog 27 #[v] w fun e' w' => ∃ X, e' = .returned (.tuple #[.int .i64 1, .pointer (some ⟨X, 0, none⟩), .bool true]) ∧ Below w.heap.size w w' := by
  have d1 : Calls Try.prog 41 #[v] w fun e w' => ∃ v', e = .returned (.tuple #[v', .int .i64 0]) ∧ Sl w' w'.heap.size v' (reqS host id floor c d).length (bs (reqS host id floor c d)) ∧ Below w.heap.size w w' := by
    have := Crc.open_any v (Crc.sealS (reqS host id floor c d)) w hv (by omega)
    rw [Crc.open_seal] at this
    exact this
  obtain ⟨r1, r2, r3⟩ := req_two host id floor c d
  generalize reqS host id floor c d = R at *
  have d2 : ∀ W X v, Rd X W X v R 0 → Calls Try.prog 42 #[.pointer (some ⟨X, 0, none⟩), .int .i64 2] W fun e' w' => e' = .returned (.int .u64 18253) ∧ Rd X w' X v R 2 ∧ Below X W w' := fun W X v h => by
    have := rnumber_ok h 2 (by decide) hR (by omega)
    rw [r1] at this
    exact this
  have d3 : ∀ W X v, Rd X W X v R 2 → Calls Try.prog 42 #[.pointer (some ⟨X, 0, none⟩), .int .i64 1] W fun e' w' => e' = .returned (.int .u64 1) ∧ Rd X w' X v R 3 ∧ Below X W w' := fun W X v h => by
    have := rnumber_ok h 1 (by decide) hR (by omega)
    rw [r2] at this
    exact this
  clear r1 r2 r3 hv hl hd
  go_enter Try.func27, Try.ntmps27
  have d2s : ∀ W v, Sl W W.heap.size v R.length (bs R) → Calls Try.prog 42 #[.pointer (some ⟨W.heap.size, 0, none⟩), .int .i64 2] (W.alloc (.cells #[v, .int .i64 0, .bool false] 97)) fun e' w' => e' = .returned (.int .u64 18253) ∧ Rd W.heap.size w' W.heap.size v R 2 ∧ Below W.heap.size W w' := fun W v h => by
    have B2 : Below W.heap.size W (W.alloc (.cells #[v, .int .i64 0, .bool false] 97)) := (Below.refl _ W).alloc (Nat.le_refl _) _
    exact (d2 _ _ _ ⟨Nat.le_refl _, Mem.new W _ _, h.below B2⟩).mono fun e' w' ⟨q1, q2, q3⟩ => ⟨q1, q2, B2.trans q3⟩
  go_wp2_with (first
    | (go_at_call 41; (with_reducible refine d1.mono ?_); rintro e' w1 ⟨v1, rfl, h1, b1⟩; obtain ⟨A1, cc1, rfl, _, _⟩ := h1.form; have d2w := d2s _ _ h1)
    | (go_at_call 42; (with_reducible refine d2w.mono ?_); rintro e' w3 ⟨rfl, h3, b3⟩; have d3w := d3 _ _ _ h3)
    | (go_at_call 42; (with_reducible refine d3w.mono ?_); rintro e' w4 ⟨rfl, H4, b4⟩))
  refine wp_region_any (by kernel_rfl) ?_
  change wpAny _ _ _ _ _ _ _ (World.drew _)
  refine wpAny_take (i := 0) (oi := { dst := some 24, op := Op.move (Operand.tmp 7), type := 3, pos := "wire.go:77", after := #[], guard := none }) (v := (.int .i64 1)) rfl (by kernel_rfl) (by kernel_rfl) (by kernel_rfl) (fun _ _ _ h => h) (Or.inl ⟨by rfl, by intro w; go_simp⟩) ?_
  try dsimp only [Act.put]
  try simp only [List.setIfInBounds_toArray, List.set_cons_succ, List.set_cons_zero]
  apply calm_tailK 9 [0] [.is (.int .i64 1), .is _, .is _, .is _, .is _, .is _, .is _, .is _, .is _] [[], [], [], [2], [3], [4], [5], [0, 0], [1, 7, 0, 1, 7]] (by kernel_rfl) (by kernel_rfl) rfl (by decide) (by intro i hi o ho; obtain rfl := List.mem_singleton.1 hi; obtain rfl := Option.some.inj ho; exact rfl)
  intro f a1 ha1
  simp only [List.take_succ_cons, List.take_zero, putL, Act.put, List.setIfInBounds_toArray, List.set_cons_succ, List.set_cons_zero] at ha1
  subst ha1
  refine ⟨?_, ?_⟩
  · refine AllCalm.cons (fun W hB hd => ?_) ?_
    · go_wp2_with (fail)
      exact CalmQ.mk rfl _ rfl (Below.refl _ _) rfl
    refine AllCalm.cons (fun W hB hd => ?_) ?_
    · go_wp2_with (fail)
      exact CalmQ.mk rfl _ rfl (Below.refl _ _) rfl
    refine AllCalm.cons (fun W hB hd => ?_) ?_
    · go_wp2_with (fail)
      exact CalmQ.mk rfl _ rfl (Below.refl _ _) rfl
    refine AllCalm.cons (fun W hB hd => ?_) ?_
    · obtain ⟨h2, -⟩ := hd
      have h2 : f 2 = _ := h2
      rw [h2]
      go_wp2_with (fail)
      exact CalmQ.mk rfl _ rfl (Below.refl _ _) rfl
    refine AllCalm.cons (fun W hB hd => ?_) ?_
    · obtain ⟨h3, -⟩ := hd
      have h3 : f 3 = _ := h3
      rw [h3]
      go_wp2_with (fail)
      exact CalmQ.mk rfl _ rfl (Below.refl _ _) rfl
    refine AllCalm.cons (fun W hB hd => ?_) ?_
    · obtain ⟨h4, -⟩ := hd
      have h4 : f 4 = _ := h4
      rw [h4]
      have y2 := (H4.below ((Below.refl _ w4).drew.trans hB)).mem.cell 2
      go_wp2_with (fail)
      exact CalmQ.mk rfl _ rfl (Below.refl _ _) rfl
    refine AllCalm.cons (fun W hB hd => ?_) ?_
    · obtain ⟨h5, -⟩ := hd
      have h5 : f 5 = _ := h5
      rw [h5]
      go_wp2_with (fail)
      exact CalmQ.mk rfl _ rfl (Below.refl _ _) rfl
    refine AllCalm.cons (fun W hB hd => ?_) ?_
    · obtain ⟨h0, -, -⟩ := hd
      have h0 : f 0 = _ := h0
      rw [h0]
      go_wp2_with (fail)
      exact CalmQ.mk rfl _ rfl (Below.refl _ _) rfl
    refine AllCalm.cons (fun W hB hd => ?_) ?_
    · obtain ⟨h1, h7, h0, -, -, -⟩ := hd
      have h1 : f 1 = _ := h1
      have h7 : f 7 = _ := h7
      have h0 : f 0 = _ := h0
      rw [h1, h7, h0]
      go_wp2_with (fail)
      exact CalmQ.mk rfl _ rfl (Below.refl _ _) rfl
    exact AllCalm.nil
  · intro W hB hT
    obtain ⟨h0, h1, h2, h3, h4, h5, h6, h7, h8, -⟩ := hT
    have h0 : f 0 = _ := h0
    have h1 : f 1 = _ := h1
    have h2 : f 2 = _ := h2
    have h3 : f 3 = _ := h3
    have h4 : f 4 = _ := h4
    have h5 : f 5 = _ := h5
    have h6 : f 6 = _ := h6
    have h7 : f 7 = _ := h7
    have h8 : f 8 = _ := h8
    rw [h0, h1, h2, h3, h4, h5, h6, h7, h8]
    clear h0 h1 h2 h3 h4 h5 h6 h7 h8
    simp only [List.drop_succ_cons, List.drop_zero]
    have hB : Below w4.heap.size w4 W := (Below.refl _ w4).drew.trans hB
    go_wp2
    refine bodyPost_ret (v := .tuple #[.int .i64 1, .pointer (some ⟨w1.heap.size, 0, none⟩), .bool true]) (by simp [results, Try.results27, go_sem]) rfl ⟨_, rfl, ?_⟩
    have B3 := b1.trans (b3.mono b1.size)
    have B4 := B3.trans (b4.mono b1.size)
    exact B4.trans (hB.mono B4.size)
end
end Nw
end Go.Proofs.Ytoogmdokcndieaa
