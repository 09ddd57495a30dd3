/- Package pdu: readHead: what it tells. -/
import Derived.Test.YtafpaigifemjjaaPd6
import Derived.Test.YtafpaigifemjjaaCalmT
namespace Go.Proofs.Ytafpaigifemjjaa
open Go.ChangeShapes Go.WideShapes Go.ChangeAt Go.RowKit
set_option linter.unusedVariables false
/-- A PDU of a header as a value. -/
def Pdh.v (p : Pdh) (d : Value) : Value := pduV p.op p.fin p.fl p.st p.tag p.sn p.ex p.mx p.off p.len p.cdb d
theorem getD_at (H : List UInt8) (i : Nat) (h : i < H.length) : (bs H)[i]? = some (.int .u8 ((H.getD i 0).toNat : Nat)) := by
  rw [bs_get h]
  simp [List.getD_eq_getElem?_getD, List.getElem?_eq_getElem h]
theorem bits_and128 {k : Nat} (h : k < 256) : (bits BinOp.and .u8 (k : Int) 128 != 0) = decide (128 ≤ k) := by
  have : ∀ j : Fin 256, (bits BinOp.and .u8 ((j : Nat) : Int) 128 != 0) = decide (128 ≤ (j : Nat)) := by decide +kernel
  exact this ⟨k, h⟩
theorem bits_andn128 {k : Nat} (h : k < 256) : wrap64 (bits BinOp.andNot .u8 (k : Int) 128) = ((k % 128 : Nat) : Int) := by
  have : ∀ j : Fin 256, wrap64 (bits BinOp.andNot .u8 ((j : Nat) : Int) 128) = (((j : Nat) % 128 : Nat) : Int) := by decide +kernel
  exact this ⟨k, h⟩
set_option maxHeartbeats 4000000 in
theorem rh_ok (v : Value) (l H : List UInt8) (hl : 52 ≤ l.length) (hl2 : l.length ≤ 8796093022208) (ho : Crc.openS (l.take 52) = (H, 0)) (hH : H.length = 48) (hk : pknown ((H.getD 0 0).toNat : Nat) = true) (h3 : H.getD 3 0 = 0) (hN : beVal ((H.drop 4).take 4) ≤ 4096) (w : World) (hv : Sl w w.heap.size v l.length (bs l)) :
    Calls Try.prog 21 #[v] w fun e w' => e = .returned (.tuple #[(pdhOf H).v (.slice none 0 0), .int .i64 (beVal ((H.drop 4).take 4)), .int .i64 0]) ∧ Below w.heap.size w w' := by
  obtain ⟨A, c, rfl, hc1, hc2⟩ := hv.form
  unfold maxLen at hc2
  have htl : (l.take 52).length = 52 := by simp; omega
  have hop : ∀ o, Calls Try.prog 29 #[.slice A 52 c] (w.alloc o) fun e w' => ∃ v', e = .returned (.tuple #[v', .int .i64 0]) ∧ Sl w' w'.heap.size v' 48 (bs H) ∧ Below (w.alloc o).heap.size (w.alloc o) w' := by
    intro o
    have hs := (hv.take (m := 52) hl).alloc (Nat.le_refl _) o
    rw [← bs_take] at hs
    have h := Crc.open_any (.slice A 52 c) (l.take 52) (w.alloc o) (by rw [htl]; exact hs.more (by simp)) (by omega)
    rw [ho] at h
    dsimp only at h
    rw [hH] at h
    exact h
  have hbox : ∀ w1, Below (w.alloc (.cells #[Value.int .i64 0, .bool false, .int .i64 0, .int .i64 0, .int .u32 0, .int .u32 0, .int .u32 0, .int .u32 0, .int .u32 0, .int .u32 0, .int .u8 0, .int .u8 0, .int .u8 0, .int .u8 0, .int .u8 0, .int .u8 0, .int .u8 0, .int .u8 0, .int .u8 0, .int .u8 0, .int .u8 0, .int .u8 0, .int .u8 0, .int .u8 0, .int .u8 0, .int .u8 0, .slice none 0 0] 26)).heap.size (w.alloc (.cells #[Value.int .i64 0, .bool false, .int .i64 0, .int .i64 0, .int .u32 0, .int .u32 0, .int .u32 0, .int .u32 0, .int .u32 0, .int .u32 0, .int .u8 0, .int .u8 0, .int .u8 0, .int .u8 0, .int .u8 0, .int .u8 0, .int .u8 0, .int .u8 0, .int .u8 0, .int .u8 0, .int .u8 0, .int .u8 0, .int .u8 0, .int .u8 0, .int .u8 0, .int .u8 0, .slice none 0 0] 26)) w1 → Mem w1 w.heap.size 26 #[Value.int .i64 0, .bool false, .int .i64 0, .int .i64 0, .int .u32 0, .int .u32 0, .int .u32 0, .int .u32 0, .int .u32 0, .int .u32 0, .int .u8 0, .int .u8 0, .int .u8 0, .int .u8 0, .int .u8 0, .int .u8 0, .int .u8 0, .int .u8 0, .int .u8 0, .int .u8 0, .int .u8 0, .int .u8 0, .int .u8 0, .int .u8 0, .int .u8 0, .int .u8 0, .slice none 0 0] ∧ Below w.heap.size w w1 := by
    intro w1 h
    have h0 := Mem.new w 26 #[Value.int .i64 0, .bool false, .int .i64 0, .int .i64 0, .int .u32 0, .int .u32 0, .int .u32 0, .int .u32 0, .int .u32 0, .int .u32 0, .int .u8 0, .int .u8 0, .int .u8 0, .int .u8 0, .int .u8 0, .int .u8 0, .int .u8 0, .int .u8 0, .int .u8 0, .int .u8 0, .int .u8 0, .int .u8 0, .int .u8 0, .int .u8 0, .int .u8 0, .int .u8 0, .slice none 0 0]
    exact ⟨h0.below h h0.lt, ((Below.refl _ _).alloc (Nat.le_refl _) _).trans (h.mono (by simp))⟩
  have hlx : (52 : Int) ≤ (l.length : Int) := by omega
  clear ho htl
  generalize l.length = n at *
  have hw : ∀ (T : Int) (t : Nat) W v', T = (t : Int) → t + 4 ≤ 48 → Sl W W.heap.size v' 48 (bs H) → Calls Try.prog 30 #[v', .int .i64 T] W fun e w' => e = .returned (.int .u32 (beVal ((H.drop t).take 4))) ∧ W = w' := fun T t W v' e h4 h => word_any v' H T t e W (by rw [hH]; exact h) (by omega) (by omega)
  have hw4 := fun W v' => hw 4 4 W v' rfl (by omega)
  have hw8 := fun W v' => hw 8 8 W v' rfl (by omega)
  have hw12 := fun W v' => hw 12 12 W v' rfl (by omega)
  have hw16 := fun W v' => hw 16 16 W v' rfl (by omega)
  have hw20 := fun W v' => hw 20 20 W v' rfl (by omega)
  have hw24 := fun W v' => hw 24 24 W v' rfl (by omega)
  have hw28 := fun W v' => hw 28 28 W v' rfl (by omega)
  clear hw
  have x0 := getD_at H 0 (by omega)
  have x1 := getD_at H 1 (by omega)
  have x2 := getD_at H 2 (by omega)
  have x3 := getD_at H 3 (by omega)
  rw [h3] at x3
  have hk0 : (H.getD 0 0).toNat < 256 := (H.getD 0 0).toNat_lt
  have hk1 : (H.getD 1 0).toNat < 256 := (H.getD 1 0).toNat_lt
  have hk2 : (H.getD 2 0).toNat < 256 := (H.getD 2 0).toNat_lt
  have hcd : ∀ i, i < 16 → (bs H)[32 + i]? = (bs (H.drop 32))[i]? := by
    intro i hi
    unfold bs
    rw [List.map_drop, List.getElem?_drop]
  have hcl : (H.drop 32).length = 16 := by simp; omega
  have hp : (pdhOf H).v (.slice none 0 0) = pduV ((H.getD 0 0).toNat : Nat) (decide (128 ≤ (H.getD 1 0).toNat)) ((H.getD 1 0).toNat % 128 : Nat) ((H.getD 2 0).toNat : Nat) (beVal ((H.drop 8).take 4)) (beVal ((H.drop 12).take 4)) (beVal ((H.drop 16).take 4)) (beVal ((H.drop 20).take 4)) (beVal ((H.drop 24).take 4)) (beVal ((H.drop 28).take 4)) (H.drop 32) (.slice none 0 0) := rfl
  rw [hp]
  clear hp h3
  generalize (H.getD 0 0).toNat = k0 at *
  generalize (H.getD 1 0).toNat = k1 at *
  generalize (H.getD 2 0).toNat = k2 at *
  generalize beVal ((H.drop 4).take 4) = N at *
  generalize beVal ((H.drop 8).take 4) = z1 at *
  generalize beVal ((H.drop 12).take 4) = z2 at *
  generalize beVal ((H.drop 16).take 4) = z3 at *
  generalize beVal ((H.drop 20).take 4) = z4 at *
  generalize beVal ((H.drop 24).take 4) = z5 at *
  generalize beVal ((H.drop 28).take 4) = z6 at *
  generalize H.drop 32 = cd at *
  obtain ⟨c0, c1, c2, c3, c4, c5, c6, c7, c8, c9, c10, c11, c12, c13, c14, c15, rfl⟩ := cdb16 cd hcl
  have hNx : decide ((4096 : Int) < (N : Int)) = false := decide_eq_false (by omega)
  clear hH hcl
  go_enter Try.func21, Try.ntmps21
  go_wp2_with (first
    | (go_at_call 29; refine (hop _).mono ?_; rintro e w1 ⟨v1, rfl, hs1, hb1⟩; obtain ⟨hm1, hbw1⟩ := hbox _ hb1; obtain ⟨A1, cp, rfl, hcp1, hcp2⟩ := hs1.form; obtain ⟨b1, o1, rfl, hlt1, hcell1⟩ := hs1.at_ (by omega); unfold maxLen at hcp2; have y0 : w1.cell? ⟨b1, o1, none⟩ = some (.int .u8 (k0 : Nat)) := hcell1 0 _ x0; have y3 : w1.cell? ⟨b1, o1 + 3, none⟩ = some (.int .u8 0) := hcell1 3 _ x3)
    | (go_at_call 17; refine (pknown_any _ _).mono ?_; rw [hk]; rintro e w' ⟨rfl, rfl⟩)
    | (go_at_call 30; refine (hw4 _ _ hs1).mono ?_; rintro e w' ⟨rfl, rfl⟩))
  have y1 : w1.cell? ⟨b1, o1 + 1, none⟩ = some (.int .u8 (k1 : Nat)) := hcell1 1 _ x1
  have y2 : w1.cell? ⟨b1, o1 + 2, none⟩ = some (.int .u8 (k2 : Nat)) := hcell1 2 _ x2
  apply calm_tail 32 [.is _, .is _, .is _, .is _, .is _, .is _, .is _, .is _, .is _, .is _, .is _, .is _, .is _, .is _, .is _, .is _, .is _, .is _, .is _, .is _, .is _, .is _, .is _, .is _, .is _, .is _, .is _, .is _, .is _, .is _, .is _, .of (fun v W => ∃ g, v = .pointer (some ⟨g, 0, none⟩) ∧ w1.heap.size ≤ g ∧ Mem W g 26 #[Value.int .i64 0, .bool false, .int .i64 0, .int .i64 0, .int .u32 0, .int .u32 0, .int .u32 0, .int .u32 0, .int .u32 0, .int .u32 0, .int .u8 0, .int .u8 0, .int .u8 0, .int .u8 0, .int .u8 0, .int .u8 0, .int .u8 0, .int .u8 0, .int .u8 0, .int .u8 0, .int .u8 0, .int .u8 0, .int .u8 0, .int .u8 0, .int .u8 0, .int .u8 0, .slice none 0 0]) (fun v W W' hb ⟨g, e, h1, h2⟩ => ⟨g, e, h1, h2.below hb h2.lt⟩)] [[], [0], [1], [2], [], [4], [5], [6], [7], [], [9], [10], [11], [12], [], [14], [15], [16], [], [18], [], [20, 19], [], [22, 21], [], [24, 23], [], [26, 25], [], [28, 27], [3, 8, 13, 17, 19, 21, 23, 25, 27, 29], []] (by kernel_rfl) (by kernel_rfl) (by kernel_rfl) rfl
  intro f a1 ha1
  simp only [List.take_succ_cons, List.take_zero, putL, Act.put, List.setIfInBounds_toArray, List.set_cons_succ, List.set_cons_zero] at ha1
  subst ha1
  refine ⟨?_, ?_⟩
  · refine AllCalm.cons (fun W hB hd => ?_) ?_
    · go_wp2_with (fail)
      exact CalmQ.mk rfl _ rfl (Below.refl _ _) rfl
    refine AllCalm.cons (fun W hB hd => ?_) ?_
    · obtain ⟨h0, -⟩ := hd
      have h0 : f 0 = _ := h0
      rw [h0]
      go_wp2_with (fail)
      exact CalmQ.mk rfl _ rfl (Below.refl _ _) rfl
    refine AllCalm.cons (fun W hB hd => ?_) ?_
    · obtain ⟨h1, -⟩ := hd
      have h1 : f 1 = _ := h1
      rw [h1]
      have q := (hB.cell (p := ⟨b1, o1, none⟩) hlt1).trans y0
      go_wp2_with (fail)
      exact CalmQ.mk rfl _ rfl (Below.refl _ _) rfl
    refine AllCalm.cons (fun W hB hd => ?_) ?_
    · obtain ⟨h2, -⟩ := hd
      have h2 : f 2 = _ := h2
      rw [h2]
      go_wp2_with (fail)
      exact CalmQ.mk rfl _ rfl (Below.refl _ _) rfl
    refine AllCalm.cons (fun W hB hd => ?_) ?_
    · go_wp2_with (fail)
      exact CalmQ.mk rfl _ rfl (Below.refl _ _) rfl
    refine AllCalm.cons (fun W hB hd => ?_) ?_
    · obtain ⟨h4, -⟩ := hd
      have h4 : f 4 = _ := h4
      rw [h4]
      go_wp2_with (fail)
      exact CalmQ.mk rfl _ rfl (Below.refl _ _) rfl
    refine AllCalm.cons (fun W hB hd => ?_) ?_
    · obtain ⟨h5, -⟩ := hd
      have h5 : f 5 = _ := h5
      rw [h5]
      have q := (hB.cell (p := ⟨b1, o1 + 1, none⟩) hlt1).trans y1
      go_wp2_with (fail)
      exact CalmQ.mk rfl _ rfl (Below.refl _ _) rfl
    refine AllCalm.cons (fun W hB hd => ?_) ?_
    · obtain ⟨h6, -⟩ := hd
      have h6 : f 6 = _ := h6
      rw [h6]
      go_wp2_with (fail)
      exact CalmQ.mk rfl _ rfl (Below.refl _ _) rfl
    refine AllCalm.cons (fun W hB hd => ?_) ?_
    · obtain ⟨h7, -⟩ := hd
      have h7 : f 7 = _ := h7
      rw [h7]
      go_wp2_with (fail)
      exact CalmQ.mk rfl _ rfl (Below.refl _ _) rfl
    refine AllCalm.cons (fun W hB hd => ?_) ?_
    · go_wp2_with (fail)
      exact CalmQ.mk rfl _ rfl (Below.refl _ _) rfl
    refine AllCalm.cons (fun W hB hd => ?_) ?_
    · obtain ⟨h9, -⟩ := hd
      have h9 : f 9 = _ := h9
      rw [h9]
      go_wp2_with (fail)
      exact CalmQ.mk rfl _ rfl (Below.refl _ _) rfl
    refine AllCalm.cons (fun W hB hd => ?_) ?_
    · obtain ⟨h10, -⟩ := hd
      have h10 : f 10 = _ := h10
      rw [h10]
      have q := (hB.cell (p := ⟨b1, o1 + 1, none⟩) hlt1).trans y1
      go_wp2_with (fail)
      exact CalmQ.mk rfl _ rfl (Below.refl _ _) rfl
    refine AllCalm.cons (fun W hB hd => ?_) ?_
    · obtain ⟨h11, -⟩ := hd
      have h11 : f 11 = _ := h11
      rw [h11]
      go_wp2_with (fail)
      exact CalmQ.mk rfl _ rfl (Below.refl _ _) rfl
    refine AllCalm.cons (fun W hB hd => ?_) ?_
    · obtain ⟨h12, -⟩ := hd
      have h12 : f 12 = _ := h12
      rw [h12]
      go_wp2_with (fail)
      exact CalmQ.mk rfl _ rfl (Below.refl _ _) rfl
    refine AllCalm.cons (fun W hB hd => ?_) ?_
    · go_wp2_with (fail)
      exact CalmQ.mk rfl _ rfl (Below.refl _ _) rfl
    refine AllCalm.cons (fun W hB hd => ?_) ?_
    · obtain ⟨h14, -⟩ := hd
      have h14 : f 14 = _ := h14
      rw [h14]
      go_wp2_with (fail)
      exact CalmQ.mk rfl _ rfl (Below.refl _ _) rfl
    refine AllCalm.cons (fun W hB hd => ?_) ?_
    · obtain ⟨h15, -⟩ := hd
      have h15 : f 15 = _ := h15
      rw [h15]
      have q := (hB.cell (p := ⟨b1, o1 + 2, none⟩) hlt1).trans y2
      go_wp2_with (fail)
      exact CalmQ.mk rfl _ rfl (Below.refl _ _) rfl
    refine AllCalm.cons (fun W hB hd => ?_) ?_
    · obtain ⟨h16, -⟩ := hd
      have h16 : f 16 = _ := h16
      rw [h16]
      go_wp2_with (fail)
      exact CalmQ.mk rfl _ rfl (Below.refl _ _) rfl
    refine AllCalm.cons (fun W hB hd => ?_) ?_
    · go_wp2_with (fail)
      exact CalmQ.mk rfl _ rfl (Below.refl _ _) rfl
    refine AllCalm.cons (fun W hB hd => ?_) ?_
    · obtain ⟨h18, -⟩ := hd
      have h18 : f 18 = _ := h18
      rw [h18]
      go_wp2_with ((go_at_call 30; refine (hw8 W _ (hs1.now hB)).mono ?_; rintro e w' ⟨rfl, rfl⟩))
      exact CalmQ.mk rfl _ rfl (Below.refl _ _) rfl
    refine AllCalm.cons (fun W hB hd => ?_) ?_
    · go_wp2_with (fail)
      exact CalmQ.mk rfl _ rfl (Below.refl _ _) rfl
    refine AllCalm.cons (fun W hB hd => ?_) ?_
    · obtain ⟨h20, h19, -⟩ := hd
      have h20 : f 20 = _ := h20
      have h19 : f 19 = _ := h19
      rw [h20, h19]
      go_wp2_with ((go_at_call 30; refine (hw12 W _ (hs1.now hB)).mono ?_; rintro e w' ⟨rfl, rfl⟩))
      exact CalmQ.mk rfl _ rfl (Below.refl _ _) rfl
    refine AllCalm.cons (fun W hB hd => ?_) ?_
    · go_wp2_with (fail)
      exact CalmQ.mk rfl _ rfl (Below.refl _ _) rfl
    refine AllCalm.cons (fun W hB hd => ?_) ?_
    · obtain ⟨h22, h21, -⟩ := hd
      have h22 : f 22 = _ := h22
      have h21 : f 21 = _ := h21
      rw [h22, h21]
      go_wp2_with ((go_at_call 30; refine (hw16 W _ (hs1.now hB)).mono ?_; rintro e w' ⟨rfl, rfl⟩))
      exact CalmQ.mk rfl _ rfl (Below.refl _ _) rfl
    refine AllCalm.cons (fun W hB hd => ?_) ?_
    · go_wp2_with (fail)
      exact CalmQ.mk rfl _ rfl (Below.refl _ _) rfl
    refine AllCalm.cons (fun W hB hd => ?_) ?_
    · obtain ⟨h24, h23, -⟩ := hd
      have h24 : f 24 = _ := h24
      have h23 : f 23 = _ := h23
      rw [h24, h23]
      go_wp2_with ((go_at_call 30; refine (hw20 W _ (hs1.now hB)).mono ?_; rintro e w' ⟨rfl, rfl⟩))
      exact CalmQ.mk rfl _ rfl (Below.refl _ _) rfl
    refine AllCalm.cons (fun W hB hd => ?_) ?_
    · go_wp2_with (fail)
      exact CalmQ.mk rfl _ rfl (Below.refl _ _) rfl
    refine AllCalm.cons (fun W hB hd => ?_) ?_
    · obtain ⟨h26, h25, -⟩ := hd
      have h26 : f 26 = _ := h26
      have h25 : f 25 = _ := h25
      rw [h26, h25]
      go_wp2_with ((go_at_call 30; refine (hw24 W _ (hs1.now hB)).mono ?_; rintro e w' ⟨rfl, rfl⟩))
      exact CalmQ.mk rfl _ rfl (Below.refl _ _) rfl
    refine AllCalm.cons (fun W hB hd => ?_) ?_
    · go_wp2_with (fail)
      exact CalmQ.mk rfl _ rfl (Below.refl _ _) rfl
    refine AllCalm.cons (fun W hB hd => ?_) ?_
    · obtain ⟨h28, h27, -⟩ := hd
      have h28 : f 28 = _ := h28
      have h27 : f 27 = _ := h27
      rw [h28, h27]
      go_wp2_with ((go_at_call 30; refine (hw28 W _ (hs1.now hB)).mono ?_; rintro e w' ⟨rfl, rfl⟩))
      exact CalmQ.mk rfl _ rfl (Below.refl _ _) rfl
    refine AllCalm.cons (fun W hB hd => ?_) ?_
    · obtain ⟨h3, h8, h13, h17, h19, h21, h23, h25, h27, h29, -⟩ := hd
      have h3 : f 3 = _ := h3
      have h8 : f 8 = _ := h8
      have h13 : f 13 = _ := h13
      have h17 : f 17 = _ := h17
      have h19 : f 19 = _ := h19
      have h21 : f 21 = _ := h21
      have h23 : f 23 = _ := h23
      have h25 : f 25 = _ := h25
      have h27 : f 27 = _ := h27
      have h29 : f 29 = _ := h29
      rw [h3, h8, h13, h17, h19, h21, h23, h25, h27, h29]
      go_wp2_with (fail)
      exact CalmQ.mk rfl _ rfl (Below.refl _ _) rfl
    refine AllCalm.cons (fun W hB hd => ?_) ?_
    · go_wp2_with (fail)
      exact CalmQ.mk rfl _ rfl ((Below.refl _ _).alloc (Nat.le_refl _) _) ⟨_, rfl, hB.size, Mem.new _ _ _⟩
    exact AllCalm.nil
  · intro W hB hT
    obtain ⟨h0, h1, h2, h3, h4, h5, h6, h7, h8, h9, h10, h11, h12, h13, h14, h15, h16, h17, h18, h19, h20, h21, h22, h23, h24, h25, h26, h27, h28, h29, h30, h31, -⟩ := hT
    have h0 : f 0 = _ := h0
    have h1 : f 1 = _ := h1
    have h2 : f 2 = _ := h2
    have h3 : f 3 = _ := h3
    have h4 : f 4 = _ := h4
    have h5 : f 5 = _ := h5
    have h6 : f 6 = _ := h6
    have h7 : f 7 = _ := h7
    have h8 : f 8 = _ := h8
    have h9 : f 9 = _ := h9
    have h10 : f 10 = _ := h10
    have h11 : f 11 = _ := h11
    have h12 : f 12 = _ := h12
    have h13 : f 13 = _ := h13
    have h14 : f 14 = _ := h14
    have h15 : f 15 = _ := h15
    have h16 : f 16 = _ := h16
    have h17 : f 17 = _ := h17
    have h18 : f 18 = _ := h18
    have h19 : f 19 = _ := h19
    have h20 : f 20 = _ := h20
    have h21 : f 21 = _ := h21
    have h22 : f 22 = _ := h22
    have h23 : f 23 = _ := h23
    have h24 : f 24 = _ := h24
    have h25 : f 25 = _ := h25
    have h26 : f 26 = _ := h26
    have h27 : f 27 = _ := h27
    have h28 : f 28 = _ := h28
    have h29 : f 29 = _ := h29
    have h30 : f 30 = _ := h30
    rw [h0, h1, h2, h3, h4, h5, h6, h7, h8, h9, h10, h11, h12, h13, h14, h15, h16, h17, h18, h19, h20, h21, h22, h23, h24, h25, h26, h27, h28, h29, h30]
    clear h0 h1 h2 h3 h4 h5 h6 h7 h8 h9 h10 h11 h12 h13 h14 h15 h16 h17 h18 h19 h20 h21 h22 h23 h24 h25 h26 h27 h28 h29 h30
    simp only [List.drop_succ_cons, List.drop_zero]
    obtain ⟨g, e31, hg1, hmg⟩ := h31
    rw [e31]
    clear hop hw4 hw8 hw12 hw16 hw20 hw24 hw28
    go_wp2_with (refine wpList_store_row rfl 26 (.tmp 7) (.tmp 70) rfl g _ rfl rfl 26 #[Value.int .i64 0, .bool false, .int .i64 0, .int .i64 0, .int .u32 0, .int .u32 0, .int .u32 0, .int .u32 0, .int .u32 0, .int .u32 0, .int .u8 0, .int .u8 0, .int .u8 0, .int .u8 0, .int .u8 0, .int .u8 0, .int .u8 0, .int .u8 0, .int .u8 0, .int .u8 0, .int .u8 0, .int .u8 0, .int .u8 0, .int .u8 0, .int .u8 0, .int .u8 0, .slice none 0 0] hmg (by kernel_rfl) (by kernel_rfl) (by kernel_rfl) ?_)
    rw [bits_and128 hk1, bits_andn128 hk1]
    simp only [Act.put]
    replace hmg := hmg.row #[.int .i64 (k0 : Nat), .bool (decide (128 ≤ k1)), .int .i64 (k1 % 128 : Nat), .int .i64 (k2 : Nat), .int .u32 (z1 : Nat), .int .u32 (z2 : Nat), .int .u32 (z3 : Nat), .int .u32 (z4 : Nat), .int .u32 (z5 : Nat), .int .u32 (z6 : Nat), .int .u8 0, .int .u8 0, .int .u8 0, .int .u8 0, .int .u8 0, .int .u8 0, .int .u8 0, .int .u8 0, .int .u8 0, .int .u8 0, .int .u8 0, .int .u8 0, .int .u8 0, .int .u8 0, .int .u8 0, .int .u8 0, .slice none 0 0]
    have hB2 := below_setRow hB hg1 #[.int .i64 (k0 : Nat), .bool (decide (128 ≤ k1)), .int .i64 (k1 % 128 : Nat), .int .i64 (k2 : Nat), .int .u32 (z1 : Nat), .int .u32 (z2 : Nat), .int .u32 (z3 : Nat), .int .u32 (z4 : Nat), .int .u32 (z5 : Nat), .int .u32 (z6 : Nat), .int .u8 0, .int .u8 0, .int .u8 0, .int .u8 0, .int .u8 0, .int .u8 0, .int .u8 0, .int .u8 0, .int .u8 0, .int .u8 0, .int .u8 0, .int .u8 0, .int .u8 0, .int .u8 0, .int .u8 0, .int .u8 0, .slice none 0 0]
    generalize W.setRow g #[.int .i64 (k0 : Nat), .bool (decide (128 ≤ k1)), .int .i64 (k1 % 128 : Nat), .int .i64 (k2 : Nat), .int .u32 (z1 : Nat), .int .u32 (z2 : Nat), .int .u32 (z3 : Nat), .int .u32 (z4 : Nat), .int .u32 (z5 : Nat), .int .u32 (z6 : Nat), .int .u8 0, .int .u8 0, .int .u8 0, .int .u8 0, .int .u8 0, .int .u8 0, .int .u8 0, .int .u8 0, .int .u8 0, .int .u8 0, .int .u8 0, .int .u8 0, .int .u8 0, .int .u8 0, .int .u8 0, .int .u8 0, .slice none 0 0] = W2 at *
    have hs2 := hs1.now hB2
    replace hbw1 := hbw1.trans (hB2.mono hbw1.size)
    have hmr := hm1.below hB2 hm1.lt
    clear hB hbox
    apply calm_tail 4 [.is _, .is _, .is _, .is _] [[], [0], [], [2]] (by kernel_rfl) (by kernel_rfl) (by kernel_rfl) rfl
    intro f a1 ha1
    simp only [List.take_succ_cons, List.take_zero, putL, Act.put, List.setIfInBounds_toArray, List.set_cons_succ, List.set_cons_zero] at ha1
    subst ha1
    refine ⟨?_, ?_⟩
    · refine AllCalm.cons (fun W hB hd => ?_) ?_
      · have q := hmg.cell 10
        go_wp2_with (fail)
        exact CalmQ.mk rfl _ rfl (Below.refl _ _) rfl
      refine AllCalm.cons (fun W hB hd => ?_) ?_
      · obtain ⟨h0, -⟩ := hd
        have h0 : f 0 = _ := h0
        rw [h0]
        go_wp2_with (fail)
        exact CalmQ.mk rfl _ rfl (Below.refl _ _) rfl
      refine AllCalm.cons (fun W hB hd => ?_) ?_
      · go_wp2_with (fail)
        exact CalmQ.mk rfl _ rfl (Below.refl _ _) rfl
      refine AllCalm.cons (fun W hB hd => ?_) ?_
      · obtain ⟨h2, -⟩ := hd
        have h2 : f 2 = _ := h2
        rw [h2]
        go_wp2_with (fail)
        exact CalmQ.mk rfl _ rfl (Below.refl _ _) rfl
      exact AllCalm.nil
    · intro W hB hT
      obtain ⟨h0, h1, h2, h3, -⟩ := hT
      have h0 : f 0 = _ := h0
      have h1 : f 1 = _ := h1
      have h2 : f 2 = _ := h2
      have h3 : f 3 = _ := h3
      rw [h0, h1, h2, h3]
      clear h0 h1 h2 h3
      simp only [List.drop_succ_cons, List.drop_zero]
      have hb3 := hB2.trans (hB.mono hB2.size)
      have hmW := hmg.below hB hmg.lt
      have hrW := hmr.below hB hmr.lt
      have hlg : w.heap.size ≤ g := by have := hm1.lt; omega
      have hgne : w.heap.size ≠ g := by have := hm1.lt; omega
      have hcp : ∀ ty, (Builtin.copy_ #[24, 24] ty #[.slice (some ⟨g, 10, none⟩) 16 16, .slice (some ⟨b1, o1 + 32, none⟩) 16 (cp - 32)]).run Try.prog W = .ok (.int .i64 16) (W.setRow g #[.int .i64 (k0 : Nat), .bool (decide (128 ≤ k1)), .int .i64 (k1 % 128 : Nat), .int .i64 (k2 : Nat), .int .u32 (z1 : Nat), .int .u32 (z2 : Nat), .int .u32 (z3 : Nat), .int .u32 (z4 : Nat), .int .u32 (z5 : Nat), .int .u32 (z6 : Nat), .int .u8 (c0.toNat : Nat), .int .u8 (c1.toNat : Nat), .int .u8 (c2.toNat : Nat), .int .u8 (c3.toNat : Nat), .int .u8 (c4.toNat : Nat), .int .u8 (c5.toNat : Nat), .int .u8 (c6.toNat : Nat), .int .u8 (c7.toNat : Nat), .int .u8 (c8.toNat : Nat), .int .u8 (c9.toNat : Nat), .int .u8 (c10.toNat : Nat), .int .u8 (c11.toNat : Nat), .int .u8 (c12.toNat : Nat), .int .u8 (c13.toNat : Nat), .int .u8 (c14.toNat : Nat), .int .u8 (c15.toNat : Nat), .slice none 0 0]) :=
        fun ty => run_copy_row (P := Try.prog) W 24 24 ty 5 g 10 16 16 ⟨b1, o1 + 32, none⟩ 16 (cp - 32) #[.int .i64 (k0 : Nat), .bool (decide (128 ≤ k1)), .int .i64 (k1 % 128 : Nat), .int .i64 (k2 : Nat), .int .u32 (z1 : Nat), .int .u32 (z2 : Nat), .int .u32 (z3 : Nat), .int .u32 (z4 : Nat), .int .u32 (z5 : Nat), .int .u32 (z6 : Nat), .int .u8 0, .int .u8 0, .int .u8 0, .int .u8 0, .int .u8 0, .int .u8 0, .int .u8 0, .int .u8 0, .int .u8 0, .int .u8 0, .int .u8 0, .int .u8 0, .int .u8 0, .int .u8 0, .int .u8 0, .int .u8 0, .slice none 0 0] 26 (bs [c0, c1, c2, c3, c4, c5, c6, c7, c8, c9, c10, c11, c12, c13, c14, c15]) Try.underlying24 (by kernel_rfl) hmW rfl (fun i u hu => by
          have hi16 : i < 16 := by
            have := (List.getElem?_eq_some_iff.1 hu).1
            simpa [bs] using this
          rw [add_plain]
          refine (hb3.cell (p := ⟨b1, o1 + 32 + i, none⟩) hlt1).trans ?_
          rw [Nat.add_assoc]
          exact hcell1 (32 + i) u (by rw [hcd i hi16]; exact hu)) (by simp [bs]) bs_one
      have hm4 := hmW.row #[.int .i64 (k0 : Nat), .bool (decide (128 ≤ k1)), .int .i64 (k1 % 128 : Nat), .int .i64 (k2 : Nat), .int .u32 (z1 : Nat), .int .u32 (z2 : Nat), .int .u32 (z3 : Nat), .int .u32 (z4 : Nat), .int .u32 (z5 : Nat), .int .u32 (z6 : Nat), .int .u8 (c0.toNat : Nat), .int .u8 (c1.toNat : Nat), .int .u8 (c2.toNat : Nat), .int .u8 (c3.toNat : Nat), .int .u8 (c4.toNat : Nat), .int .u8 (c5.toNat : Nat), .int .u8 (c6.toNat : Nat), .int .u8 (c7.toNat : Nat), .int .u8 (c8.toNat : Nat), .int .u8 (c9.toNat : Nat), .int .u8 (c10.toNat : Nat), .int .u8 (c11.toNat : Nat), .int .u8 (c12.toNat : Nat), .int .u8 (c13.toNat : Nat), .int .u8 (c14.toNat : Nat), .int .u8 (c15.toNat : Nat), .slice none 0 0]
      have hr4 := hrW.rowFar hgne #[.int .i64 (k0 : Nat), .bool (decide (128 ≤ k1)), .int .i64 (k1 % 128 : Nat), .int .i64 (k2 : Nat), .int .u32 (z1 : Nat), .int .u32 (z2 : Nat), .int .u32 (z3 : Nat), .int .u32 (z4 : Nat), .int .u32 (z5 : Nat), .int .u32 (z6 : Nat), .int .u8 (c0.toNat : Nat), .int .u8 (c1.toNat : Nat), .int .u8 (c2.toNat : Nat), .int .u8 (c3.toNat : Nat), .int .u8 (c4.toNat : Nat), .int .u8 (c5.toNat : Nat), .int .u8 (c6.toNat : Nat), .int .u8 (c7.toNat : Nat), .int .u8 (c8.toNat : Nat), .int .u8 (c9.toNat : Nat), .int .u8 (c10.toNat : Nat), .int .u8 (c11.toNat : Nat), .int .u8 (c12.toNat : Nat), .int .u8 (c13.toNat : Nat), .int .u8 (c14.toNat : Nat), .int .u8 (c15.toNat : Nat), .slice none 0 0]
      have hb4 := below_setRow (hbw1.trans (hB.mono hbw1.size)) hlg #[.int .i64 (k0 : Nat), .bool (decide (128 ≤ k1)), .int .i64 (k1 % 128 : Nat), .int .i64 (k2 : Nat), .int .u32 (z1 : Nat), .int .u32 (z2 : Nat), .int .u32 (z3 : Nat), .int .u32 (z4 : Nat), .int .u32 (z5 : Nat), .int .u32 (z6 : Nat), .int .u8 (c0.toNat : Nat), .int .u8 (c1.toNat : Nat), .int .u8 (c2.toNat : Nat), .int .u8 (c3.toNat : Nat), .int .u8 (c4.toNat : Nat), .int .u8 (c5.toNat : Nat), .int .u8 (c6.toNat : Nat), .int .u8 (c7.toNat : Nat), .int .u8 (c8.toNat : Nat), .int .u8 (c9.toNat : Nat), .int .u8 (c10.toNat : Nat), .int .u8 (c11.toNat : Nat), .int .u8 (c12.toNat : Nat), .int .u8 (c13.toNat : Nat), .int .u8 (c14.toNat : Nat), .int .u8 (c15.toNat : Nat), .slice none 0 0]
      go_wp2_with (first
        | (refine wpList_load_row rfl 26 (.tmp 7) rfl g rfl 26 #[.int .i64 (k0 : Nat), .bool (decide (128 ≤ k1)), .int .i64 (k1 % 128 : Nat), .int .i64 (k2 : Nat), .int .u32 (z1 : Nat), .int .u32 (z2 : Nat), .int .u32 (z3 : Nat), .int .u32 (z4 : Nat), .int .u32 (z5 : Nat), .int .u32 (z6 : Nat), .int .u8 (c0.toNat : Nat), .int .u8 (c1.toNat : Nat), .int .u8 (c2.toNat : Nat), .int .u8 (c3.toNat : Nat), .int .u8 (c4.toNat : Nat), .int .u8 (c5.toNat : Nat), .int .u8 (c6.toNat : Nat), .int .u8 (c7.toNat : Nat), .int .u8 (c8.toNat : Nat), .int .u8 (c9.toNat : Nat), .int .u8 (c10.toNat : Nat), .int .u8 (c11.toNat : Nat), .int .u8 (c12.toNat : Nat), .int .u8 (c13.toNat : Nat), .int .u8 (c14.toNat : Nat), .int .u8 (c15.toNat : Nat), .slice none 0 0] (0, 0) _ hm4 Try.underlying26 rfl (by kernel_rfl) ?_)
        | (refine wpList_store_row rfl 26 (.tmp 2) (.tmp 76) rfl w.heap.size #[.int .i64 (k0 : Nat), .bool (decide (128 ≤ k1)), .int .i64 (k1 % 128 : Nat), .int .i64 (k2 : Nat), .int .u32 (z1 : Nat), .int .u32 (z2 : Nat), .int .u32 (z3 : Nat), .int .u32 (z4 : Nat), .int .u32 (z5 : Nat), .int .u32 (z6 : Nat), .int .u8 (c0.toNat : Nat), .int .u8 (c1.toNat : Nat), .int .u8 (c2.toNat : Nat), .int .u8 (c3.toNat : Nat), .int .u8 (c4.toNat : Nat), .int .u8 (c5.toNat : Nat), .int .u8 (c6.toNat : Nat), .int .u8 (c7.toNat : Nat), .int .u8 (c8.toNat : Nat), .int .u8 (c9.toNat : Nat), .int .u8 (c10.toNat : Nat), .int .u8 (c11.toNat : Nat), .int .u8 (c12.toNat : Nat), .int .u8 (c13.toNat : Nat), .int .u8 (c14.toNat : Nat), .int .u8 (c15.toNat : Nat), .slice none 0 0] rfl rfl 26 #[Value.int .i64 0, .bool false, .int .i64 0, .int .i64 0, .int .u32 0, .int .u32 0, .int .u32 0, .int .u32 0, .int .u32 0, .int .u32 0, .int .u8 0, .int .u8 0, .int .u8 0, .int .u8 0, .int .u8 0, .int .u8 0, .int .u8 0, .int .u8 0, .int .u8 0, .int .u8 0, .int .u8 0, .int .u8 0, .int .u8 0, .int .u8 0, .int .u8 0, .int .u8 0, .slice none 0 0] hr4 (by kernel_rfl) (by kernel_rfl) (by kernel_rfl) ?_))
      try simp only [Exit.inBlock, Exit.then]
      refine bodyPost_ret (v := .tuple #[.agg #[.int .i64 (k0 : Nat), .bool (decide (128 ≤ k1)), .int .i64 (k1 % 128 : Nat), .int .i64 (k2 : Nat), .int .u32 (z1 : Nat), .int .u32 (z2 : Nat), .int .u32 (z3 : Nat), .int .u32 (z4 : Nat), .int .u32 (z5 : Nat), .int .u32 (z6 : Nat), .int .u8 (c0.toNat : Nat), .int .u8 (c1.toNat : Nat), .int .u8 (c2.toNat : Nat), .int .u8 (c3.toNat : Nat), .int .u8 (c4.toNat : Nat), .int .u8 (c5.toNat : Nat), .int .u8 (c6.toNat : Nat), .int .u8 (c7.toNat : Nat), .int .u8 (c8.toNat : Nat), .int .u8 (c9.toNat : Nat), .int .u8 (c10.toNat : Nat), .int .u8 (c11.toNat : Nat), .int .u8 (c12.toNat : Nat), .int .u8 (c13.toNat : Nat), .int .u8 (c14.toNat : Nat), .int .u8 (c15.toNat : Nat), .slice none 0 0], .int .i64 (N : Nat), .int .i64 0]) ?_ rfl ⟨rfl, below_setRow hb4 (Nat.le_refl _) _⟩
      exact (results_cell3 (p := 2) (a := 3) (b := 4) (ty := 26) rfl _ _ w.heap.size 26 #[.int .i64 (k0 : Nat), .bool (decide (128 ≤ k1)), .int .i64 (k1 % 128 : Nat), .int .i64 (k2 : Nat), .int .u32 (z1 : Nat), .int .u32 (z2 : Nat), .int .u32 (z3 : Nat), .int .u32 (z4 : Nat), .int .u32 (z5 : Nat), .int .u32 (z6 : Nat), .int .u8 (c0.toNat : Nat), .int .u8 (c1.toNat : Nat), .int .u8 (c2.toNat : Nat), .int .u8 (c3.toNat : Nat), .int .u8 (c4.toNat : Nat), .int .u8 (c5.toNat : Nat), .int .u8 (c6.toNat : Nat), .int .u8 (c7.toNat : Nat), .int .u8 (c8.toNat : Nat), .int .u8 (c9.toNat : Nat), .int .u8 (c10.toNat : Nat), .int .u8 (c11.toNat : Nat), .int .u8 (c12.toNat : Nat), .int .u8 (c13.toNat : Nat), .int .u8 (c14.toNat : Nat), .int .u8 (c15.toNat : Nat), .slice none 0 0] (0, 0) _ rfl (hr4.row #[.int .i64 (k0 : Nat), .bool (decide (128 ≤ k1)), .int .i64 (k1 % 128 : Nat), .int .i64 (k2 : Nat), .int .u32 (z1 : Nat), .int .u32 (z2 : Nat), .int .u32 (z3 : Nat), .int .u32 (z4 : Nat), .int .u32 (z5 : Nat), .int .u32 (z6 : Nat), .int .u8 (c0.toNat : Nat), .int .u8 (c1.toNat : Nat), .int .u8 (c2.toNat : Nat), .int .u8 (c3.toNat : Nat), .int .u8 (c4.toNat : Nat), .int .u8 (c5.toNat : Nat), .int .u8 (c6.toNat : Nat), .int .u8 (c7.toNat : Nat), .int .u8 (c8.toNat : Nat), .int .u8 (c9.toNat : Nat), .int .u8 (c10.toNat : Nat), .int .u8 (c11.toNat : Nat), .int .u8 (c12.toNat : Nat), .int .u8 (c13.toNat : Nat), .int .u8 (c14.toNat : Nat), .int .u8 (c15.toNat : Nat), .slice none 0 0]) Try.underlying26 rfl (by kernel_rfl)).trans rfl
end Go.Proofs.Ytafpaigifemjjaa
