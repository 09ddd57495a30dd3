/- Package timer: Set: contract. -/
import Derived.Test.YtoogmdokcndieaaTm5
namespace Go.Proofs.Ytoogmdokcndieaa
open Go.ChangeShapes Go.WideShapes Go.ChangeAt Go.RowKit Go.Lib
set_option linter.unusedVariables false
section
variable {P : Program} (w : World)
end

theorem TmInv.push {w W w6 : World} {B X : Nat} {v v6 : Value} {H : List One} {now : Int} {x : One} (hn : TmInv w B X v H now) (hb : Below w.heap.size w W)
    (ho : w6.ownsRow B 72 2 v6 (H.length + 1) (tflat H ++ [.int .i64 x.1, .int .i64 x.2])) (hg : W.grownBy w6 v.ownBlock) (hat : v6.ownBlock = v.ownBlock ∨ v6.ownBlock = some W.heap.size) :
    (w6.cell? ⟨X, 0, none⟩ = some v ∧ w6.frozen? ⟨X, 0, none⟩ = false) ∧ TmInv (w6.setCell ⟨X, 0, none⟩ v6) B X v6 (H ++ [x]) now ∧ Eff (TS X v) w (w6.setCell ⟨X, 0, none⟩ v6) ∧ (∀ k, v6.ownBlock = some k → v.ownBlock = some k ∨ w.heap.size ≤ k) := by
  have hnW := hn.below hb
  have heW : Eff (fun k => v.ownBlock = some k) W w6 := eff_grown hg
  have hm6 : Mem w6 X 68 #[v, .int .i64 now] := hnW.mem.eff heW hn.apart
  have hXv : v6.ownBlock ≠ some X := fun hk => (own_tag ho X hk).2.2.ne (mem_tag hm6) (by decide) rfl
  have e1 : Eff (TS X v) w w6 := (Eff.of hb).trans (heW.mono fun k _ h => Or.inr h) fun i _ h => h
  have hp : w6.ownsRow B 72 2 v6 (H ++ [x]).length (tflat (H ++ [x])) := by
    rw [tflat_snoc, List.length_append]
    exact ho
  have hS : Eff (fun k => k = X) w6 (w6.setCell ⟨X, 0, none⟩ v6) := Eff.setCell (S := fun k => k = X) (Eff.refl _ w6) (p := ⟨X, 0, none⟩) rfl v6
  refine ⟨⟨hm6.cell 0, hm6.free 0⟩, ⟨hn.base, hm6.put 0 v6, owns_eff hp hS fun k hk e => hXv (e ▸ hk)⟩, e1.setCell (p := ⟨X, 0, none⟩) (.inl rfl) _, fun k hk => ?_⟩
  rcases hat with e | e
  · exact .inl (e ▸ hk)
  · rw [hk] at e
    injection e with e
    subst e
    exact .inr hb.size
theorem cells_new2 (w : World) (t : TypeId) (a b : Value) (fr : Nat × Nat) (g : Nat) (h : w.heap[g]? = some (.cells #[a, b] t fr)) : ∀ j u, [a, b][j]? = some u → w.cell? ((⟨g, 0, none⟩ : Addr).add j) = some u := by
  intro j u hu
  rw [add_plain, Nat.zero_add, cell_of_row _ _ j _ t fr h, ← List.getElem?_toArray] at *
  exact hu
/-- Timers' step: what they hold behind it; but for their own blocks nothing turned. -/
def TmStep (w w' : World) (B X : Nat) (v : Value) (H' : List One) (now' : Int) : Prop :=
  ∃ v', TmInv w' B X v' H' now' ∧ Eff (TS X v) w w' ∧ (∀ k, v'.ownBlock = some k → v.ownBlock = some k ∨ w.heap.size ≤ k)
theorem set_bad (id after : Int) (h : after < 1 ∨ 1073741824 < after) (p : Value) (w : World) : Calls Try.prog 13 #[p, .int .i64 id, .int .i64 after] w fun e w' => e = .returned (.int .i64 1) ∧ w = w' := by
  rcases h with h | h
  · go_enter Try.func13, Try.ntmps13
    go_wp2
    go_ret
    exact ⟨rfl, rfl⟩
  · have h1 : ¬ after < 1 := by omega
    go_enter Try.func13, Try.ntmps13
    go_wp2
    go_ret
    exact ⟨rfl, rfl⟩
set_option maxHeartbeats 1000000 in
theorem set_full (B X : Nat) (v : Value) (H : List One) (now id after : Int) (w : World) (hl : H.length ≤ 1000) (hn : TmInv w B X v H now) (h1 : 1 ≤ after) (h2 : after ≤ 1073741824) (hi : ¬ ix H id < H.length) (hf : 256 ≤ H.length) :
    Calls Try.prog 13 #[.pointer (some ⟨X, 0, none⟩), .int .i64 id, .int .i64 after] w fun e w' => e = .returned (.int .i64 7) ∧ Below w.heap.size w w' := by
  have hp := place_any B X v H now id w hl hn
  have hI : ixI H id = -1 := by unfold ixI; rw [if_neg hi]
  rw [hI] at hp
  have hx := fun W (hW : Below w.heap.size w W) => (hn.below hW).mem.cell 0
  obtain ⟨A, c, rfl, hc1, hc2⟩ := hn.parts
  have hfx : (256 : Int) ≤ (H.length : Int) := by omega
  have g1 : ¬ after < 1 := by omega
  have g2 : ¬ 1073741824 < after := by omega
  go_enter Try.func13, Try.ntmps13
  go_wp2_with (go_at_call 20; (with_reducible refine hp.mono ?_); rintro e w1 ⟨rfl, hb1⟩; have kx := hx w1 hb1)
  go_ret
  exact ⟨rfl, hb1⟩
set_option maxRecDepth 100000 in
set_option maxHeartbeats 1000000 in
theorem set_new (B X : Nat) (v : Value) (H : List One) (now id after : Int) (w : World) (hl : H.length ≤ 900) (hBw : B ≤ w.heap.size) (hn : TmInv w B X v H now) (hh : Heap H) (h1 : 1 ≤ after) (h2 : after ≤ 1073741824) (hn1 : 0 ≤ now) (hn2 : now ≤ 1099511627776) (hi : ¬ ix H id < H.length) (hf : H.length < 256) :
    Calls Try.prog 13 #[.pointer (some ⟨X, 0, none⟩), .int .i64 id, .int .i64 after] w fun e w' => e = .returned (.int .i64 0) ∧ ∃ H', H'.Perm ((id, now + after) :: H) ∧ Heap H' ∧ TmStep w w' B X v H' now := by
  obtain ⟨i0, hi0, hz0, hz1, hz2⟩ := info_parts one_info
  have hp := place_any B X v H now id w (by omega) hn
  have hI : ixI H id = -1 := by unfold ixI; rw [if_neg hi]
  have hfx : ¬ (256 : Int) ≤ (H.length : Int) := by omega
  rw [hI] at hp
  have hx := fun W (hW : Below w.heap.size w W) => (hn.below hW).mem.cell 0
  obtain ⟨A, c, rfl, hc1, hc2⟩ := hn.parts
  have hlx : (H.length : Int) ≤ 900 := by omega
  have g1 : ¬ after < 1 := by omega
  have g2 : ¬ 1073741824 < after := by omega
  go_enter Try.func13, Try.ntmps13
  go_wp2_with (go_at_call 20; (with_reducible refine hp.mono ?_); rintro e w3 ⟨rfl, hb3⟩; have kx := hx w3 hb3)
  clear hfx
  have hn3 := hn.below hb3
  obtain ⟨H3, hH3⟩ : ∃ H3, H3 = H := ⟨H, rfl⟩
  obtain rfl := hH3
  have hh3 := hh
  have hB3 : B ≤ w3.heap.size := Nat.le_trans hBw hb3.size
  have hdr : Below w3.heap.size w3 w3.drew := (Below.refl _ _).drew
  have hF : ∀ W, Below w3.drew.heap.size w3.drew W → W.cell? ⟨X, 0, none⟩ = some (.slice A H3.length c) ∧ W.cell? ⟨X, 1, none⟩ = some (.int .i64 now) := by
    intro W hW
    have h := hn3.below (hdr.trans (hW.mono hdr.size))
    exact ⟨h.mem.cell 0, h.mem.cell 1⟩
  have hlx3 : (H3.length : Int) ≤ 900 := by omega
  clear hx hn hp
  have b3 : H3.length + 1 ≤ maxLen := by unfold maxLen; omega
  have b4 : (H3.length + 1) * 16 ≤ 140737488355328 := by omega
  refine wp_region_any (by kernel_rfl) ?_
  change wpAny _ _ _ _ _ _ _ (World.drew _)
  refine wpAny_take (i := 0) (oi := { dst := some 32, op := Op.move (Operand.tmp 0), type := 46, pos := "timer.go:86", after := #[], guard := none }) (v := (.pointer (some ⟨X, 0, none⟩))) rfl (by kernel_rfl) (by kernel_rfl) (by kernel_rfl) (fun _ _ _ h => h) (Or.inl ⟨by rfl, by intro w; go_simp⟩) ?_
  try dsimp only [Act.put]
  try simp only [List.setIfInBounds_toArray, List.set_cons_succ, List.set_cons_zero]
  apply calm_tailI 14 [0] [.is (.pointer (some ⟨X, 0, none⟩)), .is _, .is _, .is _, .is _, .is _, .is _, .is _, .is _, .is _, .is _, .is _, .is _, .of (fun v W => ∃ g, v = .slice (some ⟨g, 0, none⟩) 1 1 ∧ Mem W g 72 #[.int .i64 id, .int .i64 (now + after)]) (fun v W W' hb ⟨g, h1, h3⟩ => ⟨g, h1, h3.below hb h3.lt⟩)] [[], [], [1], [2], [3], [], [], [6], [7], [8], [], [9, 10], [5, 11], [12]] (by kernel_rfl) (by kernel_rfl) rfl (by decide) (by intro i hi o ho; obtain rfl := List.mem_singleton.1 hi; obtain rfl := Option.some.inj ho; exact rfl)
  intro f a1 ha1
  simp only [List.take_succ_cons, List.take_zero, putL, Act.put, List.setIfInBounds_toArray, List.set_cons_succ, List.set_cons_zero] at ha1
  subst ha1
  refine ⟨?_, ?_⟩
  · refine AllCalm.cons (fun W hB hd => ?_) ?_
    · go_wp2_with (fail)
      exact CalmQ.mk rfl _ rfl (Below.refl _ _) rfl
    refine AllCalm.cons (fun W hB hd => ?_) ?_
    · go_wp2_with (fail)
      exact CalmQ.mk rfl _ rfl (Below.refl _ _) rfl
    refine AllCalm.cons (fun W hB hd => ?_) ?_
    · obtain ⟨h1, -⟩ := hd
      have h1 : f 1 = _ := h1
      rw [h1]
      go_wp2_with (fail)
      exact CalmQ.mk rfl _ rfl (Below.refl _ _) rfl
    refine AllCalm.cons (fun W hB hd => ?_) ?_
    · obtain ⟨h2, -⟩ := hd
      have h2 : f 2 = _ := h2
      rw [h2]
      go_wp2_with (fail)
      exact CalmQ.mk rfl _ rfl (Below.refl _ _) rfl
    refine AllCalm.cons (fun W hB hd => ?_) ?_
    · obtain ⟨h3, -⟩ := hd
      have h3 : f 3 = _ := h3
      rw [h3]
      have kx := (hF W hB).1
      go_wp2_with (fail)
      exact CalmQ.mk rfl _ rfl (Below.refl _ _) rfl
    refine AllCalm.cons (fun W hB hd => ?_) ?_
    · go_wp2_with (fail)
      exact CalmQ.mk rfl _ rfl (Below.refl _ _) rfl
    refine AllCalm.cons (fun W hB hd => ?_) ?_
    · go_wp2_with (fail)
      exact CalmQ.mk rfl _ rfl (Below.refl _ _) rfl
    refine AllCalm.cons (fun W hB hd => ?_) ?_
    · obtain ⟨h6, -⟩ := hd
      have h6 : f 6 = _ := h6
      rw [h6]
      go_wp2_with (fail)
      exact CalmQ.mk rfl _ rfl (Below.refl _ _) rfl
    refine AllCalm.cons (fun W hB hd => ?_) ?_
    · obtain ⟨h7, -⟩ := hd
      have h7 : f 7 = _ := h7
      rw [h7]
      go_wp2_with (fail)
      exact CalmQ.mk rfl _ rfl (Below.refl _ _) rfl
    refine AllCalm.cons (fun W hB hd => ?_) ?_
    · obtain ⟨h8, -⟩ := hd
      have h8 : f 8 = _ := h8
      rw [h8]
      have kx := (hF W hB).2
      go_wp2_with (fail)
      exact CalmQ.mk rfl _ rfl (Below.refl _ _) rfl
    refine AllCalm.cons (fun W hB hd => ?_) ?_
    · go_wp2_with (fail)
      exact CalmQ.mk rfl _ rfl (Below.refl _ _) rfl
    refine AllCalm.cons (fun W hB hd => ?_) ?_
    · obtain ⟨h9, h10, -⟩ := hd
      have h9 : f 9 = _ := h9
      have h10 : f 10 = _ := h10
      rw [h9, h10]
      go_wp2_with (fail)
      exact CalmQ.mk rfl _ rfl (Below.refl _ _) rfl
    refine AllCalm.cons (fun W hB hd => ?_) ?_
    · obtain ⟨h5, h11, -⟩ := hd
      have h5 : f 5 = _ := h5
      have h11 : f 11 = _ := h11
      rw [h5, h11]
      go_wp2_with (fail)
      exact CalmQ.mk rfl _ rfl (Below.refl _ _) rfl
    refine AllCalm.cons (fun W hB hd => ?_) ?_
    · obtain ⟨h12, -⟩ := hd
      have h12 : f 12 = _ := h12
      rw [h12]
      go_wp2_with (fail)
      exact CalmQ.mk rfl _ rfl ((Below.refl _ _).alloc (Nat.le_refl _) _) ⟨_, rfl, Mem.new _ _ _⟩
    exact AllCalm.nil
  · intro W hB hT
    obtain ⟨h0, h1, h2, h3, h4, h5, h6, h7, h8, h9, h10, h11, h12, h13, -⟩ := hT
    have h0 : f 0 = _ := h0
    have h1 : f 1 = _ := h1
    have h2 : f 2 = _ := h2
    have h3 : f 3 = _ := h3
    have h4 : f 4 = _ := h4
    have h5 : f 5 = _ := h5
    have h6 : f 6 = _ := h6
    have h7 : f 7 = _ := h7
    have h8 : f 8 = _ := h8
    have h9 : f 9 = _ := h9
    have h10 : f 10 = _ := h10
    have h11 : f 11 = _ := h11
    have h12 : f 12 = _ := h12
    rw [h0, h1, h2, h3, h4, h5, h6, h7, h8, h9, h10, h11, h12]
    clear h0 h1 h2 h3 h4 h5 h6 h7 h8 h9 h10 h11 h12
    simp only [List.drop_succ_cons, List.drop_zero]
    have hbW := hdr.trans (hB.mono hdr.size)
    obtain ⟨g13, e13, hm13⟩ := h13
    rw [e13]
    clear e13
    clear hF
    have hownW := owns_below hn3.row hbW
    go_wp2_with (first
      | (at_builtin; (refine wpList_append_at _ rfl (.tmp 36) (.tmp 45) _ rfl B 72 i0 _ 2 16 Try.underlying66 hi0 hz0 hz1 hz2 rfl (by decide) (.slice A H3.length c) H3.length (tflat H3) rfl hownW ⟨g13, 0, none⟩ 1 1 [.int .i64 id, .int .i64 (now + after)] rfl rfl (cells_new2 _ _ _ _ _ _ hm13) (by intro u hu; simp at hu; rcases hu with rfl | rfl <;> rfl) b3 b4 (Nat.le_trans hB3 hbW.size) ?_); intro v6 w6 ho6 hg6 hat6; obtain ⟨⟨hc6, hz6⟩, hn7, he7, hv7⟩ := hn3.push (x := (id, now + after)) hbW ho6 hg6 hat6; obtain ⟨A6, c6, rfl, _, _⟩ := own_form ho6; have x7 := hn7.mem.cell 0)
      | (go_at_call 22; (with_reducible refine (rise_any B X _ (H3 ++ [(id, now + after)]) now H3.length _ (by rw [List.length_append]; simp; omega) (Nat.le_trans hB3 he7.size) hn7 (by simp) (hh3.push _)).mono ?_); rintro e w8 ⟨rfl, H8, hp8, hs8, hn8, he8⟩))
    go_ret
    have hp9 : (H3 ++ [(id, now + after)]).Perm ((id, now + after) :: H3) := (List.perm_append_comm (l₁ := H3) (l₂ := [(id, now + after)])).trans (.refl _)
    refine ⟨rfl, H8, hp8.trans hp9, hs8.heap_last (by rw [hp8.length_eq]; simp), _, hn8, ?_, ?_⟩
    · refine (Eff.of (S := TS X (.slice A H3.length c)) hb3).trans (he7.trans he8 fun k hk h => ?_) fun _ _ h => h
      rcases h with h | h
      · exact .inl h
      · rcases hv7 k h with h | h
        · exact .inr h
        · exact absurd hk (by omega)
    · intro k hk
      rcases hv7 k hk with h | h
      · exact .inl h
      · exact .inr (Nat.le_trans hb3.size h)
set_option maxRecDepth 100000 in
set_option maxHeartbeats 1000000 in
theorem set_old (B X : Nat) (v : Value) (H : List One) (now id after : Int) (w : World) (hl : H.length ≤ 900) (hBw : B ≤ w.heap.size) (hn : TmInv w B X v H now) (hh : Heap H) (h1 : 1 ≤ after) (h2 : after ≤ 1073741824) (hn1 : 0 ≤ now) (hn2 : now ≤ 1099511627776) (hi : ix H id < H.length) :
    Calls Try.prog 13 #[.pointer (some ⟨X, 0, none⟩), .int .i64 id, .int .i64 after] w fun e w' => e = .returned (.int .i64 0) ∧ ∃ H', H'.Perm ((id, now + after) :: H.eraseIdx (ix H id)) ∧ Heap H' ∧ TmStep w w' B X v H' now := by
  obtain ⟨i0, hi0, hz0, hz1, hz2⟩ := info_parts one_info
  have hp := place_any B X v H now id w (by omega) hn
  have hI : ixI H id = (ix H id : Int) := by unfold ixI; rw [if_pos hi]
  have hge : (0 : Int) ≤ ((ix H id : Nat) : Int) := by omega
  rw [hI] at hp
  have hx := fun W (hW : Below w.heap.size w W) => (hn.below hW).mem.cell 0
  obtain ⟨A, c, rfl, hc1, hc2⟩ := hn.parts
  have hlx : (H.length : Int) ≤ 900 := by omega
  have g1 : ¬ after < 1 := by omega
  have g2 : ¬ 1073741824 < after := by omega
  go_enter Try.func13, Try.ntmps13
  generalize hixe : ix H id = ii at *
  go_wp2_with (first
    | (go_at_call 20; (with_reducible refine hp.mono ?_); rintro e w1 ⟨rfl, hb1⟩; have kx := hx w1 hb1)
    | (go_at_call 21; (with_reducible refine (remove_any B X _ H now ii _ (by omega) (Nat.le_trans hBw hb1.size) (hn.below hb1) hi hh).mono ?_); rintro e w3 ⟨rfl, v3, H3, hp3, hh3, hn3, he3, hv3⟩))
  have hl3 : H3.length ≤ 900 := by rw [hp3.length_eq, List.length_eraseIdx]; split <;> omega
  have hB3 : B ≤ w3.heap.size := Nat.le_trans hBw (Nat.le_trans hb1.size he3.size)
  obtain ⟨A3, c3, rfl, hc5, hc6⟩ := hn3.parts
  have hdr : Below w3.heap.size w3 w3.drew := (Below.refl _ _).drew
  have hF : ∀ W, Below w3.drew.heap.size w3.drew W → W.cell? ⟨X, 0, none⟩ = some (.slice A3 H3.length c3) ∧ W.cell? ⟨X, 1, none⟩ = some (.int .i64 now) := by
    intro W hW
    have h := hn3.below (hdr.trans (hW.mono hdr.size))
    exact ⟨h.mem.cell 0, h.mem.cell 1⟩
  have hlx3 : (H3.length : Int) ≤ 900 := by omega
  clear hx hn hp
  have b3 : H3.length + 1 ≤ maxLen := by unfold maxLen; omega
  have b4 : (H3.length + 1) * 16 ≤ 140737488355328 := by omega
  refine wp_region_any (by kernel_rfl) ?_
  change wpAny _ _ _ _ _ _ _ (World.drew _)
  refine wpAny_take (i := 0) (oi := { dst := some 32, op := Op.move (Operand.tmp 0), type := 46, pos := "timer.go:86", after := #[], guard := none }) (v := (.pointer (some ⟨X, 0, none⟩))) rfl (by kernel_rfl) (by kernel_rfl) (by kernel_rfl) (fun _ _ _ h => h) (Or.inl ⟨by rfl, by intro w; go_simp⟩) ?_
  try dsimp only [Act.put]
  try simp only [List.setIfInBounds_toArray, List.set_cons_succ, List.set_cons_zero]
  apply calm_tailI 14 [0] [.is (.pointer (some ⟨X, 0, none⟩)), .is _, .is _, .is _, .is _, .is _, .is _, .is _, .is _, .is _, .is _, .is _, .is _, .of (fun v W => ∃ g, v = .slice (some ⟨g, 0, none⟩) 1 1 ∧ Mem W g 72 #[.int .i64 id, .int .i64 (now + after)]) (fun v W W' hb ⟨g, h1, h3⟩ => ⟨g, h1, h3.below hb h3.lt⟩)] [[], [], [1], [2], [3], [], [], [6], [7], [8], [], [9, 10], [5, 11], [12]] (by kernel_rfl) (by kernel_rfl) rfl (by decide) (by intro i hi o ho; obtain rfl := List.mem_singleton.1 hi; obtain rfl := Option.some.inj ho; exact rfl)
  intro f a1 ha1
  simp only [List.take_succ_cons, List.take_zero, putL, Act.put, List.setIfInBounds_toArray, List.set_cons_succ, List.set_cons_zero] at ha1
  subst ha1
  refine ⟨?_, ?_⟩
  · refine AllCalm.cons (fun W hB hd => ?_) ?_
    · go_wp2_with (fail)
      exact CalmQ.mk rfl _ rfl (Below.refl _ _) rfl
    refine AllCalm.cons (fun W hB hd => ?_) ?_
    · go_wp2_with (fail)
      exact CalmQ.mk rfl _ rfl (Below.refl _ _) rfl
    refine AllCalm.cons (fun W hB hd => ?_) ?_
    · obtain ⟨h1, -⟩ := hd
      have h1 : f 1 = _ := h1
      rw [h1]
      go_wp2_with (fail)
      exact CalmQ.mk rfl _ rfl (Below.refl _ _) rfl
    refine AllCalm.cons (fun W hB hd => ?_) ?_
    · obtain ⟨h2, -⟩ := hd
      have h2 : f 2 = _ := h2
      rw [h2]
      go_wp2_with (fail)
      exact CalmQ.mk rfl _ rfl (Below.refl _ _) rfl
    refine AllCalm.cons (fun W hB hd => ?_) ?_
    · obtain ⟨h3, -⟩ := hd
      have h3 : f 3 = _ := h3
      rw [h3]
      have kx := (hF W hB).1
      go_wp2_with (fail)
      exact CalmQ.mk rfl _ rfl (Below.refl _ _) rfl
    refine AllCalm.cons (fun W hB hd => ?_) ?_
    · go_wp2_with (fail)
      exact CalmQ.mk rfl _ rfl (Below.refl _ _) rfl
    refine AllCalm.cons (fun W hB hd => ?_) ?_
    · go_wp2_with (fail)
      exact CalmQ.mk rfl _ rfl (Below.refl _ _) rfl
    refine AllCalm.cons (fun W hB hd => ?_) ?_
    · obtain ⟨h6, -⟩ := hd
      have h6 : f 6 = _ := h6
      rw [h6]
      go_wp2_with (fail)
      exact CalmQ.mk rfl _ rfl (Below.refl _ _) rfl
    refine AllCalm.cons (fun W hB hd => ?_) ?_
    · obtain ⟨h7, -⟩ := hd
      have h7 : f 7 = _ := h7
      rw [h7]
      go_wp2_with (fail)
      exact CalmQ.mk rfl _ rfl (Below.refl _ _) rfl
    refine AllCalm.cons (fun W hB hd => ?_) ?_
    · obtain ⟨h8, -⟩ := hd
      have h8 : f 8 = _ := h8
      rw [h8]
      have kx := (hF W hB).2
      go_wp2_with (fail)
      exact CalmQ.mk rfl _ rfl (Below.refl _ _) rfl
    refine AllCalm.cons (fun W hB hd => ?_) ?_
    · go_wp2_with (fail)
      exact CalmQ.mk rfl _ rfl (Below.refl _ _) rfl
    refine AllCalm.cons (fun W hB hd => ?_) ?_
    · obtain ⟨h9, h10, -⟩ := hd
      have h9 : f 9 = _ := h9
      have h10 : f 10 = _ := h10
      rw [h9, h10]
      go_wp2_with (fail)
      exact CalmQ.mk rfl _ rfl (Below.refl _ _) rfl
    refine AllCalm.cons (fun W hB hd => ?_) ?_
    · obtain ⟨h5, h11, -⟩ := hd
      have h5 : f 5 = _ := h5
      have h11 : f 11 = _ := h11
      rw [h5, h11]
      go_wp2_with (fail)
      exact CalmQ.mk rfl _ rfl (Below.refl _ _) rfl
    refine AllCalm.cons (fun W hB hd => ?_) ?_
    · obtain ⟨h12, -⟩ := hd
      have h12 : f 12 = _ := h12
      rw [h12]
      go_wp2_with (fail)
      exact CalmQ.mk rfl _ rfl ((Below.refl _ _).alloc (Nat.le_refl _) _) ⟨_, rfl, Mem.new _ _ _⟩
    exact AllCalm.nil
  · intro W hB hT
    obtain ⟨h0, h1, h2, h3, h4, h5, h6, h7, h8, h9, h10, h11, h12, h13, -⟩ := hT
    have h0 : f 0 = _ := h0
    have h1 : f 1 = _ := h1
    have h2 : f 2 = _ := h2
    have h3 : f 3 = _ := h3
    have h4 : f 4 = _ := h4
    have h5 : f 5 = _ := h5
    have h6 : f 6 = _ := h6
    have h7 : f 7 = _ := h7
    have h8 : f 8 = _ := h8
    have h9 : f 9 = _ := h9
    have h10 : f 10 = _ := h10
    have h11 : f 11 = _ := h11
    have h12 : f 12 = _ := h12
    rw [h0, h1, h2, h3, h4, h5, h6, h7, h8, h9, h10, h11, h12]
    clear h0 h1 h2 h3 h4 h5 h6 h7 h8 h9 h10 h11 h12
    simp only [List.drop_succ_cons, List.drop_zero]
    have hbW := hdr.trans (hB.mono hdr.size)
    obtain ⟨g13, e13, hm13⟩ := h13
    rw [e13]
    clear e13
    clear hF
    have hownW := owns_below hn3.row hbW
    go_wp2_with (first
      | (at_builtin; (refine wpList_append_at _ rfl (.tmp 36) (.tmp 45) _ rfl B 72 i0 _ 2 16 Try.underlying66 hi0 hz0 hz1 hz2 rfl (by decide) (.slice A3 H3.length c3) H3.length (tflat H3) rfl hownW ⟨g13, 0, none⟩ 1 1 [.int .i64 id, .int .i64 (now + after)] rfl rfl (cells_new2 _ _ _ _ _ _ hm13) (by intro u hu; simp at hu; rcases hu with rfl | rfl <;> rfl) b3 b4 (Nat.le_trans hB3 hbW.size) ?_); intro v6 w6 ho6 hg6 hat6; obtain ⟨⟨hc6, hz6⟩, hn7, he7, hv7⟩ := hn3.push (x := (id, now + after)) hbW ho6 hg6 hat6; obtain ⟨A6, c6, rfl, _, _⟩ := own_form ho6; have x7 := hn7.mem.cell 0)
      | (go_at_call 22; (with_reducible refine (rise_any B X _ (H3 ++ [(id, now + after)]) now H3.length _ (by rw [List.length_append]; simp; omega) (Nat.le_trans hB3 he7.size) hn7 (by simp) (hh3.push _)).mono ?_); rintro e w8 ⟨rfl, H8, hp8, hs8, hn8, he8⟩))
    go_ret
    have hp9 : (H3 ++ [(id, now + after)]).Perm ((id, now + after) :: H.eraseIdx ii) := (List.perm_append_comm (l₁ := H3) (l₂ := [(id, now + after)])).trans (hp3.cons _)
    refine ⟨rfl, H8, hp8.trans hp9, hs8.heap_last (by rw [hp8.length_eq]; simp), _, hn8, ?_, ?_⟩
    · refine ((Eff.of (S := TS X (.slice A H.length c)) hb1).trans he3 fun _ _ h => h).trans (he7.trans he8 fun k hk h => ?_) fun k hk h => ?_
      · rcases h with h | h
        · exact .inl h
        · rcases hv7 k h with h | h
          · exact .inr h
          · exact absurd hk (by omega)
      · rcases h with h | h
        · exact .inl h
        · exact .inr (hv3 ▸ h)
    · intro k hk
      rcases hv7 k hk with h | h
      · exact .inl (hv3 ▸ h)
      · exact .inr (Nat.le_trans (Nat.le_trans hb1.size he3.size) h)
end Go.Proofs.Ytoogmdokcndieaa
