/- Package timer: rise: contract. -/
import Derived.Test.YtoogmdokcndieaaTm2
import Derived.Test.YtoogmdokcndieaaCalmK
import Derived.Laws.IdiomCopy
import Derived.WalkKit
namespace Go.Proofs.Ytoogmdokcndieaa
open Go.ChangeShapes Go.WideShapes Go.ChangeAt Go.RowKit Go.Lib
set_option linter.unusedVariables false
section
variable {P : Program}
/-- A pair stored into a row of pairs of the call's own. -/
theorem wpList_store_pair {ops : Array Oper} {rest : List Oper} {o : Oper} {a : Act} {w : World} {Q : Exit → Act → World → Prop} (hgd : o.guard = none) (ty : TypeId) (x y : Operand) (ho : o.op = .store ty x y)
    (base e n cap g : Nat) (xs : List Value) (hown : w.ownsRow base e 2 (.slice (some ⟨g, 0, none⟩) n cap) n xs) (j : Nat) (hj : j < n) (u1 u2 : Value)
    (hx : a.eval x = .pointer (some ⟨g, j * 2, none⟩)) (hy : a.eval y = .agg #[u1, u2]) (hi : (P.info? ty).map (·.size) = some 2) (h1 : u1.oneCell' = true) (h2 : u2.oneCell' = true)
    (h : ∀ w', w'.ownsRow base e 2 (.slice (some ⟨g, 0, none⟩) n cap) n ((xs.set (j * 2) u1).set (j * 2 + 1) u2) → Eff (fun k => k = g) w w' → wpList P ops Q rest (a.put o.dst undef) w') : wpList P ops Q (o :: rest) a w := by
  have hst := run_storeCells_cells (P := P) g (j * 2) [u1, u2] 0 w (by
    intro k hk
    simp only [List.length_cons, List.length_nil] at hk
    rw [Nat.add_zero, hown.cellAt _ (by omega), List.getElem?_eq_getElem (by rw [hown.1]; omega)]
    rfl) (fun k _ => hown.frozenAt _) (by
    intro u hu
    simp at hu
    rcases hu with rfl | rfl <;> assumption)
  have hw : w.setCells g (j * 2 + 0) [u1, u2] = (w.setCell ⟨g, j * 2, none⟩ u1).setCell ⟨g, j * 2 + 1, none⟩ u2 := rfl
  rw [hw] at hst
  have o1 := hown.stored (j * 2) u1
  have o2 := o1.1.stored (j * 2 + 1) u2
  refine wpList_plain hgd fun _ hK => ?_
  unfold Oper.wp execOp
  cases hq : P.info? ty with
  | none => simp [hq] at hi
  | some i =>
    have hs : i.size = 2 := by simpa [hq] using hi
    have hc : (Value.agg #[u1, u2]).cells = #[u1, u2] := rfl
    have hsv : (storeVar ty ⟨g, j * 2, none⟩ (.agg #[u1, u2])).run P w = .ok () ((w.setCell ⟨g, j * 2, none⟩ u1).setCell ⟨g, j * 2 + 1, none⟩ u2) := by
      simp [storeVar, sizeOf, typeInfo, hq, hc, hs, hst]
    simp only [ho, hx, hy, Instr.storeAt, Instr.sureAddr, Sem.run_bind, Sem.run_pure, Result.andThen_ok, hsv]
    exact hK _ _ (h _ o2.1 (((Eff.refl (fun k => k = g) w).setCell (p := ⟨g, j * 2, none⟩) rfl u1).setCell (p := ⟨g, j * 2 + 1, none⟩) rfl u2))
end
/-- A pair of the timers' row laid anew. -/
theorem TmInv.set {w w' : World} {B X g c j n : Nat} {H : List One} {now : Int} {x : One} (hn : TmInv w B X (.slice (some ⟨g, 0, none⟩) n c) H now) (hlen : H.length = n) (hj : j < n)
    (ho : w'.ownsRow B 72 2 (.slice (some ⟨g, 0, none⟩) n c) n (((tflat H).set (j * 2) (.int .i64 x.1)).set (j * 2 + 1) (.int .i64 x.2))) (he : Eff (fun k => k = g) w w') :
    TmInv w' B X (.slice (some ⟨g, 0, none⟩) n c) (H.set j x) now := by
  rw [tflat_set H j (by omega)] at ho
  have hgX : X ≠ g := by
    rintro rfl
    exact hn.apart rfl
  refine ⟨hn.base, hn.mem.eff he hgX, ?_⟩
  rw [List.length_set, hlen]
  exact ho
theorem TmInv.rowN {w : World} {B X n : Nat} {v : Value} {H : List One} {now : Int} (hn : TmInv w B X v H now) (hlen : H.length = n) : w.ownsRow B 72 2 v n (tflat H) := hlen ▸ hn.row
theorem ts_row {X g n c : Nat} : ∀ k, k = g → TS X (.slice (some ⟨g, 0, none⟩) n c) k := by
  rintro k rfl
  exact .inr rfl
set_option maxRecDepth 100000 in
set_option maxHeartbeats 1000000 in
theorem rise_any (B X : Nat) (v : Value) (H : List One) (now : Int) (i0 : Nat) (w : World) (hl : H.length ≤ 1000) (hB : B ≤ w.heap.size) (hn : TmInv w B X v H now) (hi : i0 < H.length) (hbad : Bad H i0) :
    Calls Try.prog 22 #[.pointer (some ⟨X, 0, none⟩), .int .i64 (i0 : Nat)] w fun e w' => e = .returned (.tuple #[]) ∧ ∃ H', H'.Perm H ∧ Sk H' i0 ∧ TmInv w' B X v H' now ∧ Eff (TS X v) w w' := by
  obtain ⟨A, c, rfl, hc1, hc2⟩ := hn.parts
  obtain ⟨g, rfl, hBg, hgX⟩ := hn.at_ hi
  go_enter Try.func22, Try.ntmps22
  go_wp2
  go_loopw [1] (fun i wr => ∃ (k : Nat) (H' : List One), k ≤ i0 ∧ i = .int .i64 k ∧ Hid (H'.Perm H ∧ Bad H' k ∧ (k = i0 ∨ Kids H' k)) ∧ H'.length = H.length ∧ TmInv wr B X (.slice (some ⟨g, 0, none⟩) H.length c) H' now ∧ Eff (TS X (.slice (some ⟨g, 0, none⟩) H.length c)) w wr) (fun i _ => (intOf i).toNat)
  case atStart => exact ⟨i0, H, Nat.le_refl _, rfl, Lib.hid ⟨List.Perm.refl _, hbad, .inl rfl⟩, rfl, hn, Eff.refl _ _⟩
  case round =>
    clear hn hbad
    obtain ⟨k, H', hk, rfl, HP, hlen, hn, he⟩ := hrel
    by_cases h0 : k = 0
    · subst h0
      go_wp2
      refine bodyPost_end (v := .tuple #[]) (by simp [results, Try.results22, go_sem]) rfl ?_
      exact ⟨rfl, H', HP.out.1, by
        rcases HP.out.2.2 with e | e
        · rw [← e]; exact HP.out.2.1.stop (.inl rfl)
        · exact ((HP.out.2.1.stop (.inl rfl)).heap e).sk _, hn, he⟩
    · have hkx : (0 : Int) < (k : Int) := by omega
      have hul := up_lt (show 0 < k by omega)
      have hupI : ((k : Int) - 1) / 2 = ((up k : Nat) : Int) := by unfold up; omega
      have hF : ∀ W, Below wr.heap.size wr W → W.cell? ⟨X, 0, none⟩ = some (.slice (some ⟨g, 0, none⟩) H.length c) ∧ (W.cell? ⟨g, k * 2, none⟩ = some (.int .i64 (pl H' k).1) ∧ W.cell? ⟨g, k * 2 + 1, none⟩ = some (.int .i64 (pl H' k).2)) ∧ W.cell? ⟨g, up k * 2, none⟩ = some (.int .i64 (pl H' (up k)).1) ∧ W.cell? ⟨g, up k * 2 + 1, none⟩ = some (.int .i64 (pl H' (up k)).2) := by
        intro W hW
        have hW' := hn.below hW
        rw [← hlen] at hW' ⊢
        exact ⟨hW'.mem.cell 0, hW'.cells (by omega), hW'.cells (by omega)⟩
      have hah := fun W => ahead_any (pl H' k) (pl H' (up k)) W
      have hkH : (k : Int) < (H.length : Int) := by omega
      have huH : ((up k : Nat) : Int) < (H.length : Int) := by omega
      have hstop := fun h => HP.out.2.1.stop (i := k) (.inr h)
      have hrise := fun h => HP.out.2.1.rise (i := k) (by omega) (by omega) h
      have hsw := swap_perm (H := H') (i := k) (j := up k) (by omega) (by omega)
      have hsl := swap_len H' k (up k)
      have HS : Hid (∀ x y : One, x = pl H' (up k) → y = pl H' k → (H'.set k x).set (up k) y = swap H' k (up k)) := Lib.hid fun x y h1 h2 => by subst h1; subst h2; rfl
      generalize up k = u at *
      have HHs := Lib.hid hstop
      have HHr := Lib.hid hrise
      have HHw := Lib.hid hsw
      have HHl := Lib.hid hsl
      have HSu : Hid (up k = u → True) := Lib.hid fun _ => trivial
      clear hstop hrise hsw hsl
      generalize hpa : pl H' k = pa at *
      generalize hpb : pl H' u = pb at *
      have HPA := Lib.hid hpa
      have HPB := Lib.hid hpb
      clear hpa hpb
      obtain ⟨a1, a2⟩ := pa
      obtain ⟨b1, b2⟩ := pb
      simp only at hF hah
      rcases hq : ah (a1, a2) (b1, b2) with _ | _
      · rw [hq] at hah
        have HQ := Lib.hid hq
        clear hq
        go_wp2
        apply calm_region [.is _, .is _, .is _, .is _, .is _, .is _, .is _, .is _, .is _, .is _, .is _, .is _, .is _, .is _, .is _, .is _] [[], [0], [1], [2], [], [3, 4], [5], [], [7], [8], [9], [], [10, 11], [12], [6, 13], [14]] (by kernel_rfl) (by kernel_rfl) (by kernel_rfl) rfl
        intro f a1 ha1
        simp only [putL, Act.put, List.setIfInBounds_toArray, List.set_cons_succ, List.set_cons_zero] at ha1
        subst ha1
        refine ⟨?_, ?_⟩
        · refine AllCalm.cons (fun W hB hd => ?_) ?_
          · go_wp2_with (fail)
            exact CalmQ.mk rfl _ rfl (Below.refl _ _) rfl
          refine AllCalm.cons (fun W hB hd => ?_) ?_
          · obtain ⟨h0, -⟩ := hd
            have h0 : f 0 = _ := h0
            rw [h0]
            go_wp2_with (fail)
            exact CalmQ.mk rfl _ rfl (Below.refl _ _) rfl
          refine AllCalm.cons (fun W hB hd => ?_) ?_
          · obtain ⟨h1, -⟩ := hd
            have h1 : f 1 = _ := h1
            rw [h1]
            go_wp2_with (fail)
            exact CalmQ.mk rfl _ rfl (Below.refl _ _) rfl
          refine AllCalm.cons (fun W hB hd => ?_) ?_
          · obtain ⟨h2, -⟩ := hd
            have h2 : f 2 = _ := h2
            rw [h2]
            have kx := (hF W hB).1
            go_wp2_with (fail)
            exact CalmQ.mk rfl _ rfl (Below.refl _ _) rfl
          refine AllCalm.cons (fun W hB hd => ?_) ?_
          · go_wp2_with (fail)
            exact CalmQ.mk rfl _ rfl (Below.refl _ _) rfl
          refine AllCalm.cons (fun W hB hd => ?_) ?_
          · obtain ⟨h3, h4, -⟩ := hd
            have h3 : f 3 = _ := h3
            have h4 : f 4 = _ := h4
            rw [h3, h4]
            go_wp2_with (fail)
            exact CalmQ.mk rfl _ rfl (Below.refl _ _) rfl
          refine AllCalm.cons (fun W hB hd => ?_) ?_
          · obtain ⟨h5, -⟩ := hd
            have h5 : f 5 = _ := h5
            rw [h5]
            have kx := (hF W hB).2.1
            go_wp2_with (fail)
            exact CalmQ.mk rfl _ rfl (Below.refl _ _) rfl
          refine AllCalm.cons (fun W hB hd => ?_) ?_
          · go_wp2_with (fail)
            exact CalmQ.mk rfl _ rfl (Below.refl _ _) rfl
          refine AllCalm.cons (fun W hB hd => ?_) ?_
          · obtain ⟨h7, -⟩ := hd
            have h7 : f 7 = _ := h7
            rw [h7]
            go_wp2_with (fail)
            exact CalmQ.mk rfl _ rfl (Below.refl _ _) rfl
          refine AllCalm.cons (fun W hB hd => ?_) ?_
          · obtain ⟨h8, -⟩ := hd
            have h8 : f 8 = _ := h8
            rw [h8]
            go_wp2_with (fail)
            exact CalmQ.mk rfl _ rfl (Below.refl _ _) rfl
          refine AllCalm.cons (fun W hB hd => ?_) ?_
          · obtain ⟨h9, -⟩ := hd
            have h9 : f 9 = _ := h9
            rw [h9]
            have kx := (hF W hB).1
            go_wp2_with (fail)
            exact CalmQ.mk rfl _ rfl (Below.refl _ _) rfl
          refine AllCalm.cons (fun W hB hd => ?_) ?_
          · go_wp2_with (fail)
            exact CalmQ.mk rfl _ rfl (Below.refl _ _) rfl
          refine AllCalm.cons (fun W hB hd => ?_) ?_
          · obtain ⟨h10, h11, -⟩ := hd
            have h10 : f 10 = _ := h10
            have h11 : f 11 = _ := h11
            rw [h10, h11]
            go_wp2_with (fail)
            exact CalmQ.mk rfl _ rfl (Below.refl _ _) rfl
          refine AllCalm.cons (fun W hB hd => ?_) ?_
          · obtain ⟨h12, -⟩ := hd
            have h12 : f 12 = _ := h12
            rw [h12]
            have kx := (hF W hB).2.2
            go_wp2_with (fail)
            exact CalmQ.mk rfl _ rfl (Below.refl _ _) rfl
          refine AllCalm.cons (fun W hB hd => ?_) ?_
          · obtain ⟨h6, h13, -⟩ := hd
            have h6 : f 6 = _ := h6
            have h13 : f 13 = _ := h13
            rw [h6, h13]
            go_wp2_with ((go_at_call 35; (with_reducible refine (hah W).mono ?_); rintro e w5 ⟨rfl, hb5⟩))
            exact CalmQ.mk rfl _ rfl hb5 rfl
          refine AllCalm.cons (fun W hB hd => ?_) ?_
          · obtain ⟨h14, -⟩ := hd
            have h14 : f 14 = _ := h14
            rw [h14]
            go_wp2_with (fail)
            exact CalmQ.mk rfl _ rfl (Below.refl _ _) rfl
          exact AllCalm.nil
        · intro W hB hT
          obtain ⟨h0, h1, h2, h3, h4, h5, h6, h7, h8, h9, h10, h11, h12, h13, h14, h15, -⟩ := hT
          have h0 : f 0 = _ := h0
          have h1 : f 1 = _ := h1
          have h2 : f 2 = _ := h2
          have h3 : f 3 = _ := h3
          have h4 : f 4 = _ := h4
          have h5 : f 5 = _ := h5
          have h6 : f 6 = _ := h6
          have h7 : f 7 = _ := h7
          have h8 : f 8 = _ := h8
          have h9 : f 9 = _ := h9
          have h10 : f 10 = _ := h10
          have h11 : f 11 = _ := h11
          have h12 : f 12 = _ := h12
          have h13 : f 13 = _ := h13
          have h14 : f 14 = _ := h14
          have h15 : f 15 = _ := h15
          rw [h0, h1, h2, h3, h4, h5, h6, h7, h8, h9, h10, h11, h12, h13, h14, h15]
          clear h0 h1 h2 h3 h4 h5 h6 h7 h8 h9 h10 h11 h12 h13 h14 h15
          skip
          go_wp2
          refine bodyPost_ret (v := .tuple #[]) (by simp [results, Try.results22, go_sem]) rfl ?_
          have hb5 := hB
          exact ⟨rfl, H', HP.out.1, by
            rcases HP.out.2.2 with e | e
            · rw [← e]; exact HHs.out HQ.out
            · exact ((HHs.out HQ.out).heap e).sk _, hn.below hB, he.trans (Eff.of (S := TS X (.slice (some ⟨g, 0, none⟩) H.length c)) hB) fun _ _ h => h⟩
      · rw [hq] at hah
        have HQ := Lib.hid hq
        clear hq
        go_wp2
        apply calm_region [.is _, .is _, .is _, .is _, .is _, .is _, .is _, .is _, .is _, .is _, .is _, .is _, .is _, .is _, .is _, .is _] [[], [0], [1], [2], [], [3, 4], [5], [], [7], [8], [9], [], [10, 11], [12], [6, 13], [14]] (by kernel_rfl) (by kernel_rfl) (by kernel_rfl) rfl
        intro f a1 ha1
        simp only [putL, Act.put, List.setIfInBounds_toArray, List.set_cons_succ, List.set_cons_zero] at ha1
        subst ha1
        refine ⟨?_, ?_⟩
        · refine AllCalm.cons (fun W hB hd => ?_) ?_
          · go_wp2_with (fail)
            exact CalmQ.mk rfl _ rfl (Below.refl _ _) rfl
          refine AllCalm.cons (fun W hB hd => ?_) ?_
          · obtain ⟨h0, -⟩ := hd
            have h0 : f 0 = _ := h0
            rw [h0]
            go_wp2_with (fail)
            exact CalmQ.mk rfl _ rfl (Below.refl _ _) rfl
          refine AllCalm.cons (fun W hB hd => ?_) ?_
          · obtain ⟨h1, -⟩ := hd
            have h1 : f 1 = _ := h1
            rw [h1]
            go_wp2_with (fail)
            exact CalmQ.mk rfl _ rfl (Below.refl _ _) rfl
          refine AllCalm.cons (fun W hB hd => ?_) ?_
          · obtain ⟨h2, -⟩ := hd
            have h2 : f 2 = _ := h2
            rw [h2]
            have kx := (hF W hB).1
            go_wp2_with (fail)
            exact CalmQ.mk rfl _ rfl (Below.refl _ _) rfl
          refine AllCalm.cons (fun W hB hd => ?_) ?_
          · go_wp2_with (fail)
            exact CalmQ.mk rfl _ rfl (Below.refl _ _) rfl
          refine AllCalm.cons (fun W hB hd => ?_) ?_
          · obtain ⟨h3, h4, -⟩ := hd
            have h3 : f 3 = _ := h3
            have h4 : f 4 = _ := h4
            rw [h3, h4]
            go_wp2_with (fail)
            exact CalmQ.mk rfl _ rfl (Below.refl _ _) rfl
          refine AllCalm.cons (fun W hB hd => ?_) ?_
          · obtain ⟨h5, -⟩ := hd
            have h5 : f 5 = _ := h5
            rw [h5]
            have kx := (hF W hB).2.1
            go_wp2_with (fail)
            exact CalmQ.mk rfl _ rfl (Below.refl _ _) rfl
          refine AllCalm.cons (fun W hB hd => ?_) ?_
          · go_wp2_with (fail)
            exact CalmQ.mk rfl _ rfl (Below.refl _ _) rfl
          refine AllCalm.cons (fun W hB hd => ?_) ?_
          · obtain ⟨h7, -⟩ := hd
            have h7 : f 7 = _ := h7
            rw [h7]
            go_wp2_with (fail)
            exact CalmQ.mk rfl _ rfl (Below.refl _ _) rfl
          refine AllCalm.cons (fun W hB hd => ?_) ?_
          · obtain ⟨h8, -⟩ := hd
            have h8 : f 8 = _ := h8
            rw [h8]
            go_wp2_with (fail)
            exact CalmQ.mk rfl _ rfl (Below.refl _ _) rfl
          refine AllCalm.cons (fun W hB hd => ?_) ?_
          · obtain ⟨h9, -⟩ := hd
            have h9 : f 9 = _ := h9
            rw [h9]
            have kx := (hF W hB).1
            go_wp2_with (fail)
            exact CalmQ.mk rfl _ rfl (Below.refl _ _) rfl
          refine AllCalm.cons (fun W hB hd => ?_) ?_
          · go_wp2_with (fail)
            exact CalmQ.mk rfl _ rfl (Below.refl _ _) rfl
          refine AllCalm.cons (fun W hB hd => ?_) ?_
          · obtain ⟨h10, h11, -⟩ := hd
            have h10 : f 10 = _ := h10
            have h11 : f 11 = _ := h11
            rw [h10, h11]
            go_wp2_with (fail)
            exact CalmQ.mk rfl _ rfl (Below.refl _ _) rfl
          refine AllCalm.cons (fun W hB hd => ?_) ?_
          · obtain ⟨h12, -⟩ := hd
            have h12 : f 12 = _ := h12
            rw [h12]
            have kx := (hF W hB).2.2
            go_wp2_with (fail)
            exact CalmQ.mk rfl _ rfl (Below.refl _ _) rfl
          refine AllCalm.cons (fun W hB hd => ?_) ?_
          · obtain ⟨h6, h13, -⟩ := hd
            have h6 : f 6 = _ := h6
            have h13 : f 13 = _ := h13
            rw [h6, h13]
            go_wp2_with ((go_at_call 35; (with_reducible refine (hah W).mono ?_); rintro e w5 ⟨rfl, hb5⟩))
            exact CalmQ.mk rfl _ rfl hb5 rfl
          refine AllCalm.cons (fun W hB hd => ?_) ?_
          · obtain ⟨h14, -⟩ := hd
            have h14 : f 14 = _ := h14
            rw [h14]
            go_wp2_with (fail)
            exact CalmQ.mk rfl _ rfl (Below.refl _ _) rfl
          exact AllCalm.nil
        · intro W hB hT
          obtain ⟨h0, h1, h2, h3, h4, h5, h6, h7, h8, h9, h10, h11, h12, h13, h14, h15, -⟩ := hT
          have h0 : f 0 = _ := h0
          have h1 : f 1 = _ := h1
          have h2 : f 2 = _ := h2
          have h3 : f 3 = _ := h3
          have h4 : f 4 = _ := h4
          have h5 : f 5 = _ := h5
          have h6 : f 6 = _ := h6
          have h7 : f 7 = _ := h7
          have h8 : f 8 = _ := h8
          have h9 : f 9 = _ := h9
          have h10 : f 10 = _ := h10
          have h11 : f 11 = _ := h11
          have h12 : f 12 = _ := h12
          have h13 : f 13 = _ := h13
          have h14 : f 14 = _ := h14
          have h15 : f 15 = _ := h15
          rw [h0, h1, h2, h3, h4, h5, h6, h7, h8, h9, h10, h11, h12, h13, h14, h15]
          clear h0 h1 h2 h3 h4 h5 h6 h7 h8 h9 h10 h11 h12 h13 h14 h15
          skip
          have hF2 := fun V (hV : Below W.heap.size W V) => hF V (hB.trans (hV.mono hB.size))
          have hn2 := hn.below hB
          have he2 := he.trans (Eff.of (S := TS X (.slice (some ⟨g, 0, none⟩) H.length c)) hB) fun _ _ h => h
          clear hF hah hn he hB
          generalize W = Wo at *
          have hdr : Below Wo.heap.size Wo Wo.drew := (Below.refl _ _).drew
          go_wp2
          refine wp_region_any (by kernel_rfl) ?_
          change wpAny _ _ _ _ _ _ _ (World.drew _)
          refine wpAny_take (i := 9) (oi := { dst := some 35, op := Op.move (Operand.tmp 4), type := 3, pos := "timer.go:42", after := #[{ on := 25, ground := Ground.gcOnly Departure.lateStores }], guard := none }) (v := (.int .i64 ((((k : Nat) : Int) - 1) / 2))) rfl (by kernel_rfl) (by kernel_rfl) (by kernel_rfl) (fun _ _ _ h => h) (Or.inl ⟨by rfl, by intro w; go_simp⟩) ?_
          try dsimp only [Act.put]
          try simp only [List.setIfInBounds_toArray, List.set_cons_succ, List.set_cons_zero]
          apply calm_tailK 24 [9] [.is _, .is _, .is _, .is _, .is _, .is _, .is _, .is _, .is _, .is (.int .i64 ((((k : Nat) : Int) - 1) / 2)), .is _, .is _, .is _, .is _, .is _, .is _, .is _, .is _, .is _, .is _, .is _, .is _, .is _, .is _] [[], [0], [1], [2], [], [], [5], [6], [7], [], [], [10], [11], [12], [], [13, 14], [15], [], [17], [18], [19], [], [20, 21], [22]] (by kernel_rfl) (by kernel_rfl) rfl (by decide) (by intro i hi o ho; obtain rfl := List.mem_singleton.1 hi; obtain rfl := Option.some.inj ho; exact rfl)
          intro f a1 ha1
          simp only [List.take_succ_cons, List.take_zero, putL, Act.put, List.setIfInBounds_toArray, List.set_cons_succ, List.set_cons_zero] at ha1
          subst ha1
          refine ⟨?_, ?_⟩
          · refine AllCalm.cons (fun W hB hd => ?_) ?_
            · go_wp2_with (fail)
              exact CalmQ.mk rfl _ rfl (Below.refl _ _) rfl
            refine AllCalm.cons (fun W hB hd => ?_) ?_
            · obtain ⟨h0, -⟩ := hd
              have h0 : f 0 = _ := h0
              rw [h0]
              go_wp2_with (fail)
              exact CalmQ.mk rfl _ rfl (Below.refl _ _) rfl
            refine AllCalm.cons (fun W hB hd => ?_) ?_
            · obtain ⟨h1, -⟩ := hd
              have h1 : f 1 = _ := h1
              rw [h1]
              go_wp2_with (fail)
              exact CalmQ.mk rfl _ rfl (Below.refl _ _) rfl
            refine AllCalm.cons (fun W hB hd => ?_) ?_
            · obtain ⟨h2, -⟩ := hd
              have h2 : f 2 = _ := h2
              rw [h2]
              have kx := (hF2 W (hdr.trans (hB.mono hdr.size))).1
              go_wp2_with (fail)
              exact CalmQ.mk rfl _ rfl (Below.refl _ _) rfl
            refine AllCalm.cons (fun W hB hd => ?_) ?_
            · go_wp2_with (fail)
              exact CalmQ.mk rfl _ rfl (Below.refl _ _) rfl
            refine AllCalm.cons (fun W hB hd => ?_) ?_
            · go_wp2_with (fail)
              exact CalmQ.mk rfl _ rfl (Below.refl _ _) rfl
            refine AllCalm.cons (fun W hB hd => ?_) ?_
            · obtain ⟨h5, -⟩ := hd
              have h5 : f 5 = _ := h5
              rw [h5]
              go_wp2_with (fail)
              exact CalmQ.mk rfl _ rfl (Below.refl _ _) rfl
            refine AllCalm.cons (fun W hB hd => ?_) ?_
            · obtain ⟨h6, -⟩ := hd
              have h6 : f 6 = _ := h6
              rw [h6]
              go_wp2_with (fail)
              exact CalmQ.mk rfl _ rfl (Below.refl _ _) rfl
            refine AllCalm.cons (fun W hB hd => ?_) ?_
            · obtain ⟨h7, -⟩ := hd
              have h7 : f 7 = _ := h7
              rw [h7]
              have kx := (hF2 W (hdr.trans (hB.mono hdr.size))).1
              go_wp2_with (fail)
              exact CalmQ.mk rfl _ rfl (Below.refl _ _) rfl
            refine AllCalm.cons (fun W hB hd => ?_) ?_
            · go_wp2_with (fail)
              exact CalmQ.mk rfl _ rfl (Below.refl _ _) rfl
            refine AllCalm.cons (fun W hB hd => ?_) ?_
            · go_wp2_with (fail)
              exact CalmQ.mk rfl _ rfl (Below.refl _ _) rfl
            refine AllCalm.cons (fun W hB hd => ?_) ?_
            · obtain ⟨h10, -⟩ := hd
              have h10 : f 10 = _ := h10
              rw [h10]
              go_wp2_with (fail)
              exact CalmQ.mk rfl _ rfl (Below.refl _ _) rfl
            refine AllCalm.cons (fun W hB hd => ?_) ?_
            · obtain ⟨h11, -⟩ := hd
              have h11 : f 11 = _ := h11
              rw [h11]
              go_wp2_with (fail)
              exact CalmQ.mk rfl _ rfl (Below.refl _ _) rfl
            refine AllCalm.cons (fun W hB hd => ?_) ?_
            · obtain ⟨h12, -⟩ := hd
              have h12 : f 12 = _ := h12
              rw [h12]
              have kx := (hF2 W (hdr.trans (hB.mono hdr.size))).1
              go_wp2_with (fail)
              exact CalmQ.mk rfl _ rfl (Below.refl _ _) rfl
            refine AllCalm.cons (fun W hB hd => ?_) ?_
            · go_wp2_with (fail)
              exact CalmQ.mk rfl _ rfl (Below.refl _ _) rfl
            refine AllCalm.cons (fun W hB hd => ?_) ?_
            · obtain ⟨h13, h14, -⟩ := hd
              have h13 : f 13 = _ := h13
              have h14 : f 14 = _ := h14
              rw [h13, h14]
              go_wp2_with (fail)
              exact CalmQ.mk rfl _ rfl (Below.refl _ _) rfl
            refine AllCalm.cons (fun W hB hd => ?_) ?_
            · obtain ⟨h15, -⟩ := hd
              have h15 : f 15 = _ := h15
              rw [h15]
              have kx := (hF2 W (hdr.trans (hB.mono hdr.size))).2.2
              go_wp2_with (fail)
              exact CalmQ.mk rfl _ rfl (Below.refl _ _) rfl
            refine AllCalm.cons (fun W hB hd => ?_) ?_
            · go_wp2_with (fail)
              exact CalmQ.mk rfl _ rfl (Below.refl _ _) rfl
            refine AllCalm.cons (fun W hB hd => ?_) ?_
            · obtain ⟨h17, -⟩ := hd
              have h17 : f 17 = _ := h17
              rw [h17]
              go_wp2_with (fail)
              exact CalmQ.mk rfl _ rfl (Below.refl _ _) rfl
            refine AllCalm.cons (fun W hB hd => ?_) ?_
            · obtain ⟨h18, -⟩ := hd
              have h18 : f 18 = _ := h18
              rw [h18]
              go_wp2_with (fail)
              exact CalmQ.mk rfl _ rfl (Below.refl _ _) rfl
            refine AllCalm.cons (fun W hB hd => ?_) ?_
            · obtain ⟨h19, -⟩ := hd
              have h19 : f 19 = _ := h19
              rw [h19]
              have kx := (hF2 W (hdr.trans (hB.mono hdr.size))).1
              go_wp2_with (fail)
              exact CalmQ.mk rfl _ rfl (Below.refl _ _) rfl
            refine AllCalm.cons (fun W hB hd => ?_) ?_
            · go_wp2_with (fail)
              exact CalmQ.mk rfl _ rfl (Below.refl _ _) rfl
            refine AllCalm.cons (fun W hB hd => ?_) ?_
            · obtain ⟨h20, h21, -⟩ := hd
              have h20 : f 20 = _ := h20
              have h21 : f 21 = _ := h21
              rw [h20, h21]
              go_wp2_with (fail)
              exact CalmQ.mk rfl _ rfl (Below.refl _ _) rfl
            refine AllCalm.cons (fun W hB hd => ?_) ?_
            · obtain ⟨h22, -⟩ := hd
              have h22 : f 22 = _ := h22
              rw [h22]
              have kx := (hF2 W (hdr.trans (hB.mono hdr.size))).2.1
              go_wp2_with (fail)
              exact CalmQ.mk rfl _ rfl (Below.refl _ _) rfl
            exact AllCalm.nil
          · intro W hB hT
            obtain ⟨h0, h1, h2, h3, h4, h5, h6, h7, h8, h9, h10, h11, h12, h13, h14, h15, h16, h17, h18, h19, h20, h21, h22, h23, -⟩ := hT
            have h0 : f 0 = _ := h0
            have h1 : f 1 = _ := h1
            have h2 : f 2 = _ := h2
            have h3 : f 3 = _ := h3
            have h4 : f 4 = _ := h4
            have h5 : f 5 = _ := h5
            have h6 : f 6 = _ := h6
            have h7 : f 7 = _ := h7
            have h8 : f 8 = _ := h8
            have h9 : f 9 = _ := h9
            have h10 : f 10 = _ := h10
            have h11 : f 11 = _ := h11
            have h12 : f 12 = _ := h12
            have h13 : f 13 = _ := h13
            have h14 : f 14 = _ := h14
            have h15 : f 15 = _ := h15
            have h16 : f 16 = _ := h16
            have h17 : f 17 = _ := h17
            have h18 : f 18 = _ := h18
            have h19 : f 19 = _ := h19
            have h20 : f 20 = _ := h20
            have h21 : f 21 = _ := h21
            have h22 : f 22 = _ := h22
            have h23 : f 23 = _ := h23
            rw [h0, h1, h2, h3, h4, h5, h6, h7, h8, h9, h10, h11, h12, h13, h14, h15, h16, h17, h18, h19, h20, h21, h22, h23]
            clear h0 h1 h2 h3 h4 h5 h6 h7 h8 h9 h10 h11 h12 h13 h14 h15 h16 h17 h18 h19 h20 h21 h22 h23
            simp only [List.drop_succ_cons, List.drop_zero]
            skip
            have hn3 := hn2.below (hdr.trans (hB.mono hdr.size))
            have he3 := he2.trans (Eff.of (S := TS X (.slice (some ⟨g, 0, none⟩) H.length c)) (hdr.trans (hB.mono hdr.size))) fun _ _ h => h
            clear hF2 hn2 he2 hB hdr
            have hi2 : (Try.prog.info? 72).map (·.size) = some 2 := by kernel_rfl
            have hkl : k < H.length := by omega
            have hul2 : u < H.length := by omega
            go_wp2_with (first
              | (refine wpList_store_pair rfl 72 (.tmp 50) (.tmp 42) rfl B 72 H.length c g (tflat H') (hn3.rowN hlen) k hkl (.int .i64 b1) (.int .i64 b2) rfl rfl hi2 rfl rfl ?_; intro w6 ho6 he6; have hn6 := hn3.set (x := (b1, b2)) hlen hkl ho6 he6)
              | (refine wpList_store_pair rfl 72 (.tmp 51) (.tmp 49) rfl B 72 H.length c g (tflat (H'.set k (b1, b2))) (hn6.rowN (by rw [List.length_set]; exact hlen)) u hul2 (.int .i64 a1) (.int .i64 a2) rfl rfl hi2 rfl rfl ?_; intro w7 ho7 he7; have hn7 := hn6.set (x := (a1, a2)) (by rw [List.length_set]; exact hlen) hul2 ho7 he7))
            rw [HS.out _ _ rfl rfl] at hn7
            have hr := HHr.out HQ.out
            exact ⟨⟨u, swap H' k u, by omega, rfl, Lib.hid ⟨HHw.out.trans HP.out.1, hr.1, .inr hr.2⟩, by rw [HHl.out]; exact hlen, hn7, he3.trans ((he6.trans he7 fun _ _ h => h).mono fun k _ h => ts_row k h) fun _ _ h => h⟩, by simp [intOf]; omega⟩
end Go.Proofs.Ytoogmdokcndieaa
