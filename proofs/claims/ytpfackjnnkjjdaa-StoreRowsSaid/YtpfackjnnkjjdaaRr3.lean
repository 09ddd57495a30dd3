/- Package ring: Trim: contract. -/
import Derived.Test.YtpfackjnnkjjdaaRr2
namespace Go.Proofs.Ytpfackjnnkjjdaa
open Go.ChangeShapes Go.WideShapes Go.ChangeAt Go.RowKit Go.Lib
set_option linter.unusedVariables false
set_option linter.unusedSimpArgs false
namespace Rg
open Crc Dk
/-- Without its first record. -/
def RS.cut (T : RS) (l : List UInt8) (L : List (List UInt8)) : RS := { T with place := (T.place + need l.length) % T.n, used := T.used - need l.length, recs := L, first := T.first + 1 }
section
variable {w : World} {Y X : Nat} {R : Nat → Prop} {T : RS} {rv : Value} {D : List Value}
set_option maxRecDepth 100000 in
set_option maxHeartbeats 1000000 in
/-- The first record is forgotten. -/
theorem trim_one (h : RgM w Y X R T rv D) {N : Nat} (hk : T.Ok N) (hN : N ≤ 4096) (l : List UInt8) (L : List (List UInt8)) (hL : T.recs = l :: L) (hu : need l.length ≤ T.used) (hf : T.next ≤ 1000000) :
    Calls Try.prog 34 #[.pointer (some ⟨Y, 0, none⟩), .int .u64 ((T.first : Int) + 1)] w fun e w' => e = .returned (.int .i64 0) ∧ (∃ rv' D', RgM w' Y X R (T.cut l L) rv' D') ∧ Eff R w w' := by
  have hll : l.length ≤ 32768 := hk.long l (by rw [hL]; exact List.mem_cons_self)
  have hnd := need_le l.length hll
  have hn2 := hk.n2
  have hfit := hk.fit
  have hpl := hk.pl
  have hus := hk.us
  have hnx : T.next = T.first + (L.length + 1) := by unfold RS.next; rw [hL]; rfl
  have hneed := fun W => need_any l.length (by omega) W
  have hcut : T.cut l L = { T with place := (T.place + need l.length) % T.n, used := T.used - need l.length, recs := L, first := T.first + 1 } := rfl
  have e2 : ((T.place : Int) + (need l.length : Nat)).tmod (T.n : Int) = (((T.place + need l.length) % T.n : Nat) : Int) := by rw [Int.tmod_eq_emod_of_nonneg (by omega), Int.natCast_emod, Int.natCast_add]
  generalize (T.place + need l.length) % T.n = pm at *
  generalize need l.length = nd at *
  obtain ⟨ud, hud⟩ : ∃ ud, T.used - nd = ud := ⟨_, rfl⟩
  have e3 : (T.used : Int) - (nd : Int) = (ud : Int) := by omega
  rw [hud] at hcut
  have hndx : (nd : Int) ≤ 69 := by omega
  have hndu : (nd : Int) ≤ (T.used : Int) := by omega
  have husx : (T.used : Int) ≤ 4096 := by omega
  have hplx : (T.place : Int) ≤ 4096 := by omega
  have hn0 : ¬ (T.n : Int) = 0 := by omega
  have hff : (T.first : Int) ≤ 999999 := by omega
  have hz1 : ¬ (T.first : Int) + 1 < (T.first : Int) := by omega
  have hz2 : ¬ (T.next : Int) < (T.first : Int) + 1 := by omega
  have hnxt := fun W (hW : RgM W Y X R T rv D) => next_any hW hf
  have HL := Lib.hid hL
  have HC := Lib.hid hcut
  clear hu hnd hf hnx hn2 hfit hpl hus hk hN hll hcut hL
  have z4 := h.c4
  go_enter Try.func34, Try.ntmps34
  go_wp2_with (go_at_call 37; (with_reducible refine (hnxt _ h).mono ?_); rintro e w1 ⟨rfl, k1, rfl⟩)
  have h1 : RgM (w.drewN k1) Y X R T rv D := h.below (below_drewN (Below.refl _ _) _)
  have he1 : Eff R w (w.drewN k1) := Eff.of (below_drewN (Below.refl _ _) k1)
  generalize w.drewN k1 = wa at *
  go_loopw [5] (fun g wr => (RgM wr Y X R T rv D ∨ ∃ rv' D', RgM wr Y X R (T.cut l L) rv' D') ∧ Eff R w wr) (fun _ wr => T.first + 1 - (intOf ((wr.cell? ⟨Y, 4, none⟩).getD (.int .u64 0))).toNat)
  case atStart => exact ⟨.inl h1, he1⟩
  case round =>
    have hL := HL.out
    obtain ⟨hM, hE⟩ := hrel
    rcases hM with hM | ⟨rv', D', hM⟩
    · have hr := hM.row
      rw [hL] at hr
      obtain ⟨gv, ov, cv, rfl, hc1, hc2, hRv, hgl, htg, hcell⟩ := hr.at_ (by simp)
      obtain ⟨u, D0, rfl⟩ : ∃ u D0, D = u :: D0 := by
        cases D with
        | nil => have := hr.1; simp at this
        | cons u D0 => exact ⟨u, D0, rfl⟩
      have y0 := hcell 0 u rfl
      rw [Nat.add_zero] at y0
      have hdu := hM.dat 0 u l rfl (by rw [hL]; rfl)
      obtain ⟨A, c, rfl, _, _⟩ := hdu.form
      have x2 := hM.c2
      have x4 := hM.c4
      have x5 := hM.c5
      have x6 := hM.c6
      have x7 := hM.c7
      go_wp2_with (go_at_call 56; (with_reducible refine (hneed _).mono ?_); rintro e w2 ⟨rfl, rfl⟩)
      apply calm_tail 12 [.is (.pointer (some ⟨Y, 0, none⟩)), .is (.pointer (some ⟨Y, 0, none⟩)), .is (.pointer (some ⟨Y, 0, none⟩)), .is (.pointer (some ⟨Y, 5, none⟩)), .is (.int .i64 (T.place : Nat)), .is (.int .i64 (nd : Nat)), .is (.int .i64 ((T.place : Int) + (nd : Int))), .is (.pointer (some ⟨Y, 0, none⟩)), .is (.pointer (some ⟨Y, 0, none⟩)), .is (.pointer (some ⟨Y, 2, none⟩)), .is (.int .i64 (T.n : Nat)), .is (.int .i64 (pm : Nat))] [[], [], [1], [2], [3], [], [4, 5], [], [7], [8], [9], [6, 10]] (by kernel_rfl) (by kernel_rfl) (by kernel_rfl) rfl
      intro f a1 ha1
      simp only [List.take_succ_cons, List.take_zero, putL, Act.put, List.setIfInBounds_toArray, List.set_cons_succ, List.set_cons_zero] at ha1
      subst ha1
      refine ⟨?_, ?_⟩
      · refine AllCalm.cons (fun W hB hd => ?_) ?_
        · go_wp2_with (fail)
          exact CalmQ.mk rfl _ rfl (Below.refl _ _) rfl
        refine AllCalm.cons (fun W hB hd => ?_) ?_
        · go_wp2_with (fail)
          exact CalmQ.mk rfl _ rfl (Below.refl _ _) rfl
        refine AllCalm.cons (fun W hB hd => ?_) ?_
        · obtain ⟨h1, -⟩ := hd
          have h1 : f 1 = _ := h1
          rw [h1]
          go_wp2_with (fail)
          exact CalmQ.mk rfl _ rfl (Below.refl _ _) rfl
        refine AllCalm.cons (fun W hB hd => ?_) ?_
        · obtain ⟨h2, -⟩ := hd
          have h2 : f 2 = _ := h2
          rw [h2]
          go_wp2_with (fail)
          exact CalmQ.mk rfl _ rfl (Below.refl _ _) rfl
        refine AllCalm.cons (fun W hB hd => ?_) ?_
        · obtain ⟨h3, -⟩ := hd
          have h3 : f 3 = _ := h3
          rw [h3]
          have y5 := (hM.below hB).c5
          go_wp2_with (fail)
          exact CalmQ.mk rfl _ rfl (Below.refl _ _) rfl
        refine AllCalm.cons (fun W hB hd => ?_) ?_
        · go_wp2_with (fail)
          exact CalmQ.mk rfl _ rfl (Below.refl _ _) rfl
        refine AllCalm.cons (fun W hB hd => ?_) ?_
        · obtain ⟨h4, h5, -⟩ := hd
          have h4 : f 4 = _ := h4
          have h5 : f 5 = _ := h5
          rw [h4, h5]
          go_wp2_with (fail)
          exact CalmQ.mk rfl _ rfl (Below.refl _ _) rfl
        refine AllCalm.cons (fun W hB hd => ?_) ?_
        · go_wp2_with (fail)
          exact CalmQ.mk rfl _ rfl (Below.refl _ _) rfl
        refine AllCalm.cons (fun W hB hd => ?_) ?_
        · obtain ⟨h7, -⟩ := hd
          have h7 : f 7 = _ := h7
          rw [h7]
          go_wp2_with (fail)
          exact CalmQ.mk rfl _ rfl (Below.refl _ _) rfl
        refine AllCalm.cons (fun W hB hd => ?_) ?_
        · obtain ⟨h8, -⟩ := hd
          have h8 : f 8 = _ := h8
          rw [h8]
          go_wp2_with (fail)
          exact CalmQ.mk rfl _ rfl (Below.refl _ _) rfl
        refine AllCalm.cons (fun W hB hd => ?_) ?_
        · obtain ⟨h9, -⟩ := hd
          have h9 : f 9 = _ := h9
          rw [h9]
          have y2 := (hM.below hB).c2
          go_wp2_with (fail)
          exact CalmQ.mk rfl _ rfl (Below.refl _ _) rfl
        refine AllCalm.cons (fun W hB hd => ?_) ?_
        · obtain ⟨h6, h10, -⟩ := hd
          have h6 : f 6 = _ := h6
          have h10 : f 10 = _ := h10
          rw [h6, h10]
          go_wp2_with (fail)
          exact CalmQ.mk rfl _ rfl (Below.refl _ _) rfl
        exact AllCalm.nil
      · intro W hB hT
        obtain ⟨h0, h1, h2, h3, h4, h5, h6, h7, h8, h9, h10, h11, -⟩ := hT
        have h0 : f 0 = _ := h0
        have h1 : f 1 = _ := h1
        have h2 : f 2 = _ := h2
        have h3 : f 3 = _ := h3
        have h4 : f 4 = _ := h4
        have h5 : f 5 = _ := h5
        have h6 : f 6 = _ := h6
        have h7 : f 7 = _ := h7
        have h8 : f 8 = _ := h8
        have h9 : f 9 = _ := h9
        have h10 : f 10 = _ := h10
        have h11 : f 11 = _ := h11
        rw [h0, h1, h2, h3, h4, h5, h6, h7, h8, h9, h10, h11]
        clear h0 h1 h2 h3 h4 h5 h6 h7 h8 h9 h10 h11
        simp only [List.drop_succ_cons, List.drop_zero]
        have k0 := hM.below hB
        have f5 := k0.mem.free 5
        have y5 := k0.c5
        have k5 := k0.setY 5 (.int .i64 (pm : Nat)) (T' := { T with place := pm }) rfl rfl
        have y7 : (W.setCell ⟨Y, 5, none⟩ (.int .i64 (pm : Nat))).cell? ⟨Y, 7, none⟩ = some (.int .i64 (T.used : Nat)) := k5.c7
        have f7 := k5.mem.free 7
        have k7 := k5.setY 7 (.int .i64 (ud : Nat)) (T' := { T with place := pm, used := ud }) rfl rfl
        have y6 : ((W.setCell ⟨Y, 5, none⟩ (.int .i64 (pm : Nat))).setCell ⟨Y, 7, none⟩ (.int .i64 (ud : Nat))).cell? ⟨Y, 6, none⟩ = some (.slice (some ⟨gv, ov, none⟩) (L.length + 1) cv) := k7.c6
        have f6 := k7.mem.free 6
        have k6 := fun (off' d : Nat) (hd : d + 1 = cv) (ho : off' = ov + 1 ∨ d = 0 ∧ off' = ov) => by
          have hrt := k7.row
          rw [show ({ T with place := pm, used := ud } : RS).recs = l :: L from hL] at hrt
          have hrt2 := hrt.tail (by simp) L.length d (by simp) hd off' ho
          refine k7.setV (.slice (some ⟨gv, off', none⟩) L.length d) (L := L) hrt2 fun j x m hx hm => ?_
          refine k7.dat (j + 1) x m hx ?_
          show T.recs[j + 1]? = _
          rw [hL]
          exact hm
        have e0 : Eff R w ((W.setCell ⟨Y, 5, none⟩ (.int .i64 (pm : Nat))).setCell ⟨Y, 7, none⟩ (.int .i64 (ud : Nat))) := effOX (effOX (hE.trans (Eff.of (S := R) hB) fun _ _ h => h) h.ry) h.ry
        have y4 : ∀ u, (((W.setCell ⟨Y, 5, none⟩ (.int .i64 (pm : Nat))).setCell ⟨Y, 7, none⟩ (.int .i64 (ud : Nat))).setCell ⟨Y, 6, none⟩ u).cell? ⟨Y, 4, none⟩ = some (.int .u64 (T.first : Nat)) := fun u => (k7.mem.put 6 u).cell 4
        have f4 : ∀ u, (((W.setCell ⟨Y, 5, none⟩ (.int .i64 (pm : Nat))).setCell ⟨Y, 7, none⟩ (.int .i64 (ud : Nat))).setCell ⟨Y, 6, none⟩ u).frozen? ⟨Y, 4, none⟩ = false := fun u => (k7.mem.put 6 u).free 4
        generalize hw7 : (W.setCell ⟨Y, 5, none⟩ (.int .i64 (pm : Nat))).setCell ⟨Y, 7, none⟩ (.int .i64 (ud : Nat)) = w7 at *
        have fin : ∀ off' d, d + 1 = cv → (off' = ov + 1 ∨ d = 0 ∧ off' = ov) → (RgM ((w7.setCell ⟨Y, 6, none⟩ (.slice (some ⟨gv, off', none⟩) L.length d)).setCell ⟨Y, 4, none⟩ (.int .u64 ((T.first : Int) + 1))) Y X R (T.cut l L) (.slice (some ⟨gv, off', none⟩) L.length d) D0 ∧ Eff R w ((w7.setCell ⟨Y, 6, none⟩ (.slice (some ⟨gv, off', none⟩) L.length d)).setCell ⟨Y, 4, none⟩ (.int .u64 ((T.first : Int) + 1)))) := by
          intro off' d hd ho
          refine ⟨(k6 off' d hd ho).setY 4 _ ?_ ?_, effOX (effOX e0 h.ry) h.ry⟩
          · rw [HC.out]; rfl
          · rw [HC.out]
        have mea : ∀ off' d, d + 1 = cv → (off' = ov + 1 ∨ d = 0 ∧ off' = ov) → T.first + 1 - (intOf ((((w7.setCell ⟨Y, 6, none⟩ (.slice (some ⟨gv, off', none⟩) L.length d)).setCell ⟨Y, 4, none⟩ (.int .u64 ((T.first : Int) + 1))).cell? ⟨Y, 4, none⟩).getD (.int .u64 0))).toNat < T.first + 1 - (intOf ((wr.cell? ⟨Y, 4, none⟩).getD (.int .u64 0))).toNat := by
          intro off' d hd ho
          have c4 : ((w7.setCell ⟨Y, 6, none⟩ (.slice (some ⟨gv, off', none⟩) L.length d)).setCell ⟨Y, 4, none⟩ (.int .u64 ((T.first : Int) + 1))).cell? ⟨Y, 4, none⟩ = some (.int .u64 ((T.cut l L).first : Nat)) := (fin off' d hd ho).1.c4
          rw [c4, x4]
          show T.first + 1 - (((T.first + 1 : Nat) : Int)).toNat < T.first + 1 - ((T.first : Nat) : Int).toNat
          omega
        by_cases hcv : cv = 1
        · subst hcv
          go_wp2
          exact ⟨⟨.inr ⟨_, _, (fin ov 0 rfl (.inr ⟨rfl, rfl⟩)).1⟩, (fin ov 0 rfl (.inr ⟨rfl, rfl⟩)).2⟩, mea ov 0 rfl (.inr ⟨rfl, rfl⟩)⟩
        · obtain ⟨d, rfl⟩ : ∃ d, cv = d + 1 := ⟨cv - 1, by have : (l :: L).length = L.length + 1 := rfl; omega⟩
          have hd0 : ¬ d = 0 := by omega
          go_wp2
          exact ⟨⟨.inr ⟨_, _, (fin (ov + 1) d rfl (.inl rfl)).1⟩, (fin (ov + 1) d rfl (.inl rfl)).2⟩, mea (ov + 1) d rfl (.inl rfl)⟩
    · have x4 : wr.cell? ⟨Y, 4, none⟩ = some (.int .u64 ((T.first : Int) + 1)) := hM.c4
      go_wp2
      go_ret
      exact ⟨rfl, ⟨rv', D', hM⟩, hE⟩
end
end Rg
end Go.Proofs.Ytpfackjnnkjjdaa
