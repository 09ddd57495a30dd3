/- Package ring: Read: contract. -/
import Derived.Test.YtpfackjnnkjjdaaRr6
namespace Go.Proofs.Ytpfackjnnkjjdaa
open Go.ChangeShapes Go.WideShapes Go.ChangeAt Go.RowKit Go.Lib
set_option linter.unusedVariables false
set_option linter.unusedSimpArgs false
namespace Rg
open Crc Dk
section
variable {w : World} {X Y : Nat} {R : Nat → Prop} {T : RS} {rv : Value} {D : List Value}
set_option maxRecDepth 100000 in
set_option maxHeartbeats 1000000 in
theorem read_any (h : RgM w Y X R T rv D) (hf : T.next ≤ 900000) (j : Nat) (l : List UInt8) (hl : T.recs[j]? = some l) (hlen : l.length ≤ 32768) :
    Calls Try.prog 41 #[.pointer (some ⟨Y, 0, none⟩), .int .u64 ((T.first : Int) + (j : Int))] w fun e w' => ∃ v', e = .returned (.tuple #[v', .int .i64 0]) ∧ w'.ownsRow w.heap.size 5 1 v' l.length (bs l) ∧ Below w.heap.size w w' := by
  obtain ⟨i0, hi, hz0, hz1, hz2⟩ := info_parts (show (Try.prog.info? 5).map (fun i => (i.zero, i.size, i.bytes)) = some (some (.int .u8 0), 1, 1) by kernel_rfl)
  have hjl := (List.getElem?_eq_some_iff.1 hl).1
  have hrow := h.row
  obtain ⟨n, hn⟩ : ∃ n, T.recs.length = n := ⟨_, rfl⟩
  rw [hn] at hrow hjl
  obtain ⟨g, off, c, rfl, hc1, hc2, hRg, hgl, htg, hcell⟩ := hrow.at_ (by omega)
  obtain ⟨u, hu⟩ : ∃ u, D[j]? = some u := ⟨_, List.getElem?_eq_getElem (by rw [hrow.1]; exact hjl)⟩
  have hcj := hcell j u hu
  have hdu := h.dat j u l hu hl
  obtain ⟨A, cu, rfl, _, _⟩ := hdu.form
  have hsu := hdu.sl
  have x4 := h.c4
  have x6 := h.c6
  have hnx := next_any h (by omega)
  have hfn : T.first + n ≤ 900000 := by unfold RS.next at hf; omega
  have htn : T.next = T.first + n := by unfold RS.next; rw [hn]
  rw [htn] at hnx
  have f1 : ¬ (T.first : Int) + (j : Int) < (T.first : Int) := by omega
  have f2 : ¬ ((T.first + n : Nat) : Int) ≤ (T.first : Int) + (j : Int) := by omega
  have f3 : (j : Int) < (n : Int) := by omega
  have f4 : (T.first : Int) ≤ 900000 := by omega
  have f5 : (T.first : Int) + (j : Int) - (T.first : Int) = (j : Int) := by omega
  have f6 : (j : Int) ≤ 900000 := by omega
  have HLN := Lib.hid hlen
  clear hf hfn htn hlen
  go_enter Try.func41, Try.ntmps41
  go_wp2_with (go_at_call 37; (with_reducible refine hnx.mono ?_); rintro e w1 ⟨rfl, k1, rfl⟩)
  have hb1 : Below w.heap.size w (w.drewN k1) := below_drewN (Below.refl _ _) _
  generalize w.drewN k1 = wa at *
  apply calm_tail 13 [.is (.pointer (some ⟨Y, 0, none⟩)), .is (.pointer (some ⟨Y, 0, none⟩)), .is (.pointer (some ⟨Y, 6, none⟩)), .is (.slice (some ⟨g, off, none⟩) n c), .is (.int .u64 ((T.first : Int) + (j : Int))), .is (.pointer (some ⟨Y, 0, none⟩)), .is (.pointer (some ⟨Y, 0, none⟩)), .is (.pointer (some ⟨Y, 4, none⟩)), .is (.int .u64 (T.first : Nat)), .is (.int .u64 (j : Nat)), .is (.pointer (some ⟨g, off + j, none⟩)), .is (.slice A l.length cu), .of (fun x W => W.ownsRow wa.heap.size 5 1 x l.length (bs l)) (fun x W W' hb hx => owns_below hx hb)] [[], [0], [1], [2], [], [], [5], [6], [7], [4, 8], [3, 9], [10], [11]] (by kernel_rfl) (by kernel_rfl) (by kernel_rfl) rfl
  intro f a1 ha1
  simp only [List.take_succ_cons, List.take_zero, putL, Act.put, List.setIfInBounds_toArray, List.set_cons_succ, List.set_cons_zero] at ha1
  subst ha1
  refine ⟨?_, ?_⟩
  · refine AllCalm.cons (fun W hB hd => ?_) ?_
    · go_wp2_with (fail)
      exact CalmQ.mk rfl _ rfl (Below.refl _ _) rfl
    refine AllCalm.cons (fun W hB hd => ?_) ?_
    · obtain ⟨h0, -⟩ := hd
      have h0 : f 0 = _ := h0
      rw [h0]
      go_wp2_with (fail)
      exact CalmQ.mk rfl _ rfl (Below.refl _ _) rfl
    refine AllCalm.cons (fun W hB hd => ?_) ?_
    · obtain ⟨h1, -⟩ := hd
      have h1 : f 1 = _ := h1
      rw [h1]
      go_wp2_with (fail)
      exact CalmQ.mk rfl _ rfl (Below.refl _ _) rfl
    refine AllCalm.cons (fun W hB hd => ?_) ?_
    · obtain ⟨h2, -⟩ := hd
      have h2 : f 2 = _ := h2
      rw [h2]
      have y6 := (h.below (hb1.trans (hB.mono hb1.size))).c6
      go_wp2_with (fail)
      exact CalmQ.mk rfl _ rfl (Below.refl _ _) rfl
    refine AllCalm.cons (fun W hB hd => ?_) ?_
    · go_wp2_with (fail)
      exact CalmQ.mk rfl _ rfl (Below.refl _ _) rfl
    refine AllCalm.cons (fun W hB hd => ?_) ?_
    · go_wp2_with (fail)
      exact CalmQ.mk rfl _ rfl (Below.refl _ _) rfl
    refine AllCalm.cons (fun W hB hd => ?_) ?_
    · obtain ⟨h5, -⟩ := hd
      have h5 : f 5 = _ := h5
      rw [h5]
      go_wp2_with (fail)
      exact CalmQ.mk rfl _ rfl (Below.refl _ _) rfl
    refine AllCalm.cons (fun W hB hd => ?_) ?_
    · obtain ⟨h6, -⟩ := hd
      have h6 : f 6 = _ := h6
      rw [h6]
      go_wp2_with (fail)
      exact CalmQ.mk rfl _ rfl (Below.refl _ _) rfl
    refine AllCalm.cons (fun W hB hd => ?_) ?_
    · obtain ⟨h7, -⟩ := hd
      have h7 : f 7 = _ := h7
      rw [h7]
      have y4 := (h.below (hb1.trans (hB.mono hb1.size))).c4
      go_wp2_with (fail)
      exact CalmQ.mk rfl _ rfl (Below.refl _ _) rfl
    refine AllCalm.cons (fun W hB hd => ?_) ?_
    · obtain ⟨h4, h8, -⟩ := hd
      have h4 : f 4 = _ := h4
      have h8 : f 8 = _ := h8
      rw [h4, h8]
      go_wp2_with (fail)
      exact CalmQ.mk rfl _ rfl (Below.refl _ _) rfl
    refine AllCalm.cons (fun W hB hd => ?_) ?_
    · obtain ⟨h3, h9, -⟩ := hd
      have h3 : f 3 = _ := h3
      have h9 : f 9 = _ := h9
      rw [h3, h9]
      go_wp2_with (fail)
      exact CalmQ.mk rfl _ rfl (Below.refl _ _) rfl
    refine AllCalm.cons (fun W hB hd => ?_) ?_
    · obtain ⟨h10, -⟩ := hd
      have h10 : f 10 = _ := h10
      rw [h10]
      have yj := ((hb1.trans (hB.mono hb1.size)).cell (p := ⟨g, off + j, none⟩) hgl).trans hcj
      go_wp2_with (fail)
      exact CalmQ.mk rfl _ rfl (Below.refl _ _) rfl
    refine AllCalm.cons (fun W hB hd => ?_) ?_
    · obtain ⟨h11, -⟩ := hd
      have h11 : f 11 = _ := h11
      rw [h11]
      have hsW := (hsu.below (hb1.trans (hB.mono hb1.size))); have hl4 : l.length ≤ 32768 := HLN.out
      go_wp2_with ((at_builtin; (refine wpList_append_sl _ rfl (.const (.slice none 0 0)) (.tmp 29) _ rfl wa.heap.size 5 i0 _ Try.underlying34 hi hz0 hz1 (by omega) rfl (.slice none 0 0) 0 [] rfl (World.ownsRow_nil _ _ _ _) _ (.slice A l.length cu) l.length (bs l) rfl hsW bs_one (by omega) hB.size ?_); intro v6 w6 ho6 hg6 hat6))
      have ho7 : w6.ownsRow wa.heap.size 5 1 v6 l.length (bs l) := (by simpa using ho6); exact CalmQ.mk rfl _ rfl ((Below.refl _ W).grown hg6 (Nat.le_refl _) (fun k hk => by cases hk)) ho7
    exact AllCalm.nil
  · intro W hB hT
    obtain ⟨h0, h1, h2, h3, h4, h5, h6, h7, h8, h9, h10, h11, h12, -⟩ := hT
    have h0 : f 0 = _ := h0
    have h1 : f 1 = _ := h1
    have h2 : f 2 = _ := h2
    have h3 : f 3 = _ := h3
    have h4 : f 4 = _ := h4
    have h5 : f 5 = _ := h5
    have h6 : f 6 = _ := h6
    have h7 : f 7 = _ := h7
    have h8 : f 8 = _ := h8
    have h9 : f 9 = _ := h9
    have h10 : f 10 = _ := h10
    have h11 : f 11 = _ := h11
    rw [h0, h1, h2, h3, h4, h5, h6, h7, h8, h9, h10, h11]
    clear h0 h1 h2 h3 h4 h5 h6 h7 h8 h9 h10 h11
    simp only [List.drop_succ_cons, List.drop_zero]
    go_wp2
    go_ret2
    exact ⟨_, rfl, owns_mono h12 hb1.size, hb1.trans (hB.mono hb1.size)⟩
end
end Rg
end Go.Proofs.Ytpfackjnnkjjdaa
