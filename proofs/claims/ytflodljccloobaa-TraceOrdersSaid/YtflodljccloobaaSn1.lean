/- Package sense: what lays a number into bytes; blank: contracts. -/
import Derived.Test.YtflodljccloobaaPutB
import Derived.Test.YtflodljccloobaaKeep
import Derived.Test.YtflodljccloobaaCalmT
namespace Go.Proofs.Ytflodljccloobaa
open Go.ChangeShapes Go.WideShapes Go.ChangeAt Go.RowKit
set_option linter.unusedVariables false
/-- Bytes L in block G, whose slice lies in block P. -/
structure BufAt (w : World) (P G N : Nat) (L : List UInt8) : Prop where
  p : w.heap[P]? = some (.cells #[.slice (some ⟨G, 0, none⟩) N N] 23 (0, 0))
  g : w.heap[G]? = some (.cells (bs L).toArray 5 (0, 0))
  l : L.length = N
  ne : P ≠ G
  n : N ≤ 1000
theorem BufAt.on {w w' : World} {P G N : Nat} {L : List UInt8} (h : BufAt w P G N L) (hb : Below w.heap.size w w') : BufAt w' P G N L :=
  ⟨(hb.block _ (Array.getElem?_eq_some_iff.1 h.p).1).trans h.p, (hb.block _ (Array.getElem?_eq_some_iff.1 h.g).1).trans h.g, h.l, h.ne, h.n⟩
theorem BufAt.sl {w : World} {P G N : Nat} {L : List UInt8} (h : BufAt w P G N L) : Sl w w.heap.size (.slice (some ⟨G, 0, none⟩) N N) N (bs L) := sl_of_row h.g (by simp [bs, h.l]) (by have := h.n; unfold maxLen; omega)
set_option maxHeartbeats 1000000 in
theorem lay_any (P G N : Nat) (L : List UInt8) (T M : Int) (at_ m v : Nat) (hT : T = at_) (hM : M = m) (W0 : World) (hb : BufAt W0 P G N L) (hm : 1 ≤ m ∧ m ≤ 8) (hs : at_ + m ≤ N) (hv : v < 18446744073709551616) (V : Int) (hV : V = v) :
    Calls Try.prog 65 #[.int .i64 T, .int .u64 V, .int .i64 M, .pointer (some ⟨P, 0, none⟩)] W0 fun e w' => e = .returned (.tuple #[]) ∧ BufAt w' P G N (splice L at_ (be v m)) ∧ Keeps G W0 w' := by
  subst hT; subst hM; subst hV
  have hpc : W0.cell? ⟨P, 0, none⟩ = some (.slice (some ⟨G, 0, none⟩) N N) := cell_of_row W0 P 0 _ _ (0, 0) hb.p
  have hPl : P < W0.heap.size := (Array.getElem?_eq_some_iff.1 hb.p).1
  have hGl : G < W0.heap.size := (Array.getElem?_eq_some_iff.1 hb.g).1
  have hpx : ∀ W, Calls Try.prog 56 #[.slice none 0 0, .int .u64 v, .int .i64 m] W fun e w' => ∃ v', e = .returned v' ∧ Sl w' w'.heap.size v' m (bs (be v m)) ∧ Below W.heap.size W w' := by
    intro W
    have h := put_b (.slice none 0 0) [] v m v m rfl rfl W Sl.nil_ hv (by simp) hm
    rw [List.nil_append, be_len] at h
    exact h
  have hai : (at_ : Int) ≤ N := by omega
  have hai2 : (at_ : Int) < N := by omega
  have hN := hb.n
  have hl6 : (bs (be v m)).length = m := by simp [bs]
  have hlN : (bs L).length = N := by simp [bs, hb.l]
  obtain ⟨i0, hi, hz0, hz1, hz2⟩ := info_parts (show (Try.prog.info? 5).map (fun i => (i.zero, i.size, i.bytes)) = some (some (.int .u8 0), 1, 1) by kernel_rfl)
  go_enter Try.func65, Try.ntmps65
  go_wp2_with fail
  apply calm_tail 6 [.is _, .is _, .is _, .is _, .is _, .sl m (bs (be v m))] [[], [], [0, 1], [], [], [3, 4]] (by kernel_rfl) (by kernel_rfl) (by kernel_rfl) rfl
  intro f a1 ha1
  simp only [List.take_succ_cons, List.take_zero, putL, Act.put, List.setIfInBounds_toArray, List.set_cons_succ, List.set_cons_zero] at ha1
  subst ha1
  refine ⟨?_, ?_⟩
  · refine AllCalm.cons (fun W hB hd => ?_) ?_
    · have q := (hB.cell (p := ⟨P, 0, none⟩) hPl).trans hpc
      go_wp2_with (fail)
      exact CalmQ.mk rfl _ rfl (Below.refl _ _) rfl
    refine AllCalm.cons (fun W hB hd => ?_) ?_
    · go_wp2_with (fail)
      exact CalmQ.mk rfl _ rfl (Below.refl _ _) rfl
    refine AllCalm.cons (fun W hB hd => ?_) ?_
    · obtain ⟨h0, h1, -⟩ := hd
      have h0 : f 0 = _ := h0
      have h1 : f 1 = _ := h1
      rw [h0, h1]
      go_wp2_with (fail)
      exact CalmQ.mk rfl _ rfl (Below.refl _ _) rfl
    refine AllCalm.cons (fun W hB hd => ?_) ?_
    · go_wp2_with (fail)
      exact CalmQ.mk rfl _ rfl (Below.refl _ _) rfl
    refine AllCalm.cons (fun W hB hd => ?_) ?_
    · go_wp2_with (fail)
      exact CalmQ.mk rfl _ rfl (Below.refl _ _) rfl
    refine AllCalm.cons (fun W hB hd => ?_) ?_
    · obtain ⟨h3, h4, -⟩ := hd
      have h3 : f 3 = _ := h3
      have h4 : f 4 = _ := h4
      rw [h3, h4]
      go_wp2_with ((go_at_call 56; with_reducible refine (hpx W).mono ?_; rintro e w6 ⟨v6, rfl, hs6, hb6⟩))
      exact CalmQ.mk rfl _ rfl hb6 hs6
    exact AllCalm.nil
  · intro W hB hT
    obtain ⟨h0, h1, h2, h3, h4, h5, -⟩ := hT
    have h0 : f 0 = _ := h0
    have h1 : f 1 = _ := h1
    have h2 : f 2 = _ := h2
    have h3 : f 3 = _ := h3
    have h4 : f 4 = _ := h4
    have h5 : Sl W W.heap.size (f 5) _ _ := h5
    rw [h0, h1, h2, h3, h4]
    clear h0 h1 h2 h3 h4
    simp only [List.drop_succ_cons, List.drop_zero]
    obtain ⟨A6, c6, e6, _, _⟩ := h5.form
    rw [e6] at h5 ⊢
    obtain ⟨b6, o6, rfl, _, hc6⟩ := h5.at_ (by omega)
    have hbW := hb.on hB
    have hcp := fun ty => run_copy_row (P := Try.prog) W 23 23 ty 5 G at_ (N - at_) (N - at_) ⟨b6, o6, none⟩ m c6 (bs L).toArray 5 (bs (be v m)) Try.underlying23 (by rw [hi]; simp [hz1]) hbW.g (by rw [hl6]; exact (Nat.min_eq_left (by omega)).symm) (fun i u hu => by rw [add_plain]; exact hc6 i u hu) (by rw [hl6]; simp only [List.size_toArray]; rw [hlN]; omega) bs_one
    go_wp2_with fail
    have hB2 := hbW
    refine bodyPost_end (v := .tuple #[]) (by simp [results, Try.results65, go_sem]) rfl ⟨rfl, ⟨?_, ?_, ?_, hb.ne, hb.n⟩, (Keeps.of hB).setRow _⟩
    · rw [setRow_other W G P _ hb.ne]
      exact hbW.p
    · rw [setRow_heap W G _ _ _ _ hbW.g]
      simp [splice, bs, List.map_take, List.map_drop]
    · rw [length_splice _ _ _ (by rw [be_len, hb.l]; omega)]
      exact hb.l
theorem blank_any (n : Nat) (hn : n ≤ 1000) (hn1 : 1 ≤ n) (w : World) :
    Calls Try.prog 55 #[.int .i64 n] w fun e w' => ∃ P G, e = .returned (.tuple #[.slice (some ⟨G, 0, none⟩) n n, .func (.func 65) #[] #[.pointer (some ⟨P, 0, none⟩)]]) ∧ BufAt w' P G n (be 0 n) ∧ w.heap.size ≤ G ∧ w.heap.size ≤ P ∧ Below w.heap.size w w' := by
  obtain ⟨i0, hi, hz0, hz1, hz2⟩ := info_parts (show (Try.prog.info? 5).map (fun i => (i.zero, i.size, i.bytes)) = some (some (.int .u8 0), 1, 1) by kernel_rfl)
  go_enter Try.func55, Try.ntmps55
  go_wp2_with (at_make; refine wpList_make_full _ rfl (.tmp 5) (.tmp 5) 23 rfl w.heap.size 5 i0 _ 1 Try.underlying23 hi hz0 hz1 .i64 .i64 _ _ n rfl rfl rfl rfl (by rw [hz2]; omega) (by unfold maxLen; omega) (Nat.le_refl _) ?_; intro w2 hown2 hg2)
  have hrow := row_of_own hown2 rfl
  have hb2 : Below w.heap.size w w2 := (Below.refl _ w).grown hg2 (Nat.le_refl _) (fun k hk => by cases hk)
  have hlt : w.heap.size < w2.heap.size := (Array.getElem?_eq_some_iff.1 hrow).1
  have e0 : (madeCells (Value.int .u8 0).cells (n * 1)).toList = bs (be 0 n) := by rw [made_bytes, be_zero]; simp [bs]
  rw [e0] at hrow
  refine bodyPost_ret (v := .tuple #[.slice (some ⟨w.heap.size, 0, none⟩) n n, .func (.func 65) #[] #[.pointer (some ⟨w2.heap.size, 0, none⟩)]]) (by simp [results, Try.results55, go_sem]) rfl ⟨_, _, rfl, ⟨heap_alloc_new w2 _, ?_, by simp, by omega, hn⟩, Nat.le_refl _, Nat.le_of_lt hlt, hb2.alloc (Nat.le_of_lt hlt) _⟩
  exact (Below.heap_alloc w2 _ _ hlt).trans hrow
end Go.Proofs.Ytflodljccloobaa
