/- Package disk: Flush (not armed), New: contracts. -/
import Derived.Test.YtpfackjnnkjjdaaDk5
namespace Go.Proofs.Ytpfackjnnkjjdaa
open Go.ChangeShapes Go.WideShapes Go.ChangeAt Go.RowKit Go.Lib
set_option linter.unusedVariables false
set_option linter.unusedSimpArgs false
namespace Dk
/-- What lasts, when the first j of the touched ones are flushed. -/
def flsh (L : List (List UInt8)) (W : List (List (List UInt8))) (P : List Nat) : Nat → List (List UInt8)
  | 0 => L
  | j + 1 => (flsh L W P j).set (P[j]?.getD 0) ((W[P[j]?.getD 0]?.getD []).getLast?.getD [])
theorem flsh_len (L : List (List UInt8)) (W : List (List (List UInt8))) (P : List Nat) (j : Nat) : (flsh L W P j).length = L.length := by
  induction j with
  | zero => rfl
  | succ j ih => unfold flsh; rw [List.length_set, ih]
theorem flsh_next {L : List (List UInt8)} {W : List (List (List UInt8))} {P : List Nat} {j n : Nat} {Ls : List (List UInt8)} {l : List UInt8} (hP : P[j]? = some n) (hW : W[n]? = some Ls) (hl : Ls[Ls.length - 1]? = some l) : flsh L W P (j + 1) = (flsh L W P j).set n l := by
  simp only [flsh, hP, Option.getD_some, hW, List.getLast?_eq_getElem?, hl]
/-- The state that a Flush leaves. -/
def DS.flushed (S : DS) : DS := { S with last := flsh S.last S.wts S.tch S.tch.length, wts := wiped S.wts S.tch, tch := [], wtg := 0, calls := S.calls + 1 }
section
variable {w : World} {X : Nat} {O : Nat → Prop} {S : DS} {V : DV}
set_option maxRecDepth 100000 in
set_option maxHeartbeats 2000000 in
theorem flush_g (h : DiskM w X O S V) (hG : Good S) (hw : S.wtg ≤ 1000000) (hc : S.calls ≤ 4611686018427387904) {wp : World} (hab : Calls Try.prog 43 #[.pointer (some ⟨X, 0, none⟩)] wp fun e w' => e = .returned (.int .i64 0) ∧ wp = w') (hgo : Calls Try.prog 45 #[.pointer (some ⟨X, 0, none⟩)] wp fun e w' => e = .returned (.bool false) ∧ w = w') :
    Calls Try.prog 49 #[.pointer (some ⟨X, 0, none⟩)] wp fun e w' => e = .returned (.int .i64 0) ∧ Has w w' X O S.flushed := by
  have x2 : w.cell? ⟨X, 2, none⟩ = some V.tv := h.mem.cell 2
  obtain ⟨At, ct, htv, ht1, ht2⟩ := h.tch.form
  have htl : S.tch.length ≤ 1000000 := by have := hG.tcnt; omega
  rw [htv] at x2
  have hPin := hG.inT
  have hNf : S.last.length ≤ 4096 := hG.few
  have hwn : ∀ (n : Nat) (L : List (List UInt8)), S.wts[n]? = some L → L.length ≤ 1000000 := fun n L hL => Nat.le_trans (hG.cnt n L hL) hw
  have htx : (S.tch.length : Int) ≤ 1000000 := by omega
  unfold DS.flushed
  have HG := Lib.hid hG
  clear hG
  go_enter Try.func49, Try.ntmps49
  go_wp2_with (first
    | (go_at_call 43; (with_reducible refine hab.mono ?_); rintro e w1 ⟨rfl, rfl⟩)
    | (go_at_call 45; (with_reducible refine hgo.mono ?_); rintro e w1 ⟨rfl, rfl⟩))
  go_loopw [19] (fun i wr => ∃ j : Nat, j ≤ S.tch.length ∧ i = .int .i64 j ∧ ∃ V', V'.tv = V.tv ∧ DiskM wr X O { S with last := flsh S.last S.wts S.tch j } V' ∧ Eff O w wr) (fun i _ => S.tch.length - (intOf i).toNat)
  case atStart => exact ⟨0, by omega, rfl, V, rfl, h, Eff.refl _ _⟩
  case round =>
    obtain ⟨j, hj, rfl, V', ht', hr, he⟩ := hrel
    by_cases hjl : j < S.tch.length
    · obtain ⟨n, hn⟩ : ∃ n, S.tch[j]? = some n := ⟨_, List.getElem?_eq_getElem (by omega)⟩
      have hnT : n ∈ S.tch := List.mem_of_getElem? hn
      have hnN : n < S.last.length := hPin n hnT
      obtain ⟨Ls, hLs⟩ : ∃ L, S.wts[n]? = some L := ⟨_, List.getElem?_eq_getElem (by have := h.lens; omega)⟩
      have hLne := (HG.out.has n Ls hLs).1 hnT
      have hLpos : 0 < Ls.length := List.length_pos_iff.2 hLne
      have hLl := hwn n Ls hLs
      obtain ⟨g, c', hg, _, _, _, _, hcell, _⟩ := hr.tch.at_ (by show 0 < S.tch.length; omega)
      have hg' : V'.tv = .slice (some ⟨g, 0, none⟩) S.tch.length c' := hg
      rw [ht', htv] at hg'
      simp only [Value.slice.injEq] at hg'
      obtain ⟨rfl, -, rfl⟩ := hg'
      have hy := hcell j (.int .i64 (n : Nat)) (by simp [ints, hn])
      have x1 : wr.cell? ⟨X, 1, none⟩ = some V'.wv := hr.mem.cell 1
      obtain ⟨gw, cw, hgw, _, _, hOw, _, hwc, _⟩ := hr.waits.row.at_ (by show 0 < S.wts.length; have := h.lens; omega)
      have hgw' : V'.wv = .slice (some ⟨gw, 0, none⟩) S.wts.length cw := hgw
      rw [h.lens] at hgw'
      rw [hgw'] at x1
      obtain ⟨v0, hv0⟩ : ∃ v, V'.wl[n]? = some v := ⟨_, List.getElem?_eq_getElem (by have := hr.waits.row.len; have : V'.wl.length = S.wts.length := this; have := h.lens; omega)⟩
      obtain ⟨D, hb0⟩ := hr.waits.one n v0 Ls hv0 hLs
      have y1 := hwc n _ hv0
      obtain ⟨g0, c0, hgA, hc3, hc4, _, hg0l, hdc, _⟩ := hb0.row.at_ hLpos
      subst hgA
      obtain ⟨u, hu, hdu⟩ := hb0.get (j := Ls.length - 1) (by omega)
      have hyu := hdc _ u hu
      have hql : Ls[Ls.length - 1]? = some (Ls[Ls.length - 1]'(by omega)) := List.getElem?_eq_getElem (by omega)
      generalize (Ls[Ls.length - 1]'(by omega)) = l at *
      obtain ⟨A3, c3, rfl, _, _⟩ := hdu.row.form
      have x0 : wr.cell? ⟨X, 0, none⟩ = some V'.lv := hr.mem.cell 0
      obtain ⟨gl, cl, hgl, _, _, hOl, _, hlc, hlf⟩ := hr.last.row.at_ (by show 0 < (flsh S.last S.wts S.tch j).length; rw [flsh_len]; omega)
      have hgl' : V'.lv = .slice (some ⟨gl, 0, none⟩) S.last.length cl := by rw [hgl]; show Value.slice _ (flsh S.last S.wts S.tch j).length _ = _; rw [flsh_len]
      rw [hgl'] at x0
      have f0 := hlf n
      have y0 := hlc n _ (List.getElem?_eq_getElem (l := V'.ll) (i := n) (by have := hr.last.row.len; have : V'.ll.length = (flsh S.last S.wts S.tch j).length := this; rw [flsh_len] at this; omega))
      have hjx : (j : Int) < (S.tch.length : Int) := by omega
      have hnx : (n : Int) < (S.last.length : Int) := by omega
      have hLx : (Ls.length : Int) ≤ 1000000 := by omega
      obtain ⟨q, hq⟩ : ∃ q, Ls.length - 1 = q := ⟨_, rfl⟩
      have e7 : (Ls.length : Int) - 1 = (q : Int) := by omega
      have hqx : (q : Int) < (Ls.length : Int) := by omega
      have hstep := fun (W : World) (hW : Below wr.heap.size wr W) => (flsh_next (L := S.last) hn hLs hql ▸ (hr.below hW).setL (j := n) hgl' (show (flsh S.last S.wts S.tch j).length = S.last.length from flsh_len ..) hnN (hdu.effO (Eff.of (S := fun _ => False) hW) fun _ _ _ hf => hf) : DiskM (W.setCell ⟨gl, n, none⟩ (.slice A3 l.length c3)) X O { S with last := flsh S.last S.wts S.tch (j + 1) } _)
      rw [hq] at hyu
      have hx0 : ∀ W, Below wr.heap.size wr W → W.cell? ⟨X, 0, none⟩ = some (.slice (some ⟨gl, 0, none⟩) S.last.length cl) ∧ W.frozen? ⟨gl, n, none⟩ = false ∧ W.cell? ⟨gl, n, none⟩ = some (V'.ll[n]'(by have := hr.last.row.len; have : V'.ll.length = (flsh S.last S.wts S.tch j).length := this; rw [flsh_len] at this; omega)) := by
        intro W hW
        have hltl := hr.last.row.lt (k := gl) (by show Value.ownBlock V'.lv = _; rw [hgl']; rfl)
        exact ⟨(hW.cell (p := ⟨X, 0, none⟩) hr.mem.lt).trans x0, (World.frozen?_of_block (hW.block gl hltl)).trans f0, (hW.cell (p := ⟨gl, n, none⟩) hltl).trans y0⟩
      have hyu2 : ∀ W, Below wr.heap.size wr W → W.cell? ⟨g0, q, none⟩ = some (.slice A3 l.length c3) := fun W hW => (hW.cell (p := ⟨g0, q, none⟩) hg0l).trans hyu
      have hee : ∀ W (u : Value), Below wr.heap.size wr W → Eff O w (W.setCell ⟨gl, n, none⟩ u) := fun W u hW => effOX (he.trans (Eff.of hW) fun _ _ h => h) hOl
      generalize (V'.ll[n]'(by have := hr.last.row.len; have : V'.ll.length = (flsh S.last S.wts S.tch j).length := this; rw [flsh_len] at this; omega)) = uold at *
      have HE7 := Lib.hid e7
      clear e7 hq hcell hwc hlc hlf hdc hwn hql
      go_wp2
      apply calm_tail 11 [.is (.pointer (some ⟨X, 0, none⟩)), .is (.pointer (some ⟨X, 0, none⟩)), .is (.pointer (some ⟨X, 0, none⟩)), .is (.slice (some ⟨gl, 0, none⟩) S.last.length cl), .is (.int .i64 (n : Nat)), .is (.slice (some ⟨g0, 0, none⟩) Ls.length c0), .is (.slice (some ⟨g0, 0, none⟩) Ls.length c0), .is (.int .i64 (Ls.length : Nat)), .is (.int .i64 (q : Nat)), .is (.pointer (some ⟨g0, q, none⟩)), .is (.slice A3 l.length c3)] [[], [0], [1], [2], [], [], [], [6], [7], [5, 8], [9]] (by kernel_rfl) (by kernel_rfl) (by kernel_rfl) rfl
      intro f a1 ha1
      simp only [List.take_succ_cons, List.take_zero, putL, Act.put, List.setIfInBounds_toArray, List.set_cons_succ, List.set_cons_zero] at ha1
      subst ha1
      refine ⟨?_, ?_⟩
      · refine AllCalm.cons (fun W hB hd => ?_) ?_
        · go_wp2_with (fail)
          exact CalmQ.mk rfl _ rfl (Below.refl _ _) rfl
        refine AllCalm.cons (fun W hB hd => ?_) ?_
        · obtain ⟨h0, -⟩ := hd
          have h0 : f 0 = _ := h0
          rw [h0]
          go_wp2_with (fail)
          exact CalmQ.mk rfl _ rfl (Below.refl _ _) rfl
        refine AllCalm.cons (fun W hB hd => ?_) ?_
        · obtain ⟨h1, -⟩ := hd
          have h1 : f 1 = _ := h1
          rw [h1]
          go_wp2_with (fail)
          exact CalmQ.mk rfl _ rfl (Below.refl _ _) rfl
        refine AllCalm.cons (fun W hB hd => ?_) ?_
        · obtain ⟨h2, -⟩ := hd
          have h2 : f 2 = _ := h2
          rw [h2]
          have z1 := (hx0 W hB).1
          go_wp2_with (fail)
          exact CalmQ.mk rfl _ rfl (Below.refl _ _) rfl
        refine AllCalm.cons (fun W hB hd => ?_) ?_
        · go_wp2_with (fail)
          exact CalmQ.mk rfl _ rfl (Below.refl _ _) rfl
        refine AllCalm.cons (fun W hB hd => ?_) ?_
        · go_wp2_with (fail)
          exact CalmQ.mk rfl _ rfl (Below.refl _ _) rfl
        refine AllCalm.cons (fun W hB hd => ?_) ?_
        · go_wp2_with (fail)
          exact CalmQ.mk rfl _ rfl (Below.refl _ _) rfl
        refine AllCalm.cons (fun W hB hd => ?_) ?_
        · obtain ⟨h6, -⟩ := hd
          have h6 : f 6 = _ := h6
          rw [h6]
          go_wp2_with (fail)
          exact CalmQ.mk rfl _ rfl (Below.refl _ _) rfl
        refine AllCalm.cons (fun W hB hd => ?_) ?_
        · obtain ⟨h7, -⟩ := hd
          have h7 : f 7 = _ := h7
          rw [h7]
          have e7 := HE7.out
          go_wp2_with (fail)
          exact CalmQ.mk rfl _ rfl (Below.refl _ _) rfl
        refine AllCalm.cons (fun W hB hd => ?_) ?_
        · obtain ⟨h5, h8, -⟩ := hd
          have h5 : f 5 = _ := h5
          have h8 : f 8 = _ := h8
          rw [h5, h8]
          go_wp2_with (fail)
          exact CalmQ.mk rfl _ rfl (Below.refl _ _) rfl
        refine AllCalm.cons (fun W hB hd => ?_) ?_
        · obtain ⟨h9, -⟩ := hd
          have h9 : f 9 = _ := h9
          rw [h9]
          have z1 := hyu2 W hB
          go_wp2_with (fail)
          exact CalmQ.mk rfl _ rfl (Below.refl _ _) rfl
        exact AllCalm.nil
      · intro W hB hT
        obtain ⟨h0, h1, h2, h3, h4, h5, h6, h7, h8, h9, h10, -⟩ := hT
        have h0 : f 0 = _ := h0
        have h1 : f 1 = _ := h1
        have h2 : f 2 = _ := h2
        have h3 : f 3 = _ := h3
        have h4 : f 4 = _ := h4
        have h5 : f 5 = _ := h5
        have h6 : f 6 = _ := h6
        have h7 : f 7 = _ := h7
        have h8 : f 8 = _ := h8
        have h9 : f 9 = _ := h9
        have h10 : f 10 = _ := h10
        rw [h0, h1, h2, h3, h4, h5, h6, h7, h8, h9, h10]
        clear h0 h1 h2 h3 h4 h5 h6 h7 h8 h9 h10
        simp only [List.drop_succ_cons, List.drop_zero]
        obtain ⟨z0, z1, z2⟩ := hx0 W hB
        have e3 := hee W (.slice A3 l.length c3) hB
        have k3 := hstep W hB
        go_wp2
        exact ⟨⟨j + 1, by omega, by go_num, { V' with ll := V'.ll.set n (.slice A3 l.length c3) }, ht', k3, e3⟩, by simp [intOf]; omega⟩
    · obtain rfl : j = S.tch.length := by omega
      have hfg := forget_any hr (by intro n hn; show n < (flsh S.last S.wts S.tch _).length; rw [flsh_len]; exact hPin n hn) (by show (flsh S.last S.wts S.tch _).length ≤ 4096; rw [flsh_len]; exact hNf) (by show S.tch.length ≤ 1000000; exact htl)
      go_wp2_with (go_at_call 39; (with_reducible refine hfg.mono ?_); rintro e w3 ⟨rfl, ⟨V3, k3⟩, e3⟩; have z6 : w3.cell? ⟨X, 6, none⟩ = some (.int .i64 (S.calls : Nat)) := k3.mem.cell 6; have f6 := k3.mem.free 6; have k5 := k3.setX 6 (.int .i64 ((S.calls : Int) + 1)) (S' := { S with last := flsh S.last S.wts S.tch S.tch.length, wts := wiped S.wts S.tch, tch := [], wtg := 0, calls := S.calls + 1 }) rfl rfl rfl rfl rfl)
      go_ret
      exact ⟨rfl, ⟨_, k5⟩, effOX (he.trans e3 fun _ _ h => h) h.ox⟩
/-- A new disk's state. -/
def DS.new (n : Nat) : DS := ⟨List.replicate n [], List.replicate n [], [], 0, false, false, 0, 0, []⟩
theorem flush_ok (h : DiskM w X O S V) (hG : Good S) (hdd : S.dead = false) (hof : S.off = false) (har : S.arm = 0) (hw : S.wtg ≤ 1000000) (hc : S.calls ≤ 4611686018427387904) :
    Calls Try.prog 49 #[.pointer (some ⟨X, 0, none⟩)] w fun e w' => e = .returned (.int .i64 0) ∧ Has w w' X O S.flushed := by
  have hab := able_any h
  have herr : S.err = 0 := by unfold DS.err; rw [hdd, hof]; rfl
  rw [herr] at hab
  exact flush_g h hG hw hc hab (goes0_any h har)
theorem tr_info : (Try.prog.info? 43).map (fun i => (i.zero, i.size, i.bytes)) = some (some (.slice none 0 0), 1, 24) := by kernel_rfl
/-- A row of nil slices. -/
def Nils (B n t : Nat) (v : Value) (W : World) : Prop := ∃ g, v = .slice (some ⟨g, 0, none⟩) n n ∧ B ≤ g ∧ Mem W g t (List.replicate n (Value.slice none 0 0)).toArray
theorem Nils.below {B n t : Nat} {v : Value} {W W' : World} (h : Nils B n t v W) (hb : Below W.heap.size W W') : Nils B n t v W' := by
  obtain ⟨g, h1, h2, h3⟩ := h
  exact ⟨g, h1, h2, h3.below hb h3.lt⟩
theorem good_new (n : Nat) (h : n ≤ 4096) : Good (DS.new n) := by
  refine ⟨by simp [DS.new, h], by simp [DS.new], by simp [DS.new], ?_, ?_, by simp [DS.new]⟩
  · intro i L hL
    simp [DS.new, List.getElem?_replicate] at hL ⊢
    exact hL.2
  · intro i L hL
    simp [DS.new, List.getElem?_replicate] at hL ⊢
    exact hL.2
theorem made_nils (n : Nat) : (madeCells (Value.slice none 0 0).cells (n * 1)).toList = List.replicate n (.slice none 0 0) := by rw [Nat.mul_one]; exact toList_madeCells_one _ n
set_option maxRecDepth 100000 in
set_option maxHeartbeats 2000000 in
theorem new_any (n : Nat) (hpos : 1 ≤ n) (h2 : n ≤ 4096) (w : World) : Calls Try.prog 6 #[.int .i64 (n : Nat)] w fun e w' => ∃ X O V, e = .returned (.tuple #[.pointer (some ⟨X, 0, none⟩), .int .i64 0]) ∧ DiskM w' X O (DS.new n) V ∧ (∀ k, O k → w.heap.size ≤ k) ∧ Below w.heap.size w w' := by
  obtain ⟨i1, hi1, hy0, hy1, hy2⟩ := info_parts tb_info
  obtain ⟨i2, hi2, hq0, hq1, hq2⟩ := info_parts tr_info
  obtain ⟨i0, hi0, hz0, hz1, hz2⟩ := info_parts (show (Try.prog.info? 34).map (fun i => (i.zero, i.size, i.bytes)) = some (some (.slice none 0 0), 1, 24) by kernel_rfl)
  have h1x : ¬ (n : Int) < 1 := by omega
  have h2x : ¬ (4096 : Int) < (n : Int) := by omega
  go_enter Try.func6, Try.ntmps6
  go_wp2
  have hdr : Below w.heap.size w w.drew := (Below.refl _ w).drew
  apply calm_tail 4 [.is (.int .i64 (n : Nat)), .of (fun v W => Nils w.heap.size n 34 v W) (fun v W W' hb h => h.below hb), .is (.int .i64 (n : Nat)), .of (fun v W => Nils w.heap.size n 43 v W) (fun v W W' hb h => h.below hb)] [[], [0, 0], [], [2, 2]] (by kernel_rfl) (by kernel_rfl) (by kernel_rfl) rfl
  intro f a1 ha1
  simp only [List.take_succ_cons, List.take_zero, putL, Act.put, List.setIfInBounds_toArray, List.set_cons_succ, List.set_cons_zero] at ha1
  subst ha1
  refine ⟨?_, ?_⟩
  · refine AllCalm.cons (fun W hB hd => ?_) ?_
    · go_wp2_with (fail)
      exact CalmQ.mk rfl _ rfl (Below.refl _ _) rfl
    refine AllCalm.cons (fun W hB hd => ?_) ?_
    · obtain ⟨h0, -, -⟩ := hd
      have h0 : f 0 = _ := h0
      rw [h0]
      go_wp2_with ((at_make; refine wpList_make_full _ rfl (.tmp 10) (.tmp 10) 43 rfl W.heap.size 34 i1 _ 1 Try.underlying43 hi1 hy0 hy1 .i64 .i64 _ _ n rfl rfl rfl rfl (by rw [hy2]; omega) (by unfold maxLen; omega) (Nat.le_refl _) ?_; intro w2 hown2 hg2))
      refine CalmQ.mk rfl _ rfl ((Below.refl _ W).grown hg2 (Nat.le_refl _) (fun k hk => by cases hk)) ?_; rw [made_nils] at hown2; exact ⟨_, rfl, hB.size, row_of_own (n := n) hown2 rfl⟩
    refine AllCalm.cons (fun W hB hd => ?_) ?_
    · go_wp2_with (fail)
      exact CalmQ.mk rfl _ rfl (Below.refl _ _) rfl
    refine AllCalm.cons (fun W hB hd => ?_) ?_
    · obtain ⟨h2, -, -⟩ := hd
      have h2 : f 2 = _ := h2
      rw [h2]
      go_wp2_with ((at_make; refine wpList_make_full _ rfl (.tmp 12) (.tmp 12) 49 rfl W.heap.size 43 i2 _ 1 Try.underlying49 hi2 hq0 hq1 .i64 .i64 _ _ n rfl rfl rfl rfl (by rw [hq2]; omega) (by unfold maxLen; omega) (Nat.le_refl _) ?_; intro w2 hown2 hg2))
      refine CalmQ.mk rfl _ rfl ((Below.refl _ W).grown hg2 (Nat.le_refl _) (fun k hk => by cases hk)) ?_; rw [made_nils] at hown2; exact ⟨_, rfl, hB.size, row_of_own (n := n) hown2 rfl⟩
    exact AllCalm.nil
  · intro W hB hT
    obtain ⟨h0, h1, h2, h3, -⟩ := hT
    have h0 : f 0 = _ := h0
    have h2 : f 2 = _ := h2
    rw [h0, h2]
    clear h0 h2
    simp only [List.drop_succ_cons, List.drop_zero]
    obtain ⟨g, e1, hg1, hm1⟩ := h1
    obtain ⟨g', e3, hg3, hm3⟩ := h3
    rw [e1, e3]
    have hsz := hB.size
    have lg := hm1.lt
    have lh := hm3.lt
    go_wp2
    go_ret2
    have hb5 : Below W.heap.size W (W.alloc (.cells #[.slice (some ⟨g, 0, none⟩) n n, .slice (some ⟨g', 0, none⟩) n n, .slice none 0 0, .int .i64 0, .bool false, .bool false, .int .i64 0, .int .i64 0, .slice none 0 0] 52)) := (Below.refl _ _).alloc (Nat.le_refl _) _
    have hm1' := hm1.below hb5 lg
    have hm3' := hm3.below hb5 lh
    have hX := Mem.new W 52 #[.slice (some ⟨g, 0, none⟩) n n, .slice (some ⟨g', 0, none⟩) n n, .slice none 0 0, .int .i64 0, .bool false, .bool false, .int .i64 0, .int .i64 0, .slice none 0 0]
    refine ⟨W.heap.size, fun k => w.heap.size ≤ k ∧ k < W.heap.size + 1, ⟨.slice (some ⟨g, 0, none⟩) n n, .slice (some ⟨g', 0, none⟩) n n, .slice none 0 0, .slice none 0 0, List.replicate n (.slice none 0 0), List.replicate n (.slice none 0 0)⟩, rfl, ?_, fun k hk => hk.1, hB.trans (hb5.mono hsz)⟩
    generalize W.alloc (.cells #[.slice (some ⟨g, 0, none⟩) n n, .slice (some ⟨g', 0, none⟩) n n, .slice none 0 0, .int .i64 0, .bool false, .bool false, .int .i64 0, .int .i64 0, .slice none 0 0] 52) = W5 at *
    have hl5 := hX.lt
    have hown : ∀ {g t : Nat}, w.heap.size ≤ g → g < W.heap.size → Mem W5 g t (List.replicate n (Value.slice none 0 0)).toArray → OwnR W5 (fun k => w.heap.size ≤ k ∧ k < W.heap.size + 1) t (.slice (some ⟨g, 0, none⟩) n n) n (List.replicate n (.slice none 0 0)) := fun h1 h1' h3 => ⟨⟨by simp, .inr ⟨_, n, _, rfl, Nat.zero_le _, h3, Nat.le_refl _, by unfold maxLen; omega, by simp, by simp⟩⟩, fun k hk => by obtain rfl := Option.some.inj hk; exact ⟨h1, Nat.lt_succ_of_lt h1'⟩⟩
    refine ⟨⟨hsz, Nat.lt_succ_self _⟩, fun k hk => by omega, hX, ⟨?_, fun j u l hu hl => ?_⟩, ⟨?_, fun i u Ls hu hl => ?_⟩, OwnR.none _ _ _, OwnR.none _ _ _, by simp [DS.new], ?_, ?_, fun k hk => by cases hk⟩
    · show OwnR _ _ _ _ (List.replicate n ([] : List UInt8)).length _
      rw [List.length_replicate]
      exact hown hg1 lg hm1'
    · have hu' := List.eq_of_mem_replicate (List.mem_of_getElem? hu)
      have hl' := List.eq_of_mem_replicate (List.mem_of_getElem? hl)
      rw [hu', hl']
      exact Dat.none _ _
    · show OwnR _ _ _ _ (List.replicate n ([] : List (List UInt8))).length _
      rw [List.length_replicate]
      exact hown hg3 lh hm3'
    · have hu' := List.eq_of_mem_replicate (List.mem_of_getElem? hu)
      have hl' := List.eq_of_mem_replicate (List.mem_of_getElem? hl)
      rw [hu', hl']
      exact ⟨[], BRow.none _ _⟩
    · intro i u k hu hk
      rw [List.eq_of_mem_replicate (List.mem_of_getElem? hu)] at hk
      cases hk
    · intro i j u v k _ hu _ hk
      rw [List.eq_of_mem_replicate (List.mem_of_getElem? hu)] at hk
      cases hk
end
end Dk
end Go.Proofs.Ytpfackjnnkjjdaa
