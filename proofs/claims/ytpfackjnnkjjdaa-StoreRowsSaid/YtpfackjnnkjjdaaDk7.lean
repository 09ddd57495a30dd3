/- Package disk: Crash: contract. -/
import Derived.Test.YtpfackjnnkjjdaaDk6
namespace Go.Proofs.Ytpfackjnnkjjdaa
open Go.ChangeShapes Go.WideShapes Go.ChangeAt Go.RowKit Go.Lib
set_option linter.unusedVariables false
set_option linter.unusedSimpArgs false
namespace Dk
/-- Which of k Writes lasts, as the i-th pick says (0: none). -/
def pick (zs : List Int) (i k : Nat) : Nat := match zs[i]? with | some z => (z % ((k : Int) + 1)).toNat | none => 0
theorem pick_le (zs : List Int) (i k : Nat) : pick zs i k ≤ k := by
  unfold pick
  split
  · rename_i z _
    have := Int.emod_lt_of_pos z (show (0 : Int) < (k : Int) + 1 by omega)
    have := Int.emod_nonneg z (show ((k : Int) + 1) ≠ 0 by omega)
    omega
  · omega
/-- What lasts, when the picks have been gone through up to the j-th sector. -/
def fell (L : List (List UInt8)) (W : List (List (List UInt8))) (P : List Nat) (zs : List Int) : Nat → List (List UInt8)
  | 0 => L
  | j + 1 => match pick zs j (W[P[j]?.getD 0]?.getD []).length with
    | 0 => fell L W P zs j
    | p + 1 => (fell L W P zs j).set (P[j]?.getD 0) ((W[P[j]?.getD 0]?.getD [])[p]?.getD [])
theorem fell_len (L : List (List UInt8)) (W : List (List (List UInt8))) (P : List Nat) (zs : List Int) (j : Nat) : (fell L W P zs j).length = L.length := by
  induction j with
  | zero => rfl
  | succ j ih =>
    unfold fell
    split
    · exact ih
    · rw [List.length_set, ih]
theorem fell_stop (L : List (List UInt8)) (W : List (List (List UInt8))) (P : List Nat) (zs : List Int) (j d : Nat) (h : zs.length ≤ j) : fell L W P zs (j + d) = fell L W P zs j := by
  induction d with
  | zero => rfl
  | succ d ih =>
    rw [show j + (d + 1) = (j + d) + 1 by omega, fell]
    have : pick zs (j + d) (W[P[j + d]?.getD 0]?.getD []).length = 0 := by unfold pick; rw [List.getElem?_eq_none (by omega)]
    rw [this]
    exact ih
theorem fell_zero {L : List (List UInt8)} {W : List (List (List UInt8))} {P : List Nat} {zs : List Int} {j n : Nat} {Ls : List (List UInt8)} (hP : P[j]? = some n) (hW : W[n]? = some Ls) (hp : pick zs j Ls.length = 0) : fell L W P zs (j + 1) = fell L W P zs j := by
  simp only [fell, hP, Option.getD_some, hW, hp]
theorem fell_some {L : List (List UInt8)} {W : List (List (List UInt8))} {P : List Nat} {zs : List Int} {j n q : Nat} {Ls : List (List UInt8)} {l : List UInt8} (hP : P[j]? = some n) (hW : W[n]? = some Ls) (hp : pick zs j Ls.length = q + 1) (hl : Ls[q]? = some l) : fell L W P zs (j + 1) = (fell L W P zs j).set n l := by
  simp only [fell, hP, Option.getD_some, hW, hp, hl]
theorem pick_tmod {zs : List Int} {j k : Nat} {z r : Int} (hz : zs[j]? = some z) (hr : z.tmod ((k : Int) + 1) = r) : (-(k : Int) ≤ r ∧ r ≤ (k : Int)) ∧ (0 ≤ r → (pick zs j k : Int) = r) ∧ (r < 0 → (pick zs j k : Int) = r + ((k : Int) + 1)) := by
  have h1 := Int.emod_lt_of_pos z (show (0 : Int) < (k : Int) + 1 by omega)
  have h2 := Int.emod_nonneg z (show ((k : Int) + 1) ≠ 0 by omega)
  have h3 : (pick zs j k : Int) = z % ((k : Int) + 1) := by unfold pick; rw [hz]; simp only []; omega
  rw [Int.tmod_eq_emod] at hr
  have h4 : (((k : Int) + 1).natAbs : Int) = (k : Int) + 1 := by omega
  rw [h3]
  split at hr
  · simp only [Int.ofNat_zero, Int.sub_zero, Int.natCast_zero] at hr
    exact ⟨by omega, fun _ => by omega, fun _ => by omega⟩
  · rename_i hc
    rw [h4] at hr
    have h5 : z % ((k : Int) + 1) ≠ 0 := fun e => hc (.inr (Int.dvd_of_emod_eq_zero e))
    exact ⟨by omega, fun _ => by omega, fun _ => by omega⟩
theorem zints_get {L : List Int} {j : Nat} (h : j < L.length) : (zints L)[j]? = some (.int .i64 L[j]) := by simp [zints, h]
section
variable {w : World} {X : Nat} {O : Nat → Prop} {S : DS} {V : DV}
/-- The state that a Crash leaves. -/
def DS.crashed (S : DS) (zs : List Int) : DS := { S with last := fell S.last S.wts (sorted S.tch) zs S.tch.length, wts := wiped S.wts (sorted S.tch), tch := [], wtg := 0, off := true, arm := 0, picks := [] }
set_option maxRecDepth 100000 in
set_option maxHeartbeats 2000000 in
theorem crash_any (h : DiskM w X O S V) (hG : Good S) (hw : S.wtg ≤ 1000000) (hof : S.off = false) (pv : Value) (zs : List Int) (hz : ∀ z ∈ zs, -9223372036854775808 ≤ z ∧ z ≤ 9223372036854775807)
    (hp : ∀ W, Eff (fun k => V.tv.ownBlock = some k ∨ V.lv.ownBlock = some k) w W → Sl W w.heap.size pv zs.length (zints zs)) :
    Calls Try.prog 15 #[.pointer (some ⟨X, 0, none⟩), pv] w fun e w' => e = .returned (.tuple #[]) ∧ Has w w' X O (S.crashed zs) := by
  have x4 : w.cell? ⟨X, 4, none⟩ = some (.bool S.off) := h.mem.cell 4
  rw [hof] at x4
  have x2 : w.cell? ⟨X, 2, none⟩ = some V.tv := h.mem.cell 2
  obtain ⟨Ap, cp, rfl, hp1, hp2⟩ := (hp w (Eff.refl _ _)).form
  obtain ⟨At, ct, htv, ht1, ht2⟩ := h.tch.form
  have htl : S.tch.length ≤ 1000000 := by have := hG.tcnt; omega
  have hso := sort_any h htl
  have hsoE : ∀ w1, DiskM w1 X O { S with tch := sorted S.tch } V → w1.cell? ⟨X, 2, none⟩ = some V.tv := fun w1 h1 => h1.mem.cell 2
  have hsoB : ∀ w1, Eff (fun k => (Value.slice At S.tch.length ct).ownBlock = some k) w w1 → Eff (fun k => V.tv.ownBlock = some k ∨ V.lv.ownBlock = some k) w w1 := fun w1 e => e.mono fun k _ hk => .inl (by rw [htv]; exact hk)
  rw [htv] at x2 hso
  have hzl : (zs.length : Int) ≤ 9223372036854775807 := by unfold maxLen at hp2; omega
  have hPl := sorted_len S.tch
  have hPin : ∀ n ∈ sorted S.tch, n < S.last.length := fun n hn => hG.inT n ((sorted_perm S.tch).mem_iff.1 hn)
  have hNf : S.last.length ≤ 4096 := hG.few
  have hwn : ∀ (n : Nat) (L : List (List UInt8)), S.wts[n]? = some L → L.length ≤ 1000000 := fun n L hL => Nat.le_trans (hG.cnt n L hL) hw
  have htx : (S.tch.length : Int) ≤ 1000000 := by omega
  unfold DS.crashed
  generalize hP : sorted S.tch = P at *
  clear hP
  have HG := Lib.hid hG
  clear hG
  have HPL := Lib.hid hPl
  clear hPl
  go_enter Try.func15, Try.ntmps15
  go_wp2
  go_step3
  go_wp2_with (go_at_call 38; (with_reducible refine hso.mono ?_); rintro e w1 ⟨rfl, h1, e1, e1t⟩; have e1b := hsoB w1 e1t; have x2b := hsoE w1 h1; rw [htv] at x2b)
  go_step3
  go_wp2
  go_loopw [22] (fun i wr => ∃ j : Nat, j ≤ S.tch.length ∧ i = .int .i64 j ∧ ∃ V', V'.tv = V.tv ∧ V'.lv = V.lv ∧ V'.wv = V.wv ∧ V'.wl = V.wl ∧ DiskM wr X O { S with tch := P, last := fell S.last S.wts P zs j } V' ∧ Eff O w wr ∧ Eff (fun k => V.tv.ownBlock = some k ∨ V.lv.ownBlock = some k) w wr) (fun i _ => S.tch.length - (intOf i).toNat)
  case atStart => exact ⟨0, by omega, rfl, V, rfl, rfl, rfl, rfl, h1, e1, e1b⟩
  case round =>
    obtain ⟨j, hj, rfl, V', ht', hl', hw', hwl', hr, he, heb⟩ := hrel
    by_cases hjl : j < S.tch.length
    · by_cases hjz : j < zs.length
      · have hPl := HPL.out
        obtain ⟨n, hn⟩ : ∃ n, P[j]? = some n := ⟨_, List.getElem?_eq_getElem (by omega)⟩
        have hnN : n < S.last.length := hPin n (List.mem_of_getElem? hn)
        obtain ⟨Ls, hLs⟩ : ∃ L, S.wts[n]? = some L := ⟨_, List.getElem?_eq_getElem (by have := h.lens; omega)⟩
        obtain ⟨z, hzj⟩ : ∃ z, zs[j]? = some z := ⟨_, List.getElem?_eq_getElem hjz⟩
        have hzb := hz z (List.mem_of_getElem? hzj)
        have hLl := hwn n Ls hLs
        -- the touched ones
        obtain ⟨g, c', hg, _, _, _, _, hcell, _⟩ := hr.tch.at_ (by show 0 < P.length; omega)
        have hg' : V'.tv = .slice (some ⟨g, 0, none⟩) P.length c' := hg
        rw [ht', htv] at hg'
        simp only [Value.slice.injEq] at hg'
        obtain ⟨rfl, -, rfl⟩ := hg'
        have hy := hcell j (.int .i64 (n : Nat)) (by simp [ints, hn])
        -- its Writes
        have x1 : wr.cell? ⟨X, 1, none⟩ = some V'.wv := hr.mem.cell 1
        obtain ⟨gw, cw, hgw, _, _, hOw, _, hwc, _⟩ := hr.waits.row.at_ (by show 0 < S.wts.length; have := h.lens; omega)
        have hgw' : V'.wv = .slice (some ⟨gw, 0, none⟩) S.wts.length cw := hgw
        rw [h.lens] at hgw'
        rw [hgw'] at x1
        obtain ⟨v0, hv0⟩ : ∃ v, V'.wl[n]? = some v := ⟨_, List.getElem?_eq_getElem (by have := hr.waits.row.len; have : V'.wl.length = S.wts.length := this; have := h.lens; omega)⟩
        obtain ⟨D, hb0⟩ := hr.waits.one n v0 Ls hv0 hLs
        have y1 := hwc n _ hv0
        obtain ⟨A0, c0, rfl, hc3, hc4⟩ := hb0.row.form
        -- the pick
        obtain ⟨bp, op, rfl, hbp, hpc⟩ := (hp wr heb).at_ (by omega)
        have hyz := hpc j _ (zints_get hjz)
        have hzj' : zs[j] = z := by rw [List.getElem?_eq_getElem hjz] at hzj; exact Option.some.inj hzj
        rw [hzj'] at hyz
        -- what lasts
        have x0 : wr.cell? ⟨X, 0, none⟩ = some V'.lv := hr.mem.cell 0
        obtain ⟨gl, cl, hgl, _, _, hOl, _, hlc, hlf⟩ := hr.last.row.at_ (by show 0 < (fell S.last S.wts P zs j).length; rw [fell_len]; omega)
        have hgl' : V'.lv = .slice (some ⟨gl, 0, none⟩) S.last.length cl := by rw [hgl]; show Value.slice _ (fell S.last S.wts P zs j).length _ = _; rw [fell_len]
        rw [hgl'] at x0
        have f0 := hlf n
        have y0 := hlc n _ (List.getElem?_eq_getElem (l := V'.ll) (i := n) (by have := hr.last.row.len; have : V'.ll.length = (fell S.last S.wts P zs j).length := this; rw [fell_len] at this; omega))
        obtain ⟨r, hr0⟩ : ∃ r, z.tmod ((Ls.length : Int) + 1) = r := ⟨_, rfl⟩
        obtain ⟨hrb, hr1, hr2⟩ := pick_tmod hzj hr0
        have hjx : (j : Int) < (S.tch.length : Int) := by omega
        have hjz' : (j : Int) < (zs.length : Int) := by omega
        have hnx : (n : Int) < (S.last.length : Int) := by omega
        have hLx : (Ls.length : Int) ≤ 1000000 := by omega
        have hLne : ¬ (Ls.length : Int) + 1 = 0 := by omega
        have hstep := fun (W : World) (hW : Below wr.heap.size wr W) (q : Nat) (hq : pick zs j Ls.length = q + 1) (u : Value) (l : List UInt8) (hql : Ls[q]? = some l) (hu : Dat wr O u l) => (fell_some (L := S.last) hn hLs hq hql ▸ (hr.below hW).setL (j := n) hgl' (show (fell S.last S.wts P zs j).length = S.last.length from fell_len ..) hnN (hu.effO (Eff.of (S := fun _ => False) hW) fun _ _ _ hf => hf) : DiskM (W.setCell ⟨gl, n, none⟩ u) X O { S with tch := P, last := fell S.last S.wts P zs (j + 1) } _)
        have hx0 : ∀ W, Below wr.heap.size wr W → W.cell? ⟨X, 0, none⟩ = some (.slice (some ⟨gl, 0, none⟩) S.last.length cl) ∧ W.frozen? ⟨gl, n, none⟩ = false ∧ W.cell? ⟨gl, n, none⟩ = some (V'.ll[n]'(by have := hr.last.row.len; have : V'.ll.length = (fell S.last S.wts P zs j).length := this; rw [fell_len] at this; omega)) := by
          intro W hW
          have hltl := hr.last.row.lt (k := gl) (by show Value.ownBlock V'.lv = _; rw [hgl']; rfl)
          exact ⟨(hW.cell (p := ⟨X, 0, none⟩) hr.mem.lt).trans x0, (World.frozen?_of_block (hW.block gl hltl)).trans f0, (hW.cell (p := ⟨gl, n, none⟩) hltl).trans y0⟩
        have hee : ∀ W (u : Value), Below wr.heap.size wr W → Eff O w (W.setCell ⟨gl, n, none⟩ u) ∧ Eff (fun k => V.tv.ownBlock = some k ∨ V.lv.ownBlock = some k) w (W.setCell ⟨gl, n, none⟩ u) := fun W u hW =>
          ⟨effOX (he.trans (Eff.of hW) fun _ _ h => h) hOl, (heb.trans (Eff.of hW) fun _ _ h => h).setCell (p := ⟨gl, n, none⟩) (.inr (by rw [← hl', hgl']; rfl)) u⟩
        generalize (V'.ll[n]'(by have := hr.last.row.len; have : V'.ll.length = (fell S.last S.wts P zs j).length := this; rw [fell_len] at this; omega)) = uold at *
        have hget : ∀ q, q < Ls.length → ∃ g0 u l, A0 = some ⟨g0, 0, none⟩ ∧ wr.cell? ⟨g0, q, none⟩ = some u ∧ Ls[q]? = some l ∧ Dat wr O u l := by
          intro q hq
          obtain ⟨g0, c9, hgA, _, _, _, _, hdc, _⟩ := hb0.row.at_ (by omega)
          simp only [Value.slice.injEq] at hgA
          obtain ⟨u, hu, hd⟩ := hb0.get hq
          exact ⟨g0, u, _, hgA.1, hdc q u hu, List.getElem?_eq_getElem hq, hd⟩
        clear hcell hwc hpc hlc hlf hz hzj' hp hwn
        have HR := Lib.hid hr
        have HR1 := Lib.hid hr1
        have HR2 := Lib.hid hr2
        have HB := Lib.hid hrb
        have hrb1 : -1000000 ≤ r := by omega
        have hrb2 : r ≤ 1000000 := by omega
        clear hr1 hr2 hPl
        rcases Int.lt_trichotomy r 0 with hr3 | hr3 | hr3
        · have hq0 := HR2.out hr3
          obtain ⟨q, hq⟩ : ∃ q, pick zs j Ls.length = q + 1 := ⟨pick zs j Ls.length - 1, by omega⟩
          have hql : q < Ls.length := by have := pick_le zs j Ls.length; omega
          have e7 : r + ((Ls.length : Int) + 1) - 1 = (q : Int) := by omega
          have hqx : (q : Int) < (Ls.length : Int) := by omega
          obtain ⟨g0, u, l, rfl, hyu, hlq, hdu⟩ := hget q hql
          obtain ⟨A3, c3, rfl, _, _⟩ := hdu.row.form
          have hyu2 : ∀ W, Below wr.heap.size wr W → W.cell? ⟨g0, q, none⟩ = some (.slice A3 l.length c3) := fun W hW => (hW.cell (p := ⟨g0, q, none⟩) (hb0.row.lt (k := g0) rfl)).trans hyu
          have hk := fun W hW => hstep W hW q hq _ l hlq hdu
          have hE0 : ¬ r + ((Ls.length : Int) + 1) = 0 := by omega
          have hrn : r < 0 := hr3
          have HE7 := Lib.hid e7
          clear e7 hstep hget hq0 hq hrb
          go_wp2
          apply calm_tail 10 [.is (.pointer (some ⟨X, 0, none⟩)), .is (.pointer (some ⟨X, 0, none⟩)), .is (.pointer (some ⟨X, 0, none⟩)), .is (.slice (some ⟨gl, 0, none⟩) S.last.length cl), .is (.int .i64 (n : Nat)), .is (.slice (some ⟨g0, 0, none⟩) Ls.length c0), .is (.int .i64 (r + ((Ls.length : Int) + 1))), .is (.int .i64 (q : Nat)), .is (.pointer (some ⟨g0, q, none⟩)), .is (.slice A3 l.length c3)] [[], [0], [1], [2], [], [], [], [6], [5, 7], [8]] (by kernel_rfl) (by kernel_rfl) (by kernel_rfl) rfl
          intro f a1 ha1
          simp only [List.take_succ_cons, List.take_zero, putL, Act.put, List.setIfInBounds_toArray, List.set_cons_succ, List.set_cons_zero] at ha1
          subst ha1
          refine ⟨?_, ?_⟩
          · refine AllCalm.cons (fun W hB hd => ?_) ?_
            · go_wp2_with (fail)
              exact CalmQ.mk rfl _ rfl (Below.refl _ _) rfl
            refine AllCalm.cons (fun W hB hd => ?_) ?_
            · obtain ⟨h0, -⟩ := hd
              have h0 : f 0 = _ := h0
              rw [h0]
              go_wp2_with (fail)
              exact CalmQ.mk rfl _ rfl (Below.refl _ _) rfl
            refine AllCalm.cons (fun W hB hd => ?_) ?_
            · obtain ⟨h1, -⟩ := hd
              have h1 : f 1 = _ := h1
              rw [h1]
              go_wp2_with (fail)
              exact CalmQ.mk rfl _ rfl (Below.refl _ _) rfl
            refine AllCalm.cons (fun W hB hd => ?_) ?_
            · obtain ⟨h2, -⟩ := hd
              have h2 : f 2 = _ := h2
              rw [h2]
              have z1 := (hx0 W hB).1
              go_wp2_with (fail)
              exact CalmQ.mk rfl _ rfl (Below.refl _ _) rfl
            refine AllCalm.cons (fun W hB hd => ?_) ?_
            · go_wp2_with (fail)
              exact CalmQ.mk rfl _ rfl (Below.refl _ _) rfl
            refine AllCalm.cons (fun W hB hd => ?_) ?_
            · go_wp2_with (fail)
              exact CalmQ.mk rfl _ rfl (Below.refl _ _) rfl
            refine AllCalm.cons (fun W hB hd => ?_) ?_
            · go_wp2_with (fail)
              exact CalmQ.mk rfl _ rfl (Below.refl _ _) rfl
            refine AllCalm.cons (fun W hB hd => ?_) ?_
            · obtain ⟨h6, -⟩ := hd
              have h6 : f 6 = _ := h6
              rw [h6]
              have e7 := HE7.out
              go_wp2_with (fail)
              exact CalmQ.mk rfl _ rfl (Below.refl _ _) rfl
            refine AllCalm.cons (fun W hB hd => ?_) ?_
            · obtain ⟨h5, h7, -⟩ := hd
              have h5 : f 5 = _ := h5
              have h7 : f 7 = _ := h7
              rw [h5, h7]
              go_wp2_with (fail)
              exact CalmQ.mk rfl _ rfl (Below.refl _ _) rfl
            refine AllCalm.cons (fun W hB hd => ?_) ?_
            · obtain ⟨h8, -⟩ := hd
              have h8 : f 8 = _ := h8
              rw [h8]
              have z1 := hyu2 W hB
              go_wp2_with (fail)
              exact CalmQ.mk rfl _ rfl (Below.refl _ _) rfl
            exact AllCalm.nil
          · intro W hB hT
            obtain ⟨h0, h1, h2, h3, h4, h5, h6, h7, h8, h9, -⟩ := hT
            have h0 : f 0 = _ := h0
            have h1 : f 1 = _ := h1
            have h2 : f 2 = _ := h2
            have h3 : f 3 = _ := h3
            have h4 : f 4 = _ := h4
            have h5 : f 5 = _ := h5
            have h6 : f 6 = _ := h6
            have h7 : f 7 = _ := h7
            have h8 : f 8 = _ := h8
            have h9 : f 9 = _ := h9
            rw [h0, h1, h2, h3, h4, h5, h6, h7, h8, h9]
            clear h0 h1 h2 h3 h4 h5 h6 h7 h8 h9
            simp only [List.drop_succ_cons, List.drop_zero]
            obtain ⟨z0, z1, z2⟩ := hx0 W hB
            obtain ⟨e3, e4⟩ := hee W (.slice A3 l.length c3) hB
            have k3 := hk W hB
            go_wp2
            exact ⟨⟨j + 1, by omega, by go_num, { V' with ll := V'.ll.set n (.slice A3 l.length c3) }, ht', hl', hw', hwl', k3, e3, e4⟩, by simp [intOf]; omega⟩
        · have hq0 := HR1.out (by omega)
          have hq : pick zs j Ls.length = 0 := by omega
          have hfz := fell_zero (L := S.last) (zs := zs) hn hLs hq
          rw [← hfz] at hr
          subst hr3
          clear hstep hget hq0 hq hrb hfz
          go_wp2
          exact ⟨⟨j + 1, by omega, by go_num, _, ht', hl', hw', hwl', hr, he, heb⟩, by simp [intOf]; omega⟩
        · have hq0 := HR1.out (by omega)
          obtain ⟨q, hq⟩ : ∃ q, pick zs j Ls.length = q + 1 := ⟨pick zs j Ls.length - 1, by omega⟩
          have hql : q < Ls.length := by have := pick_le zs j Ls.length; omega
          have e7 : r - 1 = (q : Int) := by omega
          have hqx : (q : Int) < (Ls.length : Int) := by omega
          obtain ⟨g0, u, l, rfl, hyu, hlq, hdu⟩ := hget q hql
          obtain ⟨A3, c3, rfl, _, _⟩ := hdu.row.form
          have hyu2 : ∀ W, Below wr.heap.size wr W → W.cell? ⟨g0, q, none⟩ = some (.slice A3 l.length c3) := fun W hW => (hW.cell (p := ⟨g0, q, none⟩) (hb0.row.lt (k := g0) rfl)).trans hyu
          have hk := fun W hW => hstep W hW q hq _ l hlq hdu
          have hE0 : ¬ r = 0 := by omega
          have hrn : ¬ r < 0 := by omega
          have HE7 := Lib.hid e7
          clear e7 hstep hget hq0 hq hrb
          go_wp2
          apply calm_tail 10 [.is (.pointer (some ⟨X, 0, none⟩)), .is (.pointer (some ⟨X, 0, none⟩)), .is (.pointer (some ⟨X, 0, none⟩)), .is (.slice (some ⟨gl, 0, none⟩) S.last.length cl), .is (.int .i64 (n : Nat)), .is (.slice (some ⟨g0, 0, none⟩) Ls.length c0), .is (.int .i64 (r)), .is (.int .i64 (q : Nat)), .is (.pointer (some ⟨g0, q, none⟩)), .is (.slice A3 l.length c3)] [[], [0], [1], [2], [], [], [], [6], [5, 7], [8]] (by kernel_rfl) (by kernel_rfl) (by kernel_rfl) rfl
          intro f a1 ha1
          simp only [List.take_succ_cons, List.take_zero, putL, Act.put, List.setIfInBounds_toArray, List.set_cons_succ, List.set_cons_zero] at ha1
          subst ha1
          refine ⟨?_, ?_⟩
          · refine AllCalm.cons (fun W hB hd => ?_) ?_
            · go_wp2_with (fail)
              exact CalmQ.mk rfl _ rfl (Below.refl _ _) rfl
            refine AllCalm.cons (fun W hB hd => ?_) ?_
            · obtain ⟨h0, -⟩ := hd
              have h0 : f 0 = _ := h0
              rw [h0]
              go_wp2_with (fail)
              exact CalmQ.mk rfl _ rfl (Below.refl _ _) rfl
            refine AllCalm.cons (fun W hB hd => ?_) ?_
            · obtain ⟨h1, -⟩ := hd
              have h1 : f 1 = _ := h1
              rw [h1]
              go_wp2_with (fail)
              exact CalmQ.mk rfl _ rfl (Below.refl _ _) rfl
            refine AllCalm.cons (fun W hB hd => ?_) ?_
            · obtain ⟨h2, -⟩ := hd
              have h2 : f 2 = _ := h2
              rw [h2]
              have z1 := (hx0 W hB).1
              go_wp2_with (fail)
              exact CalmQ.mk rfl _ rfl (Below.refl _ _) rfl
            refine AllCalm.cons (fun W hB hd => ?_) ?_
            · go_wp2_with (fail)
              exact CalmQ.mk rfl _ rfl (Below.refl _ _) rfl
            refine AllCalm.cons (fun W hB hd => ?_) ?_
            · go_wp2_with (fail)
              exact CalmQ.mk rfl _ rfl (Below.refl _ _) rfl
            refine AllCalm.cons (fun W hB hd => ?_) ?_
            · go_wp2_with (fail)
              exact CalmQ.mk rfl _ rfl (Below.refl _ _) rfl
            refine AllCalm.cons (fun W hB hd => ?_) ?_
            · obtain ⟨h6, -⟩ := hd
              have h6 : f 6 = _ := h6
              rw [h6]
              have e7 := HE7.out
              go_wp2_with (fail)
              exact CalmQ.mk rfl _ rfl (Below.refl _ _) rfl
            refine AllCalm.cons (fun W hB hd => ?_) ?_
            · obtain ⟨h5, h7, -⟩ := hd
              have h5 : f 5 = _ := h5
              have h7 : f 7 = _ := h7
              rw [h5, h7]
              go_wp2_with (fail)
              exact CalmQ.mk rfl _ rfl (Below.refl _ _) rfl
            refine AllCalm.cons (fun W hB hd => ?_) ?_
            · obtain ⟨h8, -⟩ := hd
              have h8 : f 8 = _ := h8
              rw [h8]
              have z1 := hyu2 W hB
              go_wp2_with (fail)
              exact CalmQ.mk rfl _ rfl (Below.refl _ _) rfl
            exact AllCalm.nil
          · intro W hB hT
            obtain ⟨h0, h1, h2, h3, h4, h5, h6, h7, h8, h9, -⟩ := hT
            have h0 : f 0 = _ := h0
            have h1 : f 1 = _ := h1
            have h2 : f 2 = _ := h2
            have h3 : f 3 = _ := h3
            have h4 : f 4 = _ := h4
            have h5 : f 5 = _ := h5
            have h6 : f 6 = _ := h6
            have h7 : f 7 = _ := h7
            have h8 : f 8 = _ := h8
            have h9 : f 9 = _ := h9
            rw [h0, h1, h2, h3, h4, h5, h6, h7, h8, h9]
            clear h0 h1 h2 h3 h4 h5 h6 h7 h8 h9
            simp only [List.drop_succ_cons, List.drop_zero]
            obtain ⟨z0, z1, z2⟩ := hx0 W hB
            obtain ⟨e3, e4⟩ := hee W (.slice A3 l.length c3) hB
            have k3 := hk W hB
            go_wp2
            exact ⟨⟨j + 1, by omega, by go_num, { V' with ll := V'.ll.set n (.slice A3 l.length c3) }, ht', hl', hw', hwl', k3, e3, e4⟩, by simp [intOf]; omega⟩
      · have hfe : fell S.last S.wts P zs j = fell S.last S.wts P zs S.tch.length := by
          rw [show S.tch.length = j + (S.tch.length - j) by omega, fell_stop _ _ _ _ _ _ (by omega)]
        rw [hfe] at hr
        have hPl := HPL.out
        obtain ⟨n, hn⟩ : ∃ n, P[j]? = some n := ⟨_, List.getElem?_eq_getElem (by omega)⟩
        obtain ⟨g, c', hg, _, _, _, _, hcell, _⟩ := hr.tch.at_ (by show 0 < P.length; omega)
        have hg' : V'.tv = .slice (some ⟨g, 0, none⟩) P.length c' := hg
        rw [ht', htv] at hg'
        simp only [Value.slice.injEq] at hg'
        obtain ⟨rfl, -, rfl⟩ := hg'
        have hy := hcell j (.int .i64 (n : Nat)) (by simp [ints, hn])
        have hjx : (j : Int) < (S.tch.length : Int) := by omega
        have hjz' : ¬ (j : Int) < (zs.length : Int) := by omega
        have hjz2 : (zs.length : Int) ≤ (j : Int) := by omega
        clear hcell hz hp hwn hPl
        have hfg := forget_any hr (by intro n hn; show n < (fell S.last S.wts P zs _).length; rw [fell_len]; exact hPin n hn) (by show (fell S.last S.wts P zs _).length ≤ 4096; rw [fell_len]; exact hNf) (by show P.length ≤ 1000000; rw [HPL.out]; exact htl)
        go_wp2_with (first
          | (go_at_call 39; (with_reducible refine hfg.mono ?_); rintro e w3 ⟨rfl, ⟨V3, k3⟩, e3⟩; have hda := disarm_any k3)
          | (go_at_call 40; (with_reducible refine hda.mono ?_); rintro e w4 ⟨rfl, ⟨V4, k4⟩, e4⟩; have x4b := k4.mem.cell 4; have f4b := k4.mem.free 4; have k5 := k4.setX 4 (.bool true) (S' := { S with last := fell S.last S.wts P zs S.tch.length, wts := wiped S.wts P, tch := [], wtg := 0, off := true, arm := 0, picks := [] }) rfl rfl rfl rfl rfl))
        rw [Exit.noGoto_normal]
        refine bodyPost_end (v := .tuple #[]) (by simp [results, Try.results15, go_sem]) rfl ?_
        exact ⟨rfl, ⟨_, k5⟩, effOX ((he.trans e3 fun _ _ h => h).trans e4 fun _ _ h => h) h.ox⟩
    · obtain rfl : j = S.tch.length := by omega
      have hfg := forget_any hr (by intro n hn; show n < (fell S.last S.wts P zs _).length; rw [fell_len]; exact hPin n hn) (by show (fell S.last S.wts P zs _).length ≤ 4096; rw [fell_len]; exact hNf) (by show P.length ≤ 1000000; rw [HPL.out]; exact htl)
      go_wp2_with (first
        | (go_at_call 39; (with_reducible refine hfg.mono ?_); rintro e w3 ⟨rfl, ⟨V3, k3⟩, e3⟩; have hda := disarm_any k3)
        | (go_at_call 40; (with_reducible refine hda.mono ?_); rintro e w4 ⟨rfl, ⟨V4, k4⟩, e4⟩; have x4b := k4.mem.cell 4; have f4b := k4.mem.free 4; have k5 := k4.setX 4 (.bool true) (S' := { S with last := fell S.last S.wts P zs S.tch.length, wts := wiped S.wts P, tch := [], wtg := 0, off := true, arm := 0, picks := [] }) rfl rfl rfl rfl rfl))
      rw [Exit.noGoto_normal]
      refine bodyPost_end (v := .tuple #[]) (by simp [results, Try.results15, go_sem]) rfl ?_
      exact ⟨rfl, ⟨_, k5⟩, effOX ((he.trans e3 fun _ _ h => h).trans e4 fun _ _ h => h) h.ox⟩
end
end Dk
end Go.Proofs.Ytpfackjnnkjjdaa
