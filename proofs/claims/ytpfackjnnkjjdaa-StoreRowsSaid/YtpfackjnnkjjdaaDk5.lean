/- Package disk: Write: contract. -/
import Derived.Test.YtpfackjnnkjjdaaDk4
namespace Go.Proofs.Ytpfackjnnkjjdaa
open Go.ChangeShapes Go.WideShapes Go.ChangeAt Go.RowKit Go.Lib
set_option linter.unusedVariables false
set_option linter.unusedSimpArgs false
namespace Dk
/-- A state that may be: the touched ones are those that have Writes. -/
structure Good (S : DS) : Prop where
  few : S.last.length ≤ 4096
  inT : ∀ n ∈ S.tch, n < S.last.length
  nodup : S.tch.Nodup
  has : ∀ (n : Nat) (L : List (List UInt8)), S.wts[n]? = some L → (n ∈ S.tch ↔ L ≠ [])
  cnt : ∀ (n : Nat) (L : List (List UInt8)), S.wts[n]? = some L → L.length ≤ S.wtg
  tcnt : S.tch.length ≤ S.wtg
/-- What a Write leaves. -/
def DS.wrote (S : DS) (n : Nat) (l : List UInt8) : DS := { S with wts := S.wts.set n (S.wts[n]?.getD [] ++ [l]), tch := if S.wts[n]?.getD [] = [] then S.tch ++ [n] else S.tch, wtg := S.wtg + 1, calls := S.calls + 1 }
/-- A slice stays where its block is none of those that may turn. -/
theorem sl_eff {w w' : World} {B : Nat} {T : Nat → Prop} {v : Value} {n : Nat} {xs : List Value} (h : Sl w B v n xs) (he : Eff T w w') (hB : B ≤ w.heap.size) (hT : ∀ k, k < B → v.ownBlock = some k → ¬ T k) : Sl w' B v n xs := by
  obtain ⟨h0, A, c, rfl, h1, h2, h3⟩ := h
  refine ⟨h0, A, c, rfl, h1, h2, fun hne => ?_⟩
  obtain ⟨b, off, rfl, h4, h5⟩ := h3 hne
  exact ⟨b, off, rfl, h4, fun j u hu => (he.cell (p := ⟨b, off + j, none⟩) (Nat.lt_of_lt_of_le h4 hB) (hT b h4 rfl)).trans (h5 j u hu)⟩
section
variable {w : World} {X : Nat} {O : Nat → Prop} {S : DS} {V : DV}
theorem tb_info : (Try.prog.info? 34).map (fun i => (i.zero, i.size, i.bytes)) = some (some (.slice none 0 0), 1, 24) := by kernel_rfl
theorem int_info : (Try.prog.info? 3).map (fun i => (i.zero, i.size, i.bytes)) = some (some (.int .i64 0), 1, 8) := by kernel_rfl
theorem cells_one {w : World} {g t : Nat} {a : Value} (h : Mem w g t #[a]) : ∀ j u, [a][j]? = some u → w.cell? ((⟨g, 0, none⟩ : Addr).add j) = some u := by
  intro j u hu
  rw [add_plain, Nat.zero_add, h.cell j]
  simpa using hu
set_option maxRecDepth 100000 in
set_option maxHeartbeats 2000000 in
theorem write_some_g (h : DiskM w X O S V) (hG : Good S) (n : Nat) (Ls : List (List UInt8)) (hLs : S.wts[n]? = some Ls) (hne : Ls ≠ []) (hw : S.wtg ≤ 1000000) (hc : S.calls ≤ 4611686018427387904) (v : Value) (l : List UInt8) (Bd : Nat) (hBd : Bd ≤ w.heap.size) (hd : Sl w Bd v l.length (bs l)) (hl : l.length ≤ 512) (hdO : ∀ k, k < Bd → v.ownBlock = some k → ¬ O k) {wp : World} (hab : Calls Try.prog 43 #[.pointer (some ⟨X, 0, none⟩)] wp fun e w' => e = .returned (.int .i64 0) ∧ wp = w') (hhs : Calls Try.prog 44 #[.pointer (some ⟨X, 0, none⟩), .int .i64 (n : Nat)] wp fun e w' => e = .returned (.bool true) ∧ wp = w') (hgo : Calls Try.prog 45 #[.pointer (some ⟨X, 0, none⟩)] wp fun e w' => e = .returned (.bool false) ∧ w = w') :
    Calls Try.prog 21 #[.pointer (some ⟨X, 0, none⟩), .int .i64 (n : Nat), v] wp fun e w' => e = .returned (.int .i64 0) ∧ Goes w w' X O { S with wts := S.wts.set n (Ls ++ [l]), tch := S.tch, wtg := S.wtg + 1, calls := S.calls + 1 } := by
  obtain ⟨i0, hi, hz0, hz1, hz2⟩ := info_parts (show (Try.prog.info? 5).map (fun i => (i.zero, i.size, i.bytes)) = some (some (.int .u8 0), 1, 1) by kernel_rfl)
  obtain ⟨i1, hi1, hy0, hy1, hy2⟩ := info_parts tb_info
  obtain ⟨i2, hi2, hq0, hq1, hq2⟩ := info_parts int_info
  have hn : n < S.last.length := by have := (List.getElem?_eq_some_iff.1 hLs).1; have := h.lens; omega
  obtain ⟨A, c, rfl, hc1, hc2⟩ := hd.form
  obtain ⟨gw, cw, hgw, hw1, hw2, hOw, hltw, hwc, hwf⟩ := h.waits.row.at_ (by have := h.lens; omega)
  rw [h.lens] at hgw hw1
  have hNf : (S.last.length : Int) ≤ 4096 := by have := hG.few; omega
  obtain ⟨v0, D, hv0, hb0⟩ : ∃ v0 D, V.wl[n]? = some v0 ∧ BRow w O v0 Ls D := by
    obtain ⟨v0, D, h1, h2⟩ := h.waits.get (j := n) (by have := h.lens; omega)
    obtain rfl : S.wts[n]'(by have := h.lens; omega) = Ls := by rw [List.getElem?_eq_getElem (by have := h.lens; omega)] at hLs; exact Option.some.inj hLs
    exact ⟨v0, D, h1, h2⟩
  obtain ⟨A0, c0, rfl, hc3, hc4⟩ := hb0.row.form
  have hLn := hG.cnt n Ls hLs
  have hLx : (Ls.length : Int) ≤ 1000000 := by omega
  have hn1 : (n : Int) < (S.last.length : Int) := by omega
  have hlx : (l.length : Int) ≤ 512 := by omega
  have x1 : w.cell? ⟨X, 1, none⟩ = some V.wv := h.mem.cell 1
  rw [hgw] at x1
  have y1 := hwc n _ hv0
  have hX1 : ∀ W, Eff (fun k => (Value.slice A0 Ls.length c0).ownBlock = some k) w W → W.cell? ⟨X, 1, none⟩ = some (.slice (some ⟨gw, 0, none⟩) S.last.length cw) := fun W hW => (hW.cell (p := ⟨X, 1, none⟩) h.mem.lt (fun e => (hb0.row.tag e).ne (mem_tag h.mem) (by decide) rfl)).trans x1
  have hX2 : ∀ W, Eff (fun k => (Value.slice A0 Ls.length c0).ownBlock = some k) w W → W.cell? ⟨gw, n, none⟩ = some (.slice A0 Ls.length c0) := fun W hW => (hW.cell (p := ⟨gw, n, none⟩) (h.lt gw (h.waits.row.own gw (by show Value.ownBlock V.wv = _; rw [hgw]; rfl))) (fun e => (hb0.row.tag e).ne (h.waits.row.tag (k := gw) (by show Value.ownBlock V.wv = _; rw [hgw]; rfl)) (by decide) rfl)).trans y1
  have hDat : ∀ (u : Value) (W W' : World), Eff (fun k => (Value.slice A0 Ls.length c0).ownBlock = some k) W W' → W.ownsRow w.heap.size 5 1 u l.length (bs l) → W'.ownsRow w.heap.size 5 1 u l.length (bs l) := fun u W W' hb hu => owns_eff hu hb fun k hk hS => by
    have h1 := (own_tag hu k hk).1
    have h2 := hb0.row.lt hS
    omega
  have hLit : ∀ (x : Value) (W W' : World), Eff (fun k => (Value.slice A0 Ls.length c0).ownBlock = some k) W W' → (∃ g, x = .slice (some ⟨g, 0, none⟩) 1 1 ∧ w.heap.size ≤ g ∧ ∃ u, Mem W g 34 #[u] ∧ W.ownsRow w.heap.size 5 1 u l.length (bs l) ∧ u.oneCell' = true) → ∃ g, x = .slice (some ⟨g, 0, none⟩) 1 1 ∧ w.heap.size ≤ g ∧ ∃ u, Mem W' g 34 #[u] ∧ W'.ownsRow w.heap.size 5 1 u l.length (bs l) ∧ u.oneCell' = true := by
    rintro x W W' hb ⟨g, h1, h2, u, h3, h4, h5⟩
    refine ⟨g, h1, h2, u, h3.eff hb fun hS => ?_, hDat u W W' hb h4, h5⟩
    have := hb0.row.lt hS
    omega
  have hFr : ∀ (x : Value) (W W' : World), Below W.heap.size W W' → (∃ u, W.ownsRow 0 34 1 x (Ls.length + 1) (D ++ [u]) ∧ W.ownsRow w.heap.size 5 1 u l.length (bs l) ∧ (x.ownBlock = (Value.slice A0 Ls.length c0).ownBlock ∨ ∃ k, x.ownBlock = some k ∧ w.heap.size ≤ k)) → ∃ u, W'.ownsRow 0 34 1 x (Ls.length + 1) (D ++ [u]) ∧ W'.ownsRow w.heap.size 5 1 u l.length (bs l) ∧ (x.ownBlock = (Value.slice A0 Ls.length c0).ownBlock ∨ ∃ k, x.ownBlock = some k ∧ w.heap.size ≤ k) := by
    rintro x W W' hb ⟨u, h1, h2, h3⟩
    exact ⟨u, owns_below h1 hb, owns_below h2 hb, h3⟩
  have hSl : ∀ W, Eff (fun k => (Value.slice A0 Ls.length c0).ownBlock = some k) w W → Sl W Bd (.slice A l.length c) l.length (bs l) := fun W hW => sl_eff hd hW hBd fun k hk1 hk hS => hdO k hk1 hk (hb0.row.own k hS)
  have hRow : ∀ W, Below w.heap.size w W → W.ownsRow 0 34 1 (.slice A0 Ls.length c0) Ls.length D := fun W hW => owns_below hb0.row.row hW
  have hL0 : ¬ (Ls.length : Int) = 0 := by intro e; exact hne (List.eq_nil_of_length_eq_zero (by omega))
  go_enter Try.func21, Try.ntmps21
  go_wp2_with (first
    | (go_at_call 43; (with_reducible refine hab.mono ?_); rintro e w1 ⟨rfl, rfl⟩)
    | (go_at_call 44; (with_reducible refine hhs.mono ?_); rintro e w1 ⟨rfl, rfl⟩)
    | (go_at_call 45; (with_reducible refine hgo.mono ?_); rintro e w1 ⟨rfl, rfl⟩))
  apply CalmR.calm_tail (R := effR (fun k => (Value.slice A0 Ls.length c0).ownBlock = some k)) 16 [.is (.pointer (some ⟨X, 0, none⟩)), .is (.pointer (some ⟨X, 0, none⟩)), .is (.pointer (some ⟨X, 1, none⟩)), .is (.slice (some ⟨gw, 0, none⟩) S.last.length cw), .is (.int .i64 (n : Nat)), .is (.pointer (some ⟨X, 0, none⟩)), .is (.pointer (some ⟨X, 0, none⟩)), .is (.pointer (some ⟨X, 1, none⟩)), .is (.slice (some ⟨gw, 0, none⟩) S.last.length cw), .is (.int .i64 (n : Nat)), .is (.pointer (some ⟨gw, n, none⟩)), .is (.slice A0 Ls.length c0), .is (.slice A l.length c), .of (fun u W => W.ownsRow w.heap.size 5 1 u l.length (bs l)) (fun u W W' hb hu => hDat u W W' hb hu), .of (fun x W => ∃ g, x = .slice (some ⟨g, 0, none⟩) 1 1 ∧ w.heap.size ≤ g ∧ ∃ u, Mem W g 34 #[u] ∧ W.ownsRow w.heap.size 5 1 u l.length (bs l) ∧ u.oneCell' = true) (fun x W W' hb hx => hLit x W W' hb hx), .frail (fun x W => ∃ u, W.ownsRow 0 34 1 x (Ls.length + 1) (D ++ [u]) ∧ W.ownsRow w.heap.size 5 1 u l.length (bs l) ∧ (x.ownBlock = (Value.slice A0 Ls.length c0).ownBlock ∨ ∃ k, x.ownBlock = some k ∧ w.heap.size ≤ k)) (fun x W W' hb hx => hFr x W W' hb hx)] [[], [0], [1], [2], [], [], [5], [6], [7], [], [8, 9], [10], [], [12], [13], [11, 14, 13]] (by kernel_rfl) (by kernel_rfl) (by kernel_rfl) rfl rfl
  intro f a1 ha1
  simp only [List.take_succ_cons, List.take_zero, putL, Act.put, List.setIfInBounds_toArray, List.set_cons_succ, List.set_cons_zero] at ha1
  subst ha1
  refine ⟨?_, ?_⟩
  · refine CalmR.AllCalm.cons (fun W hB hd => ?_) ?_
    · have hB : Eff (fun k => (Value.slice A0 Ls.length c0).ownBlock = some k) _ W := hB
      go_wp2_with (fail)
      exact CalmR.CalmQ.mk rfl _ rfl (Below.refl _ _) rfl
    refine CalmR.AllCalm.cons (fun W hB hd => ?_) ?_
    · have hB : Eff (fun k => (Value.slice A0 Ls.length c0).ownBlock = some k) _ W := hB
      obtain ⟨h0, -⟩ := hd
      have h0 : f 0 = _ := h0
      rw [h0]
      go_wp2_with (fail)
      exact CalmR.CalmQ.mk rfl _ rfl (Below.refl _ _) rfl
    refine CalmR.AllCalm.cons (fun W hB hd => ?_) ?_
    · have hB : Eff (fun k => (Value.slice A0 Ls.length c0).ownBlock = some k) _ W := hB
      obtain ⟨h1, -⟩ := hd
      have h1 : f 1 = _ := h1
      rw [h1]
      go_wp2_with (fail)
      exact CalmR.CalmQ.mk rfl _ rfl (Below.refl _ _) rfl
    refine CalmR.AllCalm.cons (fun W hB hd => ?_) ?_
    · have hB : Eff (fun k => (Value.slice A0 Ls.length c0).ownBlock = some k) _ W := hB
      obtain ⟨h2, -⟩ := hd
      have h2 : f 2 = _ := h2
      rw [h2]
      have z1 := hX1 W hB
      go_wp2_with (fail)
      exact CalmR.CalmQ.mk rfl _ rfl (Below.refl _ _) rfl
    refine CalmR.AllCalm.cons (fun W hB hd => ?_) ?_
    · have hB : Eff (fun k => (Value.slice A0 Ls.length c0).ownBlock = some k) _ W := hB
      go_wp2_with (fail)
      exact CalmR.CalmQ.mk rfl _ rfl (Below.refl _ _) rfl
    refine CalmR.AllCalm.cons (fun W hB hd => ?_) ?_
    · have hB : Eff (fun k => (Value.slice A0 Ls.length c0).ownBlock = some k) _ W := hB
      go_wp2_with (fail)
      exact CalmR.CalmQ.mk rfl _ rfl (Below.refl _ _) rfl
    refine CalmR.AllCalm.cons (fun W hB hd => ?_) ?_
    · have hB : Eff (fun k => (Value.slice A0 Ls.length c0).ownBlock = some k) _ W := hB
      obtain ⟨h5, -⟩ := hd
      have h5 : f 5 = _ := h5
      rw [h5]
      go_wp2_with (fail)
      exact CalmR.CalmQ.mk rfl _ rfl (Below.refl _ _) rfl
    refine CalmR.AllCalm.cons (fun W hB hd => ?_) ?_
    · have hB : Eff (fun k => (Value.slice A0 Ls.length c0).ownBlock = some k) _ W := hB
      obtain ⟨h6, -⟩ := hd
      have h6 : f 6 = _ := h6
      rw [h6]
      go_wp2_with (fail)
      exact CalmR.CalmQ.mk rfl _ rfl (Below.refl _ _) rfl
    refine CalmR.AllCalm.cons (fun W hB hd => ?_) ?_
    · have hB : Eff (fun k => (Value.slice A0 Ls.length c0).ownBlock = some k) _ W := hB
      obtain ⟨h7, -⟩ := hd
      have h7 : f 7 = _ := h7
      rw [h7]
      have z1 := hX1 W hB
      go_wp2_with (fail)
      exact CalmR.CalmQ.mk rfl _ rfl (Below.refl _ _) rfl
    refine CalmR.AllCalm.cons (fun W hB hd => ?_) ?_
    · have hB : Eff (fun k => (Value.slice A0 Ls.length c0).ownBlock = some k) _ W := hB
      go_wp2_with (fail)
      exact CalmR.CalmQ.mk rfl _ rfl (Below.refl _ _) rfl
    refine CalmR.AllCalm.cons (fun W hB hd => ?_) ?_
    · have hB : Eff (fun k => (Value.slice A0 Ls.length c0).ownBlock = some k) _ W := hB
      obtain ⟨h8, h9, -⟩ := hd
      have h8 : f 8 = _ := h8
      have h9 : f 9 = _ := h9
      rw [h8, h9]
      go_wp2_with (fail)
      exact CalmR.CalmQ.mk rfl _ rfl (Below.refl _ _) rfl
    refine CalmR.AllCalm.cons (fun W hB hd => ?_) ?_
    · have hB : Eff (fun k => (Value.slice A0 Ls.length c0).ownBlock = some k) _ W := hB
      obtain ⟨h10, -⟩ := hd
      have h10 : f 10 = _ := h10
      rw [h10]
      have z1 := hX2 W hB
      go_wp2_with (fail)
      exact CalmR.CalmQ.mk rfl _ rfl (Below.refl _ _) rfl
    refine CalmR.AllCalm.cons (fun W hB hd => ?_) ?_
    · have hB : Eff (fun k => (Value.slice A0 Ls.length c0).ownBlock = some k) _ W := hB
      go_wp2_with (fail)
      exact CalmR.CalmQ.mk rfl _ rfl (Below.refl _ _) rfl
    refine CalmR.AllCalm.cons (fun W hB hd => ?_) ?_
    · have hB : Eff (fun k => (Value.slice A0 Ls.length c0).ownBlock = some k) _ W := hB
      obtain ⟨h12, -⟩ := hd
      have h12 : f 12 = _ := h12
      rw [h12]
      have hdW := hSl W hB
      go_wp2_with ((at_builtin; (refine wpList_append_sl _ rfl (.const (.slice none 0 0)) (.tmp 55) _ rfl w.heap.size 5 i0 _ Try.underlying34 hi hz0 hz1 (by omega) rfl (.slice none 0 0) 0 [] rfl (World.ownsRow_nil _ _ _ _) Bd (.slice A l.length c) l.length (bs l) rfl hdW bs_one (by omega) hB.size ?_); intro v6 w6 ho6 hg6 hat6))
      have ho6' : w6.ownsRow w.heap.size 5 1 v6 l.length (bs l) := (by simpa using ho6); exact CalmR.CalmQ.mk rfl _ rfl ((Below.refl _ W).grown hg6 (Nat.le_refl _) (fun k hk => by cases hk)) ho6'
    refine CalmR.AllCalm.cons (fun W hB hd => ?_) ?_
    · have hB : Eff (fun k => (Value.slice A0 Ls.length c0).ownBlock = some k) _ W := hB
      obtain ⟨h13, -⟩ := hd
      obtain ⟨A3, c3, e3, _, _⟩ := own_form h13; have h13 : W.ownsRow w.heap.size 5 1 (f 13) l.length (bs l) := h13; rw [e3] at h13; rw [e3]
      go_wp2_with (fail)
      exact CalmR.CalmQ.mk rfl _ rfl ((Below.refl _ W).alloc (Nat.le_refl _) _) ⟨_, rfl, hB.size, _, Mem.new _ _ _, owns_below h13 ((Below.refl _ _).alloc (Nat.le_refl _) _), rfl⟩
    refine CalmR.AllCalm.cons (fun W hB hd => ?_) ?_
    · have hB : Below _ _ W := hB
      obtain ⟨h11, h14, h13, -⟩ := hd
      have h11 : f 11 = _ := h11
      rw [h11]
      obtain ⟨g14, e14, hg14, u14, hm14, hu14, ho14⟩ := h14; rw [e14]; have hrW := hRow W hB
      go_wp2_with ((at_builtin; (refine wpList_append_at _ rfl (.tmp 54) (.tmp 57) _ rfl 0 34 i1 _ 1 24 Try.underlying43 hi1 hy0 hy1 hy2 rfl (by decide) (.slice A0 Ls.length c0) Ls.length D rfl hrW ⟨g14, 0, none⟩ 1 1 [u14] rfl rfl (cells_one hm14) (by simpa using ho14) (by unfold maxLen; omega) (by omega) (Nat.zero_le _) ?_); intro v6 w6 ho6 hg6 hat6))
      exact CalmR.CalmQ.mk rfl _ rfl (eff_grown hg6) ⟨u14, ho6, hDat _ _ _ (eff_grown hg6) hu14, hat6.imp id fun e => ⟨_, e, hB.size⟩⟩
    exact CalmR.AllCalm.nil
  · intro W hB hT
    have hB : Eff (fun k => (Value.slice A0 Ls.length c0).ownBlock = some k) _ W := hB
    obtain ⟨h0, h1, h2, h3, h4, h5, h6, h7, h8, h9, h10, h11, h12, h13, h14, h15, -⟩ := hT
    have h0 : f 0 = _ := h0
    have h1 : f 1 = _ := h1
    have h2 : f 2 = _ := h2
    have h3 : f 3 = _ := h3
    have h4 : f 4 = _ := h4
    have h5 : f 5 = _ := h5
    have h6 : f 6 = _ := h6
    have h7 : f 7 = _ := h7
    have h8 : f 8 = _ := h8
    have h9 : f 9 = _ := h9
    have h10 : f 10 = _ := h10
    have h11 : f 11 = _ := h11
    have h12 : f 12 = _ := h12
    rw [h0, h1, h2, h3, h4, h5, h6, h7, h8, h9, h10, h11, h12]
    clear h0 h1 h2 h3 h4 h5 h6 h7 h8 h9 h10 h11 h12
    simp only [List.drop_succ_cons, List.drop_zero]
    obtain ⟨u, ho15, hu15, hat15⟩ := h15
    obtain ⟨A6, c6, e15, _, _⟩ := own_form ho15
    have ho15 : W.ownsRow 0 34 1 (f 15) (Ls.length + 1) (D ++ [u]) := ho15
    have hat15 : (f 15).ownBlock = (Value.slice A0 Ls.length c0).ownBlock ∨ ∃ k, (f 15).ownBlock = some k ∧ w.heap.size ≤ k := hat15
    rw [e15] at ho15 hat15 ⊢
    obtain ⟨k1, k2, k3, k4⟩ := h.pushW hv0 hLs hgw hB hb0 ho15 hu15 hl hat15
    have z3 : (W.setCell ⟨gw, n, none⟩ (.slice A6 (Ls.length + 1) c6)).cell? ⟨X, 3, none⟩ = some (.int .i64 (S.wtg : Nat)) := k1.mem.cell 3
    have f3 := k1.mem.free 3
    have k5 := k1.setX 3 (.int .i64 ((S.wtg : Int) + 1)) (S' := { S with wts := S.wts.set n (Ls ++ [l]), wtg := S.wtg + 1 }) rfl rfl rfl rfl rfl
    have k6 := k5.setX 6 (.int .i64 ((S.calls : Int) + 1)) (S' := { S with wts := S.wts.set n (Ls ++ [l]), wtg := S.wtg + 1, calls := S.calls + 1 }) rfl rfl rfl rfl rfl
    have z6 : ((W.setCell ⟨gw, n, none⟩ (.slice A6 (Ls.length + 1) c6)).setCell ⟨X, 3, none⟩ (.int .i64 ((S.wtg : Int) + 1))).cell? ⟨X, 6, none⟩ = some (.int .i64 (S.calls : Nat)) := k5.mem.cell 6
    have f6 := k5.mem.free 6
    have hgo2 : Goes w ((((W.setCell ⟨gw, n, none⟩ (.slice A6 (Ls.length + 1) c6)).setCell ⟨X, 3, none⟩ (.int .i64 ((S.wtg : Int) + 1))).setCell ⟨X, 6, none⟩ (.int .i64 ((S.calls : Int) + 1)))) X O _ := ⟨_, _, k6, effOX (effOX k2 h.ox) h.ox, fun k hk => hk.imp id fun h => h.1⟩
    go_wp2
    go_ret
    exact ⟨rfl, hgo2⟩
set_option maxRecDepth 100000 in
set_option maxHeartbeats 2000000 in
theorem write_none_g (h : DiskM w X O S V) (hG : Good S) (n : Nat) (hLs : S.wts[n]? = some []) (hw : S.wtg ≤ 1000000) (hc : S.calls ≤ 4611686018427387904) (v : Value) (l : List UInt8) (Bd : Nat) (hBd : Bd ≤ w.heap.size) (hd : Sl w Bd v l.length (bs l)) (hl : l.length ≤ 512) (hdO : ∀ k, k < Bd → v.ownBlock = some k → ¬ O k) {wp : World} (hab : Calls Try.prog 43 #[.pointer (some ⟨X, 0, none⟩)] wp fun e w' => e = .returned (.int .i64 0) ∧ wp = w') (hhs : Calls Try.prog 44 #[.pointer (some ⟨X, 0, none⟩), .int .i64 (n : Nat)] wp fun e w' => e = .returned (.bool true) ∧ wp = w') (hgo : Calls Try.prog 45 #[.pointer (some ⟨X, 0, none⟩)] wp fun e w' => e = .returned (.bool false) ∧ w = w') :
    Calls Try.prog 21 #[.pointer (some ⟨X, 0, none⟩), .int .i64 (n : Nat), v] wp fun e w' => e = .returned (.int .i64 0) ∧ Goes w w' X O { S with wts := S.wts.set n [l], tch := S.tch ++ [n], wtg := S.wtg + 1, calls := S.calls + 1 } := by
  obtain ⟨i0, hi, hz0, hz1, hz2⟩ := info_parts (show (Try.prog.info? 5).map (fun i => (i.zero, i.size, i.bytes)) = some (some (.int .u8 0), 1, 1) by kernel_rfl)
  obtain ⟨i1, hi1, hy0, hy1, hy2⟩ := info_parts tb_info
  obtain ⟨i2, hi2, hq0, hq1, hq2⟩ := info_parts int_info
  have hn : n < S.last.length := by have := (List.getElem?_eq_some_iff.1 hLs).1; have := h.lens; omega
  obtain ⟨A, c, rfl, hc1, hc2⟩ := hd.form
  obtain ⟨gw, cw, hgw, hw1, hw2, hOw, hltw, hwc, hwf⟩ := h.waits.row.at_ (by have := h.lens; omega)
  rw [h.lens] at hgw hw1
  have hNf : (S.last.length : Int) ≤ 4096 := by have := hG.few; omega
  obtain ⟨At, ct, htv, ht1, ht2⟩ := h.tch.form
  have hrT := fun o => owns_below h.tch.row ((Below.refl _ w).alloc (Nat.le_refl _) o)
  rw [htv] at hrT
  have x2 : w.cell? ⟨X, 2, none⟩ = some V.tv := h.mem.cell 2
  rw [htv] at x2
  have x2a : ∀ o, (w.alloc o).cell? ⟨X, 2, none⟩ = some (.slice At S.tch.length ct) := fun o => Lib.cell?_alloc_some o x2
  have htl : S.tch.length ≤ 1000000 := by have := hG.tcnt; omega
  have htx : (S.tch.length : Int) ≤ 1000000 := by omega
  obtain ⟨v0', D', hv0', hb0'⟩ : ∃ v0 D, V.wl[n]? = some v0 ∧ BRow w O v0 [] D := by
    obtain ⟨v0, D, h1, h2⟩ := h.waits.get (j := n) (by have := h.lens; omega)
    obtain e : S.wts[n]'(by have := h.lens; omega) = [] := by rw [List.getElem?_eq_getElem (by have := h.lens; omega)] at hLs; exact Option.some.inj hLs
    rw [e] at h2
    exact ⟨v0, D, h1, h2⟩
  obtain ⟨A0', c0', rfl, hc3', hc4'⟩ := hb0'.row.form
  have y1' := hwc n _ hv0'
  have hn1 : (n : Int) < (S.last.length : Int) := by omega
  have hlx : (l.length : Int) ≤ 512 := by omega
  have x1 : w.cell? ⟨X, 1, none⟩ = some V.wv := h.mem.cell 1
  rw [hgw] at x1
  have hpu := fun (w6 : World) (v6 : Value) (hg : (w.alloc (.cells #[.int .i64 (n : Nat)] 3)).grownBy w6 (Value.slice At S.tch.length ct).ownBlock) (ho : w6.ownsRow 0 3 1 v6 (S.tch.length + 1) (ints S.tch ++ [.int .i64 (n : Nat)])) hat => h.pushT ((Below.refl _ w).alloc (Nat.le_refl _) _) (htv ▸ hg) ho (htv ▸ hat)
  have hLL : ((([] : List (List UInt8)).length : Nat) : Int) = 0 := rfl
  go_enter Try.func21, Try.ntmps21
  go_wp2_with (first
    | (go_at_call 43; (with_reducible refine hab.mono ?_); rintro e w1 ⟨rfl, rfl⟩)
    | (go_at_call 44; (with_reducible refine hhs.mono ?_); rintro e w1 ⟨rfl, rfl⟩)
    | (go_at_call 45; (with_reducible refine hgo.mono ?_); rintro e w1 ⟨rfl, rfl⟩)
    | (at_builtin; (refine wpList_append_at _ rfl (.tmp 37) (.tmp 39) _ rfl 0 3 i2 _ 1 8 Try.underlying50 hi2 hq0 hq1 hq2 rfl (by decide) (.slice At S.tch.length ct) S.tch.length (ints S.tch) rfl (hrT _) ⟨w.heap.size, 0, none⟩ 1 1 [.int .i64 (n : Nat)] rfl rfl (cells_one (Mem.new w _ _)) (by simp [Value.oneCell']) (by unfold maxLen; omega) (by omega) (Nat.zero_le _) ?_); intro v6 w6 ho6 hg6 hat6; obtain ⟨A7, c7, e7, _, _⟩ := own_form ho6; subst e7; obtain ⟨k1, k2, k3, k4⟩ := hpu w6 _ hg6 ho6 hat6; rw [htv] at k3))
  generalize hw7 : w6.setCell ⟨X, 2, none⟩ (.slice A7 (S.tch.length + 1) c7) = w7 at *
  have hd := sl_eff hd k2 hBd hdO
  have hwl7 : w.heap.size ≤ w7.heap.size := k2.size
  obtain ⟨Ls, hLe⟩ : ∃ L : List (List UInt8), L = [] := ⟨_, rfl⟩
  rw [← hLe] at hLs
  have HLe := Lib.hid hLe
  clear hLe hw7
  obtain ⟨v0, D, hv0, hb0⟩ : ∃ v0 D, V.wl[n]? = some v0 ∧ BRow w7 (OM O w w6) v0 Ls D := by
    obtain ⟨v0, D, h1, h2⟩ := k1.waits.get (j := n) (by show n < S.wts.length; have := h.lens; omega)
    obtain rfl : S.wts[n]'(by have := h.lens; omega) = Ls := by rw [List.getElem?_eq_getElem (by have := h.lens; omega)] at hLs; exact Option.some.inj hLs
    exact ⟨v0, D, h1, h2⟩
  obtain ⟨A0, c0, rfl, hc3, hc4⟩ := hb0.row.form
  have hLx0 : Ls.length ≤ 1000000 := by rw [HLe.out]; exact Nat.zero_le _
  have hLx : (Ls.length : Int) ≤ 1000000 := by omega
  clear x1 y1'
  have x1 : w7.cell? ⟨X, 1, none⟩ = some V.wv := k1.mem.cell 1
  rw [hgw] at x1
  obtain ⟨gw', cw', hgw', _, _, _, _, hwc7, hwf7⟩ := k1.waits.row.at_ (by show 0 < S.wts.length; have := h.lens; omega)
  have hgw2 : (Value.slice (some ⟨gw, 0, none⟩) S.last.length cw) = .slice (some ⟨gw', 0, none⟩) S.wts.length cw' := hgw.symm.trans hgw'
  simp only [Value.slice.injEq, Option.some.injEq, Addr.mk.injEq, and_true] at hgw2
  obtain ⟨rfl, _, rfl⟩ := hgw2
  have y1 := hwc7 n _ hv0
  have hX1 : ∀ W, Eff (fun k => (Value.slice A0 Ls.length c0).ownBlock = some k) w7 W → W.cell? ⟨X, 1, none⟩ = some (.slice (some ⟨gw, 0, none⟩) S.last.length cw) := fun W hW => (hW.cell (p := ⟨X, 1, none⟩) k1.mem.lt (fun e => (hb0.row.tag e).ne (mem_tag k1.mem) (by decide) rfl)).trans x1
  have hX2 : ∀ W, Eff (fun k => (Value.slice A0 Ls.length c0).ownBlock = some k) w7 W → W.cell? ⟨gw, n, none⟩ = some (.slice A0 Ls.length c0) := fun W hW => (hW.cell (p := ⟨gw, n, none⟩) (k1.lt gw (k1.waits.row.own gw (by show Value.ownBlock V.wv = _; rw [hgw]; rfl))) (fun e => (hb0.row.tag e).ne (k1.waits.row.tag (k := gw) (by show Value.ownBlock V.wv = _; rw [hgw]; rfl)) (by decide) rfl)).trans y1
  have hDat : ∀ (u : Value) (W W' : World), Eff (fun k => (Value.slice A0 Ls.length c0).ownBlock = some k) W W' → W.ownsRow w7.heap.size 5 1 u l.length (bs l) → W'.ownsRow w7.heap.size 5 1 u l.length (bs l) := fun u W W' hb hu => owns_eff hu hb fun k hk hS => by
    have h1 := (own_tag hu k hk).1
    have h2 := hb0.row.lt hS
    omega
  have hLit : ∀ (x : Value) (W W' : World), Eff (fun k => (Value.slice A0 Ls.length c0).ownBlock = some k) W W' → (∃ g, x = .slice (some ⟨g, 0, none⟩) 1 1 ∧ w7.heap.size ≤ g ∧ ∃ u, Mem W g 34 #[u] ∧ W.ownsRow w7.heap.size 5 1 u l.length (bs l) ∧ u.oneCell' = true) → ∃ g, x = .slice (some ⟨g, 0, none⟩) 1 1 ∧ w7.heap.size ≤ g ∧ ∃ u, Mem W' g 34 #[u] ∧ W'.ownsRow w7.heap.size 5 1 u l.length (bs l) ∧ u.oneCell' = true := by
    rintro x W W' hb ⟨g, h1, h2, u, h3, h4, h5⟩
    refine ⟨g, h1, h2, u, h3.eff hb fun hS => ?_, hDat u W W' hb h4, h5⟩
    have := hb0.row.lt hS
    omega
  have hFr : ∀ (x : Value) (W W' : World), Below W.heap.size W W' → (∃ u, W.ownsRow 0 34 1 x (Ls.length + 1) (D ++ [u]) ∧ W.ownsRow w7.heap.size 5 1 u l.length (bs l) ∧ (x.ownBlock = (Value.slice A0 Ls.length c0).ownBlock ∨ ∃ k, x.ownBlock = some k ∧ w7.heap.size ≤ k)) → ∃ u, W'.ownsRow 0 34 1 x (Ls.length + 1) (D ++ [u]) ∧ W'.ownsRow w7.heap.size 5 1 u l.length (bs l) ∧ (x.ownBlock = (Value.slice A0 Ls.length c0).ownBlock ∨ ∃ k, x.ownBlock = some k ∧ w7.heap.size ≤ k) := by
    rintro x W W' hb ⟨u, h1, h2, h3⟩
    exact ⟨u, owns_below h1 hb, owns_below h2 hb, h3⟩
  have hSl : ∀ W, Eff (fun k => (Value.slice A0 Ls.length c0).ownBlock = some k) w7 W → Sl W Bd (.slice A l.length c) l.length (bs l) := fun W hW => sl_eff hd hW (Nat.le_trans hBd hwl7) fun k hk1 hk hS => hdO k hk1 hk ((hb0.row.own k hS).elim id fun h => by omega)
  have hRow : ∀ W, Below w7.heap.size w7 W → W.ownsRow 0 34 1 (.slice A0 Ls.length c0) Ls.length D := fun W hW => owns_below hb0.row.row hW
  apply CalmR.calm_tail (R := effR (fun k => (Value.slice A0 Ls.length c0).ownBlock = some k)) 16 [.is (.pointer (some ⟨X, 0, none⟩)), .is (.pointer (some ⟨X, 0, none⟩)), .is (.pointer (some ⟨X, 1, none⟩)), .is (.slice (some ⟨gw, 0, none⟩) S.last.length cw), .is (.int .i64 (n : Nat)), .is (.pointer (some ⟨X, 0, none⟩)), .is (.pointer (some ⟨X, 0, none⟩)), .is (.pointer (some ⟨X, 1, none⟩)), .is (.slice (some ⟨gw, 0, none⟩) S.last.length cw), .is (.int .i64 (n : Nat)), .is (.pointer (some ⟨gw, n, none⟩)), .is (.slice A0 Ls.length c0), .is (.slice A l.length c), .of (fun u W => W.ownsRow w7.heap.size 5 1 u l.length (bs l)) (fun u W W' hb hu => hDat u W W' hb hu), .of (fun x W => ∃ g, x = .slice (some ⟨g, 0, none⟩) 1 1 ∧ w7.heap.size ≤ g ∧ ∃ u, Mem W g 34 #[u] ∧ W.ownsRow w7.heap.size 5 1 u l.length (bs l) ∧ u.oneCell' = true) (fun x W W' hb hx => hLit x W W' hb hx), .frail (fun x W => ∃ u, W.ownsRow 0 34 1 x (Ls.length + 1) (D ++ [u]) ∧ W.ownsRow w7.heap.size 5 1 u l.length (bs l) ∧ (x.ownBlock = (Value.slice A0 Ls.length c0).ownBlock ∨ ∃ k, x.ownBlock = some k ∧ w7.heap.size ≤ k)) (fun x W W' hb hx => hFr x W W' hb hx)] [[], [0], [1], [2], [], [], [5], [6], [7], [], [8, 9], [10], [], [12], [13], [11, 14, 13]] (by kernel_rfl) (by kernel_rfl) (by kernel_rfl) rfl rfl
  intro f a1 ha1
  simp only [List.take_succ_cons, List.take_zero, putL, Act.put, List.setIfInBounds_toArray, List.set_cons_succ, List.set_cons_zero] at ha1
  subst ha1
  refine ⟨?_, ?_⟩
  · refine CalmR.AllCalm.cons (fun W hB hd => ?_) ?_
    · have hB : Eff (fun k => (Value.slice A0 Ls.length c0).ownBlock = some k) _ W := hB
      go_wp2_with (fail)
      exact CalmR.CalmQ.mk rfl _ rfl (Below.refl _ _) rfl
    refine CalmR.AllCalm.cons (fun W hB hd => ?_) ?_
    · have hB : Eff (fun k => (Value.slice A0 Ls.length c0).ownBlock = some k) _ W := hB
      obtain ⟨h0, -⟩ := hd
      have h0 : f 0 = _ := h0
      rw [h0]
      go_wp2_with (fail)
      exact CalmR.CalmQ.mk rfl _ rfl (Below.refl _ _) rfl
    refine CalmR.AllCalm.cons (fun W hB hd => ?_) ?_
    · have hB : Eff (fun k => (Value.slice A0 Ls.length c0).ownBlock = some k) _ W := hB
      obtain ⟨h1, -⟩ := hd
      have h1 : f 1 = _ := h1
      rw [h1]
      go_wp2_with (fail)
      exact CalmR.CalmQ.mk rfl _ rfl (Below.refl _ _) rfl
    refine CalmR.AllCalm.cons (fun W hB hd => ?_) ?_
    · have hB : Eff (fun k => (Value.slice A0 Ls.length c0).ownBlock = some k) _ W := hB
      obtain ⟨h2, -⟩ := hd
      have h2 : f 2 = _ := h2
      rw [h2]
      have z1 := hX1 W hB
      go_wp2_with (fail)
      exact CalmR.CalmQ.mk rfl _ rfl (Below.refl _ _) rfl
    refine CalmR.AllCalm.cons (fun W hB hd => ?_) ?_
    · have hB : Eff (fun k => (Value.slice A0 Ls.length c0).ownBlock = some k) _ W := hB
      go_wp2_with (fail)
      exact CalmR.CalmQ.mk rfl _ rfl (Below.refl _ _) rfl
    refine CalmR.AllCalm.cons (fun W hB hd => ?_) ?_
    · have hB : Eff (fun k => (Value.slice A0 Ls.length c0).ownBlock = some k) _ W := hB
      go_wp2_with (fail)
      exact CalmR.CalmQ.mk rfl _ rfl (Below.refl _ _) rfl
    refine CalmR.AllCalm.cons (fun W hB hd => ?_) ?_
    · have hB : Eff (fun k => (Value.slice A0 Ls.length c0).ownBlock = some k) _ W := hB
      obtain ⟨h5, -⟩ := hd
      have h5 : f 5 = _ := h5
      rw [h5]
      go_wp2_with (fail)
      exact CalmR.CalmQ.mk rfl _ rfl (Below.refl _ _) rfl
    refine CalmR.AllCalm.cons (fun W hB hd => ?_) ?_
    · have hB : Eff (fun k => (Value.slice A0 Ls.length c0).ownBlock = some k) _ W := hB
      obtain ⟨h6, -⟩ := hd
      have h6 : f 6 = _ := h6
      rw [h6]
      go_wp2_with (fail)
      exact CalmR.CalmQ.mk rfl _ rfl (Below.refl _ _) rfl
    refine CalmR.AllCalm.cons (fun W hB hd => ?_) ?_
    · have hB : Eff (fun k => (Value.slice A0 Ls.length c0).ownBlock = some k) _ W := hB
      obtain ⟨h7, -⟩ := hd
      have h7 : f 7 = _ := h7
      rw [h7]
      have z1 := hX1 W hB
      go_wp2_with (fail)
      exact CalmR.CalmQ.mk rfl _ rfl (Below.refl _ _) rfl
    refine CalmR.AllCalm.cons (fun W hB hd => ?_) ?_
    · have hB : Eff (fun k => (Value.slice A0 Ls.length c0).ownBlock = some k) _ W := hB
      go_wp2_with (fail)
      exact CalmR.CalmQ.mk rfl _ rfl (Below.refl _ _) rfl
    refine CalmR.AllCalm.cons (fun W hB hd => ?_) ?_
    · have hB : Eff (fun k => (Value.slice A0 Ls.length c0).ownBlock = some k) _ W := hB
      obtain ⟨h8, h9, -⟩ := hd
      have h8 : f 8 = _ := h8
      have h9 : f 9 = _ := h9
      rw [h8, h9]
      go_wp2_with (fail)
      exact CalmR.CalmQ.mk rfl _ rfl (Below.refl _ _) rfl
    refine CalmR.AllCalm.cons (fun W hB hd => ?_) ?_
    · have hB : Eff (fun k => (Value.slice A0 Ls.length c0).ownBlock = some k) _ W := hB
      obtain ⟨h10, -⟩ := hd
      have h10 : f 10 = _ := h10
      rw [h10]
      have z1 := hX2 W hB
      go_wp2_with (fail)
      exact CalmR.CalmQ.mk rfl _ rfl (Below.refl _ _) rfl
    refine CalmR.AllCalm.cons (fun W hB hd => ?_) ?_
    · have hB : Eff (fun k => (Value.slice A0 Ls.length c0).ownBlock = some k) _ W := hB
      go_wp2_with (fail)
      exact CalmR.CalmQ.mk rfl _ rfl (Below.refl _ _) rfl
    refine CalmR.AllCalm.cons (fun W hB hd => ?_) ?_
    · have hB : Eff (fun k => (Value.slice A0 Ls.length c0).ownBlock = some k) _ W := hB
      obtain ⟨h12, -⟩ := hd
      have h12 : f 12 = _ := h12
      rw [h12]
      have hdW := hSl W hB
      go_wp2_with ((at_builtin; (refine wpList_append_sl _ rfl (.const (.slice none 0 0)) (.tmp 55) _ rfl w7.heap.size 5 i0 _ Try.underlying34 hi hz0 hz1 (by omega) rfl (.slice none 0 0) 0 [] rfl (World.ownsRow_nil _ _ _ _) Bd (.slice A l.length c) l.length (bs l) rfl hdW bs_one (by omega) hB.size ?_); intro v6 w6 ho6 hg6 hat6))
      have ho6' : w6.ownsRow w7.heap.size 5 1 v6 l.length (bs l) := (by simpa using ho6); exact CalmR.CalmQ.mk rfl _ rfl ((Below.refl _ W).grown hg6 (Nat.le_refl _) (fun k hk => by cases hk)) ho6'
    refine CalmR.AllCalm.cons (fun W hB hd => ?_) ?_
    · have hB : Eff (fun k => (Value.slice A0 Ls.length c0).ownBlock = some k) _ W := hB
      obtain ⟨h13, -⟩ := hd
      obtain ⟨A3, c3, e3, _, _⟩ := own_form h13; have h13 : W.ownsRow w7.heap.size 5 1 (f 13) l.length (bs l) := h13; rw [e3] at h13; rw [e3]
      go_wp2_with (fail)
      exact CalmR.CalmQ.mk rfl _ rfl ((Below.refl _ W).alloc (Nat.le_refl _) _) ⟨_, rfl, hB.size, _, Mem.new _ _ _, owns_below h13 ((Below.refl _ _).alloc (Nat.le_refl _) _), rfl⟩
    refine CalmR.AllCalm.cons (fun W hB hd => ?_) ?_
    · have hB : Below _ _ W := hB
      obtain ⟨h11, h14, h13, -⟩ := hd
      have h11 : f 11 = _ := h11
      rw [h11]
      obtain ⟨g14, e14, hg14, u14, hm14, hu14, ho14⟩ := h14; rw [e14]; have hrW := hRow W hB
      go_wp2_with ((at_builtin; (refine wpList_append_at _ rfl (.tmp 54) (.tmp 57) _ rfl 0 34 i1 _ 1 24 Try.underlying43 hi1 hy0 hy1 hy2 rfl (by decide) (.slice A0 Ls.length c0) Ls.length D rfl hrW ⟨g14, 0, none⟩ 1 1 [u14] rfl rfl (cells_one hm14) (by simpa using ho14) (by unfold maxLen; omega) (by omega) (Nat.zero_le _) ?_); intro v6 w6 ho6 hg6 hat6))
      exact CalmR.CalmQ.mk rfl _ rfl (eff_grown hg6) ⟨u14, ho6, hDat _ _ _ (eff_grown hg6) hu14, hat6.imp id fun e => ⟨_, e, hB.size⟩⟩
    exact CalmR.AllCalm.nil
  · intro W hB hT
    have hB : Eff (fun k => (Value.slice A0 Ls.length c0).ownBlock = some k) _ W := hB
    obtain ⟨h0, h1, h2, h3, h4, h5, h6, h7, h8, h9, h10, h11, h12, h13, h14, h15, -⟩ := hT
    have h0 : f 0 = _ := h0
    have h1 : f 1 = _ := h1
    have h2 : f 2 = _ := h2
    have h3 : f 3 = _ := h3
    have h4 : f 4 = _ := h4
    have h5 : f 5 = _ := h5
    have h6 : f 6 = _ := h6
    have h7 : f 7 = _ := h7
    have h8 : f 8 = _ := h8
    have h9 : f 9 = _ := h9
    have h10 : f 10 = _ := h10
    have h11 : f 11 = _ := h11
    have h12 : f 12 = _ := h12
    rw [h0, h1, h2, h3, h4, h5, h6, h7, h8, h9, h10, h11, h12]
    clear h0 h1 h2 h3 h4 h5 h6 h7 h8 h9 h10 h11 h12
    simp only [List.drop_succ_cons, List.drop_zero]
    obtain ⟨u, ho15, hu15, hat15⟩ := h15
    obtain ⟨A6, c6, e15, _, _⟩ := own_form ho15
    have ho15 : W.ownsRow 0 34 1 (f 15) (Ls.length + 1) (D ++ [u]) := ho15
    have hat15 : (f 15).ownBlock = (Value.slice A0 Ls.length c0).ownBlock ∨ ∃ k, (f 15).ownBlock = some k ∧ w7.heap.size ≤ k := hat15
    rw [e15] at ho15 hat15 ⊢
    obtain ⟨q1, q2, q3, q4⟩ := k1.pushW hv0 hLs hgw hB hb0 ho15 hu15 hl hat15
    have z3 : (W.setCell ⟨gw, n, none⟩ (.slice A6 (Ls.length + 1) c6)).cell? ⟨X, 3, none⟩ = some (.int .i64 (S.wtg : Nat)) := q1.mem.cell 3
    have f3 := q1.mem.free 3
    have k5 := q1.setX 3 (.int .i64 ((S.wtg : Int) + 1)) (S' := { S with wts := S.wts.set n (Ls ++ [l]), tch := S.tch ++ [n], wtg := S.wtg + 1 }) rfl rfl rfl rfl rfl
    have k6 := k5.setX 6 (.int .i64 ((S.calls : Int) + 1)) (S' := { S with wts := S.wts.set n (Ls ++ [l]), tch := S.tch ++ [n], wtg := S.wtg + 1, calls := S.calls + 1 }) rfl rfl rfl rfl rfl
    have z6 : ((W.setCell ⟨gw, n, none⟩ (.slice A6 (Ls.length + 1) c6)).setCell ⟨X, 3, none⟩ (.int .i64 ((S.wtg : Int) + 1))).cell? ⟨X, 6, none⟩ = some (.int .i64 (S.calls : Nat)) := k5.mem.cell 6
    have f6 := k5.mem.free 6
    have hgo2 : Goes w7 ((((W.setCell ⟨gw, n, none⟩ (.slice A6 (Ls.length + 1) c6)).setCell ⟨X, 3, none⟩ (.int .i64 ((S.wtg : Int) + 1))).setCell ⟨X, 6, none⟩ (.int .i64 ((S.calls : Int) + 1)))) X (OM O w w6) _ := ⟨_, _, k6, effOX (effOX q2 (.inl h.ox)) (.inl h.ox), fun k hk => hk.imp id fun h => h.1⟩
    go_wp2
    go_ret
    have hLe := HLe.out
    subst hLe
    have hg1 : Goes w w7 X O _ := ⟨_, _, k1, k2, fun k hk => hk.imp id fun h => h.1⟩
    refine ⟨rfl, ?_⟩
    obtain ⟨O2, V2, r1, r2, r3⟩ := hgo2
    exact ⟨O2, V2, r1, k2.trans r2 (fun i hi ho => ho.elim id fun h => by omega), fun k hk => (r3 k hk).elim (fun h => h.elim .inl fun h => .inr h.1) fun h => .inr (by omega)⟩
theorem write_some (h : DiskM w X O S V) (hG : Good S) (hdd : S.dead = false) (hof : S.off = false) (har : S.arm = 0) (n : Nat) (Ls : List (List UInt8)) (hLs : S.wts[n]? = some Ls) (hne : Ls ≠ []) (hw : S.wtg ≤ 1000000) (hc : S.calls ≤ 4611686018427387904) (v : Value) (l : List UInt8) (Bd : Nat) (hBd : Bd ≤ w.heap.size) (hd : Sl w Bd v l.length (bs l)) (hl : l.length ≤ 512) (hdO : ∀ k, k < Bd → v.ownBlock = some k → ¬ O k) :
    Calls Try.prog 21 #[.pointer (some ⟨X, 0, none⟩), .int .i64 (n : Nat), v] w fun e w' => e = .returned (.int .i64 0) ∧ Goes w w' X O { S with wts := S.wts.set n (Ls ++ [l]), tch := S.tch, wtg := S.wtg + 1, calls := S.calls + 1 } := by
  have hn : n < S.last.length := by have := (List.getElem?_eq_some_iff.1 hLs).1; have := h.lens; omega
  have hab := able_any h
  have herr : S.err = 0 := by unfold DS.err; rw [hdd, hof]; rfl
  rw [herr] at hab
  have hhs := has_any h (n : Int)
  rw [decide_eq_true (show 0 ≤ (n : Int) ∧ (n : Int) < (S.last.length : Int) by omega)] at hhs
  exact write_some_g h hG n Ls hLs hne hw hc v l Bd hBd hd hl hdO hab hhs (goes0_any h har)
theorem write_none (h : DiskM w X O S V) (hG : Good S) (hdd : S.dead = false) (hof : S.off = false) (har : S.arm = 0) (n : Nat) (hLs : S.wts[n]? = some []) (hw : S.wtg ≤ 1000000) (hc : S.calls ≤ 4611686018427387904) (v : Value) (l : List UInt8) (Bd : Nat) (hBd : Bd ≤ w.heap.size) (hd : Sl w Bd v l.length (bs l)) (hl : l.length ≤ 512) (hdO : ∀ k, k < Bd → v.ownBlock = some k → ¬ O k) :
    Calls Try.prog 21 #[.pointer (some ⟨X, 0, none⟩), .int .i64 (n : Nat), v] w fun e w' => e = .returned (.int .i64 0) ∧ Goes w w' X O { S with wts := S.wts.set n [l], tch := S.tch ++ [n], wtg := S.wtg + 1, calls := S.calls + 1 } := by
  have hn : n < S.last.length := by have := (List.getElem?_eq_some_iff.1 hLs).1; have := h.lens; omega
  have hab := able_any h
  have herr : S.err = 0 := by unfold DS.err; rw [hdd, hof]; rfl
  rw [herr] at hab
  have hhs := has_any h (n : Int)
  rw [decide_eq_true (show 0 ≤ (n : Int) ∧ (n : Int) < (S.last.length : Int) by omega)] at hhs
  exact write_none_g h hG n hLs hw hc v l Bd hBd hd hl hdO hab hhs (goes0_any h har)
end
end Dk
end Go.Proofs.Ytpfackjnnkjjdaa
