/- Package witness: Cas: contracts. -/
import Derived.Test.YtccknplmcnahbaaWt3
namespace Go.Proofs.Ytccknplmcnahbaa
open Go.ChangeShapes Go.WideShapes Go.ChangeAt Go.RowKit Go.Lib
set_option linter.unusedVariables false
set_option linter.unusedSimpArgs false
set_option maxRecDepth 100000
namespace Wt
open Dk Tw
section
variable {o w w' : World} {X Y Z n : Nat} {O O' : Nat → Prop} {S : DS} {l : List UInt8} {e p m : Nat}
set_option maxHeartbeats 4000000 in
theorem cas_no (h : Wit o w Z Y X O S n l e p m) (x re : Nat) (rp rm : Int) (hx : x < 18446744073709551616) (hre : re < 18446744073709551616) (hno : mayB e x re rp rm = false) :
    Calls Try.prog 14 #[.pointer (some ⟨Z, 0, none⟩), .int .u64 (x : Nat), .agg #[.int .u64 (re : Nat), .int .i64 rp, .int .i64 rm]] w fun e' w' => e' = .returned (.tuple #[.agg #[.int .u64 (e : Nat), .int .i64 (p : Nat), .int .i64 (m : Nat)], .bool false, .int .i64 0]) ∧ Below w.heap.size w w' := by
  obtain ⟨w1, hw1, hM, hR, hB⟩ : ∃ w1, w1 = (w.alloc (.cells #[.int .u64 (re : Nat), .int .i64 rp, .int .i64 rm] 24)).alloc (.cells #[.int .u64 0, .int .i64 0, .int .i64 0] 24) ∧ Mem w1 w.heap.size 24 #[.int .u64 (re : Nat), .int .i64 rp, .int .i64 rm] ∧ Mem w1 (w.heap.size + 1) 24 #[.int .u64 0, .int .i64 0, .int .i64 0] ∧ Below w.heap.size w w1 := ⟨_, rfl, (Mem.new w _ _).alloc _, by have := Mem.new (w.alloc (.cells #[.int .u64 (re : Nat), .int .i64 rp, .int .i64 rm] 24)) 24 #[.int .u64 0, .int .i64 0, .int .i64 0]; simpa using this, ((Below.refl _ w).alloc (Nat.le_refl _) _).alloc (by simp) _⟩
  have hmay := may_any (h.below hB) x re rp rm hx hre
  rw [hno] at hmay
  have hZ := h.mem.lt
  have hz : ∀ W, Below w1.heap.size w1 W → Mem W Z 62 #[.pointer (some ⟨Y, 0, none⟩), .int .u64 (e : Nat), .int .i64 (p : Nat), .int .i64 (m : Nat)] := fun W hW => (h.mem.below hB hZ).below hW (Nat.lt_of_lt_of_le hZ hB.size)
  clear hx hre hno h
  subst hw1
  go_enter Try.func14, Try.ntmps14
  go_wp2_with (first
    | (refine wpList_load_row rfl 24 (.tmp 5) rfl w.heap.size rfl 24 #[.int .u64 (re : Nat), .int .i64 rp, .int .i64 rm] (0, 0) _ hM Try.underlying24 rfl (by kernel_rfl) ?_)
    | (go_at_call 26; (with_reducible refine hmay.mono ?_); rintro e' w2 ⟨rfl, hb2⟩; have z1 := (hz _ hb2).cell 1; have z2 := (hz _ hb2).cell 2; have z3 := (hz _ hb2).cell 3; have r2 := hR.below hb2 hR.lt; have B2 := hB.trans (hb2.mono hB.size))
    | (refine wpList_store_row rfl 24 (.tmp 6) (.tmp 18) rfl (w.heap.size + 1) #[.int .u64 (e : Nat), .int .i64 (p : Nat), .int .i64 (m : Nat)] rfl rfl 24 #[.int .u64 0, .int .i64 0, .int .i64 0] r2 (by kernel_rfl) (by kernel_rfl) (by kernel_rfl) ?_))
  try simp only [Exit.inBlock, Exit.then]
  refine bodyPost_ret (v := .tuple #[.agg #[.int .u64 (e : Nat), .int .i64 (p : Nat), .int .i64 (m : Nat)], .bool false, .int .i64 0]) ?_ rfl ⟨rfl, below_setRow B2 (by omega) _⟩
  exact (results_cell3 (p := 6) (a := 7) (b := 8) (ty := 24) rfl _ _ (w.heap.size + 1) 24 _ (0, 0) _ rfl (r2.row #[.int .u64 (e : Nat), .int .i64 (p : Nat), .int .i64 (m : Nat)]) Try.underlying24 rfl (by kernel_rfl)).trans rfl
/-- What a Put of the twin beneath tells, and leaves. -/
def Puts (o w : World) (X Y : Nat) (O : Nat → Prop) (lp : List UInt8) (err : Int) (S' : DS) (n' : Nat) (l' : List UInt8) : Prop := ∀ (W : World) (A : Option Addr) (c : Nat), Below w.heap.size w W → W.ownsRow w.heap.size 5 1 (.slice A 10 c) 10 (bs lp) → Calls Try.prog 27 #[.pointer (some ⟨Y, 0, none⟩), .slice A 10 c] W fun e' w' => ∃ (O' : Nat → Prop) (v' : Value), e' = .returned (.int .i64 err) ∧ Dsk o w' X O' S' ∧ TwM o.heap.size w' O' Y X 0 n' v' l' ∧ Eff (fun k => O k ∨ k = Y) W w' ∧ (∀ k, O' k → O k ∨ W.heap.size ≤ k)
set_option maxHeartbeats 8000000 in
theorem cas_ok (h : Wit o w Z Y X O S n l e p m) (x re rp rm : Nat) (hx : x < 18446744073709551616) (hre : re < 18446744073709551616) (hyes : mayB e x re (rp : Nat) (rm : Nat) = true) {S' : DS} {n' : Nat} {l' : List UInt8} (hput : Puts o w X Y O (encS re rp rm) 0 S' n' l') :
    Calls Try.prog 14 #[.pointer (some ⟨Z, 0, none⟩), .int .u64 (x : Nat), .agg #[.int .u64 (re : Nat), .int .i64 (rp : Nat), .int .i64 (rm : Nat)]] w fun e' w' => e' = .returned (.tuple #[.agg #[.int .u64 (re : Nat), .int .i64 (rp : Nat), .int .i64 (rm : Nat)], .bool true, .int .i64 0]) ∧ ∃ O', Wit o w' Z Y X O' S' n' l' re rp rm ∧ Below o.heap.size o w' ∧ Eff (fun k => O k ∨ k = Y ∨ k = Z) w w' ∧ ∀ k, O' k → O k ∨ w.heap.size ≤ k := by
  obtain ⟨w1, hw1, hM, hR, hB⟩ : ∃ w1, w1 = (w.alloc (.cells #[.int .u64 (re : Nat), .int .i64 (rp : Nat), .int .i64 (rm : Nat)] 24)).alloc (.cells #[.int .u64 0, .int .i64 0, .int .i64 0] 24) ∧ Mem w1 w.heap.size 24 #[.int .u64 (re : Nat), .int .i64 (rp : Nat), .int .i64 (rm : Nat)] ∧ Mem w1 (w.heap.size + 1) 24 #[.int .u64 0, .int .i64 0, .int .i64 0] ∧ Below w.heap.size w w1 := ⟨_, rfl, (Mem.new w _ _).alloc _, by have := Mem.new (w.alloc (.cells #[.int .u64 (re : Nat), .int .i64 (rp : Nat), .int .i64 (rm : Nat)] 24)) 24 #[.int .u64 0, .int .i64 0, .int .i64 0]; simpa using this, ((Below.refl _ w).alloc (Nat.le_refl _) _).alloc (by simp) _⟩
  have hrg := okR_range (of_decide_eq_true hyes).2.2.2
  have hmay := may_any (h.below hB) x re (rp : Nat) (rm : Nat) hx hre
  rw [hyes] at hmay
  have hZ := h.mem.lt
  have hz : ∀ W, Below w.heap.size w W → Mem W Z 62 #[.pointer (some ⟨Y, 0, none⟩), .int .u64 (e : Nat), .int .i64 (p : Nat), .int .i64 (m : Nat)] := fun W hW => h.mem.below hW hZ
  have hen := fun W => encode_any re rp rm hre (by omega) (by omega) W
  have hYl : Y < w.heap.size := by obtain ⟨v, hv⟩ := h.tw; exact hv.mem.lt
  have hOl : ∀ k, O k → k < w.heap.size := by obtain ⟨V, hV⟩ := h.dsk.is; exact hV.lt
  have hzE : ∀ W W', Mem W Z 62 #[.pointer (some ⟨Y, 0, none⟩), .int .u64 (e : Nat), .int .i64 (p : Nat), .int .i64 (m : Nat)] → Eff (fun k => O k ∨ k = Y) W W' → Mem W' Z 62 #[.pointer (some ⟨Y, 0, none⟩), .int .u64 (e : Nat), .int .i64 (p : Nat), .int .i64 (m : Nat)] := fun W W' hm he => hm.eff he (fun hS => hS.elim h.noZ h.neY)
  have hfE : ∀ (W W' : World) g cs, Mem W g 24 cs → w.heap.size ≤ g → Eff (fun k => O k ∨ k = Y) W W' → Mem W' g 24 cs := fun W W' g cs hm hg he => hm.eff he (fun hS => hS.elim (fun hO => by have := hOl g hO; omega) (fun e => by omega))
  have hBZ : w.heap.size ≠ Z := by omega
  have hCZ : w.heap.size + 1 ≠ Z := by omega
  have HW := Lib.hid h
  clear hx hre hyes h
  subst hw1
  go_enter Try.func14, Try.ntmps14
  go_wp2_with (first
    | (refine wpList_load_row rfl 24 (.tmp 5) rfl w.heap.size rfl 24 #[.int .u64 (re : Nat), .int .i64 (rp : Nat), .int .i64 (rm : Nat)] (0, 0) _ hM Try.underlying24 rfl (by kernel_rfl) ?_)
    | (go_at_call 26; (with_reducible refine hmay.mono ?_); rintro e' w2 ⟨rfl, hb2⟩; have m2 := hM.below hb2 hM.lt; have r2 := hR.below hb2 hR.lt; have B2 := hB.trans (hb2.mono hB.size)))
  clear hmay hM hR hb2
  apply calm_tail 6 [.is (.pointer (some ⟨Z, 0, none⟩)), .is (.pointer (some ⟨Z, 0, none⟩)), .is (.pointer (some ⟨Z, 0, none⟩)), .is (.pointer (some ⟨Y, 0, none⟩)), .is (.agg #[.int .u64 (re : Nat), .int .i64 (rp : Nat), .int .i64 (rm : Nat)]), .of (fun u W => ∃ A c, u = .slice A 10 c ∧ W.ownsRow w.heap.size 5 1 u 10 (bs (encS re rp rm))) (fun u W W' hb ⟨A, c, hu, h1⟩ => ⟨A, c, hu, owns_below h1 hb⟩)] [[], [0], [1], [2], [], [4]] (by kernel_rfl) (by kernel_rfl) (by kernel_rfl) rfl
  intro f a1 ha1
  simp only [List.take_succ_cons, List.take_zero, putL, Act.put, List.setIfInBounds_toArray, List.set_cons_succ, List.set_cons_zero] at ha1
  subst ha1
  refine ⟨?_, ?_⟩
  · refine AllCalm.cons (fun W hB hd => ?_) ?_
    · go_wp2_with (fail)
      exact CalmQ.mk rfl _ rfl (Below.refl _ _) rfl
    refine AllCalm.cons (fun W hB hd => ?_) ?_
    · obtain ⟨h0, -⟩ := hd
      have h0 : f 0 = _ := h0
      rw [h0]
      go_wp2_with (fail)
      exact CalmQ.mk rfl _ rfl (Below.refl _ _) rfl
    refine AllCalm.cons (fun W hB hd => ?_) ?_
    · obtain ⟨h1, -⟩ := hd
      have h1 : f 1 = _ := h1
      rw [h1]
      go_wp2_with (fail)
      exact CalmQ.mk rfl _ rfl (Below.refl _ _) rfl
    refine AllCalm.cons (fun W hB hd => ?_) ?_
    · obtain ⟨h2, -⟩ := hd
      have h2 : f 2 = _ := h2
      rw [h2]
      have z0 := (hz W (B2.trans (hB.mono B2.size))).cell 0
      go_wp2_with (fail)
      exact CalmQ.mk rfl _ rfl (Below.refl _ _) rfl
    refine AllCalm.cons (fun W hB hd => ?_) ?_
    · have mB := m2.below hB m2.lt
      go_wp2_with ((refine wpList_load_row rfl 24 (.tmp 5) rfl w.heap.size rfl 24 #[.int .u64 (re : Nat), .int .i64 (rp : Nat), .int .i64 (rm : Nat)] (0, 0) _ mB Try.underlying24 rfl (by kernel_rfl) ?_))
      exact CalmQ.mk rfl _ rfl (Below.refl _ _) rfl
    refine AllCalm.cons (fun W hB hd => ?_) ?_
    · obtain ⟨h4, -⟩ := hd
      have h4 : f 4 = _ := h4
      rw [h4]
      go_wp2_with ((go_at_call 8; (with_reducible refine (hen _).mono ?_); rintro e' w3 ⟨v3, rfl, ho3, hb3⟩; obtain ⟨A3, c3, rfl, _, _⟩ := own_form ho3; have ho3' := owns_mono ho3 (Nat.le_trans B2.size hB.size)))
      exact CalmQ.mk rfl _ rfl hb3 ⟨A3, c3, rfl, ho3'⟩
    exact AllCalm.nil
  · intro W hB hT
    obtain ⟨h0, h1, h2, h3, h4, h5, -⟩ := hT
    have h0 : f 0 = _ := h0
    have h1 : f 1 = _ := h1
    have h2 : f 2 = _ := h2
    have h3 : f 3 = _ := h3
    have h4 : f 4 = _ := h4
    rw [h0, h1, h2, h3, h4]
    clear h0 h1 h2 h3 h4
    simp only [List.drop_succ_cons, List.drop_zero]
    obtain ⟨A5, c5, e5, ho5⟩ := h5
    rw [e5] at ho5 ⊢
    have B5 := B2.trans (hB.mono B2.size)
    have hp5 := hput W A5 c5 B5 ho5
    have m5 := m2.below hB m2.lt
    have r5 := r2.below hB r2.lt
    have z5 := hz W B5
    go_wp2_with (first
      | (go_at_call 27; (with_reducible refine hp5.mono ?_); rintro e' w6 ⟨O6, v6, rfl, d6, t6, f6, k6⟩; have m6 := hfE _ _ _ _ m5 (Nat.le_refl _) f6; have r6 := hfE _ _ _ _ r5 (Nat.le_succ _) f6; have z6 := hzE _ _ z5 f6; have q1 := z6.cell 1; have q2 := z6.cell 2; have q3 := z6.cell 3; have g1 := z6.free 1; have g2 := z6.free 2; have g3 := z6.free 3; have m7 := ((m6.far (p := ⟨Z, 1, none⟩) hBZ (.int .u64 (re : Nat))).far (p := ⟨Z, 2, none⟩) hBZ (.int .i64 (rp : Nat))).far (p := ⟨Z, 3, none⟩) hBZ (.int .i64 (rm : Nat)); have r7 := ((r6.far (p := ⟨Z, 1, none⟩) hCZ (.int .u64 (re : Nat))).far (p := ⟨Z, 2, none⟩) hCZ (.int .i64 (rp : Nat))).far (p := ⟨Z, 3, none⟩) hCZ (.int .i64 (rm : Nat)); have z7 := ((z6.put 1 (.int .u64 (re : Nat))).put 2 (.int .i64 (rp : Nat))).put 3 (.int .i64 (rm : Nat)))
      | (refine wpList_load_row rfl 24 (.tmp 5) rfl w.heap.size rfl 24 #[.int .u64 (re : Nat), .int .i64 (rp : Nat), .int .i64 (rm : Nat)] (0, 0) _ m6 Try.underlying24 rfl (by kernel_rfl) ?_)
      | (refine wpList_load_row rfl 24 (.tmp 5) rfl w.heap.size rfl 24 #[.int .u64 (re : Nat), .int .i64 (rp : Nat), .int .i64 (rm : Nat)] (0, 0) _ m7 Try.underlying24 rfl (by kernel_rfl) ?_)
      | (refine wpList_store_row rfl 24 (.tmp 6) (.tmp 37) rfl (w.heap.size + 1) #[.int .u64 (re : Nat), .int .i64 (rp : Nat), .int .i64 (rm : Nat)] rfl rfl 24 #[.int .u64 0, .int .i64 0, .int .i64 0] r7 (by kernel_rfl) (by kernel_rfl) (by kernel_rfl) ?_))
    try simp only [Exit.inBlock, Exit.then]
    have hs2 := B2.size
    have hs5 := B5.size
    have eZ : Eff (fun k => k = Z ∨ k = w.heap.size + 1) w6 ((((w6.setCell ⟨Z, 1, none⟩ (.int .u64 (re : Nat))).setCell ⟨Z, 2, none⟩ (.int .i64 (rp : Nat))).setCell ⟨Z, 3, none⟩ (.int .i64 (rm : Nat))).setRow (w.heap.size + 1) #[.int .u64 (re : Nat), .int .i64 (rp : Nat), .int .i64 (rm : Nat)]) := by
      have q : Eff (fun k => k = Z ∨ k = w.heap.size + 1) w6 (((w6.setCell ⟨Z, 1, none⟩ (.int .u64 (re : Nat))).setCell ⟨Z, 2, none⟩ (.int .i64 (rp : Nat))).setCell ⟨Z, 3, none⟩ (.int .i64 (rm : Nat))) := (((Eff.refl _ w6).setCell (p := ⟨Z, 1, none⟩) (.inl rfl) _).setCell (p := ⟨Z, 2, none⟩) (.inl rfl) _).setCell (p := ⟨Z, 3, none⟩) (.inl rfl) _
      exact ⟨q.os, q.tape, q.output, by simp [World.setRow], fun k hk hn => (setRow_other _ (w.heap.size + 1) k _ fun e => hn (.inr e)).trans (q.block k hk hn)⟩
    have eA : Eff (fun k => O k ∨ k = Y ∨ k = Z) w w6 := (Eff.of (S := fun k => O k ∨ k = Y ∨ k = Z) B5).trans (f6.mono (T := fun k => O k ∨ k = Y ∨ k = Z) fun k _ hk => hk.elim .inl fun h => .inr (.inl h)) fun _ _ h => h
    have eB := eA.trans eZ (fun k hk h => by rcases h with h | h
                                             · exact .inr (.inr h)
                                             · omega)
    have hoZ := HW.out.from_
    have hoO := HW.out.dsk.from_
    have hob := HW.out.dsk.bl
    have hZO6 : ¬ O6 Z := fun hO => (k6 Z hO).elim HW.out.noZ fun h => by omega
    have hC6 : ¬ O6 (w.heap.size + 1) := fun hO => by
      rcases k6 _ hO with h | h
      · have := hOl _ h; omega
      · have h5l := r5.lt
        omega
    have hYo : o.heap.size ≤ Y := by obtain ⟨v, hv⟩ := HW.out.tw; exact hv.from_
    have hobs := hob.size
    have bo : Below o.heap.size o ((((w6.setCell ⟨Z, 1, none⟩ (.int .u64 (re : Nat))).setCell ⟨Z, 2, none⟩ (.int .i64 (rp : Nat))).setCell ⟨Z, 3, none⟩ (.int .i64 (rm : Nat))).setRow (w.heap.size + 1) #[.int .u64 (re : Nat), .int .i64 (rp : Nat), .int .i64 (rm : Nat)]) := eB.below hob hob.size fun k hk h => by
      rcases h with h | h | h
      · exact hoO k h
      · omega
      · omega
    refine bodyPost_ret (v := .tuple #[.agg #[.int .u64 (re : Nat), .int .i64 (rp : Nat), .int .i64 (rm : Nat)], .bool true, .int .i64 0]) ?_ rfl ⟨rfl, O6, ⟨d6.effO eZ (fun k _ hO h => h.elim (fun e => hZO6 (e ▸ hO)) fun e => hC6 (e ▸ hO)) (fun k _ h => by rcases h with h | h <;> omega), ⟨v6, ?_⟩, z7.rowFar (by omega) _, hoZ, hZO6⟩, bo, eB, fun k hk => (k6 k hk).imp id fun h => Nat.le_trans (Nat.le_trans B2.size hB.size) h⟩
    · exact (results_cell3 (p := 6) (a := 7) (b := 8) (ty := 24) rfl _ _ (w.heap.size + 1) 24 _ (0, 0) _ rfl (r7.row #[.int .u64 (re : Nat), .int .i64 (rp : Nat), .int .i64 (rm : Nat)]) Try.underlying24 rfl (by kernel_rfl)).trans rfl
    · have hYZ := HW.out.neY
      refine ⟨t6.mem.eff eZ (fun h => by rcases h with h | h <;> omega), owns_eff t6.row eZ (fun k hk h => ?_), t6.from_, t6.noY, t6.noV, t6.fit, t6.few⟩
      have htg := (own_tag t6.row k hk).2.2
      rcases h with rfl | rfl
      · exact htg.ne (mem_tag z6) (by decide) rfl
      · exact htg.ne (mem_tag r6) (by decide) rfl
set_option maxHeartbeats 8000000 in
theorem cas_down (h : Wit o w Z Y X O S n l e p m) (x re rp rm : Nat) (hx : x < 18446744073709551616) (hre : re < 18446744073709551616) (hyes : mayB e x re (rp : Nat) (rm : Nat) = true) {S' : DS} {n' : Nat} {l' : List UInt8} (hput : Puts o w X Y O (encS re rp rm) 8 S' n' l') :
    Calls Try.prog 14 #[.pointer (some ⟨Z, 0, none⟩), .int .u64 (x : Nat), .agg #[.int .u64 (re : Nat), .int .i64 (rp : Nat), .int .i64 (rm : Nat)]] w fun e' w' => e' = .returned (.tuple #[.agg #[.int .u64 (e : Nat), .int .i64 (p : Nat), .int .i64 (m : Nat)], .bool false, .int .i64 8]) ∧ ∃ O', Wit o w' Z Y X O' S' n' l' e p m ∧ Below o.heap.size o w' ∧ Eff (fun k => O k ∨ k = Y ∨ k = Z) w w' ∧ ∀ k, O' k → O k ∨ w.heap.size ≤ k := by
  obtain ⟨w1, hw1, hM, hR, hB⟩ : ∃ w1, w1 = (w.alloc (.cells #[.int .u64 (re : Nat), .int .i64 (rp : Nat), .int .i64 (rm : Nat)] 24)).alloc (.cells #[.int .u64 0, .int .i64 0, .int .i64 0] 24) ∧ Mem w1 w.heap.size 24 #[.int .u64 (re : Nat), .int .i64 (rp : Nat), .int .i64 (rm : Nat)] ∧ Mem w1 (w.heap.size + 1) 24 #[.int .u64 0, .int .i64 0, .int .i64 0] ∧ Below w.heap.size w w1 := ⟨_, rfl, (Mem.new w _ _).alloc _, by have := Mem.new (w.alloc (.cells #[.int .u64 (re : Nat), .int .i64 (rp : Nat), .int .i64 (rm : Nat)] 24)) 24 #[.int .u64 0, .int .i64 0, .int .i64 0]; simpa using this, ((Below.refl _ w).alloc (Nat.le_refl _) _).alloc (by simp) _⟩
  have hrg := okR_range (of_decide_eq_true hyes).2.2.2
  have hmay := may_any (h.below hB) x re (rp : Nat) (rm : Nat) hx hre
  rw [hyes] at hmay
  have hZ := h.mem.lt
  have hz : ∀ W, Below w.heap.size w W → Mem W Z 62 #[.pointer (some ⟨Y, 0, none⟩), .int .u64 (e : Nat), .int .i64 (p : Nat), .int .i64 (m : Nat)] := fun W hW => h.mem.below hW hZ
  have hen := fun W => encode_any re rp rm hre (by omega) (by omega) W
  have hYl : Y < w.heap.size := by obtain ⟨v, hv⟩ := h.tw; exact hv.mem.lt
  have hOl : ∀ k, O k → k < w.heap.size := by obtain ⟨V, hV⟩ := h.dsk.is; exact hV.lt
  have hzE : ∀ W W', Mem W Z 62 #[.pointer (some ⟨Y, 0, none⟩), .int .u64 (e : Nat), .int .i64 (p : Nat), .int .i64 (m : Nat)] → Eff (fun k => O k ∨ k = Y) W W' → Mem W' Z 62 #[.pointer (some ⟨Y, 0, none⟩), .int .u64 (e : Nat), .int .i64 (p : Nat), .int .i64 (m : Nat)] := fun W W' hm he => hm.eff he (fun hS => hS.elim h.noZ h.neY)
  have hfE : ∀ (W W' : World) g cs, Mem W g 24 cs → w.heap.size ≤ g → Eff (fun k => O k ∨ k = Y) W W' → Mem W' g 24 cs := fun W W' g cs hm hg he => hm.eff he (fun hS => hS.elim (fun hO => by have := hOl g hO; omega) (fun e => by omega))
  have hBZ : w.heap.size ≠ Z := by omega
  have hCZ : w.heap.size + 1 ≠ Z := by omega
  have HW := Lib.hid h
  clear hx hre hyes h
  subst hw1
  go_enter Try.func14, Try.ntmps14
  go_wp2_with (first
    | (refine wpList_load_row rfl 24 (.tmp 5) rfl w.heap.size rfl 24 #[.int .u64 (re : Nat), .int .i64 (rp : Nat), .int .i64 (rm : Nat)] (0, 0) _ hM Try.underlying24 rfl (by kernel_rfl) ?_)
    | (go_at_call 26; (with_reducible refine hmay.mono ?_); rintro e' w2 ⟨rfl, hb2⟩; have m2 := hM.below hb2 hM.lt; have r2 := hR.below hb2 hR.lt; have B2 := hB.trans (hb2.mono hB.size)))
  clear hmay hM hR hb2
  apply calm_tail 6 [.is (.pointer (some ⟨Z, 0, none⟩)), .is (.pointer (some ⟨Z, 0, none⟩)), .is (.pointer (some ⟨Z, 0, none⟩)), .is (.pointer (some ⟨Y, 0, none⟩)), .is (.agg #[.int .u64 (re : Nat), .int .i64 (rp : Nat), .int .i64 (rm : Nat)]), .of (fun u W => ∃ A c, u = .slice A 10 c ∧ W.ownsRow w.heap.size 5 1 u 10 (bs (encS re rp rm))) (fun u W W' hb ⟨A, c, hu, h1⟩ => ⟨A, c, hu, owns_below h1 hb⟩)] [[], [0], [1], [2], [], [4]] (by kernel_rfl) (by kernel_rfl) (by kernel_rfl) rfl
  intro f a1 ha1
  simp only [List.take_succ_cons, List.take_zero, putL, Act.put, List.setIfInBounds_toArray, List.set_cons_succ, List.set_cons_zero] at ha1
  subst ha1
  refine ⟨?_, ?_⟩
  · refine AllCalm.cons (fun W hB hd => ?_) ?_
    · go_wp2_with (fail)
      exact CalmQ.mk rfl _ rfl (Below.refl _ _) rfl
    refine AllCalm.cons (fun W hB hd => ?_) ?_
    · obtain ⟨h0, -⟩ := hd
      have h0 : f 0 = _ := h0
      rw [h0]
      go_wp2_with (fail)
      exact CalmQ.mk rfl _ rfl (Below.refl _ _) rfl
    refine AllCalm.cons (fun W hB hd => ?_) ?_
    · obtain ⟨h1, -⟩ := hd
      have h1 : f 1 = _ := h1
      rw [h1]
      go_wp2_with (fail)
      exact CalmQ.mk rfl _ rfl (Below.refl _ _) rfl
    refine AllCalm.cons (fun W hB hd => ?_) ?_
    · obtain ⟨h2, -⟩ := hd
      have h2 : f 2 = _ := h2
      rw [h2]
      have z0 := (hz W (B2.trans (hB.mono B2.size))).cell 0
      go_wp2_with (fail)
      exact CalmQ.mk rfl _ rfl (Below.refl _ _) rfl
    refine AllCalm.cons (fun W hB hd => ?_) ?_
    · have mB := m2.below hB m2.lt
      go_wp2_with ((refine wpList_load_row rfl 24 (.tmp 5) rfl w.heap.size rfl 24 #[.int .u64 (re : Nat), .int .i64 (rp : Nat), .int .i64 (rm : Nat)] (0, 0) _ mB Try.underlying24 rfl (by kernel_rfl) ?_))
      exact CalmQ.mk rfl _ rfl (Below.refl _ _) rfl
    refine AllCalm.cons (fun W hB hd => ?_) ?_
    · obtain ⟨h4, -⟩ := hd
      have h4 : f 4 = _ := h4
      rw [h4]
      go_wp2_with ((go_at_call 8; (with_reducible refine (hen _).mono ?_); rintro e' w3 ⟨v3, rfl, ho3, hb3⟩; obtain ⟨A3, c3, rfl, _, _⟩ := own_form ho3; have ho3' := owns_mono ho3 (Nat.le_trans B2.size hB.size)))
      exact CalmQ.mk rfl _ rfl hb3 ⟨A3, c3, rfl, ho3'⟩
    exact AllCalm.nil
  · intro W hB hT
    obtain ⟨h0, h1, h2, h3, h4, h5, -⟩ := hT
    have h0 : f 0 = _ := h0
    have h1 : f 1 = _ := h1
    have h2 : f 2 = _ := h2
    have h3 : f 3 = _ := h3
    have h4 : f 4 = _ := h4
    rw [h0, h1, h2, h3, h4]
    clear h0 h1 h2 h3 h4
    simp only [List.drop_succ_cons, List.drop_zero]
    obtain ⟨A5, c5, e5, ho5⟩ := h5
    rw [e5] at ho5 ⊢
    have B5 := B2.trans (hB.mono B2.size)
    have hp5 := hput W A5 c5 B5 ho5
    have m5 := m2.below hB m2.lt
    have r5 := r2.below hB r2.lt
    have z5 := hz W B5
    go_wp2_with (first
      | (go_at_call 27; (with_reducible refine hp5.mono ?_); rintro e' w6 ⟨O6, v6, rfl, d6, t6, f6, k6⟩; have r6 := hfE _ _ _ _ r5 (Nat.le_succ _) f6; have z6 := hzE _ _ z5 f6; have q1 := z6.cell 1; have q2 := z6.cell 2; have q3 := z6.cell 3; have z7 := z6)
      | (refine wpList_store_row rfl 24 (.tmp 6) (.tmp 31) rfl (w.heap.size + 1) #[.int .u64 (e : Nat), .int .i64 (p : Nat), .int .i64 (m : Nat)] rfl rfl 24 #[.int .u64 0, .int .i64 0, .int .i64 0] r6 (by kernel_rfl) (by kernel_rfl) (by kernel_rfl) ?_))
    try simp only [Exit.inBlock, Exit.then]
    have hs2 := B2.size
    have hs5 := B5.size
    have eZ : Eff (fun k => k = w.heap.size + 1) w6 (w6.setRow (w.heap.size + 1) #[.int .u64 (e : Nat), .int .i64 (p : Nat), .int .i64 (m : Nat)]) := ⟨rfl, rfl, rfl, by simp [World.setRow], fun k hk hn => setRow_other _ (w.heap.size + 1) k _ fun e => hn e⟩
    have eA : Eff (fun k => O k ∨ k = Y ∨ k = Z) w w6 := (Eff.of (S := fun k => O k ∨ k = Y ∨ k = Z) B5).trans (f6.mono (T := fun k => O k ∨ k = Y ∨ k = Z) fun k _ hk => hk.elim .inl fun h => .inr (.inl h)) fun _ _ h => h
    have eB := eA.trans eZ (fun k hk h => by omega)
    have hoZ := HW.out.from_
    have hoO := HW.out.dsk.from_
    have hob := HW.out.dsk.bl
    have hZO6 : ¬ O6 Z := fun hO => (k6 Z hO).elim HW.out.noZ fun h => by omega
    have hC6 : ¬ O6 (w.heap.size + 1) := fun hO => by
      rcases k6 _ hO with h | h
      · have := hOl _ h; omega
      · have h5l := r5.lt
        omega
    have hYo : o.heap.size ≤ Y := by obtain ⟨v, hv⟩ := HW.out.tw; exact hv.from_
    have hobs := hob.size
    have bo : Below o.heap.size o (w6.setRow (w.heap.size + 1) #[.int .u64 (e : Nat), .int .i64 (p : Nat), .int .i64 (m : Nat)]) := eB.below hob hob.size fun k hk h => by
      rcases h with h | h | h
      · exact hoO k h
      · omega
      · omega
    refine bodyPost_ret (v := .tuple #[.agg #[.int .u64 (e : Nat), .int .i64 (p : Nat), .int .i64 (m : Nat)], .bool false, .int .i64 8]) ?_ rfl ⟨rfl, O6, ⟨d6.effO eZ (fun k _ hO e => hC6 (e ▸ hO)) (fun k _ h => by omega), ⟨v6, ?_⟩, z7.rowFar (by omega) _, hoZ, hZO6⟩, bo, eB, fun k hk => (k6 k hk).imp id fun h => Nat.le_trans (Nat.le_trans B2.size hB.size) h⟩
    · exact (results_cell3 (p := 6) (a := 7) (b := 8) (ty := 24) rfl _ _ (w.heap.size + 1) 24 _ (0, 0) _ rfl (r6.row #[.int .u64 (e : Nat), .int .i64 (p : Nat), .int .i64 (m : Nat)]) Try.underlying24 rfl (by kernel_rfl)).trans rfl
    · refine ⟨t6.mem.eff eZ (fun h => by omega), owns_eff t6.row eZ (fun k hk h => ?_), t6.from_, t6.noY, t6.noV, t6.fit, t6.few⟩
      have htg := (own_tag t6.row k hk).2.2
      subst h
      exact htg.ne (mem_tag r6) (by decide) rfl
theorem puts_up (h : Wit o w Z Y X O S n l e p m) (hu : S.up) (h2 : 1 < S.last.length) (hw : S.wtg ≤ 900000) (hc : S.calls ≤ 1000000000) (hn : n + 1 < 18446744073709551616) (re rp rm : Nat) : Puts o w X Y O (encS re rp rm) 0 (Tw.putS S 0 (n + 1) (encS re rp rm)) (n + 1) (encS re rp rm) := by
  intro W A c hW ho
  obtain ⟨v, hv⟩ := h.tw
  obtain ⟨V, hV⟩ := h.dsk.is
  have hYl := hv.mem.lt
  refine (put_ok (h.dsk.below hW) hu (show 0 + 1 < S.last.length from h2) hw hc (hv.below hW) (Nat.le_refl _) hn (.slice A 10 c) (encS re rp rm) (by rw [encS_len]; exact Sl.of_own ho) (fun k hk => ?_) (by rw [encS_len]; decide)).mono ?_
  · have h1 := (own_tag ho k hk).1
    exact ⟨by omega, fun hO => by have := hV.lt k hO; omega⟩
  · rintro e' w' ⟨O', v', h1, h3, h4, h5, h6⟩
    exact ⟨O', v', h1, h3, h4, h5, h6⟩
end
end Wt
end Go.Proofs.Ytccknplmcnahbaa
