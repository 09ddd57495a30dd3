/- WitnessRaces: for all bytes the statement's function tells true and turns nothing that was there. No condition. -/
import Derived.Test.YtccknplmcnahbaaWt5
import Derived.Laws.BitsLemmas
namespace Go.Proofs.Ytccknplmcnahbaa
open Go.ChangeShapes Go.WideShapes Go.ChangeAt Go.RowKit Go.Lib
set_option linter.unusedVariables false
set_option linter.unusedSimpArgs false
set_option maxRecDepth 100000
namespace Wt
open Dk Tw
def E1 : List UInt8 := encS 5 0 3
def S1 : DS := fmtS (DS.new 2) 0 E1
/-- Where the race stands. -/
def Ph (o w : World) (Z Y X N : Nat) (won : Int) : Prop :=
  (won = -1 ∧ ∃ O, Wit o w Z Y X O S1 1 E1 5 0 3 ∧ ¬ O N ∧ Mem w N 24 #[.int .u64 0, .int .i64 0, .int .i64 0]) ∨
  (0 ≤ won ∧ ∃ O S n l p m, Wit o w Z Y X O S n l 6 p m ∧ Mem w N 24 #[.int .u64 6, .int .i64 (p : Nat), .int .i64 (m : Nat)])
theorem Wit.effR {o w w' : World} {X Y Z n : Nat} {O T : Nat → Prop} {S : DS} {l : List UInt8} {e p m : Nat} (h : Wit o w Z Y X O S n l e p m) (he : Eff T w w') (hT : ∀ k, k < w.heap.size → T k → ¬ O k ∧ o.heap.size ≤ k ∧ Tag w k 24) : Wit o w' Z Y X O S n l e p m := by
  obtain ⟨v, hv⟩ := h.tw
  have hYT : ¬ T Y := fun hk => (mem_tag hv.mem).ne (hT Y hv.mem.lt hk).2.2 (by decide) rfl
  have hZT : ¬ T Z := fun hk => (mem_tag h.mem).ne (hT Z h.mem.lt hk).2.2 (by decide) rfl
  exact ⟨h.dsk.effO he (fun k hk hO hTk => (hT k hk hTk).1 hO) (fun k hk hTk => (hT k hk hTk).2.1), ⟨v, hv.mem.eff he hYT, owns_eff hv.row he (fun k hk hTk => (own_tag hv.row k hk).2.2.ne (hT k (own_tag hv.row k hk).2.1 hTk).2.2 (by decide) rfl), hv.from_, hv.noY, hv.noV, hv.fit, hv.few⟩, h.mem.eff he hZT, h.from_, h.noZ⟩
theorem eff_row (w : World) (N : Nat) (cs : Array Value) : Eff (fun k => k = N) w (w.setRow N cs) := ⟨rfl, rfl, rfl, by simp [World.setRow], fun k _ hn => setRow_other w N k cs hn⟩
theorem u8_and1' (x : Nat) (h : x ≤ 255) : bits .and .u8 (x : Int) 1 = ((x % 2 : Nat) : Int) := by
  have := bits_mask .u8 8 (by decide) wraps_u8 1 (by decide) (x : Int) (by omega) (by omega)
  exact this.trans (by omega)
theorem u8_and3' (x : Nat) (h : x ≤ 255) : bits .and .u8 (x : Int) 3 = ((x % 4 : Nat) : Int) := by
  have := bits_mask .u8 8 (by decide) wraps_u8 2 (by decide) (x : Int) (by omega) (by omega)
  exact this.trans (by omega)
set_option maxHeartbeats 8000000 in
theorem walk (v : Value) (l : List UInt8) (w : World) (hv : Sl w w.heap.size v l.length (bs l)) : Calls Try.prog 5 #[v] w fun e' w' => e' = .returned (.bool true) ∧ Below w.heap.size w w' := by
  obtain ⟨A, c, rfl, hc1, hc2⟩ := hv.form
  unfold maxLen at hc2
  by_cases h0 : l.length = 0
  · have h0x : ((l.length : Int) == 0) = true := beq_iff_eq.2 (by omega)
    have h0y : l = [] := List.eq_nil_of_length_eq_zero h0
    subst h0y
    go_enter Try.func5, Try.ntmps5
    go_wp2_with (go_at_call 6; refine (known_any _).mono ?_; rintro e' w1 ⟨rfl, hb1⟩)
    go_ret
    exact ⟨rfl, hb1⟩
  by_cases h30 : 30 < l.length
  · have h0x : ((l.length : Int) == 0) = false := beq_eq_false_iff_ne.2 (by omega)
    have h30x : 30 < (l.length : Int) := by omega
    have hne : l ≠ [] := fun e => h0 (by rw [e]; rfl)
    go_enter Try.func5, Try.ntmps5
    go_wp2_with (go_at_call 6; refine (known_any _).mono ?_; rintro e' w1 ⟨rfl, hb1⟩)
    go_ret
    exact ⟨rfl, hb1⟩
  have h0x : ((l.length : Int) == 0) = false := beq_eq_false_iff_ne.2 (by omega)
  have h30x : (l.length : Int) ≤ 30 := by omega
  have hne : l ≠ [] := fun e => h0 (by rw [e]; rfl)
  obtain ⟨b, off, rfl, hb, hcell⟩ := hv.at_ (by omega)
  have cN : ∀ W, Below w.heap.size w W → Calls Try.prog 10 #[.int .i64 2] W fun e' w' => ∃ X O, e' = .returned (.tuple #[.pointer (some ⟨X, 0, none⟩), .int .i64 0]) ∧ Dsk w w' X O (DS.new 2) := fun W hW => (d_new (o := w) 2 (by decide) (by decide) hW).mono fun e' w' ⟨X, O, h1, h2, _⟩ => ⟨X, O, h1, h2⟩
  have cF : ∀ X O W, Dsk w W X O (DS.new 2) → Calls Try.prog 11 #[.pointer (some ⟨X, 0, none⟩), .agg #[.int .u64 5, .int .i64 0, .int .i64 3]] W fun e' w' => ∃ O', e' = .returned (.int .i64 0) ∧ Dsk w w' X O' S1 := fun X O W h => (wformat_ok (e := 5) (p := 0) (m := 3) h (new_up 2) (by decide) (by decide) (by decide) (by decide) rfl).mono fun e' w' ⟨O', h1, h2, _⟩ => ⟨O', h1, h2⟩
  have cO : ∀ X O W, Dsk w W X O S1 → Calls Try.prog 12 #[.pointer (some ⟨X, 0, none⟩)] W fun e' w' => ∃ Z Y, e' = .returned (.tuple #[.pointer (some ⟨Z, 0, none⟩), .int .i64 0]) ∧ Wit w w' Z Y X O S1 1 E1 5 0 3 := fun X O W h => (wopen_is (e := 5) (p := 0) (m := 3) h rfl rfl (by unfold S1; rw [fmt_last]; decide) (Nat.zero_le _) (by decide) rfl (best_fmt (Fine.new 2 (by decide)) (by decide) (by unfold E1; rw [encS_len]; decide))).mono fun e' w' ⟨Z, Y, h1, h2, _⟩ => ⟨Z, Y, h1, h2⟩
  go_enter Try.func5, Try.ntmps5
  go_wp2_with (first
    | (go_at_call 6; refine (known_any _).mono ?_; rintro e' w1 ⟨rfl, hb1⟩)
    | (go_at_call 10; (with_reducible refine (cN _ hb1).mono ?_); rintro e' w2 ⟨X, O2, rfl, h2⟩)
    | (go_at_call 11; (with_reducible refine (cF _ _ _ h2).mono ?_); rintro e' w3 ⟨O3, rfl, h3⟩)
    | (go_at_call 12; (with_reducible refine (cO _ _ _ h3).mono ?_); rintro e' w4 ⟨Z, Y, rfl, h4⟩))
  obtain ⟨w5, hw5, N, hN, h5⟩ : ∃ w5, w5 = w4.alloc (.cells #[.int .u64 0, .int .i64 0, .int .i64 0] 24) ∧ ∃ N, N = w4.heap.size ∧ Ph w w5 Z Y X N (-1) := by
    refine ⟨_, rfl, _, rfl, .inl ⟨rfl, O3, h4.below ((Below.refl _ w4).alloc (Nat.le_refl _) _), fun hO => ?_, Mem.new w4 _ _⟩⟩
    obtain ⟨V, hV⟩ := h4.dsk.is
    have := hV.lt _ hO
    omega
  have hoN : w.heap.size ≤ N := by rw [hN]; exact h4.dsk.bl.size
  rw [← hw5, ← hN]
  clear cN cF cO hw5 hN h4 h3 h2 hb1 h0x hne
  go_loopw [7, 9] (fun s7 s9 wr => ∃ (won : Int) (j : Nat), j ≤ l.length ∧ won ≤ 30 ∧ s7 = .int .i64 won ∧ s9 = .int .i64 (j : Nat) ∧ Ph w wr Z Y X N won) (fun _ s9 _ => l.length - (intOf s9).toNat)
  case atStart => exact ⟨-1, 0, Nat.zero_le _, by decide, rfl, rfl, h5⟩
  case round =>
    clear h5
    obtain ⟨won, j, hj, hwl, rfl, rfl, hP⟩ := hrel
    by_cases hlt : j < l.length
    · have hltx : (j : Int) < (l.length : Int) := by omega
      have x0 := hcell j _ (bs_get hlt)
      generalize l[j] = u at *
      have hu := u.toNat_lt
      generalize u.toNat = q at *
      have a1 := u8_and1' q (by omega)
      have a3 := u8_and3' (q / 2) (by omega)
      rw [show ((q / 2 : Nat) : Int) = (q : Int) / 2 by omega] at a3
      obtain ⟨p, hp, hp2⟩ : ∃ p, q % 2 = p ∧ p < 2 := ⟨_, rfl, by omega⟩
      obtain ⟨m, hm, hm4⟩ : ∃ m, q / 2 % 4 = m ∧ m < 4 := ⟨_, rfl, by omega⟩
      rw [hp] at a1
      rw [hm] at a3
      have hB0 : Below w.heap.size w wr := by rcases hP with ⟨_, O, h, _⟩ | ⟨_, O, S, n, l', p', m', h, _⟩ <;> exact h.dsk.bl
      have hqx : (q : Int) ≤ 255 := by omega
      have hs : ∀ W, Below wr.heap.size wr W → W.cell? ⟨b, off + j, none⟩ = some (.int .u8 (q : Nat)) := fun W hW => ((hB0.trans (hW.mono hB0.size)).cell (p := ⟨b, off + j, none⟩) hb).trans x0
      clear hp hm hu x0 hcell
      go_wp2
      apply calm_tail 15 [.is _, .is _, .is _, .is _, .is _, .is _, .is _, .is _, .is _, .is _, .is _, .is _, .is _, .is _, .of (fun u W => ∃ g, u = .pointer (some ⟨g, 0, none⟩) ∧ wr.heap.size ≤ g ∧ Mem W g 24 #[.int .u64 0, .int .i64 0, .int .i64 0]) (fun u W W' hb ⟨g, hu, h1, h2⟩ => ⟨g, hu, h1, Mem.below h2 hb (Mem.lt h2)⟩)] [[], [], [0, 1], [2], [3], [4], [], [], [6, 7], [8], [9], [10], [11], [5, 12], []] (by kernel_rfl) (by kernel_rfl) (by kernel_rfl) rfl
      intro f a1 ha1
      simp only [List.take_succ_cons, List.take_zero, putL, Act.put, List.setIfInBounds_toArray, List.set_cons_succ, List.set_cons_zero] at ha1
      subst ha1
      refine ⟨?_, ?_⟩
      · refine AllCalm.cons (fun W hB hd => ?_) ?_
        · go_wp2_with (fail)
          exact CalmQ.mk rfl _ rfl (Below.refl _ _) rfl
        refine AllCalm.cons (fun W hB hd => ?_) ?_
        · go_wp2_with (fail)
          exact CalmQ.mk rfl _ rfl (Below.refl _ _) rfl
        refine AllCalm.cons (fun W hB hd => ?_) ?_
        · obtain ⟨h0, h1, -⟩ := hd
          have h0 : f 0 = _ := h0
          have h1 : f 1 = _ := h1
          rw [h0, h1]
          go_wp2_with (fail)
          exact CalmQ.mk rfl _ rfl (Below.refl _ _) rfl
        refine AllCalm.cons (fun W hB hd => ?_) ?_
        · obtain ⟨h2, -⟩ := hd
          have h2 : f 2 = _ := h2
          rw [h2]
          have y0 := hs W hB
          go_wp2_with (fail)
          exact CalmQ.mk rfl _ rfl (Below.refl _ _) rfl
        refine AllCalm.cons (fun W hB hd => ?_) ?_
        · obtain ⟨h3, -⟩ := hd
          have h3 : f 3 = _ := h3
          rw [h3]
          go_wp2_with (fail)
          exact CalmQ.mk rfl _ rfl (Below.refl _ _) rfl
        refine AllCalm.cons (fun W hB hd => ?_) ?_
        · obtain ⟨h4, -⟩ := hd
          have h4 : f 4 = _ := h4
          rw [h4]
          go_wp2_with (fail)
          exact CalmQ.mk rfl _ rfl (Below.refl _ _) rfl
        refine AllCalm.cons (fun W hB hd => ?_) ?_
        · go_wp2_with (fail)
          exact CalmQ.mk rfl _ rfl (Below.refl _ _) rfl
        refine AllCalm.cons (fun W hB hd => ?_) ?_
        · go_wp2_with (fail)
          exact CalmQ.mk rfl _ rfl (Below.refl _ _) rfl
        refine AllCalm.cons (fun W hB hd => ?_) ?_
        · obtain ⟨h6, h7, -⟩ := hd
          have h6 : f 6 = _ := h6
          have h7 : f 7 = _ := h7
          rw [h6, h7]
          go_wp2_with (fail)
          exact CalmQ.mk rfl _ rfl (Below.refl _ _) rfl
        refine AllCalm.cons (fun W hB hd => ?_) ?_
        · obtain ⟨h8, -⟩ := hd
          have h8 : f 8 = _ := h8
          rw [h8]
          have y0 := hs W hB
          go_wp2_with (fail)
          exact CalmQ.mk rfl _ rfl (Below.refl _ _) rfl
        refine AllCalm.cons (fun W hB hd => ?_) ?_
        · obtain ⟨h9, -⟩ := hd
          have h9 : f 9 = _ := h9
          rw [h9]
          go_wp2_with (fail)
          exact CalmQ.mk rfl _ rfl (Below.refl _ _) rfl
        refine AllCalm.cons (fun W hB hd => ?_) ?_
        · obtain ⟨h10, -⟩ := hd
          have h10 : f 10 = _ := h10
          rw [h10]
          go_wp2_with (fail)
          exact CalmQ.mk rfl _ rfl (Below.refl _ _) rfl
        refine AllCalm.cons (fun W hB hd => ?_) ?_
        · obtain ⟨h11, -⟩ := hd
          have h11 : f 11 = _ := h11
          rw [h11]
          go_wp2_with (fail)
          exact CalmQ.mk rfl _ rfl (Below.refl _ _) rfl
        refine AllCalm.cons (fun W hB hd => ?_) ?_
        · obtain ⟨h5, h12, -⟩ := hd
          have h5 : f 5 = _ := h5
          have h12 : f 12 = _ := h12
          rw [h5, h12]
          go_wp2_with (fail)
          exact CalmQ.mk rfl _ rfl (Below.refl _ _) rfl
        refine AllCalm.cons (fun W hB hd => ?_) ?_
        · go_wp2_with (fail)
          exact CalmQ.mk rfl _ rfl ((Below.refl _ W).alloc (Nat.le_refl _) _) ⟨_, rfl, hB.size, Mem.new _ _ _⟩
        exact AllCalm.nil
      · intro W hB hT
        obtain ⟨h0, h1, h2, h3, h4, h5, h6, h7, h8, h9, h10, h11, h12, h13, h14, -⟩ := hT
        have h0 : f 0 = _ := h0
        have h1 : f 1 = _ := h1
        have h2 : f 2 = _ := h2
        have h3 : f 3 = _ := h3
        have h4 : f 4 = _ := h4
        have h5 : f 5 = _ := h5
        have h6 : f 6 = _ := h6
        have h7 : f 7 = _ := h7
        have h8 : f 8 = _ := h8
        have h9 : f 9 = _ := h9
        have h10 : f 10 = _ := h10
        have h11 : f 11 = _ := h11
        have h12 : f 12 = _ := h12
        have h13 : f 13 = _ := h13
        rw [h0, h1, h2, h3, h4, h5, h6, h7, h8, h9, h10, h11, h12, h13]
        clear h0 h1 h2 h3 h4 h5 h6 h7 h8 h9 h10 h11 h12 h13
        simp only [List.drop_succ_cons, List.drop_zero]
        obtain ⟨g, hgv, hg1, hgm⟩ := h14
        rw [hgv]
        have B2 : Below wr.heap.size wr (W.setRow g #[.int .u64 6, .int .i64 (p : Nat), .int .i64 (m : Nat)]) := below_setRow hB hg1 _
        obtain ⟨W2, e2, B2, m2⟩ : ∃ W2, W2 = W.setRow g #[.int .u64 6, .int .i64 (p : Nat), .int .i64 (m : Nat)] ∧ Below wr.heap.size wr W2 ∧ Mem W2 g 24 #[.int .u64 6, .int .i64 (p : Nat), .int .i64 (m : Nat)] := ⟨_, rfl, B2, hgm.row _⟩
        have hri : ∀ W, Calls Try.prog 18 #[.agg #[.int .u64 6, .int .i64 (p : Nat), .int .i64 (m : Nat)]] W fun e' w' => e' = .returned (.bool (okR (p : Nat) (m : Nat))) ∧ Below W.heap.size W w' := fun W => right_any 6 (p : Nat) (m : Nat) W
        have hjx : (j : Int) ≤ 30 := by omega
        have hj1 : j + 1 ≤ l.length := hlt
        clear a1 a3 hs h0 h1 h2 h3 h4 h5 h6 h7 h8 h9 h10 h11 h12 h13
        rcases hP with ⟨rfl, O, hW, hON, hmN⟩ | ⟨hw0, O, S, n, l', p', m', hW, hmN⟩
        · have hW2 := hW.below B2
          have hN2 := hmN.below B2 hmN.lt
          have hOg : ¬ O g := fun hO => by obtain ⟨V, hV⟩ := hW.dsk.is; have := hV.lt g hO; omega
          cases hok : okR (p : Nat) (m : Nat) with
          | true =>
            have hc : Calls Try.prog 14 #[.pointer (some ⟨Z, 0, none⟩), .int .u64 5, .agg #[.int .u64 6, .int .i64 (p : Nat), .int .i64 (m : Nat)]] W2 fun e' w' => e' = .returned (.tuple #[.agg #[.int .u64 6, .int .i64 (p : Nat), .int .i64 (m : Nat)], .bool true, .int .i64 0]) ∧ ∃ O' S' n' l', Wit w w' Z Y X O' S' n' l' 6 p m ∧ Mem w' N 24 #[.int .u64 0, .int .i64 0, .int .i64 0] ∧ ¬ O' N ∧ Mem w' g 24 #[.int .u64 6, .int .i64 (p : Nat), .int .i64 (m : Nat)] := (cas_ok hW2 5 6 p m (by decide) (by decide) (decide_eq_true ⟨rfl, by decide, rfl, hok⟩) (puts_up hW2 (fmt_up (new_up 2) _ _) (by unfold S1; rw [fmt_last]; decide) (Nat.zero_le _) (show 3 ≤ _ by decide) (by decide) 6 p m)).mono fun e' w' ⟨q1, O', q2, q3, q4, q5⟩ => ⟨q1, O', _, _, _, q2, hN2.eff q4 (fun h => by
              obtain ⟨v, hv⟩ := hW2.tw
              rcases h with h | h | h
              · exact hON h
              · exact (mem_tag hN2).ne (mem_tag hv.mem) (by decide) h
              · exact (mem_tag hN2).ne (mem_tag hW2.mem) (by decide) h), fun hO => (q5 N hO).elim hON (fun h => by have := hN2.lt; omega), m2.eff q4 (fun h => by
              obtain ⟨v, hv⟩ := hW2.tw
              rcases h with h | h | h
              · exact hOg h
              · exact (mem_tag m2).ne (mem_tag hv.mem) (by decide) h
              · exact (mem_tag m2).ne (mem_tag hW2.mem) (by decide) h)⟩
            rw [hok] at hri
            have hgN : g ≠ N := by have := hmN.lt; omega
            clear hW hW2 hok
            subst e2
            go_wp2_with (first
              | (refine wpList_store_row rfl 24 (.tmp 10) (.tmp 55) rfl g #[.int .u64 6, .int .i64 (p : Nat), .int .i64 (m : Nat)] rfl rfl 24 #[.int .u64 0, .int .i64 0, .int .i64 0] hgm (by kernel_rfl) (by kernel_rfl) (by kernel_rfl) ?_)
              | (refine wpList_load_row rfl 24 (.tmp 10) rfl g rfl 24 #[.int .u64 6, .int .i64 (p : Nat), .int .i64 (m : Nat)] (0, 0) _ m2 Try.underlying24 rfl (by kernel_rfl) ?_)
              | (go_at_call 14; (with_reducible refine hc.mono ?_); rintro e' w6 ⟨rfl, O6, S6, n6, l6, h6, mN6, hO6, mg6⟩)
              | (refine wpList_store_row rfl 24 (.tmp 11) (.tmp 60) rfl w6.heap.size #[.int .u64 6, .int .i64 (p : Nat), .int .i64 (m : Nat)] rfl rfl 24 #[.int .u64 0, .int .i64 0, .int .i64 0] (Mem.new w6 _ _) (by kernel_rfl) (by kernel_rfl) (by kernel_rfl) ?_; obtain ⟨w7, e7, h7, m7, b7⟩ := boxW h6 #[.int .u64 6, .int .i64 (p : Nat), .int .i64 (m : Nat)]; rw [← e7]; clear e7; have mN7 := mN6.below b7 mN6.lt; have mg7 := mg6.below b7 mg6.lt; have c0 := mg7.cell 0; have c1 := mg7.cell 1; have c2 := mg7.cell 2)
              | (go_at_call 18; (with_reducible refine (hri _).mono ?_); rintro e' w8 ⟨rfl, b8⟩; have h8 := h7.below b8; have mN8 := mN7.below b8 mN7.lt; have mg8 := mg7.below b8 mg7.lt; have mx8 := m7.below b8 m7.lt)
              | (refine wpList_load_row rfl 24 (.tmp 10) rfl g rfl 24 #[.int .u64 6, .int .i64 (p : Nat), .int .i64 (m : Nat)] (0, 0) _ mg8 Try.underlying24 rfl (by kernel_rfl) ?_)
              | (refine wpList_store_row rfl 24 (.tmp 8) (.tmp 77) rfl N #[.int .u64 6, .int .i64 (p : Nat), .int .i64 (m : Nat)] rfl rfl 24 #[.int .u64 0, .int .i64 0, .int .i64 0] mN8 (by kernel_rfl) (by kernel_rfl) (by kernel_rfl) ?_; have h9 := h8.effR (eff_row w8 N #[.int .u64 6, .int .i64 (p : Nat), .int .i64 (m : Nat)]) (fun k hk e => by subst e; exact ⟨hO6, hoN, mem_tag mN8⟩); have mN9 := mN8.row #[.int .u64 6, .int .i64 (p : Nat), .int .i64 (m : Nat)]; have mx9 := mx8.rowFar (show w6.heap.size ≠ N by have := mN6.lt; omega) #[.int .u64 6, .int .i64 (p : Nat), .int .i64 (m : Nat)]; generalize w8.setRow N #[.int .u64 6, .int .i64 (p : Nat), .int .i64 (m : Nat)] = w9 at *; have d0 := mx9.cell 0; have d1 := mx9.cell 1; have d2 := mx9.cell 2; have f0 := mN9.cell 0; have f1 := mN9.cell 1; have f2 := mN9.cell 2))
            exact ⟨⟨(j : Nat), j + 1, hj1, hjx, rfl, by go_num, .inr ⟨by omega, O6, S6, n6, l6, p, m, h9, mN9⟩⟩, by simp [intOf]; omega⟩
          | false =>
            have hc : Calls Try.prog 14 #[.pointer (some ⟨Z, 0, none⟩), .int .u64 5, .agg #[.int .u64 6, .int .i64 (p : Nat), .int .i64 (m : Nat)]] W2 fun e' w' => e' = .returned (.tuple #[.agg #[.int .u64 5, .int .i64 0, .int .i64 3], .bool false, .int .i64 0]) ∧ Below W2.heap.size W2 w' := cas_no hW2 5 6 (p : Nat) (m : Nat) (by decide) (by decide) (decide_eq_false fun q => by rw [hok] at q; exact absurd q.2.2.2 (by decide))
            rw [hok] at hri
            clear hW hok
            subst e2
            go_wp2_with (first
              | (refine wpList_store_row rfl 24 (.tmp 10) (.tmp 55) rfl g #[.int .u64 6, .int .i64 (p : Nat), .int .i64 (m : Nat)] rfl rfl 24 #[.int .u64 0, .int .i64 0, .int .i64 0] hgm (by kernel_rfl) (by kernel_rfl) (by kernel_rfl) ?_)
              | (refine wpList_load_row rfl 24 (.tmp 10) rfl g rfl 24 #[.int .u64 6, .int .i64 (p : Nat), .int .i64 (m : Nat)] (0, 0) _ m2 Try.underlying24 rfl (by kernel_rfl) ?_)
              | (go_at_call 14; (with_reducible refine hc.mono ?_); rintro e' w6 ⟨rfl, b6⟩; have h6 := hW2.below b6; have mN6 := hN2.below b6 hN2.lt; have mg6 := m2.below b6 m2.lt)
              | (refine wpList_store_row rfl 24 (.tmp 11) (.tmp 60) rfl w6.heap.size #[.int .u64 5, .int .i64 0, .int .i64 3] rfl rfl 24 #[.int .u64 0, .int .i64 0, .int .i64 0] (Mem.new w6 _ _) (by kernel_rfl) (by kernel_rfl) (by kernel_rfl) ?_; obtain ⟨w7, e7, h7, m7, b7⟩ := boxW h6 #[.int .u64 5, .int .i64 0, .int .i64 3]; rw [← e7]; clear e7; have mN7 := mN6.below b7 mN6.lt; have mg7 := mg6.below b7 mg6.lt; have c0 := mg7.cell 0; have c1 := mg7.cell 1; have c2 := mg7.cell 2)
              | (go_at_call 18; (with_reducible refine (hri _).mono ?_); rintro e' w8 ⟨rfl, b8⟩; have h8 := h7.below b8; have mN8 := mN7.below b8 mN7.lt; have mx8 := m7.below b8 m7.lt; have d0 := mx8.cell 0; have d1 := mx8.cell 1; have d2 := mx8.cell 2))
            exact ⟨⟨-1, j + 1, hj1, by decide, rfl, by go_num, .inl ⟨rfl, O, h8, hON, mN8⟩⟩, by simp [intOf]; omega⟩
        · have hW2 := hW.below B2
          have hN2 := hmN.below B2 hmN.lt
          have hwn : ¬ won < 0 := by omega
          have hc : Calls Try.prog 14 #[.pointer (some ⟨Z, 0, none⟩), .int .u64 5, .agg #[.int .u64 6, .int .i64 (p : Nat), .int .i64 (m : Nat)]] W2 fun e' w' => e' = .returned (.tuple #[.agg #[.int .u64 6, .int .i64 (p' : Nat), .int .i64 (m' : Nat)], .bool false, .int .i64 0]) ∧ Below W2.heap.size W2 w' := cas_no hW2 5 6 (p : Nat) (m : Nat) (by decide) (by decide) (decide_eq_false fun q => absurd q.1 (by decide))
          clear hW hri
          subst e2
          go_wp2_with (first
            | (refine wpList_store_row rfl 24 (.tmp 10) (.tmp 55) rfl g #[.int .u64 6, .int .i64 (p : Nat), .int .i64 (m : Nat)] rfl rfl 24 #[.int .u64 0, .int .i64 0, .int .i64 0] hgm (by kernel_rfl) (by kernel_rfl) (by kernel_rfl) ?_)
            | (refine wpList_load_row rfl 24 (.tmp 10) rfl g rfl 24 #[.int .u64 6, .int .i64 (p : Nat), .int .i64 (m : Nat)] (0, 0) _ m2 Try.underlying24 rfl (by kernel_rfl) ?_)
            | (go_at_call 14; (with_reducible refine hc.mono ?_); rintro e' w6 ⟨rfl, b6⟩; have h6 := hW2.below b6; have mN6 := hN2.below b6 hN2.lt; have mg6 := m2.below b6 m2.lt)
            | (refine wpList_store_row rfl 24 (.tmp 11) (.tmp 60) rfl w6.heap.size #[.int .u64 6, .int .i64 (p' : Nat), .int .i64 (m' : Nat)] rfl rfl 24 #[.int .u64 0, .int .i64 0, .int .i64 0] (Mem.new w6 _ _) (by kernel_rfl) (by kernel_rfl) (by kernel_rfl) ?_; obtain ⟨w7, e7, h7, m7, b7⟩ := boxW h6 #[.int .u64 6, .int .i64 (p' : Nat), .int .i64 (m' : Nat)]; rw [← e7]; clear e7; have mN7 := mN6.below b7 mN6.lt; have d0 := m7.cell 0; have d1 := m7.cell 1; have d2 := m7.cell 2; have f0 := mN7.cell 0; have f1 := mN7.cell 1; have f2 := mN7.cell 2))
          exact ⟨⟨won, j + 1, hj1, hwl, rfl, by go_num, .inr ⟨hw0, O, S, n, l', p', m', h7, mN7⟩⟩, by simp [intOf]; omega⟩
    · obtain rfl : j = l.length := by omega
      rcases hP with ⟨rfl, O, hW, hON, hmN⟩ | ⟨hw0, O, S, n, l', p', m', hW, hmN⟩
      · go_wp2
        apply calm_tail 7 [.is _, .is _, .is _, .is _, .is _, .is _, .is _] [[], [0], [1], [2], [3, 2, 2], [2], [4, 5, 2]] (by kernel_rfl) (by kernel_rfl) (by kernel_rfl) rfl
        intro f a1 ha1
        simp only [List.take_succ_cons, List.take_zero, putL, Act.put, List.setIfInBounds_toArray, List.set_cons_succ, List.set_cons_zero] at ha1
        subst ha1
        refine ⟨?_, ?_⟩
        · refine AllCalm.cons (fun W hB hd => ?_) ?_
          · go_wp2_with (fail)
            exact CalmQ.mk rfl _ rfl (Below.refl _ _) rfl
          refine AllCalm.cons (fun W hB hd => ?_) ?_
          · obtain ⟨h0, -⟩ := hd
            have h0 : f 0 = _ := h0
            rw [h0]
            go_wp2_with (fail)
            exact CalmQ.mk rfl _ rfl (Below.refl _ _) rfl
          refine AllCalm.cons (fun W hB hd => ?_) ?_
          · obtain ⟨h1, -⟩ := hd
            have h1 : f 1 = _ := h1
            rw [h1]
            go_wp2_with (fail)
            exact CalmQ.mk rfl _ rfl (Below.refl _ _) rfl
          refine AllCalm.cons (fun W hB hd => ?_) ?_
          · obtain ⟨h2, -⟩ := hd
            have h2 : f 2 = _ := h2
            rw [h2]
            go_wp2_with (fail)
            exact CalmQ.mk rfl _ rfl (Below.refl _ _) rfl
          refine AllCalm.cons (fun W hB hd => ?_) ?_
          · obtain ⟨h3, h2, -, -⟩ := hd
            have h3 : f 3 = _ := h3
            have h2 : f 2 = _ := h2
            rw [h3, h2]
            go_wp2_with (fail)
            exact CalmQ.mk rfl _ rfl (Below.refl _ _) rfl
          refine AllCalm.cons (fun W hB hd => ?_) ?_
          · obtain ⟨h2, -⟩ := hd
            have h2 : f 2 = _ := h2
            rw [h2]
            go_wp2_with (fail)
            exact CalmQ.mk rfl _ rfl (Below.refl _ _) rfl
          refine AllCalm.cons (fun W hB hd => ?_) ?_
          · obtain ⟨h4, h5, h2, -⟩ := hd
            have h4 : f 4 = _ := h4
            have h5 : f 5 = _ := h5
            have h2 : f 2 = _ := h2
            rw [h4, h5, h2]
            go_wp2_with (fail)
            exact CalmQ.mk rfl _ rfl (Below.refl _ _) rfl
          exact AllCalm.nil
        · intro W hB hT
          obtain ⟨h0, h1, h2, h3, h4, h5, h6, -⟩ := hT
          have h0 : f 0 = _ := h0
          have h1 : f 1 = _ := h1
          have h2 : f 2 = _ := h2
          have h3 : f 3 = _ := h3
          have h4 : f 4 = _ := h4
          have h5 : f 5 = _ := h5
          have h6 : f 6 = _ := h6
          rw [h0, h1, h2, h3, h4, h5, h6]
          clear h0 h1 h2 h3 h4 h5 h6
          simp only [List.drop_succ_cons, List.drop_zero]
          go_wp2
          go_ret
          exact ⟨rfl, (hW.below hB).dsk.bl⟩
      · have hwn : ¬ won < 0 := by omega
        have hwb : decide (won < 0) = false := decide_eq_false hwn
        have hg : ∀ W, Below wr.heap.size wr W → Calls Try.prog 16 #[.pointer (some ⟨Z, 0, none⟩)] W fun e' w' => e' = .returned (.agg #[.int .u64 6, .int .i64 (p' : Nat), .int .i64 (m' : Nat)]) ∧ Below W.heap.size W w' := fun W hB => get_any (hW.below hB)
        go_wp2
        apply calm_tail 7 [.is _, .is (.bool false), .is (.bool false), .is _, .is _, .is _, .is _] [[], [0], [1], [2], [3, 2, 2], [2], [4, 5, 2]] (by kernel_rfl) (by kernel_rfl) (by kernel_rfl) rfl
        intro f a1 ha1
        simp only [List.take_succ_cons, List.take_zero, putL, Act.put, List.setIfInBounds_toArray, List.set_cons_succ, List.set_cons_zero] at ha1
        subst ha1
        refine ⟨?_, ?_⟩
        · refine AllCalm.cons (fun W hB hd => ?_) ?_
          · go_wp2_with (fail)
            exact CalmQ.mk rfl _ rfl (Below.refl _ _) rfl
          refine AllCalm.cons (fun W hB hd => ?_) ?_
          · obtain ⟨h0, -⟩ := hd
            have h0 : f 0 = _ := h0
            rw [h0]
            go_wp2_with (fail)
            exact CalmQ.mk rfl _ rfl (Below.refl _ _) rfl
          refine AllCalm.cons (fun W hB hd => ?_) ?_
          · obtain ⟨h1, -⟩ := hd
            have h1 : f 1 = _ := h1
            rw [h1]
            go_wp2_with (fail)
            exact CalmQ.mk rfl _ rfl (Below.refl _ _) rfl
          refine AllCalm.cons (fun W hB hd => ?_) ?_
          · obtain ⟨h2, -⟩ := hd
            have h2 : f 2 = _ := h2
            rw [h2]
            go_wp2_with (fail)
            exact CalmQ.mk rfl _ rfl (Below.refl _ _) rfl
          refine AllCalm.cons (fun W hB hd => ?_) ?_
          · obtain ⟨h3, h2, -, -⟩ := hd
            have h3 : f 3 = _ := h3
            have h2 : f 2 = _ := h2
            rw [h3, h2]
            go_wp2_with ((go_at_call 16; (with_reducible refine (hg _ hB).mono ?_); rintro e' w8 ⟨rfl, b8⟩))
            exact CalmQ.mk rfl _ rfl b8 rfl
          refine AllCalm.cons (fun W hB hd => ?_) ?_
          · obtain ⟨h2, -⟩ := hd
            have h2 : f 2 = _ := h2
            rw [h2]
            have k8 := hmN.below hB hmN.lt; have q0 := k8.cell 0; have q1 := k8.cell 1; have q2 := k8.cell 2
            go_wp2_with (fail)
            exact CalmQ.mk rfl _ rfl (Below.refl _ _) rfl
          refine AllCalm.cons (fun W hB hd => ?_) ?_
          · obtain ⟨h4, h5, h2, -⟩ := hd
            have h4 : f 4 = _ := h4
            have h5 : f 5 = _ := h5
            have h2 : f 2 = _ := h2
            rw [h4, h5, h2]
            go_wp2_with (fail)
            exact CalmQ.mk rfl _ rfl (Below.refl _ _) rfl
          exact AllCalm.nil
        · intro W hB hT
          obtain ⟨h0, h1, h2, h3, h4, h5, h6, -⟩ := hT
          have h0 : f 0 = _ := h0
          have h1 : f 1 = _ := h1
          have h2 : f 2 = _ := h2
          have h3 : f 3 = _ := h3
          have h4 : f 4 = _ := h4
          have h5 : f 5 = _ := h5
          have h6 : f 6 = _ := h6
          rw [h0, h1, h2, h3, h4, h5, h6]
          clear h0 h1 h2 h3 h4 h5 h6
          simp only [List.drop_succ_cons, List.drop_zero]
          go_wp2
          go_ret
          exact ⟨rfl, (hW.below hB).dsk.bl⟩
set_option maxRecDepth 100000 in
theorem lifted (os : Os) (started : os.Started) (H : Type) (enc : TypeId × Value → H) :
    ReturnsInHanded {} Try.checked os 5 .any (Rows.witnessRacesSpec.pre6 enc Try.prog Try.f5 Rows.witnessRacesRow.domain false) (Rows.witnessRacesSpec.post enc Try.prog Try.f5 false true false false) := by
  refine returnsInHanded_of_change (C := Try.checked) own started (by kernel_rfl) Try.func5
    (ChangeSpec.witness6 (enc := enc) (C := Try.checked) false ⟨#[], #[.slice none 0 0], []⟩ 8 (by kernel_rfl) (by kernel_rfl) (by kernel_rfl) (by kernel_rfl)) ?_
  intro W base args ds gs before hval0 hW hcnd _
  have hval : ∀ (j : Nat) t v, Try.f5.params[j]? = some t → args[j]? = some v → Value.okWide Try.prog W .any base t v := hval0
  have hW' := hW
  obtain ⟨p, q, hA0, hV, rfl, hfz, hnd⟩ := hW
  have hA : DataW.TrodAll enc Try.prog W 0 (fun _ => true) true Try.f5.params.toList args.toList ds p := hA0
  rw [Try.params5] at hA hval
  obtain ⟨v0, vs0, d0, ds0, p0, q0, hargs, rfl, rfl, h0, r0⟩ := trodAll_cons hA
  obtain ⟨rfl, rfl, rfl⟩ := trodAll_nil r0
  obtain rfl : args = #[v0] := by cases args; simp_all
  obtain ⟨rfl, rfl⟩ := trodVars_none hV
  obtain ⟨l0, s0, e0⟩ := open_bytes Try.underlying25 Try.underlying5 (by kernel_rfl) (hval 0 25 v0 rfl rfl) h0
  refine (walk v0 l0 W s0).mono fun e W' ⟨he, hb⟩ => ?_
  subst he
  exact ⟨_, rfl, law_post laidOut (by kernel_rfl) rfl (by kernel_rfl) Try.underlying4 rfl rfl rfl hW' hb⟩

theorem proved : Rows.WitnessRacesSaid :=
  OpenClaim.holds_of_wide 5 Try.f5 rfl rfl rfl rfl rfl rfl rfl ⟨rfl, rfl, rfl, rfl, rfl⟩ rfl rfl rfl rfl rfl (by kernel_rfl) Try.func5 (by kernel_rfl)
    (of_decide_eq_true (by kernel_rfl)) (by unfold Func.isWrapper; first | (rw [if_pos (by decide +kernel)]; kernel_rfl) | (rw [if_neg (by decide +kernel)]; exact ⟨rfl, rfl⟩))
    (fun os started H enc _ => lifted os started H enc)
end Wt
end Go.Proofs.Ytccknplmcnahbaa
