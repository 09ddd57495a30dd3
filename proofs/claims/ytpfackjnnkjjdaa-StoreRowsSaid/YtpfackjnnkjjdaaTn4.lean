/- Package twin: Put: contract. -/
import Derived.Test.YtpfackjnnkjjdaaTn3
namespace Go.Proofs.Ytpfackjnnkjjdaa
open Go.ChangeShapes Go.WideShapes Go.ChangeAt Go.RowKit Go.Lib
set_option linter.unusedVariables false
set_option linter.unusedSimpArgs false
namespace Tw
open Dk
/-- What Put leaves. -/
def putS (S : DS) (a n : Nat) (l : List UInt8) : DS := (S.wr (a + n % 2) (packS n l)).flushed
section
variable {o w w' : World} {B X Y a n : Nat} {O O' : Nat → Prop} {S : DS} {v : Value} {l : List UInt8}
theorem _root_.Go.Proofs.Ytpfackjnnkjjdaa.Dk.Dsk.effO {T : Nat → Prop} (h : Dsk o w X O S) (he : Eff T w w') (hT : ∀ k, k < w.heap.size → O k → ¬ T k) (hb : ∀ k, k < w.heap.size → T k → o.heap.size ≤ k) : Dsk o w' X O S := ⟨h.is.imp fun V hv => hv.effO he hT, h.fine, h.from_, he.below h.bl h.bl.size hb⟩
set_option maxRecDepth 100000 in
set_option maxHeartbeats 1000000 in
theorem put_g (h : Dsk o w X O S) (ha : a + 1 < S.last.length) (ht : TwM B w O Y X a n v l) (hoB : o.heap.size ≤ B) (hn : n + 1 < 18446744073709551616) (pv : Value) (m : List UInt8) (hv : Sl w w.heap.size pv m.length (bs m)) (hvO : ∀ k, pv.ownBlock = some k → k ≠ Y ∧ ¬ O k) (hm : m.length ≤ 488) {S1 S2 : DS} (hW : ∀ (W : World) (u : Value), Dsk o W X O S → Sl W W.heap.size u 512 (bs (packS (n + 1) m)) → (∀ k, u.ownBlock = some k → ¬ O k) → Calls Try.prog 21 #[.pointer (some ⟨X, 0, none⟩), .int .i64 ((a + (n + 1) % 2 : Nat) : Int), u] W fun e w' => ∃ O', e = .returned (.int .i64 0) ∧ Dsk o w' X O' S1 ∧ Eff O W w' ∧ ∀ k, O' k → O k ∨ W.heap.size ≤ k) (hF : ∀ (W : World) (O' : Nat → Prop), Dsk o W X O' S1 → Calls Try.prog 49 #[.pointer (some ⟨X, 0, none⟩)] W fun e w' => e = .returned (.int .i64 0) ∧ Dsk o w' X O' S2 ∧ Eff O' W w') :
    Calls Try.prog 54 #[.pointer (some ⟨Y, 0, none⟩), pv] w fun e w' => ∃ O' v', e = .returned (.int .i64 0) ∧ Dsk o w' X O' S2 ∧ TwM B w' O' Y X a (n + 1) v' m ∧ Eff (fun k => O k ∨ k = Y) w w' ∧ ∀ k, O' k → O k ∨ w.heap.size ≤ k := by
  obtain ⟨V, hV⟩ := h.is
  have hfew := h.fine.few
  have hYl := ht.mem.lt
  obtain ⟨i0, hi, hz0, hz1, hz2⟩ := info_parts (show (Try.prog.info? 5).map (fun i => (i.zero, i.size, i.bytes)) = some (some (.int .u8 0), 1, 1) by kernel_rfl)
  have x0 : w.cell? ⟨Y, 0, none⟩ = some (.pointer (some ⟨X, 0, none⟩)) := ht.mem.cell 0
  have x1 : w.cell? ⟨Y, 1, none⟩ = some (.int .i64 (a : Nat)) := ht.mem.cell 1
  have x2 : w.cell? ⟨Y, 2, none⟩ = some (.int .u64 (n : Nat)) := ht.mem.cell 2
  have hp := pack_ok (n + 1) hn pv m w hv hm
  have hp : Calls Try.prog 47 #[.int .u64 ((n : Int) + 1), pv] w fun e w' => ∃ g c, e = .returned (.tuple #[.slice (some ⟨g, 0, none⟩) 512 c, .int .i64 0]) ∧ w'.ownsRow w.heap.size 5 1 (.slice (some ⟨g, 0, none⟩) 512 c) 512 (bs (packS (n + 1) m)) ∧ Below w.heap.size w w' := hp.mono fun e w' ⟨v', h1, h2, h3⟩ => by
    rcases h2.2 with ⟨_, hh⟩ | ⟨g, cap, cur, e1, _⟩
    · omega
    · subst e1; exact ⟨g, cap, h1, h2, h3⟩
  have hh1 : ∀ W, Calls Try.prog 48 #[.int .i64 (a : Nat), .int .u64 ((n : Int) + 1)] W fun e w' => e = .returned (.int .i64 ((a + (n + 1) % 2 : Nat) : Int)) ∧ W = w' := fun W => home_any a (n + 1) (by omega) hn W
  have hpar : a + (n + 1) % 2 < S.last.length := by omega
  have hT : ∀ W, Eff O w W → Mem W Y 91 #[.pointer (some ⟨X, 0, none⟩), .int .i64 (a : Nat), .int .u64 (n : Nat), v] := fun W hW => ht.mem.eff hW ht.noY
  have hpv : ∀ W, Eff (fun k => O k ∨ k = Y) w W → Sl W W.heap.size pv m.length (bs m) := fun W hW => (sl_eff hv hW (Nat.le_refl _) fun k hk1 hk hS => hS.elim (hvO k hk).2 (hvO k hk).1).more hW.size
  have c1 : ∀ W g c, Below w.heap.size w W → W.ownsRow w.heap.size 5 1 (.slice (some ⟨g, 0, none⟩) 512 c) 512 (bs (packS (n + 1) m)) → Calls Try.prog 21 #[.pointer (some ⟨X, 0, none⟩), .int .i64 ((a + (n + 1) % 2 : Nat) : Int), .slice (some ⟨g, 0, none⟩) 512 c] W fun e w' => ∃ O', e = .returned (.int .i64 0) ∧ Dsk o w' X O' S1 ∧ Eff O W w' ∧ Eff O w w' ∧ ∀ k, O' k → O k ∨ w.heap.size ≤ k := by
    intro W g c hb ho
    have hgl := own_tag ho g rfl
    have hng : ¬ O g := fun hO => by have := hV.lt g hO; omega
    refine (hW W _ (h.below hb) (Sl.of_own ho) (fun k hk hOk => ?_)).mono ?_
    · obtain rfl := Option.some.inj hk
      exact hng hOk
    · rintro e w' ⟨O', rfl, h1, h2, h3⟩
      have hbs := hb.size
      exact ⟨O', rfl, h1, h2, (Eff.of (S := O) hb).trans h2 fun _ _ h => h, fun k hk => (h3 k hk).elim .inl fun h => .inr (by omega)⟩
  have c2 : ∀ W O', Dsk o W X O' S1 → Eff O w W → (∀ k, O' k → O k ∨ w.heap.size ≤ k) → Calls Try.prog 49 #[.pointer (some ⟨X, 0, none⟩)] W fun e w' => e = .returned (.int .i64 0) ∧ Dsk o w' X O' S2 ∧ Eff O w w' := fun W O' hs he hk => (hF W O' hs).mono fun e w' ⟨h1, h2, h3⟩ => ⟨h1, h2, he.trans h3 fun i hi hO => (hk i hO).elim id fun h => absurd hi (by omega)⟩
  obtain ⟨A, c, rfl, _, _⟩ := hv.form
  have hnx : (n : Int) + 1 < 18446744073709551616 := by omega
  have hml : (m.length : Int) ≤ 488 := by omega
  clear hpar hW hF
  generalize hq : a + (n + 1) % 2 = q at *
  have hFr : ∀ (x : Value) (W W' : World), Below W.heap.size W W' → (x = .int .i64 0 ∧ ∃ O', Dsk o W X O' S1 ∧ Eff O w W ∧ ∀ k, O' k → O k ∨ w.heap.size ≤ k) → (x = .int .i64 0 ∧ ∃ O', Dsk o W' X O' S1 ∧ Eff O w W' ∧ ∀ k, O' k → O k ∨ w.heap.size ≤ k) := fun x W W' hb ⟨h1, O', h2, h3, h4⟩ => ⟨h1, O', h2.below hb, h3.trans (Eff.of (S := O) hb) fun _ _ h => h, h4⟩
  go_enter Try.func54, Try.ntmps54
  go_wp2_with (go_at_call 47; (with_reducible refine hp.mono ?_); rintro e w2 ⟨g2, cc2, rfl, ho2, hb2⟩)
  have hm2 := fun W (hB : Eff O w2 W) => hT W ((Eff.of (S := O) hb2).trans hB fun _ _ h => h)
  apply CalmR.calm_tail (R := effR (fun k => O k)) 12 [.is (.pointer (some ⟨Y, 0, none⟩)), .is (.pointer (some ⟨Y, 0, none⟩)), .is (.pointer (some ⟨Y, 0, none⟩)), .is (.pointer (some ⟨X, 0, none⟩)), .is (.pointer (some ⟨Y, 0, none⟩)), .is (.pointer (some ⟨Y, 0, none⟩)), .is (.pointer (some ⟨Y, 1, none⟩)), .is (.int .i64 (a : Nat)), .is (.int .u64 ((n : Int) + 1)), .is (.int .i64 (q : Nat)), .is (.slice (some ⟨g2, 0, none⟩) 512 cc2), .frail (fun x W => x = .int .i64 0 ∧ ∃ O', Dsk o W X O' S1 ∧ Eff O w W ∧ ∀ k, O' k → O k ∨ w.heap.size ≤ k) (fun x W W' hb hx => hFr x W W' hb hx)] [[], [0], [1], [2], [], [4], [5], [6], [], [7, 8], [], [3, 9, 10, 9]] (by kernel_rfl) (by kernel_rfl) (by kernel_rfl) rfl rfl
  intro f a1 ha1
  simp only [List.take_succ_cons, List.take_zero, putL, Act.put, List.setIfInBounds_toArray, List.set_cons_succ, List.set_cons_zero] at ha1
  subst ha1
  refine ⟨?_, ?_⟩
  · refine CalmR.AllCalm.cons (fun W hB hd => ?_) ?_
    · have hB : Eff (fun k => O k) _ W := hB
      go_wp2_with (fail)
      exact CalmR.CalmQ.mk rfl _ rfl (Below.refl _ _) rfl
    refine CalmR.AllCalm.cons (fun W hB hd => ?_) ?_
    · have hB : Eff (fun k => O k) _ W := hB
      obtain ⟨h0, -⟩ := hd
      have h0 : f 0 = _ := h0
      rw [h0]
      go_wp2_with (fail)
      exact CalmR.CalmQ.mk rfl _ rfl (Below.refl _ _) rfl
    refine CalmR.AllCalm.cons (fun W hB hd => ?_) ?_
    · have hB : Eff (fun k => O k) _ W := hB
      obtain ⟨h1, -⟩ := hd
      have h1 : f 1 = _ := h1
      rw [h1]
      go_wp2_with (fail)
      exact CalmR.CalmQ.mk rfl _ rfl (Below.refl _ _) rfl
    refine CalmR.AllCalm.cons (fun W hB hd => ?_) ?_
    · have hB : Eff (fun k => O k) _ W := hB
      obtain ⟨h2, -⟩ := hd
      have h2 : f 2 = _ := h2
      rw [h2]
      have y0 : W.cell? ⟨Y, 0, none⟩ = some (.pointer (some ⟨X, 0, none⟩)) := (hm2 W hB).cell 0
      go_wp2_with (fail)
      exact CalmR.CalmQ.mk rfl _ rfl (Below.refl _ _) rfl
    refine CalmR.AllCalm.cons (fun W hB hd => ?_) ?_
    · have hB : Eff (fun k => O k) _ W := hB
      go_wp2_with (fail)
      exact CalmR.CalmQ.mk rfl _ rfl (Below.refl _ _) rfl
    refine CalmR.AllCalm.cons (fun W hB hd => ?_) ?_
    · have hB : Eff (fun k => O k) _ W := hB
      obtain ⟨h4, -⟩ := hd
      have h4 : f 4 = _ := h4
      rw [h4]
      go_wp2_with (fail)
      exact CalmR.CalmQ.mk rfl _ rfl (Below.refl _ _) rfl
    refine CalmR.AllCalm.cons (fun W hB hd => ?_) ?_
    · have hB : Eff (fun k => O k) _ W := hB
      obtain ⟨h5, -⟩ := hd
      have h5 : f 5 = _ := h5
      rw [h5]
      go_wp2_with (fail)
      exact CalmR.CalmQ.mk rfl _ rfl (Below.refl _ _) rfl
    refine CalmR.AllCalm.cons (fun W hB hd => ?_) ?_
    · have hB : Eff (fun k => O k) _ W := hB
      obtain ⟨h6, -⟩ := hd
      have h6 : f 6 = _ := h6
      rw [h6]
      have y1 : W.cell? ⟨Y, 1, none⟩ = some (.int .i64 (a : Nat)) := (hm2 W hB).cell 1
      go_wp2_with (fail)
      exact CalmR.CalmQ.mk rfl _ rfl (Below.refl _ _) rfl
    refine CalmR.AllCalm.cons (fun W hB hd => ?_) ?_
    · have hB : Eff (fun k => O k) _ W := hB
      go_wp2_with (fail)
      exact CalmR.CalmQ.mk rfl _ rfl (Below.refl _ _) rfl
    refine CalmR.AllCalm.cons (fun W hB hd => ?_) ?_
    · have hB : Eff (fun k => O k) _ W := hB
      obtain ⟨h7, h8, -⟩ := hd
      have h7 : f 7 = _ := h7
      have h8 : f 8 = _ := h8
      rw [h7, h8]
      go_wp2_with ((go_at_call 48; (with_reducible refine (hh1 _).mono ?_); rintro e w1 ⟨rfl, rfl⟩))
      exact CalmR.CalmQ.mk rfl _ rfl (Below.refl _ _) rfl
    refine CalmR.AllCalm.cons (fun W hB hd => ?_) ?_
    · have hB : Eff (fun k => O k) _ W := hB
      go_wp2_with (fail)
      exact CalmR.CalmQ.mk rfl _ rfl (Below.refl _ _) rfl
    refine CalmR.AllCalm.cons (fun W hB hd => ?_) ?_
    · have hB : Below _ _ W := hB
      obtain ⟨h3, h9, h10, -, -⟩ := hd
      have h3 : f 3 = _ := h3
      have h9 : f 9 = _ := h9
      have h10 : f 10 = _ := h10
      rw [h3, h9, h10]
      have hbW := hb2.trans (hB.mono hb2.size); have c1W := c1 W _ _ hbW (owns_below ho2 hB)
      go_wp2_with ((go_at_call 21; (with_reducible refine c1W.mono ?_); rintro e w3 ⟨O3, rfl, s3, f3, e3, k3⟩))
      exact CalmR.CalmQ.mk rfl _ rfl f3 ⟨rfl, O3, s3, e3, k3⟩
    exact CalmR.AllCalm.nil
  · intro W hB hT
    have hB : Eff (fun k => O k) _ W := hB
    obtain ⟨h0, h1, h2, h3, h4, h5, h6, h7, h8, h9, h10, h11, -⟩ := hT
    have h0 : f 0 = _ := h0
    have h1 : f 1 = _ := h1
    have h2 : f 2 = _ := h2
    have h3 : f 3 = _ := h3
    have h4 : f 4 = _ := h4
    have h5 : f 5 = _ := h5
    have h6 : f 6 = _ := h6
    have h7 : f 7 = _ := h7
    have h8 : f 8 = _ := h8
    have h9 : f 9 = _ := h9
    have h10 : f 10 = _ := h10
    rw [h0, h1, h2, h3, h4, h5, h6, h7, h8, h9, h10]
    clear h0 h1 h2 h3 h4 h5 h6 h7 h8 h9 h10
    simp only [List.drop_succ_cons, List.drop_zero]
    obtain ⟨e11, O3, s3, e3, k3⟩ := h11
    rw [e11]
    have z0 : W.cell? ⟨Y, 0, none⟩ = some (.pointer (some ⟨X, 0, none⟩)) := (hT _ e3).cell 0
    have HN := Lib.hid hn
    clear hnx hh1 hm2 hFr hn x0 x1 x2 c1 hp
    go_wp2_with (first
      | (go_at_call 49; (with_reducible refine (c2 _ _ s3 e3 k3).mono ?_); rintro e w4 ⟨rfl, s4, e4⟩; have m4 := hT _ e4; have u2 : w4.cell? ⟨Y, 2, none⟩ = some (.int .u64 (n : Nat)) := m4.cell 2; have uf := m4.free 2; have m5 := m4.put 2 (.int .u64 ((n : Int) + 1)); have e5 := (e4.mono (T := fun k => O k ∨ k = Y) fun _ _ h => .inl h).setCell (p := ⟨Y, 2, none⟩) (.inr rfl) (.int .u64 ((n : Int) + 1)); have hpv5 := hpv _ e5)
      | (at_builtin; (refine wpList_append_sl _ rfl (.const (.slice none 0 0)) (.tmp 52) _ rfl w4.heap.size 5 i0 _ Try.underlying34 hi hz0 hz1 (by omega) rfl (.slice none 0 0) 0 [] rfl (World.ownsRow_nil _ _ _ _) _ (.slice A m.length c) m.length (bs m) rfl hpv5 bs_one (by omega) (by simp) ?_); intro v6 w6 ho6 hg6 hat6; have hb6 := (Below.refl _ _).grown hg6 (Nat.le_refl _) (fun k hk => by cases hk); have m6 := m5.below hb6 m5.lt; have u3 : w6.cell? ⟨Y, 3, none⟩ = some v := m6.cell 3; have uf3 := m6.free 3; obtain ⟨A6, c6, rfl, _, _⟩ := own_form ho6))
    go_ret
    have hsz := e4.size
    have hs6 := hb6.size
    have hY3 : ¬ O3 Y := fun hO => by
      rcases k3 Y hO with h1 | h1
      · exact ht.noY h1
      · omega
    have e46 : Eff (fun k => k = Y) w4 (w6.setCell ⟨Y, 3, none⟩ (.slice A6 m.length c6)) := (((Eff.refl (fun k => k = Y) w4).setCell (p := ⟨Y, 2, none⟩) rfl (.int .u64 ((n : Int) + 1))).trans (Eff.of (S := fun k => k = Y) hb6) fun _ _ h => h).setCell (p := ⟨Y, 3, none⟩) rfl _
    have hrow : w6.ownsRow w4.heap.size 5 1 (.slice A6 m.length c6) m.length (bs m) := by simpa using ho6
    refine ⟨O3, .slice A6 m.length c6, rfl, s4.effO e46 (fun k _ hO e => hY3 (e ▸ hO)) (fun k _ e => by have := ht.from_; omega), ⟨?_, ?_, ht.from_, hY3, fun k hk hO => ?_, HN.out, hm⟩, (e5.trans (Eff.of (S := fun k => O k ∨ k = Y) hb6) fun _ _ h => h).setCell (p := ⟨Y, 3, none⟩) (.inr rfl) _, k3⟩
    · rw [show ((n + 1 : Nat) : Int) = (n : Int) + 1 by omega]
      exact m6.put 3 _
    · have hYB := ht.mem.lt
      have := ht.from_
      exact owns_mono (owns_eff hrow (effX Y 3 w6 _) fun k hk e => by have := (own_tag hrow k hk).1; omega) (by omega)
    · have h1 := (own_tag hrow k hk).1
      obtain ⟨V4, hV4⟩ := s4.is
      have := hV4.lt k hO
      omega
theorem put_ok (h : Dsk o w X O S) (hu : S.up) (ha : a + 1 < S.last.length) (hw : S.wtg ≤ 900000) (hc : S.calls ≤ 1000000000) (ht : TwM B w O Y X a n v l) (hoB : o.heap.size ≤ B) (hn : n + 1 < 18446744073709551616) (pv : Value) (m : List UInt8) (hv : Sl w w.heap.size pv m.length (bs m)) (hvO : ∀ k, pv.ownBlock = some k → k ≠ Y ∧ ¬ O k) (hm : m.length ≤ 488) :
    Calls Try.prog 54 #[.pointer (some ⟨Y, 0, none⟩), pv] w fun e w' => ∃ O' v', e = .returned (.int .i64 0) ∧ Dsk o w' X O' (putS S a (n + 1) m) ∧ TwM B w' O' Y X a (n + 1) v' m ∧ Eff (fun k => O k ∨ k = Y) w w' ∧ ∀ k, O' k → O k ∨ w.heap.size ≤ k := by
  have hpar : a + (n + 1) % 2 < S.last.length := by omega
  exact put_g h ha ht hoB hn pv m hv hvO hm (S1 := S.wr (a + (n + 1) % 2) (packS (n + 1) m)) (S2 := putS S a (n + 1) m) (fun W u hd hs hk => d_write hd hu _ hpar (by omega) (by omega) u (packS (n + 1) m) W.heap.size (Nat.le_refl _) (by rw [packS_len hm]; exact hs) (by rw [packS_len hm]; omega) (fun k _ hk1 hO => hk k hk1 hO)) (fun W O' hd => d_flush hd ⟨hu.dead, hu.off, hu.arm⟩ (show S.wtg + 1 ≤ _ by omega) (show S.calls + 1 ≤ _ by omega))
set_option maxRecDepth 100000 in
set_option maxHeartbeats 1000000 in
theorem put_w8 (h : Dsk o w X O S) (ha : a + 1 < S.last.length) (ht : TwM B w O Y X a n v l) (hoB : o.heap.size ≤ B) (hn : n + 1 < 18446744073709551616) (pv : Value) (m : List UInt8) (hv : Sl w w.heap.size pv m.length (bs m)) (hvO : ∀ k, pv.ownBlock = some k → k ≠ Y ∧ ¬ O k) (hm : m.length ≤ 488) {S1 : DS} (hW : ∀ (W : World) (u : Value), Dsk o W X O S → Sl W W.heap.size u 512 (bs (packS (n + 1) m)) → (∀ k, u.ownBlock = some k → ¬ O k) → Calls Try.prog 21 #[.pointer (some ⟨X, 0, none⟩), .int .i64 ((a + (n + 1) % 2 : Nat) : Int), u] W fun e w' => ∃ O', e = .returned (.int .i64 8) ∧ Dsk o w' X O' S1 ∧ Eff O W w' ∧ ∀ k, O' k → O k ∨ W.heap.size ≤ k) : Calls Try.prog 54 #[.pointer (some ⟨Y, 0, none⟩), pv] w fun e w' => ∃ O' v', e = .returned (.int .i64 8) ∧ Dsk o w' X O' S1 ∧ TwM B w' O' Y X a n v' l ∧ Eff (fun k => O k ∨ k = Y) w w' ∧ ∀ k, O' k → O k ∨ w.heap.size ≤ k := by
  obtain ⟨V, hV⟩ := h.is
  have hfew := h.fine.few
  have hYl := ht.mem.lt
  obtain ⟨i0, hi, hz0, hz1, hz2⟩ := info_parts (show (Try.prog.info? 5).map (fun i => (i.zero, i.size, i.bytes)) = some (some (.int .u8 0), 1, 1) by kernel_rfl)
  have x0 : w.cell? ⟨Y, 0, none⟩ = some (.pointer (some ⟨X, 0, none⟩)) := ht.mem.cell 0
  have x1 : w.cell? ⟨Y, 1, none⟩ = some (.int .i64 (a : Nat)) := ht.mem.cell 1
  have x2 : w.cell? ⟨Y, 2, none⟩ = some (.int .u64 (n : Nat)) := ht.mem.cell 2
  have hp := pack_ok (n + 1) hn pv m w hv hm
  have hp : Calls Try.prog 47 #[.int .u64 ((n : Int) + 1), pv] w fun e w' => ∃ g c, e = .returned (.tuple #[.slice (some ⟨g, 0, none⟩) 512 c, .int .i64 0]) ∧ w'.ownsRow w.heap.size 5 1 (.slice (some ⟨g, 0, none⟩) 512 c) 512 (bs (packS (n + 1) m)) ∧ Below w.heap.size w w' := hp.mono fun e w' ⟨v', h1, h2, h3⟩ => by
    rcases h2.2 with ⟨_, hh⟩ | ⟨g, cap, cur, e1, _⟩
    · omega
    · subst e1; exact ⟨g, cap, h1, h2, h3⟩
  have hh1 : ∀ W, Calls Try.prog 48 #[.int .i64 (a : Nat), .int .u64 ((n : Int) + 1)] W fun e w' => e = .returned (.int .i64 ((a + (n + 1) % 2 : Nat) : Int)) ∧ W = w' := fun W => home_any a (n + 1) (by omega) hn W
  have hpar : a + (n + 1) % 2 < S.last.length := by omega
  have hT : ∀ W, Eff O w W → Mem W Y 91 #[.pointer (some ⟨X, 0, none⟩), .int .i64 (a : Nat), .int .u64 (n : Nat), v] := fun W hW => ht.mem.eff hW ht.noY
  have hpv : ∀ W, Eff (fun k => O k ∨ k = Y) w W → Sl W W.heap.size pv m.length (bs m) := fun W hW => (sl_eff hv hW (Nat.le_refl _) fun k hk1 hk hS => hS.elim (hvO k hk).2 (hvO k hk).1).more hW.size
  have c1 : ∀ W g c, Below w.heap.size w W → W.ownsRow w.heap.size 5 1 (.slice (some ⟨g, 0, none⟩) 512 c) 512 (bs (packS (n + 1) m)) → Calls Try.prog 21 #[.pointer (some ⟨X, 0, none⟩), .int .i64 ((a + (n + 1) % 2 : Nat) : Int), .slice (some ⟨g, 0, none⟩) 512 c] W fun e w' => ∃ O', e = .returned (.int .i64 8) ∧ Dsk o w' X O' S1 ∧ Eff O W w' ∧ Eff O w w' ∧ ∀ k, O' k → O k ∨ w.heap.size ≤ k := by
    intro W g c hb ho
    have hgl := own_tag ho g rfl
    have hng : ¬ O g := fun hO => by have := hV.lt g hO; omega
    refine (hW W _ (h.below hb) (Sl.of_own ho) (fun k hk hOk => ?_)).mono ?_
    · obtain rfl := Option.some.inj hk
      exact hng hOk
    · rintro e w' ⟨O', rfl, h1, h2, h3⟩
      have hbs := hb.size
      exact ⟨O', rfl, h1, h2, (Eff.of (S := O) hb).trans h2 fun _ _ h => h, fun k hk => (h3 k hk).elim .inl fun h => .inr (by omega)⟩
  obtain ⟨A, c, rfl, _, _⟩ := hv.form
  have hnx : (n : Int) + 1 < 18446744073709551616 := by omega
  have hml : (m.length : Int) ≤ 488 := by omega
  clear hpar hW
  generalize hq : a + (n + 1) % 2 = q at *
  have hFr : ∀ (x : Value) (W W' : World), Below W.heap.size W W' → (x = .int .i64 8 ∧ ∃ O', Dsk o W X O' S1 ∧ Eff O w W ∧ ∀ k, O' k → O k ∨ w.heap.size ≤ k) → (x = .int .i64 8 ∧ ∃ O', Dsk o W' X O' S1 ∧ Eff O w W' ∧ ∀ k, O' k → O k ∨ w.heap.size ≤ k) := fun x W W' hb ⟨h1, O', h2, h3, h4⟩ => ⟨h1, O', h2.below hb, h3.trans (Eff.of (S := O) hb) fun _ _ h => h, h4⟩
  go_enter Try.func54, Try.ntmps54
  go_wp2_with (go_at_call 47; (with_reducible refine hp.mono ?_); rintro e w2 ⟨g2, cc2, rfl, ho2, hb2⟩)
  have hm2 := fun W (hB : Eff O w2 W) => hT W ((Eff.of (S := O) hb2).trans hB fun _ _ h => h)
  apply CalmR.calm_tail (R := effR (fun k => O k)) 12 [.is (.pointer (some ⟨Y, 0, none⟩)), .is (.pointer (some ⟨Y, 0, none⟩)), .is (.pointer (some ⟨Y, 0, none⟩)), .is (.pointer (some ⟨X, 0, none⟩)), .is (.pointer (some ⟨Y, 0, none⟩)), .is (.pointer (some ⟨Y, 0, none⟩)), .is (.pointer (some ⟨Y, 1, none⟩)), .is (.int .i64 (a : Nat)), .is (.int .u64 ((n : Int) + 1)), .is (.int .i64 (q : Nat)), .is (.slice (some ⟨g2, 0, none⟩) 512 cc2), .frail (fun x W => x = .int .i64 8 ∧ ∃ O', Dsk o W X O' S1 ∧ Eff O w W ∧ ∀ k, O' k → O k ∨ w.heap.size ≤ k) (fun x W W' hb hx => hFr x W W' hb hx)] [[], [0], [1], [2], [], [4], [5], [6], [], [7, 8], [], [3, 9, 10, 9]] (by kernel_rfl) (by kernel_rfl) (by kernel_rfl) rfl rfl
  intro f a1 ha1
  simp only [List.take_succ_cons, List.take_zero, putL, Act.put, List.setIfInBounds_toArray, List.set_cons_succ, List.set_cons_zero] at ha1
  subst ha1
  refine ⟨?_, ?_⟩
  · refine CalmR.AllCalm.cons (fun W hB hd => ?_) ?_
    · have hB : Eff (fun k => O k) _ W := hB
      go_wp2_with (fail)
      exact CalmR.CalmQ.mk rfl _ rfl (Below.refl _ _) rfl
    refine CalmR.AllCalm.cons (fun W hB hd => ?_) ?_
    · have hB : Eff (fun k => O k) _ W := hB
      obtain ⟨h0, -⟩ := hd
      have h0 : f 0 = _ := h0
      rw [h0]
      go_wp2_with (fail)
      exact CalmR.CalmQ.mk rfl _ rfl (Below.refl _ _) rfl
    refine CalmR.AllCalm.cons (fun W hB hd => ?_) ?_
    · have hB : Eff (fun k => O k) _ W := hB
      obtain ⟨h1, -⟩ := hd
      have h1 : f 1 = _ := h1
      rw [h1]
      go_wp2_with (fail)
      exact CalmR.CalmQ.mk rfl _ rfl (Below.refl _ _) rfl
    refine CalmR.AllCalm.cons (fun W hB hd => ?_) ?_
    · have hB : Eff (fun k => O k) _ W := hB
      obtain ⟨h2, -⟩ := hd
      have h2 : f 2 = _ := h2
      rw [h2]
      have y0 : W.cell? ⟨Y, 0, none⟩ = some (.pointer (some ⟨X, 0, none⟩)) := (hm2 W hB).cell 0
      go_wp2_with (fail)
      exact CalmR.CalmQ.mk rfl _ rfl (Below.refl _ _) rfl
    refine CalmR.AllCalm.cons (fun W hB hd => ?_) ?_
    · have hB : Eff (fun k => O k) _ W := hB
      go_wp2_with (fail)
      exact CalmR.CalmQ.mk rfl _ rfl (Below.refl _ _) rfl
    refine CalmR.AllCalm.cons (fun W hB hd => ?_) ?_
    · have hB : Eff (fun k => O k) _ W := hB
      obtain ⟨h4, -⟩ := hd
      have h4 : f 4 = _ := h4
      rw [h4]
      go_wp2_with (fail)
      exact CalmR.CalmQ.mk rfl _ rfl (Below.refl _ _) rfl
    refine CalmR.AllCalm.cons (fun W hB hd => ?_) ?_
    · have hB : Eff (fun k => O k) _ W := hB
      obtain ⟨h5, -⟩ := hd
      have h5 : f 5 = _ := h5
      rw [h5]
      go_wp2_with (fail)
      exact CalmR.CalmQ.mk rfl _ rfl (Below.refl _ _) rfl
    refine CalmR.AllCalm.cons (fun W hB hd => ?_) ?_
    · have hB : Eff (fun k => O k) _ W := hB
      obtain ⟨h6, -⟩ := hd
      have h6 : f 6 = _ := h6
      rw [h6]
      have y1 : W.cell? ⟨Y, 1, none⟩ = some (.int .i64 (a : Nat)) := (hm2 W hB).cell 1
      go_wp2_with (fail)
      exact CalmR.CalmQ.mk rfl _ rfl (Below.refl _ _) rfl
    refine CalmR.AllCalm.cons (fun W hB hd => ?_) ?_
    · have hB : Eff (fun k => O k) _ W := hB
      go_wp2_with (fail)
      exact CalmR.CalmQ.mk rfl _ rfl (Below.refl _ _) rfl
    refine CalmR.AllCalm.cons (fun W hB hd => ?_) ?_
    · have hB : Eff (fun k => O k) _ W := hB
      obtain ⟨h7, h8, -⟩ := hd
      have h7 : f 7 = _ := h7
      have h8 : f 8 = _ := h8
      rw [h7, h8]
      go_wp2_with ((go_at_call 48; (with_reducible refine (hh1 _).mono ?_); rintro e w1 ⟨rfl, rfl⟩))
      exact CalmR.CalmQ.mk rfl _ rfl (Below.refl _ _) rfl
    refine CalmR.AllCalm.cons (fun W hB hd => ?_) ?_
    · have hB : Eff (fun k => O k) _ W := hB
      go_wp2_with (fail)
      exact CalmR.CalmQ.mk rfl _ rfl (Below.refl _ _) rfl
    refine CalmR.AllCalm.cons (fun W hB hd => ?_) ?_
    · have hB : Below _ _ W := hB
      obtain ⟨h3, h9, h10, -, -⟩ := hd
      have h3 : f 3 = _ := h3
      have h9 : f 9 = _ := h9
      have h10 : f 10 = _ := h10
      rw [h3, h9, h10]
      have hbW := hb2.trans (hB.mono hb2.size); have c1W := c1 W _ _ hbW (owns_below ho2 hB)
      go_wp2_with ((go_at_call 21; (with_reducible refine c1W.mono ?_); rintro e w3 ⟨O3, rfl, s3, f3, e3, k3⟩))
      exact CalmR.CalmQ.mk rfl _ rfl f3 ⟨rfl, O3, s3, e3, k3⟩
    exact CalmR.AllCalm.nil
  · intro W hB hT
    have hB : Eff (fun k => O k) _ W := hB
    obtain ⟨h0, h1, h2, h3, h4, h5, h6, h7, h8, h9, h10, h11, -⟩ := hT
    have h0 : f 0 = _ := h0
    have h1 : f 1 = _ := h1
    have h2 : f 2 = _ := h2
    have h3 : f 3 = _ := h3
    have h4 : f 4 = _ := h4
    have h5 : f 5 = _ := h5
    have h6 : f 6 = _ := h6
    have h7 : f 7 = _ := h7
    have h8 : f 8 = _ := h8
    have h9 : f 9 = _ := h9
    have h10 : f 10 = _ := h10
    rw [h0, h1, h2, h3, h4, h5, h6, h7, h8, h9, h10]
    clear h0 h1 h2 h3 h4 h5 h6 h7 h8 h9 h10
    simp only [List.drop_succ_cons, List.drop_zero]
    obtain ⟨e11, O3, s3, e3, k3⟩ := h11
    rw [e11]
    clear hh1 hm2 hFr x0 x1 x2 c1 hp
    have HN := Lib.hid hn
    clear hn hnx
    go_wp2
    go_ret
    exact ⟨O3, v, rfl, s3, ht.eff e3 k3, e3.mono fun k _ h => .inl h, k3⟩
set_option maxRecDepth 100000 in
set_option maxHeartbeats 1000000 in
theorem put_f8 (h : Dsk o w X O S) (ha : a + 1 < S.last.length) (ht : TwM B w O Y X a n v l) (hoB : o.heap.size ≤ B) (hn : n + 1 < 18446744073709551616) (pv : Value) (m : List UInt8) (hv : Sl w w.heap.size pv m.length (bs m)) (hvO : ∀ k, pv.ownBlock = some k → k ≠ Y ∧ ¬ O k) (hm : m.length ≤ 488) {S1 S2 : DS} (hW : ∀ (W : World) (u : Value), Dsk o W X O S → Sl W W.heap.size u 512 (bs (packS (n + 1) m)) → (∀ k, u.ownBlock = some k → ¬ O k) → Calls Try.prog 21 #[.pointer (some ⟨X, 0, none⟩), .int .i64 ((a + (n + 1) % 2 : Nat) : Int), u] W fun e w' => ∃ O', e = .returned (.int .i64 0) ∧ Dsk o w' X O' S1 ∧ Eff O W w' ∧ ∀ k, O' k → O k ∨ W.heap.size ≤ k) (hF : ∀ (W : World) (O' : Nat → Prop), Dsk o W X O' S1 → Calls Try.prog 49 #[.pointer (some ⟨X, 0, none⟩)] W fun e w' => e = .returned (.int .i64 8) ∧ Dsk o w' X O' S2 ∧ Eff O' W w') : Calls Try.prog 54 #[.pointer (some ⟨Y, 0, none⟩), pv] w fun e w' => ∃ O' v', e = .returned (.int .i64 8) ∧ Dsk o w' X O' S2 ∧ TwM B w' O' Y X a n v' l ∧ Eff (fun k => O k ∨ k = Y) w w' ∧ ∀ k, O' k → O k ∨ w.heap.size ≤ k := by
  obtain ⟨V, hV⟩ := h.is
  have hfew := h.fine.few
  have hYl := ht.mem.lt
  obtain ⟨i0, hi, hz0, hz1, hz2⟩ := info_parts (show (Try.prog.info? 5).map (fun i => (i.zero, i.size, i.bytes)) = some (some (.int .u8 0), 1, 1) by kernel_rfl)
  have x0 : w.cell? ⟨Y, 0, none⟩ = some (.pointer (some ⟨X, 0, none⟩)) := ht.mem.cell 0
  have x1 : w.cell? ⟨Y, 1, none⟩ = some (.int .i64 (a : Nat)) := ht.mem.cell 1
  have x2 : w.cell? ⟨Y, 2, none⟩ = some (.int .u64 (n : Nat)) := ht.mem.cell 2
  have hp := pack_ok (n + 1) hn pv m w hv hm
  have hp : Calls Try.prog 47 #[.int .u64 ((n : Int) + 1), pv] w fun e w' => ∃ g c, e = .returned (.tuple #[.slice (some ⟨g, 0, none⟩) 512 c, .int .i64 0]) ∧ w'.ownsRow w.heap.size 5 1 (.slice (some ⟨g, 0, none⟩) 512 c) 512 (bs (packS (n + 1) m)) ∧ Below w.heap.size w w' := hp.mono fun e w' ⟨v', h1, h2, h3⟩ => by
    rcases h2.2 with ⟨_, hh⟩ | ⟨g, cap, cur, e1, _⟩
    · omega
    · subst e1; exact ⟨g, cap, h1, h2, h3⟩
  have hh1 : ∀ W, Calls Try.prog 48 #[.int .i64 (a : Nat), .int .u64 ((n : Int) + 1)] W fun e w' => e = .returned (.int .i64 ((a + (n + 1) % 2 : Nat) : Int)) ∧ W = w' := fun W => home_any a (n + 1) (by omega) hn W
  have hpar : a + (n + 1) % 2 < S.last.length := by omega
  have hT : ∀ W, Eff O w W → Mem W Y 91 #[.pointer (some ⟨X, 0, none⟩), .int .i64 (a : Nat), .int .u64 (n : Nat), v] := fun W hW => ht.mem.eff hW ht.noY
  have hpv : ∀ W, Eff (fun k => O k ∨ k = Y) w W → Sl W W.heap.size pv m.length (bs m) := fun W hW => (sl_eff hv hW (Nat.le_refl _) fun k hk1 hk hS => hS.elim (hvO k hk).2 (hvO k hk).1).more hW.size
  have c1 : ∀ W g c, Below w.heap.size w W → W.ownsRow w.heap.size 5 1 (.slice (some ⟨g, 0, none⟩) 512 c) 512 (bs (packS (n + 1) m)) → Calls Try.prog 21 #[.pointer (some ⟨X, 0, none⟩), .int .i64 ((a + (n + 1) % 2 : Nat) : Int), .slice (some ⟨g, 0, none⟩) 512 c] W fun e w' => ∃ O', e = .returned (.int .i64 0) ∧ Dsk o w' X O' S1 ∧ Eff O W w' ∧ Eff O w w' ∧ ∀ k, O' k → O k ∨ w.heap.size ≤ k := by
    intro W g c hb ho
    have hgl := own_tag ho g rfl
    have hng : ¬ O g := fun hO => by have := hV.lt g hO; omega
    refine (hW W _ (h.below hb) (Sl.of_own ho) (fun k hk hOk => ?_)).mono ?_
    · obtain rfl := Option.some.inj hk
      exact hng hOk
    · rintro e w' ⟨O', rfl, h1, h2, h3⟩
      have hbs := hb.size
      exact ⟨O', rfl, h1, h2, (Eff.of (S := O) hb).trans h2 fun _ _ h => h, fun k hk => (h3 k hk).elim .inl fun h => .inr (by omega)⟩
  have c2 : ∀ W O', Dsk o W X O' S1 → Eff O w W → (∀ k, O' k → O k ∨ w.heap.size ≤ k) → Calls Try.prog 49 #[.pointer (some ⟨X, 0, none⟩)] W fun e w' => e = .returned (.int .i64 8) ∧ Dsk o w' X O' S2 ∧ Eff O w w' := fun W O' hs he hk => (hF W O' hs).mono fun e w' ⟨h1, h2, h3⟩ => ⟨h1, h2, he.trans h3 fun i hi hO => (hk i hO).elim id fun h => absurd hi (by omega)⟩
  obtain ⟨A, c, rfl, _, _⟩ := hv.form
  have hnx : (n : Int) + 1 < 18446744073709551616 := by omega
  have hml : (m.length : Int) ≤ 488 := by omega
  clear hpar hW hF
  generalize hq : a + (n + 1) % 2 = q at *
  have hFr : ∀ (x : Value) (W W' : World), Below W.heap.size W W' → (x = .int .i64 0 ∧ ∃ O', Dsk o W X O' S1 ∧ Eff O w W ∧ ∀ k, O' k → O k ∨ w.heap.size ≤ k) → (x = .int .i64 0 ∧ ∃ O', Dsk o W' X O' S1 ∧ Eff O w W' ∧ ∀ k, O' k → O k ∨ w.heap.size ≤ k) := fun x W W' hb ⟨h1, O', h2, h3, h4⟩ => ⟨h1, O', h2.below hb, h3.trans (Eff.of (S := O) hb) fun _ _ h => h, h4⟩
  go_enter Try.func54, Try.ntmps54
  go_wp2_with (go_at_call 47; (with_reducible refine hp.mono ?_); rintro e w2 ⟨g2, cc2, rfl, ho2, hb2⟩)
  have hm2 := fun W (hB : Eff O w2 W) => hT W ((Eff.of (S := O) hb2).trans hB fun _ _ h => h)
  apply CalmR.calm_tail (R := effR (fun k => O k)) 12 [.is (.pointer (some ⟨Y, 0, none⟩)), .is (.pointer (some ⟨Y, 0, none⟩)), .is (.pointer (some ⟨Y, 0, none⟩)), .is (.pointer (some ⟨X, 0, none⟩)), .is (.pointer (some ⟨Y, 0, none⟩)), .is (.pointer (some ⟨Y, 0, none⟩)), .is (.pointer (some ⟨Y, 1, none⟩)), .is (.int .i64 (a : Nat)), .is (.int .u64 ((n : Int) + 1)), .is (.int .i64 (q : Nat)), .is (.slice (some ⟨g2, 0, none⟩) 512 cc2), .frail (fun x W => x = .int .i64 0 ∧ ∃ O', Dsk o W X O' S1 ∧ Eff O w W ∧ ∀ k, O' k → O k ∨ w.heap.size ≤ k) (fun x W W' hb hx => hFr x W W' hb hx)] [[], [0], [1], [2], [], [4], [5], [6], [], [7, 8], [], [3, 9, 10, 9]] (by kernel_rfl) (by kernel_rfl) (by kernel_rfl) rfl rfl
  intro f a1 ha1
  simp only [List.take_succ_cons, List.take_zero, putL, Act.put, List.setIfInBounds_toArray, List.set_cons_succ, List.set_cons_zero] at ha1
  subst ha1
  refine ⟨?_, ?_⟩
  · refine CalmR.AllCalm.cons (fun W hB hd => ?_) ?_
    · have hB : Eff (fun k => O k) _ W := hB
      go_wp2_with (fail)
      exact CalmR.CalmQ.mk rfl _ rfl (Below.refl _ _) rfl
    refine CalmR.AllCalm.cons (fun W hB hd => ?_) ?_
    · have hB : Eff (fun k => O k) _ W := hB
      obtain ⟨h0, -⟩ := hd
      have h0 : f 0 = _ := h0
      rw [h0]
      go_wp2_with (fail)
      exact CalmR.CalmQ.mk rfl _ rfl (Below.refl _ _) rfl
    refine CalmR.AllCalm.cons (fun W hB hd => ?_) ?_
    · have hB : Eff (fun k => O k) _ W := hB
      obtain ⟨h1, -⟩ := hd
      have h1 : f 1 = _ := h1
      rw [h1]
      go_wp2_with (fail)
      exact CalmR.CalmQ.mk rfl _ rfl (Below.refl _ _) rfl
    refine CalmR.AllCalm.cons (fun W hB hd => ?_) ?_
    · have hB : Eff (fun k => O k) _ W := hB
      obtain ⟨h2, -⟩ := hd
      have h2 : f 2 = _ := h2
      rw [h2]
      have y0 : W.cell? ⟨Y, 0, none⟩ = some (.pointer (some ⟨X, 0, none⟩)) := (hm2 W hB).cell 0
      go_wp2_with (fail)
      exact CalmR.CalmQ.mk rfl _ rfl (Below.refl _ _) rfl
    refine CalmR.AllCalm.cons (fun W hB hd => ?_) ?_
    · have hB : Eff (fun k => O k) _ W := hB
      go_wp2_with (fail)
      exact CalmR.CalmQ.mk rfl _ rfl (Below.refl _ _) rfl
    refine CalmR.AllCalm.cons (fun W hB hd => ?_) ?_
    · have hB : Eff (fun k => O k) _ W := hB
      obtain ⟨h4, -⟩ := hd
      have h4 : f 4 = _ := h4
      rw [h4]
      go_wp2_with (fail)
      exact CalmR.CalmQ.mk rfl _ rfl (Below.refl _ _) rfl
    refine CalmR.AllCalm.cons (fun W hB hd => ?_) ?_
    · have hB : Eff (fun k => O k) _ W := hB
      obtain ⟨h5, -⟩ := hd
      have h5 : f 5 = _ := h5
      rw [h5]
      go_wp2_with (fail)
      exact CalmR.CalmQ.mk rfl _ rfl (Below.refl _ _) rfl
    refine CalmR.AllCalm.cons (fun W hB hd => ?_) ?_
    · have hB : Eff (fun k => O k) _ W := hB
      obtain ⟨h6, -⟩ := hd
      have h6 : f 6 = _ := h6
      rw [h6]
      have y1 : W.cell? ⟨Y, 1, none⟩ = some (.int .i64 (a : Nat)) := (hm2 W hB).cell 1
      go_wp2_with (fail)
      exact CalmR.CalmQ.mk rfl _ rfl (Below.refl _ _) rfl
    refine CalmR.AllCalm.cons (fun W hB hd => ?_) ?_
    · have hB : Eff (fun k => O k) _ W := hB
      go_wp2_with (fail)
      exact CalmR.CalmQ.mk rfl _ rfl (Below.refl _ _) rfl
    refine CalmR.AllCalm.cons (fun W hB hd => ?_) ?_
    · have hB : Eff (fun k => O k) _ W := hB
      obtain ⟨h7, h8, -⟩ := hd
      have h7 : f 7 = _ := h7
      have h8 : f 8 = _ := h8
      rw [h7, h8]
      go_wp2_with ((go_at_call 48; (with_reducible refine (hh1 _).mono ?_); rintro e w1 ⟨rfl, rfl⟩))
      exact CalmR.CalmQ.mk rfl _ rfl (Below.refl _ _) rfl
    refine CalmR.AllCalm.cons (fun W hB hd => ?_) ?_
    · have hB : Eff (fun k => O k) _ W := hB
      go_wp2_with (fail)
      exact CalmR.CalmQ.mk rfl _ rfl (Below.refl _ _) rfl
    refine CalmR.AllCalm.cons (fun W hB hd => ?_) ?_
    · have hB : Below _ _ W := hB
      obtain ⟨h3, h9, h10, -, -⟩ := hd
      have h3 : f 3 = _ := h3
      have h9 : f 9 = _ := h9
      have h10 : f 10 = _ := h10
      rw [h3, h9, h10]
      have hbW := hb2.trans (hB.mono hb2.size); have c1W := c1 W _ _ hbW (owns_below ho2 hB)
      go_wp2_with ((go_at_call 21; (with_reducible refine c1W.mono ?_); rintro e w3 ⟨O3, rfl, s3, f3, e3, k3⟩))
      exact CalmR.CalmQ.mk rfl _ rfl f3 ⟨rfl, O3, s3, e3, k3⟩
    exact CalmR.AllCalm.nil
  · intro W hB hT
    have hB : Eff (fun k => O k) _ W := hB
    obtain ⟨h0, h1, h2, h3, h4, h5, h6, h7, h8, h9, h10, h11, -⟩ := hT
    have h0 : f 0 = _ := h0
    have h1 : f 1 = _ := h1
    have h2 : f 2 = _ := h2
    have h3 : f 3 = _ := h3
    have h4 : f 4 = _ := h4
    have h5 : f 5 = _ := h5
    have h6 : f 6 = _ := h6
    have h7 : f 7 = _ := h7
    have h8 : f 8 = _ := h8
    have h9 : f 9 = _ := h9
    have h10 : f 10 = _ := h10
    rw [h0, h1, h2, h3, h4, h5, h6, h7, h8, h9, h10]
    clear h0 h1 h2 h3 h4 h5 h6 h7 h8 h9 h10
    simp only [List.drop_succ_cons, List.drop_zero]
    obtain ⟨e11, O3, s3, e3, k3⟩ := h11
    rw [e11]
    have z0 : W.cell? ⟨Y, 0, none⟩ = some (.pointer (some ⟨X, 0, none⟩)) := (hT _ e3).cell 0
    have HN := Lib.hid hn
    clear hnx hh1 hm2 hFr hn x0 x1 x2 c1 hp
    go_wp2_with (go_at_call 49; (with_reducible refine (c2 _ _ s3 e3 k3).mono ?_); rintro e w4 ⟨rfl, s4, e4⟩)
    go_ret
    exact ⟨O3, v, rfl, s4, ht.eff e4 k3, e4.mono fun k _ h => .inl h, k3⟩
end
end Tw
end Go.Proofs.Ytpfackjnnkjjdaa
