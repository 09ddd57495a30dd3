/- DiskLasts: for all bytes and all numbers the statement's function tells true and turns nothing that was there. No condition. -/
import Derived.Test.YthjfigfjkjgogaaDkK
namespace Go.Proofs.Ythjfigfjkjgogaa
open Go.ChangeShapes Go.WideShapes Go.ChangeAt Go.RowKit Go.Lib
set_option linter.unusedVariables false
set_option linter.unusedSimpArgs false
namespace Dk
/-- The state while Writes wait at sector 0. -/
structure Lst (S : DS) (l : List UInt8) (L : List (List UInt8)) (k : Nat) : Prop where
  up : S.up
  len : S.last.length = 2
  wtg : S.wtg = k
  calls : S.calls = 3 + k
  w0 : S.wa 0 = L.take k
  w1 : S.wa 1 = []
  l0 : S.la 0 = l
  l1 : S.la 1 = l
  few : ∀ y ∈ L.take k, y.length ≤ 512
theorem Lst.start (l : List UInt8) (L : List (List UInt8)) : Fine (((DS.new 2).wr 0 l).wr 1 l).flushed ∧ Lst (((DS.new 2).wr 0 l).wr 1 l).flushed l L 0 := by
  have f0 : Fine (DS.new 2) := Fine.new 2 (by omega)
  have f1 := f0.wr (n := 0) (by simp [DS.new]) l
  have f2 := f1.wr (n := 1) (by simp [DS.new, DS.wr]) l
  have hw := wr_wa f1 (n := 1) (by simp [DS.new, DS.wr]) l
  have hw0 := wr_wa f0 (n := 0) (by simp [DS.new]) l
  refine ⟨f2.flushed, ⟨⟨rfl, rfl, rfl⟩, by simp [DS.flushed, flsh_len, DS.wr, DS.new], rfl, rfl, ?_, flushed_wa f2 1, ?_, ?_, by simp⟩⟩
  · rw [flushed_wa f2 0, List.take_zero]
  · rw [flushed_la f2, hw 0, if_neg (by decide), hw0 0, if_pos rfl, new_wa]
    rfl
  · rw [flushed_la f2, hw 1, if_pos rfl, hw0 1, if_neg (by decide), new_wa]
    rfl
theorem Lst.next {S : DS} {l : List UInt8} {L : List (List UInt8)} {k : Nat} (h : Lst S l L k) (hF : Fine S) (hk : k < L.length) (hl : (L[k]).length ≤ 512) : Lst (S.wr 0 L[k]) l L (k + 1) := by
  have hw := wr_wa hF (n := 0) (by rw [h.len]; omega) L[k]
  refine ⟨⟨h.up.dead, h.up.off, h.up.arm⟩, h.len, by show S.wtg + 1 = _; rw [h.wtg], by show S.calls + 1 = _; rw [h.calls]; omega, ?_, ?_, h.l0, h.l1, ?_⟩
  · rw [hw 0, if_pos rfl, h.w0, List.take_append_getElem]
  · rw [hw 1, if_neg (by decide), h.w1]
  · intro y hy
    rw [← List.take_append_getElem hk, List.mem_append, List.mem_singleton] at hy
    rcases hy with hy | rfl
    · exact h.few y hy
    · exact hl
/-- What is there behind the crash. -/
structure Aft (S : DS) (l x : List UInt8) : Prop where
  dead : S.dead = false
  off : S.off = false
  len : S.last.length = 2
  wtg : S.wtg = 0
  w0 : S.wa 0 = []
  w1 : S.wa 1 = []
  l0 : S.la 0 = x
  l1 : S.la 1 = l
theorem Lst.after {S : DS} {l : List UInt8} {L : List (List UInt8)} (h : Lst S l L L.length) (hF : Fine S) (zs : List Int) : ∃ x, (x = l ∨ x ∈ L) ∧ Aft { S.crashed zs with off := false, arm := 0, picks := [] } l x := by
  have h0 := crashed_la hF zs 0
  have h1 := crashed_la hF zs 1
  rw [h.w0, h.l0, List.take_length] at h0
  rw [h.w1, h.l1] at h1
  have h1 : (S.crashed zs).la 1 = l := h1.elim id fun h => by simp at h
  exact ⟨_, h0, ⟨h.up.dead, rfl, by show (fell _ _ _ _ _).length = 2; rw [fell_len]; exact h.len, rfl, crashed_wa hF zs 0, crashed_wa hF zs 1, rfl, h1⟩⟩
/-- Is it one of those that were written? -/
def hit (x l : List UInt8) (L : List (List UInt8)) (j : Nat) : Bool := (full x == full l) || (L.take j).any fun y => full x == full y
theorem hit_next (x l : List UInt8) (L : List (List UInt8)) (j : Nat) (hj : j < L.length) : hit x l L (j + 1) = (hit x l L j || (full x == full L[j])) := by
  unfold hit
  rw [← List.take_append_getElem hj, List.any_append, Bool.or_assoc]
  simp
theorem hit_all {x l : List UInt8} {L : List (List UInt8)} (h : x = l ∨ x ∈ L) : hit x l L L.length = true := by
  unfold hit
  rw [List.take_length, Bool.or_eq_true, List.any_eq_true]
  rcases h with rfl | h
  · exact .inl (by simp)
  · exact .inr ⟨x, h, by simp⟩
set_option maxRecDepth 100000 in
set_option maxHeartbeats 4000000 in
theorem walk_no (v0 : Value) (l0 : List UInt8) (v1 : Value) (L : List (List UInt8)) (vs : List Value) (v2 : Value) (zs : List Int) (w : World) (h0 : Sl w w.heap.size v0 l0.length (bs l0)) (h1 : Sl w w.heap.size v1 L.length vs) (h2 : Sl w w.heap.size v2 zs.length (zints zs)) (hno : 512 < l0.length ∨ 20 < L.length ∨ 20 < zs.length) :
    Calls Try.prog 3 #[v0, v1, v2] w fun e w' => e = .returned (.bool true) ∧ Below w.heap.size w w' := by
  obtain ⟨A0, c0, rfl, _, _⟩ := h0.form
  obtain ⟨A1, c1, rfl, _, _⟩ := h1.form
  obtain ⟨A2, c2, rfl, _, _⟩ := h2.form
  by_cases g1 : 512 < l0.length
  · have g1x : (512 : Int) < (l0.length : Int) := by omega
    go_enter Try.func3, Try.ntmps3
    go_wp2_with (go_at_call 5; refine (known_any _).mono ?_; rintro e w1 ⟨rfl, hb1⟩)
    go_ret
    exact ⟨rfl, hb1⟩
  have g1x : ¬ (512 : Int) < (l0.length : Int) := by omega
  by_cases g2 : 20 < L.length
  · have g2x : (20 : Int) < (L.length : Int) := by omega
    go_enter Try.func3, Try.ntmps3
    go_wp2_with (go_at_call 5; refine (known_any _).mono ?_; rintro e w1 ⟨rfl, hb1⟩)
    go_ret
    exact ⟨rfl, hb1⟩
  have g2x : ¬ (20 : Int) < (L.length : Int) := by omega
  have g3x : (20 : Int) < (zs.length : Int) := by omega
  go_enter Try.func3, Try.ntmps3
  go_wp2_with (go_at_call 5; refine (known_any _).mono ?_; rintro e w1 ⟨rfl, hb1⟩)
  go_ret
  exact ⟨rfl, hb1⟩
theorem str {w : World} {v : Value} {n : Nat} {l : List UInt8} (h : Sl w w.heap.size v n (bs l)) : (convert 22 9 v).run Try.prog w = .ok (.string ⟨l.toArray⟩) w :=
  bytes_str (P := Try.prog) w 22 9 5 Try.underlying22 Try.underlying5 Try.underlying9 _ _ l n h
set_option maxRecDepth 100000 in
set_option maxHeartbeats 8000000 in
theorem walk_yes (v0 : Value) (l0 : List UInt8) (v1 : Value) (L : List (List UInt8)) (vs : List Value) (v2 : Value) (zs : List Int) (w : World) (h0 : Sl w w.heap.size v0 l0.length (bs l0)) (h1 : Sl w w.heap.size v1 L.length vs) (hr : Rows2 w w.heap.size vs L) (h2 : Sl w w.heap.size v2 zs.length (zints zs)) (hz : ∀ z ∈ zs, -9223372036854775808 ≤ z ∧ z ≤ 9223372036854775807) (g1 : l0.length ≤ 512) (g2 : L.length ≤ 20) (g3 : zs.length ≤ 20) :
    Calls Try.prog 3 #[v0, v1, v2] w fun e w' => e = .returned (.bool true) ∧ Below w.heap.size w w' := by
  obtain ⟨A0, c0, rfl, _, _⟩ := h0.form
  obtain ⟨A1, c1, rfl, _, _⟩ := h1.form
  obtain ⟨A2, c2, rfl, _, _⟩ := h2.form
  have g1x : ¬ (512 : Int) < (l0.length : Int) := by omega
  have g2x : ¬ (20 : Int) < (L.length : Int) := by omega
  have g3x : ¬ (20 : Int) < (zs.length : Int) := by omega
  have g2y : (L.length : Int) ≤ 20 := by omega
  have cNew : ∀ W, Below w.heap.size w W → Calls Try.prog 6 #[.int .i64 2] W fun e w' => ∃ X O, e = .returned (.tuple #[.pointer (some ⟨X, 0, none⟩), .int .i64 0]) ∧ Dsk w w' X O (DS.new 2) := fun W hW => (d_new (o := w) 2 (by omega) (by omega) hW).mono fun e w' ⟨X, O, h1, h2, _⟩ => ⟨X, O, h1, h2⟩
  have cW0 : ∀ W X O, Dsk w W X O (DS.new 2) → Calls Try.prog 7 #[.pointer (some ⟨X, 0, none⟩), .int .i64 0, .slice A0 l0.length c0] W fun e w' => ∃ O', e = .returned (.int .i64 0) ∧ Dsk w w' X O' ((DS.new 2).wr 0 l0) := fun W X O hs => (d_write0 hs ⟨rfl, rfl, rfl⟩ 0 (by simp [DS.new]) (by decide) (by decide) _ l0 (h0.below hs.bl) g1).mono fun e w' ⟨O', h1, h2, _⟩ => ⟨O', h1, h2⟩
  have cW1 : ∀ W X O, Dsk w W X O ((DS.new 2).wr 0 l0) → Calls Try.prog 7 #[.pointer (some ⟨X, 0, none⟩), .int .i64 1, .slice A0 l0.length c0] W fun e w' => ∃ O', e = .returned (.int .i64 0) ∧ Dsk w w' X O' (((DS.new 2).wr 0 l0).wr 1 l0) := fun W X O hs => (d_write0 hs ⟨rfl, rfl, rfl⟩ 1 (by simp [DS.new, DS.wr]) (show 0 + 1 ≤ _ by omega) (show 0 + 1 ≤ _ by omega) _ l0 (h0.below hs.bl) g1).mono fun e w' ⟨O', h1, h2, _⟩ => ⟨O', h1, h2⟩
  have cFl : ∀ W X O, Dsk w W X O (((DS.new 2).wr 0 l0).wr 1 l0) → Calls Try.prog 8 #[.pointer (some ⟨X, 0, none⟩)] W fun e w' => e = .returned (.int .i64 0) ∧ Dsk w w' X O (((DS.new 2).wr 0 l0).wr 1 l0).flushed := fun W X O hs => (d_flush hs ⟨rfl, rfl, rfl⟩ (show 0 + 1 + 1 ≤ _ by omega) (show 0 + 1 + 1 ≤ _ by omega)).mono fun e w' ⟨h1, h2, _⟩ => ⟨h1, h2⟩
  have cells : ∀ W (j : Nat) (hj : j < L.length), Below w.heap.size w W → ∃ b1 o1 A3 c3, A1 = some ⟨b1, o1, none⟩ ∧ W.cell? ⟨b1, o1 + j, none⟩ = some (.slice A3 (L[j]).length c3) ∧ Sl W w.heap.size (.slice A3 (L[j]).length c3) (L[j]).length (bs L[j]) := by
    intro W j hj hW
    obtain ⟨b1, o1, rfl, hb, hc⟩ := (h1.below hW).at_ (by omega)
    have hvl : j < vs.length := by rw [hr.1]; exact hj
    have hs := (hr.2 j hvl hj).below hW
    obtain ⟨A3, c3, e3, _, _⟩ := hs.form
    rw [e3] at hs
    exact ⟨b1, o1, A3, c3, rfl, by rw [← e3]; exact hc j _ (List.getElem?_eq_getElem hvl), hs⟩
  have cW : ∀ W X O S j (hj : j < L.length) A3 c3, Dsk w W X O S → Lst S l0 L j → Sl W w.heap.size (.slice A3 (L[j]).length c3) (L[j]).length (bs L[j]) → (L[j]).length ≤ 512 → Calls Try.prog 7 #[.pointer (some ⟨X, 0, none⟩), .int .i64 0, .slice A3 (L[j]).length c3] W fun e w' => ∃ O', e = .returned (.int .i64 0) ∧ Dsk w w' X O' (S.wr 0 L[j]) := fun W X O S j hj A3 c3 hs ht hd hl => (d_write0 hs ht.up 0 (by rw [ht.len]; omega) (by rw [ht.wtg]; omega) (by rw [ht.calls]; omega) _ _ hd hl).mono fun e w' ⟨O', h1, h2, _⟩ => ⟨O', h1, h2⟩
  have cCr : ∀ W X O S, Dsk w W X O S → Lst S l0 L L.length → Calls Try.prog 9 #[.pointer (some ⟨X, 0, none⟩), .slice A2 zs.length c2] W fun e w' => e = .returned (.tuple #[]) ∧ Dsk w w' X O (S.crashed zs) := fun W X O S hs ht => (d_crash hs ht.up.off (by rw [ht.wtg]; omega) _ zs hz (h2.below hs.bl)).mono fun e w' ⟨h1, h2, _⟩ => ⟨h1, h2⟩
  have cOn : ∀ W X O S, Dsk w W X O (S.crashed zs) → Lst S l0 L L.length → Fine S → Calls Try.prog 10 #[.pointer (some ⟨X, 0, none⟩)] W fun e w' => e = .returned (.tuple #[]) ∧ ∃ S' x, (x = l0 ∨ x ∈ L) ∧ Aft S' l0 x ∧ Dsk w w' X O S' := fun W X O S hs ht hF => (d_on hs).mono fun e w' ⟨h1, h2, _⟩ => by
    obtain ⟨x, hx, ha⟩ := ht.after hF zs
    exact ⟨h1, _, x, hx, ha, h2⟩
  have cR0 : ∀ W X O S x, Dsk w W X O S → Aft S l0 x → Calls Try.prog 11 #[.pointer (some ⟨X, 0, none⟩), .int .i64 0] W fun e w' => ∃ g, e = .returned (.tuple #[.slice (some ⟨g, 0, none⟩) 512 512, .int .i64 0]) ∧ Mem w' g 5 (bs (full x)).toArray ∧ Dsk w w' X O S ∧ Below W.heap.size W w' := fun W X O S x hs ha => (d_read hs ha.dead ha.off 0 (by rw [ha.len]; omega) (by rw [ha.wtg]; omega)).mono fun e w' ⟨g, h1, _, h3, h4, h5⟩ => ⟨g, h1, by rw [ha.w0, ha.l0] at h3; exact h3, h4, h5⟩
  have cR1 : ∀ W X O S x, Dsk w W X O S → Aft S l0 x → Calls Try.prog 11 #[.pointer (some ⟨X, 0, none⟩), .int .i64 1] W fun e w' => ∃ g, e = .returned (.tuple #[.slice (some ⟨g, 0, none⟩) 512 512, .int .i64 0]) ∧ Mem w' g 5 (bs (full l0)).toArray ∧ Dsk w w' X O S ∧ Below W.heap.size W w' := fun W X O S x hs ha => (d_read hs ha.dead ha.off 1 (by rw [ha.len]; omega) (by rw [ha.wtg]; omega)).mono fun e w' ⟨g, h1, _, h3, h4, h5⟩ => ⟨g, h1, by rw [ha.w1, ha.l1] at h3; exact h3, h4, h5⟩
  have slof : ∀ W g x, (full x).length = 512 → Mem W g 5 (bs (full x)).toArray → Sl W W.heap.size (.slice (some ⟨g, 0, none⟩) 512 512) 512 (bs (full x)) := fun W g x hx hm => sl_of_row (n := 512) hm (by rw [bs_len, hx]) (by unfold maxLen; omega)
  have wait : ∀ W X O S x, Dsk w W X O S → Aft S l0 x → Calls Try.prog 13 #[.pointer (some ⟨X, 0, none⟩)] W fun e w' => e = .returned (.int .i64 0) ∧ W = w' := fun W X O S x hs ha => (d_waiting hs).mono fun e w' ⟨h1, h2⟩ => ⟨by rw [ha.wtg] at h1; exact h1, h2⟩
  go_enter Try.func3, Try.ntmps3
  go_wp2_with (first
    | (go_at_call 5; refine (known_any _).mono ?_; rintro e w1 ⟨rfl, hb1⟩)
    | (go_at_call 6; (with_reducible refine (cNew _ hb1).mono ?_); rintro e w2 ⟨X, O2, rfl, s2⟩)
    | (go_at_call 7; (with_reducible refine (cW1 _ _ _ s3).mono ?_); rintro e w4 ⟨O4, rfl, s4⟩)
    | (go_at_call 7; (with_reducible refine (cW0 _ _ _ s2).mono ?_); rintro e w3 ⟨O3, rfl, s3⟩)
    | (go_at_call 8; (with_reducible refine (cFl _ _ _ s4).mono ?_); rintro e w5 ⟨rfl, s5⟩))
  obtain ⟨f5, t5⟩ := Lst.start l0 L
  generalize (((DS.new 2).wr 0 l0).wr 1 l0).flushed = S5 at *
  clear cW0 cW1 cFl cNew
  go_loopw [9] (fun i wr => ∃ j : Nat, j ≤ L.length ∧ i = .int .i64 j ∧ ∃ O S, Dsk w wr X O S ∧ Lst S l0 L j) (fun i _ => L.length - (intOf i).toNat)
  case atStart => exact ⟨0, by omega, rfl, _, _, s5, t5⟩
  case round =>
    obtain ⟨j, hj, rfl, O6, S6, s6, t6⟩ := hrel
    by_cases hjl : j < L.length
    · obtain ⟨b1, o1, A3, c3, rfl, y1, y2⟩ := cells wr j hjl s6.bl
      have hjx : (j : Int) < (L.length : Int) := by omega
      by_cases hlong : (L[j]).length ≤ 512
      · have cw := cW wr X O6 S6 j hjl A3 c3 s6 t6 y2 hlong
        have ht := t6.next s6.fine hjl hlong
        have hlx : ¬ (512 : Int) < ((L[j]).length : Int) := by omega
        clear cells cW
        generalize L[j] = lj at *
        go_wp2_with (go_at_call 7; (with_reducible refine cw.mono ?_); rintro e w7 ⟨O7, rfl, s7⟩)
        exact ⟨⟨j + 1, by omega, by go_num, O7, _, s7, ht⟩, by simp [intOf]; omega⟩
      · have hlx : (512 : Int) < ((L[j]).length : Int) := by omega
        clear cells cW
        generalize L[j] = lj at *
        go_wp2
        go_ret
        exact ⟨rfl, s6.bl⟩
    · obtain rfl : j = L.length := by omega
      have ccr := cCr wr X O6 S6 s6 t6
      have con := fun W hs => cOn W X O6 S6 hs t6 s6.fine
      clear cW cCr cOn
      go_wp2_with (first
        | (go_at_call 9; (with_reducible refine ccr.mono ?_); rintro e w7 ⟨rfl, s7⟩)
        | (go_at_call 10; (with_reducible refine (con _ s7).mono ?_); rintro e w8 ⟨rfl, S8, x, hx8, t8, s8⟩)
        | (go_at_call 11; (with_reducible refine (cR1 _ _ _ _ _ s9 t8).mono ?_); rintro e w10 ⟨g10, rfl, m10, s10, b10⟩)
        | (go_at_call 11; (with_reducible refine (cR0 _ _ _ _ _ s8 t8).mono ?_); rintro e w9 ⟨g9, rfl, m9, s9, b9⟩))
      have hxl : (full x).length = 512 := by
        refine full_len ?_
        rcases hx8 with rfl | hx8
        · exact g1
        · exact t6.few x (by rw [List.take_length]; exact hx8)
      have la := (slof _ _ _ hxl m9).now b10
      have lb := slof _ _ _ (full_len g1) m10
      have hb := s10.bl
      have hx := hx8
      have hlens : ∀ j (hj : j < L.length), (L[j]).length ≤ 512 := fun j hj => t6.few _ (by rw [List.take_length]; exact List.getElem_mem hj)
      have cfull := fun W (hW : Below w.heap.size w W) => full_any (.slice A0 l0.length c0) l0 g1 W (h0.now hW)
      have cfullL : ∀ W (j : Nat) (hj : j < L.length) A3 c3, Below w.heap.size w W → Sl W w.heap.size (.slice A3 (L[j]).length c3) (L[j]).length (bs L[j]) → Calls Try.prog 12 #[.slice A3 (L[j]).length c3] W fun e w' => ∃ v', e = .returned v' ∧ w'.ownsRow W.heap.size 5 1 v' 512 (bs (full L[j])) ∧ Below W.heap.size W w' := fun W j hj A3 c3 hW hd => full_any _ _ (hlens j hj) W (hd.more hW.size)
      have wt := fun W hs => wait W X O6 S8 x hs t8
      have dsk := fun W (hW : Below w10.heap.size w10 W) => s10.below hW
      clear cR0 cR1 slof wait
      have hlx : (full l0 == full l0) = true := by simp
      apply calm_region [.is (.int .i64 0), .is (.int .i64 0), .is (.int .i64 0), .is (.bool false), .is (.bool false), .is (.slice (some ⟨g10, 0, none⟩) 512 512), .is (.string ⟨(full l0).toArray⟩), .is (.slice A0 l0.length c0), .sl 512 (bs (full l0)), .is (.string ⟨(full l0).toArray⟩), .is (.bool false), .is (.bool false)] [[], [], [0, 1], [2], [3], [4], [5, 4], [4], [7, 4, 4], [8, 4], [6, 9, 4], [4, 10]] (by kernel_rfl) (by kernel_rfl) (by kernel_rfl) rfl
      intro f a1 ha1
      simp only [putL, Act.put, List.setIfInBounds_toArray, List.set_cons_succ, List.set_cons_zero] at ha1
      subst ha1
      refine ⟨?_, ?_⟩
      · refine AllCalm.cons (fun W hB hd => ?_) ?_
        · go_wp2_with (fail)
          exact CalmQ.mk rfl _ rfl (Below.refl _ _) rfl
        refine AllCalm.cons (fun W hB hd => ?_) ?_
        · go_wp2_with (fail)
          exact CalmQ.mk rfl _ rfl (Below.refl _ _) rfl
        refine AllCalm.cons (fun W hB hd => ?_) ?_
        · obtain ⟨h0, h1, -⟩ := hd
          have h0 : f 0 = _ := h0
          have h1 : f 1 = _ := h1
          rw [h0, h1]
          go_wp2_with (fail)
          exact CalmQ.mk rfl _ rfl (Below.refl _ _) rfl
        refine AllCalm.cons (fun W hB hd => ?_) ?_
        · obtain ⟨h2, -⟩ := hd
          have h2 : f 2 = _ := h2
          rw [h2]
          go_wp2_with (fail)
          exact CalmQ.mk rfl _ rfl (Below.refl _ _) rfl
        refine AllCalm.cons (fun W hB hd => ?_) ?_
        · obtain ⟨h3, -⟩ := hd
          have h3 : f 3 = _ := h3
          rw [h3]
          go_wp2_with (fail)
          exact CalmQ.mk rfl _ rfl (Below.refl _ _) rfl
        refine AllCalm.cons (fun W hB hd => ?_) ?_
        · obtain ⟨h4, -⟩ := hd
          have h4 : f 4 = _ := h4
          rw [h4]
          go_wp2_with (fail)
          exact CalmQ.mk rfl _ rfl (Below.refl _ _) rfl
        refine AllCalm.cons (fun W hB hd => ?_) ?_
        · obtain ⟨h5, h4, -⟩ := hd
          have h5 : f 5 = _ := h5
          have h4 : f 4 = _ := h4
          rw [h5, h4]
          have st := str (lb.now hB)
          go_wp2_with (fail)
          exact CalmQ.mk rfl _ rfl (Below.refl _ _) rfl
        refine AllCalm.cons (fun W hB hd => ?_) ?_
        · obtain ⟨h4, -⟩ := hd
          have h4 : f 4 = _ := h4
          rw [h4]
          go_wp2_with (fail)
          exact CalmQ.mk rfl _ rfl (Below.refl _ _) rfl
        refine AllCalm.cons (fun W hB hd => ?_) ?_
        · obtain ⟨h7, h4, -, -⟩ := hd
          have h7 : f 7 = _ := h7
          have h4 : f 4 = _ := h4
          rw [h7, h4]
          have cf := cfull W (hb.trans (hB.mono hb.size))
          go_wp2_with ((go_at_call 12; (with_reducible refine cf.mono ?_); rintro e wf ⟨v', rfl, hof, hbf⟩))
          exact CalmQ.mk rfl _ rfl hbf (Sl.of_own hof)
        refine AllCalm.cons (fun W hB hd => ?_) ?_
        · obtain ⟨h8, h4, -⟩ := hd
          have h8 : Sl W W.heap.size (f 8) _ _ := h8
          have h4 : f 4 = _ := h4
          rw [h4]
          have st := str h8
          go_wp2_with (fail)
          exact CalmQ.mk rfl _ rfl (Below.refl _ _) rfl
        refine AllCalm.cons (fun W hB hd => ?_) ?_
        · obtain ⟨h6, h9, h4, -⟩ := hd
          have h6 : f 6 = _ := h6
          have h9 : f 9 = _ := h9
          have h4 : f 4 = _ := h4
          rw [h6, h9, h4]
          go_wp2_with (fail)
          exact CalmQ.mk rfl _ rfl (Below.refl _ _) rfl
        refine AllCalm.cons (fun W hB hd => ?_) ?_
        · obtain ⟨h4, h10, -⟩ := hd
          have h4 : f 4 = _ := h4
          have h10 : f 10 = _ := h10
          rw [h4, h10]
          go_wp2_with (fail)
          exact CalmQ.mk rfl _ rfl (Below.refl _ _) rfl
        exact AllCalm.nil
      · intro W hB hT
        obtain ⟨h0, h1, h2, h3, h4, h5, h6, h7, h8, h9, h10, h11, -⟩ := hT
        have h0 : f 0 = _ := h0
        have h1 : f 1 = _ := h1
        have h2 : f 2 = _ := h2
        have h3 : f 3 = _ := h3
        have h4 : f 4 = _ := h4
        have h5 : f 5 = _ := h5
        have h6 : f 6 = _ := h6
        have h7 : f 7 = _ := h7
        have h8 : Sl W W.heap.size (f 8) _ _ := h8
        have h9 : f 9 = _ := h9
        have h10 : f 10 = _ := h10
        have h11 : f 11 = _ := h11
        rw [h0, h1, h2, h3, h4, h5, h6, h7, h9, h10, h11]
        clear h0 h1 h2 h3 h4 h5 h6 h7 h9 h10 h11
        have hbW := hb.trans (hB.mono hb.size)
        have la2 := la.now hB
        have dW := dsk W hB
        clear hb lb la s10
        have hb := hbW
        clear hbW
        go_wp2
        apply calm_region [.is (.slice (some ⟨g9, 0, none⟩) 512 512), .is (.string ⟨(full x).toArray⟩), .is (.slice A0 l0.length c0), .sl 512 (bs (full l0)), .is (.string ⟨(full l0).toArray⟩), .is (.bool (full x == full l0)), .is (.bool (full x == full l0))] [[], [0], [], [2], [3], [1, 4], [5, 3, 0, 1, 2, 3, 4, 5]] (by kernel_rfl) (by kernel_rfl) (by kernel_rfl) rfl
        intro f a1 ha1
        simp only [putL, Act.put, List.setIfInBounds_toArray, List.set_cons_succ, List.set_cons_zero] at ha1
        subst ha1
        refine ⟨?_, ?_⟩
        · refine AllCalm.cons (fun W hB hd => ?_) ?_
          · go_wp2_with (fail)
            exact CalmQ.mk rfl _ rfl (Below.refl _ _) rfl
          refine AllCalm.cons (fun W hB hd => ?_) ?_
          · obtain ⟨h0, -⟩ := hd
            have h0 : f 0 = _ := h0
            rw [h0]
            have st := str (la2.now hB)
            go_wp2_with (fail)
            exact CalmQ.mk rfl _ rfl (Below.refl _ _) rfl
          refine AllCalm.cons (fun W hB hd => ?_) ?_
          · go_wp2_with (fail)
            exact CalmQ.mk rfl _ rfl (Below.refl _ _) rfl
          refine AllCalm.cons (fun W hB hd => ?_) ?_
          · obtain ⟨h2, -⟩ := hd
            have h2 : f 2 = _ := h2
            rw [h2]
            have cf := cfull W (hb.trans (hB.mono hb.size))
            go_wp2_with ((go_at_call 12; (with_reducible refine cf.mono ?_); rintro e wf ⟨v', rfl, hof, hbf⟩))
            exact CalmQ.mk rfl _ rfl hbf (Sl.of_own hof)
          refine AllCalm.cons (fun W hB hd => ?_) ?_
          · obtain ⟨h3, -⟩ := hd
            have h3 : Sl W W.heap.size (f 3) _ _ := h3
            have st := str h3
            go_wp2_with (fail)
            exact CalmQ.mk rfl _ rfl (Below.refl _ _) rfl
          refine AllCalm.cons (fun W hB hd => ?_) ?_
          · obtain ⟨h1, h4, -⟩ := hd
            have h1 : f 1 = _ := h1
            have h4 : f 4 = _ := h4
            rw [h1, h4]
            go_wp2_with (fail)
            exact CalmQ.mk rfl _ rfl (Below.refl _ _) rfl
          refine AllCalm.cons (fun W hB hd => ?_) ?_
          · obtain ⟨h5, h3, h0, h1, h2, -, h4, -, -⟩ := hd
            have h5 : f 5 = _ := h5
            have h3 : Sl W W.heap.size (f 3) _ _ := h3
            have h0 : f 0 = _ := h0
            have h1 : f 1 = _ := h1
            have h2 : f 2 = _ := h2
            have h4 : f 4 = _ := h4
            rw [h5, h0, h1, h2, h4]
            go_wp2_with (fail)
            exact CalmQ.mk rfl _ rfl (Below.refl _ _) rfl
          exact AllCalm.nil
        · intro W hB hT
          obtain ⟨h0, h1, h2, h3, h4, h5, h6, -⟩ := hT
          have h0 : f 0 = _ := h0
          have h1 : f 1 = _ := h1
          have h2 : f 2 = _ := h2
          have h3 : Sl W W.heap.size (f 3) _ _ := h3
          have h4 : f 4 = _ := h4
          have h5 : f 5 = _ := h5
          have h6 : f 6 = _ := h6
          rw [h0, h1, h2, h4, h5, h6]
          clear h0 h1 h2 h4 h5 h6
          have hbW := hb.trans (hB.mono hb.size)
          have la3 := la2.now hB
          have dV := dW.below hB
          clear la2 dW dsk cfull
          go_wp2
          go_loopw [14, 15] (fun b i wr => ∃ j : Nat, j ≤ L.length ∧ i = .int .i64 j ∧ b = .bool (hit x l0 L j) ∧ Below W.heap.size W wr) (fun _ i _ => L.length - (intOf i).toNat)
          case atStart => exact ⟨0, by omega, rfl, by simp [hit], Below.refl _ _⟩
          case round =>
            obtain ⟨j, hj, rfl, rfl, hbr⟩ := hrel
            have hbw := hbW.trans (hbr.mono hbW.size)
            by_cases hjl : j < L.length
            · obtain ⟨b1, o1, A3, c3, rfl, y1, y2⟩ := cells wr j hjl hbw
              have hjx : (j : Int) < (L.length : Int) := by omega
              have hn := hit_next x l0 L j hjl
              have cf0 := fun W' (hW : Below wr.heap.size wr W') => cfullL W' j hjl A3 c3 (hbw.trans (hW.mono hbw.size)) (y2.below (hW.mono hbw.size))
              have yw := fun W' (hW : Below wr.heap.size wr W') => (hW.cell (p := ⟨b1, o1 + j, none⟩) (World.block_lt_of_cell? wr _ y1)).trans y1
              have law := la3.now hbr
              have HN := Lib.hid hn
              clear cells cfullL hn
              generalize L[j] = lj at *
              cases hh : hit x l0 L j
              · go_wp2
                apply calm_tail 12 [.is (.bool false), .is (.bool false), .is (.slice (some ⟨g9, 0, none⟩) 512 512), .is (.string ⟨(full x).toArray⟩), .is (.slice (some ⟨b1, o1, none⟩) L.length c1), .is (.int .i64 (j : Nat)), .is (.pointer (some ⟨b1, o1 + j, none⟩)), .is (.slice A3 lj.length c3), .sl 512 (bs (full lj)), .is (.string ⟨(full lj).toArray⟩), .is (.bool (full x == full lj)), .is (.bool (full x == full lj))] [[], [0], [1], [2, 1], [1], [1], [4, 5, 1], [6, 1], [7, 1, 1], [8, 1], [3, 9, 1], [1, 10]] (by kernel_rfl) (by kernel_rfl) (by kernel_rfl) rfl
                intro f a1 ha1
                simp only [List.take_succ_cons, List.take_zero, putL, Act.put, List.setIfInBounds_toArray, List.set_cons_succ, List.set_cons_zero] at ha1
                subst ha1
                refine ⟨?_, ?_⟩
                · refine AllCalm.cons (fun W hB hd => ?_) ?_
                  · go_wp2_with (fail)
                    exact CalmQ.mk rfl _ rfl (Below.refl _ _) rfl
                  refine AllCalm.cons (fun W hB hd => ?_) ?_
                  · obtain ⟨h0, -⟩ := hd
                    have h0 : f 0 = _ := h0
                    rw [h0]
                    go_wp2_with (fail)
                    exact CalmQ.mk rfl _ rfl (Below.refl _ _) rfl
                  refine AllCalm.cons (fun W hB hd => ?_) ?_
                  · obtain ⟨h1, -⟩ := hd
                    have h1 : f 1 = _ := h1
                    rw [h1]
                    go_wp2_with (fail)
                    exact CalmQ.mk rfl _ rfl (Below.refl _ _) rfl
                  refine AllCalm.cons (fun W hB hd => ?_) ?_
                  · obtain ⟨h2, h1, -⟩ := hd
                    have h2 : f 2 = _ := h2
                    have h1 : f 1 = _ := h1
                    rw [h2, h1]
                    have st := str (law.now hB)
                    go_wp2_with (fail)
                    exact CalmQ.mk rfl _ rfl (Below.refl _ _) rfl
                  refine AllCalm.cons (fun W hB hd => ?_) ?_
                  · obtain ⟨h1, -⟩ := hd
                    have h1 : f 1 = _ := h1
                    rw [h1]
                    go_wp2_with (fail)
                    exact CalmQ.mk rfl _ rfl (Below.refl _ _) rfl
                  refine AllCalm.cons (fun W hB hd => ?_) ?_
                  · obtain ⟨h1, -⟩ := hd
                    have h1 : f 1 = _ := h1
                    rw [h1]
                    go_wp2_with (fail)
                    exact CalmQ.mk rfl _ rfl (Below.refl _ _) rfl
                  refine AllCalm.cons (fun W hB hd => ?_) ?_
                  · obtain ⟨h4, h5, h1, -⟩ := hd
                    have h4 : f 4 = _ := h4
                    have h5 : f 5 = _ := h5
                    have h1 : f 1 = _ := h1
                    rw [h4, h5, h1]
                    go_wp2_with (fail)
                    exact CalmQ.mk rfl _ rfl (Below.refl _ _) rfl
                  refine AllCalm.cons (fun W hB hd => ?_) ?_
                  · obtain ⟨h6, h1, -⟩ := hd
                    have h6 : f 6 = _ := h6
                    have h1 : f 1 = _ := h1
                    rw [h6, h1]
                    have y := yw W hB
                    go_wp2_with (fail)
                    exact CalmQ.mk rfl _ rfl (Below.refl _ _) rfl
                  refine AllCalm.cons (fun W hB hd => ?_) ?_
                  · obtain ⟨h7, h1, -, -⟩ := hd
                    have h7 : f 7 = _ := h7
                    have h1 : f 1 = _ := h1
                    rw [h7, h1]
                    have cf := cf0 W hB
                    go_wp2_with ((go_at_call 12; (with_reducible refine cf.mono ?_); rintro e wf ⟨v', rfl, hof, hbf⟩))
                    exact CalmQ.mk rfl _ rfl hbf (Sl.of_own hof)
                  refine AllCalm.cons (fun W hB hd => ?_) ?_
                  · obtain ⟨h8, h1, -⟩ := hd
                    have h8 : Sl W W.heap.size (f 8) _ _ := h8
                    have h1 : f 1 = _ := h1
                    rw [h1]
                    have st := str h8
                    go_wp2_with (fail)
                    exact CalmQ.mk rfl _ rfl (Below.refl _ _) rfl
                  refine AllCalm.cons (fun W hB hd => ?_) ?_
                  · obtain ⟨h3, h9, h1, -⟩ := hd
                    have h3 : f 3 = _ := h3
                    have h9 : f 9 = _ := h9
                    have h1 : f 1 = _ := h1
                    rw [h3, h9, h1]
                    go_wp2_with (fail)
                    exact CalmQ.mk rfl _ rfl (Below.refl _ _) rfl
                  refine AllCalm.cons (fun W hB hd => ?_) ?_
                  · obtain ⟨h1, h10, -⟩ := hd
                    have h1 : f 1 = _ := h1
                    have h10 : f 10 = _ := h10
                    rw [h1, h10]
                    go_wp2_with (fail)
                    exact CalmQ.mk rfl _ rfl (Below.refl _ _) rfl
                  exact AllCalm.nil
                · intro W hB hT
                  obtain ⟨h0, h1, h2, h3, h4, h5, h6, h7, h8, h9, h10, h11, -⟩ := hT
                  have h0 : f 0 = _ := h0
                  have h1 : f 1 = _ := h1
                  have h2 : f 2 = _ := h2
                  have h3 : f 3 = _ := h3
                  have h4 : f 4 = _ := h4
                  have h5 : f 5 = _ := h5
                  have h6 : f 6 = _ := h6
                  have h7 : f 7 = _ := h7
                  have h8 : Sl W W.heap.size (f 8) _ _ := h8
                  have h9 : f 9 = _ := h9
                  have h10 : f 10 = _ := h10
                  have h11 : f 11 = _ := h11
                  rw [h0, h1, h2, h3, h4, h5, h6, h7, h9, h10, h11]
                  clear h0 h1 h2 h3 h4 h5 h6 h7 h9 h10 h11
                  simp only [List.drop_succ_cons, List.drop_zero]
                  go_wp2
                  exact ⟨⟨j + 1, by omega, by go_num, by rw [HN.out, hh, Bool.false_or], hbr.trans (hB.mono hbr.size)⟩, by simp [intOf]; omega⟩
              · go_wp2
                apply calm_tail 12 [.is (.bool true), .is (.bool true), .any, .any, .any, .any, .any, .any, .any, .any, .any, .is (.bool true)] [[], [0], [1], [2, 1], [1], [1], [4, 5, 1], [6, 1], [7, 1, 1], [8, 1], [3, 9, 1], [1, 10]] (by kernel_rfl) (by kernel_rfl) (by kernel_rfl) rfl
                intro f a1 ha1
                simp only [List.take_succ_cons, List.take_zero, putL, Act.put, List.setIfInBounds_toArray, List.set_cons_succ, List.set_cons_zero] at ha1
                subst ha1
                refine ⟨?_, ?_⟩
                · refine AllCalm.cons (fun W hB hd => ?_) ?_
                  · go_wp2_with (fail)
                    exact CalmQ.mk rfl _ rfl (Below.refl _ _) rfl
                  refine AllCalm.cons (fun W hB hd => ?_) ?_
                  · obtain ⟨h0, -⟩ := hd
                    have h0 : f 0 = _ := h0
                    rw [h0]
                    go_wp2_with (fail)
                    exact CalmQ.mk rfl _ rfl (Below.refl _ _) rfl
                  refine AllCalm.cons (fun W hB hd => ?_) ?_
                  · obtain ⟨h1, -⟩ := hd
                    have h1 : f 1 = _ := h1
                    rw [h1]
                    go_wp2_with (fail)
                    exact CalmQ.mk rfl _ rfl (Below.refl _ _) trivial
                  refine AllCalm.cons (fun W hB hd => ?_) ?_
                  · obtain ⟨h2, h1, -⟩ := hd
                    have h1 : f 1 = _ := h1
                    rw [h1]
                    go_wp2_with (fail)
                    exact CalmQ.mk rfl _ rfl (Below.refl _ _) trivial
                  refine AllCalm.cons (fun W hB hd => ?_) ?_
                  · obtain ⟨h1, -⟩ := hd
                    have h1 : f 1 = _ := h1
                    rw [h1]
                    go_wp2_with (fail)
                    exact CalmQ.mk rfl _ rfl (Below.refl _ _) trivial
                  refine AllCalm.cons (fun W hB hd => ?_) ?_
                  · obtain ⟨h1, -⟩ := hd
                    have h1 : f 1 = _ := h1
                    rw [h1]
                    go_wp2_with (fail)
                    exact CalmQ.mk rfl _ rfl (Below.refl _ _) trivial
                  refine AllCalm.cons (fun W hB hd => ?_) ?_
                  · obtain ⟨h4, h5, h1, -⟩ := hd
                    have h1 : f 1 = _ := h1
                    rw [h1]
                    go_wp2_with (fail)
                    exact CalmQ.mk rfl _ rfl (Below.refl _ _) trivial
                  refine AllCalm.cons (fun W hB hd => ?_) ?_
                  · obtain ⟨h6, h1, -⟩ := hd
                    have h1 : f 1 = _ := h1
                    rw [h1]
                    go_wp2_with (fail)
                    exact CalmQ.mk rfl _ rfl (Below.refl _ _) trivial
                  refine AllCalm.cons (fun W hB hd => ?_) ?_
                  · obtain ⟨h7, h1, -, -⟩ := hd
                    have h1 : f 1 = _ := h1
                    rw [h1]
                    go_wp2_with (fail)
                    exact CalmQ.mk rfl _ rfl (Below.refl _ _) trivial
                  refine AllCalm.cons (fun W hB hd => ?_) ?_
                  · obtain ⟨h8, h1, -⟩ := hd
                    have h1 : f 1 = _ := h1
                    rw [h1]
                    go_wp2_with (fail)
                    exact CalmQ.mk rfl _ rfl (Below.refl _ _) trivial
                  refine AllCalm.cons (fun W hB hd => ?_) ?_
                  · obtain ⟨h3, h9, h1, -⟩ := hd
                    have h1 : f 1 = _ := h1
                    rw [h1]
                    go_wp2_with (fail)
                    exact CalmQ.mk rfl _ rfl (Below.refl _ _) trivial
                  refine AllCalm.cons (fun W hB hd => ?_) ?_
                  · obtain ⟨h1, h10, -⟩ := hd
                    have h1 : f 1 = _ := h1
                    rw [h1]
                    go_wp2_with (fail)
                    exact CalmQ.mk rfl _ rfl (Below.refl _ _) rfl
                  exact AllCalm.nil
                · intro W hB hT
                  obtain ⟨h0, h1, h2, h3, h4, h5, h6, h7, h8, h9, h10, h11, -⟩ := hT
                  have h0 : f 0 = _ := h0
                  have h1 : f 1 = _ := h1
                  have h11 : f 11 = _ := h11
                  rw [h0, h1, h11]
                  clear h0 h1 h11
                  simp only [List.drop_succ_cons, List.drop_zero]
                  go_wp2
                  exact ⟨⟨j + 1, by omega, by go_num, by rw [HN.out, hh, Bool.true_or], hbr.trans (hB.mono hbr.size)⟩, by simp [intOf]; omega⟩
            · obtain rfl : j = L.length := by omega
              have hh := hit_all hx
              have wt2 := wt wr (dV.below hbr)
              rw [hh]
              clear hh
              go_wp2_with (go_at_call 13; (with_reducible refine wt2.mono ?_); rintro e w12 ⟨rfl, rfl⟩)
              go_ret
              exact ⟨rfl, hbw⟩
theorem walk (v0 : Value) (l0 : List UInt8) (v1 : Value) (L : List (List UInt8)) (vs : List Value) (v2 : Value) (zs : List Int) (w : World) (h0 : Sl w w.heap.size v0 l0.length (bs l0)) (h1 : Sl w w.heap.size v1 L.length vs) (hr : Rows2 w w.heap.size vs L) (h2 : Sl w w.heap.size v2 zs.length (zs.map (Value.int .i64))) (hw : ∀ n ∈ zs, (Lit.int .i64 n).wf = true) :
    Calls Try.prog 3 #[v0, v1, v2] w fun e w' => e = .returned (.bool true) ∧ Below w.heap.size w w' := by
  by_cases hno : 512 < l0.length ∨ 20 < L.length ∨ 20 < zs.length
  · exact walk_no v0 l0 v1 L vs v2 zs w h0 h1 h2 hno
  · exact walk_yes v0 l0 v1 L vs v2 zs w h0 h1 hr h2 (fun z hz => bounds_i64 (hw z hz)) (by omega) (by omega) (by omega)
set_option maxRecDepth 100000 in
theorem lifted (os : Os) (started : os.Started) (H : Type) (enc : TypeId × Value → H) :
    ReturnsInHanded {} Try.checked os 3 .any (Rows.diskLastsSpec.pre6 enc Try.prog Try.f3 Rows.diskLastsRow.domain false) (Rows.diskLastsSpec.post enc Try.prog Try.f3 false true false false) := by
  refine returnsInHanded_of_change (C := Try.checked) own started (by kernel_rfl) Try.func3
    (ChangeSpec.witness6 (enc := enc) (C := Try.checked) false ⟨#[], #[.slice none 0 0, .slice none 0 0, .slice none 0 0], []⟩ 8 (by kernel_rfl) (by kernel_rfl) (by kernel_rfl) (by kernel_rfl)) ?_
  intro W base args ds gs before hval0 hW hcnd _
  have hval : ∀ (j : Nat) t v, Try.f3.params[j]? = some t → args[j]? = some v → Value.okWide Try.prog W .any base t v := hval0
  have hW' := hW
  obtain ⟨p, q, hA0, hV, rfl, hfz, hnd⟩ := hW
  have hA : DataW.TrodAll enc Try.prog W 0 (fun _ => true) true Try.f3.params.toList args.toList ds p := hA0
  rw [Try.params3] at hA hval
  obtain ⟨v0, vs0, d0, ds0, p0, q0, hargs, rfl, rfl, h0, r0⟩ := trodAll_cons hA
  obtain ⟨v1, vs1, d1, ds1, p1, q1, rfl, rfl, rfl, h1, r1⟩ := trodAll_cons r0
  obtain ⟨v2, vs2, d2, ds2, p2, q2, rfl, rfl, rfl, h2, r2⟩ := trodAll_cons r1
  obtain ⟨rfl, rfl, rfl⟩ := trodAll_nil r2
  obtain rfl : args = #[v0, v1, v2] := by cases args; simp_all
  obtain ⟨rfl, rfl⟩ := trodVars_none hV
  obtain ⟨l0, s0, e0⟩ := open_bytes Try.underlying22 Try.underlying5 (by kernel_rfl) (hval 0 22 v0 rfl rfl) h0
  obtain ⟨L1, vs1x, s1, u1⟩ := open_bytess Try.underlying23 (by kernel_rfl) Try.underlying22 Try.underlying5 (by kernel_rfl) (hval 1 23 v1 rfl rfl) h1
  obtain ⟨z2, s2, w2, e2⟩ := open_sl Try.underlying24 Try.underlying3 (by kernel_rfl) (hval 2 24 v2 rfl rfl) h2
  refine (walk v0 l0 v1 L1 vs1x v2 z2 W s0 s1 u1 s2 w2).mono fun e W' ⟨he, hb⟩ => ?_
  subst he
  exact ⟨_, rfl, law_post laidOut (by kernel_rfl) rfl (by kernel_rfl) Try.underlying4 rfl rfl rfl hW' hb⟩

theorem proved : Rows.DiskLastsSaid :=
  OpenClaim.holds_of_wide 3 Try.f3 rfl rfl rfl rfl rfl rfl rfl ⟨rfl, rfl, rfl, rfl, rfl⟩ rfl rfl rfl rfl rfl (by kernel_rfl) Try.func3 (by kernel_rfl)
    (of_decide_eq_true (by kernel_rfl)) (by unfold Func.isWrapper; first | (rw [if_pos (by decide +kernel)]; kernel_rfl) | (rw [if_neg (by decide +kernel)]; exact ⟨rfl, rfl⟩))
    (fun os started H enc _ => lifted os started H enc)
end Dk
end Go.Proofs.Ythjfigfjkjgogaa
