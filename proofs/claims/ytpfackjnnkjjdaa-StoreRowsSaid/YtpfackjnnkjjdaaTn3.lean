/- Package twin: Open, Value, Number: contracts. -/
import Derived.Test.YtpfackjnnkjjdaaTn2
namespace Go.Proofs.Ytpfackjnnkjjdaa
open Go.ChangeShapes Go.WideShapes Go.ChangeAt Go.RowKit Go.Lib
set_option linter.unusedVariables false
set_option linter.unusedSimpArgs false
namespace Tw
open Dk
/-- The value that a sector has, if it has one, at home there. -/
def cand (s : List UInt8) (j : Nat) : Option (Nat × List UInt8) := if (unpackS s).2.2 = 0 ∧ (unpackS s).1 % 2 = j then some ((unpackS s).1, (unpackS s).2.1) else none
/-- The one with the greater number. -/
def best (a b : Option (Nat × List UInt8)) : Option (Nat × List UInt8) := match a, b with
  | none, b => b
  | some a, none => some a
  | some a, some b => if a.1 < b.1 then some b else some a
theorem unpackS_fit (s : List UInt8) : (unpackS s).1 < 18446744073709551616 ∧ (unpackS s).2.1.length ≤ 488 ∧ (unpackS s).2.2 ≤ 4 := by
  unfold unpackS
  split
  · exact ⟨show 0 < 18446744073709551616 by decide, by simp, show 3 ≤ 4 by decide⟩
  · split
    · exact ⟨show 0 < 18446744073709551616 by decide, by simp, openS_err s⟩
    · unfold unpackB
      split
      · exact ⟨show 0 < 18446744073709551616 by decide, by simp, show 2 ≤ 4 by decide⟩
      · rename_i h
        refine ⟨?_, ?_, show 0 ≤ 4 by decide⟩
        · have := beVal_lt' 8 (((Crc.openS s).1.drop 4).take 8) (by simp; omega)
          exact Nat.lt_of_lt_of_le this (by decide)
        · rw [List.length_take]
          have : ¬ 488 < lenS (Crc.openS s).1 := fun hc => h (.inr (.inl hc))
          omega
/-- A value on two sectors in block Y, of the disk in X. -/
structure TwM (B : Nat) (w : World) (O : Nat → Prop) (Y X a n : Nat) (v : Value) (l : List UInt8) : Prop where
  mem : Mem w Y 91 #[.pointer (some ⟨X, 0, none⟩), .int .i64 (a : Nat), .int .u64 (n : Nat), v]
  row : w.ownsRow B 5 1 v l.length (bs l)
  from_ : B ≤ Y
  noY : ¬ O Y
  noV : ∀ k, v.ownBlock = some k → ¬ O k
  fit : n < 18446744073709551616
  few : l.length ≤ 488
section
variable {o w w' : World} {B X Y a n : Nat} {O O' : Nat → Prop} {S : DS} {v : Value} {l : List UInt8}
theorem TwM.below (h : TwM B w O Y X a n v l) (hb : Below w.heap.size w w') : TwM B w' O Y X a n v l := ⟨h.mem.below hb h.mem.lt, owns_below h.row hb, h.from_, h.noY, h.noV, h.fit, h.few⟩
theorem TwM.eff (h : TwM B w O Y X a n v l) (he : Eff O w w') (hO : ∀ k, O' k → O k ∨ w.heap.size ≤ k) : TwM B w' O' Y X a n v l := by
  refine ⟨h.mem.eff he h.noY, owns_eff h.row he fun k hk => h.noV k hk, h.from_, fun hY => ?_, fun k hk hO' => ?_, h.fit, h.few⟩
  · rcases hO Y hY with h1 | h1
    · exact h.noY h1
    · have := h.mem.lt; omega
  · rcases hO k hO' with h1 | h1
    · exact h.noV k hk h1
    · have := (own_tag h.row k hk).2.1; omega
theorem value_any (h : TwM B w O Y X a n v l) : Calls Try.prog 26 #[.pointer (some ⟨Y, 0, none⟩)] w fun e w' => ∃ v', e = .returned v' ∧ w'.ownsRow w.heap.size 5 1 v' l.length (bs l) ∧ Below w.heap.size w w' := by
  obtain ⟨i0, hi, hz0, hz1, hz2⟩ := info_parts (show (Try.prog.info? 5).map (fun i => (i.zero, i.size, i.bytes)) = some (some (.int .u8 0), 1, 1) by kernel_rfl)
  obtain ⟨A, c, hv, _, _⟩ := own_form h.row
  have x3 : w.cell? ⟨Y, 3, none⟩ = some v := h.mem.cell 3
  have hs := Sl.of_own h.row
  have hf := h.few
  rw [hv] at x3 hs
  go_enter Try.func26, Try.ntmps26
  go_wp2_with (at_builtin; (refine wpList_append_sl _ rfl (.const (.slice none 0 0)) (.tmp 6) _ rfl w.heap.size 5 i0 _ Try.underlying34 hi hz0 hz1 (by omega) rfl (.slice none 0 0) 0 [] rfl (World.ownsRow_nil _ _ _ _) _ (.slice A l.length c) l.length (bs l) rfl hs bs_one (by omega) (Nat.le_refl _) ?_); intro v6 w6 ho6 hg6 hat6; have hb6 := (Below.refl w.heap.size w).grown hg6 (Nat.le_refl _) (fun k hk => by cases hk))
  go_ret
  exact ⟨v6, rfl, by simpa using ho6, hb6⟩
theorem open_no (h : Dsk o w X O S) (a : Int) (hno : ¬ (0 ≤ a ∧ a + 1 < (S.last.length : Int))) : Calls Try.prog 24 #[.pointer (some ⟨X, 0, none⟩), .int .i64 a] w fun e w' => e = .returned (.tuple #[.pointer none, .int .i64 1]) ∧ w = w' := by
  have ht := there_any h a
  rw [decide_eq_false hno] at ht
  go_enter Try.func24, Try.ntmps24
  go_wp2
  go_step3
  go_wp2_with (go_at_call 46; (with_reducible refine ht.mono ?_); rintro e w1 ⟨rfl, rfl⟩)
  rw [Exit.noGoto_ret]
  go_ret2
  exact ⟨rfl, rfl⟩
/-- What Open finds. -/
def Found (w w' : World) (X a : Nat) (O : Nat → Prop) (c : Option (Nat × List UInt8)) (e : Value) : Prop := match c with
  | none => e = .pointer none
  | some p => ∃ Y v, e = .pointer (some ⟨Y, 0, none⟩) ∧ TwM w.heap.size w' O Y X a p.1 v p.2
theorem Found.below {w1 w2 : World} {c : Option (Nat × List UInt8)} {e : Value} (h : Found w w1 X a O c e) (hb : Below w1.heap.size w1 w2) : Found w w2 X a O c e := by
  cases c with
  | none => exact h
  | some p => obtain ⟨Y, v, h1, h2⟩ := h; exact ⟨Y, v, h1, h2.below hb⟩
/-- The better one of the first j sectors. -/
def bestTo (S : DS) (a : Nat) : Nat → Option (Nat × List UInt8)
  | 0 => none
  | j + 1 => best (bestTo S a j) (cand (full (S.now (a + j))) j)
def errOf (c : Option (Nat × List UInt8)) : Int := match c with | none => 2 | some _ => 0
theorem best_none (c : Option (Nat × List UInt8)) : best c none = c := by cases c <;> rfl
set_option maxRecDepth 100000 in
set_option maxHeartbeats 2000000 in
theorem open_ok (h : Dsk o w X O S) (hdd : S.dead = false) (hof : S.off = false) (a : Nat) (ha : a + 1 < S.last.length) (hw : S.wtg ≤ 1000000) :
    Calls Try.prog 24 #[.pointer (some ⟨X, 0, none⟩), .int .i64 (a : Nat)] w fun e w' => ∃ p, Found w w' X a O (bestTo S a 2) p ∧ e = .returned (.tuple #[p, .int .i64 (errOf (bestTo S a 2))]) ∧ Below w.heap.size w w' := by
  obtain ⟨V, hV⟩ := h.is
  have hfew := h.fine.few
  have hOlt := hV.lt
  have ht := there_any h (a : Int)
  rw [decide_eq_true (show 0 ≤ (a : Int) ∧ (a : Int) + 1 < (S.last.length : Int) by omega)] at ht
  go_enter Try.func24, Try.ntmps24
  go_wp2
  go_step3
  go_wp2_with (go_at_call 46; (with_reducible refine ht.mono ?_); rintro e w1 ⟨rfl, rfl⟩)
  go_step3
  go_wp2
  go_loopw [6, 7] (fun p i wr => ∃ (j : Nat) (pp : Value), j ≤ 2 ∧ i = .int .i64 ((a : Int) + (j : Int)) ∧ pp = p ∧ Found w wr X a O (bestTo S a j) pp ∧ Dsk o wr X O S ∧ Below w.heap.size w wr) (fun _ i _ => a + 2 - (intOf i).toNat)
  case atStart => exact ⟨0, .pointer none, by omega, by simp, rfl, rfl, h, Below.refl _ _⟩
  case round =>
    obtain ⟨j, pp, hj, rfl, rfl, hF, hs, hb⟩ := hrel
    have hax : (a : Int) ≤ 4096 := by omega
    by_cases hj2 : j < 2
    · have hjx : (j : Int) < 2 := by omega
      have hrd := d_read hs hdd hof (a + j) (by omega) hw
      rw [show (((a + j : Nat)) : Int) = (a : Int) + (j : Int) by omega] at hrd
      obtain ⟨sec, hsec⟩ : ∃ sec, full ((S.wa (a + j)).getLast?.getD (S.la (a + j))) = sec := ⟨_, rfl⟩
      have hnow : full (S.now (a + j)) = sec := hsec
      rw [hsec] at hrd
      have hbn : bestTo S a (j + 1) = best (bestTo S a j) (cand sec j) := by rw [← hnow]; rfl
      have hsl : sec.length = 512 := by
        rw [← hsec]
        refine full_len ?_
        obtain ⟨V, hV⟩ := hs.is
        cases hg : (S.wa (a + j)).getLast? with
        | none =>
          show (S.la (a + j)).length ≤ 512
          unfold DS.la
          obtain ⟨u, hu, hd⟩ := hV.last.get (j := a + j) (by omega)
          rw [List.getElem?_eq_getElem (by omega)]
          exact hd.few
        | some y =>
          show y.length ≤ 512
          have hm := List.mem_of_getLast? hg
          obtain ⟨k, hk⟩ := List.mem_iff_getElem?.1 hm
          have hW : S.wts[a + j]? = some (S.wa (a + j)) := by unfold DS.wa; rw [List.getElem?_eq_getElem (by have := hs.fine.lens; omega)]; rfl
          obtain ⟨u, hu⟩ : ∃ u, V.wl[a + j]? = some u := ⟨_, List.getElem?_eq_getElem (by have := hV.waits.row.len; have := hs.fine.lens; omega)⟩
          obtain ⟨D, hD⟩ := hV.waits.one (a + j) u _ hu hW
          have hkl := (List.getElem?_eq_some_iff.1 hk).1
          obtain ⟨x, hx, hdx⟩ := hD.get hkl
          have : (S.wa (a + j))[k] = y := by rw [List.getElem?_eq_getElem hkl] at hk; exact Option.some.inj hk
          rw [← this]
          exact hdx.few
      have hup := fun W g (hm : Mem W g 5 (bs sec).toArray) => unpack_any (.slice (some ⟨g, 0, none⟩) 512 512) sec W (by rw [hsl]; exact sl_of_row (n := 512) hm (by rw [bs_len, hsl]) (by unfold maxLen; omega)) (by omega)
      have hfit := unpackS_fit sec
      have hcd : cand sec j = if (unpackS sec).2.2 = 0 ∧ (unpackS sec).1 % 2 = j then some ((unpackS sec).1, (unpackS sec).2.1) else none := rfl
      rw [hcd] at hbn
      generalize unpackS sec = U at *
      obtain ⟨N, vl, E⟩ := U
      simp only at hup hfit hbn
      obtain ⟨hN, hvl, hE⟩ := hfit
      have hho := fun W => home_any a N (by omega) hN W
      have hEx : (E : Int) ≤ 4 := by omega
      clear hcd hsec hnow hsl
      have HN := Lib.hid hN
      clear hN
      have HB := Lib.hid hbn
      clear hbn
      by_cases hE0 : E = 0
      · subst hE0
        by_cases hpar : N % 2 = j
        · have hcond : (0 = 0 ∧ N % 2 = j) := ⟨rfl, hpar⟩
          rw [hpar] at hho
          have hho3 : ∀ W, Calls Try.prog 48 #[.int .i64 (a : Nat), .int .u64 (N : Nat)] W fun e w' => e = .returned (.int .i64 ((a : Int) + (j : Int))) ∧ W = w' := fun W => by have := hho W; rw [show ((a + j : Nat) : Int) = (a : Int) + (j : Int) by omega] at this; exact this
          have hho := hho3
          clear hho3
          cases hc : bestTo S a j with
          | none =>
            rw [hc] at hF
            have hcn : best (bestTo S a j) (if 0 = 0 ∧ N % 2 = j then some (N, vl) else none) = some (N, vl) := by rw [if_pos hcond, hc]; rfl
            have HC := Lib.hid hcn
            clear hcn hcond hpar hc
            have hF : pp = .pointer none := hF
            subst hF
            go_wp2_with (first
              | (go_at_call 50; (with_reducible refine hrd.mono ?_); rintro e w7 ⟨g7, rfl, hg7, m7, s7, b7⟩; have hup7 := hup w7 g7 m7)
              | (go_at_call 51; (with_reducible refine hup7.mono ?_); rintro e w8 ⟨v8, rfl, o8, b8⟩; obtain ⟨A8, c8, rfl, _, _⟩ := own_form o8)
              | (go_at_call 48; (with_reducible refine (hho _).mono ?_); rintro e w9 ⟨rfl, rfl⟩))
            have hb8 := hb.trans ((b7.trans (b8.mono b7.size)).mono hb.size)
            have hnew : TwM w.heap.size (w8.alloc (.cells #[.pointer (some ⟨X, 0, none⟩), .int .i64 (a : Nat), .int .u64 (N : Nat), .slice A8 vl.length c8] 91)) O w8.heap.size X a N (.slice A8 vl.length c8) vl := by
              have hal : Below w8.heap.size w8 (w8.alloc (.cells #[.pointer (some ⟨X, 0, none⟩), .int .i64 (a : Nat), .int .u64 (N : Nat), .slice A8 vl.length c8] 91)) := (Below.refl _ _).alloc (Nat.le_refl _) _
              refine ⟨Mem.new w8 _ _, owns_below (owns_mono o8 (Nat.le_trans hb.size b7.size)) hal, hb8.size, fun hO => ?_, fun k hk hO => ?_, HN.out, hvl⟩
              · have := hOlt _ hO; have := hb8.size; omega
              · have h1 := hOlt _ hO; have h2 := (own_tag o8 k hk).1; have := hb.size; have := b7.size; omega
            exact ⟨⟨j + 1, .pointer (some ⟨w8.heap.size, 0, none⟩), by omega, by go_num, rfl, by rw [HB.out, HC.out]; exact ⟨_, _, rfl, hnew⟩, (s7.below b8).below ((Below.refl _ _).alloc (Nat.le_refl _) _), hb8.alloc hb8.size _⟩, by simp [intOf]; omega⟩
          | some q =>
            rw [hc] at hF
            obtain ⟨Y0, v0, rfl, hT⟩ := hF
            have x2 := fun W (hW : Below wr.heap.size wr W) => ((hT.below hW).mem.cell 2 : W.cell? ⟨Y0, 2, none⟩ = some (.int .u64 (q.1 : Nat)))
            by_cases hgt : q.1 < N
            · have hcn : best (bestTo S a j) (if 0 = 0 ∧ N % 2 = j then some (N, vl) else none) = some (N, vl) := by rw [if_pos hcond, hc]; unfold best; simp only [if_pos hgt]
              have HC := Lib.hid hcn
              have hgx : (q.1 : Int) < (N : Int) := by omega
              clear hcn hcond hpar hc hgt
              go_wp2_with (first
                | (go_at_call 50; (with_reducible refine hrd.mono ?_); rintro e w7 ⟨g7, rfl, hg7, m7, s7, b7⟩; have hup7 := hup w7 g7 m7)
                | (go_at_call 51; (with_reducible refine hup7.mono ?_); rintro e w8 ⟨v8, rfl, o8, b8⟩; obtain ⟨A8, c8, rfl, _, _⟩ := own_form o8; have y2 := x2 w8 (b7.trans (b8.mono b7.size)))
                | (go_at_call 48; (with_reducible refine (hho _).mono ?_); rintro e w9 ⟨rfl, rfl⟩))
              have hb8 := hb.trans ((b7.trans (b8.mono b7.size)).mono hb.size)
              have hnew : TwM w.heap.size (w8.alloc (.cells #[.pointer (some ⟨X, 0, none⟩), .int .i64 (a : Nat), .int .u64 (N : Nat), .slice A8 vl.length c8] 91)) O w8.heap.size X a N (.slice A8 vl.length c8) vl := by
                have hal : Below w8.heap.size w8 (w8.alloc (.cells #[.pointer (some ⟨X, 0, none⟩), .int .i64 (a : Nat), .int .u64 (N : Nat), .slice A8 vl.length c8] 91)) := (Below.refl _ _).alloc (Nat.le_refl _) _
                refine ⟨Mem.new w8 _ _, owns_below (owns_mono o8 (Nat.le_trans hb.size b7.size)) hal, hb8.size, fun hO => ?_, fun k hk hO => ?_, HN.out, hvl⟩
                · have := hOlt _ hO; have := hb8.size; omega
                · have h1 := hOlt _ hO; have h2 := (own_tag o8 k hk).1; have := hb.size; have := b7.size; omega
              exact ⟨⟨j + 1, .pointer (some ⟨w8.heap.size, 0, none⟩), by omega, by go_num, rfl, by rw [HB.out, HC.out]; exact ⟨_, _, rfl, hnew⟩, (s7.below b8).below ((Below.refl _ _).alloc (Nat.le_refl _) _), hb8.alloc hb8.size _⟩, by simp [intOf]; omega⟩
            · have hcn : best (bestTo S a j) (if 0 = 0 ∧ N % 2 = j then some (N, vl) else none) = some q := by rw [if_pos hcond, hc]; unfold best; simp only [if_neg hgt]
              have HC := Lib.hid hcn
              have hgx : ¬ (q.1 : Int) < (N : Int) := by omega
              clear hcn hcond hpar hc hgt
              go_wp2_with (first
                | (go_at_call 50; (with_reducible refine hrd.mono ?_); rintro e w7 ⟨g7, rfl, hg7, m7, s7, b7⟩; have hup7 := hup w7 g7 m7)
                | (go_at_call 51; (with_reducible refine hup7.mono ?_); rintro e w8 ⟨v8, rfl, o8, b8⟩; have y2 := x2 w8 (b7.trans (b8.mono b7.size)))
                | (go_at_call 48; (with_reducible refine (hho _).mono ?_); rintro e w9 ⟨rfl, rfl⟩))
              have hbb := b7.trans (b8.mono b7.size)
              exact ⟨⟨j + 1, _, by omega, by go_num, rfl, by rw [HB.out, HC.out]; exact ⟨Y0, v0, rfl, hT.below hbb⟩, s7.below b8, hb.trans (hbb.mono hb.size)⟩, by simp [intOf]; omega⟩
        · have hpx : ¬ (a : Int) + ((N % 2 : Nat) : Int) = (a : Int) + (j : Int) := by omega
          have hpx2 : ¬ ((N % 2 : Nat) : Int) = (j : Int) := by omega
          have hho2 : ∀ W, Calls Try.prog 48 #[.int .i64 (a : Nat), .int .u64 (N : Nat)] W fun e w' => e = .returned (.int .i64 ((a : Int) + ((N % 2 : Nat) : Int))) ∧ W = w' := fun W => by have := hho W; rw [show ((a + N % 2 : Nat) : Int) = (a : Int) + ((N % 2 : Nat) : Int) by omega] at this; exact this
          have hho := hho2
          clear hho2
          have hnc : ¬ ((0 : Nat) = 0 ∧ N % 2 = j) := fun h => hpar h.2
          have hcn : best (bestTo S a j) (if 0 = 0 ∧ N % 2 = j then some (N, vl) else none) = bestTo S a j := by rw [if_neg hnc, best_none]
          have HC := Lib.hid hcn
          clear hcn hnc hpar
          generalize N % 2 = pr at *
          go_wp2_with (first
            | (go_at_call 50; (with_reducible refine hrd.mono ?_); rintro e w7 ⟨g7, rfl, hg7, m7, s7, b7⟩; have hup7 := hup w7 g7 m7)
            | (go_at_call 51; (with_reducible refine hup7.mono ?_); rintro e w8 ⟨v8, rfl, o8, b8⟩)
            | (go_at_call 48; (with_reducible refine (hho _).mono ?_); rintro e w9 ⟨rfl, rfl⟩))
          have hbb := b7.trans (b8.mono b7.size)
          exact ⟨⟨j + 1, pp, by omega, by go_num, rfl, by rw [HB.out, HC.out]; exact hF.below hbb, s7.below b8, hb.trans (hbb.mono hb.size)⟩, by simp [intOf]; omega⟩
      · have hEn : ¬ (E : Int) = 0 := by omega
        have hnc : ¬ (E = 0 ∧ N % 2 = j) := fun h => hE0 h.1
        have hcn : best (bestTo S a j) (if E = 0 ∧ N % 2 = j then some (N, vl) else none) = bestTo S a j := by rw [if_neg hnc, best_none]
        have HC := Lib.hid hcn
        clear hcn hnc hE0
        go_wp2_with (first
          | (go_at_call 50; (with_reducible refine hrd.mono ?_); rintro e w7 ⟨g7, rfl, hg7, m7, s7, b7⟩; have hup7 := hup w7 g7 m7)
          | (go_at_call 51; (with_reducible refine hup7.mono ?_); rintro e w8 ⟨v8, rfl, o8, b8⟩)
          | (go_at_call 48; (with_reducible refine (hho _).mono ?_); rintro e w9 ⟨rfl, rfl⟩))
        have hbb := b7.trans (b8.mono b7.size)
        exact ⟨⟨j + 1, pp, by omega, by go_num, rfl, by rw [HB.out, HC.out]; exact hF.below hbb, s7.below b8, hb.trans (hbb.mono hb.size)⟩, by simp [intOf]; omega⟩
    · obtain rfl : j = 2 := by omega
      cases hc : bestTo S a 2 with
      | none =>
        rw [hc] at hF
        have hF : pp = .pointer none := hF
        subst hF
        go_wp2
        rw [Exit.noGoto_ret]
        go_ret2
        rw [hc]
        exact ⟨_, rfl, rfl, hb⟩
      | some q =>
        rw [hc] at hF
        obtain ⟨Y, v, rfl, hT⟩ := hF
        go_wp2
        rw [Exit.noGoto_ret]
        go_ret2
        rw [hc]
        exact ⟨_, ⟨Y, v, rfl, hT⟩, rfl, hb⟩
end
end Tw
end Go.Proofs.Ytpfackjnnkjjdaa
