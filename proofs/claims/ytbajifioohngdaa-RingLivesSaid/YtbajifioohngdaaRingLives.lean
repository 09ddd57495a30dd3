/- RingLives: for all lists of bytes and all numbers the statement's function tells true and turns nothing that was there. No condition. -/
import Derived.Test.YtbajifioohngdaaRrM
import Derived.BigQuiet
import Derived.Deep.QuietTactic
namespace Go.Proofs.Ytbajifioohngdaa
open Go.ChangeShapes Go.WideShapes Go.ChangeAt Go.RowKit Go.Lib
set_option linter.unusedVariables false
set_option linter.unusedSimpArgs false
namespace Rg
open Crc Dk
theorem Bd.swap {w W W' : World} {X Y f t n t' n' : Nat} {S : DS} {L : List (List UInt8)} {v v' : Value} {xs xs' : List Value} (h : Bd w W X Y f S L t v n xs) (hb : Below W.heap.size W W') (hr : W'.ownsRow W.heap.size t' 1 v' n' xs') : Bd w W' X Y f S L t' v' n' xs' := by
  obtain ⟨O, R, h1, h2⟩ := h.ex
  have hlt := h1.all_lt
  refine ⟨⟨O, R, h1.below hb, fun q hq => ?_⟩, owns_mono hr h1.dsk.bl.size⟩
  have := (own_tag hr q hq).1
  exact ⟨fun hO => by have := hlt _ (.inl hO); omega, fun hR => by have := hlt _ (.inr hR); omega⟩
theorem got_app (F G : List (List UInt8)) (n i : Nat) (hF : ∀ l ∈ F, l.length ≤ 480) (hG : ∀ l ∈ G.take i, l.length ≤ 480) : (vT 2).got (ls2 F G n i) (ls2 F G n i).length = tL 2 (F.take n ++ G.take i) := by
  rw [tL_got 2 _ (ls2_small hF hG), ls2_map]
theorem pks_get (K k m : Nat) (h : m < k) : (zints (pks K k))[m]? = some (.int .i64 ((kb K m : Nat) : Int)) := by
  unfold zints pks
  rw [List.getElem?_map, List.getElem?_map, List.getElem?_range h]
  rfl
theorem pks_bit (K k : Nat) : ∀ z ∈ pks K k, -9223372036854775808 ≤ z ∧ z ≤ 9223372036854775807 := by
  intro z hz
  obtain ⟨i, _, rfl⟩ := List.mem_map.1 hz
  have : kb K i < 2 := Nat.mod_lt _ (by decide)
  omega
theorem and_kb0 : ∀ K : Fin 256, ∀ i : Fin 6, wrap64 (bits BinOp.and IntKind.u8 ((K.val : Int) / 2 ^ i.val) 1) = ((kb K.val i.val : Nat) : Int) := by decide +kernel
theorem and_kb (K i : Nat) (hK : K ≤ 255) (hi : i < 6) : wrap64 (bits BinOp.and IntKind.u8 ((K : Int) / 2 ^ i) 1) = ((kb K i : Nat) : Int) := and_kb0 ⟨K, by omega⟩ ⟨i, hi⟩
theorem pks_succ (K i : Nat) : pks K (i + 1) = pks K i ++ [((kb K i : Nat) : Int)] := by unfold pks; rw [List.range_succ, List.map_append]; rfl
theorem take_snoc {F : List (List UInt8)} {i : Nat} {l : List UInt8} (h : F[i]? = some l) : F.take (i + 1) = F.take i ++ [l] := by
  obtain ⟨h1, h2⟩ := List.getElem?_eq_some_iff.1 h
  rw [List.take_succ_eq_append_getElem h1, h2]
set_option maxRecDepth 100000 in
theorem walk_out (v0 : Value) (F : List (List UInt8)) (vs : List Value) (K : Int) (v2 : Value) (G : List (List UInt8)) (us : List Value) (w : World) (h0 : Sl w w.heap.size v0 F.length vs) (h2 : Sl w w.heap.size v2 G.length us) (ho : F.length = 0 ∨ 6 < F.length ∨ 6 < G.length) :
    Calls Try.prog 4 #[v0, .int .u8 K, v2] w fun e w' => e = .returned (.bool true) ∧ Below w.heap.size w w' := by
  obtain ⟨A0, c0, rfl, _, _⟩ := h0.form
  obtain ⟨A2, c2, rfl, _, _⟩ := h2.form
  by_cases h1 : F.length = 0
  · have g1 : (F.length : Int) = 0 := by omega
    have g2 : ((F.length : Int) == 0) = true := by simpa using g1
    have g3 : F = [] := List.eq_nil_of_length_eq_zero h1
    clear ho h0
    subst g3
    go_enter Try.func4, Try.ntmps4
    go_wp2_with (go_at_call 6; refine (known_any _).mono ?_; rintro e w1 ⟨rfl, hb1⟩)
    go_ret
    exact ⟨rfl, hb1⟩
  have g1 : ¬ (F.length : Int) = 0 := by omega
  have g2 : ((F.length : Int) == 0) = false := by simpa using g1
  have g3 : F ≠ [] := by rintro rfl; exact h1 rfl
  by_cases h3 : 6 < F.length
  · have g4 : (6 : Int) < (F.length : Int) := by omega
    clear ho
    go_enter Try.func4, Try.ntmps4
    go_wp2_with (go_at_call 6; refine (known_any _).mono ?_; rintro e w1 ⟨rfl, hb1⟩)
    go_ret
    exact ⟨rfl, hb1⟩
  · have g4 : ¬ (6 : Int) < (F.length : Int) := by omega
    have g5 : (6 : Int) < (G.length : Int) := by omega
    clear ho
    go_enter Try.func4, Try.ntmps4
    go_wp2_with (go_at_call 6; refine (known_any _).mono ?_; rintro e w1 ⟨rfl, hb1⟩)
    go_ret
    exact ⟨rfl, hb1⟩
set_option maxRecDepth 100000 in
set_option maxHeartbeats 8000000 in
theorem walk_in (v0 : Value) (F : List (List UInt8)) (vs : List Value) (K : Nat) (v2 : Value) (G : List (List UInt8)) (us : List Value) (w : World) (h0 : Sl w w.heap.size v0 F.length vs) (hr0 : Rows2 w w.heap.size vs F) (hK : K ≤ 255) (h2 : Sl w w.heap.size v2 G.length us) (hr2 : Rows2 w w.heap.size us G) (hF0 : F.length ≠ 0) (hF6 : F.length ≤ 6) (hG6 : G.length ≤ 6) :
    Calls Try.prog 4 #[v0, .int .u8 (K : Nat), v2] w fun e w' => e = .returned (.bool true) ∧ Below w.heap.size w w' := by
  obtain ⟨i1, hi1, hy0, hy1, hy2⟩ := info_parts tb_info
  obtain ⟨i2, hi2, hq0, hq1, hq2⟩ := info_parts int_info
  obtain ⟨A0, c0, rfl, hc01, hc02⟩ := h0.form
  obtain ⟨A2, c2, rfl, _, _⟩ := h2.form
  have g1 : ¬ (F.length : Int) = 0 := by omega
  have g2 : ((F.length : Int) == 0) = false := by simpa using g1
  have g3 : F ≠ [] := by rintro rfl; exact hF0 rfl
  have g4 : (F.length : Int) ≤ 6 := by omega
  have g5 : (G.length : Int) ≤ 6 := by omega
  have hvl : vs.length = F.length := h0.len_eq
  have hul : us.length = G.length := h2.len_eq
  have cNew : ∀ W, Below w.heap.size w W → Calls Try.prog 7 #[.int .i64 12] W fun e w' => ∃ X O, e = .returned (.tuple #[.pointer (some ⟨X, 0, none⟩), .int .i64 0]) ∧ Dsk w w' X O (DS.new 12) := fun W hW => (d_new (o := w) 12 (by decide) (by decide) hW).mono fun e w' ⟨X, O, h1, h2, _⟩ => ⟨X, O, h1, h2⟩
  have cOpen : ∀ W X O, Dsk w W X O (DS.new 12) → Calls Try.prog 8 #[.pointer (some ⟨X, 0, none⟩), .int .i64 0, .int .i64 12, .int .u64 1, .int .i64 0, .int .u32 1] W fun e w' => ∃ Y v R, e = .returned (.tuple #[.pointer (some ⟨Y, 0, none⟩), v, .int .i64 0]) ∧ Rng w w' X O (DS.new 12) Y R (RS.new 0 12 1 1 0) ∧ (∀ k, R k → W.heap.size ≤ k) ∧ (∃ A c, v = .slice A 0 c) ∧ Below W.heap.size W w' := fun W X O h => open_blank 12 (by decide) h 0 12 1 1 0 (by decide) (by decide) (by decide) (by decide) (by decide)
  have HF0 := Lib.hid hF0
  have HF6 := Lib.hid hF6
  have HG6 := Lib.hid hG6
  have HK := Lib.hid hK
  have hKx : (K : Int) ≤ 255 := by omega
  clear hF0 hF6 hG6 hK
  go_enter Try.func4, Try.ntmps4
  go_wp2_with (first
    | (go_at_call 6; refine (known_any _).mono ?_; rintro e w1 ⟨rfl, hb1⟩)
    | (go_at_call 7; (with_reducible refine (cNew _ hb1).mono ?_); rintro e w2 ⟨X, O, rfl, s2⟩)
    | (go_at_call 8; (with_reducible refine (cOpen _ _ _ s2).mono ?_); rintro e w3 ⟨Y, v3, R, rfl, r3, hR3, ⟨A3, c3, rfl⟩, b3⟩))
  have hbd : Bd w w3 X Y 1 (DS.new 12) (F.take 0) 3 (.slice none 0 0) 0 [] := ⟨⟨O, R, r3, fun q hq => by cases hq⟩, World.ownsRow_nil _ _ _ _⟩
  go_loopw [12, 13] (fun s12 s13 wr => ∃ (i : Nat) (S : DS) (A : Option Addr) (c : Nat), i ≤ F.length ∧ s12 = .slice A i c ∧ s13 = .int .i64 (i : Nat) ∧ Hid (∀ l ∈ F.take i, l.length ≤ 480) ∧ W1 S F i ∧ Bd w wr X Y 1 S (F.take i) 3 (.slice A i c) i (zints (pks K i))) (fun _ s13 _ => F.length - (intOf s13).toNat)
  case atStart => exact ⟨0, DS.new 12, none, 0, Nat.zero_le _, rfl, rfl, Lib.hid (by simp), W1.start F, hbd⟩
  case round =>
    obtain ⟨i, S, A, c, hi, rfl, rfl, HS, hW, hB⟩ := hrel
    have hbl := hB.bl
    by_cases hil : i < F.length
    · have hix : (i : Int) < (F.length : Int) := by omega
      obtain ⟨b1, o1, rfl, hb1l, hcell⟩ := h0.at_ (by omega)
      obtain ⟨u, hu⟩ : ∃ u, vs[i]? = some u := ⟨_, List.getElem?_eq_getElem (by omega)⟩
      obtain ⟨l, hl⟩ : ∃ l, F[i]? = some l := ⟨_, List.getElem?_eq_getElem hil⟩
      have hcA : ∀ W, Below w.heap.size w W → W.cell? ⟨b1, o1 + i, none⟩ = some u := fun W hW => (hW.cell (p := ⟨b1, o1 + i, none⟩) hb1l).trans (hcell i u hu)
      have hsu : Sl w w.heap.size u l.length (bs l) := by
        have := hr0.2 i (by omega) hil
        rw [(List.getElem?_eq_some_iff.1 hu).2, (List.getElem?_eq_some_iff.1 hl).2] at this
        exact this
      obtain ⟨Au, cu, rfl, _, _⟩ := hsu.form
      have y1 := hcA wr hbl
      by_cases hl480 : l.length ≤ 480
      · have hlx : ¬ (480 : Int) < (l.length : Int) := by omega
        have hap := hB.app hW.up hW.len (by rw [hW.wtg]; have := HF6.out; omega) (by rw [hW.calls]; have := HF6.out; omega) (by rw [List.length_take]; have := HF6.out; omega) hsu hl480
        have hi6 : i < 6 := by have := HF6.out; omega
        have HKB := Lib.hid (and_kb K i HK.out hi6)
        have hnext : apS S (tL 1 (F.take i)) l 1 = S.wr i (one F i) := by
          have hlt : (F.take i).length = i := by rw [List.length_take]; omega
          show S.wr ((vT 1).sec ((F.take i).length + 0)) (rgS (1 + (F.take i).length) 1 0 (need l.length) (chunk l 0)) = _
          rw [hlt, Nat.add_zero, vT_sec 1 i (by omega), need_one hl480, chunk_one hl480]
          unfold one
          rw [hl]
          rfl
        have hW' := hW.next (by omega)
        rw [hnext, ← take_snoc hl] at hap
        have HS' : Hid (∀ l ∈ F.take (i + 1), l.length ≤ 480) := Lib.hid (by
          intro m hm
          rw [take_snoc hl, List.mem_append, List.mem_singleton] at hm
          rcases hm with hm | rfl
          · exact HS.out m hm
          · exact hl480)
        have hzi : zints (pks K (i + 1)) = zints (pks K i) ++ [.int .i64 ((kb K i : Nat) : Int)] := by rw [pks_succ]; simp [zints]
        have hi100 : i + 1 ≤ 100 := by omega
        go_wp2_with (first
          | (go_at_call 11; (with_reducible refine hap.mono ?_); rintro e w4 ⟨x4, rfl, hB4⟩; have hrw := owns_below hB4.row ((Below.refl _ w4).alloc (Nat.le_refl _) (.cells #[Value.int IntKind.i64 (wrap64 (bits BinOp.and IntKind.u8 ((K : Int) / 2 ^ i) 1))] 3)); have hsz := hB4.bl.size)
          | (at_builtin; (refine wpList_append_at _ rfl (.tmp 69) (.tmp 76) _ rfl w.heap.size 3 i2 _ 1 8 Try.underlying34 hi2 hq0 hq1 hq2 rfl (by decide) (.slice A i c) i (zints (pks K i)) rfl hrw ⟨w4.heap.size, 0, none⟩ 1 1 [.int .i64 (wrap64 (bits BinOp.and IntKind.u8 ((K : Int) / 2 ^ i) 1))] rfl rfl (cells_one (Mem.new w4 _ _)) (by simp [Value.oneCell']) (by unfold maxLen; omega) (by omega) (Nat.le_trans hsz ((Below.refl w4.heap.size w4).alloc (Nat.le_refl _) _).size) ?_); intro v6 w6 ho6 hg6 hat6; rw [HKB.out, ← hzi] at ho6; have hB6 := hB4.push ((Below.refl _ w4).alloc (Nat.le_refl _) _) hg6 ho6 hat6; obtain ⟨A6, c6, rfl, _, _⟩ := own_form ho6))
        exact ⟨⟨i + 1, S.wr i (one F i), A6, c6, hil, rfl, by go_num, HS', hW', hB6⟩, by simp [intOf]; omega⟩
      · have hlx : (480 : Int) < (l.length : Int) := by omega
        go_wp2
        go_ret
        exact ⟨rfl, hbl⟩
    · obtain rfl : i = F.length := by omega
      have hFs : ∀ l ∈ F, l.length ≤ 480 := by have := HS.out; rwa [List.take_length] at this
      rw [List.take_length] at hB
      obtain ⟨n, hcut⟩ := cut_exists F K
      have hnF := hcut.le
      have hf6 := HF6.out
      have hg6 := HG6.out
      have hf0 := HF0.out
      obtain ⟨b1, o1, rfl, hb1l, hcell⟩ := h0.at_ (by omega)
      have hlen3 : (vOn (S.crashed (pks K F.length))).last.length = 12 := by
        show (fell _ _ _ _ _).length = 12
        rw [fell_len]; exact hW.len
      have cCr := hB.disk.crash hW.up.off (by rw [hW.wtg]; omega) (.slice A F.length c) (pks K F.length) (pks_bit K _) (by rw [pks_len]; exact Sl.of_own hB.row) (.inl rfl)
      have cOn := fun W (h : Bk w W X (S.crashed (pks K F.length)) 3 (.slice A F.length c) F.length (zints (pks K F.length))) => h.on
      have hln : (F.take n).length = n := by rw [List.length_take]; omega
      have cOp : ∀ W, Bk w W X (vOn (S.crashed (pks K F.length))) 3 (.slice A F.length c) F.length (zints (pks K F.length)) → Calls Try.prog 8 #[.pointer (some ⟨X, 0, none⟩), .int .i64 0, .int .i64 12, .int .u64 1, .int .i64 0, .int .u32 2] W fun e w' => ∃ Y A7 c7, e = .returned (.tuple #[.pointer (some ⟨Y, 0, none⟩), .slice A7 n c7, .int .i64 0]) ∧ Bd w w' X Y 2 (vOn (S.crashed (pks K F.length))) (F.take n) 3 (.slice A F.length c) F.length (zints (pks K F.length)) := by
        intro W h
        refine (h.opens hW.up.dead rfl (Nat.zero_le _) hlen3 2 (by decide) (ls1 F n) (ls1_small hFs) (hW.lay hf6 hFs hcut)).mono ?_
        rintro e w' ⟨Y, v', D, h1, h2, h3, _⟩
        rw [ls1_map] at h2 h3
        have h4 := h3.row
        rw [hln] at h4
        obtain ⟨A7, c7, rfl, _, _⟩ := own_form h4
        exact ⟨Y, A7, c7, h1, h2⟩
      have hnx : (n : Int) ≤ 6 := by omega
      have hst := W2.start (G := G) hW hf6 hFs hcut
      have HC := Lib.hid hcut
      have HFS := Lib.hid hFs
      have HNF := Lib.hid hnF
      clear hf6 hg6 hf0 hcut hFs hlen3 hln hnF
      go_wp2_with (first
        | (go_at_call 15; (with_reducible refine cCr.mono ?_); rintro e w4 ⟨rfl, k4⟩; have cOn4 := cOn _ k4)
        | (go_at_call 16; (with_reducible refine cOn4.mono ?_); rintro e w5 ⟨rfl, k5⟩; have cOp5 := cOp _ k5)
        | (go_at_call 8; (with_reducible refine cOp5.mono ?_); rintro e w7 ⟨Y7, A7, c7, rfl, hB7⟩))
      obtain ⟨gp, op, rfl, _, hcp⟩ := (Sl.of_own hB7.row).at_ (by have := HF0.out; omega)
      go_loopw [17] (fun s17 wr => ∃ m : Nat, m ≤ n ∧ s17 = .int .i64 (m : Nat) ∧ w7 = wr) (fun s17 _ => n - (intOf s17).toNat)
      case atStart => exact ⟨0, Nat.zero_le _, rfl, rfl⟩
      case round =>
        obtain ⟨m, hm, rfl, rfl⟩ := hrel
        have hcut := HC.out
        have hnF := HNF.out
        by_cases hmn : m < n
        · have hmx : (m : Int) < (F.length : Int) := by omega
          have hkb := hcut.kept m hmn
          have hcm := hcp m _ (pks_get K F.length m (by omega))
          rw [hkb] at hcm
          have hcm : w7.cell? ⟨gp, op + m, none⟩ = some (.int .i64 1) := hcm
          clear hcut hkb
          go_wp2
          exact ⟨⟨m + 1, hmn, by go_num, by trivial⟩, by simp [intOf]; omega⟩
        · obtain rfl : m = n := by omega
          have hex : ¬ (m : Int) < (F.length : Int) ∨ ((m : Int) < (F.length : Int) ∧ w7.cell? ⟨gp, op + m, none⟩ = some (.int .i64 0)) := by
            rcases hcut.end_ with h1 | h1
            · exact .inl (by omega)
            · by_cases h3 : m < F.length
              · refine .inr ⟨by omega, ?_⟩
                have hcm := hcp m _ (pks_get K F.length m h3)
                have h4 : kb K m = 0 := by have : kb K m < 2 := Nat.mod_lt _ (by decide); omega
                rw [h4] at hcm
                exact hcm
              · exact .inl (by omega)
          clear hcut
          have hvF : ∀ (k : Nat) (u : Value) (l : List UInt8), vs[k]? = some u → F[k]? = some l → Sl w w.heap.size u l.length (bs l) := by
            intro k u l hu hl
            have h1 := (List.getElem?_eq_some_iff.1 hu).1
            have h2 := (List.getElem?_eq_some_iff.1 hl).1
            have h3 := hr0.2 k h1 h2
            rw [(List.getElem?_eq_some_iff.1 hu).2, (List.getElem?_eq_some_iff.1 hl).2] at h3
            exact h3
          have hvG : ∀ (k : Nat) (u : Value) (l : List UInt8), us[k]? = some u → G[k]? = some l → Sl w w.heap.size u l.length (bs l) := by
            intro k u l hu hl
            have h1 := (List.getElem?_eq_some_iff.1 hu).1
            have h2 := (List.getElem?_eq_some_iff.1 hl).1
            have h3 := hr2.2 k h1 h2
            rw [(List.getElem?_eq_some_iff.1 hu).2, (List.getElem?_eq_some_iff.1 hl).2] at h3
            exact h3
          have hone : ∀ u ∈ vs.take m, u.oneCell' = true := by
            intro u hu
            obtain ⟨k, hk⟩ := List.mem_iff_getElem?.1 (List.mem_of_mem_take hu)
            have hkl := (List.getElem?_eq_some_iff.1 hk).1
            obtain ⟨A, c, rfl, _, _⟩ := (hvF k u _ hk (List.getElem?_eq_getElem (by omega))).form
            rfl
          have hvt : (vs.take m).length = m * 1 := by rw [List.length_take]; omega
          have hbl7 := hB7.bl
          have hcel : ∀ (ob : Obj) (ad : Addr), some (⟨b1, o1, none⟩ : Addr) = some ad → ∀ j u, (vs.take m)[j]? = some u → (w7.alloc ob).cell? (ad.add j) = some u := by
            intro ob ad had j u hj
            obtain rfl := Option.some.inj had
            rw [add_plain, List.getElem?_take] at *
            split at hj
            · exact ((hbl7.alloc hbl7.size ob).cell (p := ⟨b1, o1 + j, none⟩) hb1l).trans (hcell j u hj)
            · cases hj
          have hba7 := ((Below.refl w7.heap.size w7).alloc (Nat.le_refl _) (.cells #[] 39)).size
          have hm63 : m ≤ maxLen := by unfold maxLen; omega
          have hmF : (m : Int) ≤ (F.length : Int) := by omega
          have hmc : (m : Int) ≤ (c0 : Int) := by omega
          have hmb : m * 24 ≤ 140737488355328 := by omega
          rcases hex with hx | ⟨hx, hcm⟩
          all_goals
            go_wp2_with (at_builtin; (refine wpList_append_empty _ rfl (.tmp 110) (.tmp 113) _ rfl w7.heap.size 39 i1 _ 1 24 Try.underlying29 hi1 hy0 hy1 hy2 rfl (by decide) w7.heap.size rfl (heap_alloc_new w7 _) (Nat.le_refl _) (some ⟨b1, o1, none⟩) m c0 (vs.take m) rfl hvt (hcel _) (fun h => by cases h) hone hm63 hmb hba7 ?_); intro v8 w8 ho8 hb8; have hB8 := hB7.swap (((Below.refl w7.heap.size w7).alloc (Nat.le_refl _) _).trans (hb8.mono hba7)) ho8; obtain ⟨A8, c8, rfl, _, _⟩ := own_form ho8)
            have hB8' : Bd w w8 X Y7 2 (vOn (S.crashed (pks K F.length))) (F.take m ++ G.take 0) 39 (.slice A8 (m + 0) c8) (m + 0) (vs.take m ++ us.take 0) := by simpa using hB8
            go_loopw [18, 19] (fun s18 s19 wr => ∃ (i : Nat) (S4 : DS) (A : Option Addr) (c : Nat), i ≤ G.length ∧ s18 = .slice A (m + i) c ∧ s19 = .int .i64 (i : Nat) ∧ Hid (∀ l ∈ G.take i, l.length ≤ 480) ∧ W2 S4 (vOn (S.crashed (pks K F.length))) F G m i ∧ Bd w wr X Y7 2 S4 (F.take m ++ G.take i) 39 (.slice A (m + i) c) (m + i) (vs.take m ++ us.take i)) (fun _ s19 _ => G.length - (intOf s19).toNat)
            case atStart => exact ⟨0, _, A8, c8, Nat.zero_le _, rfl, rfl, Lib.hid (by simp), hst, hB8'⟩
            case round =>
              obtain ⟨i, S4, A, c, hi, rfl, rfl, HG, hW2, hB4⟩ := hrel
              have hbl := hB4.bl
              have hg6 := HG6.out
              have hf6 := HF6.out
              by_cases hig : i < G.length
              · have hix : (i : Int) < (G.length : Int) := by omega
                have hi12 : (m : Int) + (i : Int) < 12 := by omega
                obtain ⟨b2, o2, rfl, hb2l, hcell2⟩ := h2.at_ (by omega)
                obtain ⟨u, hu⟩ : ∃ u, us[i]? = some u := ⟨_, List.getElem?_eq_getElem (by omega)⟩
                obtain ⟨l, hl⟩ : ∃ l, G[i]? = some l := ⟨_, List.getElem?_eq_getElem hig⟩
                have hcA : ∀ W, Below w.heap.size w W → W.cell? ⟨b2, o2 + i, none⟩ = some u := fun W hW => (hW.cell (p := ⟨b2, o2 + i, none⟩) hb2l).trans (hcell2 i u hu)
                have hsu := hvG i u l hu hl
                obtain ⟨Au, cu, rfl, _, _⟩ := hsu.form
                have y1 := hcA wr hbl
                by_cases hl480 : l.length ≤ 480
                · have hlx : ¬ (480 : Int) < (l.length : Int) := by omega
                  have hap := hB4.app hW2.up hW2.len (by have := hW2.wtg; omega) (by have := hW2.calls; omega) (by rw [List.length_append, List.length_take, List.length_take]; omega) hsu hl480
                  have hW2' := hW2.next HFS.out hnF (by omega) hl (by omega) HG.out hl480
                  rw [got_app F G m i HFS.out HG.out] at hW2'
                  rw [show F.take m ++ G.take i ++ [l] = F.take m ++ G.take (i + 1) by rw [take_snoc hl, List.append_assoc]] at hap
                  have HG' : Hid (∀ l ∈ G.take (i + 1), l.length ≤ 480) := Lib.hid (by
                    intro q hq
                    rw [take_snoc hl, List.mem_append, List.mem_singleton] at hq
                    rcases hq with hq | rfl
                    · exact HG.out q hq
                    · exact hl480)
                  have hus : vs.take m ++ us.take i ++ [.slice Au l.length cu] = vs.take m ++ us.take (i + 1) := by
                    obtain ⟨h3, h4⟩ := List.getElem?_eq_some_iff.1 hu
                    rw [List.take_succ_eq_append_getElem h3, h4, List.append_assoc]
                  have hmi : (m : Int) + (i : Int) + 1 ≤ 100 := by omega
                  have hmi2 : m + i + 1 ≤ 100 := by omega
                  have hmi3 : (m + i + 1) * 24 ≤ 140737488355328 := by omega
                  have hmi4 : m + i + 1 ≤ maxLen := by unfold maxLen; omega
                  clear hg6 hf6
                  go_wp2_with (first
                    | (go_at_call 11; (with_reducible refine hap.mono ?_); rintro e w9 ⟨x9, rfl, hB9⟩; have y2 := hcA w9 hB9.bl; have hrw := owns_below hB9.row ((Below.refl _ w9).alloc (Nat.le_refl _) (.cells #[Value.slice Au l.length cu] 39)); have hsz := Nat.le_trans hB9.bl.size ((Below.refl w9.heap.size w9).alloc (Nat.le_refl _) (.cells #[Value.slice Au l.length cu] 39)).size)
                    | (at_builtin; (refine wpList_append_at _ rfl (.tmp 144) (.tmp 149) _ rfl w.heap.size 39 i1 _ 1 24 Try.underlying29 hi1 hy0 hy1 hy2 rfl (by decide) (.slice A (m + i) c) (m + i) (vs.take m ++ us.take i) rfl hrw ⟨w9.heap.size, 0, none⟩ 1 1 [.slice Au l.length cu] rfl rfl (cells_one (Mem.new w9 _ _)) (by simp [Value.oneCell']) hmi4 hmi3 hsz ?_); intro v10 w10 ho10 hg10 hat10; rw [hus] at ho10; have hB10 := hB9.push ((Below.refl _ w9).alloc (Nat.le_refl _) _) hg10 ho10 hat10; obtain ⟨A10, c10, rfl, _, _⟩ := own_form ho10))
                  exact ⟨⟨i + 1, _, A10, c10, hig, rfl, by go_num, HG', hW2', hB10⟩, by simp [intOf]; omega⟩
                · have hlx : (480 : Int) < (l.length : Int) := by omega
                  clear hg6 hf6
                  go_wp2
                  go_ret
                  exact ⟨rfl, hbl⟩
              · obtain rfl : i = G.length := by omega
                have hG : ∀ l ∈ G, l.length ≤ 480 := by have := HG.out; rwa [List.take_length] at this
                have hlay := hW2.last hW hf6 HFS.out hG hg6 HC.out
                have hus2 : us.take G.length = us := by rw [← hul, List.take_length]
                rw [hus2, List.take_length] at hB4
                obtain ⟨N, hN⟩ : ∃ N, F.take m ++ G = N := ⟨_, rfl⟩
                obtain ⟨ws, hws⟩ : ∃ ws, vs.take m ++ us = ws := ⟨_, rfl⟩
                have hpair : ∀ (k : Nat) (u : Value) (l : List UInt8), ws[k]? = some u → N[k]? = some l → Sl w w.heap.size u l.length (bs l) := by
                  intro k u l hu hl
                  rw [← hws] at hu
                  rw [← hN] at hl
                  have h3 : (vs.take m).length = m := by rw [List.length_take]; omega
                  have h4 : (F.take m).length = m := by rw [List.length_take]; omega
                  by_cases hk : k < m
                  · rw [List.getElem?_append_left (by omega), List.getElem?_take, if_pos hk] at hu hl
                    exact hvF k u l hu hl
                  · rw [List.getElem?_append_right (by omega)] at hu hl
                    rw [h3] at hu
                    rw [h4] at hl
                    exact hvG (k - m) u l hu hl
                have hNl : N.length = m + G.length := by rw [← hN, List.length_append, List.length_take]; omega
                obtain ⟨a, ha⟩ : ∃ a, m + G.length = a := ⟨_, rfl⟩
                rw [hN, hws, ha] at hB4
                rw [ha] at hNl
                have hax : (m : Int) + (G.length : Int) = (a : Int) := by omega
                have ha12 : (a : Int) ≤ 12 := by omega
                have hlen7 : (vOn (S4.flushed.crashed [])).last.length = 12 := by
                  show (fell _ _ _ _ _).length = 12
                  rw [fell_len]
                  show (flsh _ _ _ _).length = 12
                  rw [flsh_len]; exact hW2.len
                have cFl := hB4.flush hW2.up (by have := hW2.wtg; omega) (by have := hW2.calls; omega)
                have cCr := fun W (h : Bk w W X S4.flushed 39 (.slice A a c) a ws) => h.crash hW2.up.off (Nat.zero_le _) (.slice none 0 0) [] (by simp) Sl.nil_ (.inr rfl)
                have cOn := fun W (h : Bk w W X (S4.flushed.crashed []) 39 (.slice A a c) a ws) => h.on
                have cOp : ∀ W, Bk w W X (vOn (S4.flushed.crashed [])) 39 (.slice A a c) a ws → Calls Try.prog 8 #[.pointer (some ⟨X, 0, none⟩), .int .i64 0, .int .i64 12, .int .u64 1, .int .i64 0, .int .u32 3] W fun e w' => ∃ Y B d D, e = .returned (.tuple #[.pointer (some ⟨Y, 0, none⟩), .slice B a d, .int .i64 0]) ∧ w'.ownsRow w.heap.size 39 1 (.slice A a c) a ws ∧ w'.ownsRow w.heap.size 39 1 (.slice B a d) a D ∧ (∀ (k : Nat) (u : Value) (l : List UInt8), D[k]? = some u → N[k]? = some l → w'.ownsRow w.heap.size 5 1 u l.length (bs l)) ∧ Below w.heap.size w w' := by
                  intro W h
                  refine (h.opens hW2.up.dead rfl (Nat.zero_le _) hlen7 3 (by decide) (ls2 F G m G.length) (ls2_small HFS.out (fun l hl => hG l (List.mem_of_mem_take hl))) hlay).mono ?_
                  rintro e w' ⟨Y, v', D, h1, h2, h3, _⟩
                  rw [ls2_map, List.take_length, hN] at h3
                  have h4 := owns_mono h3.row h.bl.size
                  rw [hNl] at h4
                  obtain ⟨B, d, rfl, _, _⟩ := own_form h4
                  exact ⟨Y, B, d, D, h1, h2.row, h4, fun k u l hu hl => owns_mono (h3.dat k u l hu hl) h.bl.size, h2.bl⟩
                clear hlen7 hlay hN hws
                have HNL := Lib.hid hNl
                have HA := Lib.hid ha
                clear hNl ha hg6 hf6
                go_wp2_with (first
                  | (go_at_call 17; (with_reducible refine cFl.mono ?_); rintro e w9 ⟨rfl, k9⟩; have cCr9 := cCr _ k9)
                  | (go_at_call 15; (with_reducible refine cCr9.mono ?_); rintro e w10 ⟨rfl, k10⟩; have cOn10 := cOn _ k10)
                  | (go_at_call 16; (with_reducible refine cOn10.mono ?_); rintro e w11 ⟨rfl, k11⟩; have cOp11 := cOp _ k11)
                  | (go_at_call 8; (with_reducible refine cOp11.mono ?_); rintro e w13 ⟨Y13, B13, d13, D13, rfl, oA, oB, oD, bl13⟩))
                all_goals
                  go_loopw [25] (fun s25 wr => ∃ k : Nat, k ≤ a ∧ s25 = .int .i64 (k : Nat) ∧ Below w13.heap.size w13 wr) (fun s25 _ => a - (intOf s25).toNat)
                  case atStart => exact ⟨0, Nat.zero_le _, rfl, Below.refl _ _⟩
                  case round =>
                    obtain ⟨k, hk, rfl, hb⟩ := hrel
                    by_cases hka : k < a
                    · have hkx : (k : Int) < (a : Int) := by omega
                      obtain ⟨p1, q1, rfl, hp1, hc1⟩ := (Sl.of_own oB).at_ (by omega)
                      obtain ⟨p2, q2, rfl, hp2, hc2⟩ := (Sl.of_own oA).at_ (by omega)
                      obtain ⟨u1, hu1⟩ : ∃ u, D13[k]? = some u := ⟨_, List.getElem?_eq_getElem (by have := oB.1; omega)⟩
                      obtain ⟨u2, hu2⟩ : ∃ u, ws[k]? = some u := ⟨_, List.getElem?_eq_getElem (by have := oA.1; omega)⟩
                      obtain ⟨l, hl⟩ : ∃ l, N[k]? = some l := ⟨_, List.getElem?_eq_getElem (by have := HNL.out; omega)⟩
                      have y1 : wr.cell? ⟨p1, q1 + k, none⟩ = some u1 := (hb.cell (p := ⟨p1, q1 + k, none⟩) hp1).trans (hc1 k u1 hu1)
                      have y2 : wr.cell? ⟨p2, q2 + k, none⟩ = some u2 := (hb.cell (p := ⟨p2, q2 + k, none⟩) hp2).trans (hc2 k u2 hu2)
                      have ho1 := owns_below (oD k u1 l hu1 hl) hb
                      have hs2 := (hpair k u2 l hu2 hl).now (bl13.trans (hb.mono bl13.size))
                      obtain ⟨E1, e1, rfl, _, _⟩ := own_form ho1
                      obtain ⟨E2, e2, rfl, _, _⟩ := hs2.form
                      have cv1 : ∀ q, (convert 39 9 (.slice E1 l.length e1)).run Try.prog (wr.drewN q) = .ok (.string ⟨l.toArray⟩) (wr.drewN q) := fun q => str ((Sl.of_own ho1).drewN q)
                      have cv2 : ∀ q, (convert 39 9 (.slice E2 l.length e2)).run Try.prog (wr.drewN q) = .ok (.string ⟨l.toArray⟩) (wr.drewN q) := fun q => str (hs2.drewN q)
                      clear hu1 hu2 hl hc1 hc2 ho1 hs2
                      go_wp2
                      go_quiet (fail)
                      go_wp2
                      exact ⟨⟨k + 1, hka, by go_num, below_drewN hb _⟩, by simp [intOf]; omega⟩
                    · obtain rfl : k = a := by omega
                      go_wp2
                      go_ret
                      exact ⟨rfl, bl13.trans (hb.mono bl13.size)⟩
theorem walk (v0 : Value) (F : List (List UInt8)) (vs : List Value) (K : Int) (v2 : Value) (G : List (List UInt8)) (us : List Value) (w : World) (h0 : Sl w w.heap.size v0 F.length vs) (hr0 : Rows2 w w.heap.size vs F) (_ : 0 ≤ K) (_ : K ≤ 255) (h2 : Sl w w.heap.size v2 G.length us) (hr2 : Rows2 w w.heap.size us G) :
    Calls Try.prog 4 #[v0, .int .u8 K, v2] w fun e w' => e = .returned (.bool true) ∧ Below w.heap.size w w' := by
  by_cases ho : F.length = 0 ∨ 6 < F.length ∨ 6 < G.length
  · exact walk_out v0 F vs K v2 G us w h0 h2 ho
  · obtain ⟨k, rfl⟩ : ∃ k : Nat, K = k := ⟨K.toNat, by omega⟩
    exact walk_in v0 F vs k v2 G us w h0 hr0 (by omega) h2 hr2 (by omega) (by omega) (by omega)
set_option maxRecDepth 100000 in
theorem lifted (os : Os) (started : os.Started) (H : Type) (enc : TypeId × Value → H) :
    ReturnsInHanded {} Try.checked os 4 .any (Rows.ringLivesSpec.pre6 enc Try.prog Try.f4 Rows.ringLivesRow.domain false) (Rows.ringLivesSpec.post enc Try.prog Try.f4 false true false false) := by
  refine returnsInHanded_of_change (C := Try.checked) own started (by kernel_rfl) Try.func4
    (ChangeSpec.witness6 (enc := enc) (C := Try.checked) false ⟨#[], #[.slice none 0 0, .int .u8 0, .slice none 0 0], []⟩ 8 (by kernel_rfl) (by kernel_rfl) (by kernel_rfl) (by kernel_rfl)) ?_
  intro W base args ds gs before hval0 hW hcnd _
  have hval : ∀ (j : Nat) t v, Try.f4.params[j]? = some t → args[j]? = some v → Value.okWide Try.prog W .any base t v := hval0
  have hW' := hW
  obtain ⟨p, q, hA0, hV, rfl, hfz, hnd⟩ := hW
  have hA : DataW.TrodAll enc Try.prog W 0 (fun _ => true) true Try.f4.params.toList args.toList ds p := hA0
  rw [Try.params4] at hA hval
  obtain ⟨v0, vs0, d0, ds0, p0, q0, hargs, rfl, rfl, h0, r0⟩ := trodAll_cons hA
  obtain ⟨v1, vs1, d1, ds1, p1, q1, rfl, rfl, rfl, h1, r1⟩ := trodAll_cons r0
  obtain ⟨v2, vs2, d2, ds2, p2, q2, rfl, rfl, rfl, h2, r2⟩ := trodAll_cons r1
  obtain ⟨rfl, rfl, rfl⟩ := trodAll_nil r2
  obtain rfl : args = #[v0, v1, v2] := by cases args; simp_all
  obtain ⟨rfl, rfl⟩ := trodVars_none hV
  obtain ⟨L0, vs0x, s0, u0⟩ := open_bytess Try.underlying29 (by kernel_rfl) Try.underlying39 Try.underlying5 (by kernel_rfl) (hval 0 29 v0 rfl rfl) h0
  obtain ⟨a1, rfl, _, _, w1⟩ := open_int Try.underlying5 (hval 1 5 v1 rfl rfl) h1
  have b1 := bounds_u8 w1
  obtain ⟨L2, vs2x, s2, u2⟩ := open_bytess Try.underlying29 (by kernel_rfl) Try.underlying39 Try.underlying5 (by kernel_rfl) (hval 2 29 v2 rfl rfl) h2
  refine (walk v0 L0 vs0x a1 v2 L2 vs2x W s0 u0 b1.1 b1.2 s2 u2).mono fun e W' ⟨he, hb⟩ => ?_
  subst he
  exact ⟨_, rfl, law_post laidOut (by kernel_rfl) rfl (by kernel_rfl) Try.underlying4 rfl rfl rfl hW' hb⟩

theorem proved : Rows.RingLivesSaid :=
  OpenClaim.holds_of_wide 4 Try.f4 rfl rfl rfl rfl rfl rfl rfl ⟨rfl, rfl, rfl, rfl, rfl⟩ rfl rfl rfl rfl rfl (by kernel_rfl) Try.func4 (by kernel_rfl)
    (of_decide_eq_true (by kernel_rfl)) (by unfold Func.isWrapper; first | (rw [if_pos (by decide +kernel)]; kernel_rfl) | (rw [if_neg (by decide +kernel)]; exact ⟨rfl, rfl⟩))
    (fun os started H enc _ => lifted os started H enc)
end Rg
end Go.Proofs.Ytbajifioohngdaa
