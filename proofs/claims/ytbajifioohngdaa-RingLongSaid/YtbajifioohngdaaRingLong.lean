/- RingLong: for all numbers the statement's function tells true and turns nothing that was there. No condition. -/
import Derived.Test.YtbajifioohngdaaRrK
namespace Go.Proofs.Ytbajifioohngdaa
open Go.ChangeShapes Go.WideShapes Go.ChangeAt Go.RowKit Go.Lib
set_option linter.unusedVariables false
set_option linter.unusedSimpArgs false
namespace Rg
open Crc Dk
theorem Rng.effN {o w w' : World} {X Y : Nat} {O R : Nat → Prop} {S : DS} {T : RS} {Q : Nat → Prop} (h : Rng o w X O S Y R T) (he : Eff Q w w') (hQ : ∀ k, k < w.heap.size → O k ∨ R k → ¬ Q k) (hb : ∀ k, k < w.heap.size → Q k → o.heap.size ≤ k) : Rng o w' X O S Y R T := by
  obtain ⟨rv, D, hM⟩ := h.is
  exact ⟨h.dsk.effN he (fun k hk hO => hQ k hk (.inl hO)) hb, ⟨rv, D, hM.eff he fun k hk hR => hQ k hk (.inr hR)⟩, h.ok, h.from_, h.no⟩
theorem Rng.lt {o w : World} {X Y : Nat} {O R : Nat → Prop} {S : DS} {T : RS} (h : Rng o w X O S Y R T) : ∀ k, O k ∨ R k → k < w.heap.size := by
  obtain ⟨rv, D, hM⟩ := h.is
  obtain ⟨V, hV⟩ := h.dsk.is
  exact fun k hk => hk.elim (hV.lt k) (hM.lt k)
def lT (p : Nat) : RS := RS.new 0 70 1 5 p
theorem lT_ok (p : Nat) (hp : p < 70) : (lT p).Ok (DS.new 70).last.length := ⟨show 2 ≤ 70 by decide, show 0 + 70 ≤ 70 by decide, hp, show 0 ≤ 70 by decide, show 0 ≤ 4096 by decide, fun l h => by simp [lT, RS.new] at h, show 1 ≤ 1000000 by decide, show 5 ≤ 1000000 by decide⟩
def lS (p : Nat) (L : List UInt8) : DS := apS (DS.new 70) (lT p) L (need L.length)
theorem l_lay (p : Nat) (hp : p < 70) (L : List UInt8) (hL : L.length ≤ 32768) : Lay (lS p L) (lT p) [(1, L)] := by
  have hf : Fine (DS.new 70) := Fine.new 70 (by decide)
  have hr : usedTo [] 0 + need L.length ≤ (lT p).n := by have := need_le L.length hL; show 0 + _ ≤ 70; omega
  have h1 : LayP (apS (DS.new 70) ((lT p).got [] 0) L (need L.length)) (lT p) [(1, L)] := LayP.app (LayP.nil_ (DS.new 70) (lT p)) hf (lT_ok p hp) (show 5 ≤ 900000 by decide) hL hr (Nat.zero_le _) (by simp)
  have h2 : Blank (apS (DS.new 70) ((lT p).got [] 0) L (need L.length)) (lT p) (usedTo [(1, L)] 1) := Blank.app (Ls := []) (blank_new 70 _ (lT p)) (LayP.nil_ _ _) hf (lT_ok p hp) (1, L) rfl hr
  exact h1.blank h2
theorem l_got (p : Nat) (L : List UInt8) : (lT p).got [(1, L)] 1 = (lT p).app L := by
  show ({ lT p with recs := [L], used := usedTo [(1, L)] 1 } : RS) = { lT p with recs := [] ++ [L], used := 0 + need L.length }
  rw [show usedTo [(1, L)] 1 = usedTo [] 0 + need L.length from by rw [usedTo_succ (f := 1) (l := L) rfl]; rfl]
  rfl
set_option maxRecDepth 100000 in
theorem walk_out (s a : Int) (w : World) (ho : s < 0 ∨ 33000 < s ∨ a < 0 ∨ 70 ≤ a) :
    Calls Try.prog 5 #[.int .i64 s, .int .i64 a] w fun e w' => e = .returned (.bool true) ∧ Below w.heap.size w w' := by
  by_cases h1 : s < 0
  · go_enter Try.func5, Try.ntmps5
    go_wp2_with (go_at_call 6; refine (known_any _).mono ?_; rintro e w1 ⟨rfl, hb1⟩)
    go_ret
    exact ⟨rfl, hb1⟩
  by_cases h2 : 33000 < s
  · go_enter Try.func5, Try.ntmps5
    go_wp2_with (go_at_call 6; refine (known_any _).mono ?_; rintro e w1 ⟨rfl, hb1⟩)
    go_ret
    exact ⟨rfl, hb1⟩
  by_cases h3 : a < 0
  · go_enter Try.func5, Try.ntmps5
    go_wp2_with (go_at_call 6; refine (known_any _).mono ?_; rintro e w1 ⟨rfl, hb1⟩)
    go_ret
    exact ⟨rfl, hb1⟩
  · have h4 : 70 ≤ a := by omega
    go_enter Try.func5, Try.ntmps5
    go_wp2_with (go_at_call 6; refine (known_any _).mono ?_; rintro e w1 ⟨rfl, hb1⟩)
    go_ret
    exact ⟨rfl, hb1⟩
set_option maxRecDepth 100000 in
set_option maxHeartbeats 4000000 in
theorem walk_in (n p : Nat) (w : World) (hn : n ≤ 33000) (hp : p < 70) :
    Calls Try.prog 5 #[.int .i64 (n : Nat), .int .i64 (p : Nat)] w fun e w' => e = .returned (.bool true) ∧ Below w.heap.size w w' := by
  obtain ⟨i0, hi, hz0, hz1, hz2⟩ := info_parts (show (Try.prog.info? 5).map (fun i => (i.zero, i.size, i.bytes)) = some (some (.int .u8 0), 1, 1) by kernel_rfl)
  have hnx : (n : Int) ≤ 33000 := by omega
  have hpx : ¬ (70 : Int) ≤ (p : Int) := by omega
  have HN := Lib.hid hn
  have HP := Lib.hid hp
  have HB48 : Hid (i0.bytes * n ≤ 281474976710656) := Lib.hid (by rw [hz2]; omega)
  have HML : Hid (n ≤ maxLen) := Lib.hid (by unfold maxLen; omega)
  clear hn hp
  have cNew : ∀ W, Below w.heap.size w W → Calls Try.prog 7 #[.int .i64 70] W fun e w' => ∃ X O, e = .returned (.tuple #[.pointer (some ⟨X, 0, none⟩), .int .i64 0]) ∧ Dsk w w' X O (DS.new 70) := fun W hW => (d_new (o := w) 70 (by decide) (by decide) hW).mono fun e w' ⟨X, O, h1, h2, _⟩ => ⟨X, O, h1, h2⟩
  have cOpen : ∀ W X O, Dsk w W X O (DS.new 70) → Calls Try.prog 8 #[.pointer (some ⟨X, 0, none⟩), .int .i64 0, .int .i64 70, .int .u64 5, .int .i64 (p : Nat), .int .u32 1] W fun e w' => ∃ Y v R, e = .returned (.tuple #[.pointer (some ⟨Y, 0, none⟩), v, .int .i64 0]) ∧ Rng w w' X O (DS.new 70) Y R (lT p) ∧ (∀ k, R k → W.heap.size ≤ k) ∧ (∃ A c, v = .slice A 0 c) ∧ Below W.heap.size W w' := fun W X O h => open_blank 70 (by decide) h 0 70 1 5 p (by decide) (by decide) HP.out (by decide) (by decide)
  go_enter Try.func5, Try.ntmps5
  go_wp2_with (first
    | (go_at_call 6; refine (known_any _).mono ?_; rintro e w1 ⟨rfl, hb1⟩)
    | (go_at_call 7; (with_reducible refine (cNew _ hb1).mono ?_); rintro e w2 ⟨X, O, rfl, s2⟩)
    | (go_at_call 8; (with_reducible refine (cOpen _ _ _ s2).mono ?_); rintro e w3 ⟨Y, v3, R, rfl, r3, hR3, ⟨A3, c3, rfl⟩, b3⟩)
    | (at_make; (refine wpList_make_full _ rfl (.tmp 46) (.tmp 46) 39 rfl w3.heap.size 5 i0 _ 1 Try.underlying39 hi hz0 hz1 .i64 .i64 _ _ n rfl rfl rfl rfl HB48.out HML.out (Nat.le_refl _) ?_; intro w4 ho4 hg4)))
  have hrow := row_of_own ho4 rfl
  have hb4 : Below w3.heap.size w3 w4 := (Below.refl _ w3).grown hg4 (Nat.le_refl _) (fun k hk => by cases hk)
  rw [made_bytes] at hrow
  have hm4 : Mem w4 w3.heap.size 5 (bs (List.replicate n (0 : UInt8))).toArray := by
    have : bs (List.replicate n (0 : UInt8)) = List.replicate n (.int .u8 0) := by simp [bs]
    rw [this]; exact hrow
  have r4 := r3.below hb4
  have hlt3 := r3.lt
  clear ho4 hg4 hrow
  go_loopw [11] (fun i wr => ∃ (j : Nat) (L : List UInt8), Hid (L.length = n) ∧ j ≤ n ∧ i = .int .i64 (j : Nat) ∧ Mem wr w3.heap.size 5 (bs L).toArray ∧ Rng w wr X O (DS.new 70) Y R (lT p)) (fun i _ => n - (intOf i).toNat)
  case atStart => exact ⟨0, _, Lib.hid (by simp), Nat.zero_le _, rfl, hm4, r4⟩
  case round =>
    obtain ⟨j, L, HL, hj, rfl, hm, hr⟩ := hrel
    by_cases hjn : j < n
    · have hjx : (j : Int) < (n : Int) := by omega
      have hc : wr.cell? ⟨w3.heap.size, j, none⟩ = some (.int .u8 ((L[j]'(by rw [HL.out]; exact hjn)).toNat : Int)) := by
        rw [hm.cell j, List.getElem?_toArray, bs_get]
      have hfz := hm.free j
      generalize (L[j]'(by rw [HL.out]; exact hjn)) = z at hc
      go_wp2
      have hv8 : ((j : Int) * 7 % 256) = ((UInt8.ofNat (j * 7)).toNat : Int) := by
        rw [UInt8.toNat_ofNat']
        show _ = ((j * 7 % 256 : Nat) : Int)
        omega
      rw [hv8]
      have hbl := r3.dsk.bl.size
      refine ⟨⟨j + 1, L.set j (UInt8.ofNat (j * 7)), Lib.hid (by rw [List.length_set]; exact HL.out), by omega, by go_num, ?_, ?_⟩, by simp [intOf]; omega⟩
      · have h1 := hm.put j (.int .u8 ((UInt8.ofNat (j * 7)).toNat : Int))
        have h2 : (bs L).toArray.setIfInBounds j (.int .u8 ((UInt8.ofNat (j * 7)).toNat : Int)) = (bs (L.set j (UInt8.ofNat (j * 7)))).toArray := by
          rw [List.setIfInBounds_toArray]
          congr 1
          unfold bs
          rw [List.map_set]
        rw [h2] at h1
        exact h1
      · refine hr.effN (Eff.setCell (S := fun k => k = w3.heap.size) (Eff.refl _ _) (p := ⟨w3.heap.size, j, none⟩) rfl _) (fun k _ hk e => ?_) fun k _ e => by omega
        have := hlt3 k hk
        omega
    · obtain rfl : j = n := by omega
      clear hj hjn
      have hLl := HL.out
      have hb3n : ∀ k, O k ∨ R k → k ≠ w3.heap.size := fun k hk e => by have := hlt3 k hk; omega
      have hsl : Sl wr wr.heap.size (.slice (some ⟨w3.heap.size, 0, none⟩) j j) L.length (bs L) := by
        rw [hLl]
        exact sl_of_row hm (by rw [bs_len, hLl]) HML.out
      by_cases hlong : 32768 < j
      · have hlx : (32768 : Int) < (j : Int) := by omega
        have hap := app_long wr Y (v := .slice (some ⟨w3.heap.size, 0, none⟩) j j) (l := L) hsl (by omega)
        obtain ⟨rv, D, hM⟩ := hr.is
        have hrm : Calls Try.prog 14 #[.pointer (some ⟨Y, 0, none⟩)] wr fun e w' => e = .returned (.int .i64 70) ∧ ∃ k, w' = wr.drewN k := room_any hM hr.ok (by decide)
        clear hlong hLl HL hsl
        go_wp2_with (first
          | (go_at_call 11; (with_reducible refine hap.mono ?_); rintro e w5 ⟨rfl, rfl⟩)
          | (go_at_call 14; (with_reducible refine hrm.mono ?_); rintro e w6 ⟨rfl, k6, rfl⟩))
        go_ret
        exact ⟨rfl, hr.dsk.bl.trans (below_drewN (Below.refl _ _) _ |>.mono hr.dsk.bl.size)⟩
      · have hlx : ¬ (32768 : Int) < (j : Int) := by omega
        have hjm : j ≤ 32768 := by omega
        obtain ⟨k, hk⟩ : ∃ k, need L.length = k := ⟨_, rfl⟩
        have hkx : (k : Int) ≤ 69 := by have := need_le L.length (by omega); omega
        have cApp := app_ok hr ⟨rfl, rfl, rfl⟩ (by decide) (by decide) (by decide) (by show 5 + 0 ≤ 900000; omega) (by show 0 ≤ 4000; omega) wr.heap.size (Nat.le_refl _) (v := .slice (some ⟨w3.heap.size, 0, none⟩) j j) (l := L) hsl (fun q _ hq => by obtain rfl := Option.some.inj hq; exact ⟨fun h => hb3n _ (.inl h) rfl, fun h => hb3n _ (.inr h) rfl⟩) (by omega) (by have := need_le L.length (by omega); show 0 + _ ≤ 70; omega)
        have cApp : Calls Try.prog 11 #[.pointer (some ⟨Y, 0, none⟩), .slice (some ⟨w3.heap.size, 0, none⟩) j j] wr fun e w' => ∃ O' R', e = .returned (.tuple #[.int .u64 5, .int .i64 0]) ∧ Rng w w' X O' (lS p L) Y R' ((lT p).app L) ∧ Mem w' w3.heap.size 5 (bs L).toArray := cApp.mono fun e w' ⟨O', R', h1, h2, h3, _⟩ => ⟨O', R', h1, h2, hm.eff h3 fun hq => hb3n _ hq rfl⟩
        have cRead : ∀ W O' R', Rng w W X O' (lS p L) Y R' ((lT p).app L) → Calls Try.prog 18 #[.pointer (some ⟨Y, 0, none⟩), .int .u64 5] W fun e w' => ∃ v', e = .returned (.tuple #[v', .int .i64 0]) ∧ w'.ownsRow W.heap.size 5 1 v' L.length (bs L) ∧ Below W.heap.size W w' := by
          intro W O' R' h
          obtain ⟨rv, D, hM⟩ := h.is
          exact read_any hM (by show 5 + 1 ≤ 900000; omega) 0 L rfl (by omega)
        have hlen : (lS p L).last.length = 70 := by unfold lS; rw [aps_len]; simp [DS.new]
        have cOp2 : ∀ W O', Dsk w W X O' (lS p L) → Calls Try.prog 8 #[.pointer (some ⟨X, 0, none⟩), .int .i64 0, .int .i64 70, .int .u64 5, .int .i64 (p : Nat), .int .u32 1] W fun e w' => ∃ Y v R D, e = .returned (.tuple #[.pointer (some ⟨Y, 0, none⟩), v, .int .i64 0]) ∧ Rng w w' X O' (lS p L) Y R ((lT p).app L) ∧ LRow w' W.heap.size v [L] D ∧ Below W.heap.size W w' := by
          intro W O' h
          have hup : (lS p L).up := aps_up ⟨rfl, rfl, rfl⟩ _ _ _
          have hwt : (lS p L).wtg ≤ 1000000 := by
            have := (aps_cnt (DS.new 70) (lT p) L (need L.length)).1
            have h0 : (DS.new 70).wtg = 0 := rfl
            have hn := need_le L.length (by omega)
            show (apS _ _ _ _).wtg ≤ _
            omega
          refine (open_any (Ls := [(1, L)]) h hup.dead hup.off hwt (by rw [hlen]; decide) 0 70 1 5 p (by rw [hlen]; exact (by have := lT_ok p HP.out; simpa [DS.new, lT] using this)) (by decide) (l_lay p HP.out L (by omega))).mono ?_
          rintro e w' ⟨Y, v, R, D, h1, h2, _, h3, _, h4⟩
          exact ⟨Y, v, R, D, h1, l_got p L ▸ h2, h3, h4⟩
        have cRm : ∀ W O' Y' R', Rng w W X O' (lS p L) Y' R' ((lT p).app L) → Calls Try.prog 14 #[.pointer (some ⟨Y', 0, none⟩)] W fun e w' => e = .returned (.int .i64 ((70 : Int) - (k : Int))) ∧ ∃ k, w' = W.drewN k := by
          intro W O' Y' R' h
          obtain ⟨rv, D, hM⟩ := h.is
          have h1 := room_any hM h.ok (by rw [hlen]; decide)
          rw [show ((lT p).app L).used = k by show 0 + need L.length = k; omega] at h1
          exact h1
        have hneed : ∀ W, Calls Try.prog 9 #[.int .i64 (j : Nat)] W fun e w' => e = .returned (.int .i64 (k : Nat)) ∧ W = w' := fun W => by have := rneed_any j (by omega) W; rw [← hLl, hk, hLl] at this; exact this
        clear hlong hk hlen
        go_wp2_with (first
          | (go_at_call 11; (with_reducible refine cApp.mono ?_); rintro e w5 ⟨O5, R5, rfl, r5, m5⟩)
          | (go_at_call 18; (with_reducible refine (cRead _ _ _ r5).mono ?_); rintro e w6 ⟨v6, rfl, o6, b6⟩; rw [hLl] at o6; obtain ⟨A5, c5, rfl, _, _⟩ := own_form o6; have r6 := r5.below b6)
          | (go_at_call 8; (with_reducible refine (cOp2 _ _ r6.dsk).mono ?_); rintro e w7 ⟨Y7, v7, R7, D7, rfl, r7, l7, b7⟩; obtain ⟨A7, c7, rfl, _, _⟩ := own_form l7.row; obtain ⟨g7, o7, rfl, hg7, hc7⟩ := (Sl.of_own l7.row).at_ (by simp); obtain ⟨u7, hu7⟩ : ∃ u, D7[0]? = some u := ⟨_, List.getElem?_eq_getElem (by have := l7.row.1; rw [this]; simp)⟩; have y7 := hc7 0 u7 hu7; rw [Nat.add_zero] at y7; have hd7 := l7.dat 0 u7 L hu7 rfl; rw [hLl] at hd7; obtain ⟨A8, c8, rfl, _, _⟩ := own_form hd7))
        have hs5 : ∀ W, Below w7.heap.size w7 W → (convert 39 9 (.slice A5 j c5)).run Try.prog W = .ok (.string ⟨L.toArray⟩) W := fun W hW => str (Sl.of_own (owns_below (owns_below o6 b7) hW))
        have hsb : ∀ W, Below w7.heap.size w7 W → (convert 39 9 (.slice (some ⟨w3.heap.size, 0, none⟩) j j)).run Try.prog W = .ok (.string ⟨L.toArray⟩) W := fun W hW => str (n := j) (sl_of_row (n := j) (((m5.below b6 m5.lt).below b7 (Nat.lt_of_lt_of_le m5.lt b6.size)).below hW (Nat.lt_of_lt_of_le m5.lt (Nat.le_trans b6.size b7.size))) (by rw [bs_len, hLl]) HML.out)
        have hs8 : ∀ W, Below w7.heap.size w7 W → (convert 39 9 (.slice A8 j c8)).run Try.prog W = .ok (.string ⟨L.toArray⟩) W := fun W hW => str (Sl.of_own (owns_below hd7 hW))
        have hy7 : ∀ W, Below w7.heap.size w7 W → W.cell? ⟨g7, o7, none⟩ = some (.slice A8 j c8) := fun W hW => (hW.cell (p := ⟨g7, o7, none⟩) hg7).trans y7
        have hroom : ∀ W, Below w7.heap.size w7 W → _ := fun W hW => cRm W _ _ _ (r7.below hW)
        apply calm_tail 39 ((.is (.int .i64 0)) :: (.is (.int .i64 0)) :: (.is (.int .i64 0)) :: (.is (.int .i64 0)) :: (.is (.int .i64 0)) :: (.is (.bool true)) :: (.is (.bool true)) :: (.is (.int .u64 5)) :: (.is (.bool true)) :: (.is (.bool true)) :: (.is (.bool true)) :: (.is (.slice A5 j c5)) :: (.is (.string ⟨L.toArray⟩)) :: (.is (.slice (some ⟨w3.heap.size, 0, none⟩) j j)) :: (.is (.string ⟨L.toArray⟩)) :: (.is (.bool true)) :: (.is (.bool true)) :: (.is (.bool true)) :: (.is (.slice (some ⟨g7, o7, none⟩) 1 c7)) :: (.is (.int .i64 1)) :: (.is (.bool true)) :: (.is (.bool true)) :: (.is (.bool true)) :: (.is (.slice (some ⟨g7, o7, none⟩) 1 c7)) :: (.is (.pointer (some ⟨g7, o7, none⟩))) :: (.is (.slice A8 j c8)) :: (.is (.string ⟨L.toArray⟩)) :: (.is (.slice (some ⟨w3.heap.size, 0, none⟩) j j)) :: (.is (.string ⟨L.toArray⟩)) :: (.is (.bool true)) :: (.is (.bool true)) :: (.is (.bool true)) :: (.is (.pointer (some ⟨Y7, 0, none⟩))) :: (.is (.int .i64 ((70 : Int) - (k : Int)))) :: (.is (.int .i64 (j : Nat))) :: (.is (.int .i64 (k : Nat))) :: (.is (.int .i64 ((70 : Int) - (k : Int)))) :: (.is (.bool true)) :: (.is (.bool true)) :: []) [[], [], [0, 1], [], [2, 3], [4], [5], [6], [7, 6], [6, 8], [9, 6], [10], [11, 10], [10], [13, 10], [12, 14, 10], [10, 15], [16, 10], [17], [18, 17], [19, 17], [17, 20], [21, 17], [22], [23, 22], [24, 22], [25, 22], [22], [27, 22], [26, 28, 22], [22, 29], [30, 22], [31], [32, 31, 31], [31], [34, 33, 31], [35, 31], [33, 36, 31], [31, 37]] (by kernel_rfl) (by kernel_rfl) (by kernel_rfl) rfl
        intro f a1 ha1
        simp only [List.take_succ_cons, List.take_zero, putL, Act.put, List.setIfInBounds_toArray, List.set_cons_succ, List.set_cons_zero] at ha1
        subst ha1
        refine ⟨?_, ?_⟩
        · refine AllCalm.cons (fun W hB hd => ?_) ?_
          · go_wp2_with (fail)
            exact CalmQ.mk rfl _ rfl (Below.refl _ _) rfl
          refine AllCalm.cons (fun W hB hd => ?_) ?_
          · go_wp2_with (fail)
            exact CalmQ.mk rfl _ rfl (Below.refl _ _) rfl
          refine AllCalm.cons (fun W hB hd => ?_) ?_
          · obtain ⟨h0, h1, -⟩ := hd
            have h0 : f 0 = _ := h0
            have h1 : f 1 = _ := h1
            rw [h0, h1]
            go_wp2_with (fail)
            exact CalmQ.mk rfl _ rfl (Below.refl _ _) rfl
          refine AllCalm.cons (fun W hB hd => ?_) ?_
          · go_wp2_with (fail)
            exact CalmQ.mk rfl _ rfl (Below.refl _ _) rfl
          refine AllCalm.cons (fun W hB hd => ?_) ?_
          · obtain ⟨h2, h3, -⟩ := hd
            have h2 : f 2 = _ := h2
            have h3 : f 3 = _ := h3
            rw [h2, h3]
            go_wp2_with (fail)
            exact CalmQ.mk rfl _ rfl (Below.refl _ _) rfl
          refine AllCalm.cons (fun W hB hd => ?_) ?_
          · obtain ⟨h4, -⟩ := hd
            have h4 : f 4 = _ := h4
            rw [h4]
            go_wp2_with (fail)
            exact CalmQ.mk rfl _ rfl (Below.refl _ _) rfl
          refine AllCalm.cons (fun W hB hd => ?_) ?_
          · obtain ⟨h5, -⟩ := hd
            have h5 : f 5 = _ := h5
            rw [h5]
            go_wp2_with (fail)
            exact CalmQ.mk rfl _ rfl (Below.refl _ _) rfl
          refine AllCalm.cons (fun W hB hd => ?_) ?_
          · obtain ⟨h6, -⟩ := hd
            have h6 : f 6 = _ := h6
            rw [h6]
            go_wp2_with (fail)
            exact CalmQ.mk rfl _ rfl (Below.refl _ _) rfl
          refine AllCalm.cons (fun W hB hd => ?_) ?_
          · obtain ⟨h7, h6, -⟩ := hd
            have h7 : f 7 = _ := h7
            have h6 : f 6 = _ := h6
            rw [h7, h6]
            go_wp2_with (fail)
            exact CalmQ.mk rfl _ rfl (Below.refl _ _) rfl
          refine AllCalm.cons (fun W hB hd => ?_) ?_
          · obtain ⟨h6, h8, -⟩ := hd
            have h6 : f 6 = _ := h6
            have h8 : f 8 = _ := h8
            rw [h6, h8]
            go_wp2_with (fail)
            exact CalmQ.mk rfl _ rfl (Below.refl _ _) rfl
          refine AllCalm.cons (fun W hB hd => ?_) ?_
          · obtain ⟨h9, h6, -⟩ := hd
            have h9 : f 9 = _ := h9
            have h6 : f 6 = _ := h6
            rw [h9, h6]
            go_wp2_with (fail)
            exact CalmQ.mk rfl _ rfl (Below.refl _ _) rfl
          refine AllCalm.cons (fun W hB hd => ?_) ?_
          · obtain ⟨h10, -⟩ := hd
            have h10 : f 10 = _ := h10
            rw [h10]
            go_wp2_with (fail)
            exact CalmQ.mk rfl _ rfl (Below.refl _ _) rfl
          refine AllCalm.cons (fun W hB hd => ?_) ?_
          · obtain ⟨h11, h10, -⟩ := hd
            have h11 : f 11 = _ := h11
            have h10 : f 10 = _ := h10
            rw [h11, h10]
            have hcv := hs5 W (hB)
            go_wp2_with (fail)
            exact CalmQ.mk rfl _ rfl (Below.refl _ _) rfl
          refine AllCalm.cons (fun W hB hd => ?_) ?_
          · obtain ⟨h10, -⟩ := hd
            have h10 : f 10 = _ := h10
            rw [h10]
            go_wp2_with (fail)
            exact CalmQ.mk rfl _ rfl (Below.refl _ _) rfl
          refine AllCalm.cons (fun W hB hd => ?_) ?_
          · obtain ⟨h13, h10, -⟩ := hd
            have h13 : f 13 = _ := h13
            have h10 : f 10 = _ := h10
            rw [h13, h10]
            have hcv := hsb W (hB)
            go_wp2_with (fail)
            exact CalmQ.mk rfl _ rfl (Below.refl _ _) rfl
          refine AllCalm.cons (fun W hB hd => ?_) ?_
          · obtain ⟨h12, h14, h10, -⟩ := hd
            have h12 : f 12 = _ := h12
            have h14 : f 14 = _ := h14
            have h10 : f 10 = _ := h10
            rw [h12, h14, h10]
            go_wp2_with (fail)
            exact CalmQ.mk rfl _ rfl (Below.refl _ _) rfl
          refine AllCalm.cons (fun W hB hd => ?_) ?_
          · obtain ⟨h10, h15, -⟩ := hd
            have h10 : f 10 = _ := h10
            have h15 : f 15 = _ := h15
            rw [h10, h15]
            go_wp2_with (fail)
            exact CalmQ.mk rfl _ rfl (Below.refl _ _) rfl
          refine AllCalm.cons (fun W hB hd => ?_) ?_
          · obtain ⟨h16, h10, -⟩ := hd
            have h16 : f 16 = _ := h16
            have h10 : f 10 = _ := h10
            rw [h16, h10]
            go_wp2_with (fail)
            exact CalmQ.mk rfl _ rfl (Below.refl _ _) rfl
          refine AllCalm.cons (fun W hB hd => ?_) ?_
          · obtain ⟨h17, -⟩ := hd
            have h17 : f 17 = _ := h17
            rw [h17]
            go_wp2_with (fail)
            exact CalmQ.mk rfl _ rfl (Below.refl _ _) rfl
          refine AllCalm.cons (fun W hB hd => ?_) ?_
          · obtain ⟨h18, h17, -⟩ := hd
            have h18 : f 18 = _ := h18
            have h17 : f 17 = _ := h17
            rw [h18, h17]
            go_wp2_with (fail)
            exact CalmQ.mk rfl _ rfl (Below.refl _ _) rfl
          refine AllCalm.cons (fun W hB hd => ?_) ?_
          · obtain ⟨h19, h17, -⟩ := hd
            have h19 : f 19 = _ := h19
            have h17 : f 17 = _ := h17
            rw [h19, h17]
            go_wp2_with (fail)
            exact CalmQ.mk rfl _ rfl (Below.refl _ _) rfl
          refine AllCalm.cons (fun W hB hd => ?_) ?_
          · obtain ⟨h17, h20, -⟩ := hd
            have h17 : f 17 = _ := h17
            have h20 : f 20 = _ := h20
            rw [h17, h20]
            go_wp2_with (fail)
            exact CalmQ.mk rfl _ rfl (Below.refl _ _) rfl
          refine AllCalm.cons (fun W hB hd => ?_) ?_
          · obtain ⟨h21, h17, -⟩ := hd
            have h21 : f 21 = _ := h21
            have h17 : f 17 = _ := h17
            rw [h21, h17]
            go_wp2_with (fail)
            exact CalmQ.mk rfl _ rfl (Below.refl _ _) rfl
          refine AllCalm.cons (fun W hB hd => ?_) ?_
          · obtain ⟨h22, -⟩ := hd
            have h22 : f 22 = _ := h22
            rw [h22]
            go_wp2_with (fail)
            exact CalmQ.mk rfl _ rfl (Below.refl _ _) rfl
          refine AllCalm.cons (fun W hB hd => ?_) ?_
          · obtain ⟨h23, h22, -⟩ := hd
            have h23 : f 23 = _ := h23
            have h22 : f 22 = _ := h22
            rw [h23, h22]
            go_wp2_with (fail)
            exact CalmQ.mk rfl _ rfl (Below.refl _ _) rfl
          refine AllCalm.cons (fun W hB hd => ?_) ?_
          · obtain ⟨h24, h22, -⟩ := hd
            have h24 : f 24 = _ := h24
            have h22 : f 22 = _ := h22
            rw [h24, h22]
            have y7 := hy7 W (hB)
            go_wp2_with (fail)
            exact CalmQ.mk rfl _ rfl (Below.refl _ _) rfl
          refine AllCalm.cons (fun W hB hd => ?_) ?_
          · obtain ⟨h25, h22, -⟩ := hd
            have h25 : f 25 = _ := h25
            have h22 : f 22 = _ := h22
            rw [h25, h22]
            have hcv := hs8 W (hB)
            go_wp2_with (fail)
            exact CalmQ.mk rfl _ rfl (Below.refl _ _) rfl
          refine AllCalm.cons (fun W hB hd => ?_) ?_
          · obtain ⟨h22, -⟩ := hd
            have h22 : f 22 = _ := h22
            rw [h22]
            go_wp2_with (fail)
            exact CalmQ.mk rfl _ rfl (Below.refl _ _) rfl
          refine AllCalm.cons (fun W hB hd => ?_) ?_
          · obtain ⟨h27, h22, -⟩ := hd
            have h27 : f 27 = _ := h27
            have h22 : f 22 = _ := h22
            rw [h27, h22]
            have hcv := hsb W (hB)
            go_wp2_with (fail)
            exact CalmQ.mk rfl _ rfl (Below.refl _ _) rfl
          refine AllCalm.cons (fun W hB hd => ?_) ?_
          · obtain ⟨h26, h28, h22, -⟩ := hd
            have h26 : f 26 = _ := h26
            have h28 : f 28 = _ := h28
            have h22 : f 22 = _ := h22
            rw [h26, h28, h22]
            go_wp2_with (fail)
            exact CalmQ.mk rfl _ rfl (Below.refl _ _) rfl
          refine AllCalm.cons (fun W hB hd => ?_) ?_
          · obtain ⟨h22, h29, -⟩ := hd
            have h22 : f 22 = _ := h22
            have h29 : f 29 = _ := h29
            rw [h22, h29]
            go_wp2_with (fail)
            exact CalmQ.mk rfl _ rfl (Below.refl _ _) rfl
          refine AllCalm.cons (fun W hB hd => ?_) ?_
          · obtain ⟨h30, h22, -⟩ := hd
            have h30 : f 30 = _ := h30
            have h22 : f 22 = _ := h22
            rw [h30, h22]
            go_wp2_with (fail)
            exact CalmQ.mk rfl _ rfl (Below.refl _ _) rfl
          refine AllCalm.cons (fun W hB hd => ?_) ?_
          · obtain ⟨h31, -⟩ := hd
            have h31 : f 31 = _ := h31
            rw [h31]
            go_wp2_with (fail)
            exact CalmQ.mk rfl _ rfl (Below.refl _ _) rfl
          refine AllCalm.cons (fun W hB hd => ?_) ?_
          · obtain ⟨h32, h31, -, -⟩ := hd
            have h32 : f 32 = _ := h32
            have h31 : f 31 = _ := h31
            rw [h32, h31]
            have hrm := hroom W (hB)
            go_wp2_with ((go_at_call 14; (with_reducible refine hrm.mono ?_); rintro e w1 ⟨rfl, k1, rfl⟩))
            exact CalmQ.mk rfl _ rfl (below_drewN (Below.refl _ _) _) rfl
          refine AllCalm.cons (fun W hB hd => ?_) ?_
          · obtain ⟨h31, -⟩ := hd
            have h31 : f 31 = _ := h31
            rw [h31]
            go_wp2_with (fail)
            exact CalmQ.mk rfl _ rfl (Below.refl _ _) rfl
          refine AllCalm.cons (fun W hB hd => ?_) ?_
          · obtain ⟨h34, h33, h31, -⟩ := hd
            have h34 : f 34 = _ := h34
            have h33 : f 33 = _ := h33
            have h31 : f 31 = _ := h31
            rw [h34, h33, h31]
            have hnd := hneed W
            go_wp2_with ((go_at_call 9; (with_reducible refine hnd.mono ?_); rintro e w1 ⟨rfl, rfl⟩))
            exact CalmQ.mk rfl _ rfl (Below.refl _ _) rfl
          refine AllCalm.cons (fun W hB hd => ?_) ?_
          · obtain ⟨h35, h31, -⟩ := hd
            have h35 : f 35 = _ := h35
            have h31 : f 31 = _ := h31
            rw [h35, h31]
            go_wp2_with (fail)
            exact CalmQ.mk rfl _ rfl (Below.refl _ _) rfl
          refine AllCalm.cons (fun W hB hd => ?_) ?_
          · obtain ⟨h33, h36, h31, -⟩ := hd
            have h33 : f 33 = _ := h33
            have h36 : f 36 = _ := h36
            have h31 : f 31 = _ := h31
            rw [h33, h36, h31]
            go_wp2_with (fail)
            exact CalmQ.mk rfl _ rfl (Below.refl _ _) rfl
          refine AllCalm.cons (fun W hB hd => ?_) ?_
          · obtain ⟨h31, h37, -⟩ := hd
            have h31 : f 31 = _ := h31
            have h37 : f 37 = _ := h37
            rw [h31, h37]
            go_wp2_with (fail)
            exact CalmQ.mk rfl _ rfl (Below.refl _ _) rfl
          exact AllCalm.nil
        · intro W hB hT
          obtain ⟨h0, h1, h2, h3, h4, h5, h6, h7, h8, h9, h10, h11, h12, h13, h14, h15, h16, h17, h18, h19, h20, h21, h22, h23, h24, h25, h26, h27, h28, h29, h30, h31, h32, h33, h34, h35, h36, h37, h38, -⟩ := hT
          have h0 : f 0 = _ := h0
          have h1 : f 1 = _ := h1
          have h2 : f 2 = _ := h2
          have h3 : f 3 = _ := h3
          have h4 : f 4 = _ := h4
          have h5 : f 5 = _ := h5
          have h6 : f 6 = _ := h6
          have h7 : f 7 = _ := h7
          have h8 : f 8 = _ := h8
          have h9 : f 9 = _ := h9
          have h10 : f 10 = _ := h10
          have h11 : f 11 = _ := h11
          have h12 : f 12 = _ := h12
          have h13 : f 13 = _ := h13
          have h14 : f 14 = _ := h14
          have h15 : f 15 = _ := h15
          have h16 : f 16 = _ := h16
          have h17 : f 17 = _ := h17
          have h18 : f 18 = _ := h18
          have h19 : f 19 = _ := h19
          have h20 : f 20 = _ := h20
          have h21 : f 21 = _ := h21
          have h22 : f 22 = _ := h22
          have h23 : f 23 = _ := h23
          have h24 : f 24 = _ := h24
          have h25 : f 25 = _ := h25
          have h26 : f 26 = _ := h26
          have h27 : f 27 = _ := h27
          have h28 : f 28 = _ := h28
          have h29 : f 29 = _ := h29
          have h30 : f 30 = _ := h30
          have h31 : f 31 = _ := h31
          have h32 : f 32 = _ := h32
          have h33 : f 33 = _ := h33
          have h34 : f 34 = _ := h34
          have h35 : f 35 = _ := h35
          have h36 : f 36 = _ := h36
          have h37 : f 37 = _ := h37
          have h38 : f 38 = _ := h38
          rw [h0, h1, h2, h3, h4, h5, h6, h7, h8, h9, h10, h11, h12, h13, h14, h15, h16, h17, h18, h19, h20, h21, h22, h23, h24, h25, h26, h27, h28, h29, h30, h31, h32, h33, h34, h35, h36, h37, h38]
          clear h0 h1 h2 h3 h4 h5 h6 h7 h8 h9 h10 h11 h12 h13 h14 h15 h16 h17 h18 h19 h20 h21 h22 h23 h24 h25 h26 h27 h28 h29 h30 h31 h32 h33 h34 h35 h36 h37 h38
          simp only [List.drop_succ_cons, List.drop_zero]
          go_wp2
          go_ret
          exact ⟨rfl, r7.dsk.bl.trans (hB.mono r7.dsk.bl.size)⟩
theorem walk (s a : Int) (w : World) (_ : -9223372036854775808 ≤ s) (_ : s ≤ 9223372036854775807) (_ : -9223372036854775808 ≤ a) (_ : a ≤ 9223372036854775807) :
    Calls Try.prog 5 #[.int .i64 s, .int .i64 a] w fun e w' => e = .returned (.bool true) ∧ Below w.heap.size w w' := by
  by_cases ho : s < 0 ∨ 33000 < s ∨ a < 0 ∨ 70 ≤ a
  · exact walk_out s a w ho
  · obtain ⟨n, rfl⟩ : ∃ n : Nat, s = n := ⟨s.toNat, by omega⟩
    obtain ⟨m, rfl⟩ : ∃ m : Nat, a = m := ⟨a.toNat, by omega⟩
    exact walk_in n m w (by omega) (by omega)
set_option maxRecDepth 100000 in
theorem lifted (os : Os) (started : os.Started) (H : Type) (enc : TypeId × Value → H) :
    ReturnsInHanded {} Try.checked os 5 .any (Rows.ringLongSpec.pre6 enc Try.prog Try.f5 Rows.ringLongRow.domain false) (Rows.ringLongSpec.post enc Try.prog Try.f5 false true false false) := by
  refine returnsInHanded_of_change (C := Try.checked) own started (by kernel_rfl) Try.func5
    (ChangeSpec.witness6 (enc := enc) (C := Try.checked) false ⟨#[], #[.int .i64 0, .int .i64 0], []⟩ 8 (by kernel_rfl) (by kernel_rfl) (by kernel_rfl) (by kernel_rfl)) ?_
  intro W base args ds gs before hval0 hW hcnd _
  have hval : ∀ (j : Nat) t v, Try.f5.params[j]? = some t → args[j]? = some v → Value.okWide Try.prog W .any base t v := hval0
  have hW' := hW
  obtain ⟨p, q, hA0, hV, rfl, hfz, hnd⟩ := hW
  have hA : DataW.TrodAll enc Try.prog W 0 (fun _ => true) true Try.f5.params.toList args.toList ds p := hA0
  rw [Try.params5] at hA hval
  obtain ⟨v0, vs0, d0, ds0, p0, q0, hargs, rfl, rfl, h0, r0⟩ := trodAll_cons hA
  obtain ⟨v1, vs1, d1, ds1, p1, q1, rfl, rfl, rfl, h1, r1⟩ := trodAll_cons r0
  obtain ⟨rfl, rfl, rfl⟩ := trodAll_nil r1
  obtain rfl : args = #[v0, v1] := by cases args; simp_all
  obtain ⟨rfl, rfl⟩ := trodVars_none hV
  obtain ⟨a0, rfl, _, _, w0⟩ := open_int Try.underlying3 (hval 0 3 v0 rfl rfl) h0
  have b0 := bounds_i64 w0
  obtain ⟨a1, rfl, _, _, w1⟩ := open_int Try.underlying3 (hval 1 3 v1 rfl rfl) h1
  have b1 := bounds_i64 w1
  refine (walk a0 a1 W b0.1 b0.2 b1.1 b1.2).mono fun e W' ⟨he, hb⟩ => ?_
  subst he
  exact ⟨_, rfl, law_post laidOut (by kernel_rfl) rfl (by kernel_rfl) Try.underlying4 rfl rfl rfl hW' hb⟩

theorem proved : Rows.RingLongSaid :=
  OpenClaim.holds_of_wide 5 Try.f5 rfl rfl rfl rfl rfl rfl rfl ⟨rfl, rfl, rfl, rfl, rfl⟩ rfl rfl rfl rfl rfl (by kernel_rfl) Try.func5 (by kernel_rfl)
    (of_decide_eq_true (by kernel_rfl)) (by unfold Func.isWrapper; first | (rw [if_pos (by decide +kernel)]; kernel_rfl) | (rw [if_neg (by decide +kernel)]; exact ⟨rfl, rfl⟩))
    (fun os started H enc _ => lifted os started H enc)
end Rg
end Go.Proofs.Ytbajifioohngdaa
