/- gemelref12's Need; gemellaw12's known. -/
import Derived.Test.YtbajifioohngdaaRr8
import Derived.Lib.SlBytesConst
namespace Go.Proofs.Ytbajifioohngdaa
open Go.ChangeShapes Go.WideShapes Go.ChangeAt Go.RowKit Go.Lib
set_option linter.unusedVariables false
set_option linter.unusedSimpArgs false
theorem own : ownKnob Try.prog.godebug = none := by kernel_rfl
theorem laidOut : laidOutB Try.prog = true := by kernel_rfl
namespace Rg
open Crc Dk
set_option maxRecDepth 100000 in
theorem rneed_any (n : Nat) (h : (n : Int) ≤ 1000000) (w : World) : Calls Try.prog 9 #[.int .i64 (n : Nat)] w fun e w' => e = .returned (.int .i64 (need n : Nat)) ∧ w = w' := by
  by_cases h0 : n = 0
  · subst h0
    go_enter Try.func9, Try.ntmps9
    go_wp2
    go_ret
    exact ⟨rfl, rfl⟩
  · have e3 : need n = (n - 1) / 480 + 1 := by unfold need; rw [if_neg h0]
    rw [e3]
    obtain ⟨k, hk⟩ : ∃ k, n / 480 = k := ⟨_, rfl⟩
    obtain ⟨m, hm⟩ : ∃ m, n % 480 = m := ⟨_, rfl⟩
    have hd : (k : Int) ≤ 3000 := by omega
    have e1 : (n : Int).tdiv 480 = (k : Int) := by rw [Int.tdiv_eq_ediv_of_nonneg (by omega)]; omega
    have e2 : (n : Int).tmod 480 = (m : Int) := by rw [Int.tmod_eq_emod_of_nonneg (by omega)]; omega
    have hml : (m : Int) ≤ 479 := by omega
    have hn1 : ¬ (n : Int) < 1 := by omega
    by_cases hm0 : m = 0
    · have hv : (n - 1) / 480 + 1 = k := by omega
      have hmx : ¬ (0 : Int) < (m : Int) := by omega
      rw [hv]
      clear e3 h h0 hk hm hm0 hv
      go_enter Try.func9, Try.ntmps9
      go_wp2
      go_ret
      exact ⟨rfl, rfl⟩
    · have hv : (n - 1) / 480 + 1 = k + 1 := by omega
      have hmx : (0 : Int) < (m : Int) := by omega
      rw [hv, show ((k + 1 : Nat) : Int) = (k : Int) + 1 by omega]
      clear e3 h h0 hk hm hm0 hv
      go_enter Try.func9, Try.ntmps9
      go_wp2
      go_ret
      exact ⟨rfl, rfl⟩
/-- A ring that is opened on a blank disk. -/
theorem open_blank {o w : World} {X : Nat} {O : Nat → Prop} (N : Nat) (hN : N ≤ 4096) (h : Dsk o w X O (DS.new N)) (a n life first place : Nat) (h2 : 2 ≤ n) (hfit : a + n ≤ N) (hpl : place < n) (hlf : life ≤ 1000000) (hfs : first ≤ 900000) :
    Calls Try.prog 8 #[.pointer (some ⟨X, 0, none⟩), .int .i64 (a : Nat), .int .i64 (n : Nat), .int .u64 (first : Nat), .int .i64 (place : Nat), .int .u32 (life : Nat)] w fun e w' => ∃ Y v R, e = .returned (.tuple #[.pointer (some ⟨Y, 0, none⟩), v, .int .i64 0]) ∧ Rng o w' X O (DS.new N) Y R (RS.new a n life first place) ∧ (∀ k, R k → w.heap.size ≤ k) ∧ (∃ A c, v = .slice A 0 c) ∧ Below w.heap.size w w' := by
  have hl : (DS.new N).last.length = N := by simp [DS.new]
  refine (open_any (Ls := []) h rfl rfl (by simp [DS.new]) (by omega) a n life first place ⟨h2, by rw [hl]; exact hfit, hpl, Nat.zero_le _, Nat.zero_le _, fun l h => by simp [RS.new] at h, hlf, by show first ≤ _; omega⟩ hfs ((LayP.nil_ _ _).blank (blank_new _ _ _))).mono ?_
  rintro e w' ⟨Y, v, R, D, rfl, h1, h2, h3, _, h4⟩
  obtain ⟨A, c, rfl, _, _⟩ := own_form h3.row
  exact ⟨Y, _, R, rfl, h1, h2, ⟨A, c, rfl⟩, h4⟩
theorem rflush_any {o w : World} {X Y : Nat} {O R : Nat → Prop} {S : DS} {T : RS} (h : Rng o w X O S Y R T) (hu : S.up) (hw : S.wtg ≤ 1000000) (hc : S.calls ≤ 4611686018427387904) :
    Calls Try.prog 17 #[.pointer (some ⟨Y, 0, none⟩)] w fun e w' => e = .returned (.int .i64 0) ∧ Rng o w' X O S.flushed Y R T ∧ Eff O w w' := by
  obtain ⟨rv, D, hM⟩ := h.is
  have x0 := hM.c0
  have hf := d_flush h.dsk hu hw hc
  go_enter Try.func17, Try.ntmps17
  go_wp2_with (go_at_call 28; (with_reducible refine hf.mono ?_); rintro e w1 ⟨rfl, s1, e1⟩)
  go_ret
  have hl : S.flushed.last.length = S.last.length := flsh_len ..
  exact ⟨rfl, ⟨s1, ⟨rv, D, hM.eff e1 fun k _ hR hO => h.no k hR hO⟩, hl ▸ h.ok, h.from_, h.no⟩, e1⟩
def abc : List UInt8 := [97, 98, 99]
def kT : RS := RS.new 1 6 1 1 0
def kT2 : RS := RS.new 1 6 2 1 0
def kS1 : DS := apS (DS.new 8) kT abc 1
def kS2 : DS := kS1.flushed
def kS3 : DS := kS2.crashed []
def kS4 : DS := { kS3 with off := false, arm := 0, picks := [] }
theorem kT_ok : kT.Ok (DS.new 8).last.length := ⟨by decide, by decide, by decide, by decide, by decide, fun l h => by simp [kT, RS.new] at h, by decide, by decide⟩
theorem k_fine : Fine (DS.new 8) := Fine.new 8 (by decide)
theorem k1_fine : Fine kS1 := aps_fine k_fine kT_ok 1
theorem k4_now (i : Nat) : kS4.now i = kS1.now i := by
  exact (crash_now (S := kS2) k1_fine.flushed (fun i => flushed_wa k1_fine i) i).trans (flushed_now k1_fine i)
theorem k_layp : LayP kS1 kT [(1, abc)] := LayP.app (LayP.nil_ (DS.new 8) kT) k_fine kT_ok (by decide) (by decide) (by decide) (by decide) (by decide)
theorem k_blank : Blank kS1 kT (usedTo [(1, abc)] 1) := Blank.app (Ls := []) (blank_new 8 _ kT) (LayP.nil_ _ _) k_fine kT_ok (1, abc) rfl (by decide)
theorem k_lay : Lay kS4 kT2 [(1, abc)] := (k_layp.congr (T' := kT2) (fun i => rd_now (T := kT2) k4_now i) rfl rfl (by decide)).blank (k_blank.congr (T' := kT2) (fun i => rd_now (T := kT2) k4_now i) rfl)
theorem k4_len : kS4.last.length = 8 := by
  show (fell _ _ _ _ _).length = 8
  rw [fell_len]
  show (flsh _ _ _ _).length = 8
  rw [flsh_len]
  rfl
theorem abc_fresh (W : World) : Sl (W.alloc (.cells #[.int .u8 97, .int .u8 98, .int .u8 99] 5 (3, 4))) (W.alloc (.cells #[.int .u8 97, .int .u8 98, .int .u8 99] 5 (3, 4))).heap.size (.slice (some ⟨W.heap.size, 0, none⟩) 3 3) abc.length (bs abc) := Sl.freshM (c := 3) W #[.int .u8 97, .int .u8 98, .int .u8 99] _ _ rfl (Nat.le_refl _) (by unfold maxLen; omega)
theorem kT_got : kT2.got [(1, abc)] 1 = { kT2 with recs := [abc], used := 1 } := rfl
set_option maxRecDepth 100000 in
set_option maxHeartbeats 4000000 in
theorem known_any (w : World) : Calls Try.prog 6 #[] w fun e w' => e = .returned (.bool true) ∧ Below w.heap.size w w' := by
  have kc := fun (W : World) (C : Array Value) (n c : Nat) => Lib.run_convert_bytes_const (P := Try.prog) W 39 5 C n c Try.underlying39 Try.underlying5
  have cNew : Calls Try.prog 7 #[.int .i64 8] w fun e w' => ∃ X O, e = .returned (.tuple #[.pointer (some ⟨X, 0, none⟩), .int .i64 0]) ∧ Dsk w w' X O (DS.new 8) ∧ (∀ k, O k → w.heap.size ≤ k) ∧ Below w.heap.size w w' := d_new (o := w) 8 (by omega) (by omega) (Below.refl w.heap.size w)
  have cOpen : ∀ W X O, Dsk w W X O (DS.new 8) → Calls Try.prog 8 #[.pointer (some ⟨X, 0, none⟩), .int .i64 1, .int .i64 6, .int .u64 1, .int .i64 0, .int .u32 1] W fun e w' => ∃ Y v R, e = .returned (.tuple #[.pointer (some ⟨Y, 0, none⟩), v, .int .i64 0]) ∧ Rng w w' X O (DS.new 8) Y R kT ∧ (∀ k, R k → W.heap.size ≤ k) ∧ (∃ A c, v = .slice A 0 c) ∧ Below W.heap.size W w' := fun W X O h => open_blank 8 (by decide) h 1 6 1 1 0 (by decide) (by decide) (by decide) (by decide) (by decide)
  have cApp : ∀ W X O Y R, Rng w W X O (DS.new 8) Y R kT → Calls Try.prog 11 #[.pointer (some ⟨Y, 0, none⟩), .slice (some ⟨W.heap.size, 0, none⟩) 3 3] (W.alloc (.cells #[.int .u8 97, .int .u8 98, .int .u8 99] 5 (3, 4))) fun e w' => ∃ O' R', e = .returned (.tuple #[.int .u64 1, .int .i64 0]) ∧ Rng w w' X O' kS1 Y R' (kT.app abc) := by
    intro W X O Y R h
    have hb := (Below.refl _ W).alloc (Nat.le_refl _) (.cells #[.int .u8 97, .int .u8 98, .int .u8 99] 5 (3, 4))
    refine (app_ok (h.below hb) ⟨rfl, rfl, rfl⟩ (by decide) (by decide) (by decide) (by decide) (by decide) _ (Nat.le_refl _) (abc_fresh W) ?_ (by decide) (by decide)).mono ?_
    · intro k _ hk
      obtain rfl := Option.some.inj hk
      obtain ⟨V, hV⟩ := h.dsk.is
      obtain ⟨rv, D, hM⟩ := h.is
      exact ⟨fun hO => absurd (hV.lt _ hO) (Nat.lt_irrefl _), fun hR => absurd (hM.lt _ hR) (Nat.lt_irrefl _)⟩
    · rintro e w' ⟨O', R', h1, h2, _⟩
      exact ⟨O', R', h1, h2⟩
  have cFl : ∀ W X O Y R, Rng w W X O kS1 Y R (kT.app abc) → Calls Try.prog 17 #[.pointer (some ⟨Y, 0, none⟩)] W fun e w' => e = .returned (.int .i64 0) ∧ Dsk w w' X O kS2 := fun W X O Y R h => (rflush_any h (aps_up ⟨rfl, rfl, rfl⟩ kT abc 1) (by decide) (by decide)).mono fun e w' h => ⟨h.1, h.2.1.dsk⟩
  have cCr := fun W X O (hs : Dsk w W X O kS2) => d_crash hs rfl (by decide) (.slice none 0 0) [] (by simp) Sl.nil_
  have cOn := fun W X O (hs : Dsk w W X O kS3) => d_on hs
  have cOp2 : ∀ W X O, Dsk w W X O kS4 → Calls Try.prog 8 #[.pointer (some ⟨X, 0, none⟩), .int .i64 1, .int .i64 6, .int .u64 1, .int .i64 0, .int .u32 2] W fun e w' => ∃ Y v R D, e = .returned (.tuple #[.pointer (some ⟨Y, 0, none⟩), v, .int .i64 0]) ∧ Rng w w' X O kS4 Y R { kT2 with recs := [abc], used := 1 } ∧ LRow w' W.heap.size v [abc] D ∧ Below W.heap.size W w' := by
    intro W X O h
    refine (open_any (Ls := [(1, abc)]) h rfl rfl (by decide) (by rw [k4_len]; decide) 1 6 2 1 0 (by rw [k4_len]; exact ⟨by decide, by decide, by decide, by decide, by decide, fun l h => by simp [RS.new] at h, by decide, by decide⟩) (by decide) k_lay).mono ?_
    rintro e w' ⟨Y, v, R, D, h1, h2, _, h3, _, h4⟩
    exact ⟨Y, v, R, D, h1, h2, h3, h4⟩
  have cNx : ∀ W Y X R rv D, RgM W Y X R { kT2 with recs := [abc], used := 1 } rv D → Calls Try.prog 19 #[.pointer (some ⟨Y, 0, none⟩)] W fun e w' => e = .returned (.int .u64 2) ∧ ∃ k, w' = W.drewN k := fun W Y X R rv D h => next_any h (by decide)
  have cRm : ∀ W Y X R rv D, RgM W Y X R { kT2 with recs := [abc], used := 1 } rv D → Calls Try.prog 14 #[.pointer (some ⟨Y, 0, none⟩)] W fun e w' => e = .returned (.int .i64 5) ∧ ∃ k, w' = W.drewN k := fun W Y X R rv D h => room_any h (N := 8) ⟨by decide, by decide, by decide, by decide, by decide, fun l h => by rw [List.mem_singleton.1 h]; decide, by decide, by decide⟩ (by decide)
  have cNd : ∀ W, Calls Try.prog 10 #[.int .i64 481] W fun e w' => e = .returned (.int .i64 2) ∧ W = w' := fun W => need_any 481 (by decide) W
  go_enter Try.func6, Try.ntmps6
  go_wp2_with (first
    | (go_at_call 7; (with_reducible refine cNew.mono ?_); rintro e w1 ⟨X, O1, rfl, s1, _, _⟩)
    | (go_at_call 8; (with_reducible refine (cOp2 _ _ _ s6).mono ?_); rintro e w7 ⟨Y7, v7, R7, D7, rfl, r7, l7, b7⟩; obtain ⟨A7, c7, rfl, _, _⟩ := own_form l7.row; obtain ⟨g7, o7, rfl, _, hc7⟩ := (Sl.of_own l7.row).at_ (by decide); obtain ⟨u7, hu7⟩ : ∃ u, D7[0]? = some u := ⟨_, List.getElem?_eq_getElem (by have := l7.row.1; rw [this]; decide)⟩; have y7 := hc7 0 u7 hu7; rw [Nat.add_zero] at y7; have hd7 := l7.dat 0 u7 abc hu7 rfl; obtain ⟨A8, c8, rfl, _, _⟩ := own_form hd7; have hs7 := str (Sl.of_own hd7); obtain ⟨rv7, D8, m7⟩ := r7.is; have hn7 := cNx _ _ _ _ _ _ m7)
    | (go_at_call 19; (with_reducible refine hn7.mono ?_); rintro e w8 ⟨rfl, k8, rfl⟩; have hr7 := cRm _ _ _ _ _ _ (m7.below (below_drewN (Below.refl _ _) k8)))
    | (go_at_call 14; (with_reducible refine hr7.mono ?_); rintro e w9 ⟨rfl, k9, rfl⟩)
    | (go_at_call 10; (with_reducible refine (cNd _).mono ?_); rintro e w10 ⟨rfl, rfl⟩)
    | (go_at_call 8; (with_reducible refine (cOpen _ _ _ s1).mono ?_); rintro e w2 ⟨Y, v2, R2, rfl, r2, _, ⟨A2, c2, rfl⟩, _⟩)
    | (go_at_call 11; (with_reducible refine (cApp _ _ _ _ _ r2).mono ?_); rintro e w3 ⟨O3, R3, rfl, r3⟩)
    | (go_at_call 17; (with_reducible refine (cFl _ _ _ _ _ r3).mono ?_); rintro e w4 ⟨rfl, s4⟩)
    | (go_at_call 15; (with_reducible refine (cCr _ _ _ s4).mono ?_); rintro e w5 ⟨rfl, s5, _⟩)
    | (go_at_call 16; (with_reducible refine (cOn _ _ _ s5).mono ?_); rintro e w6 ⟨rfl, s6, _⟩))
  go_ret
  exact ⟨rfl, r7.dsk.bl.trans ((below_drewN (Below.refl _ w7) _).mono r7.dsk.bl.size)⟩
end Rg
end Go.Proofs.Ytbajifioohngdaa
