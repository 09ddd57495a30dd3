/- Package task: Start, Done, Abort: contracts. -/
import Derived.Test.YtgofkofkhkpjbaaTk5
namespace Go.Proofs.Ytgofkofkhkpjbaa
open Go.ChangeShapes Go.WideShapes Go.ChangeAt Go.RowKit Go.Lib
set_option linter.unusedVariables false
set_option linter.unusedSimpArgs false
namespace Tk
theorem flat_set (L : List Tk) (i : Nat) (h : i < L.length) : flat (L.set i { L[i] with st := true }) = (flat L).set (3 * i + 2) (.bool true) := by
  induction L generalizing i with
  | nil => simp at h
  | cons p L ih =>
    have e : flat (p :: L) = p.cells ++ flat L := rfl
    cases i with
    | zero =>
      rw [List.set_cons_zero, e]
      rfl
    | succ i =>
      have h2 : i < L.length := by simpa using h
      rw [List.set_cons_succ, e, show (p :: L)[i + 1] = L[i] from rfl]
      show p.cells ++ flat (L.set i { L[i] with st := true }) = _
      rw [ih i h2, List.set_append_right _ _ (by simp [Tk.cells]; omega)]
      congr 2
theorem own_put3 {w : World} {B e sz n c g i : Nat} {xs : List Value} (ho : w.ownsRow B e sz (.slice (some ⟨g, 0, none⟩) n c) n xs) (hi : i < n * sz) (u : Value) : (w.setCell ⟨g, i, none⟩ u).ownsRow B e sz (.slice (some ⟨g, 0, none⟩) n c) n (xs.set i u) := by
  rcases ho.2 with ⟨hv, h0⟩ | ⟨g', cap, cur, hv, hBg, hg, hnc, hcm, hcs, htk⟩
  · cases hv
  simp only [Value.slice.injEq, Option.some.injEq, Addr.mk.injEq, and_true, true_and] at hv
  obtain ⟨rfl, rfl⟩ := hv
  refine ⟨by rw [List.length_set]; exact ho.1, .inr ⟨g, c, cur.setIfInBounds i u, rfl, hBg, (show Mem w g e cur from hg).put i u, hnc, hcm, by simpa using hcs, ?_⟩⟩
  rw [Array.toList_setIfInBounds, ← htk, List.take_set]
section
variable {w w' : World} {B X m : Nat} {v : Value} {L : List Tk}
theorem own_at_none {L : List Tk} {A : Option Addr} {c : Nat} (ho : w.ownsRow B 42 3 (.slice A L.length c) L.length (flat L)) (hn : A = none) : L.length = 0 := by
  subst hn
  rcases ho.2 with ⟨hv, h0⟩ | ⟨g', cap, cur, hv, _⟩
  · injection hv
  · cases hv
set_option maxHeartbeats 2000000 in
theorem start_ok (h : TkM w B X m v L) (hat : ∀ t ∈ L, t.attr = 0 ∨ t.attr = 1 ∨ t.attr = 2) (tag i : Nat) (hi : L.findIdx? (fun x => x.tag == tag) = some i) (hil : i < L.length) (hen : tag ∈ enTo L L.length) : Calls Try.prog 8 #[.pointer (some ⟨X, 0, none⟩), .int .u32 (tag : Nat)] w fun e w' => e = .returned (.int .i64 0) ∧ Stp w w' B X m v (L.set i { L[i] with st := true }) := by
  have hp := place_any h tag
  rw [hi] at hp
  have hp : Calls Try.prog 14 #[.pointer (some ⟨X, 0, none⟩), .int .u32 (tag : Nat)] w fun e w' => e = .returned (.int .i64 (i : Nat)) ∧ Below w.heap.size w w' := hp
  obtain ⟨A, c, rfl, hc1, hc2⟩ := h.parts
  have hG : ∀ W, Below w.heap.size w W → TkM W B X m (.slice A L.length c) L := fun W hW => h.below hW
  have hE : ∀ W, TkM W B X m (.slice A L.length c) L → Calls Try.prog 7 #[.pointer (some ⟨X, 0, none⟩)] W _ := fun W hW => enabled_any hW hat
  have hC : ∀ (W : World) u, W.ownsRow 0 28 1 u (enTo L L.length).length (us (enTo L L.length)) → Calls Try.prog 18 #[u, .int .u32 (tag : Nat)] W fun e w' => e = .returned (.bool true) ∧ W = w' := fun W u hu => by
    have := contains_any (w := W) (enTo L L.length) tag (Sl.of_own hu)
    rwa [decide_eq_true hen] at this
  have hix : (i : Int) < (L.length : Int) := by omega
  obtain ⟨g, rfl, hBg, hgl, _⟩ := row_at h.row hil
  have hfin : ∀ W, Below w.heap.size w W → Stp w (W.setCell ⟨g, i * 3 + 2, none⟩ (.bool true)) B X m (.slice (some ⟨g, 0, none⟩) L.length c) (L.set i { L[i] with st := true }) := fun W hW => by
    have hm := hG W hW
    have ho := own_put3 (i := i * 3 + 2) hm.row (by omega) (.bool true)
    have hgx : X ≠ g := fun e => hm.apart (by rw [e]; rfl)
    have hS : Eff (fun k => k = g) W (W.setCell ⟨g, i * 3 + 2, none⟩ (.bool true)) := Eff.setCell (S := fun k => k = g) (Eff.refl _ W) (p := ⟨g, i * 3 + 2, none⟩) rfl _
    refine ⟨_, ⟨hm.base, hm.mem.eff hS hgx, ?_, by rw [List.length_set]; exact hm.few⟩, (Eff.of hW).trans (hS.mono (T := NS X (.slice (some ⟨g, 0, none⟩) L.length c)) fun k _ e => by rw [e]; exact .inr rfl) fun _ _ h => h, fun k hk => .inl hk⟩
    rw [List.length_set, flat_set L i hil, show 3 * i + 2 = i * 3 + 2 by omega]
    exact ho
  have hcells : ∀ W, Below w.heap.size w W → W.cell? ⟨g, i * 3 + 2, none⟩ = some (.bool L[i].st) ∧ W.frozen? ⟨g, i * 3 + 2, none⟩ = false := fun W hW => by
    obtain ⟨g', hg', _, _, _, _, y2⟩ := row_at (hG W hW).row hil
    injection hg' with hg'
    injection hg' with hg'
    subst hg'
    exact ⟨y2, own_free (hG W hW).row _⟩
  generalize enTo L L.length = K at *
  generalize L.set i { L[i] with st := true } = L' at *
  clear hi h hen hat
  go_enter Try.func8, Try.ntmps8
  go_wp2_with (first
    | (go_at_call 14; (with_reducible refine hp.mono ?_); rintro e w5 ⟨rfl, hb5⟩; have h5 := hG _ hb5)
    | (go_at_call 7; (with_reducible refine (hE _ h5).mono ?_); rintro e w6 ⟨v6, rfl, ho6, hb6⟩; have B6 := hb5.trans (hb6.mono hb5.size); obtain ⟨A6, c6, rfl, _, _⟩ := own_form ho6)
    | (go_at_call 18; (with_reducible refine (hC _ _ (owns_mono ho6 (Nat.zero_le _))).mono ?_); rintro e w7 ⟨rfl, rfl⟩; have z1 := (hG _ B6).mem.cell 1; have z2 := (hcells _ B6).1; have z3 := (hcells _ B6).2))
  go_ret
  exact ⟨rfl, hfin _ B6⟩
theorem start_bad (h : TkM w B X m v L) (hat : ∀ t ∈ L, t.attr = 0 ∨ t.attr = 1 ∨ t.attr = 2) (tag i : Nat) (hi : L.findIdx? (fun x => x.tag == tag) = some i) (hen : ¬ tag ∈ enTo L L.length) : Calls Try.prog 8 #[.pointer (some ⟨X, 0, none⟩), .int .u32 (tag : Nat)] w fun e w' => e = .returned (.int .i64 1) ∧ Below w.heap.size w w' := by
  have hp := place_any h tag
  rw [hi] at hp
  have hp : Calls Try.prog 14 #[.pointer (some ⟨X, 0, none⟩), .int .u32 (tag : Nat)] w fun e w' => e = .returned (.int .i64 (i : Nat)) ∧ Below w.heap.size w w' := hp
  have hE : ∀ W, TkM W B X m v L → Calls Try.prog 7 #[.pointer (some ⟨X, 0, none⟩)] W _ := fun W hW => enabled_any hW hat
  have hC : ∀ (W : World) u, W.ownsRow 0 28 1 u (enTo L L.length).length (us (enTo L L.length)) → Calls Try.prog 18 #[u, .int .u32 (tag : Nat)] W fun e w' => e = .returned (.bool false) ∧ W = w' := fun W u hu => by
    have := contains_any (w := W) (enTo L L.length) tag (Sl.of_own hu)
    rwa [decide_eq_false hen] at this
  have hG : ∀ W, Below w.heap.size w W → TkM W B X m v L := fun W hW => h.below hW
  generalize enTo L L.length = K at *
  clear hi h hen hat
  go_enter Try.func8, Try.ntmps8
  go_wp2_with (first
    | (go_at_call 14; (with_reducible refine hp.mono ?_); rintro e w5 ⟨rfl, hb5⟩; have h5 := hG _ hb5)
    | (go_at_call 7; (with_reducible refine (hE _ h5).mono ?_); rintro e w6 ⟨v6, rfl, ho6, hb6⟩; have B6 := hb5.trans (hb6.mono hb5.size); obtain ⟨A6, c6, rfl, _, _⟩ := own_form ho6)
    | (go_at_call 18; (with_reducible refine (hC _ _ (owns_mono ho6 (Nat.zero_le _))).mono ?_); rintro e w7 ⟨rfl, rfl⟩))
  go_ret
  exact ⟨rfl, B6⟩
theorem done_bad (h : TkM w B X m v L) (tag i : Nat) (hi : L.findIdx? (fun x => x.tag == tag) = some i) (hil : i < L.length) (hs : L[i].st = false) : Calls Try.prog 9 #[.pointer (some ⟨X, 0, none⟩), .int .u32 (tag : Nat)] w fun e w' => e = .returned (.int .i64 1) ∧ Below w.heap.size w w' := by
  have hp := place_any h tag
  rw [hi] at hp
  have hp : Calls Try.prog 14 #[.pointer (some ⟨X, 0, none⟩), .int .u32 (tag : Nat)] w fun e w' => e = .returned (.int .i64 (i : Nat)) ∧ Below w.heap.size w w' := hp
  obtain ⟨A, c, rfl, hc1, hc2⟩ := h.parts
  have hix : (i : Int) < (L.length : Int) := by omega
  obtain ⟨g, rfl, hBg, hgl, _, _, y2⟩ := row_at h.row hil
  rw [hs] at y2
  have hG : ∀ W, Below w.heap.size w W → W.cell? ⟨X, 1, none⟩ = some (.slice (some ⟨g, 0, none⟩) L.length c) ∧ W.cell? ⟨g, i * 3 + 2, none⟩ = some (.bool false) := fun W hW => ⟨(h.below hW).mem.cell 1, (hW.cell (p := ⟨g, _, none⟩) hgl).trans y2⟩
  have hfew := h.few
  clear hi h hs y2
  go_enter Try.func9, Try.ntmps9
  go_wp2_with (go_at_call 14; (with_reducible refine hp.mono ?_); rintro e w5 ⟨rfl, hb5⟩; have z1 := (hG _ hb5).1; have z2 := (hG _ hb5).2)
  go_ret
  exact ⟨rfl, hb5⟩
theorem erase_fin {W w7 : World} {g c i : Nat} (h : TkM w B X m (.slice (some ⟨g, 0, none⟩) L.length c) L) (hil : i < L.length) (hW : Below w.heap.size w W) (ho : w7.ownsRow B 42 3 (.slice (some ⟨g, 0, none⟩) (L.length - 1) c) (L.length - 1) (flat (L.eraseIdx i))) (he : Eff (fun k => (Value.slice (some ⟨g, 0, none⟩) L.length c).ownBlock = some k) W w7) : Stp w (w7.setCell ⟨X, 1, none⟩ (.slice (some ⟨g, 0, none⟩) (L.length - 1) c)) B X m (.slice (some ⟨g, 0, none⟩) L.length c) (L.eraseIdx i) := by
  have hl : (L.eraseIdx i).length = L.length - 1 := List.length_eraseIdx_of_lt hil
  exact stp_set h hW he (by rw [hl]; exact ho) (fun k hk => .inl hk) (by rw [hl]; have := h.few; omega)
theorem done_ok (h : TkM w B X m v L) (tag i : Nat) (hi : L.findIdx? (fun x => x.tag == tag) = some i) (hil : i < L.length) (hs : L[i].st = true) : Calls Try.prog 9 #[.pointer (some ⟨X, 0, none⟩), .int .u32 (tag : Nat)] w fun e w' => e = .returned (.int .i64 0) ∧ Stp w w' B X m v (L.eraseIdx i) := by
  have hp := place_any h tag
  rw [hi] at hp
  have hp : Calls Try.prog 14 #[.pointer (some ⟨X, 0, none⟩), .int .u32 (tag : Nat)] w fun e w' => e = .returned (.int .i64 (i : Nat)) ∧ Below w.heap.size w w' := hp
  obtain ⟨A, c, rfl, hc1, hc2⟩ := h.parts
  have hix : (i : Int) < (L.length : Int) := by omega
  obtain ⟨g, rfl, hBg, hgl, _, _, y2⟩ := row_at h.row hil
  rw [hs] at y2
  have hG : ∀ W, Below w.heap.size w W → W.cell? ⟨X, 1, none⟩ = some (.slice (some ⟨g, 0, none⟩) L.length c) ∧ W.cell? ⟨g, i * 3 + 2, none⟩ = some (.bool true) := fun W hW => ⟨(h.below hW).mem.cell 1, (hW.cell (p := ⟨g, _, none⟩) hgl).trans y2⟩
  have hD : ∀ W, Below w.heap.size w W → Calls Try.prog 19 #[.slice (some ⟨g, 0, none⟩) L.length c, .int .i64 (i : Nat), .int .i64 ((i : Int) + 1)] W fun e w' => e = .returned (.slice (some ⟨g, 0, none⟩) (L.length - 1) c) ∧ Stp w (w'.setCell ⟨X, 1, none⟩ (.slice (some ⟨g, 0, none⟩) (L.length - 1) c)) B X m (.slice (some ⟨g, 0, none⟩) L.length c) (L.eraseIdx i) ∧ Mem w' X 38 #[.int .i64 (m : Nat), .slice (some ⟨g, 0, none⟩) L.length c] := fun W hW => (del_any B (some ⟨g, 0, none⟩) c L i hil W (h.below hW).row).mono fun e w' ⟨h1, h2, h3⟩ => ⟨h1, erase_fin h hil hW h2 h3, (h.below hW).mem.eff h3 h.apart⟩
  have hfew := h.few
  clear hi h hs y2
  go_enter Try.func9, Try.ntmps9
  go_wp2_with (first
    | (go_at_call 14; (with_reducible refine hp.mono ?_); rintro e w5 ⟨rfl, hb5⟩; have z1 := (hG _ hb5).1; have z2 := (hG _ hb5).2)
    | (go_at_call 19; (with_reducible refine (hD _ hb5).mono ?_); rintro e w6 ⟨rfl, h6, m6⟩; have z5 := m6.cell 1; have z6 := m6.free 1))
  go_ret
  exact ⟨rfl, h6⟩
theorem abort_ok (h : TkM w B X m v L) (tag i : Nat) (hi : L.findIdx? (fun x => x.tag == tag) = some i) (hil : i < L.length) : Calls Try.prog 12 #[.pointer (some ⟨X, 0, none⟩), .int .u32 (tag : Nat)] w fun e w' => e = .returned (.bool true) ∧ Stp w w' B X m v (L.eraseIdx i) := by
  have hp := place_any h tag
  rw [hi] at hp
  have hp : Calls Try.prog 14 #[.pointer (some ⟨X, 0, none⟩), .int .u32 (tag : Nat)] w fun e w' => e = .returned (.int .i64 (i : Nat)) ∧ Below w.heap.size w w' := hp
  obtain ⟨A, c, rfl, hc1, hc2⟩ := h.parts
  have hix : (i : Int) < (L.length : Int) := by omega
  obtain ⟨g, rfl, hBg, hgl, _⟩ := row_at h.row hil
  have hG : ∀ W, Below w.heap.size w W → W.cell? ⟨X, 1, none⟩ = some (.slice (some ⟨g, 0, none⟩) L.length c) := fun W hW => (h.below hW).mem.cell 1
  have hD : ∀ W, Below w.heap.size w W → Calls Try.prog 19 #[.slice (some ⟨g, 0, none⟩) L.length c, .int .i64 (i : Nat), .int .i64 ((i : Int) + 1)] W fun e w' => e = .returned (.slice (some ⟨g, 0, none⟩) (L.length - 1) c) ∧ Stp w (w'.setCell ⟨X, 1, none⟩ (.slice (some ⟨g, 0, none⟩) (L.length - 1) c)) B X m (.slice (some ⟨g, 0, none⟩) L.length c) (L.eraseIdx i) ∧ Mem w' X 38 #[.int .i64 (m : Nat), .slice (some ⟨g, 0, none⟩) L.length c] := fun W hW => (del_any B (some ⟨g, 0, none⟩) c L i hil W (h.below hW).row).mono fun e w' ⟨h1, h2, h3⟩ => ⟨h1, erase_fin h hil hW h2 h3, (h.below hW).mem.eff h3 h.apart⟩
  have hfew := h.few
  clear hi h
  go_enter Try.func12, Try.ntmps12
  go_wp2_with (first
    | (go_at_call 14; (with_reducible refine hp.mono ?_); rintro e w5 ⟨rfl, hb5⟩; have z1 := hG _ hb5)
    | (go_at_call 19; (with_reducible refine (hD _ hb5).mono ?_); rintro e w6 ⟨rfl, h6, m6⟩; have z5 := m6.cell 1; have z6 := m6.free 1))
  go_ret
  exact ⟨rfl, h6⟩
end
end Tk
end Go.Proofs.Ytgofkofkhkpjbaa
