/- Package task: a set made since a world; gemellaw16.known. -/
import Derived.Test.YtgofkofkhkpjbaaTk6
namespace Go.Proofs.Ytgofkofkhkpjbaa
open Go.ChangeShapes Go.WideShapes Go.ChangeAt Go.RowKit Go.Lib
set_option linter.unusedVariables false
set_option linter.unusedSimpArgs false
namespace Tk
/-- A set made since o. -/
structure Tsk (o w : World) (X m : Nat) (L : List Tk) : Prop where
  is : ∃ v, TkM w o.heap.size X m v L
  bl : Below o.heap.size o w
  at_ : ∀ t ∈ L, t.attr = 0 ∨ t.attr = 1 ∨ t.attr = 2
section
variable {o w w' : World} {X m : Nat} {L L' : List Tk}
theorem Tsk.below (h : Tsk o w X m L) (hb : Below w.heap.size w w') : Tsk o w' X m L := ⟨h.is.imp fun v hv => hv.below hb, h.bl.trans (hb.mono h.bl.size), h.at_⟩
theorem Tsk.stp (h : Tsk o w X m L) {v : Value} (hv : TkM w o.heap.size X m v L) (hs : Stp w w' o.heap.size X m v L') (ha : ∀ t ∈ L', t.attr = 0 ∨ t.attr = 1 ∨ t.attr = 2) : Tsk o w' X m L' := by
  obtain ⟨v', h1, h2, h3⟩ := hs
  exact ⟨⟨v', h1⟩, h2.below h.bl h.bl.size fun k hk hS => (hv.ns k hS).2.1, ha⟩
theorem t_new (m : Nat) (h1 : 1 ≤ m) (h2 : m ≤ 256) (hb : Below o.heap.size o w) : Calls Try.prog 5 #[.int .i64 (m : Nat)] w fun e w' => ∃ X, e = .returned (.tuple #[.pointer (some ⟨X, 0, none⟩), .int .i64 0]) ∧ Tsk o w' X m [] :=
  (new_ok m h1 h2 w hb.size).mono fun e w' ⟨X, h3, _, h5, h6⟩ => ⟨X, h3, ⟨_, h5⟩, hb.trans (h6.mono hb.size), fun t ht => by cases ht⟩
theorem t_put (h : Tsk o w X m L) (tag : Nat) (a : Int) (ha : a = 0 ∨ a = 1 ∨ a = 2) (hi : L.findIdx? (fun x => x.tag == tag) = none) (hm : L.length < m) (hm2 : m ≤ 256) (hL : ins L (atOf L a) ⟨tag, a, false⟩ = L') : Calls Try.prog 6 #[.pointer (some ⟨X, 0, none⟩), .int .u32 (tag : Nat), .int .i64 a] w fun e w' => e = .returned (.int .i64 0) ∧ Tsk o w' X m L' := by
  obtain ⟨v, hv⟩ := h.is
  refine (put_ok hv h.bl.size tag a ha hi hm hm2).mono fun e w' ⟨h1, h2⟩ => ⟨h1, h.stp hv (hL ▸ h2) ?_⟩
  intro t ht
  rw [← hL] at ht
  unfold ins at ht
  rcases List.mem_append.1 ht with ht | ht
  · exact h.at_ t (List.mem_of_mem_take ht)
  · rcases List.mem_cons.1 ht with rfl | ht
    · exact ha
    · exact h.at_ t (List.mem_of_mem_drop ht)
theorem t_dup (h : Tsk o w X m L) (tag : Nat) (a : Int) (ha : a = 0 ∨ a = 1 ∨ a = 2) (i : Nat) (hi : L.findIdx? (fun x => x.tag == tag) = some i) : Calls Try.prog 6 #[.pointer (some ⟨X, 0, none⟩), .int .u32 (tag : Nat), .int .i64 a] w fun e w' => e = .returned (.int .i64 1) ∧ Tsk o w' X m L := by
  obtain ⟨v, hv⟩ := h.is
  exact (put_dup hv tag a ha i hi).mono fun e w' ⟨h1, h2⟩ => ⟨h1, h.below h2⟩
theorem t_full (h : Tsk o w X m L) (tag : Nat) (a : Int) (ha : a = 0 ∨ a = 1 ∨ a = 2) (hi : L.findIdx? (fun x => x.tag == tag) = none) (hm : m ≤ L.length) : Calls Try.prog 6 #[.pointer (some ⟨X, 0, none⟩), .int .u32 (tag : Nat), .int .i64 a] w fun e w' => e = .returned (.int .i64 7) ∧ Tsk o w' X m L := by
  obtain ⟨v, hv⟩ := h.is
  exact (put_full hv tag a ha hi hm).mono fun e w' ⟨h1, h2⟩ => ⟨h1, h.below h2⟩
theorem t_start (h : Tsk o w X m L) (tag i : Nat) (hi : L.findIdx? (fun x => x.tag == tag) = some i) (hil : i < L.length) (hen : tag ∈ enTo L L.length) (hL : L.set i { L[i] with st := true } = L') : Calls Try.prog 8 #[.pointer (some ⟨X, 0, none⟩), .int .u32 (tag : Nat)] w fun e w' => e = .returned (.int .i64 0) ∧ Tsk o w' X m L' := by
  obtain ⟨v, hv⟩ := h.is
  refine (start_ok hv h.at_ tag i hi hil hen).mono fun e w' ⟨h1, h2⟩ => ⟨h1, h.stp hv (hL ▸ h2) ?_⟩
  intro t ht
  rw [← hL] at ht
  rcases List.mem_or_eq_of_mem_set ht with ht | rfl
  · exact h.at_ t ht
  · exact h.at_ L[i] (List.getElem_mem hil)
theorem t_start_bad (h : Tsk o w X m L) (tag i : Nat) (hi : L.findIdx? (fun x => x.tag == tag) = some i) (hen : ¬ tag ∈ enTo L L.length) : Calls Try.prog 8 #[.pointer (some ⟨X, 0, none⟩), .int .u32 (tag : Nat)] w fun e w' => e = .returned (.int .i64 1) ∧ Tsk o w' X m L := by
  obtain ⟨v, hv⟩ := h.is
  exact (start_bad hv h.at_ tag i hi hen).mono fun e w' ⟨h1, h2⟩ => ⟨h1, h.below h2⟩
theorem t_done (h : Tsk o w X m L) (tag i : Nat) (hi : L.findIdx? (fun x => x.tag == tag) = some i) (hil : i < L.length) (hs : L[i].st = true) (hL : L.eraseIdx i = L') : Calls Try.prog 9 #[.pointer (some ⟨X, 0, none⟩), .int .u32 (tag : Nat)] w fun e w' => e = .returned (.int .i64 0) ∧ Tsk o w' X m L' := by
  obtain ⟨v, hv⟩ := h.is
  exact (done_ok hv tag i hi hil hs).mono fun e w' ⟨h1, h2⟩ => ⟨h1, h.stp hv (hL ▸ h2) fun t ht => h.at_ t (List.mem_of_mem_eraseIdx (hL ▸ ht))⟩
theorem t_done_bad (h : Tsk o w X m L) (tag i : Nat) (hi : L.findIdx? (fun x => x.tag == tag) = some i) (hil : i < L.length) (hs : L[i].st = false) : Calls Try.prog 9 #[.pointer (some ⟨X, 0, none⟩), .int .u32 (tag : Nat)] w fun e w' => e = .returned (.int .i64 1) ∧ Tsk o w' X m L := by
  obtain ⟨v, hv⟩ := h.is
  exact (done_bad hv tag i hi hil hs).mono fun e w' ⟨h1, h2⟩ => ⟨h1, h.below h2⟩
theorem t_abort (h : Tsk o w X m L) (tag i : Nat) (hi : L.findIdx? (fun x => x.tag == tag) = some i) (hil : i < L.length) (hL : L.eraseIdx i = L') : Calls Try.prog 12 #[.pointer (some ⟨X, 0, none⟩), .int .u32 (tag : Nat)] w fun e w' => e = .returned (.bool true) ∧ Tsk o w' X m L' := by
  obtain ⟨v, hv⟩ := h.is
  exact (abort_ok hv tag i hi hil).mono fun e w' ⟨h1, h2⟩ => ⟨h1, h.stp hv (hL ▸ h2) fun t ht => h.at_ t (List.mem_of_mem_eraseIdx (hL ▸ ht))⟩
theorem t_enabled (h : Tsk o w X m L) (K : List Nat) (hK : enTo L L.length = K) : Calls Try.prog 7 #[.pointer (some ⟨X, 0, none⟩)] w fun e w' => ∃ A c, e = .returned (.slice A K.length c) ∧ w'.ownsRow o.heap.size 28 1 (.slice A K.length c) K.length (us K) ∧ Tsk o w' X m L ∧ Below w.heap.size w w' := by
  obtain ⟨v, hv⟩ := h.is
  refine (enabled_any hv h.at_).mono fun e w' ⟨v', h1, h2, h3⟩ => ?_
  rw [hK] at h2
  obtain ⟨A, c, rfl, _, _⟩ := own_form h2
  exact ⟨A, c, h1, owns_mono h2 h.bl.size, h.below h3, h3⟩
theorem t_waiting (h : Tsk o w X m L) (K : List Nat) (hK : waTo L L.length = K) : Calls Try.prog 13 #[.pointer (some ⟨X, 0, none⟩)] w fun e w' => ∃ A c, e = .returned (.slice A K.length c) ∧ w'.ownsRow o.heap.size 28 1 (.slice A K.length c) K.length (us K) ∧ Tsk o w' X m L ∧ Below w.heap.size w w' := by
  obtain ⟨v, hv⟩ := h.is
  refine (waiting_any hv).mono fun e w' ⟨v', h1, h2, h3⟩ => ?_
  rw [hK] at h2
  obtain ⟨A, c, rfl, _, _⟩ := own_form h2
  exact ⟨A, c, h1, owns_mono h2 h.bl.size, h.below h3, h3⟩
theorem t_len (h : Tsk o w X m L) : Calls Try.prog 10 #[.pointer (some ⟨X, 0, none⟩)] w fun e w' => e = .returned (.int .i64 (L.length : Nat)) ∧ w = w' := by
  obtain ⟨v, hv⟩ := h.is
  exact len_any hv
end
def k1 : List Tk := [⟨1, 0, false⟩]
def k2 : List Tk := [⟨1, 0, false⟩, ⟨2, 1, false⟩]
def k3 : List Tk := [⟨3, 2, false⟩, ⟨1, 0, false⟩, ⟨2, 1, false⟩]
set_option maxRecDepth 100000 in
set_option maxHeartbeats 4000000 in
theorem known_any (w : World) : Calls Try.prog 4 #[] w fun e w' => e = .returned (.bool true) ∧ Below w.heap.size w w' := by
  have cN : Calls Try.prog 5 #[.int .i64 4] w fun e w' => ∃ X, e = .returned (.tuple #[.pointer (some ⟨X, 0, none⟩), .int .i64 0]) ∧ Tsk w w' X 4 [] := t_new (o := w) (w := w) 4 (by decide) (by decide) (Below.refl _ w)
  have c1 : ∀ X W, Tsk w W X 4 [] → Calls Try.prog 6 #[.pointer (some ⟨X, 0, none⟩), .int .u32 1, .int .i64 0] W fun e w' => e = .returned (.int .i64 0) ∧ Tsk w w' X 4 k1 := fun X W h => t_put h 1 0 (.inl rfl) rfl (by decide) (by decide) rfl
  have c2 : ∀ X W, Tsk w W X 4 k1 → Calls Try.prog 6 #[.pointer (some ⟨X, 0, none⟩), .int .u32 2, .int .i64 1] W fun e w' => e = .returned (.int .i64 0) ∧ Tsk w w' X 4 k2 := fun X W h => t_put h 2 1 (.inr (.inl rfl)) rfl (by decide) (by decide) rfl
  have c3 : ∀ X W, Tsk w W X 4 k2 → Calls Try.prog 6 #[.pointer (some ⟨X, 0, none⟩), .int .u32 3, .int .i64 2] W fun e w' => e = .returned (.int .i64 0) ∧ Tsk w w' X 4 k3 := fun X W h => t_put h 3 2 (.inr (.inr rfl)) rfl (by decide) (by decide) rfl
  have cE : ∀ X W, Tsk w W X 4 k3 → Calls Try.prog 7 #[.pointer (some ⟨X, 0, none⟩)] W fun e w' => ∃ A c, e = .returned (.slice A 1 c) ∧ w'.ownsRow w.heap.size 28 1 (.slice A 1 c) 1 [.int .u32 3] ∧ Tsk w w' X 4 k3 ∧ Below W.heap.size W w' := fun X W h => t_enabled h [3] rfl
  have cS2 : ∀ X W, Tsk w W X 4 k3 → Calls Try.prog 8 #[.pointer (some ⟨X, 0, none⟩), .int .u32 2] W fun e w' => e = .returned (.int .i64 1) ∧ Below W.heap.size W w' ∧ Tsk w w' X 4 k3 := fun X W h => by
    obtain ⟨v, hv⟩ := h.is
    exact (start_bad hv h.at_ 2 2 rfl (by decide)).mono fun e w' ⟨h1, h2⟩ => ⟨h1, h2, h.below h2⟩
  have cS1 : ∀ X W, Tsk w W X 4 k3 → Calls Try.prog 8 #[.pointer (some ⟨X, 0, none⟩), .int .u32 1] W fun e w' => e = .returned (.int .i64 1) ∧ Below W.heap.size W w' ∧ Tsk w w' X 4 k3 := fun X W h => by
    obtain ⟨v, hv⟩ := h.is
    exact (start_bad hv h.at_ 1 1 rfl (by decide)).mono fun e w' ⟨h1, h2⟩ => ⟨h1, h2, h.below h2⟩
  have cD : ∀ X W, Tsk w W X 4 k3 → Calls Try.prog 9 #[.pointer (some ⟨X, 0, none⟩), .int .u32 1] W fun e w' => e = .returned (.int .i64 1) ∧ Below W.heap.size W w' ∧ Tsk w w' X 4 k3 := fun X W h => by
    obtain ⟨v, hv⟩ := h.is
    exact (done_bad hv 1 1 rfl (by decide) rfl).mono fun e w' ⟨h1, h2⟩ => ⟨h1, h2, h.below h2⟩
  have cA : ∀ X W, Tsk w W X 4 k3 → Calls Try.prog 12 #[.pointer (some ⟨X, 0, none⟩), .int .u32 3] W fun e w' => e = .returned (.bool true) ∧ Tsk w w' X 4 k2 := fun X W h => t_abort h 3 0 rfl (by decide) rfl
  have cE2 : ∀ X W, Tsk w W X 4 k2 → Calls Try.prog 7 #[.pointer (some ⟨X, 0, none⟩)] W fun e w' => ∃ A c, e = .returned (.slice A 1 c) ∧ Tsk w w' X 4 k2 := fun X W h => (t_enabled h [1] rfl).mono fun e w' ⟨A, c, h1, _, h2, _⟩ => ⟨A, c, h1, h2⟩
  have cL : ∀ X W, Tsk w W X 4 k2 → Calls Try.prog 10 #[.pointer (some ⟨X, 0, none⟩)] W fun e w' => e = .returned (.int .i64 2) ∧ W = w' := fun X W h => t_len h
  have cW : ∀ X W, Tsk w W X 4 k2 → Calls Try.prog 13 #[.pointer (some ⟨X, 0, none⟩)] W fun e w' => ∃ A c, e = .returned (.slice A 2 c) ∧ Tsk w w' X 4 k2 := fun X W h => (t_waiting h [1, 2] rfl).mono fun e w' ⟨A, c, h1, _, h2, _⟩ => ⟨A, c, h1, h2⟩
  go_enter Try.func4, Try.ntmps4
  go_wp2_with (first
    | (go_at_call 5; (with_reducible refine cN.mono ?_); rintro e w1 ⟨X, rfl, h1⟩)
    | (go_at_call 6; (with_reducible refine (c1 _ _ h1).mono ?_); rintro e w2 ⟨rfl, h2⟩)
    | (go_at_call 6; (with_reducible refine (c2 _ _ h2).mono ?_); rintro e w3 ⟨rfl, h3⟩)
    | (go_at_call 6; (with_reducible refine (c3 _ _ h3).mono ?_); rintro e w4 ⟨rfl, h4⟩)
    | (go_at_call 7; (with_reducible refine (cE _ _ h4).mono ?_); rintro e w5 ⟨A5, c5, rfl, ho5, h5, hb5⟩)
    | (go_at_call 8; (with_reducible refine (cS2 _ _ h5).mono ?_); rintro e w6 ⟨rfl, hb6, h6⟩)
    | (go_at_call 8; (with_reducible refine (cS1 _ _ h6).mono ?_); rintro e w7 ⟨rfl, hb7, h7⟩)
    | (go_at_call 9; (with_reducible refine (cD _ _ h7).mono ?_); rintro e w8 ⟨rfl, hb8, h8⟩; have o8 := owns_below (owns_below (owns_below ho5 hb6) hb7) hb8; obtain ⟨b8, f8, rfl, _, hc8⟩ := (Sl.of_own o8).at_ (by decide); have z0 : w8.cell? ⟨b8, f8, none⟩ = some (.int .u32 3) := hc8 0 _ rfl; clear hc8)
    | (go_at_call 12; (with_reducible refine (cA _ _ h8).mono ?_); rintro e w9 ⟨rfl, h9⟩)
    | (go_at_call 7; (with_reducible refine (cE2 _ _ h9).mono ?_); rintro e wa ⟨Aa, ca, rfl, ha⟩)
    | (go_at_call 10; (with_reducible refine (cL _ _ ha).mono ?_); rintro e wb ⟨rfl, rfl⟩)
    | (go_at_call 13; (with_reducible refine (cW _ _ ha).mono ?_); rintro e wc ⟨Ac, cc, rfl, hc⟩))
  all_goals
    go_ret
    exact ⟨rfl, hc.bl⟩
end Tk
end Go.Proofs.Ytgofkofkhkpjbaa
