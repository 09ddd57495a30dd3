/- Package gemellaw25: known; a path's bytes are opened. -/
import Derived.Test.YtoogmdokcndieaaMp4
import Derived.Test.YtoogmdokcndieaaSealR
import Derived.BigQuiet
import Derived.Deep.QuietTactic
namespace Go.Proofs.Ytoogmdokcndieaa
open Go.ChangeShapes Go.WideShapes Go.ChangeAt Go.RowKit Go.Lib
set_option linter.unusedVariables false
set_option linter.unusedSimpArgs false
set_option maxRecDepth 100000
theorem own : ownKnob Try.prog.godebug = none := by kernel_rfl
theorem laidOut : laidOutB Try.prog = true := by kernel_rfl
namespace Nw
set_option maxHeartbeats 4000000 in
theorem known_any (w : World) : Calls Try.prog 4 #[] w fun e' w' => e' = .returned (.bool true) ∧ Below w.heap.size w w' := by
  have d1 : Calls Try.prog 5 #[.int .i64 1] w fun e' w' => ∃ X Y, e' = .returned (.tuple #[.pointer (some ⟨X, 0, none⟩), .int .i64 0]) ∧ Pt w' (fun k => w.heap.size ≤ k) X Y 1 [] [] ∧ Below w.heap.size w w' := pt_new w 1 (by omega)
  have d2 : ∀ X Y W, Pt W (fun k => w.heap.size ≤ k) X Y 1 [] [] → w.heap.size ≤ W.heap.size → Calls Try.prog 6 #[.pointer (some ⟨X, 0, none⟩), .agg #[.int .i64 2, .int .i64 0, .int .i64 1, .slice none 0 0, .int .u64 0, .int .u64 0, .int .i64 0, .bool false]] W fun e' w' => e' = .returned (.tuple #[.int .u64 1, .int .i64 0]) ∧ ∃ v S', Pt w' (fun k => w.heap.size ≤ k) X Y 1 [⟨1, ⟨2, 0, 1, 0, 0, 0, false⟩, v, [], true⟩] S' ∧ Eff (fun k => w.heap.size ≤ k) W w' := fun X Y W h hs => (submit_any h (by simp) ⟨2, 0, 1, 0, 0, 0, false⟩ (by decide) (.slice none 0 0) [] 0 (Nat.zero_le _) (fun _ _ => Nat.zero_le _) Sl.nil_ (by simp)).mono fun e' w' ⟨q1, v, S', q2, q3⟩ => ⟨q1, v, S', q2.more fun k _ hk => hk.elim id fun h => Nat.le_trans hs h, q3⟩
  have d3 : ∀ X Y S v W, Pt W (fun k => w.heap.size ≤ k) X Y 1 [⟨1, ⟨2, 0, 1, 0, 0, 0, false⟩, v, [], true⟩] S → Calls Try.prog 7 #[.pointer (some ⟨X, 0, none⟩)] W fun e' w' => ∃ A c us its', e' = .returned (.slice A 1 c) ∧ (∃ g, A = some ⟨g, 0, none⟩ ∧ w'.cell? ⟨g, 0, none⟩ = some (.int .i64 0) ∧ g < w'.heap.size) ∧ Pt w' (fun k => w.heap.size ≤ k) X Y 1 its' S ∧ its'.length = 1 ∧ Eff (fun k => w.heap.size ≤ k) W w' := fun X Y S v W h => (out_any h (by simp) (by omega) (by
    intro i x hx
    have := List.mem_of_getElem? hx
    obtain rfl := List.mem_singleton.1 this
    exact ⟨rfl, ⟨by show (0 : Nat) < _; decide, by show (0 : Nat) < _; decide⟩, by simp⟩)).mono fun e' w' ⟨u, us, its', q1, q2, q3, q4, q5, q6⟩ => by
      obtain ⟨A, c, rfl, _, _⟩ := own_form q2
      refine ⟨A, c, us, its', q1, ?_, q4, q5, q6⟩
      have q2' := q2
      rcases q2.2 with ⟨hv, h1⟩ | ⟨g, cap, cur, hv, _⟩
      · cases h1
      · simp only [Value.slice.injEq] at hv
        obtain ⟨rfl, _, rfl⟩ := hv
        obtain ⟨x, hx⟩ : ∃ x, us[0]? = some x := ⟨_, List.getElem?_eq_getElem (by have := q3.len; simp at this; omega)⟩
        exact ⟨g, rfl, own_cells q2' 0 _ (rowP_at us 0 x hx).1, (own_tag q2' g rfl).2.1⟩
  have d4 : ∀ X Y S its W, Pt W (fun k => w.heap.size ≤ k) X Y 1 its S → its.length = 1 → Calls Try.prog 10 #[.pointer (some ⟨X, 0, none⟩)] W fun e' w' => ∃ A c, e' = .returned (.slice A 1 c) ∧ (∃ g, A = some ⟨g, 0, none⟩ ∧ w'.cell? ⟨g, 0, none⟩ = some (.int .u64 1) ∧ g < w'.heap.size) ∧ Below W.heap.size W w' := fun X Y S its W h hl => (waiting_any h (by omega)).mono fun e' w' ⟨u, q1, q2, q3⟩ => by
      rw [hl] at q2
      obtain ⟨A, c, rfl, _, _⟩ := own_form q2
      refine ⟨A, c, q1, ?_, q3⟩
      have q2' := q2
      rcases q2.2 with ⟨hv, h1⟩ | ⟨g, cap, cur, hv, _⟩
      · omega
      · simp only [Value.slice.injEq] at hv
        obtain ⟨rfl, _, rfl⟩ := hv
        obtain ⟨x, hx⟩ : ∃ x, its[0]? = some x := ⟨_, List.getElem?_eq_getElem (by omega)⟩
        exact ⟨g, rfl, own_cells q2' 0 _ (by rw [idsV, List.getElem?_map, hx, Option.map_some, h.ids 0 x hx]; rfl), (own_tag q2' g rfl).2.1⟩
  have d5 : ∀ X Y S its W, Pt W (fun k => w.heap.size ≤ k) X Y 1 its S → w.heap.size ≤ W.heap.size → Calls Try.prog 11 #[.pointer (some ⟨X, 0, none⟩)] W fun e' w' => e' = .returned (.slice none 0 0) ∧ Eff (fun k => w.heap.size ≤ k) W w' := fun X Y S its W h hs => (done_any h).mono fun e' w' ⟨q1, q2, q3⟩ => ⟨q1, q3⟩
  go_enter Try.func4, Try.ntmps4
  go_wp2_with (first
    | (go_at_call 5; (with_reducible refine d1.mono ?_); rintro e' w1 ⟨X, Y, rfl, p1, b1⟩)
    | (go_at_call 6; (with_reducible refine (d2 X Y _ p1 b1.size).mono ?_); rintro e' w2 ⟨rfl, v2, S2, p2, E2⟩)
    | (go_at_call 7; (with_reducible refine (d3 X Y S2 v2 _ p2).mono ?_); rintro e' w3 ⟨A3, c3, us, its3, rfl, ⟨g3, rfl, q3, lt3⟩, p3, hl3, E3⟩)
    | (go_at_call 10; (with_reducible refine (d4 X Y S2 its3 _ p3 hl3).mono ?_); rintro e' w4 ⟨A4, c4, rfl, ⟨g4, rfl, q4, lt4⟩, b4⟩; have q34 := (b4.cell (p := ⟨g3, 0, none⟩) lt3).trans q3; have hs4 := Nat.le_trans (Nat.le_trans (Nat.le_trans b1.size E2.size) E3.size) b4.size; have p4 := p3.below b4)
    | (go_at_call 11; (with_reducible refine (d5 X Y S2 its3 _ p4 hs4).mono ?_); rintro e' w5 ⟨rfl, E5⟩))
  go_ret
  exact ⟨rfl, E5.below ((E3.below (E2.below b1 b1.size fun k _ h => h) (Nat.le_trans b1.size E2.size) fun k _ h => h).trans (b4.mono (Nat.le_trans (Nat.le_trans b1.size E2.size) E3.size))) hs4 fun k _ h => h⟩
/-- A request's bytes are opened. -/
theorem open_pk (v : Value) (R : List UInt8) (w : World) (hR : R.length ≤ 1000000) (hv : Sl w w.heap.size v (Crc.sealS R).length (bs (Crc.sealS R))) (hl : (Crc.sealS R).length ≤ 1000000) : Calls Try.prog 8 #[v] w fun e w' => ∃ v', e = .returned (.tuple #[v', .int .i64 0]) ∧ v'.oneCell' = true ∧ Below w.heap.size w w' := (Crc.ropen_any v _ w hv (by omega)).mono fun e w' ⟨v', h1, h2, h3⟩ => by
  rw [Crc.open_seal] at h1
  obtain ⟨A, c, rfl, _, _⟩ := h2.form
  exact ⟨_, h1, rfl, h3⟩
end Nw
end Go.Proofs.Ytoogmdokcndieaa
