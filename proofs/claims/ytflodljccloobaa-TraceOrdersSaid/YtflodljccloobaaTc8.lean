/- gemellaw27: known. Written by tools/gen-tc8.py. -/
import Derived.Test.YtflodljccloobaaTc7
import Derived.Deep.OwnRows
namespace Go.Proofs.Ytflodljccloobaa
open Go.ChangeShapes Go.WideShapes Go.ChangeAt Go.RowKit Go.Lib
set_option linter.unusedVariables false
set_option linter.unusedSimpArgs false
set_option maxRecDepth 100000
namespace Tc
open Un Rv
theorem rw_new (W : World) (T : TypeId) (xs : List Value) (n sz : Nat) (hl : xs.length = n * sz) (hn : n ≤ 1000) : Rw (W.alloc (.cells xs.toArray T)) (.slice (some ⟨W.heap.size, 0, none⟩) n n) n sz xs := ⟨hl, _, n, rfl, Nat.le_refl _, by unfold maxLen; omega, fun _ => ⟨W.heap.size, 0, rfl, by rw [World.size_alloc]; omega, fun j u hu => by
  rw [Nat.zero_add, cell_of_row _ _ j _ T (0, 0) (heap_alloc_new W _), List.getElem?_toArray]
  exact hu⟩⟩
theorem rw_nil (W : World) (sz : Nat) : Rw W (.slice none 0 0) 0 sz [] := ⟨by simp, none, 0, rfl, Nat.le_refl _, by decide, fun h => absurd rfl h⟩
theorem made8 (w : World) : ∃ w1, (Instr.makeSlice 23 (.int .i64 8) (.int .i64 8)).run Try.prog w = .ok (.slice (some ⟨w.heap.size, 0, none⟩) 8 8) w1 ∧ Sl w1 w1.heap.size (.slice (some ⟨w.heap.size, 0, none⟩) 8 8) 8 (bs (List.replicate 8 0)) ∧ Below w.heap.size w w1 ∧ w1.heap.size = w.heap.size + 1 := by
  obtain ⟨i0, hi0, hz0, hz1, hz2⟩ := info_parts (show (Try.prog.info? 5).map (fun i => (i.zero, i.size, i.bytes)) = some (some (.int .u8 0), 1, 1) by kernel_rfl)
  have e0 : madeCells #[Value.int .u8 0] 8 = #[.int .u8 0, .int .u8 0, .int .u8 0, .int .u8 0, .int .u8 0, .int .u8 0, .int .u8 0, .int .u8 0] := Array.ext' (toList_madeCells_one _ 8)
  have q := run_make_row 23 5 i0 (.int .u8 0) Try.underlying23 hi0 hz0 hz1 rfl .i64 .i64 8 (by rw [hz2]; omega) (by omega) w
  rw [e0] at q
  exact ⟨_, q, Sl.fresh (n := 8) w #[.int .u8 0, .int .u8 0, .int .u8 0, .int .u8 0, .int .u8 0, .int .u8 0, .int .u8 0, .int .u8 0] _ rfl (by decide), (Below.refl _ w).alloc (Nat.le_refl _) _, World.size_alloc w _⟩
def ivK (g : Nat) : Iv := ⟨0, 1, 3, 0, 1, some ⟨g, 0, none⟩, 8, 8, 0, 0, 0, false, 1⟩
def cmK : Cm := ⟨0, 1, 2⟩
def coK (s : Int) : Co := ⟨0, 1, s, 0, 0, none, 0, 0, 0, 3⟩
theorem nd1 (x : Int × Nat) : [x].Nodup := by simp
theorem all1 {α : Type} {P : α → Prop} {y : α} (h : P y) : ∀ x ∈ [y], P x := fun x hx => (List.mem_singleton.1 hx) ▸ h
theorem one1000 {α : Type} (x : α) : [x].length ≤ 1000 := by simp
theorem nok0 : NOk 0 1 := ⟨by decide, by decide, by decide⟩
theorem rowK (g : Nat) : RowOk [ivK g] [cmK] 1 := by
  intro k x hk hx
  obtain rfl : k = 0 := by omega
  obtain rfl : cmK = x := by simpa using hx
  exact ⟨0, ivK g, rfl, rfl, (by show ¬ (2 : Int) < 1; decide), fun z h => absurd h (by decide)⟩
theorem outK (s : Int) : OutOk [cmK] 1 [coK s] 1 := by
  intro k x hk hx
  obtain rfl : k = 0 := by omega
  obtain rfl : coK s = x := by simpa using hx
  exact ⟨0, cmK, by decide, rfl, rfl, (by show ¬ (3 : Int) < 2; decide)⟩
theorem seenK {w : World} {g : Nat} {v1 v2 v3 : Value} {s : Int} (h1 : Rw w v1 1 11 (ivc (ivK g))) (h2 : Rw w v2 1 3 (cmc cmK)) (h3 : Rw w v3 1 8 (coc (coK s))) : Seen w v1 v2 v3 [ivK g] [cmK] [coK s] := ⟨by simpa using h1, by simpa using h2, by simpa using h3, one1000 _, one1000 _, one1000 _, all1 nok0, all1 nok0, all1 nok0, nd1 _, nd1 _, nd1 _⟩
theorem seenN {w : World} {g : Nat} {v1 v3 : Value} {s : Int} (h1 : Rw w v1 1 11 (ivc (ivK g))) (h3 : Rw w v3 1 8 (coc (coK s))) : Seen w v1 (.slice none 0 0) v3 [ivK g] [] [coK s] := ⟨by simpa using h1, rw_nil w 3, by simpa using h3, one1000 _, Nat.zero_le _, one1000 _, all1 nok0, fun x hx => (by cases hx), all1 nok0, nd1 _, List.nodup_nil, nd1 _⟩
theorem plainK {w : World} {g : Nat} (h : Sl w w.heap.size (.slice (some ⟨g, 0, none⟩) 8 8) 8 (bs (List.replicate 8 0))) : ∀ x ∈ [ivK g], Plain w x := by
  intro x hx
  obtain rfl := List.mem_singleton.1 hx
  exact ⟨Int.le_refl 0, (by show (0 : Int) < 8; decide), .inr ⟨rfl, 0, 1, List.replicate 8 0, rfl, rfl, by decide, by decide, rfl, rfl, h⟩⟩
set_option maxHeartbeats 8000000 in
theorem known_any (w : World) : Calls Try.prog 4 #[] w fun e w' => e = .returned (.bool true) ∧ Below w.heap.size w w' := by
  obtain ⟨w1, qm, s1, b1, z1⟩ := made8 w
  obtain ⟨W3, e3, bx, r1, r2, b3, z3⟩ : ∃ W3, W3 = ((w1.alloc (.cells #[.int .i64 3, .int .i64 0, .int .i64 1, .slice (some ⟨w.heap.size, 0, none⟩) 8 8, .int .u64 0, .int .u64 0, .int .i64 0, .bool false] 26)).alloc (.cells #[.int .i64 0, .int .u64 1, .int .i64 3, .int .i64 0, .int .i64 1, .slice (some ⟨w.heap.size, 0, none⟩) 8 8, .int .u64 0, .int .u64 0, .int .i64 0, .bool false, .int .i64 1] 28)).alloc (.cells #[.int .i64 0, .int .u64 1, .int .i64 2] 40) ∧ True ∧ Rw W3 (.slice (some ⟨w1.heap.size + 1, 0, none⟩) 1 1) 1 11 (ivc (ivK w.heap.size)) ∧ Rw W3 (.slice (some ⟨w1.heap.size + 1 + 1, 0, none⟩) 1 1) 1 3 (cmc cmK) ∧ Below w1.heap.size w1 W3 ∧ W3.heap.size = w1.heap.size + 1 + 1 + 1 := by
    refine ⟨_, rfl, trivial, ?_, ?_, ?_, by simp [World.size_alloc]⟩
    · have q := rw_new (w1.alloc (.cells #[.int .i64 3, .int .i64 0, .int .i64 1, .slice (some ⟨w.heap.size, 0, none⟩) 8 8, .int .u64 0, .int .u64 0, .int .i64 0, .bool false] 26)) 28 (ivc (ivK w.heap.size)) 1 11 rfl (by decide)
      rw [World.size_alloc] at q
      exact q.below ((Below.refl _ _).alloc (Nat.le_refl _) _)
    · have q := rw_new ((w1.alloc (.cells #[.int .i64 3, .int .i64 0, .int .i64 1, .slice (some ⟨w.heap.size, 0, none⟩) 8 8, .int .u64 0, .int .u64 0, .int .i64 0, .bool false] 26)).alloc (.cells #[.int .i64 0, .int .u64 1, .int .i64 3, .int .i64 0, .int .i64 1, .slice (some ⟨w.heap.size, 0, none⟩) 8 8, .int .u64 0, .int .u64 0, .int .i64 0, .bool false, .int .i64 1] 28)) 40 (cmc cmK) 1 3 rfl (by decide)
      rw [World.size_alloc, World.size_alloc] at q
      exact q
    · exact (((Below.refl _ w1).alloc (Nat.le_refl _) _).alloc (by rw [World.size_alloc]; omega) _).alloc (by rw [World.size_alloc, World.size_alloc]; omega) _
  clear bx z1 z3
  have s3 := s1.now b3
  have B3 := b1.trans (b3.mono b1.size)
  have rO : ∀ (W : World) (s : Int), Rw (W.alloc (.cells #[.int .i64 0, .int .u64 1, .int .i64 s, .int .i64 0, .int .i64 0, .slice none 0 0, .int .i64 0, .int .i64 3] 33)) (.slice (some ⟨W.heap.size, 0, none⟩) 1 1) 1 8 (coc (coK s)) := fun W s => rw_new W 33 (coc (coK s)) 1 8 rfl (by decide)
  have bO : ∀ (W : World) (s : Int), Below W.heap.size W (W.alloc (.cells #[.int .i64 0, .int .u64 1, .int .i64 s, .int .i64 0, .int .i64 0, .slice none 0 0, .int .i64 0, .int .i64 3] 33)) := fun W s => (Below.refl _ W).alloc (Nat.le_refl _) _
  have c1 : ∀ W, Below W3.heap.size W3 W → Calls Try.prog 5 #[.int .i64 4, .slice (some ⟨w1.heap.size + 1, 0, none⟩) 1 1, .slice (some ⟨w1.heap.size + 1 + 1, 0, none⟩) 1 1, .slice (some ⟨W.heap.size, 0, none⟩) 1 1] (W.alloc (.cells #[.int .i64 0, .int .u64 1, .int .i64 0, .int .i64 0, .int .i64 0, .slice none 0 0, .int .i64 0, .int .i64 3] 33)) fun e w' => e = .returned (.tuple #[.int .i64 0, .int .i64 0]) ∧ Below W.heap.size W w' := fun W hW => by
    have hB := hW.trans ((bO W 0).mono hW.size)
    refine (check_ok (seenK (r1.below hB) (r2.below hB) (rO W 0)) (rowK _) (outK 0) (plainK (s3.now hB)) ?_).mono fun e w' ⟨q1, q2⟩ => ⟨q1, (bO W 0).trans (q2.mono (bO W 0).size)⟩
    intro x hx
    obtain rfl := List.mem_singleton.1 hx
    exact ⟨rfl, rfl, rfl, rfl, by decide, rfl⟩
  have c2 : ∀ W, Below W3.heap.size W3 W → Calls Try.prog 5 #[.int .i64 4, .slice (some ⟨w1.heap.size + 1, 0, none⟩) 1 1, .slice none 0 0, .slice (some ⟨W.heap.size, 0, none⟩) 1 1] (W.alloc (.cells #[.int .i64 0, .int .u64 1, .int .i64 0, .int .i64 0, .int .i64 0, .slice none 0 0, .int .i64 0, .int .i64 3] 33)) fun e w' => e = .returned (.tuple #[.int .i64 0, .int .i64 6]) ∧ Below W.heap.size W w' := fun W hW => by
    have hB := hW.trans ((bO W 0).mono hW.size)
    have S := seenN (r1.below hB) (rO W 0)
    refine (check_order S 0 6 (by decide) (order_any S 0 6 (fun k x hk hx => (by cases hx)) (Nat.zero_le _) (fun k x hk hx => absurd hk (by omega)) (fun _ x hx => .inl ⟨rfl, fun j y hj => absurd hj (by simp)⟩))).mono fun e w' ⟨q1, q2⟩ => ⟨q1, (bO W 0).trans (q2.mono (bO W 0).size)⟩
  have c3 : ∀ W, Below W3.heap.size W3 W → Calls Try.prog 5 #[.int .i64 4, .slice (some ⟨w1.heap.size + 1, 0, none⟩) 1 1, .slice (some ⟨w1.heap.size + 1 + 1, 0, none⟩) 1 1, .slice (some ⟨W.heap.size, 0, none⟩) 1 1] (W.alloc (.cells #[.int .i64 0, .int .u64 1, .int .i64 8, .int .i64 0, .int .i64 0, .slice none 0 0, .int .i64 0, .int .i64 3] 33)) fun e w' => e = .returned (.tuple #[.int .i64 0, .int .i64 4]) ∧ Below W.heap.size W w' := fun W hW => by
    have hB := hW.trans ((bO W 8).mono hW.size)
    refine (check_sum (seenK (r1.below hB) (r2.below hB) (rO W 8)) (rowK _) (outK 8) (plainK (s3.now hB)) Nat.one_pos ?_).mono fun e w' ⟨q1, q2⟩ => ⟨q1, (bO W 8).trans (q2.mono (bO W 8).size)⟩
    intro x hx
    obtain rfl := List.mem_singleton.1 hx
    show ¬ (8 : Int) = 0
    decide
  have c4 : ∀ W, Below W3.heap.size W3 W → Calls Try.prog 6 #[.int .i64 4, .slice (some ⟨w1.heap.size + 1, 0, none⟩) 1 1, .slice (some ⟨w1.heap.size + 1 + 1, 0, none⟩) 1 1] W fun e w' => ∃ A c, e = .returned (.tuple #[.slice A 1 c, .int .i64 0]) ∧ Below W.heap.size W w' := fun W hW => by
    refine (replay_any (ins := [ivK w.heap.size]) (rows := [cmK]) (by simpa using r1.below hW) (by simpa using r2.below hW) (one1000 _) (one1000 _) (all1 nok0) (all1 nok0) (nd1 _) (rowK _) (plainK (s3.now hW))).mono ?_
    rintro e w' ⟨v, Ls, rfl, q1, q2, q3, q4⟩
    obtain ⟨A, c, rfl, _, _⟩ := own_form q2
    exact ⟨A, c, rfl, q4⟩
  go_enter Try.func4, Try.ntmps4
  go_upto_region 4 with (fail)
  rw [← e3]
  clear e3
  have d1 := c1 W3 (Below.refl _ _)
  go_upto_region 5 with (go_at_call 5; (with_reducible refine d1.mono ?_); rintro e w4 ⟨rfl, b4⟩)
  have d2 := c2 w4 b4
  go_upto_region 6 with (go_at_call 5; (with_reducible refine d2.mono ?_); rintro e w5 ⟨rfl, b5⟩)
  have b35 := b4.trans (b5.mono b4.size)
  have d3 := c3 w5 b35
  go_upto_region 7 with (go_at_call 5; (with_reducible refine d3.mono ?_); rintro e w6 ⟨rfl, b6⟩)
  have b36 := b35.trans (b6.mono b35.size)
  have d4 := c4 w6 b36
  clear c1 c2 c3 c4 d1 d2 d3
  go_wp2_with (go_at_call 6; (with_reducible refine d4.mono ?_); rintro e w7 ⟨A7, c7, rfl, b7⟩)
  go_ret
  exact ⟨rfl, B3.trans ((b36.trans (b7.mono b36.size)).mono B3.size)⟩
end Tc
end Go.Proofs.Ytflodljccloobaa
