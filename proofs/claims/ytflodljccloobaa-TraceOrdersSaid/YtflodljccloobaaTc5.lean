/- Package trace: Order. -/
import Derived.Test.YtflodljccloobaaTc4
namespace Go.Proofs.Ytflodljccloobaa
open Go.ChangeShapes Go.WideShapes Go.ChangeAt Go.RowKit Go.Lib
set_option linter.unusedVariables false
set_option linter.unusedSimpArgs false
set_option maxRecDepth 100000
namespace Tc
/-- What was asked, committed, told, in memory; all names unlike, all numbers fit. -/
structure Seen (w : World) (v1 v2 v3 : Value) (ins : List Iv) (rows : List Cm) (outs : List Co) : Prop where
  i : Rw w v1 ins.length 11 (ins.flatMap ivc)
  r : Rw w v2 rows.length 3 (rows.flatMap cmc)
  o : Rw w v3 outs.length 8 (outs.flatMap coc)
  li : ins.length ≤ 1000
  lr : rows.length ≤ 1000
  lo : outs.length ≤ 1000
  ki : ∀ x ∈ ins, NOk x.h x.i
  kr : ∀ x ∈ rows, NOk x.h x.i
  ko : ∀ x ∈ outs, NOk x.h x.i
  ni : (ins.map nmI).Nodup
  nr : (rows.map nmC).Nodup
  no : (outs.map nmO).Nodup
theorem Seen.below {w w' : World} {v1 v2 v3 : Value} {ins : List Iv} {rows : List Cm} {outs : List Co} (s : Seen w v1 v2 v3 ins rows outs) (hb : Below w.heap.size w w') : Seen w' v1 v2 v3 ins rows outs := ⟨s.i.below hb, s.r.below hb, s.o.below hb, s.li, s.lr, s.lo, s.ki, s.kr, s.ko, s.ni, s.nr, s.no⟩
set_option maxHeartbeats 4000000 in
/-- The row is right up to m (all of it, or the next one goes back). -/
theorem order_any {w : World} {v1 v2 v3 : Value} {ins : List Iv} {rows : List Cm} {outs : List Co} (s : Seen w v1 v2 v3 ins rows outs) (n : Nat) (er : Int) (hok : RowOk ins rows rows.length) (hn : n ≤ outs.length) (hoo : OutOk rows rows.length outs n) (hob : n < outs.length → OutBad rows rows.length outs n er) : Calls Try.prog 7 #[v1, v2, v3] w fun e w' => e = .returned (.tuple #[.int .i64 ((if n < outs.length then n else 0 : Nat) : Int), .int .i64 (if n < outs.length then er else 0)]) ∧ Below w.heap.size w w' := by
  obtain ⟨A1, c1, rfl⟩ := s.i.form
  obtain ⟨A2, c2, rfl⟩ := s.r.form
  obtain ⟨A3, c3, rfl⟩ := s.o.form
  have cP := places_any _ ins s.i s.li s.ki s.ni
  have cR : ∀ W r, Below w.heap.size w W → MapAt W r (ent (ins.map nmI) ins.length) → Calls Try.prog 9 #[.slice A1 ins.length c1, .map (some r), .slice A2 rows.length c2] W fun e w' => ∃ r2, e = .returned (.tuple #[.map (some r2), .int .i64 ((rows.length - 1 : Nat) : Int), .int .i64 0]) ∧ MapAt w' r2 (ent (rows.map nmC) rows.length) ∧ Below W.heap.size W w' := fun W r hb ma => (rowOrder_any _ _ ins rows r rows.length (s.below hb).i (s.below hb).r s.li s.lr s.ki s.kr s.ni s.nr ma (Nat.le_refl _) hok (fun h => absurd h (by omega))).mono fun e w' ⟨r2, q1, q2, q3, q4⟩ => ⟨r2, by rw [q1, if_neg (by omega), if_neg (by omega)], q2, q4⟩
  have cO : ∀ W r, Below w.heap.size w W → MapAt W r (ent (rows.map nmC) rows.length) → Calls Try.prog 13 #[.slice A2 rows.length c2, .map (some r), .slice A3 outs.length c3] W fun e w' => e = .returned (.tuple #[.int .i64 ((if n < outs.length then n else 0 : Nat) : Int), .int .i64 (if n < outs.length then er else 0)]) ∧ Below W.heap.size W w' := fun W r hb ma => outOrder_any _ _ rows outs r rows.length n er (s.below hb).r (s.below hb).o s.lr s.lo s.ko s.nr s.no ma (Nat.le_refl _) hn hoo hob
  generalize ((if n < outs.length then n else 0 : Nat) : Int) = an at *
  generalize (if n < outs.length then er else 0) = en at *
  clear hok hn hoo hob
  go_enter Try.func7, Try.ntmps7
  go_wp2_with (first
    | (go_at_call 8; (with_reducible refine cP.mono ?_); rintro e w2 ⟨r2, rfl, m2, -, b2⟩; have cR2 := cR _ _ b2 m2)
    | (go_at_call 9; (with_reducible refine cR2.mono ?_); rintro e w3 ⟨r3, rfl, m3, b3⟩; have b13 := b2.trans (b3.mono b2.size); have cO3 := cO _ _ b13 m3)
    | (go_at_call 13; (with_reducible refine cO3.mono ?_); rintro e w4 ⟨rfl, b4⟩))
  go_ret2
  exact ⟨rfl, b13.trans (b4.mono b13.size)⟩
set_option maxHeartbeats 4000000 in
/-- A row that goes back at m. -/
theorem order_back {w : World} {v1 v2 v3 : Value} {ins : List Iv} {rows : List Cm} {outs : List Co} (s : Seen w v1 v2 v3 ins rows outs) (m : Nat) (hm : m < rows.length) (hok : RowOk ins rows m) (hb : RowBack ins rows m) : Calls Try.prog 7 #[v1, v2, v3] w fun e w' => e = .returned (.tuple #[.int .i64 (m : Nat), .int .i64 2]) ∧ Below w.heap.size w w' := by
  obtain ⟨A1, c1, rfl⟩ := s.i.form
  obtain ⟨A2, c2, rfl⟩ := s.r.form
  obtain ⟨A3, c3, rfl⟩ := s.o.form
  have cP := places_any _ ins s.i s.li s.ki s.ni
  have cR : ∀ W r, Below w.heap.size w W → MapAt W r (ent (ins.map nmI) ins.length) → Calls Try.prog 9 #[.slice A1 ins.length c1, .map (some r), .slice A2 rows.length c2] W fun e w' => ∃ r2, e = .returned (.tuple #[.map (some r2), .int .i64 (m : Nat), .int .i64 2]) ∧ Below W.heap.size W w' := fun W r hb' ma => (rowOrder_any _ _ ins rows r m (s.below hb').i (s.below hb').r s.li s.lr s.ki s.kr s.ni s.nr ma (Nat.le_of_lt hm) hok (fun _ => hb)).mono fun e w' ⟨r2, q1, q2, q3, q4⟩ => ⟨r2, by rw [q1, if_pos hm, if_pos hm], q4⟩
  clear hm hok hb
  go_enter Try.func7, Try.ntmps7
  go_wp2_with (first
    | (go_at_call 8; (with_reducible refine cP.mono ?_); rintro e w2 ⟨r2, rfl, m2, -, b2⟩; have cR2 := cR _ _ b2 m2)
    | (go_at_call 9; (with_reducible refine cR2.mono ?_); rintro e w3 ⟨r3, rfl, b3⟩; have b13 := b2.trans (b3.mono b2.size)))
  go_ret2
  exact ⟨rfl, b13⟩
end Tc
end Go.Proofs.Ytflodljccloobaa
