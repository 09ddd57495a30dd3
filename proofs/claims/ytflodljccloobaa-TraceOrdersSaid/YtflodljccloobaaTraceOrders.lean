/- TraceOrders: for all numbers the statement's function tells true and turns nothing that was there. No condition. -/
import Derived.Test.YtflodljccloobaaTc8
namespace Go.Proofs.Ytflodljccloobaa
open Go.ChangeShapes Go.WideShapes Go.ChangeAt Go.RowKit Go.Lib
set_option linter.unusedVariables false
set_option linter.unusedSimpArgs false
set_option maxRecDepth 100000
namespace Tc
open Un Rv
theorem own : ownKnob Try.prog.godebug = none := by kernel_rfl
def ivO (h t : Int) : Iv := ⟨h, 1, 1, 0, 0, none, 0, 0, 0, 0, 0, false, t⟩
def cmO (h t : Int) : Cm := ⟨h, 1, t⟩
def coO (h t : Int) : Co := ⟨h, 1, 0, 0, 0, none, 0, 0, 0, t⟩
theorem all2 {α : Type} {P : α → Prop} {x y : α} (h1 : P x) (h2 : P y) : ∀ z ∈ [x, y], P z := fun z hz => by
  rcases List.mem_cons.1 hz with rfl | hz
  · exact h1
  · exact (List.mem_singleton.1 hz) ▸ h2
theorem get2 {α : Type} {x y z : α} {k : Nat} (h : [x, y][k]? = some z) : (k = 0 ∧ z = x) ∨ (k = 1 ∧ z = y) := by
  match k, h with
  | 0, h => exact .inl ⟨rfl, by simpa using h.symm⟩
  | 1, h => exact .inr ⟨rfl, by simpa using h.symm⟩
theorem nok1 : NOk 1 1 := ⟨by decide, by decide, by decide⟩
theorem nd01 : [((0 : Int), 1), ((1 : Int), 1)].Nodup := by decide
theorem nd10 : [((1 : Int), 1), ((0 : Int), 1)].Nodup := by decide
theorem two1000 {α : Type} (x y : α) : [x, y].length ≤ 1000 := by simp
section
variable {w : World} {v1 v2 v3 : Value} {a b c d x y : Int}
theorem seen01 (h1 : Rw w v1 2 11 (ivc (ivO 0 a) ++ ivc (ivO 1 c))) (h2 : Rw w v2 2 3 (cmc (cmO 0 x) ++ cmc (cmO 1 y))) (h3 : Rw w v3 2 8 (coc (coO 0 b) ++ coc (coO 1 d))) : Seen w v1 v2 v3 [ivO 0 a, ivO 1 c] [cmO 0 x, cmO 1 y] [coO 0 b, coO 1 d] := ⟨by simpa using h1, by simpa using h2, by simpa using h3, two1000 _ _, two1000 _ _, two1000 _ _, all2 nok0 nok1, all2 nok0 nok1, all2 nok0 nok1, nd01, nd01, nd01⟩
theorem seen10 (h1 : Rw w v1 2 11 (ivc (ivO 0 a) ++ ivc (ivO 1 c))) (h2 : Rw w v2 2 3 (cmc (cmO 1 y) ++ cmc (cmO 0 x))) (h3 : Rw w v3 2 8 (coc (coO 0 b) ++ coc (coO 1 d))) : Seen w v1 v2 v3 [ivO 0 a, ivO 1 c] [cmO 1 y, cmO 0 x] [coO 0 b, coO 1 d] := ⟨by simpa using h1, by simpa using h2, by simpa using h3, two1000 _ _, two1000 _ _, two1000 _ _, all2 nok0 nok1, all2 nok1 nok0, all2 nok0 nok1, nd01, nd10, nd01⟩
theorem plainO (w : World) (a c : Int) : ∀ x ∈ [ivO 0 a, ivO 1 c], Plain w x := all2 ⟨Int.le_refl 0, (by show (0 : Int) < 8; decide), .inl rfl⟩ ⟨(by show (0 : Int) ≤ 1; decide), (by show (1 : Int) < 8; decide), .inl rfl⟩
/-- The row as it was. -/
theorem chk_e (s : Seen w v1 v2 v3 [ivO 0 a, ivO 1 c] [cmO 0 x, cmO 1 y] [coO 0 b, coO 1 d]) (q1 : a ≤ x) (q2 : x ≤ b) (q3 : b < c) (q4 : c ≤ y) (q5 : y ≤ d) : Calls Try.prog 5 #[.int .i64 4, v1, v2, v3] w fun e w' => e = .returned (.tuple #[.int .i64 0, .int .i64 0]) ∧ Below w.heap.size w w' := by
  refine check_ok s ?_ ?_ (plainO w a c) (all2 ⟨rfl, rfl, rfl, rfl, Nat.zero_le _, rfl⟩ ⟨rfl, rfl, rfl, rfl, Nat.zero_le _, rfl⟩)
  · intro k z hk hz
    rcases get2 hz with ⟨rfl, rfl⟩ | ⟨rfl, rfl⟩
    · exact ⟨0, _, rfl, rfl, (by show ¬ x < a; omega), fun u h => absurd h (by decide)⟩
    · exact ⟨1, _, rfl, rfl, (by show ¬ y < c; omega), fun u _ hu => by
        obtain rfl : cmO 0 x = u := by simpa using hu
        show ¬ y < x
        omega⟩
  · intro k z hk hz
    rcases get2 hz with ⟨rfl, rfl⟩ | ⟨rfl, rfl⟩
    · exact ⟨0, _, (by show 0 < 2; decide), rfl, rfl, (by show ¬ b < x; omega)⟩
    · exact ⟨1, _, (by show 1 < 2; decide), rfl, rfl, (by show ¬ d < y; omega)⟩
/-- The row turned round. -/
theorem chk_f (s : Seen w v1 v2 v3 [ivO 0 a, ivO 1 c] [cmO 1 y, cmO 0 x] [coO 0 b, coO 1 d]) (q4 : c ≤ y) (q6 : x < y) : Calls Try.prog 5 #[.int .i64 4, v1, v2, v3] w fun e w' => e = .returned (.tuple #[.int .i64 1, .int .i64 2]) ∧ Below w.heap.size w w' := by
  refine check_order s 1 2 (by decide) (order_back s 1 (by show 1 < 2; decide) ?_ ?_)
  · intro k z hk hz
    obtain rfl : k = 0 := by omega
    obtain rfl : cmO 1 y = z := by simpa using hz
    exact ⟨1, _, rfl, rfl, (by show ¬ y < c; omega), fun u h => absurd h (by decide)⟩
  · intro z hz
    obtain rfl : cmO 0 x = z := by simpa using hz
    exact ⟨0, _, cmO 1 y, rfl, rfl, by decide, rfl, q6⟩
/-- Both at the later time, turned round. -/
theorem chk_g (s : Seen w v1 v2 v3 [ivO 0 a, ivO 1 c] [cmO 1 y, cmO 0 y] [coO 0 b, coO 1 d]) (q4 : c ≤ y) (q7 : a ≤ y) (q8 : b < y) : Calls Try.prog 5 #[.int .i64 4, v1, v2, v3] w fun e w' => e = .returned (.tuple #[.int .i64 0, .int .i64 2]) ∧ Below w.heap.size w w' := by
  refine check_order s 0 2 (by decide) (order_any s 0 2 ?_ (Nat.zero_le _) (fun k z hk _ => absurd hk (by omega)) ?_)
  · intro k z hk hz
    rcases get2 hz with ⟨rfl, rfl⟩ | ⟨rfl, rfl⟩
    · exact ⟨1, _, rfl, rfl, (by show ¬ y < c; omega), fun u h => absurd h (by decide)⟩
    · exact ⟨0, _, rfl, rfl, (by show ¬ y < a; omega), fun u _ hu => by
        obtain rfl : cmO 1 y = u := by simpa using hu
        show ¬ y < y
        omega⟩
  · intro _ z hz
    obtain rfl : coO 0 b = z := by simpa using hz
    exact .inr ⟨rfl, 1, cmO 0 y, (by show 1 < 2; decide), rfl, rfl, q8⟩
end
set_option maxHeartbeats 4000000 in
theorem walk_out (a b c d : Int) (w : World) (ho : a < 0 ∨ b < a ∨ c ≤ b ∨ d < c ∨ 1099511627776 < d) : Calls Try.prog 3 #[.int .i64 a, .int .i64 b, .int .i64 c, .int .i64 d] w fun e w' => e = .returned (.bool true) ∧ Below w.heap.size w w' := by
  by_cases g0 : a < 0
  · clear ho
    go_enter Try.func3, Try.ntmps3
    go_upto_region 2 with (go_at_call 4; refine (known_any _).mono ?_; rintro e w1 ⟨rfl, hb1⟩)
    go_wp2
    go_ret
    exact ⟨rfl, hb1⟩
  by_cases g1 : b < a
  · clear ho
    go_enter Try.func3, Try.ntmps3
    go_upto_region 2 with (go_at_call 4; refine (known_any _).mono ?_; rintro e w1 ⟨rfl, hb1⟩)
    go_wp2
    go_ret
    exact ⟨rfl, hb1⟩
  by_cases g2 : c ≤ b
  · clear ho
    go_enter Try.func3, Try.ntmps3
    go_upto_region 2 with (go_at_call 4; refine (known_any _).mono ?_; rintro e w1 ⟨rfl, hb1⟩)
    go_wp2
    go_ret
    exact ⟨rfl, hb1⟩
  by_cases g3 : d < c
  · clear ho
    go_enter Try.func3, Try.ntmps3
    go_upto_region 2 with (go_at_call 4; refine (known_any _).mono ?_; rintro e w1 ⟨rfl, hb1⟩)
    go_wp2
    go_ret
    exact ⟨rfl, hb1⟩
  · have g4 : 1099511627776 < d := by omega
    clear ho
    go_enter Try.func3, Try.ntmps3
    go_upto_region 2 with (go_at_call 4; refine (known_any _).mono ?_; rintro e w1 ⟨rfl, hb1⟩)
    go_wp2
    go_ret
    exact ⟨rfl, hb1⟩
set_option maxHeartbeats 8000000 in
theorem walk_in (a b c d : Int) (w : World) (hq : 0 ≤ a ∧ a ≤ b ∧ b < c ∧ c ≤ d ∧ d ≤ 1099511627776) : Calls Try.prog 3 #[.int .i64 a, .int .i64 b, .int .i64 c, .int .i64 d] w fun e w' => e = .returned (.bool true) ∧ Below w.heap.size w w' := by
  obtain ⟨q0, q1, q2, q3, q4⟩ := hq
  have HQ := Lib.hid (show 0 ≤ a ∧ a ≤ b ∧ b < c ∧ c ≤ d from ⟨q0, q1, q2, q3⟩)
  have f0 : ¬ a < 0 := by omega
  have f1 : ¬ b < a := by omega
  have f2 : ¬ c ≤ b := by omega
  have f3 : ¬ d < c := by omega
  have f4 : ¬ 1099511627776 < d := by omega
  clear q0 q1 q2 q3 q4
  go_enter Try.func3, Try.ntmps3
  go_upto_region 2 with (go_at_call 4; (with_reducible refine (known_any _).mono ?_); rintro e w1 ⟨rfl, B1⟩)
  go_upto_region 5 with (fail)
  clear f0 f1 f2 f3 f4
  obtain ⟨W2, e2, r1, r3, b2⟩ : ∃ W2, W2 = ((w1.alloc (.cells #[.int .i64 1, .int .i64 0, .int .i64 0, .slice none 0 0, .int .u64 0, .int .u64 0, .int .i64 0, .bool false] 26)).alloc (.cells #[.int .i64 0, .int .u64 1, .int .i64 1, .int .i64 0, .int .i64 0, .slice none 0 0, .int .u64 0, .int .u64 0, .int .i64 0, .bool false, .int .i64 a, .int .i64 1, .int .u64 1, .int .i64 1, .int .i64 0, .int .i64 0, .slice none 0 0, .int .u64 0, .int .u64 0, .int .i64 0, .bool false, .int .i64 c] 28)).alloc (.cells #[.int .i64 0, .int .u64 1, .int .i64 0, .int .i64 0, .int .i64 0, .slice none 0 0, .int .i64 0, .int .i64 b, .int .i64 1, .int .u64 1, .int .i64 0, .int .i64 0, .int .i64 0, .slice none 0 0, .int .i64 0, .int .i64 d] 33) ∧ Rw W2 (.slice (some ⟨w1.heap.size + 1, 0, none⟩) 2 2) 2 11 (ivc (ivO 0 a) ++ ivc (ivO 1 c)) ∧ Rw W2 (.slice (some ⟨w1.heap.size + 1 + 1, 0, none⟩) 2 2) 2 8 (coc (coO 0 b) ++ coc (coO 1 d)) ∧ Below w1.heap.size w1 W2 := by
    refine ⟨_, rfl, ?_, ?_, ?_⟩
    · have q := rw_new (w1.alloc (.cells #[.int .i64 1, .int .i64 0, .int .i64 0, .slice none 0 0, .int .u64 0, .int .u64 0, .int .i64 0, .bool false] 26)) 28 (ivc (ivO 0 a) ++ ivc (ivO 1 c)) 2 11 rfl (by decide)
      rw [World.size_alloc] at q
      exact q.below ((Below.refl _ _).alloc (Nat.le_refl _) _)
    · have q := rw_new ((w1.alloc (.cells #[.int .i64 1, .int .i64 0, .int .i64 0, .slice none 0 0, .int .u64 0, .int .u64 0, .int .i64 0, .bool false] 26)).alloc (.cells #[.int .i64 0, .int .u64 1, .int .i64 1, .int .i64 0, .int .i64 0, .slice none 0 0, .int .u64 0, .int .u64 0, .int .i64 0, .bool false, .int .i64 a, .int .i64 1, .int .u64 1, .int .i64 1, .int .i64 0, .int .i64 0, .slice none 0 0, .int .u64 0, .int .u64 0, .int .i64 0, .bool false, .int .i64 c] 28)) 33 (coc (coO 0 b) ++ coc (coO 1 d)) 2 8 rfl (by decide)
      rw [World.size_alloc, World.size_alloc] at q
      exact q
    · exact (((Below.refl _ w1).alloc (Nat.le_refl _) _).alloc (by rw [World.size_alloc]; omega) _).alloc (by rw [World.size_alloc, World.size_alloc]; omega) _
  have B2 := B1.trans (b2.mono B1.size)
  have cE : ∀ W, Below W2.heap.size W2 W → ∀ x y, a ≤ x → x ≤ b → c ≤ y → y ≤ d → Calls Try.prog 5 #[.int .i64 4, .slice (some ⟨w1.heap.size + 1, 0, none⟩) 2 2, .slice (some ⟨W.heap.size, 0, none⟩) 2 2, .slice (some ⟨w1.heap.size + 1 + 1, 0, none⟩) 2 2] (W.alloc (.cells #[.int .i64 0, .int .u64 1, .int .i64 x, .int .i64 1, .int .u64 1, .int .i64 y] 40)) fun e w' => e = .returned (.tuple #[.int .i64 0, .int .i64 0]) ∧ Below W.heap.size W w' := fun W hW x y p1 p2 p3 p4 => by
    have hA := (Below.refl W.heap.size W).alloc (Nat.le_refl _) (.cells #[.int .i64 0, .int .u64 1, .int .i64 x, .int .i64 1, .int .u64 1, .int .i64 y] 40)
    have hB := hW.trans (hA.mono hW.size)
    exact (chk_e (seen01 (r1.below hB) (rw_new W 40 (cmc (cmO 0 x) ++ cmc (cmO 1 y)) 2 3 rfl (by decide)) (r3.below hB)) p1 p2 HQ.out.2.2.1 p3 p4).mono fun e w' ⟨q1, q2⟩ => ⟨q1, hA.trans (q2.mono hA.size)⟩
  have cF : ∀ W, Below W2.heap.size W2 W → ∀ x y, a ≤ x → x ≤ b → c ≤ y → y ≤ d → Calls Try.prog 5 #[.int .i64 4, .slice (some ⟨w1.heap.size + 1, 0, none⟩) 2 2, .slice (some ⟨W.heap.size, 0, none⟩) 2 2, .slice (some ⟨w1.heap.size + 1 + 1, 0, none⟩) 2 2] (W.alloc (.cells #[.int .i64 1, .int .u64 1, .int .i64 y, .int .i64 0, .int .u64 1, .int .i64 x] 40)) fun e w' => e = .returned (.tuple #[.int .i64 1, .int .i64 2]) ∧ Below W.heap.size W w' := fun W hW x y p1 p2 p3 p4 => by
    have hA := (Below.refl W.heap.size W).alloc (Nat.le_refl _) (.cells #[.int .i64 1, .int .u64 1, .int .i64 y, .int .i64 0, .int .u64 1, .int .i64 x] 40)
    have hB := hW.trans (hA.mono hW.size)
    exact (chk_f (seen10 (r1.below hB) (rw_new W 40 (cmc (cmO 1 y) ++ cmc (cmO 0 x)) 2 3 rfl (by decide)) (r3.below hB)) p3 (by have := HQ.out; omega)).mono fun e w' ⟨q1, q2⟩ => ⟨q1, hA.trans (q2.mono hA.size)⟩
  have cG : ∀ W, Below W2.heap.size W2 W → ∀ x y, a ≤ x → x ≤ b → c ≤ y → y ≤ d → Calls Try.prog 5 #[.int .i64 4, .slice (some ⟨w1.heap.size + 1, 0, none⟩) 2 2, .slice (some ⟨W.heap.size, 0, none⟩) 2 2, .slice (some ⟨w1.heap.size + 1 + 1, 0, none⟩) 2 2] (W.alloc (.cells #[.int .i64 1, .int .u64 1, .int .i64 y, .int .i64 0, .int .u64 1, .int .i64 y] 40)) fun e w' => e = .returned (.tuple #[.int .i64 0, .int .i64 2]) ∧ Below W.heap.size W w' := fun W hW x y p1 p2 p3 p4 => by
    have hA := (Below.refl W.heap.size W).alloc (Nat.le_refl _) (.cells #[.int .i64 1, .int .u64 1, .int .i64 y, .int .i64 0, .int .u64 1, .int .i64 y] 40)
    have hB := hW.trans (hA.mono hW.size)
    exact (chk_g (seen10 (r1.below hB) (rw_new W 40 (cmc (cmO 1 y) ++ cmc (cmO 0 y)) 2 3 rfl (by decide)) (r3.below hB)) p3 (by have := HQ.out; omega) (by have := HQ.out; omega)).mono fun e w' ⟨q1, q2⟩ => ⟨q1, hA.trans (q2.mono hA.size)⟩
  go_upto_region 8 with (fail)
  rw [← e2]
  clear e2 r1 r3 b2
  go_wp2
  go_loopw [12] (fun x wr => ∃ k : Nat, x = .int .i64 (k : Nat) ∧ k ≤ 2 ∧ Below W2.heap.size W2 wr) (fun x _ => 2 - (intOf x).toNat)
  case atStart => exact ⟨0, rfl, by decide, Below.refl _ _⟩
  case round =>
    obtain ⟨k, rfl, hk, BW⟩ := hrel
    generalize wr = wo at *
    have hcase : k = 0 ∨ k = 1 ∨ k = 2 := by omega
    obtain ⟨W4, e4, b4⟩ : ∃ W4, W4 = (wo.alloc (.cells #[.int .i64 a, .int .i64 b] 3)).alloc (.cells #[.int .i64 c, .int .i64 d] 3) ∧ Below wo.heap.size wo W4 := ⟨_, rfl, ((Below.refl _ wo).alloc (Nat.le_refl _) _).alloc (by rw [World.size_alloc]; omega) _⟩
    have HB4 := Lib.hid (BW.trans (b4.mono BW.size))
    have HBW := Lib.hid (B2.trans (BW.mono B2.size))
    clear BW b4 hk
    rcases hcase with rfl | rfl | rfl
    · go_upto_region 13 with (fail)
      rw [← e4]
      clear e4
      have d1 := cE W4 HB4.out a c (by have := HQ.out; omega) (by have := HQ.out; omega) (by have := HQ.out; omega) (by have := HQ.out; omega)
      go_upto_region 14 with (go_at_call 5; (with_reducible refine d1.mono ?_); rintro e w5 ⟨rfl, b5⟩)
      have B25 := HB4.out.trans (b5.mono HB4.out.size)
      have d2 := cF w5 B25 a c (by have := HQ.out; omega) (by have := HQ.out; omega) (by have := HQ.out; omega) (by have := HQ.out; omega)
      go_upto_region 15 with (go_at_call 5; (with_reducible refine d2.mono ?_); rintro e w6 ⟨rfl, b6⟩)
      have B26 := B25.trans (b6.mono B25.size)
      have d3 := cG w6 B26 a c (by have := HQ.out; omega) (by have := HQ.out; omega) (by have := HQ.out; omega) (by have := HQ.out; omega)
      go_upto_region 16 with (go_at_call 5; (with_reducible refine d3.mono ?_); rintro e w7 ⟨rfl, b7⟩)
      have B27 := Lib.hid (B26.trans (b7.mono B26.size))
      clear d1 d2 d3 b5 b6 b7 B25 B26
      go_wp2
      exact ⟨⟨1, rfl, by decide, B27.out⟩, by simp [intOf]⟩
    · go_upto_region 13 with (fail)
      rw [← e4]
      clear e4
      have d1 := cE W4 HB4.out b d (by have := HQ.out; omega) (by have := HQ.out; omega) (by have := HQ.out; omega) (by have := HQ.out; omega)
      go_upto_region 14 with (go_at_call 5; (with_reducible refine d1.mono ?_); rintro e w5 ⟨rfl, b5⟩)
      have B25 := HB4.out.trans (b5.mono HB4.out.size)
      have d2 := cF w5 B25 b d (by have := HQ.out; omega) (by have := HQ.out; omega) (by have := HQ.out; omega) (by have := HQ.out; omega)
      go_upto_region 15 with (go_at_call 5; (with_reducible refine d2.mono ?_); rintro e w6 ⟨rfl, b6⟩)
      have B26 := B25.trans (b6.mono B25.size)
      have d3 := cG w6 B26 b d (by have := HQ.out; omega) (by have := HQ.out; omega) (by have := HQ.out; omega) (by have := HQ.out; omega)
      go_upto_region 16 with (go_at_call 5; (with_reducible refine d3.mono ?_); rintro e w7 ⟨rfl, b7⟩)
      have B27 := Lib.hid (B26.trans (b7.mono B26.size))
      clear d1 d2 d3 b5 b6 b7 B25 B26
      go_wp2
      exact ⟨⟨2, rfl, by decide, B27.out⟩, by simp [intOf]⟩
    · clear cE cF cG e4
      go_wp2
      go_ret
      exact ⟨rfl, HBW.out⟩
theorem walk (a : Int) (b : Int) (c : Int) (d : Int) (w : World) (_ : -9223372036854775808 ≤ a) (_ : a ≤ 9223372036854775807) (_ : -9223372036854775808 ≤ b) (_ : b ≤ 9223372036854775807) (_ : -9223372036854775808 ≤ c) (_ : c ≤ 9223372036854775807) (_ : -9223372036854775808 ≤ d) (_ : d ≤ 9223372036854775807) : Calls Try.prog 3 #[.int .i64 a, .int .i64 b, .int .i64 c, .int .i64 d] w fun e w' => e = .returned (.bool true) ∧ Below w.heap.size w w' := by
  by_cases ho : a < 0 ∨ b < a ∨ c ≤ b ∨ d < c ∨ 1099511627776 < d
  · exact walk_out a b c d w ho
  · exact walk_in a b c d w (by omega)
set_option maxRecDepth 100000 in
theorem lifted (os : Os) (started : os.Started) (H : Type) (enc : TypeId × Value → H) :
    ReturnsInHanded {} Try.checked os 3 .any (Rows.traceOrdersSpec.pre6 enc Try.prog Try.f3 Rows.traceOrdersRow.domain false) (Rows.traceOrdersSpec.post enc Try.prog Try.f3 false true false false) := by
  refine returnsInHanded_of_change (C := Try.checked) own started (by kernel_rfl) Try.func3
    (ChangeSpec.witness6 (enc := enc) (C := Try.checked) false ⟨#[], #[.int .i64 0, .int .i64 0, .int .i64 0, .int .i64 0], []⟩ 8 (by kernel_rfl) (by kernel_rfl) (by kernel_rfl) (by kernel_rfl)) ?_
  intro W base args ds gs before hval0 hW hcnd _
  have hval : ∀ (j : Nat) t v, Try.f3.params[j]? = some t → args[j]? = some v → Value.okWide Try.prog W .any base t v := hval0
  have hW' := hW
  obtain ⟨p, q, hA0, hV, rfl, hfz, hnd⟩ := hW
  have hA : DataW.TrodAll enc Try.prog W 0 (fun _ => true) true Try.f3.params.toList args.toList ds p := hA0
  rw [Try.params3] at hA hval
  obtain ⟨v0, vs0, d0, ds0, p0, q0, hargs, rfl, rfl, h0, r0⟩ := trodAll_cons hA
  obtain ⟨v1, vs1, d1, ds1, p1, q1, rfl, rfl, rfl, h1, r1⟩ := trodAll_cons r0
  obtain ⟨v2, vs2, d2, ds2, p2, q2, rfl, rfl, rfl, h2, r2⟩ := trodAll_cons r1
  obtain ⟨v3, vs3, d3, ds3, p3, q3, rfl, rfl, rfl, h3, r3⟩ := trodAll_cons r2
  obtain ⟨rfl, rfl, rfl⟩ := trodAll_nil r3
  obtain rfl : args = #[v0, v1, v2, v3] := by cases args; simp_all
  obtain ⟨rfl, rfl⟩ := trodVars_none hV
  obtain ⟨a0, rfl, _, _, w0⟩ := open_int Try.underlying3 (hval 0 3 v0 rfl rfl) h0
  have b0 := bounds_i64 w0
  obtain ⟨a1, rfl, _, _, w1⟩ := open_int Try.underlying3 (hval 1 3 v1 rfl rfl) h1
  have b1 := bounds_i64 w1
  obtain ⟨a2, rfl, _, _, w2⟩ := open_int Try.underlying3 (hval 2 3 v2 rfl rfl) h2
  have b2 := bounds_i64 w2
  obtain ⟨a3, rfl, _, _, w3⟩ := open_int Try.underlying3 (hval 3 3 v3 rfl rfl) h3
  have b3 := bounds_i64 w3
  refine (walk a0 a1 a2 a3 W b0.1 b0.2 b1.1 b1.2 b2.1 b2.2 b3.1 b3.2).mono fun e W' ⟨he, hb⟩ => ?_
  subst he
  exact ⟨_, rfl, law_post laidOut (by kernel_rfl) rfl (by kernel_rfl) Try.underlying4 rfl rfl rfl hW' hb⟩

theorem proved : Rows.TraceOrdersSaid :=
  OpenClaim.holds_of_wide 3 Try.f3 rfl rfl rfl rfl rfl rfl rfl ⟨rfl, rfl, rfl, rfl, rfl⟩ rfl rfl rfl rfl rfl (by kernel_rfl) Try.func3 (by kernel_rfl)
    (of_decide_eq_true (by kernel_rfl)) (by unfold Func.isWrapper; first | (rw [if_pos (by decide +kernel)]; kernel_rfl) | (rw [if_neg (by decide +kernel)]; exact ⟨rfl, rfl⟩))
    (fun os started H enc _ => lifted os started H enc)
end Tc
end Go.Proofs.Ytflodljccloobaa
