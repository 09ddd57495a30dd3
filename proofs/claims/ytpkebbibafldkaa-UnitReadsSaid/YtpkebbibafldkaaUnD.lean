/- Package lu: the cursor: host. -/
import Derived.Test.YtpkebbibafldkaaUnA
import Derived.Test.YtpkebbibafldkaaUn9
namespace Go.Proofs.Ytpkebbibafldkaa
open Go.ChangeShapes Go.WideShapes Go.ChangeAt Go.RowKit Go.Lib
set_option linter.unusedVariables false
set_option linter.unusedSimpArgs false
set_option maxRecDepth 100000
namespace Un
open Rv
section
variable {w w' : World} {C c : Nat} {A : Option Addr} {L : List UInt8} {p : Nat}
theorem num8 (h : CurM w C A c L p) (x : Nat) (hx : beVal ((L.drop p).take 8) = x) (hp : p + 8 ≤ L.length) : Calls Try.prog 50 #[.pointer (some ⟨C, 0, none⟩), .int .i64 8] w fun e w' => e = .returned (.int .u64 (x : Nat)) ∧ CurM w' C A c L (p + 8) ∧ Eff (fun q => q = C) w w' := by
  have q := number_any h 8 (by decide) hp
  rw [hx] at q
  exact q
theorem num2 (h : CurM w C A c L p) (x : Nat) (hx : beVal ((L.drop p).take 2) = x) (hp : p + 2 ≤ L.length) : Calls Try.prog 50 #[.pointer (some ⟨C, 0, none⟩), .int .i64 2] w fun e w' => e = .returned (.int .u64 (x : Nat)) ∧ CurM w' C A c L (p + 2) ∧ Eff (fun q => q = C) w w' := by
  have q := number_any h 2 (by decide) hp
  rw [hx] at q
  exact q
theorem num1 (h : CurM w C A c L p) (x : Nat) (hx : beVal ((L.drop p).take 1) = x) (hp : p + 1 ≤ L.length) : Calls Try.prog 50 #[.pointer (some ⟨C, 0, none⟩), .int .i64 1] w fun e w' => e = .returned (.int .u64 (x : Nat)) ∧ CurM w' C A c L (p + 1) ∧ Eff (fun q => q = C) w w' := by
  have q := number_any h 1 (by decide) hp
  rw [hx] at q
  exact q
def zH : Array Value := #[.slice none 0 0, .int .u64 0, .slice none 0 0]
set_option maxHeartbeats 4000000 in
theorem host_none (h : CurM w C A c L p) (h8 : beVal ((L.drop p).take 8) = 0) (h1 : beVal ((L.drop (p + 8)).take 1) = 0) (h2 : beVal ((L.drop (p + 8 + 1)).take 1) = 0) (hp : p + 8 + 1 + 1 ≤ L.length) : Calls Try.prog 21 #[.pointer (some ⟨C, 0, none⟩)] w fun e w' => e = .returned (.tuple #[.agg #[.slice none 0 0, .int .u64 0, .slice none 0 0], .bool true]) ∧ CurM w' C A c L (p + 8 + 1 + 1) ∧ Eff (fun q => q = C) w w' := by
  have hCl := h.mem.lt
  obtain ⟨w1, e1, m1, b1⟩ : ∃ w1, w1 = w.alloc (.cells #[.slice none 0 0, .int .u64 0, .slice none 0 0] 60) ∧ Mem w1 w.heap.size 60 #[.slice none 0 0, .int .u64 0, .slice none 0 0] ∧ Below w.heap.size w w1 := ⟨_, rfl, Mem.new w _ _, (Below.refl _ w).alloc (Nat.le_refl _) _⟩
  have c1 := num8 (h.below b1) 0 h8 (by omega)
  have c2 : ∀ W, CurM W C A c L (p + 8) → Calls Try.prog 50 #[.pointer (some ⟨C, 0, none⟩), .int .i64 1] W fun e w' => e = .returned (.int .u64 0) ∧ CurM w' C A c L (p + 8 + 1) ∧ Eff (fun q => q = C) W w' := fun W hW => num1 hW 0 h1 (by omega)
  have c3 : ∀ W, CurM W C A c L (p + 8 + 1) → Calls Try.prog 50 #[.pointer (some ⟨C, 0, none⟩), .int .i64 1] W fun e w' => e = .returned (.int .u64 0) ∧ CurM w' C A c L (p + 8 + 1 + 1) ∧ Eff (fun q => q = C) W w' := fun W hW => num1 hW 0 h2 (by omega)
  have H0 := h
  clear h h8 h1 h2 hp
  generalize p + 8 = pa at *
  generalize pa + 1 = pb at *
  generalize pb + 1 = pc at *
  go_enter Try.func21, Try.ntmps21
  go_upto_region 1 with (fail)
  rw [← e1]
  clear e1
  go_upto_region 2 with (go_at_call 50; (with_reducible refine c1.mono ?_); rintro e' w2 ⟨rfl, H2, E2⟩)
  have m2 := m1.eff E2 (by omega)
  obtain ⟨w3, e3, mh, b3⟩ : ∃ w3, w3 = w2.alloc (.cells #[.slice none 0 0, .int .u64 0, .slice none 0 0] 60) ∧ Mem w3 w2.heap.size 60 #[.slice none 0 0, .int .u64 0, .slice none 0 0] ∧ Below w2.heap.size w2 w3 := ⟨_, rfl, Mem.new w2 _ _, (Below.refl _ w2).alloc (Nat.le_refl _) _⟩
  have e3' : w3 = w2.alloc (.cells #[.slice none 0 0, .int .u64 ((0 : Nat) : Int), .slice none 0 0] 60) := e3
  try rw [← e3]
  try rw [← e3']
  clear e3 e3'
  have cA := c2 w3 (H2.below b3)
  have E3 : Eff (fun q => q = C) w w3 := ((Eff.of (S := fun q => q = C) b1).trans E2 fun _ _ h => h).trans (Eff.of (S := fun q => q = C) b3) fun _ _ h => h
  have m3 := m2.below b3 m2.lt
  have hlt2 : w.heap.size < w2.heap.size := m2.lt
  go_upto_region 6 with (go_at_call 50; (with_reducible refine cA.mono ?_); rintro e' w4 ⟨rfl, H4, E4⟩)
  have mh4 := mh.eff E4 (by omega)
  have m4 := m3.eff E4 (by omega)
  have E04 : Eff (fun q => q = C) w w4 := E3.trans E4 fun _ _ h => h
  go_loopw [18] (fun x wr => x = .int .i64 0 ∧ w4 = wr) (fun _ _ => 0)
  case atStart => exact ⟨rfl, rfl⟩
  case round =>
    obtain ⟨rfl, rfl⟩ := hrel
    have cB := c3 w4 H4
    go_upto_region 13 with (go_at_call 50; (with_reducible refine cB.mono ?_); rintro e' w6 ⟨rfl, H6, E6⟩)
    have mh6 := mh4.eff E6 (by omega)
    have m6 := m4.eff E6 (by omega)
    have E06 : Eff (fun q => q = C) w w6 := E04.trans E6 fun _ _ h => h
    go_loopw [36] (fun x wr => x = .int .i64 0 ∧ w6 = wr) (fun _ _ => 0)
    case atStart => exact ⟨rfl, rfl⟩
    case round =>
      obtain ⟨rfl, rfl⟩ := hrel
      have k2 : w6.cell? ⟨C, 2, none⟩ = some (.bool false) := H6.mem.cell 2
      have a0 := mh6.cell 0
      have a1 := mh6.cell 1
      have a2 := mh6.cell 2
      have r0 := m6.cell 0
      have r1 := m6.cell 1
      have r2 := m6.cell 2
      have f0 := m6.free 0
      have f1 := m6.free 1
      have f2 := m6.free 2
      have u1 := m6.put 0 (.slice none 0 0)
      have u2 := u1.put 1 (.int .u64 0)
      have u3 := u2.put 2 (.slice none 0 0)
      have g1 := Eff.setCell (S := fun q => q = w.heap.size) (Eff.refl (fun q => q = w.heap.size) w6) (p := ⟨w.heap.size, 0, none⟩) rfl (.slice none 0 0)
      have g2 := Eff.setCell (S := fun q => q = w.heap.size) g1 (p := ⟨w.heap.size, 1, none⟩) rfl (.int .u64 0)
      have g3 := Eff.setCell (S := fun q => q = w.heap.size) g2 (p := ⟨w.heap.size, 2, none⟩) rfl (.slice none 0 0)
      obtain ⟨wf, ef, mf, gf⟩ : ∃ wf, wf = (((w6.setCell ⟨w.heap.size, 0, none⟩ (.slice none 0 0)).setCell ⟨w.heap.size, 1, none⟩ (.int .u64 0)).setCell ⟨w.heap.size, 2, none⟩ (.slice none 0 0)).drew ∧ Mem wf w.heap.size 60 #[.slice none 0 0, .int .u64 0, .slice none 0 0] ∧ Eff (fun q => q = w.heap.size) w6 wf := ⟨_, rfl, u3, g3.trans (Eff.of (S := fun _ => False) ((Below.refl _ _).drew)) fun _ _ h => h.elim⟩
      clear u1 u2 u3 g1 g2 g3
      go_upto_region 22 with (fail)
      go_region
      rw [← ef]
      go_wp2
      refine bodyPost_ret (v := .tuple #[.agg #[.slice none 0 0, .int .u64 0, .slice none 0 0], .bool true]) ?_ rfl ⟨rfl, H6.eff gf fun q hq e => by omega, E06.trans gf fun i hi e => by omega⟩
      exact (results_cell2 (p := 2) (a := 3) (ty := 60) rfl _ _ w.heap.size 60 _ (0, 0) _ rfl mf Try.underlying60 rfl (by kernel_rfl)).trans rfl
set_option maxHeartbeats 8000000 in
theorem host_one (h : CurM w C A c L p) (hb : ∀ j, j < 28 → L[p + j]? = hb0[j]?) : Calls Try.prog 21 #[.pointer (some ⟨C, 0, none⟩)] w fun e w' => ∃ TA TN TC, e = .returned (.tuple #[.agg #[.slice none 0 0, .int .u64 0, .slice TA TN TC], .bool true]) ∧ CurM w' C A c L (p + 28) ∧ Eff (fun q => q = C) w w' := by
  obtain ⟨ik, hik, hkz0, hkz1, hkz2⟩ := info_parts info_kept
  have hp : p + 28 ≤ L.length := by
    rcases Nat.lt_or_ge (p + 27) L.length with h1 | h1
    · omega
    · have q := hb 27 (by decide)
      rw [List.getElem?_eq_none (by omega)] at q
      exact absurd q (by decide +kernel)
  have hcut : ∀ j n, j + n ≤ 28 → (L.drop (p + j)).take n = (hb0.drop j).take n := fun j n hj => by
    apply List.ext_getElem?
    intro i
    rw [List.getElem?_take, List.getElem?_take]
    split
    · rw [List.getElem?_drop, List.getElem?_drop, Nat.add_assoc]
      exact hb _ (by omega)
    · rfl
  have hCl := h.mem.lt
  have d0 : ∀ W, CurM W C A c L (p + 0) → Calls Try.prog 50 #[.pointer (some ⟨C, 0, none⟩), .int .i64 8] W fun e w' => e = .returned (.int .u64 0) ∧ CurM w' C A c L (p + 8) ∧ Eff (fun q => q = C) W w' := fun W hW => num8 hW 0 (by rw [hcut 0 8 (by decide)]; decide +kernel) (by omega)
  have d1 : ∀ W, CurM W C A c L (p + 8) → Calls Try.prog 50 #[.pointer (some ⟨C, 0, none⟩), .int .i64 1] W fun e w' => e = .returned (.int .u64 0) ∧ CurM w' C A c L (p + 9) ∧ Eff (fun q => q = C) W w' := fun W hW => num1 hW 0 (by rw [hcut 8 1 (by decide)]; decide +kernel) (by omega)
  have d2 : ∀ W, CurM W C A c L (p + 9) → Calls Try.prog 50 #[.pointer (some ⟨C, 0, none⟩), .int .i64 1] W fun e w' => e = .returned (.int .u64 1) ∧ CurM w' C A c L (p + 10) ∧ Eff (fun q => q = C) W w' := fun W hW => num1 hW 1 (by rw [hcut 9 1 (by decide)]; decide +kernel) (by omega)
  have d3 : ∀ W, CurM W C A c L (p + 10) → Calls Try.prog 50 #[.pointer (some ⟨C, 0, none⟩), .int .i64 8] W fun e w' => e = .returned (.int .u64 1) ∧ CurM w' C A c L (p + 18) ∧ Eff (fun q => q = C) W w' := fun W hW => num8 hW 1 (by rw [hcut 10 8 (by decide)]; decide +kernel) (by omega)
  have d4 : ∀ W, CurM W C A c L (p + 18) → Calls Try.prog 50 #[.pointer (some ⟨C, 0, none⟩), .int .i64 2] W fun e w' => e = .returned (.int .u64 0) ∧ CurM w' C A c L (p + 20) ∧ Eff (fun q => q = C) W w' := fun W hW => num2 hW 0 (by rw [hcut 18 2 (by decide)]; decide +kernel) (by omega)
  have d5 : ∀ W, CurM W C A c L (p + 20) → Calls Try.prog 50 #[.pointer (some ⟨C, 0, none⟩), .int .i64 2] W fun e w' => e = .returned (.int .u64 0) ∧ CurM w' C A c L (p + 22) ∧ Eff (fun q => q = C) W w' := fun W hW => num2 hW 0 (by rw [hcut 20 2 (by decide)]; decide +kernel) (by omega)
  have d6 : ∀ W, CurM W C A c L (p + 22) → Calls Try.prog 50 #[.pointer (some ⟨C, 0, none⟩), .int .i64 2] W fun e w' => e = .returned (.int .u64 0) ∧ CurM w' C A c L (p + 24) ∧ Eff (fun q => q = C) W w' := fun W hW => num2 hW 0 (by rw [hcut 22 2 (by decide)]; decide +kernel) (by omega)
  have d7 : ∀ W, CurM W C A c L (p + 24) → Calls Try.prog 50 #[.pointer (some ⟨C, 0, none⟩), .int .i64 2] W fun e w' => e = .returned (.int .u64 0) ∧ CurM w' C A c L (p + 26) ∧ Eff (fun q => q = C) W w' := fun W hW => num2 hW 0 (by rw [hcut 24 2 (by decide)]; decide +kernel) (by omega)
  have dr : ∀ W, CurM W C A c L (p + 26) → Calls Try.prog 19 #[.pointer (some ⟨C, 0, none⟩)] W fun e w' => ∃ A' c', e = .returned (.slice A' 0 c') ∧ CurM w' C A c L (p + 28) ∧ Eff (fun q => q = C) W w' := fun W hW => (row_any hW 0 (by rw [hcut 26 2 (by decide)]; decide +kernel) (by omega)).mono fun e w' ⟨A', c', q1, q2, q3, q4⟩ => ⟨A', c', q1, q3, q4⟩
  have H0 : CurM w C A c L (p + 0) := h
  clear h hb hcut hp
  generalize p + 0 = p0 at *
  generalize p + 8 = p1 at *
  generalize p + 9 = p2 at *
  generalize p + 10 = p3 at *
  generalize p + 18 = p4 at *
  generalize p + 20 = p5 at *
  generalize p + 22 = p6 at *
  generalize p + 24 = p7 at *
  generalize p + 26 = p8 at *
  generalize p + 28 = p9 at *
  obtain ⟨w1, e1, m1, b1⟩ : ∃ w1, w1 = w.alloc (.cells #[.slice none 0 0, .int .u64 0, .slice none 0 0] 60) ∧ Mem w1 w.heap.size 60 #[.slice none 0 0, .int .u64 0, .slice none 0 0] ∧ Below w.heap.size w w1 := ⟨_, rfl, Mem.new w _ _, (Below.refl _ w).alloc (Nat.le_refl _) _⟩
  have c1 := d0 w1 (H0.below b1)
  go_enter Try.func21, Try.ntmps21
  go_upto_region 1 with (fail)
  rw [← e1]
  clear e1
  go_upto_region 2 with (go_at_call 50; (with_reducible refine c1.mono ?_); rintro e' w2 ⟨rfl, H2, Ew2⟩)
  have m2 := m1.eff Ew2 (by omega)
  obtain ⟨w3, e3, mh, b3⟩ : ∃ w3, w3 = w2.alloc (.cells #[.slice none 0 0, .int .u64 0, .slice none 0 0] 60) ∧ Mem w3 w2.heap.size 60 #[.slice none 0 0, .int .u64 0, .slice none 0 0] ∧ Below w2.heap.size w2 w3 := ⟨_, rfl, Mem.new w2 _ _, (Below.refl _ w2).alloc (Nat.le_refl _) _⟩
  rw [← e3]
  clear e3
  have cA := d1 w3 (H2.below b3)
  have E3 : Eff (fun q => q = C) w w3 := ((Eff.of (S := fun q => q = C) b1).trans Ew2 fun _ _ h => h).trans (Eff.of (S := fun q => q = C) b3) fun _ _ h => h
  have m3 := m2.below b3 m2.lt
  have hlt2 : w.heap.size < w2.heap.size := m2.lt
  go_upto_region 6 with (go_at_call 50; (with_reducible refine cA.mono ?_); rintro e' w4 ⟨rfl, H4, Ew4⟩)
  have mh4 := mh.eff Ew4 (by omega)
  have m4 := m3.eff Ew4 (by omega)
  have E04 : Eff (fun q => q = C) w w4 := E3.trans Ew4 fun _ _ h => h
  go_loopw [18] (fun x wr => x = .int .i64 0 ∧ w4 = wr) (fun _ _ => 0)
  case atStart => exact ⟨rfl, rfl⟩
  case round =>
    obtain ⟨rfl, rfl⟩ := hrel
    have cB := d2 w4 H4
    go_upto_region 13 with (go_at_call 50; (with_reducible refine cB.mono ?_); rintro e' w6 ⟨rfl, H6, Ew6⟩)
    have mh6 := mh4.eff Ew6 (by omega)
    have m6 := m4.eff Ew6 (by omega)
    have E06 : Eff (fun q => q = C) w w6 := E04.trans Ew6 fun _ _ h => h
    go_loopw [36] (fun x wr => (x = .int .i64 0 ∧ w6 = wr) ∨ (x = .int .i64 1 ∧ ∃ G p, CurM wr C A c L p9 ∧ Eff (fun q => q = C) w wr ∧ Mem wr w.heap.size 60 #[.slice none 0 0, .int .u64 0, .slice none 0 0] ∧ Mem wr w2.heap.size 60 #[.slice none 0 0, .int .u64 0, .slice (some ⟨G, 0, none⟩) 1 p])) (fun x _ => 1 - (intOf x).toNat)
    case atStart => exact .inl ⟨rfl, rfl⟩
    case round =>
      rcases hrel with ⟨rfl, rfl⟩ | ⟨rfl, G, gp, HF, EF, mF, mhF⟩
      · have cK := d3 w6 H6
        go_upto_region 15 with (go_at_call 50; (with_reducible refine cK.mono ?_); rintro e' w7 ⟨rfl, H7, Ew7⟩)
        obtain ⟨w8, e8, mk, b8⟩ : ∃ w8, w8 = w7.alloc (.cells #[.int .u64 1, .int .i64 0, .int .i64 0, .int .i64 0, .slice none 0 0, .int .i64 0] 86) ∧ Mem w8 w7.heap.size 86 #[.int .u64 1, .int .i64 0, .int .i64 0, .int .i64 0, .slice none 0 0, .int .i64 0] ∧ Below w7.heap.size w7 w8 := ⟨_, rfl, Mem.new w7 _ _, (Below.refl _ w7).alloc (Nat.le_refl _) _⟩
        rw [← e8]
        clear e8
        have mh8 := (mh6.eff Ew7 (by omega)).below b8 (mh6.eff Ew7 (by omega)).lt
        have m8 := (m6.eff Ew7 (by omega)).below b8 (m6.eff Ew7 (by omega)).lt
        have E08 : Eff (fun q => q = C) w w8 := (E06.trans Ew7 fun _ _ h => h).trans (Eff.of (S := fun q => q = C) b8) fun _ _ h => h
        have H8 := H7.below b8
        have hg2 : w2.heap.size < w7.heap.size := (mh6.eff Ew7 (by omega)).lt
        clear mh6 m6 E06 H6 H7
        have cS := d4 w8 H8
        have hx9 : ∀ W, Mem W w7.heap.size 86 #[.int .u64 1, .int .i64 0, .int .i64 0, .int .i64 0, .slice none 0 0, .int .i64 0] → W.cell? ⟨w7.heap.size, 1, none⟩ = some (.int .i64 0) := fun W hW => hW.cell 1
        go_upto_region 16 with (go_at_call 50; (with_reducible refine cS.mono ?_); rintro e' w9 ⟨rfl, H9, E9⟩; have mk9 := mk.eff E9 (by omega); have fk9 := mk9.free 1; have xk9 := hx9 _ mk9)
        obtain ⟨w10, e10, mk10, G10⟩ : ∃ w10, w10 = w9.setCell ⟨w7.heap.size, 1, none⟩ (.int .i64 0) ∧ Mem w10 w7.heap.size 86 #[.int .u64 1, .int .i64 0, .int .i64 0, .int .i64 0, .slice none 0 0, .int .i64 0] ∧ Eff (fun q => q = w7.heap.size) w9 w10 := ⟨_, rfl, mk9.put 1 _, Eff.setCell (S := fun q => q = w7.heap.size) (Eff.refl _ _) (p := ⟨w7.heap.size, 1, none⟩) rfl _⟩
        rw [← e10]
        clear e10
        have H10 := H9.eff G10 fun q hq e => by omega
        have mh10 := (mh8.eff E9 (by omega)).eff G10 (by omega)
        have m10 := (m8.eff E9 (by omega)).eff G10 (by omega)
        have E010 : Eff (fun q => q = C) w w10 := (E08.trans E9 fun _ _ h => h).trans G10 fun i hi e => by omega
        clear H8 H9 mh8 m8 E08
        have cS := d5 w10 H10
        have hx11 : ∀ W, Mem W w7.heap.size 86 #[.int .u64 1, .int .i64 0, .int .i64 0, .int .i64 0, .slice none 0 0, .int .i64 0] → W.cell? ⟨w7.heap.size, 2, none⟩ = some (.int .i64 0) := fun W hW => hW.cell 2
        go_upto_region 17 with (go_at_call 50; (with_reducible refine cS.mono ?_); rintro e' w11 ⟨rfl, H11, E11⟩; have mk11 := mk10.eff E11 (by omega); have fk11 := mk11.free 2; have xk11 := hx11 _ mk11)
        obtain ⟨w12, e12, mk12, G12⟩ : ∃ w12, w12 = w11.setCell ⟨w7.heap.size, 2, none⟩ (.int .i64 0) ∧ Mem w12 w7.heap.size 86 #[.int .u64 1, .int .i64 0, .int .i64 0, .int .i64 0, .slice none 0 0, .int .i64 0] ∧ Eff (fun q => q = w7.heap.size) w11 w12 := ⟨_, rfl, mk11.put 2 _, Eff.setCell (S := fun q => q = w7.heap.size) (Eff.refl _ _) (p := ⟨w7.heap.size, 2, none⟩) rfl _⟩
        rw [← e12]
        clear e12
        have H12 := H11.eff G12 fun q hq e => by omega
        have mh12 := (mh10.eff E11 (by omega)).eff G12 (by omega)
        have m12 := (m10.eff E11 (by omega)).eff G12 (by omega)
        have E012 : Eff (fun q => q = C) w w12 := (E010.trans E11 fun _ _ h => h).trans G12 fun i hi e => by omega
        clear H10 H11 mh10 m10 E010
        have cS := d6 w12 H12
        have hx13 : ∀ W, Mem W w7.heap.size 86 #[.int .u64 1, .int .i64 0, .int .i64 0, .int .i64 0, .slice none 0 0, .int .i64 0] → W.cell? ⟨w7.heap.size, 3, none⟩ = some (.int .i64 0) := fun W hW => hW.cell 3
        go_upto_region 18 with (go_at_call 50; (with_reducible refine cS.mono ?_); rintro e' w13 ⟨rfl, H13, E13⟩; have mk13 := mk12.eff E13 (by omega); have fk13 := mk13.free 3; have xk13 := hx13 _ mk13)
        obtain ⟨w14, e14, mk14, G14⟩ : ∃ w14, w14 = w13.setCell ⟨w7.heap.size, 3, none⟩ (.int .i64 0) ∧ Mem w14 w7.heap.size 86 #[.int .u64 1, .int .i64 0, .int .i64 0, .int .i64 0, .slice none 0 0, .int .i64 0] ∧ Eff (fun q => q = w7.heap.size) w13 w14 := ⟨_, rfl, mk13.put 3 _, Eff.setCell (S := fun q => q = w7.heap.size) (Eff.refl _ _) (p := ⟨w7.heap.size, 3, none⟩) rfl _⟩
        rw [← e14]
        clear e14
        have H14 := H13.eff G14 fun q hq e => by omega
        have mh14 := (mh12.eff E13 (by omega)).eff G14 (by omega)
        have m14 := (m12.eff E13 (by omega)).eff G14 (by omega)
        have E014 : Eff (fun q => q = C) w w14 := (E012.trans E13 fun _ _ h => h).trans G14 fun i hi e => by omega
        clear H12 H13 mh12 m12 E012
        have cS := d7 w14 H14
        have hx15 : ∀ W, Mem W w7.heap.size 86 #[.int .u64 1, .int .i64 0, .int .i64 0, .int .i64 0, .slice none 0 0, .int .i64 0] → W.cell? ⟨w7.heap.size, 5, none⟩ = some (.int .i64 0) := fun W hW => hW.cell 5
        go_upto_region 19 with (go_at_call 50; (with_reducible refine cS.mono ?_); rintro e' w15 ⟨rfl, H15, E15⟩; have mk15 := mk14.eff E15 (by omega); have fk15 := mk15.free 5; have xk15 := hx15 _ mk15)
        obtain ⟨w16, e16, mk16, G16⟩ : ∃ w16, w16 = w15.setCell ⟨w7.heap.size, 5, none⟩ (.int .i64 0) ∧ Mem w16 w7.heap.size 86 #[.int .u64 1, .int .i64 0, .int .i64 0, .int .i64 0, .slice none 0 0, .int .i64 0] ∧ Eff (fun q => q = w7.heap.size) w15 w16 := ⟨_, rfl, mk15.put 5 _, Eff.setCell (S := fun q => q = w7.heap.size) (Eff.refl _ _) (p := ⟨w7.heap.size, 5, none⟩) rfl _⟩
        rw [← e16]
        clear e16
        have H16 := H15.eff G16 fun q hq e => by omega
        have mh16 := (mh14.eff E15 (by omega)).eff G16 (by omega)
        have m16 := (m14.eff E15 (by omega)).eff G16 (by omega)
        have E016 : Eff (fun q => q = C) w w16 := (E014.trans E15 fun _ _ h => h).trans G16 fun i hi e => by omega
        clear H14 H15 mh14 m14 E014
        have cR := dr w16 H16
        go_upto_region 20 with (go_at_call 19; (with_reducible refine cR.mono ?_); rintro e' w17 ⟨A7, c7, rfl, H17, E17⟩; have mk17 := mk16.eff E17 (by omega); have fk17 := mk17.free 4; have xk17 := mk17.cell 4)
        obtain ⟨w18, e18, mk18, G18⟩ : ∃ w18, w18 = w17.setCell ⟨w7.heap.size, 4, none⟩ (.slice A7 0 c7) ∧ Mem w18 w7.heap.size 86 #[.int .u64 1, .int .i64 0, .int .i64 0, .int .i64 0, .slice A7 0 c7, .int .i64 0] ∧ Eff (fun q => q = w7.heap.size) w17 w18 := ⟨_, rfl, mk17.put 4 _, Eff.setCell (S := fun q => q = w7.heap.size) (Eff.refl _ _) (p := ⟨w7.heap.size, 4, none⟩) rfl _⟩
        rw [← e18]
        clear e18
        have H18 := H17.eff G18 fun q hq e => by omega
        have mh18 := (mh16.eff E17 (by omega)).eff G18 (by omega)
        have m18 := (m16.eff E17 (by omega)).eff G18 (by omega)
        have E018 : Eff (fun q => q = C) w w18 := (E016.trans E17 fun _ _ h => h).trans G18 fun i hi e => by omega
        have hbase : w.heap.size ≤ w18.heap.size := E018.size
        have rb := row_kept w18 (.int .u64 1) (.int .i64 0) (.int .i64 0) (.int .i64 0) (.slice A7 0 c7) (.int .i64 0) w18.heap.size (Nat.le_refl _)
        have bc := (Below.refl _ w18).alloc (Nat.le_refl _) (.cells #[.int .u64 1, .int .i64 0, .int .i64 0, .int .i64 0, .slice A7 0 c7, .int .i64 0] 86)
        have hc8 : ∀ j u, ([.int .u64 1, .int .i64 0, .int .i64 0, .int .i64 0, .slice A7 0 c7, .int .i64 0] : List Value)[j]? = some u → (w18.alloc (.cells #[.int .u64 1, .int .i64 0, .int .i64 0, .int .i64 0, .slice A7 0 c7, .int .i64 0] 86)).cell? ((⟨w18.heap.size, 0, none⟩ : Addr).add j) = some u := fun j u hu => (rcell_any rb).1 _ rfl j u hu
        have a2 := mh18.cell 2
        have hsz18 := bc.size
        go_wp2_with (first
          | (refine wpList_load_row rfl 86 (.tmp 7) rfl w7.heap.size rfl 86 #[.int .u64 1, .int .i64 0, .int .i64 0, .int .i64 0, .slice A7 0 c7, .int .i64 0] (0, 0) _ mk18 Try.underlying86 rfl (by kernel_rfl) ?_)
          | (at_builtin; (refine wpList_append_at _ rfl (.tmp 66) (.tmp 68) 58 rfl w18.heap.size 86 ik _ 6 64 Try.underlying58 hik hkz0 hkz1 hkz2 rfl (by decide) (.slice none 0 0) 0 [] rfl (World.ownsRow_nil _ _ _ _) ⟨w18.heap.size, 0, none⟩ 1 1 [.int .u64 1, .int .i64 0, .int .i64 0, .int .i64 0, .slice A7 0 c7, .int .i64 0] rfl rfl hc8 (one_cells _ _ _ _ _ _ _ _) (by decide) (by decide) hsz18 ?_); intro v3 w19 ho3 hg3 hat3; have b19 := (Below.refl _ _).grown hg3 (Nat.le_refl _) (fun k hk => (by cases hk)); have B19 := bc.trans (b19.mono bc.size); have mh19 := mh18.below B19 mh18.lt; have f19 := mh19.free 2; have x19 := mh19.cell 2; obtain ⟨G3, p3, rfl⟩ := own_at0 ho3 (by decide)))
        have gF := Eff.setCell (S := fun q => q = w2.heap.size) (Eff.refl (fun q => q = w2.heap.size) w19) (p := ⟨w2.heap.size, 2, none⟩) rfl (.slice (some ⟨G3, 0, none⟩) 1 p3)
        exact ⟨.inr ⟨by trivial, G3, p3, (H18.below B19).eff gF (fun q hq e => by omega), (E018.trans (Eff.of (S := fun q => q = C) B19) fun _ _ h => h).trans gF (fun i hi e => by omega), (m18.below B19 m18.lt).eff gF (by omega), mh19.put 2 _⟩, by simp [intOf]⟩
      · have k2 : wr.cell? ⟨C, 2, none⟩ = some (.bool false) := HF.mem.cell 2
        have a0 := mhF.cell 0
        have a1 := mhF.cell 1
        have a2 := mhF.cell 2
        have r0 := mF.cell 0
        have r1 := mF.cell 1
        have r2 := mF.cell 2
        have f0 := mF.free 0
        have f1 := mF.free 1
        have f2 := mF.free 2
        have u1 := mF.put 0 (.slice none 0 0)
        have u2 := u1.put 1 (.int .u64 0)
        have u3 := u2.put 2 (.slice (some ⟨G, 0, none⟩) 1 gp)
        have g1 := Eff.setCell (S := fun q => q = w.heap.size) (Eff.refl (fun q => q = w.heap.size) wr) (p := ⟨w.heap.size, 0, none⟩) rfl (.slice none 0 0)
        have g2 := Eff.setCell (S := fun q => q = w.heap.size) g1 (p := ⟨w.heap.size, 1, none⟩) rfl (.int .u64 0)
        have g3 := Eff.setCell (S := fun q => q = w.heap.size) g2 (p := ⟨w.heap.size, 2, none⟩) rfl (.slice (some ⟨G, 0, none⟩) 1 gp)
        obtain ⟨wf, ef, mf, gf⟩ : ∃ wf, wf = (((wr.setCell ⟨w.heap.size, 0, none⟩ (.slice none 0 0)).setCell ⟨w.heap.size, 1, none⟩ (.int .u64 0)).setCell ⟨w.heap.size, 2, none⟩ (.slice (some ⟨G, 0, none⟩) 1 gp)).drew ∧ Mem wf w.heap.size 60 #[.slice none 0 0, .int .u64 0, .slice (some ⟨G, 0, none⟩) 1 gp] ∧ Eff (fun q => q = w.heap.size) wr wf := ⟨_, rfl, u3, g3.trans (Eff.of (S := fun _ => False) ((Below.refl _ _).drew)) fun _ _ h => h.elim⟩
        clear u1 u2 u3 g1 g2 g3
        go_upto_region 22 with (fail)
        go_region
        rw [← ef]
        go_wp2
        refine bodyPost_ret (v := .tuple #[.agg #[.slice none 0 0, .int .u64 0, .slice (some ⟨G, 0, none⟩) 1 gp], .bool true]) ?_ rfl ⟨_, _, _, rfl, HF.eff gf fun q hq e => by omega, EF.trans gf fun i hi e => by omega⟩
        exact (results_cell2 (p := 2) (a := 3) (ty := 60) rfl _ _ w.heap.size 60 _ (0, 0) _ rfl mf Try.underlying60 rfl (by kernel_rfl)).trans rfl
end
end Un
end Go.Proofs.Ytpkebbibafldkaa
