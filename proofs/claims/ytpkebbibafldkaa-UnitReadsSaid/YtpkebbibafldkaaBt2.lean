/- Package bits: Next: contracts. -/
import Derived.Test.YtpkebbibafldkaaBt1
namespace Go.Proofs.Ytpkebbibafldkaa
open Go.ChangeShapes Go.WideShapes Go.ChangeAt Go.RowKit Go.Lib
set_option linter.unusedVariables false
theorem has_nat (v : Value) (l : List UInt8) (i : Nat) (w : World) (hl : l.length ≤ 1000000) (hd : Sl w w.heap.size v l.length (bs l)) :
    Calls Try.prog 73 #[v, .int .i64 (i : Nat)] w fun e w' => e = .returned (.bool (bit l i)) ∧ w = w' := by
  have h := has_any v l i w hl hd
  rw [decide_eq_true (show (0 : Int) ≤ i by omega), Bool.true_and, Int.toNat_natCast] at h
  exact h
/-- A byte with no bit that is so. -/
theorem byte_none {l : List UInt8} {i : Nat} (hi : i < l.length) (set : Bool) (h : (l[i]).toNat = if set then 0 else 255) : ∀ j, 8 * i ≤ j → j < 8 * i + 8 → bit l j = !set := by
  intro j h1 h2
  obtain ⟨q, rfl⟩ : ∃ q, j = 8 * i + q := ⟨j - 8 * i, by omega⟩
  have hb := bit_nat hi (show q < 8 by omega)
  rw [h] at hb
  have hq : q = 0 ∨ q = 1 ∨ q = 2 ∨ q = 3 ∨ q = 4 ∨ q = 5 ∨ q = 6 ∨ q = 7 := by omega
  cases set <;> rcases hq with rfl | rfl | rfl | rfl | rfl | rfl | rfl | rfl <;> revert hb <;> (cases bit l _ <;> simp)
set_option maxHeartbeats 1000000 in
theorem next_ok (v : Value) (l : List UInt8) (F k : Nat) (set : Bool) (w : World) (hl : l.length ≤ 1000000) (hd : Sl w w.heap.size v l.length (bs l)) (h1 : F ≤ k) (h2 : k < 8 * l.length) (h3 : bit l k = set) (h4 : ∀ j, F ≤ j → j < k → bit l j = !set) :
    Calls Try.prog 46 #[v, .int .i64 (F : Nat), .bool set] w fun e w' => e = .returned (.tuple #[.int .i64 (k : Nat), .bool true]) ∧ w = w' := by
  have hhas := fun i => has_nat v l i w hl hd
  obtain ⟨A, c, rfl, hc1, hc2⟩ := hd.form
  have hlx : (l.length : Int) ≤ 1000000 := by omega
  obtain ⟨b, off, rfl, _, hat⟩ := hd.at_ (by omega)
  have hcl : ∀ i (hi : i < l.length), w.cell? ⟨b, off + i, none⟩ = some (.int .u8 ((l[i]).toNat : Int)) := fun i hi => hat _ _ (bs_get hi)
  have HC := Lib.hid hcl
  clear hat hcl hd
  have H4 := Lib.hid h4
  have HH := Lib.hid hhas
  clear h4 hhas
  have hmax : (if (F : Int) < 0 then 0 else (F : Int)) = F := if_neg (by omega)
  go_enter Try.func46, Try.ntmps46
  cases set
  · go_wp2
    go_step3
    go_wp2
    go_step3
    go_wp2
    go_loopw [9] (fun i wr => ∃ I : Nat, F / 8 ≤ I ∧ I ≤ k / 8 ∧ i = .int .i64 I ∧ w = wr) (fun i _ => k / 8 + 1 - (intOf i).toNat)
    case atStart => exact ⟨F / 8, by omega, by omega, by go_num, rfl⟩
    case round =>
      obtain ⟨I, hI1, hI2, rfl, rfl⟩ := hrel
      have hIl : I < l.length := by omega
      have hIx : (I : Int) < (l.length : Int) := by omega
      have hcell := HC.out I hIl
      have hx := (l[I]).toNat_lt
      by_cases hxn : (l[I]).toNat = 255
      · have hbn := byte_none hIl false (by simpa using hxn)
        have hkI : I < k / 8 := by
          rcases Nat.lt_or_ge I (k / 8) with h | h
          · exact h
          · have := hbn k (by omega) (by omega)
            rw [h3] at this
            cases this
        rw [hxn] at hcell
        clear hxn hx hbn
        go_wp2
        exact ⟨⟨I + 1, by omega, by omega, by go_num, trivial⟩, by simp [intOf]; omega⟩
      · have hxnx : ¬ ((l[I]).toNat : Int) = 255 := by omega
        generalize (l[I]).toNat = x at *
        have hbeq : ((x : Int) == 255) = false := beq_false_of_ne hxnx
        clear hxnx hxn
        by_cases hM : F < 8 * I
        · have hMx : (F : Int) < 8 * (I : Int) := by omega
          go_wp2
          go_loopw [10] (fun i w2 => ∃ a : Nat, F ≤ a ∧ 8 * I ≤ a ∧ a ≤ k ∧ a ≤ 8 * I + 8 ∧ i = .int .i64 a ∧ w = w2) (fun i _ => 8 * I + 8 - (intOf i).toNat)
          case atStart => exact ⟨8 * I, by omega, by omega, by omega, by omega, by go_num, rfl⟩
          case round =>
            obtain ⟨a, ha1, ha2, ha3, ha4, rfl, rfl⟩ := hrel
            by_cases hae : a = 8 * I + 8
            · subst hae
              go_wp2
              exact ⟨⟨I + 1, by omega, by omega, by go_num, trivial⟩, by simp [intOf]; omega⟩
            · have hax : (a : Int) < 8 * (I : Int) + 8 := by omega
              have hh := HH.out a
              by_cases hak : a = k
              · subst hak
                rw [h3] at hh
                go_wp2_with (go_at_call 73; (with_reducible refine hh.mono ?_); rintro e w3 ⟨rfl, rfl⟩)
                rw [Exit.noGoto_ret]
                go_ret2
                exact ⟨rfl, rfl⟩
              · have hb4 : bit l a = true := H4.out a ha1 (by omega)
                rw [hb4] at hh
                go_wp2_with (go_at_call 73; (with_reducible refine hh.mono ?_); rintro e w3 ⟨rfl, rfl⟩)
                exact ⟨⟨a + 1, by omega, by omega, by omega, by omega, by go_num, trivial⟩, by simp [intOf]; omega⟩
        · have hMx : ¬ (F : Int) < 8 * (I : Int) := by omega
          go_wp2
          go_loopw [10] (fun i w2 => ∃ a : Nat, F ≤ a ∧ 8 * I ≤ a ∧ a ≤ k ∧ a ≤ 8 * I + 8 ∧ i = .int .i64 a ∧ w = w2) (fun i _ => 8 * I + 8 - (intOf i).toNat)
          case atStart => exact ⟨F, by omega, by omega, by omega, by omega, by go_num, rfl⟩
          case round =>
            obtain ⟨a, ha1, ha2, ha3, ha4, rfl, rfl⟩ := hrel
            by_cases hae : a = 8 * I + 8
            · subst hae
              go_wp2
              exact ⟨⟨I + 1, by omega, by omega, by go_num, trivial⟩, by simp [intOf]; omega⟩
            · have hax : (a : Int) < 8 * (I : Int) + 8 := by omega
              have hh := HH.out a
              by_cases hak : a = k
              · subst hak
                rw [h3] at hh
                go_wp2_with (go_at_call 73; (with_reducible refine hh.mono ?_); rintro e w3 ⟨rfl, rfl⟩)
                rw [Exit.noGoto_ret]
                go_ret2
                exact ⟨rfl, rfl⟩
              · have hb4 : bit l a = true := H4.out a ha1 (by omega)
                rw [hb4] at hh
                go_wp2_with (go_at_call 73; (with_reducible refine hh.mono ?_); rintro e w3 ⟨rfl, rfl⟩)
                exact ⟨⟨a + 1, by omega, by omega, by omega, by omega, by go_num, trivial⟩, by simp [intOf]; omega⟩
  · go_wp2
    go_step3
    go_wp2
    go_step3
    go_wp2
    go_loopw [9] (fun i wr => ∃ I : Nat, F / 8 ≤ I ∧ I ≤ k / 8 ∧ i = .int .i64 I ∧ w = wr) (fun i _ => k / 8 + 1 - (intOf i).toNat)
    case atStart => exact ⟨F / 8, by omega, by omega, by go_num, rfl⟩
    case round =>
      obtain ⟨I, hI1, hI2, rfl, rfl⟩ := hrel
      have hIl : I < l.length := by omega
      have hIx : (I : Int) < (l.length : Int) := by omega
      have hcell := HC.out I hIl
      have hx := (l[I]).toNat_lt
      by_cases hxn : (l[I]).toNat = 0
      · have hbn := byte_none hIl true (by simpa using hxn)
        have hkI : I < k / 8 := by
          rcases Nat.lt_or_ge I (k / 8) with h | h
          · exact h
          · have := hbn k (by omega) (by omega)
            rw [h3] at this
            cases this
        rw [hxn] at hcell
        clear hxn hx hbn
        go_wp2
        exact ⟨⟨I + 1, by omega, by omega, by go_num, trivial⟩, by simp [intOf]; omega⟩
      · have hxnx : ¬ ((l[I]).toNat : Int) = 0 := by omega
        generalize (l[I]).toNat = x at *
        have hbeq : ((x : Int) == 0) = false := beq_false_of_ne hxnx
        clear hxnx hxn
        by_cases hM : F < 8 * I
        · have hMx : (F : Int) < 8 * (I : Int) := by omega
          go_wp2
          go_loopw [10] (fun i w2 => ∃ a : Nat, F ≤ a ∧ 8 * I ≤ a ∧ a ≤ k ∧ a ≤ 8 * I + 8 ∧ i = .int .i64 a ∧ w = w2) (fun i _ => 8 * I + 8 - (intOf i).toNat)
          case atStart => exact ⟨8 * I, by omega, by omega, by omega, by omega, by go_num, rfl⟩
          case round =>
            obtain ⟨a, ha1, ha2, ha3, ha4, rfl, rfl⟩ := hrel
            by_cases hae : a = 8 * I + 8
            · subst hae
              go_wp2
              exact ⟨⟨I + 1, by omega, by omega, by go_num, trivial⟩, by simp [intOf]; omega⟩
            · have hax : (a : Int) < 8 * (I : Int) + 8 := by omega
              have hh := HH.out a
              by_cases hak : a = k
              · subst hak
                rw [h3] at hh
                go_wp2_with (go_at_call 73; (with_reducible refine hh.mono ?_); rintro e w3 ⟨rfl, rfl⟩)
                rw [Exit.noGoto_ret]
                go_ret2
                exact ⟨rfl, rfl⟩
              · have hb4 : bit l a = false := H4.out a ha1 (by omega)
                rw [hb4] at hh
                go_wp2_with (go_at_call 73; (with_reducible refine hh.mono ?_); rintro e w3 ⟨rfl, rfl⟩)
                exact ⟨⟨a + 1, by omega, by omega, by omega, by omega, by go_num, trivial⟩, by simp [intOf]; omega⟩
        · have hMx : ¬ (F : Int) < 8 * (I : Int) := by omega
          go_wp2
          go_loopw [10] (fun i w2 => ∃ a : Nat, F ≤ a ∧ 8 * I ≤ a ∧ a ≤ k ∧ a ≤ 8 * I + 8 ∧ i = .int .i64 a ∧ w = w2) (fun i _ => 8 * I + 8 - (intOf i).toNat)
          case atStart => exact ⟨F, by omega, by omega, by omega, by omega, by go_num, rfl⟩
          case round =>
            obtain ⟨a, ha1, ha2, ha3, ha4, rfl, rfl⟩ := hrel
            by_cases hae : a = 8 * I + 8
            · subst hae
              go_wp2
              exact ⟨⟨I + 1, by omega, by omega, by go_num, trivial⟩, by simp [intOf]; omega⟩
            · have hax : (a : Int) < 8 * (I : Int) + 8 := by omega
              have hh := HH.out a
              by_cases hak : a = k
              · subst hak
                rw [h3] at hh
                go_wp2_with (go_at_call 73; (with_reducible refine hh.mono ?_); rintro e w3 ⟨rfl, rfl⟩)
                rw [Exit.noGoto_ret]
                go_ret2
                exact ⟨rfl, rfl⟩
              · have hb4 : bit l a = false := H4.out a ha1 (by omega)
                rw [hb4] at hh
                go_wp2_with (go_at_call 73; (with_reducible refine hh.mono ?_); rintro e w3 ⟨rfl, rfl⟩)
                exact ⟨⟨a + 1, by omega, by omega, by omega, by omega, by go_num, trivial⟩, by simp [intOf]; omega⟩
set_option maxHeartbeats 1000000 in
theorem next_no (v : Value) (l : List UInt8) (F : Nat) (set : Bool) (w : World) (hl : l.length ≤ 1000000) (hd : Sl w w.heap.size v l.length (bs l)) (h1 : F ≤ 8 * l.length) (h4 : ∀ j, F ≤ j → j < 8 * l.length → bit l j = !set) :
    Calls Try.prog 46 #[v, .int .i64 (F : Nat), .bool set] w fun e w' => e = .returned (.tuple #[.int .i64 0, .bool false]) ∧ w = w' := by
  have hhas := fun i => has_nat v l i w hl hd
  obtain ⟨A, c, rfl, hc1, hc2⟩ := hd.form
  have hlx : (l.length : Int) ≤ 1000000 := by omega
  have HD := Lib.hid hd
  have H4 := Lib.hid h4
  have HH := Lib.hid hhas
  clear h4 hhas hd
  have hmax : (if (F : Int) < 0 then 0 else (F : Int)) = F := if_neg (by omega)
  go_enter Try.func46, Try.ntmps46
  cases set
  · go_wp2
    go_step3
    go_wp2
    go_step3
    go_wp2
    go_loopw [9] (fun i wr => ∃ I : Nat, F / 8 ≤ I ∧ I ≤ l.length ∧ i = .int .i64 I ∧ w = wr) (fun i _ => l.length - (intOf i).toNat)
    case atStart => exact ⟨F / 8, by omega, by omega, by go_num, rfl⟩
    case round =>
      obtain ⟨I, hI1, hI2, rfl, rfl⟩ := hrel
      by_cases hIl : I < l.length
      · have hIx : (I : Int) < (l.length : Int) := by omega
        obtain ⟨b, off, rfl, _, hat⟩ := HD.out.at_ (by omega)
        have hcell : w.cell? ⟨b, off + I, none⟩ = some (.int .u8 ((l[I]).toNat : Int)) := hat _ _ (bs_get hIl)
        clear hat
        have hx := (l[I]).toNat_lt
        by_cases hxn : (l[I]).toNat = 255
        · rw [hxn] at hcell
          clear hxn hx
          go_wp2
          exact ⟨⟨I + 1, by omega, by omega, by go_num, trivial⟩, by simp [intOf]; omega⟩
        · have hxnx : ¬ ((l[I]).toNat : Int) = 255 := by omega
          generalize (l[I]).toNat = x at *
          have hbeq : ((x : Int) == 255) = false := beq_false_of_ne hxnx
          clear hxnx hxn
          by_cases hM : F < 8 * I
          · have hMx : (F : Int) < 8 * (I : Int) := by omega
            go_wp2
            go_loopw [10] (fun i w2 => ∃ a : Nat, F ≤ a ∧ 8 * I ≤ a ∧ a ≤ 8 * I + 8 ∧ i = .int .i64 a ∧ w = w2) (fun i _ => 8 * I + 8 - (intOf i).toNat)
            case atStart => exact ⟨8 * I, by omega, by omega, by omega, by go_num, rfl⟩
            case round =>
              obtain ⟨a, ha1, ha2, ha4, rfl, rfl⟩ := hrel
              by_cases hae : a = 8 * I + 8
              · subst hae
                go_wp2
                exact ⟨⟨I + 1, by omega, by omega, by go_num, trivial⟩, by simp [intOf]; omega⟩
              · have hax : (a : Int) < 8 * (I : Int) + 8 := by omega
                have hh := HH.out a
                have hb4 : bit l a = true := H4.out a ha1 (by omega)
                rw [hb4] at hh
                go_wp2_with (go_at_call 73; (with_reducible refine hh.mono ?_); rintro e w3 ⟨rfl, rfl⟩)
                exact ⟨⟨a + 1, by omega, by omega, by omega, by go_num, trivial⟩, by simp [intOf]; omega⟩
          · have hMx : ¬ (F : Int) < 8 * (I : Int) := by omega
            go_wp2
            go_loopw [10] (fun i w2 => ∃ a : Nat, F ≤ a ∧ 8 * I ≤ a ∧ a ≤ 8 * I + 8 ∧ i = .int .i64 a ∧ w = w2) (fun i _ => 8 * I + 8 - (intOf i).toNat)
            case atStart => exact ⟨F, by omega, by omega, by omega, by go_num, rfl⟩
            case round =>
              obtain ⟨a, ha1, ha2, ha4, rfl, rfl⟩ := hrel
              by_cases hae : a = 8 * I + 8
              · subst hae
                go_wp2
                exact ⟨⟨I + 1, by omega, by omega, by go_num, trivial⟩, by simp [intOf]; omega⟩
              · have hax : (a : Int) < 8 * (I : Int) + 8 := by omega
                have hh := HH.out a
                have hb4 : bit l a = true := H4.out a ha1 (by omega)
                rw [hb4] at hh
                go_wp2_with (go_at_call 73; (with_reducible refine hh.mono ?_); rintro e w3 ⟨rfl, rfl⟩)
                exact ⟨⟨a + 1, by omega, by omega, by omega, by go_num, trivial⟩, by simp [intOf]; omega⟩
      · obtain rfl : I = l.length := by omega
        go_wp2
        rw [Exit.noGoto_ret]
        go_ret2
        exact ⟨rfl, rfl⟩
  · go_wp2
    go_step3
    go_wp2
    go_step3
    go_wp2
    go_loopw [9] (fun i wr => ∃ I : Nat, F / 8 ≤ I ∧ I ≤ l.length ∧ i = .int .i64 I ∧ w = wr) (fun i _ => l.length - (intOf i).toNat)
    case atStart => exact ⟨F / 8, by omega, by omega, by go_num, rfl⟩
    case round =>
      obtain ⟨I, hI1, hI2, rfl, rfl⟩ := hrel
      by_cases hIl : I < l.length
      · have hIx : (I : Int) < (l.length : Int) := by omega
        obtain ⟨b, off, rfl, _, hat⟩ := HD.out.at_ (by omega)
        have hcell : w.cell? ⟨b, off + I, none⟩ = some (.int .u8 ((l[I]).toNat : Int)) := hat _ _ (bs_get hIl)
        clear hat
        have hx := (l[I]).toNat_lt
        by_cases hxn : (l[I]).toNat = 0
        · rw [hxn] at hcell
          clear hxn hx
          go_wp2
          exact ⟨⟨I + 1, by omega, by omega, by go_num, trivial⟩, by simp [intOf]; omega⟩
        · have hxnx : ¬ ((l[I]).toNat : Int) = 0 := by omega
          generalize (l[I]).toNat = x at *
          have hbeq : ((x : Int) == 0) = false := beq_false_of_ne hxnx
          clear hxnx hxn
          by_cases hM : F < 8 * I
          · have hMx : (F : Int) < 8 * (I : Int) := by omega
            go_wp2
            go_loopw [10] (fun i w2 => ∃ a : Nat, F ≤ a ∧ 8 * I ≤ a ∧ a ≤ 8 * I + 8 ∧ i = .int .i64 a ∧ w = w2) (fun i _ => 8 * I + 8 - (intOf i).toNat)
            case atStart => exact ⟨8 * I, by omega, by omega, by omega, by go_num, rfl⟩
            case round =>
              obtain ⟨a, ha1, ha2, ha4, rfl, rfl⟩ := hrel
              by_cases hae : a = 8 * I + 8
              · subst hae
                go_wp2
                exact ⟨⟨I + 1, by omega, by omega, by go_num, trivial⟩, by simp [intOf]; omega⟩
              · have hax : (a : Int) < 8 * (I : Int) + 8 := by omega
                have hh := HH.out a
                have hb4 : bit l a = false := H4.out a ha1 (by omega)
                rw [hb4] at hh
                go_wp2_with (go_at_call 73; (with_reducible refine hh.mono ?_); rintro e w3 ⟨rfl, rfl⟩)
                exact ⟨⟨a + 1, by omega, by omega, by omega, by go_num, trivial⟩, by simp [intOf]; omega⟩
          · have hMx : ¬ (F : Int) < 8 * (I : Int) := by omega
            go_wp2
            go_loopw [10] (fun i w2 => ∃ a : Nat, F ≤ a ∧ 8 * I ≤ a ∧ a ≤ 8 * I + 8 ∧ i = .int .i64 a ∧ w = w2) (fun i _ => 8 * I + 8 - (intOf i).toNat)
            case atStart => exact ⟨F, by omega, by omega, by omega, by go_num, rfl⟩
            case round =>
              obtain ⟨a, ha1, ha2, ha4, rfl, rfl⟩ := hrel
              by_cases hae : a = 8 * I + 8
              · subst hae
                go_wp2
                exact ⟨⟨I + 1, by omega, by omega, by go_num, trivial⟩, by simp [intOf]; omega⟩
              · have hax : (a : Int) < 8 * (I : Int) + 8 := by omega
                have hh := HH.out a
                have hb4 : bit l a = false := H4.out a ha1 (by omega)
                rw [hb4] at hh
                go_wp2_with (go_at_call 73; (with_reducible refine hh.mono ?_); rintro e w3 ⟨rfl, rfl⟩)
                exact ⟨⟨a + 1, by omega, by omega, by omega, by go_num, trivial⟩, by simp [intOf]; omega⟩
      · obtain rfl : I = l.length := by omega
        go_wp2
        rw [Exit.noGoto_ret]
        go_ret2
        exact ⟨rfl, rfl⟩
end Go.Proofs.Ytpkebbibafldkaa
