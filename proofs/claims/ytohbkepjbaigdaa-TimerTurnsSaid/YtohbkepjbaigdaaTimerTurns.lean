/- TimerTurns: for all numbers the statement's function tells true and turns nothing that was there. No condition. -/
import Derived.Test.YtohbkepjbaigdaaTmK
import Derived.LoopTactic
namespace Go.Proofs.Ytohbkepjbaigdaa
open Go.ChangeShapes Go.WideShapes Go.ChangeAt Go.RowKit Go.Lib
set_option linter.unusedVariables false
namespace Turns
theorem walk_no (a b cut : Int) (stop : Bool) (w : World) (hno : a < 1 ∨ 60 < a ∨ b < 1 ∨ 60 < b ∨ cut < 0 ∨ a ≤ cut) :
    Calls Try.prog 6 #[.int .i64 a, .int .i64 b, .int .i64 cut, .bool stop] w fun e w' => e = .returned (.bool true) ∧ Below w.heap.size w w' := by
  by_cases h0 : a < 1
  · clear hno
    go_enter Try.func6, Try.ntmps6
    go_wp2_with (go_at_call 8; refine (known_any _).mono ?_; rintro e w1 ⟨rfl, hb1⟩)
    go_ret
    exact ⟨rfl, hb1⟩
  · skip
    by_cases h1 : 60 < a
    · clear hno
      go_enter Try.func6, Try.ntmps6
      go_wp2_with (go_at_call 8; refine (known_any _).mono ?_; rintro e w1 ⟨rfl, hb1⟩)
      go_ret
      exact ⟨rfl, hb1⟩
    · skip
      by_cases h2 : b < 1
      · clear hno
        go_enter Try.func6, Try.ntmps6
        go_wp2_with (go_at_call 8; refine (known_any _).mono ?_; rintro e w1 ⟨rfl, hb1⟩)
        go_ret
        exact ⟨rfl, hb1⟩
      · skip
        by_cases h3 : 60 < b
        · clear hno
          go_enter Try.func6, Try.ntmps6
          go_wp2_with (go_at_call 8; refine (known_any _).mono ?_; rintro e w1 ⟨rfl, hb1⟩)
          go_ret
          exact ⟨rfl, hb1⟩
        · skip
          by_cases h4 : cut < 0
          · clear hno
            go_enter Try.func6, Try.ntmps6
            go_wp2_with (go_at_call 8; refine (known_any _).mono ?_; rintro e w1 ⟨rfl, hb1⟩)
            go_ret
            exact ⟨rfl, hb1⟩
          · skip
            have h5 : a ≤ cut := by omega
            go_enter Try.func6, Try.ntmps6
            go_wp2_with (go_at_call 8; refine (known_any _).mono ?_; rintro e w1 ⟨rfl, hb1⟩)
            go_ret
            exact ⟨rfl, hb1⟩
/-- What is set behind so many ticks, and where the seventh went off. -/
structure Then (S : List One) (now : Int) (stop : Bool) (d : Int) : Prop where
  mem : ∀ x, x ∈ S ↔ (x = (9, 100) ∧ now < 100) ∨ (stop = false ∧ x = (7, d) ∧ now < d)
theorem Then.tick {S : List One} {now d : Int} {stop : Bool} (h : Then S now stop d) : Then (gone S (now + 1)) (now + 1) stop d := by
  refine ⟨fun x => ?_⟩
  rw [mem_gone, h.mem]
  constructor
  · rintro ⟨⟨rfl, h1⟩ | ⟨h0, rfl, h1⟩, h2⟩
    · simp only at h2
      exact .inl ⟨rfl, by omega⟩
    · simp only at h2
      exact .inr ⟨h0, rfl, by omega⟩
  · rintro (⟨rfl, h1⟩ | ⟨h0, rfl, h1⟩)
    · exact ⟨.inl ⟨rfl, by omega⟩, by simp only; omega⟩
    · exact ⟨.inr ⟨h0, rfl, by omega⟩, by simp only; omega⟩
theorem Then.seven {S : List One} {now d : Int} {stop : Bool} {I : List Int} (h : Then S now stop d) (hm : ∀ i, i ∈ I ↔ (i, now + 1) ∈ S) : 7 ∈ I ↔ stop = false ∧ d = now + 1 := by
  rw [hm, h.mem]
  constructor
  · rintro (⟨e, _⟩ | ⟨h0, e, _⟩)
    · injection e with e _; omega
    · injection e with _ e
      exact ⟨h0, e.symm⟩
  · rintro ⟨h0, rfl⟩
    exact .inr ⟨h0, rfl, by omega⟩
/-- Where the seventh went off, as far as it is known. -/
def atOf (stop : Bool) (d now b : Int) : Int := if stop = false ∧ d ≤ now then b else 0
def atIn (I : List Int) (k : Nat) (i at0 : Int) : Int := if 7 ∈ I.take k then i else at0
theorem atIn_zero (I : List Int) (i a : Int) : atIn I 0 i a = a := by simp [atIn]
theorem atIn_yes {I : List Int} {k : Nat} {i a : Int} (h : k < I.length) (h7 : I[k] = 7) : atIn I (k + 1) i a = i := by
  unfold atIn
  rw [if_pos]
  rw [List.take_add_one, List.getElem?_eq_getElem h]
  simp [h7]
theorem atIn_no {I : List Int} {k : Nat} {i a : Int} (h : k < I.length) (h7 : I[k] ≠ 7) : atIn I (k + 1) i a = atIn I k i a := by
  unfold atIn
  rw [List.take_add_one, List.getElem?_eq_getElem h]
  simp only [Option.toList_some, List.mem_append, List.mem_singleton]
  by_cases hc : 7 ∈ I.take k
  · rw [if_pos hc, if_pos (.inl hc)]
  · rw [if_neg hc, if_neg]
    rintro (h1 | h1)
    · exact hc h1
    · exact h7 h1.symm
theorem atIn_first {I : List Int} {k : Nat} {i a : Int} (hs : I.Pairwise (· < ·)) (h : k < I.length) (h7 : I[k] = 7) : atIn I k i a = a := by
  unfold atIn
  rw [if_neg]
  intro hm
  obtain ⟨j, hj, e⟩ := List.mem_iff_getElem.1 hm
  rw [List.length_take] at hj
  rw [List.getElem_take] at e
  have := List.pairwise_iff_getElem.1 hs j k (by omega) h (by omega)
  omega
theorem atIn_all {I : List Int} {i a : Int} : atIn I I.length i a = if 7 ∈ I then i else a := by
  unfold atIn
  rw [List.take_length]
theorem Then.at_ {S : List One} {now d b i : Int} {stop : Bool} {I : List Int} (h : Then S now stop d) (hm : ∀ i, i ∈ I ↔ (i, now + 1) ∈ S) (hi : d = now + 1 → i = b) : (if 7 ∈ I then i else atOf stop d now b) = atOf stop d (now + 1) b := by
  have h7 := h.seven hm
  unfold atOf
  by_cases hc : 7 ∈ I
  · have := h7.1 hc
    rw [if_pos hc, if_pos ⟨this.1, by omega⟩, hi this.2]
  · rw [if_neg hc]
    by_cases hs : stop = false
    · have : d ≠ now + 1 := fun e => hc (h7.2 ⟨hs, e⟩)
      by_cases hd : d ≤ now
      · rw [if_pos ⟨hs, hd⟩, if_pos ⟨hs, by omega⟩]
      · rw [if_neg (fun hh => hd hh.2), if_neg (fun hh => by omega)]
    · rw [if_neg (fun hh => hs hh.1), if_neg (fun hh => hs hh.1)]
set_option maxRecDepth 100000 in
set_option maxHeartbeats 1000000 in
theorem walk (a b cut : Int) (stop : Bool) (w : World) (_ : -9223372036854775808 ≤ a) (_ : a ≤ 9223372036854775807) (_ : -9223372036854775808 ≤ b) (_ : b ≤ 9223372036854775807) (_ : -9223372036854775808 ≤ cut) (_ : cut ≤ 9223372036854775807) :
    Calls Try.prog 6 #[.int .i64 a, .int .i64 b, .int .i64 cut, .bool stop] w fun e w' => e = .returned (.bool true) ∧ Below w.heap.size w w' := by
  by_cases hno : a < 1 ∨ 60 < a ∨ b < 1 ∨ 60 < b ∨ cut < 0 ∨ a ≤ cut
  · exact walk_no a b cut stop w hno
  have h0 : ¬ a < 1 := by omega
  have h1 : ¬ 60 < a := by omega
  have h2 : ¬ b < 1 := by omega
  have h3 : ¬ 60 < b := by omega
  have h4 : ¬ cut < 0 := by omega
  have h5 : ¬ a ≤ cut := by omega
  clear hno
  have cS1 : ∀ W X, TmS w W X [] 0 → Calls Try.prog 10 #[.pointer (some ⟨X, 0, none⟩), .int .i64 7, .int .i64 a] W fun e w' => e = .returned (.int .i64 0) ∧ TmS w w' X [(7, a)] 0 := by
    intro W X h
    have hc : setC [] 7 a = 0 := by unfold setC; rw [if_neg (by omega), if_neg (by simp)]
    have hs := set_s h 7 a
    have e : setS [] 7 a 0 = [(7, a)] := by unfold setS; rw [hc, if_pos rfl]; simp [rm]
    rw [hc, e] at hs
    exact hs.mono fun _ _ h => ⟨h.1, h.2.1⟩
  have cS2 : ∀ W X, TmS w W X [(7, a)] 0 → Calls Try.prog 10 #[.pointer (some ⟨X, 0, none⟩), .int .i64 9, .int .i64 100] W fun e w' => e = .returned (.int .i64 0) ∧ TmS w w' X [(9, 100), (7, a)] 0 := by
    intro W X h
    have hc : setC [(7, a)] 9 100 = 0 := by unfold setC; rw [if_neg (by omega), if_neg (by simp)]
    have hs := set_s h 9 100
    have e : setS [(7, a)] 9 100 0 = [(9, 100), (7, a)] := by unfold setS; rw [hc, if_pos rfl]; simp [rm]
    rw [hc, e] at hs
    exact hs.mono fun _ _ h => ⟨h.1, h.2.1⟩
  have cT1 : ∀ W X (k : Nat), (k : Int) < cut → TmS w W X [(9, 100), (7, a)] k → Calls Try.prog 15 #[.pointer (some ⟨X, 0, none⟩)] W fun e w' => ∃ A c, e = .returned (.slice A 0 c) ∧ TmS w w' X [(9, 100), (7, a)] ((k : Int) + 1) := by
    intro W X k hk h
    refine (ticked h (by omega)).mono ?_
    rintro e w' ⟨A, c, I, rfl, HI, _, _, h2, _⟩
    obtain rfl := no_ids (I := I) fun i hi => by
      have := (HI.out.2.1 i).1 hi
      simp only [List.mem_cons, Prod.mk.injEq, List.not_mem_nil, or_false] at this
      omega
    have e : gone [(9, 100), (7, a)] ((k : Int) + 1) = [(9, 100), (7, a)] := by
      unfold gone
      rw [List.filter_eq_self]
      intro x hx
      simp at hx
      rcases hx with rfl | rfl
      · exact decide_eq_true (by simp only; omega)
      · exact decide_eq_true (by simp only; omega)
    rw [e] at h2
    exact ⟨A, c, rfl, h2⟩
  have cS3 : ∀ W X, TmS w W X [(9, 100), (7, a)] cut → Calls Try.prog 10 #[.pointer (some ⟨X, 0, none⟩), .int .i64 7, .int .i64 b] W fun e w' => e = .returned (.int .i64 0) ∧ TmS w w' X [(7, cut + b), (9, 100)] cut := by
    intro W X h
    have hc : setC [(9, 100), (7, a)] 7 b = 0 := by unfold setC; rw [if_neg (by omega), if_neg (by simp)]
    have hs := set_s h 7 b
    have e : setS [(9, 100), (7, a)] 7 b cut = [(7, cut + b), (9, 100)] := by unfold setS; rw [hc, if_pos rfl]; simp [rm]
    rw [hc, e] at hs
    exact hs.mono fun _ _ h => ⟨h.1, h.2.1⟩
  have cSt1 : ∀ W X, TmS w W X [(7, cut + b), (9, 100)] cut → Calls Try.prog 12 #[.pointer (some ⟨X, 0, none⟩), .int .i64 7] W fun e w' => e = .returned (.bool true) ∧ TmS w w' X [(9, 100)] cut := by
    intro W X h
    have hs := stop_s h 7
    have e : rm [(7, cut + b), (9, 100)] 7 = [(9, 100)] := by simp [rm]
    rw [e, decide_eq_true (by simp [ids])] at hs
    exact hs.mono fun _ _ h => ⟨h.1, h.2.1⟩
  have cSt2 : ∀ W X, TmS w W X [(9, 100)] cut → Calls Try.prog 12 #[.pointer (some ⟨X, 0, none⟩), .int .i64 7] W fun e w' => e = .returned (.bool false) ∧ TmS w w' X [(9, 100)] cut := by
    intro W X h
    have hs := stop_s h 7
    have e : rm [(9, 100)] 7 = [(9, 100)] := by simp [rm]
    rw [e, decide_eq_false (by simp [ids])] at hs
    exact hs.mono fun _ _ h => ⟨h.1, h.2.1⟩
  obtain ⟨C, rfl⟩ : ∃ C : Nat, cut = C := ⟨cut.toNat, by omega⟩
  go_enter Try.func6, Try.ntmps6
  go_wp2_with (first
    | (go_at_call 8; refine (known_any _).mono ?_; rintro e w1 ⟨rfl, hb1⟩)
    | (go_at_call 9; (with_reducible refine (new_s hb1).mono ?_); rintro e w2 ⟨rfl, hs2, hb2⟩)
    | (go_at_call 10; (with_reducible refine (cS1 _ _ hs2).mono ?_); rintro e w3 ⟨rfl, hs3⟩)
    | (go_at_call 10; (with_reducible refine (cS2 _ _ hs3).mono ?_); rintro e w4 ⟨rfl, hs4⟩))
  clear hs2 hs3 cS1 cS2
  go_loopw [10] (fun i wr => ∃ k : Nat, k ≤ C ∧ i = .int .i64 k ∧ TmS w wr w1.heap.size [(9, 100), (7, a)] (k : Int)) (fun i _ => C - (intOf i).toNat)
  case atStart => exact ⟨0, by omega, rfl, hs4⟩
  case round =>
    clear hs4
    obtain ⟨k, hk, rfl, hs⟩ := hrel
    by_cases hkC : k < C
    · have hkx : (k : Int) < (C : Int) := by omega
      go_wp2_with (go_at_call 15; (with_reducible refine (cT1 _ _ k hkx hs).mono ?_); rintro e w5 ⟨A5, c5, rfl, hs5⟩)
      exact ⟨⟨k + 1, by omega, by simp, by have e : ((k + 1 : Nat) : Int) = (k : Int) + 1 := by omega
                                           rw [e]; exact hs5⟩, by simp [intOf]; omega⟩
    · obtain rfl : C = k := by omega
      rcases stop with _ | _
      · skip
        have hgo : ∀ W, TmS w W w1.heap.size [(7, (C : Int) + b), (9, 100)] (C : Int) → True := fun _ _ => trivial
        clear hgo
        go_wp2_with (first
          | (go_at_call 10; (with_reducible refine (cS3 _ _ hs).mono ?_); rintro e w5 ⟨rfl, hs5⟩)
          | (go_at_call 22; (with_reducible refine (len_s hs5).mono ?_); rintro e w6 ⟨rfl, rfl⟩))
        clear cT1 cS3 cSt1 cSt2 hs
        obtain ⟨S0, hS0⟩ : ∃ S0 : List One, S0 = [(7, (C : Int) + b), (9, 100)] := ⟨_, rfl⟩
        rw [← hS0] at hs5
        have hth : Hid (Then S0 (C : Int) false ((C : Int) + b)) := Lib.hid (by
          subst hS0
          refine ⟨fun x => ?_⟩
          simp only [List.mem_cons, List.not_mem_nil, or_false]
          constructor
          · rintro (rfl | rfl)
            · exact .inr ⟨by trivial, by trivial, by omega⟩
            · exact .inl ⟨rfl, by omega⟩
          · rintro (⟨rfl, _⟩ | ⟨_, rfl, _⟩)
            · exact .inr rfl
            · exact .inl rfl)
        clear hS0
        go_loopw [11, 12] (fun at_ i wr => ∃ (m : Nat) (S : List One), m ≤ 61 ∧ i = .int .i64 ((m : Int) + 1) ∧ at_ = .int .i64 (atOf false ((C : Int) + b) ((C : Int) + m) b) ∧ Hid (Then S ((C : Int) + m) false ((C : Int) + b)) ∧ TmS w wr w1.heap.size S ((C : Int) + m)) (fun _ i _ => 63 - (intOf i).toNat)
        case atStart => exact ⟨0, S0, by omega, rfl, by simp only [atOf]; rw [if_neg (by omega)], by simpa using hth, by simpa using hs5⟩
        case round =>
          clear hth hs5
          obtain ⟨m, S, hm, rfl, rfl, HTH, hs⟩ := hrel
          by_cases hm61 : m < 61
          · have hmx : (m : Int) + 1 ≤ 61 := by omega
            have ht := ticked hs (by omega)
            go_wp2_with (go_at_call 15; (with_reducible refine ht.mono ?_); rintro e w6 ⟨A6, c6, I, rfl, HI, ho6, hI6, hs6, _⟩)
            have hI6x : (I.length : Int) ≤ 256 := by omega
            have hat := HTH.out.at_ (I := I) (b := b) (i := (m : Int) + 1) HI.out.2.1 (by omega)
            have hz : 7 ∈ I → atOf false ((C : Int) + b) ((C : Int) + m) b = 0 := fun h => by
              have := (HTH.out.seven HI.out.2.1).1 h
              unfold atOf
              rw [if_neg (by omega)]
            have HAT := Lib.hid hat
            have HZ := Lib.hid hz
            have hth2 := HTH.out.tick
            have HTH2 := Lib.hid hth2
            clear hat hz hth2
            generalize atOf false ((C : Int) + b) ((C : Int) + m) b = at0 at *
            go_loopw [11, 14] (fun at_ i wr => ∃ k : Nat, k ≤ I.length ∧ i = .int .i64 k ∧ at_ = .int .i64 (atIn I k ((m : Int) + 1) at0) ∧ w6 = wr) (fun _ i _ => I.length - (intOf i).toNat)
            case atStart => exact ⟨0, by omega, rfl, by rw [atIn_zero], rfl⟩
            case round =>
              obtain ⟨k, hk, rfl, rfl, rfl⟩ := hrel
              by_cases hkI : k < I.length
              · have hkx : (k : Int) < (I.length : Int) := by omega
                obtain ⟨g, rfl, _, _, hc⟩ := ids_at ho6 hkI
                by_cases h7 : I[k] = 7
                · have e1 := atIn_yes (i := (m : Int) + 1) (a := at0) hkI h7
                  have e2 := atIn_first (i := (m : Int) + 1) (a := at0) HI.out.1 hkI h7
                  have e3 := HZ.out (h7 ▸ List.getElem_mem hkI)
                  subst e3
                  rw [e2]
                  rw [h7] at hc
                  have E1 := Lib.hid e1
                  clear e1 e2
                  go_wp2
                  exact ⟨⟨k + 1, by omega, by simp, by rw [E1.out], by trivial⟩, by simp [intOf]; omega⟩
                · have e1 := atIn_no (i := (m : Int) + 1) (a := at0) hkI h7
                  have E1 := Lib.hid e1
                  have h7' : ¬ I[k] = 7 := h7
                  clear e1 h7
                  generalize I[k] = q at *
                  go_wp2
                  exact ⟨⟨k + 1, by omega, by simp, by rw [E1.out], by trivial⟩, by simp [intOf]; omega⟩
              · obtain rfl : k = I.length := by omega
                have e1 : atIn I I.length ((m : Int) + 1) at0 = _ := atIn_all
                rw [e1, HAT.out]
                have en : (C : Int) + ((m + 1 : Nat) : Int) = (C : Int) + m + 1 := by omega
                have HEN := Lib.hid en
                clear e1 en
                go_wp2
                exact ⟨⟨m + 1, _, by omega, by simp, by rw [HEN.out], by rw [HEN.out]; exact HTH2.out, by rw [HEN.out]; exact hs6⟩, by simp [intOf]; omega⟩
          · obtain rfl : m = 61 := by omega
            have he : atOf false ((C : Int) + b) ((C : Int) + ((61 : Nat) : Int)) b = b := by unfold atOf; rw [if_pos ⟨rfl, by omega⟩]
            rw [he]
            have hbl := hs.bl
            clear hs he
            go_wp2
            go_ret
            exact ⟨rfl, hbl⟩
      · skip
        have hgo : ∀ W, TmS w W w1.heap.size [(9, 100)] (C : Int) → True := fun _ _ => trivial
        clear hgo
        go_wp2_with (first
          | (go_at_call 10; (with_reducible refine (cS3 _ _ hs).mono ?_); rintro e w5 ⟨rfl, hs5⟩)
          | (go_at_call 22; (with_reducible refine (len_s hs5).mono ?_); rintro e w6 ⟨rfl, rfl⟩)
          | (go_at_call 12; (with_reducible refine (cSt1 _ _ hs5).mono ?_); rintro e w7 ⟨rfl, hs7⟩)
          | (go_at_call 12; (with_reducible refine (cSt2 _ _ hs7).mono ?_); rintro e w8 ⟨rfl, hs8⟩))
        clear hs5 hs7
        clear cT1 cS3 cSt1 cSt2 hs
        obtain ⟨S0, hS0⟩ : ∃ S0 : List One, S0 = [(9, 100)] := ⟨_, rfl⟩
        rw [← hS0] at hs8
        have hth : Hid (Then S0 (C : Int) true ((C : Int) + b)) := Lib.hid (by
          subst hS0
          refine ⟨fun x => ?_⟩
          simp only [List.mem_cons, List.not_mem_nil, or_false]
          constructor
          · rintro rfl
            exact .inl ⟨rfl, by omega⟩
          · rintro (⟨rfl, _⟩ | ⟨h, _⟩)
            · rfl
            · cases h)
        clear hS0
        go_loopw [11, 12] (fun at_ i wr => ∃ (m : Nat) (S : List One), m ≤ 61 ∧ i = .int .i64 ((m : Int) + 1) ∧ at_ = .int .i64 (atOf true ((C : Int) + b) ((C : Int) + m) b) ∧ Hid (Then S ((C : Int) + m) true ((C : Int) + b)) ∧ TmS w wr w1.heap.size S ((C : Int) + m)) (fun _ i _ => 63 - (intOf i).toNat)
        case atStart => exact ⟨0, S0, by omega, rfl, by simp only [atOf]; rw [if_neg (by omega)], by simpa using hth, by simpa using hs8⟩
        case round =>
          clear hth hs8
          obtain ⟨m, S, hm, rfl, rfl, HTH, hs⟩ := hrel
          by_cases hm61 : m < 61
          · have hmx : (m : Int) + 1 ≤ 61 := by omega
            have ht := ticked hs (by omega)
            go_wp2_with (go_at_call 15; (with_reducible refine ht.mono ?_); rintro e w6 ⟨A6, c6, I, rfl, HI, ho6, hI6, hs6, _⟩)
            have hI6x : (I.length : Int) ≤ 256 := by omega
            have hat := HTH.out.at_ (I := I) (b := b) (i := (m : Int) + 1) HI.out.2.1 (by omega)
            have hz : 7 ∈ I → atOf true ((C : Int) + b) ((C : Int) + m) b = 0 := fun h => by
              have := (HTH.out.seven HI.out.2.1).1 h
              unfold atOf
              rw [if_neg (by omega)]
            have HAT := Lib.hid hat
            have HZ := Lib.hid hz
            have hth2 := HTH.out.tick
            have HTH2 := Lib.hid hth2
            clear hat hz hth2
            generalize atOf true ((C : Int) + b) ((C : Int) + m) b = at0 at *
            go_loopw [11, 14] (fun at_ i wr => ∃ k : Nat, k ≤ I.length ∧ i = .int .i64 k ∧ at_ = .int .i64 (atIn I k ((m : Int) + 1) at0) ∧ w6 = wr) (fun _ i _ => I.length - (intOf i).toNat)
            case atStart => exact ⟨0, by omega, rfl, by rw [atIn_zero], rfl⟩
            case round =>
              obtain ⟨k, hk, rfl, rfl, rfl⟩ := hrel
              by_cases hkI : k < I.length
              · have hkx : (k : Int) < (I.length : Int) := by omega
                obtain ⟨g, rfl, _, _, hc⟩ := ids_at ho6 hkI
                by_cases h7 : I[k] = 7
                · have e1 := atIn_yes (i := (m : Int) + 1) (a := at0) hkI h7
                  have e2 := atIn_first (i := (m : Int) + 1) (a := at0) HI.out.1 hkI h7
                  have e3 := HZ.out (h7 ▸ List.getElem_mem hkI)
                  subst e3
                  rw [e2]
                  rw [h7] at hc
                  have E1 := Lib.hid e1
                  clear e1 e2
                  go_wp2
                  exact ⟨⟨k + 1, by omega, by simp, by rw [E1.out], by trivial⟩, by simp [intOf]; omega⟩
                · have e1 := atIn_no (i := (m : Int) + 1) (a := at0) hkI h7
                  have E1 := Lib.hid e1
                  have h7' : ¬ I[k] = 7 := h7
                  clear e1 h7
                  generalize I[k] = q at *
                  go_wp2
                  exact ⟨⟨k + 1, by omega, by simp, by rw [E1.out], by trivial⟩, by simp [intOf]; omega⟩
              · obtain rfl : k = I.length := by omega
                have e1 : atIn I I.length ((m : Int) + 1) at0 = _ := atIn_all
                rw [e1, HAT.out]
                have en : (C : Int) + ((m + 1 : Nat) : Int) = (C : Int) + m + 1 := by omega
                have HEN := Lib.hid en
                clear e1 en
                go_wp2
                exact ⟨⟨m + 1, _, by omega, by simp, by rw [HEN.out], by rw [HEN.out]; exact HTH2.out, by rw [HEN.out]; exact hs6⟩, by simp [intOf]; omega⟩
          · obtain rfl : m = 61 := by omega
            have he : atOf true ((C : Int) + b) ((C : Int) + ((61 : Nat) : Int)) b = 0 := by unfold atOf; rw [if_neg (by simp)]
            rw [he]
            have hbl := hs.bl
            clear hs he
            go_wp2
            go_ret
            exact ⟨rfl, hbl⟩
set_option maxRecDepth 100000 in
theorem lifted (os : Os) (started : os.Started) (H : Type) (enc : TypeId × Value → H) :
    ReturnsInHanded {} Try.checked os 6 .any (Rows.timerTurnsSpec.pre6 enc Try.prog Try.f6 Rows.timerTurnsRow.domain false) (Rows.timerTurnsSpec.post enc Try.prog Try.f6 false true false false) := by
  refine returnsInHanded_of_change (C := Try.checked) own started (by kernel_rfl) Try.func6
    (ChangeSpec.witness6 (enc := enc) (C := Try.checked) false ⟨#[], #[.int .i64 0, .int .i64 0, .int .i64 0, .bool false], []⟩ 8 (by kernel_rfl) (by kernel_rfl) (by kernel_rfl) (by kernel_rfl)) ?_
  intro W base args ds gs before hval0 hW hcnd _
  have hval : ∀ (j : Nat) t v, Try.f6.params[j]? = some t → args[j]? = some v → Value.okWide Try.prog W .any base t v := hval0
  have hW' := hW
  obtain ⟨p, q, hA0, hV, rfl, hfz, hnd⟩ := hW
  have hA : DataW.TrodAll enc Try.prog W 0 (fun _ => true) true Try.f6.params.toList args.toList ds p := hA0
  rw [Try.params6] at hA hval
  obtain ⟨v0, vs0, d0, ds0, p0, q0, hargs, rfl, rfl, h0, r0⟩ := trodAll_cons hA
  obtain ⟨v1, vs1, d1, ds1, p1, q1, rfl, rfl, rfl, h1, r1⟩ := trodAll_cons r0
  obtain ⟨v2, vs2, d2, ds2, p2, q2, rfl, rfl, rfl, h2, r2⟩ := trodAll_cons r1
  obtain ⟨v3, vs3, d3, ds3, p3, q3, rfl, rfl, rfl, h3, r3⟩ := trodAll_cons r2
  obtain ⟨rfl, rfl, rfl⟩ := trodAll_nil r3
  obtain rfl : args = #[v0, v1, v2, v3] := by cases args; simp_all
  obtain ⟨rfl, rfl⟩ := trodVars_none hV
  obtain ⟨a0, rfl, _, _, w0⟩ := open_int Try.underlying3 (hval 0 3 v0 rfl rfl) h0
  have b0 := bounds_i64 w0
  obtain ⟨a1, rfl, _, _, w1⟩ := open_int Try.underlying3 (hval 1 3 v1 rfl rfl) h1
  have b1 := bounds_i64 w1
  obtain ⟨a2, rfl, _, _, w2⟩ := open_int Try.underlying3 (hval 2 3 v2 rfl rfl) h2
  have b2 := bounds_i64 w2
  obtain ⟨a3, rfl, _, _⟩ := open_bool Try.underlying4 (hval 3 4 v3 rfl rfl) h3
  refine (walk a0 a1 a2 a3 W b0.1 b0.2 b1.1 b1.2 b2.1 b2.2).mono fun e W' ⟨he, hb⟩ => ?_
  subst he
  exact ⟨_, rfl, law_post laidOut (by kernel_rfl) rfl (by kernel_rfl) Try.underlying4 rfl rfl rfl hW' hb⟩

theorem proved : Rows.TimerTurnsSaid :=
  OpenClaim.holds_of_wide 6 Try.f6 rfl rfl rfl rfl rfl rfl rfl ⟨rfl, rfl, rfl, rfl, rfl⟩ rfl rfl rfl rfl rfl (by kernel_rfl) Try.func6 (by kernel_rfl)
    (of_decide_eq_true (by kernel_rfl)) (by unfold Func.isWrapper; first | (rw [if_pos (by decide +kernel)]; kernel_rfl) | (rw [if_neg (by decide +kernel)]; exact ⟨rfl, rfl⟩))
    (fun os started H enc _ => lifted os started H enc)
end Turns
end Go.Proofs.Ytohbkepjbaigdaa
