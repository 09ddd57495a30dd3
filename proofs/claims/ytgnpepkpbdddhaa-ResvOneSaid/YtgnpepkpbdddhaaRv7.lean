/- Package resv: Key, Keys, Holder, Generation, Allows: contracts. -/
import Derived.Test.YtgnpepkpbdddhaaRv6
namespace Go.Proofs.Ytgnpepkpbdddhaa
open Go.ChangeShapes Go.WideShapes Go.ChangeAt Go.RowKit Go.Lib
set_option linter.unusedVariables false
set_option linter.unusedSimpArgs false
namespace Rv
/-- A host's key, or 0. -/
def RT.key (t : RT) (host : Int) : Nat := if 0 ≤ host ∧ host < 8 then t.at_ host.toNat else 0
theorem RT.key_nat (t : RT) (i : Nat) (hi : i < 8) : t.key (i : Nat) = t.at_ i := by
  unfold RT.key
  rw [if_pos (by omega)]
  simp
section
variable {w w' : World} {Y : Nat} {t : RT}
theorem key_any (h : TabM w Y t) (host : Int) : Calls Try.prog 11 #[.pointer (some ⟨Y, 0, none⟩), .int .i64 host] w fun e w' => e = .returned (.int .u64 (t.key host : Nat)) ∧ w = w' := by
  have hih := fun W => isHost_any host W
  by_cases hh : 0 ≤ host ∧ host < 8
  · rw [decide_eq_true hh] at hih
    obtain ⟨i, rfl⟩ : ∃ i : Nat, host = (i : Nat) := ⟨host.toNat, by omega⟩
    have hi : i < 8 := by omega
    have hix : (i : Int) < 8 := by omega
    rw [RT.key_nat t i hi]
    have y0 := h.key i hi
    unfold RT.at_
    generalize t.keys[i]?.getD 0 = k0 at *
    clear hh
    go_enter Try.func11, Try.ntmps11
    go_wp2_with (go_at_call 27; (with_reducible refine (hih _).mono ?_); rintro e w1 ⟨rfl, rfl⟩)
    go_ret
    exact ⟨rfl, rfl⟩
  · rw [decide_eq_false hh] at hih
    have e : t.key host = 0 := by unfold RT.key; rw [if_neg hh]
    rw [e]
    clear hh e
    go_enter Try.func11, Try.ntmps11
    go_wp2_with (go_at_call 27; (with_reducible refine (hih _).mono ?_); rintro e w1 ⟨rfl, rfl⟩)
    go_ret
    exact ⟨rfl, rfl⟩
theorem gen_any (h : TabM w Y t) : Calls Try.prog 19 #[.pointer (some ⟨Y, 0, none⟩)] w fun e w' => e = .returned (.int .u32 (t.gen : Nat)) ∧ w = w' := by
  have x := h.c10
  go_enter Try.func19, Try.ntmps19
  go_wp2
  go_ret
  exact ⟨rfl, rfl⟩
theorem holder_any (h : TabM w Y t) : Calls Try.prog 10 #[.pointer (some ⟨Y, 0, none⟩)] w fun e w' => e = .returned (.tuple #[.int .i64 t.holder, .int .i64 (t.typ : Nat)]) ∧ ∃ k, w' = w.drewN k := by
  have x := h.c8
  have x9 := h.c9
  go_enter Try.func10, Try.ntmps10
  go_wp2
  go_quiet (fail)
  go_wp2
  exact bodyPost_ret (v := .tuple #[.int .i64 t.holder, .int .i64 (t.typ : Nat)]) (by simp [results, Try.results10, go_sem]) rfl ⟨rfl, _, rfl⟩
set_option maxRecDepth 100000 in
theorem keys_none (h : TabM w Y t) (h0 : t.keys = [0, 0, 0, 0, 0, 0, 0, 0]) : Calls Try.prog 16 #[.pointer (some ⟨Y, 0, none⟩)] w fun e w' => e = .returned (.slice none 0 0) ∧ w = w' := by
  have hlen := h.len
  have hra : w.rangeAt Y 0 (kus t.keys) := by
    intro j v hj
    rw [kus_get] at hj
    have hjl : j < 8 := by
      rcases Nat.lt_or_ge j 8 with h1 | h1
      · exact h1
      · rw [List.getElem?_eq_none (by omega)] at hj; cases hj
    rw [Nat.zero_add, h.key j hjl]
    rw [List.getElem?_eq_getElem (by omega)] at hj ⊢
    exact hj
  have hkl : (kus t.keys).length = 8 := by simp [kus, hlen]
  have hix : ∀ j : Nat, j < 8 → ∀ W, (Instr.index 57 (.agg (kus t.keys).toArray) (.int .i64 (j : Nat))).run Try.prog W = .ok (.int .u64 0) W := by
    intro j hj W
    have := idx_keys t.keys hlen j hj W
    have e : t.keys[j]?.getD 0 = 0 := by
      rw [h0]
      match j, hj with
      | 0, _ | 1, _ | 2, _ | 3, _ | 4, _ | 5, _ | 6, _ | 7, _ => rfl
    rw [e] at this
    exact this
  clear h0
  go_enter Try.func16, Try.ntmps16
  go_wp2_with (refine wpList_load_mid rfl 57 (.tmp 8) rfl Y 0 rfl (kus t.keys) _ hra Try.underlying57 rfl (by rw [hkl]; kernel_rfl) ?_)
  go_loopw [3, 10] (fun s3 s10 wr => ∃ j : Nat, j ≤ 8 ∧ s3 = .slice none 0 0 ∧ s10 = .int .i64 (j : Nat) ∧ w = wr) (fun _ s10 _ => 8 - (intOf s10).toNat)
  case atStart => exact ⟨0, by omega, rfl, rfl, rfl⟩
  case round =>
    obtain ⟨j, hj, rfl, rfl, rfl⟩ := hrel
    by_cases hj8 : j < 8
    · have hjx : (j : Int) < 8 := by omega
      have hidx := hix j hj8
      go_wp2
      exact ⟨⟨j + 1, hj8, rfl, by go_num, trivial⟩, by simp [intOf]; omega⟩
    · obtain rfl : j = 8 := by omega
      go_wp2
      go_ret
      exact ⟨rfl, rfl⟩
/-- May a host do what a command of a kind does? -/
def RT.may (t : RT) (host kind : Int) : Bool :=
  if t.holder = -1 ∨ t.holder = host then true
  else if (t.typ = 5 ∨ t.typ = 6) ∧ t.key host ≠ 0 then true
  else if kind = 2 then decide (t.typ = 1 ∨ t.typ = 5)
  else if kind = 3 then false else true
theorem allows_any (h : TabM w Y t) (host kind : Int) (hk : kind = 2 ∨ kind = 3 ∨ kind = 8) : Calls Try.prog 12 #[.pointer (some ⟨Y, 0, none⟩), .int .i64 host, .int .i64 kind] w fun e w' => e = .returned (.bool (t.may host kind)) ∧ w = w' := by
  have x8 := h.c8
  have x9 := h.c9
  have hky := key_any h host
  have hsh := fun W => shared_any (t.typ : Nat) W
  by_cases h1 : t.holder = -1
  · have e : t.may host kind = true := by unfold RT.may; rw [if_pos (.inl h1)]
    rw [e]
    rw [h1] at x8
    clear h1 e hk hky
    go_enter Try.func12, Try.ntmps12
    go_wp2
    go_ret
    exact ⟨rfl, rfl⟩
  have b1 : (t.holder == -1) = false := beq_eq_false_iff_ne.2 h1
  by_cases h2 : t.holder = host
  · have e : t.may host kind = true := by unfold RT.may; rw [if_pos (.inr h2)]
    rw [e]
    have b2 : (t.holder == host) = true := beq_iff_eq.2 h2
    clear e hk hky
    subst h2
    go_enter Try.func12, Try.ntmps12
    go_wp2
    go_ret
    exact ⟨rfl, rfl⟩
  have b2 : (t.holder == host) = false := beq_eq_false_iff_ne.2 h2
  by_cases h3 : (t.typ = 5 ∨ t.typ = 6) ∧ t.key host ≠ 0
  · have e : t.may host kind = true := by unfold RT.may; rw [if_neg fun e => e.elim h1 h2, if_pos h3]
    rw [e]
    rw [decide_eq_true (by omega)] at hsh
    obtain ⟨_, h4⟩ := h3
    generalize t.key host = k0 at *
    have b3 : ¬ (k0 : Int) = 0 := by omega
    have b4 : ((k0 : Int) != 0) = true := bne_iff_ne.2 b3
    clear e hk h4
    go_enter Try.func12, Try.ntmps12
    go_wp2_with (first
      | (go_at_call 28; (with_reducible refine (hsh _).mono ?_); rintro e w1 ⟨rfl, rfl⟩)
      | (go_at_call 11; (with_reducible refine hky.mono ?_); rintro e w1 ⟨rfl, rfl⟩))
    go_ret
    exact ⟨rfl, rfl⟩
  have e : t.may host kind = if kind = 2 then decide (t.typ = 1 ∨ t.typ = 5) else if kind = 3 then false else true := by unfold RT.may; rw [if_neg fun e => e.elim h1 h2, if_neg h3]
  rw [e]
  clear e
  have walk : ∀ (b : Bool) (k0 : Nat), (b = true → k0 = 0) → (∀ W, Calls Try.prog 28 #[.int .i64 (t.typ : Nat)] W fun e w' => e = .returned (.bool b) ∧ W = w') → (Calls Try.prog 11 #[.pointer (some ⟨Y, 0, none⟩), .int .i64 host] w fun e w' => e = .returned (.int .u64 (k0 : Nat)) ∧ w = w') → Calls Try.prog 12 #[.pointer (some ⟨Y, 0, none⟩), .int .i64 host, .int .i64 kind] w fun e w' => e = .returned (.bool (if kind = 2 then decide (t.typ = 1 ∨ t.typ = 5) else if kind = 3 then false else true)) ∧ w = w' := by
    intro b k0 hb hsh hky
    clear h3
    rcases hk with rfl | rfl | rfl
    · by_cases t1 : t.typ = 1
      · rw [if_pos rfl, decide_eq_true (.inl t1)]
        rw [t1] at hsh x9
        have hsh : ∀ W, Calls Try.prog 28 #[.int .i64 1] W fun e w' => e = .returned (.bool b) ∧ W = w' := hsh
        have x9 : w.cell? ⟨Y, 9, none⟩ = some (.int .i64 1) := x9
        cases b with
        | false =>
          clear hb t1
          go_enter Try.func12, Try.ntmps12
          go_wp2_with (go_at_call 28; (with_reducible refine (hsh _).mono ?_); rintro e w1 ⟨rfl, rfl⟩)
          go_ret
          exact ⟨rfl, rfl⟩
        | true =>
          obtain rfl := hb rfl
          clear hb t1
          go_enter Try.func12, Try.ntmps12
          go_wp2_with (first
            | (go_at_call 28; (with_reducible refine (hsh _).mono ?_); rintro e w1 ⟨rfl, rfl⟩)
            | (go_at_call 11; (with_reducible refine hky.mono ?_); rintro e w1 ⟨rfl, rfl⟩))
          go_ret
          exact ⟨rfl, rfl⟩
      · by_cases t5 : t.typ = 5
        · rw [if_pos rfl, decide_eq_true (.inr t5)]
          rw [t5] at hsh x9
          have hsh : ∀ W, Calls Try.prog 28 #[.int .i64 5] W fun e w' => e = .returned (.bool b) ∧ W = w' := hsh
          have x9 : w.cell? ⟨Y, 9, none⟩ = some (.int .i64 5) := x9
          cases b with
          | false =>
            clear hb t1 t5
            go_enter Try.func12, Try.ntmps12
            go_wp2_with (go_at_call 28; (with_reducible refine (hsh _).mono ?_); rintro e w1 ⟨rfl, rfl⟩)
            go_ret
            exact ⟨rfl, rfl⟩
          | true =>
            obtain rfl := hb rfl
            clear hb t1 t5
            go_enter Try.func12, Try.ntmps12
            go_wp2_with (first
              | (go_at_call 28; (with_reducible refine (hsh _).mono ?_); rintro e w1 ⟨rfl, rfl⟩)
              | (go_at_call 11; (with_reducible refine hky.mono ?_); rintro e w1 ⟨rfl, rfl⟩))
            go_ret
            exact ⟨rfl, rfl⟩
        · rw [if_pos rfl, decide_eq_false (fun e => e.elim t1 t5)]
          have u1 : ¬ (t.typ : Int) = 1 := by omega
          have u2 : ((t.typ : Int) == 1) = false := beq_eq_false_iff_ne.2 u1
          have u3 : ¬ (t.typ : Int) = 5 := by omega
          have u4 : ((t.typ : Int) == 5) = false := beq_eq_false_iff_ne.2 u3
          cases b with
          | false =>
            clear hb t1 t5
            go_enter Try.func12, Try.ntmps12
            go_wp2_with (go_at_call 28; (with_reducible refine (hsh _).mono ?_); rintro e w1 ⟨rfl, rfl⟩)
            go_ret
            exact ⟨rfl, rfl⟩
          | true =>
            obtain rfl := hb rfl
            clear hb t1 t5
            go_enter Try.func12, Try.ntmps12
            go_wp2_with (first
              | (go_at_call 28; (with_reducible refine (hsh _).mono ?_); rintro e w1 ⟨rfl, rfl⟩)
              | (go_at_call 11; (with_reducible refine hky.mono ?_); rintro e w1 ⟨rfl, rfl⟩))
            go_ret
            exact ⟨rfl, rfl⟩
    all_goals
      cases b with
      | false =>
        clear hb
        go_enter Try.func12, Try.ntmps12
        go_wp2_with (go_at_call 28; (with_reducible refine (hsh _).mono ?_); rintro e w1 ⟨rfl, rfl⟩)
        go_ret
        exact ⟨rfl, rfl⟩
      | true =>
        obtain rfl := hb rfl
        clear hb
        go_enter Try.func12, Try.ntmps12
        go_wp2_with (first
          | (go_at_call 28; (with_reducible refine (hsh _).mono ?_); rintro e w1 ⟨rfl, rfl⟩)
          | (go_at_call 11; (with_reducible refine hky.mono ?_); rintro e w1 ⟨rfl, rfl⟩))
        go_ret
        exact ⟨rfl, rfl⟩
  by_cases h5 : t.typ = 5 ∨ t.typ = 6
  · rw [decide_eq_true (by omega)] at hsh
    exact walk true _ (fun _ => Classical.byContradiction fun e => h3 ⟨h5, e⟩) hsh hky
  · rw [decide_eq_false (by omega)] at hsh
    exact walk false _ (fun e => by cases e) hsh hky
end
end Rv
end Go.Proofs.Ytgnpepkpbdddhaa
