/- Package resv: refused, others, give: contracts. -/
import Derived.Test.YtflodljccloobaaRv1
namespace Go.Proofs.Ytflodljccloobaa
open Go.ChangeShapes Go.WideShapes Go.ChangeAt Go.RowKit Go.Lib
set_option linter.unusedVariables false
set_option linter.unusedSimpArgs false
namespace Rv
/-- A host's key. -/
def RT.at_ (t : RT) (i : Nat) : Nat := t.keys[i]?.getD 0
/-- What is told of the others. -/
def othTo (t : RT) (host : Int) (key : Nat) (code : Int) : Nat → List (Nat × Int)
  | 0 => []
  | j + 1 => if ((j : Int) = host ∨ t.at_ j = 0 ∨ (key ≠ 0 ∧ t.at_ j ≠ key)) then othTo t host key code j else othTo t host key code j ++ [(j, code)]
def nvs (L : List (Nat × Int)) : List Value := L.flatMap fun p => [Value.int .i64 (p.1 : Nat), .int .i64 p.2]
theorem nvs_len (L : List (Nat × Int)) : (nvs L).length = L.length * 2 := by
  unfold nvs
  induction L with
  | nil => rfl
  | cons p L ih => rw [List.flatMap_cons, List.length_append, ih]; simp; omega
theorem nvs_app (L : List (Nat × Int)) (p : Nat × Int) : nvs (L ++ [p]) = nvs L ++ [Value.int .i64 (p.1 : Nat), .int .i64 p.2] := by
  unfold nvs
  rw [List.flatMap_append]
  simp
theorem othTo_len (t : RT) (host : Int) (key : Nat) (code : Int) (j : Nat) : (othTo t host key code j).length ≤ j := by
  induction j with
  | zero => exact Nat.le_refl _
  | succ j ih =>
    unfold othTo
    split
    · omega
    · rw [List.length_append, List.length_singleton]; omega
theorem not_info : (Try.prog.info? 86).map (fun i => (i.zero, i.size, i.bytes)) = some (some (.agg #[.int .i64 0, .int .i64 0]), 2, 16) := by kernel_rfl
section
variable {w w' : World} {Y : Nat} {t : RT}
set_option maxRecDepth 100000 in
theorem refused_host (Y : Nat) (host : Int) (key : Nat) (hh : ¬ (0 ≤ host ∧ host < 8)) (w : World) : Calls Try.prog 61 #[.pointer (some ⟨Y, 0, none⟩), .int .i64 host, .int .u64 (key : Nat)] w fun e w' => e = .returned (.tuple #[rep 2 5 9216, .bool true]) ∧ Below w.heap.size w w' := by
  have hih := fun W => isHost_any host W
  rw [decide_eq_false hh] at hih
  have hwr : ∀ W, Calls Try.prog 57 #[.int .i64 9216] W fun e w' => e = .returned (.agg #[Value.int .i64 2, .int .i64 5, .int .i64 9216, .slice none 0 0, .int .i64 0]) ∧ Below W.heap.size W w' := fun W => wrong_any 9216 W
  have hm0 := Mem.new w 31 #[Value.int .i64 0, .int .i64 0, .int .i64 0, .slice none 0 0, .int .i64 0]
  have hb0 : Below w.heap.size w (w.alloc (.cells #[Value.int .i64 0, .int .i64 0, .int .i64 0, .slice none 0 0, .int .i64 0] 31)) := (Below.refl _ w).alloc (Nat.le_refl _) _
  clear hh
  go_enter Try.func61, Try.ntmps61
  go_wp2_with (first
    | (go_at_call 50; (with_reducible refine (hih _).mono ?_); rintro e w1 ⟨rfl, rfl⟩)
    | (go_at_call 57; (with_reducible refine (hwr _).mono ?_); rintro e w2 ⟨rfl, hb2⟩; have hm2 := hm0.below hb2 hm0.lt)
    | (refine wpList_store_row rfl 31 (.tmp 6) (.tmp 11) rfl w.heap.size #[Value.int .i64 2, .int .i64 5, .int .i64 9216, .slice none 0 0, .int .i64 0] rfl rfl 31 #[Value.int .i64 0, .int .i64 0, .int .i64 0, .slice none 0 0, .int .i64 0] hm2 (by kernel_rfl) (by kernel_rfl) (by kernel_rfl) ?_))
  refine bodyPost_ret ((results_cell2 (p := 6) (a := 7) (ty := 31) rfl _ _ w.heap.size 31 #[Value.int .i64 2, .int .i64 5, .int .i64 9216, .slice none 0 0, .int .i64 0] (0, 0) _ rfl (hm2.row _) Try.underlying31 rfl (by kernel_rfl)).trans rfl) rfl ⟨rfl, below_setRow (hb0.trans (hb2.mono hb0.size)) (Nat.le_refl _) _⟩
set_option maxRecDepth 100000 in
theorem refused_key (h : TabM w Y t) (i : Nat) (hi : i < 8) (key : Nat) (hk : t.at_ i = 0 ∨ t.at_ i ≠ key) : Calls Try.prog 61 #[.pointer (some ⟨Y, 0, none⟩), .int .i64 (i : Nat), .int .u64 (key : Nat)] w fun e w' => e = .returned (.tuple #[rep 24 0 0, .bool true]) ∧ Below w.heap.size w w' := by
  have hih := fun W => isHost_any (i : Int) W
  rw [decide_eq_true (show 0 ≤ (i : Int) ∧ (i : Int) < 8 by omega)] at hih
  have hwr : ∀ W, Calls Try.prog 58 #[] W fun e w' => e = .returned (.agg #[Value.int .i64 24, .int .i64 0, .int .i64 0, .slice none 0 0, .int .i64 0]) ∧ Below W.heap.size W w' := fun W => conflict_any W
  have hm0 := Mem.new w 31 #[Value.int .i64 0, .int .i64 0, .int .i64 0, .slice none 0 0, .int .i64 0]
  have hb0 : Below w.heap.size w (w.alloc (.cells #[Value.int .i64 0, .int .i64 0, .int .i64 0, .slice none 0 0, .int .i64 0] 31)) := (Below.refl _ w).alloc (Nat.le_refl _) _
  have y0 := fun ob => (h.below ((Below.refl _ w).alloc (Nat.le_refl _) ob)).key i hi
  have hix : (i : Int) < 8 := by omega
  unfold RT.at_ at hk
  generalize t.keys[i]?.getD 0 = k0 at *
  by_cases hz : k0 = 0
  · subst hz
    clear hk
    go_enter Try.func61, Try.ntmps61
    go_wp2_with (first
      | (go_at_call 50; (with_reducible refine (hih _).mono ?_); rintro e w1 ⟨rfl, rfl⟩)
      | (go_at_call 58; (with_reducible refine (hwr _).mono ?_); rintro e w2 ⟨rfl, hb2⟩; have hm2 := hm0.below hb2 hm0.lt)
      | (refine wpList_store_row rfl 31 (.tmp 6) (.tmp 29) rfl w.heap.size #[Value.int .i64 24, .int .i64 0, .int .i64 0, .slice none 0 0, .int .i64 0] rfl rfl 31 #[Value.int .i64 0, .int .i64 0, .int .i64 0, .slice none 0 0, .int .i64 0] hm2 (by kernel_rfl) (by kernel_rfl) (by kernel_rfl) ?_))
    refine bodyPost_ret ((results_cell2 (p := 6) (a := 7) (ty := 31) rfl _ _ w.heap.size 31 #[Value.int .i64 24, .int .i64 0, .int .i64 0, .slice none 0 0, .int .i64 0] (0, 0) _ rfl (hm2.row _) Try.underlying31 rfl (by kernel_rfl)).trans rfl) rfl ⟨rfl, below_setRow (hb0.trans (hb2.mono hb0.size)) (Nat.le_refl _) _⟩
  · have hk := hk.resolve_left hz
    have z1 : ((k0 : Int) == 0) = false := by simpa using hz
    have z2 : ¬ (k0 : Int) = 0 := by omega
    have z3 : ((k0 : Int) == (key : Int)) = false := beq_eq_false_iff_ne.2 (by omega)
    have z4 : ¬ (k0 : Int) = (key : Int) := by omega
    clear hz hk
    go_enter Try.func61, Try.ntmps61
    go_wp2_with (first
      | (go_at_call 50; (with_reducible refine (hih _).mono ?_); rintro e w1 ⟨rfl, rfl⟩)
      | (go_at_call 58; (with_reducible refine (hwr _).mono ?_); rintro e w2 ⟨rfl, hb2⟩; have hm2 := hm0.below hb2 hm0.lt)
      | (refine wpList_store_row rfl 31 (.tmp 6) (.tmp 29) rfl w.heap.size #[Value.int .i64 24, .int .i64 0, .int .i64 0, .slice none 0 0, .int .i64 0] rfl rfl 31 #[Value.int .i64 0, .int .i64 0, .int .i64 0, .slice none 0 0, .int .i64 0] hm2 (by kernel_rfl) (by kernel_rfl) (by kernel_rfl) ?_))
    refine bodyPost_ret ((results_cell2 (p := 6) (a := 7) (ty := 31) rfl _ _ w.heap.size 31 #[Value.int .i64 24, .int .i64 0, .int .i64 0, .slice none 0 0, .int .i64 0] (0, 0) _ rfl (hm2.row _) Try.underlying31 rfl (by kernel_rfl)).trans rfl) rfl ⟨rfl, below_setRow (hb0.trans (hb2.mono hb0.size)) (Nat.le_refl _) _⟩
set_option maxRecDepth 100000 in
theorem refused_not (h : TabM w Y t) (i : Nat) (hi : i < 8) (key : Nat) (hk : t.at_ i ≠ 0) (hk2 : t.at_ i = key) : Calls Try.prog 61 #[.pointer (some ⟨Y, 0, none⟩), .int .i64 (i : Nat), .int .u64 (key : Nat)] w fun e w' => e = .returned (.tuple #[rep 0 0 0, .bool false]) ∧ Below w.heap.size w w' := by
  have hih := fun W => isHost_any (i : Int) W
  rw [decide_eq_true (show 0 ≤ (i : Int) ∧ (i : Int) < 8 by omega)] at hih
  have y0 := fun ob => (h.below ((Below.refl _ w).alloc (Nat.le_refl _) ob)).key i hi
  have hix : (i : Int) < 8 := by omega
  unfold RT.at_ at hk hk2
  rw [hk2] at hk
  rw [hk2] at y0
  have z1 : ((key : Int) == 0) = false := by simpa using hk
  have z2 : ¬ (key : Int) = 0 := by omega
  clear hk hk2
  go_enter Try.func61, Try.ntmps61
  go_wp2_with (go_at_call 50; (with_reducible refine (hih _).mono ?_); rintro e w1 ⟨rfl, rfl⟩)
  refine bodyPost_ret ((results_cell2 (p := 6) (a := 7) (ty := 31) rfl _ _ w.heap.size 31 #[Value.int .i64 0, .int .i64 0, .int .i64 0, .slice none 0 0, .int .i64 0] (0, 0) _ rfl (heap_alloc_new w _) Try.underlying31 rfl (by kernel_rfl)).trans rfl) rfl ⟨rfl, (Below.refl _ w).alloc (Nat.le_refl _) _⟩
theorem idx8 (a b c d e f g h : Int) (W : World) :
    (Instr.index 91 (.agg #[.int .u64 a, .int .u64 b, .int .u64 c, .int .u64 d, .int .u64 e, .int .u64 f, .int .u64 g, .int .u64 h]) (.int .i64 0)).run Try.prog W = .ok (.int .u64 a) W ∧
    (Instr.index 91 (.agg #[.int .u64 a, .int .u64 b, .int .u64 c, .int .u64 d, .int .u64 e, .int .u64 f, .int .u64 g, .int .u64 h]) (.int .i64 1)).run Try.prog W = .ok (.int .u64 b) W ∧
    (Instr.index 91 (.agg #[.int .u64 a, .int .u64 b, .int .u64 c, .int .u64 d, .int .u64 e, .int .u64 f, .int .u64 g, .int .u64 h]) (.int .i64 2)).run Try.prog W = .ok (.int .u64 c) W ∧
    (Instr.index 91 (.agg #[.int .u64 a, .int .u64 b, .int .u64 c, .int .u64 d, .int .u64 e, .int .u64 f, .int .u64 g, .int .u64 h]) (.int .i64 3)).run Try.prog W = .ok (.int .u64 d) W ∧
    (Instr.index 91 (.agg #[.int .u64 a, .int .u64 b, .int .u64 c, .int .u64 d, .int .u64 e, .int .u64 f, .int .u64 g, .int .u64 h]) (.int .i64 4)).run Try.prog W = .ok (.int .u64 e) W ∧
    (Instr.index 91 (.agg #[.int .u64 a, .int .u64 b, .int .u64 c, .int .u64 d, .int .u64 e, .int .u64 f, .int .u64 g, .int .u64 h]) (.int .i64 5)).run Try.prog W = .ok (.int .u64 f) W ∧
    (Instr.index 91 (.agg #[.int .u64 a, .int .u64 b, .int .u64 c, .int .u64 d, .int .u64 e, .int .u64 f, .int .u64 g, .int .u64 h]) (.int .i64 6)).run Try.prog W = .ok (.int .u64 g) W ∧
    (Instr.index 91 (.agg #[.int .u64 a, .int .u64 b, .int .u64 c, .int .u64 d, .int .u64 e, .int .u64 f, .int .u64 g, .int .u64 h]) (.int .i64 7)).run Try.prog W = .ok (.int .u64 h) W := by
  refine ⟨?_, ?_, ?_, ?_, ?_, ?_, ?_, ?_⟩ <;> kernel_rfl
theorem idx_keys (K : List Nat) (hK : K.length = 8) (j : Nat) (hj : j < 8) (W : World) : (Instr.index 91 (.agg (kus K).toArray) (.int .i64 (j : Nat))).run Try.prog W = .ok (.int .u64 ((K[j]?.getD 0 : Nat) : Int)) W := by
  obtain ⟨a, b, c, d, e, f, g, h, rfl⟩ : ∃ a b c d e f g h, K = [a, b, c, d, e, f, g, h] := by
    match K, hK with
    | [a, b, c, d, e, f, g, h], _ => exact ⟨a, b, c, d, e, f, g, h, rfl⟩
  obtain ⟨h0, h1, h2, h3, h4, h5, h6, h7⟩ := idx8 a b c d e f g h W
  have hjs : j = 0 ∨ j = 1 ∨ j = 2 ∨ j = 3 ∨ j = 4 ∨ j = 5 ∨ j = 6 ∨ j = 7 := by omega
  rcases hjs with rfl | rfl | rfl | rfl | rfl | rfl | rfl | rfl
  · exact h0
  · exact h1
  · exact h2
  · exact h3
  · exact h4
  · exact h5
  · exact h6
  · exact h7
theorem cells_two {w : World} {g t : Nat} {a b : Value} (h : Mem w g t #[a, b]) : ∀ j u, [a, b][j]? = some u → w.cell? ((⟨g, 0, none⟩ : Addr).add j) = some u := by
  intro j u hu
  rw [add_plain, Nat.zero_add, h.cell j, ← List.getElem?_toArray] at *
  exact hu
set_option maxRecDepth 100000 in
set_option maxHeartbeats 2000000 in
theorem others_any (h : TabM w Y t) (host : Int) (key : Nat) (code : Int) : Calls Try.prog 63 #[.pointer (some ⟨Y, 0, none⟩), .int .i64 host, .int .u64 (key : Nat), .int .i64 code] w fun e w' => ∃ v', e = .returned v' ∧ w'.ownsRow w.heap.size 86 2 v' (othTo t host key code 8).length (nvs (othTo t host key code 8)) ∧ Below w.heap.size w w' := by
  obtain ⟨i1, hi1, hy0, hy1, hy2⟩ := info_parts not_info
  have hlen := h.len
  have hra : w.rangeAt Y 0 (kus t.keys) := by
    intro j v hj
    rw [kus_get] at hj
    have hjl : j < 8 := by
      rcases Nat.lt_or_ge j 8 with h1 | h1
      · exact h1
      · rw [List.getElem?_eq_none (by omega)] at hj; cases hj
    rw [Nat.zero_add, h.key j hjl]
    rw [List.getElem?_eq_getElem (by omega)] at hj ⊢
    exact hj
  have hkl : (kus t.keys).length = 8 := by simp [kus, hlen]
  go_enter Try.func63, Try.ntmps63
  go_wp2
  go_step3
  go_wp2_with (refine wpList_load_mid rfl 91 (.tmp 14) rfl Y 0 rfl (kus t.keys) _ hra Try.underlying91 rfl (by rw [hkl]; kernel_rfl) ?_)
  go_step3
  go_wp2_with (refine wpList_load_mid rfl 91 (.tmp 14) rfl Y 0 rfl (kus t.keys) _ hra Try.underlying91 rfl (by rw [hkl]; kernel_rfl) ?_)
  go_loopw [9, 16] (fun s9 s16 wr => ∃ (j : Nat) (A : Option Addr) (c : Nat) (L : List (Nat × Int)), j ≤ 8 ∧ Hid (L = othTo t host key code j) ∧ L.length ≤ j ∧ s9 = .slice A L.length c ∧ s16 = .int .i64 (j : Nat) ∧ wr.ownsRow w.heap.size 86 2 (.slice A L.length c) L.length (nvs L) ∧ Below w.heap.size w wr) (fun _ s16 _ => 8 - (intOf s16).toNat)
  case atStart => exact ⟨0, none, 0, [], by omega, Lib.hid rfl, Nat.le_refl _, rfl, rfl, World.ownsRow_nil _ _ _ _, Below.refl _ _⟩
  case round =>
    obtain ⟨j, A, c, L, hj, HL, hLj, rfl, rfl, ho, hb⟩ := hrel
    by_cases hj8 : j < 8
    · have hjx : (j : Int) < 8 := by omega
      have hidx := idx_keys t.keys hlen j hj8
      obtain ⟨kj, hkj⟩ : ∃ kj, t.keys[j]?.getD 0 = kj := ⟨_, rfl⟩
      rw [hkj] at hidx
      have hstep : othTo t host key code (j + 1) = if ((j : Int) = host ∨ kj = 0 ∨ (key ≠ 0 ∧ kj ≠ key)) then L else L ++ [(j, code)] := by
        rw [HL.out, ← hkj]; rfl
      have hal : ∀ ob, (wr.alloc ob).ownsRow w.heap.size 86 2 (.slice A L.length c) L.length (nvs L) := fun ob => owns_below ho ((Below.refl _ wr).alloc (Nat.le_refl _) ob)
      have hba : ∀ ob, Below w.heap.size w (wr.alloc ob) := fun ob => hb.alloc hb.size ob
      have hl1 : L.length + 1 ≤ 100 := by omega
      clear hkj
      by_cases c1 : (j : Int) = host
      · have HS : Hid (L = othTo t host key code (j + 1)) := Lib.hid (by rw [hstep, if_pos (.inl c1)])
        clear hstep
        subst c1
        go_wp2
        exact ⟨⟨j + 1, A, c, L, hj8, HS, by omega, rfl, by go_num, ho, hb⟩, by simp [intOf]; omega⟩
      have c1b : ((j : Int) == host) = false := beq_eq_false_iff_ne.2 c1
      by_cases c2 : kj = 0
      · have HS : Hid (L = othTo t host key code (j + 1)) := Lib.hid (by rw [hstep, if_pos (.inr (.inl c2))])
        subst c2
        clear hstep
        go_wp2
        exact ⟨⟨j + 1, A, c, L, hj8, HS, by omega, rfl, by go_num, ho, hb⟩, by simp [intOf]; omega⟩
      have c2a : ¬ (kj : Int) = 0 := by omega
      have c2b : ((kj : Int) == 0) = false := beq_eq_false_iff_ne.2 c2a
      by_cases c3 : key ≠ 0 ∧ kj ≠ key
      · have HS : Hid (L = othTo t host key code (j + 1)) := Lib.hid (by rw [hstep, if_pos (.inr (.inr c3))])
        have c4 : ¬ (key : Int) = 0 := by omega
        have c4b : ((key : Int) == 0) = false := beq_eq_false_iff_ne.2 c4
        have c5 : ¬ (kj : Int) = (key : Int) := by omega
        have c5b : ((kj : Int) == (key : Int)) = false := beq_eq_false_iff_ne.2 c5
        have c4c : ((key : Int) != 0) = true := bne_iff_ne.2 c4
        have c5c : ((kj : Int) != (key : Int)) = true := bne_iff_ne.2 c5
        clear hstep c3 c2
        go_wp2
        exact ⟨⟨j + 1, A, c, L, hj8, HS, by omega, rfl, by go_num, ho, hb⟩, by simp [intOf]; omega⟩
      · have HS : Hid (L ++ [(j, code)] = othTo t host key code (j + 1)) := Lib.hid (by rw [hstep, if_neg fun h => h.elim c1 fun h => h.elim c2 c3])
        have hll : (L ++ [(j, code)]).length = L.length + 1 := by simp
        have hnv := nvs_app L (j, code)
        clear hstep
        have fin : ∀ (w6 : World) (v6 : Value), w6.ownsRow w.heap.size 86 2 v6 (L.length + 1) (nvs L ++ [Value.int .i64 (j : Nat), .int .i64 code]) → Below w.heap.size w w6 → ∃ A6 c6, v6 = .slice A6 (L ++ [(j, code)]).length c6 ∧ w6.ownsRow w.heap.size 86 2 (.slice A6 (L ++ [(j, code)]).length c6) (L ++ [(j, code)]).length (nvs (L ++ [(j, code)])) := by
          intro w6 v6 h6 _
          obtain ⟨A6, c6, rfl, _, _⟩ := own_form h6
          exact ⟨A6, c6, by rw [hll], by rw [hll, hnv]; exact h6⟩
        have hbt : (L.length + 1) * 16 ≤ 140737488355328 := by omega
        have hmx : L.length + 1 ≤ maxLen := by unfold maxLen; omega
        have harm : ∀ key0 : Prop, key0 → key0 := fun _ h => h
        rcases Nat.eq_zero_or_pos key with hk0 | hk0
        · have c4 : ((key : Int) != 0) = false := by simp; omega
          have c4d : ¬ ((key : Int) != 0) = true := by rw [c4]; decide
          clear hk0 c3
          go_wp2_with (at_builtin; (refine wpList_append_at _ rfl (.tmp 36) (.tmp 40) _ rfl w.heap.size 86 i1 _ 2 16 Try.underlying82 hi1 hy0 hy1 hy2 rfl (by decide) (.slice A L.length c) L.length (nvs L) rfl (hal _) ⟨wr.heap.size, 0, none⟩ 1 1 [.int .i64 (j : Nat), .int .i64 code] rfl rfl (cells_two (Mem.new wr _ _)) (by simp [Value.oneCell']) hmx hbt (hba _).size ?_); intro v6 w6 ho6 hg6 hat6; have hb6 := below_own (hba _) hg6 (hba _).size (fun k hk => (own_tag ho k hk).1); obtain ⟨A6, c6, rfl, ho7⟩ := fin w6 _ ho6 hb6)
          exact ⟨⟨j + 1, A6, c6, _, hj8, HS, by rw [hll]; omega, by rw [hll], by go_num, ho7, hb6⟩, by simp [intOf]; omega⟩
        · have hkk : kj = key := Classical.byContradiction fun h => c3 ⟨by omega, h⟩
          subst hkk
          go_wp2_with (at_builtin; (refine wpList_append_at _ rfl (.tmp 36) (.tmp 40) _ rfl w.heap.size 86 i1 _ 2 16 Try.underlying82 hi1 hy0 hy1 hy2 rfl (by decide) (.slice A L.length c) L.length (nvs L) rfl (hal _) ⟨wr.heap.size, 0, none⟩ 1 1 [.int .i64 (j : Nat), .int .i64 code] rfl rfl (cells_two (Mem.new wr _ _)) (by simp [Value.oneCell']) hmx hbt (hba _).size ?_); intro v6 w6 ho6 hg6 hat6; have hb6 := below_own (hba _) hg6 (hba _).size (fun k hk => (own_tag ho k hk).1); obtain ⟨A6, c6, rfl, ho7⟩ := fin w6 _ ho6 hb6)
          exact ⟨⟨j + 1, A6, c6, _, hj8, HS, by rw [hll]; omega, by rw [hll], by go_num, ho7, hb6⟩, by simp [intOf]; omega⟩
    · obtain rfl : j = 8 := by omega
      have hL8 := HL.out
      go_wp2
      rw [Exit.noGoto_ret]
      go_ret
      exact ⟨_, rfl, hL8 ▸ ho, hb⟩
/-- What letting it go leaves. -/
def RT.free (t : RT) : RT := { t with holder := -1, typ := 0 }
def RT.told (t : RT) (host : Int) : List (Nat × Int) := if t.typ = 5 ∨ t.typ = 6 then othTo t host 0 10756 8 else []
set_option maxRecDepth 100000 in
theorem give_any (h : TabM w Y t) (host : Int) : Calls Try.prog 60 #[.pointer (some ⟨Y, 0, none⟩), .int .i64 host] w fun e w' => ∃ v', e = .returned v' ∧ w'.ownsRow w.heap.size 86 2 v' (t.told host).length (nvs (t.told host)) ∧ TabM w' Y t.free ∧ Keeps Y w w' := by
  have hot : Calls Try.prog 63 #[.pointer (some ⟨Y, 0, none⟩), .int .i64 host, .int .u64 0, .int .i64 10756] w fun e w' => ∃ v', e = .returned v' ∧ w'.ownsRow w.heap.size 86 2 v' (othTo t host 0 10756 8).length (nvs (othTo t host 0 10756 8)) ∧ Below w.heap.size w w' := others_any h host 0 10756
  have hsh := fun W => shared_any (t.typ : Int) W
  have x9 := h.c9
  have fin : ∀ W, Below w.heap.size w W → TabM ((W.setCell ⟨Y, 8, none⟩ (.int .i64 (-1))).setCell ⟨Y, 9, none⟩ (.int .i64 0)) Y t.free ∧ Keeps Y w ((W.setCell ⟨Y, 8, none⟩ (.int .i64 (-1))).setCell ⟨Y, 9, none⟩ (.int .i64 0)) ∧ W.cell? ⟨Y, 8, none⟩ = some (.int .i64 t.holder) ∧ W.frozen? ⟨Y, 8, none⟩ = false ∧ (W.setCell ⟨Y, 8, none⟩ (.int .i64 (-1))).cell? ⟨Y, 9, none⟩ = some (.int .i64 (t.typ : Nat)) ∧ (W.setCell ⟨Y, 8, none⟩ (.int .i64 (-1))).frozen? ⟨Y, 9, none⟩ = false := by
    intro W hb
    have h1 := h.below hb
    have h2 := h1.setHolder (-1)
    have h3 := h2.setTyp 0
    exact ⟨h3, ((Keeps.of hb).setCell (p := ⟨Y, 8, none⟩) _).setCell (p := ⟨Y, 9, none⟩) _, h1.c8, h1.mem.free 8, h2.c9, h2.mem.free 9⟩
  by_cases ht : t.typ = 5 ∨ t.typ = 6
  · have htx : ((t.typ : Int) = 5 ∨ (t.typ : Int) = 6) := by omega
    rw [decide_eq_true htx] at hsh
    have htl : t.told host = othTo t host 0 10756 8 := by unfold RT.told; rw [if_pos ht]
    rw [htl]
    clear ht htx htl
    generalize othTo t host 0 10756 8 = L at *
    go_enter Try.func60, Try.ntmps60
    go_wp2_with (first
      | (go_at_call 29; (with_reducible refine (hsh _).mono ?_); rintro e w1 ⟨rfl, rfl⟩)
      | (go_at_call 63; (with_reducible refine hot.mono ?_); rintro e w2 ⟨v2, rfl, ho2, hb2⟩; obtain ⟨f1, f2, f3, f4, f5, f6⟩ := fin w2 hb2))
    go_ret
    refine ⟨_, rfl, owns_eff ho2 (((Eff.refl (fun k => k = Y) w2).setCell (p := ⟨Y, 8, none⟩) rfl _).setCell (p := ⟨Y, 9, none⟩) rfl _) fun k hk e => ?_, f1, f2⟩
    have h1 := (own_tag ho2 k hk).1
    have h2 := h.mem.lt
    omega
  · have htx : ¬ ((t.typ : Int) = 5 ∨ (t.typ : Int) = 6) := by omega
    rw [decide_eq_false htx] at hsh
    have htl : t.told host = [] := by unfold RT.told; rw [if_neg ht]
    rw [htl]
    clear ht htx htl
    obtain ⟨f1, f2, f3, f4, f5, f6⟩ := fin w (Below.refl _ _)
    go_enter Try.func60, Try.ntmps60
    go_wp2_with (go_at_call 29; (with_reducible refine (hsh _).mono ?_); rintro e w1 ⟨rfl, rfl⟩)
    go_ret
    exact ⟨_, rfl, World.ownsRow_nil _ _ _ _, f1, f2⟩
end
end Rv
end Go.Proofs.Ytflodljccloobaa
