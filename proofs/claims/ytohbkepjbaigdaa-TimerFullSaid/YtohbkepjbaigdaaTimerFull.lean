/- TimerFull: for all numbers the statement's function tells true and turns nothing that was there. No condition. -/
import Derived.Test.YtohbkepjbaigdaaTmK
import Derived.LoopTactic
namespace Go.Proofs.Ytohbkepjbaigdaa
open Go.ChangeShapes Go.WideShapes Go.ChangeAt Go.RowKit Go.Lib
set_option linter.unusedVariables false
namespace Full
theorem walk_no (n id : Int) (w : World) (hno : n < 250 ∨ 260 < n ∨ id < 0 ∨ 250 ≤ id) :
    Calls Try.prog 5 #[.int .i64 n, .int .i64 id] w fun e w' => e = .returned (.bool true) ∧ Below w.heap.size w w' := by
  by_cases h1 : n < 250
  · go_enter Try.func5, Try.ntmps5
    go_wp2_with (go_at_call 8; refine (known_any _).mono ?_; rintro e w1 ⟨rfl, hb1⟩)
    go_ret
    exact ⟨rfl, hb1⟩
  · by_cases h2 : 260 < n
    · go_enter Try.func5, Try.ntmps5
      go_wp2_with (go_at_call 8; refine (known_any _).mono ?_; rintro e w1 ⟨rfl, hb1⟩)
      go_ret
      exact ⟨rfl, hb1⟩
    · by_cases h3 : id < 0
      · go_enter Try.func5, Try.ntmps5
        go_wp2_with (go_at_call 8; refine (known_any _).mono ?_; rintro e w1 ⟨rfl, hb1⟩)
        go_ret
        exact ⟨rfl, hb1⟩
      · have h4 : 250 ≤ id := by omega
        go_enter Try.func5, Try.ntmps5
        go_wp2_with (go_at_call 8; refine (known_any _).mono ?_; rintro e w1 ⟨rfl, hb1⟩)
        go_ret
        exact ⟨rfl, hb1⟩
/-- So many are set, by their numbers. -/
structure Up (S : List One) (k : Nat) : Prop where
  mem : ∀ x, x ∈ S ↔ x.2 = 5 ∧ 0 ≤ x.1 ∧ x.1 < min k 256
  len : S.length = min k 256
theorem Up.ids {S : List One} {k : Nat} (h : Up S k) (i : Int) : i ∈ ids S ↔ 0 ≤ i ∧ i < min k 256 := by
  unfold Go.Proofs.Ytohbkepjbaigdaa.ids
  rw [List.mem_map]
  constructor
  · rintro ⟨x, hx, rfl⟩
    exact ((h.mem x).1 hx).2
  · intro hi
    exact ⟨(i, 5), (h.mem _).2 ⟨rfl, hi⟩, rfl⟩
theorem Up.code {S : List One} {k : Nat} (h : Up S k) : setC S (k : Int) 5 = if 256 ≤ k then 7 else 0 := by
  unfold setC
  have hn : (k : Int) ∉ Go.Proofs.Ytohbkepjbaigdaa.ids S := fun hm => by have := (h.ids _).1 hm; omega
  rw [if_neg (by omega), h.len]
  by_cases hk : 256 ≤ k
  · rw [if_pos hk, if_pos ⟨hn, by omega⟩]
  · rw [if_neg hk, if_neg (fun hh => by omega)]
theorem Up.next {S : List One} {k : Nat} (h : Up S k) : Up (setS S (k : Int) 5 0) (k + 1) := by
  have hc := h.code
  have hn : (k : Int) ∉ Go.Proofs.Ytohbkepjbaigdaa.ids S := fun hm => by have := (h.ids _).1 hm; omega
  unfold setS
  rw [hc]
  by_cases hk : 256 ≤ k
  · rw [if_pos hk, if_neg (by omega)]
    exact ⟨fun x => by rw [h.mem]; omega, by rw [h.len]; omega⟩
  · rw [if_neg hk, if_pos rfl, rm_no hn]
    refine ⟨fun x => ?_, by rw [List.length_cons, h.len]; omega⟩
    obtain ⟨a, b⟩ := x
    rw [List.mem_cons, h.mem]
    simp only [Prod.mk.injEq]
    omega
set_option maxRecDepth 100000 in
set_option maxHeartbeats 1000000 in
theorem walk (n id : Int) (w : World) (_ : -9223372036854775808 ≤ n) (_ : n ≤ 9223372036854775807) (_ : -9223372036854775808 ≤ id) (_ : id ≤ 9223372036854775807) :
    Calls Try.prog 5 #[.int .i64 n, .int .i64 id] w fun e w' => e = .returned (.bool true) ∧ Below w.heap.size w w' := by
  by_cases hno : n < 250 ∨ 260 < n ∨ id < 0 ∨ 250 ≤ id
  · exact walk_no n id w hno
  obtain ⟨N, rfl⟩ : ∃ N : Nat, n = N := ⟨n.toNat, by omega⟩
  have h1 : ¬ (N : Int) < 250 := by omega
  have h2 : ¬ 260 < (N : Int) := by omega
  have h3 : ¬ id < 0 := by omega
  have h4 : ¬ 250 ≤ id := by omega
  clear hno
  go_enter Try.func5, Try.ntmps5
  go_wp2_with (first
    | (go_at_call 8; refine (known_any _).mono ?_; rintro e w1 ⟨rfl, hb1⟩)
    | (go_at_call 9; (with_reducible refine (new_s hb1).mono ?_); rintro e w2 ⟨rfl, hs2, hb2⟩))
  go_loopw [6] (fun i wr => ∃ (k : Nat) (S : List One), k ≤ N ∧ i = .int .i64 k ∧ Hid (Up S k) ∧ TmS w wr w1.heap.size S 0) (fun i _ => N - (intOf i).toNat)
  case atStart => exact ⟨0, [], by omega, rfl, Lib.hid ⟨by intro x; simp, rfl⟩, hs2⟩
  case round =>
    clear hs2
    obtain ⟨k, S, hk, rfl, HU, hs⟩ := hrel
    by_cases hkN : k < N
    · have hkx : (k : Int) < (N : Int) := by omega
      have hset := set_s hs (k : Int) 5
      rw [HU.out.code] at hset
      have HN := Lib.hid HU.out.next
      by_cases hk6 : 256 ≤ k
      · have hk6x : (256 : Int) ≤ (k : Int) := by omega
        rw [if_pos hk6] at hset
        go_wp2_with (go_at_call 10; (with_reducible refine hset.mono ?_); rintro e w3 ⟨rfl, hs3, _⟩)
        exact ⟨⟨k + 1, _, by omega, by simp, HN, hs3⟩, by simp [intOf]; omega⟩
      · have hk6x : ¬ (256 : Int) ≤ (k : Int) := by omega
        rw [if_neg hk6] at hset
        go_wp2_with (go_at_call 10; (with_reducible refine hset.mono ?_); rintro e w3 ⟨rfl, hs3, _⟩)
        exact ⟨⟨k + 1, _, by omega, by simp, HN, hs3⟩, by simp [intOf]; omega⟩
    · obtain rfl : k = N := by omega
      have hin : id ∈ ids S := (HU.out.ids id).2 (by omega)
      have hc : setC S id 1 = 0 := by unfold setC; rw [if_neg (by omega), if_neg (fun h => h.1 hin)]
      have hS : setS S id 1 0 = (id, 1) :: rm S id := by unfold setS; rw [if_pos hc]; rfl
      have hset := set_s hs id 1
      rw [hc, hS] at hset
      have hI : Hid (∀ I : List Int, I.Pairwise (· < ·) → (∀ i, i ∈ I ↔ (i, (0 : Int) + 1) ∈ (id, (1 : Int)) :: rm S id) → I = [id]) := Lib.hid fun I hp hm => one_id hp fun i => by
        rw [hm i, List.mem_cons, mem_rm, HU.out.mem]
        simp
      clear hc hS hin
      have ht : ∀ W, TmS w W w1.heap.size ((id, 1) :: rm S id) 0 → Calls Try.prog 15 #[.pointer (some ⟨w1.heap.size, 0, none⟩)] W fun e w' => ∃ g c, e = .returned (.slice (some ⟨g, 0, none⟩) 1 c) ∧ w'.cell? ⟨g, 0, none⟩ = some (.int .i64 id) ∧ Below w.heap.size w w' := by
        intro W h
        refine (ticked h (by omega)).mono ?_
        rintro e w' ⟨A, c, I, rfl, HI, ho, _, h2, _⟩
        obtain rfl := hI.out I HI.out.1 HI.out.2.1
        obtain ⟨g, rfl, _, _, hc⟩ := ids_at ho (i := 0) (by simp)
        exact ⟨g, c, rfl, hc, h2.bl⟩
      go_wp2_with (first
        | (go_at_call 10; (with_reducible refine hset.mono ?_); rintro e w3 ⟨rfl, hs3, _⟩)
        | (go_at_call 15; (with_reducible refine (ht _ hs3).mono ?_); rintro e w4 ⟨g4, c4, rfl, x4, hb4⟩))
      go_ret
      exact ⟨rfl, hb4⟩
set_option maxRecDepth 100000 in
theorem lifted (os : Os) (started : os.Started) (H : Type) (enc : TypeId × Value → H) :
    ReturnsInHanded {} Try.checked os 5 .any (Rows.timerFullSpec.pre6 enc Try.prog Try.f5 Rows.timerFullRow.domain false) (Rows.timerFullSpec.post enc Try.prog Try.f5 false true false false) := by
  refine returnsInHanded_of_change (C := Try.checked) own started (by kernel_rfl) Try.func5
    (ChangeSpec.witness6 (enc := enc) (C := Try.checked) false ⟨#[], #[.int .i64 0, .int .i64 0], []⟩ 8 (by kernel_rfl) (by kernel_rfl) (by kernel_rfl) (by kernel_rfl)) ?_
  intro W base args ds gs before hval0 hW hcnd _
  have hval : ∀ (j : Nat) t v, Try.f5.params[j]? = some t → args[j]? = some v → Value.okWide Try.prog W .any base t v := hval0
  have hW' := hW
  obtain ⟨p, q, hA0, hV, rfl, hfz, hnd⟩ := hW
  have hA : DataW.TrodAll enc Try.prog W 0 (fun _ => true) true Try.f5.params.toList args.toList ds p := hA0
  rw [Try.params5] at hA hval
  obtain ⟨v0, vs0, d0, ds0, p0, q0, hargs, rfl, rfl, h0, r0⟩ := trodAll_cons hA
  obtain ⟨v1, vs1, d1, ds1, p1, q1, rfl, rfl, rfl, h1, r1⟩ := trodAll_cons r0
  obtain ⟨rfl, rfl, rfl⟩ := trodAll_nil r1
  obtain rfl : args = #[v0, v1] := by cases args; simp_all
  obtain ⟨rfl, rfl⟩ := trodVars_none hV
  obtain ⟨a0, rfl, _, _, w0⟩ := open_int Try.underlying3 (hval 0 3 v0 rfl rfl) h0
  have b0 := bounds_i64 w0
  obtain ⟨a1, rfl, _, _, w1⟩ := open_int Try.underlying3 (hval 1 3 v1 rfl rfl) h1
  have b1 := bounds_i64 w1
  refine (walk a0 a1 W b0.1 b0.2 b1.1 b1.2).mono fun e W' ⟨he, hb⟩ => ?_
  subst he
  exact ⟨_, rfl, law_post laidOut (by kernel_rfl) rfl (by kernel_rfl) Try.underlying4 rfl rfl rfl hW' hb⟩

theorem proved : Rows.TimerFullSaid :=
  OpenClaim.holds_of_wide 5 Try.f5 rfl rfl rfl rfl rfl rfl rfl ⟨rfl, rfl, rfl, rfl, rfl⟩ rfl rfl rfl rfl rfl (by kernel_rfl) Try.func5 (by kernel_rfl)
    (of_decide_eq_true (by kernel_rfl)) (by unfold Func.isWrapper; first | (rw [if_pos (by decide +kernel)]; kernel_rfl) | (rw [if_neg (by decide +kernel)]; exact ⟨rfl, rfl⟩))
    (fun os started H enc _ => lifted os started H enc)
end Full
end Go.Proofs.Ytohbkepjbaigdaa
