/- Package disk: able, has, goesNow (not armed), Sectors, Waiting, Calls, disarm, On, forget, Read: contracts. -/
import Derived.Test.YtpfackjnnkjjdaaDk1
namespace Go.Proofs.Ytpfackjnnkjjdaa
open Go.ChangeShapes Go.WideShapes Go.ChangeAt Go.RowKit Go.Lib
set_option linter.unusedVariables false
set_option linter.unusedSimpArgs false
namespace Dk
section
variable {w : World} {X : Nat} {O : Nat → Prop} {S : DS} {V : DV}
def DS.err (S : DS) : Int := if S.dead then 9 else if S.off then 8 else 0
theorem able_any (h : DiskM w X O S V) : Calls Try.prog 43 #[.pointer (some ⟨X, 0, none⟩)] w fun e w' => e = .returned (.int .i64 S.err) ∧ w = w' := by
  have x4 : w.cell? ⟨X, 4, none⟩ = some (.bool S.off) := h.mem.cell 4
  have x5 : w.cell? ⟨X, 5, none⟩ = some (.bool S.dead) := h.mem.cell 5
  unfold DS.err
  cases hd : S.dead <;> cases ho : S.off <;> rw [hd] at x5 <;> rw [ho] at x4
  all_goals go_enter Try.func43, Try.ntmps43
  all_goals go_wp2
  all_goals go_ret
  all_goals exact ⟨rfl, rfl⟩
theorem has_any (h : DiskM w X O S V) (n : Int) : Calls Try.prog 44 #[.pointer (some ⟨X, 0, none⟩), .int .i64 n] w fun e w' => e = .returned (.bool (decide (0 ≤ n ∧ n < (S.last.length : Int)))) ∧ w = w' := by
  obtain ⟨A, c, hv, h1, h2⟩ := h.last.row.form
  have x0 : w.cell? ⟨X, 0, none⟩ = some V.lv := h.mem.cell 0
  rw [hv] at x0
  by_cases h0 : 0 ≤ n
  · have hd : decide (0 ≤ n ∧ n < (S.last.length : Int)) = decide (n < (S.last.length : Int)) := by rw [decide_eq_decide]; omega
    rw [hd]
    have d1 : decide (0 ≤ n) = true := decide_eq_true h0
    go_enter Try.func44, Try.ntmps44
    go_wp2
    all_goals go_ret
    all_goals exact ⟨rfl, rfl⟩
  · have hd : decide (0 ≤ n ∧ n < (S.last.length : Int)) = false := decide_eq_false (by omega)
    rw [hd]
    have d1 : decide (0 ≤ n) = false := decide_eq_false (by omega)
    go_enter Try.func44, Try.ntmps44
    go_wp2
    all_goals go_ret
    all_goals exact ⟨rfl, rfl⟩
theorem goes0_any (h : DiskM w X O S V) (ha : S.arm = 0) : Calls Try.prog 45 #[.pointer (some ⟨X, 0, none⟩)] w fun e w' => e = .returned (.bool false) ∧ w = w' := by
  have x7 : w.cell? ⟨X, 7, none⟩ = some (.int .i64 (S.arm : Nat)) := h.mem.cell 7
  rw [ha] at x7
  go_enter Try.func45, Try.ntmps45
  go_wp2
  go_ret
  exact ⟨rfl, rfl⟩
theorem sectors_any (h : DiskM w X O S V) : Calls Try.prog 20 #[.pointer (some ⟨X, 0, none⟩)] w fun e w' => e = .returned (.int .i64 (S.last.length : Nat)) ∧ w = w' := by
  obtain ⟨A, c, hv, h1, h2⟩ := h.last.row.form
  have x0 : w.cell? ⟨X, 0, none⟩ = some V.lv := h.mem.cell 0
  rw [hv] at x0
  go_enter Try.func20, Try.ntmps20
  go_wp2
  go_ret
  exact ⟨rfl, rfl⟩
/-- What a call that only turns the disk's own blocks leaves. -/
def Has (w w' : World) (X : Nat) (O : Nat → Prop) (S' : DS) : Prop := (∃ V', DiskM w' X O S' V') ∧ Eff O w w'
theorem effOX {w : World} {O : Nat → Prop} {X i : Nat} {u : Value} {a : World} (h : Eff O a w) (hX : O X) : Eff O a (w.setCell ⟨X, i, none⟩ u) := h.setCell (p := ⟨X, i, none⟩) hX u
theorem disarm_any (h : DiskM w X O S V) : Calls Try.prog 40 #[.pointer (some ⟨X, 0, none⟩)] w fun e w' => e = .returned (.tuple #[]) ∧ Has w w' X O { S with arm := 0, picks := [] } := by
  have x7 : w.cell? ⟨X, 7, none⟩ = some (.int .i64 (S.arm : Nat)) := h.mem.cell 7
  have x8 : w.cell? ⟨X, 8, none⟩ = some V.pv := h.mem.cell 8
  have f7 := h.mem.free 7
  have f8 := h.mem.free 8
  have k1 := h.setX 7 (.int .i64 0) (S' := { S with arm := 0 }) rfl rfl rfl rfl rfl
  have k2 := k1.setP (.slice none 0 0) (L := []) (OwnR.none _ _ _) (fun k _ hk => by cases hk)
  go_enter Try.func40, Try.ntmps40
  go_wp2
  refine bodyPost_end (v := .tuple #[]) (by simp [results, Try.results40, go_sem]) rfl ?_
  exact ⟨rfl, ⟨_, k2⟩, effOX (effOX (Eff.refl _ _) h.ox) h.ox⟩
theorem on_any (h : DiskM w X O S V) : Calls Try.prog 16 #[.pointer (some ⟨X, 0, none⟩)] w fun e w' => e = .returned (.tuple #[]) ∧ Has w w' X O { S with off := false, arm := 0, picks := [] } := by
  have x4 : w.cell? ⟨X, 4, none⟩ = some (.bool S.off) := h.mem.cell 4
  have f4 := h.mem.free 4
  have k1 := h.setX 4 (.bool false) (S' := { S with off := false }) rfl rfl rfl rfl rfl
  have hd := disarm_any k1
  go_enter Try.func16, Try.ntmps16
  go_wp2_with (go_at_call 40; (with_reducible refine hd.mono ?_); rintro e w1 ⟨rfl, hk, he⟩)
  refine bodyPost_end (v := .tuple #[]) (by simp [results, Try.results16, go_sem]) rfl ?_
  exact ⟨rfl, hk, (effOX (Eff.refl _ _) h.ox).trans he fun _ _ h => h⟩
/-- The Writes of these sectors dropped. -/
def wiped (W : List (List (List UInt8))) (L : List Nat) : List (List (List UInt8)) := L.foldl (fun W n => W.set n []) W
theorem wiped_len (W : List (List (List UInt8))) (L : List Nat) : (wiped W L).length = W.length := by
  induction L generalizing W with
  | nil => rfl
  | cons n L ih => exact (ih _).trans (List.length_set ..)
theorem wiped_snoc (W : List (List (List UInt8))) (L : List Nat) (n : Nat) : wiped W (L ++ [n]) = (wiped W L).set n [] := by simp [wiped]
theorem wiped_get (W : List (List (List UInt8))) (L : List Nat) (i : Nat) : (wiped W L)[i]? = if i ∈ L then W[i]?.map fun _ => [] else W[i]? := by
  induction L generalizing W with
  | nil => simp [wiped]
  | cons n L ih =>
    show (wiped (W.set n []) L)[i]? = _
    rw [ih, List.getElem?_set]
    by_cases h1 : i ∈ L
    · rw [if_pos h1, if_pos (List.mem_cons_of_mem _ h1)]
      by_cases h2 : n = i
      · subst h2
        rw [if_pos rfl]
        by_cases h3 : n < W.length
        · rw [if_pos h3, List.getElem?_eq_getElem h3]
          rfl
        · rw [if_neg h3, List.getElem?_eq_none (by omega)]
      · rw [if_neg h2]
    · rw [if_neg h1]
      by_cases h2 : n = i
      · subst h2
        rw [if_pos rfl, if_pos (List.mem_cons_self ..)]
        by_cases h3 : n < W.length
        · rw [if_pos h3, List.getElem?_eq_getElem h3]
          rfl
        · rw [if_neg h3, List.getElem?_eq_none (by omega)]
          rfl
      · rw [if_neg h2, if_neg (by simp [h1]; omega)]
theorem ints_get {L : List Nat} {j : Nat} (h : j < L.length) : (ints L)[j]? = some (.int .i64 (L[j] : Nat)) := by simp [ints, h]
theorem forget_any (h : DiskM w X O S V) (hin : ∀ n ∈ S.tch, n < S.last.length) (hf : S.last.length ≤ 4096) (hl : S.tch.length ≤ 1000000) : Calls Try.prog 39 #[.pointer (some ⟨X, 0, none⟩)] w fun e w' => e = .returned (.tuple #[]) ∧ Has w w' X O { S with wts := wiped S.wts S.tch, tch := [], wtg := 0 } := by
  obtain ⟨A, c, hv, h1, h2⟩ := h.tch.form
  have x2 : w.cell? ⟨X, 2, none⟩ = some V.tv := h.mem.cell 2
  rw [hv] at x2
  have hlx : (S.tch.length : Int) ≤ 1000000 := by omega
  go_enter Try.func39, Try.ntmps39
  go_wp2
  go_loopw [9] (fun i wr => ∃ j : Nat, j ≤ S.tch.length ∧ i = .int .i64 j ∧ ∃ V', V'.tv = V.tv ∧ DiskM wr X O { S with wts := wiped S.wts (S.tch.take j) } V' ∧ Eff O w wr) (fun i _ => S.tch.length - (intOf i).toNat)
  case atStart => exact ⟨0, by omega, rfl, V, rfl, h, Eff.refl _ _⟩
  case round =>
    obtain ⟨j, hj, rfl, V', ht, hr, he⟩ := hrel
    by_cases hjl : j < S.tch.length
    · have hr1 := hr.tch
      obtain ⟨g, c', hg, hc1, hc2, hOg, hgl, hcell, hfr⟩ := hr1.at_ (by show 0 < S.tch.length; omega)
      have hg' : V'.tv = .slice (some ⟨g, 0, none⟩) S.tch.length c' := hg
      rw [ht, hv] at hg'
      simp only [Value.slice.injEq] at hg'
      obtain ⟨rfl, _, rfl⟩ := hg'
      have hy := hcell j _ (ints_get hjl)
      have hn : S.tch[j] < S.last.length := hin _ (List.getElem_mem hjl)
      have hwl : (wiped S.wts (S.tch.take j)).length = S.last.length := (wiped_len _ _).trans h.lens
      obtain ⟨gw, cw, hgw, hw1, hw2, hOw, hwlt, hwc, hwf⟩ := hr.waits.row.at_ (by show 0 < (wiped S.wts (S.tch.take j)).length; omega)
      have hgw' : V'.wv = .slice (some ⟨gw, 0, none⟩) S.last.length cw := by rw [hgw]; show Value.slice _ (wiped S.wts (S.tch.take j)).length _ = _; rw [hwl]
      have x1 : wr.cell? ⟨X, 1, none⟩ = some V'.wv := hr.mem.cell 1
      rw [hgw'] at x1
      have hk := hr.setW (j := S.tch[j]) (u := .slice none 0 0) (Ls := []) (D := []) hgw' rfl hn (BRow.none _ _) (fun k hk => by cases hk) (fun i v k _ _ hk => by cases hk)
      have hsn : (wiped S.wts (S.tch.take j)).set S.tch[j] [] = wiped S.wts (S.tch.take (j + 1)) := by rw [← wiped_snoc, List.take_append_getElem hjl]
      have hfz := hwf S.tch[j]
      obtain ⟨u0, D0, hu0, hbr0⟩ := hr.waits.get (j := S.tch[j]) (by show _ < (wiped S.wts (S.tch.take j)).length; omega)
      have hy0 := hwc _ _ hu0
      have hj2 : (j : Int) < (S.tch.length : Int) := by omega
      have hk2 : DiskM (wr.setCell ⟨gw, S.tch[j], none⟩ (.slice none 0 0)) X O { S with wts := wiped S.wts (S.tch.take (j + 1)) } { V' with wl := V'.wl.set S.tch[j] (.slice none 0 0) } := hsn ▸ hk
      have he2 : Eff O w (wr.setCell ⟨gw, S.tch[j], none⟩ (.slice none 0 0)) := effOX he hOw
      have ht2 : ({ V' with wl := V'.wl.set S.tch[j] (.slice none 0 0) } : DV).tv = V.tv := ht
      clear hk hsn hcell hwc hwf hfr hu0 hbr0
      generalize S.tch[j] = n at *
      have hn2 : (n : Int) < (S.last.length : Int) := by omega
      go_wp2
      exact ⟨⟨j + 1, by omega, by go_num, _, ht2, hk2, he2⟩, by simp [intOf]; omega⟩
    · obtain rfl : j = S.tch.length := by omega
      rw [List.take_length] at hr
      have y2 : wr.cell? ⟨X, 2, none⟩ = some V'.tv := hr.mem.cell 2
      have y3 : wr.cell? ⟨X, 3, none⟩ = some (.int .i64 (S.wtg : Nat)) := hr.mem.cell 3
      have f2 := hr.mem.free 2
      have f3 := hr.mem.free 3
      have k1 := hr.setT (.slice none 0 0) (L := []) (OwnR.none _ _ _) (fun k hk => by cases hk)
      have k2 := k1.setX 3 (.int .i64 0) (S' := { S with wts := wiped S.wts S.tch, tch := [], wtg := 0 }) rfl rfl rfl rfl rfl
      go_wp2
      refine bodyPost_end (v := .tuple #[]) (by simp [results, Try.results39, go_sem]) rfl ?_
      exact ⟨rfl, ⟨_, k2⟩, effOX (effOX he h.ox) h.ox⟩
end
end Dk
end Go.Proofs.Ytpfackjnnkjjdaa
