/- Package timer: what lies in memory; ahead, place, New, Len, Now: contracts. -/
import Derived.Test.YtoogmdokcndieaaTmH
import Derived.Test.YtoogmdokcndieaaMm
import Derived.Test.YtoogmdokcndieaaRows
import Derived.Test.YtoogmdokcndieaaChecked
import Derived.Test.YtoogmdokcndieaaKeep
import Derived.Test.YtoogmdokcndieaaCalmI
import Derived.Lib.Hide
import Derived.OwnWalk
import Derived.LoopTactic
namespace Go.Proofs.Ytoogmdokcndieaa
open Go.ChangeShapes Go.WideShapes Go.ChangeAt Go.RowKit Go.Lib
set_option linter.unusedVariables false
set_option linter.unusedSimpArgs false
def ocells (x : One) : List Value := [.int .i64 x.1, .int .i64 x.2]
def oval (x : One) : Value := .agg #[.int .i64 x.1, .int .i64 x.2]
def tflat (H : List One) : List Value := H.flatMap ocells
theorem tflat_len (H : List One) : (tflat H).length = H.length * 2 := by
  induction H with
  | nil => rfl
  | cons p L ih => simp only [tflat, List.flatMap_cons, List.length_append, List.length_cons] at ih ⊢; rw [ih]; simp [ocells]; omega
theorem tflat_app (L K : List One) : tflat (L ++ K) = tflat L ++ tflat K := by simp [tflat]
theorem tflat_snoc (L : List One) (x : One) : tflat (L ++ [x]) = tflat L ++ [.int .i64 x.1, .int .i64 x.2] := by simp [tflat, ocells]
theorem tflat_at (H : List One) (i : Nat) (h : i < H.length) : (tflat H)[i * 2]? = some (.int .i64 (pl H i).1) ∧ (tflat H)[i * 2 + 1]? = some (.int .i64 (pl H i).2) := by
  induction H generalizing i with
  | nil => simp at h
  | cons p L ih =>
    cases i with
    | zero => exact ⟨rfl, rfl⟩
    | succ i =>
      have := ih i (by simpa using h)
      rw [show (i + 1) * 2 = i * 2 + 2 by omega, show i * 2 + 2 + 1 = i * 2 + 1 + 2 by omega]
      exact this
theorem tflat_take (H : List One) (i : Nat) : (tflat H).take (i * 2) = tflat (H.take i) := by
  induction H generalizing i with
  | nil => simp [tflat]
  | cons p L ih =>
    cases i with
    | zero => simp [tflat]
    | succ i =>
      have e : tflat (p :: L) = ocells p ++ tflat L := rfl
      rw [e, List.take_succ_cons, show tflat (p :: L.take i) = ocells p ++ tflat (L.take i) from rfl, ← ih i, List.take_append]
      rw [List.take_of_length_le (by simp [ocells]; omega)]
      congr 2
      simp [ocells]
      omega
theorem tflat_set (H : List One) (i : Nat) (h : i < H.length) (x : One) : ((tflat H).set (i * 2) (.int .i64 x.1)).set (i * 2 + 1) (.int .i64 x.2) = tflat (H.set i x) := by
  induction H generalizing i with
  | nil => simp at h
  | cons p L ih =>
    cases i with
    | zero => rfl
    | succ i =>
      have := ih i (by simpa using h)
      rw [show (i + 1) * 2 = i * 2 + 2 by omega, show i * 2 + 2 + 1 = i * 2 + 1 + 2 by omega]
      show ocells p ++ _ = _
      rw [show tflat ((p :: L).set (i + 1) x) = ocells p ++ tflat (L.set i x) from rfl, ← this]
      rfl
/-- Timers in block X, those that are set in v's row. -/
structure TmInv (w : World) (B X : Nat) (v : Value) (H : List One) (now : Int) : Prop where
  base : B ≤ X
  mem : Mem w X 68 #[v, .int .i64 now]
  row : w.ownsRow B 72 2 v H.length (tflat H)
/-- The blocks that are the timers' own. -/
def TS (X : Nat) (v : Value) : Nat → Prop := fun k => k = X ∨ v.ownBlock = some k
section
variable {w w' : World} {B X : Nat} {v : Value} {H : List One} {now : Int}
theorem TmInv.below (hn : TmInv w B X v H now) (hb : Below w.heap.size w w') : TmInv w' B X v H now := ⟨hn.base, hn.mem.below hb hn.mem.lt, owns_below hn.row hb⟩
theorem TmInv.eff {S : Nat → Prop} (hn : TmInv w B X v H now) (hb : Eff S w w') (h1 : ¬ S X) (h2 : ∀ k, v.ownBlock = some k → ¬ S k) : TmInv w' B X v H now := ⟨hn.base, hn.mem.eff hb h1, owns_eff hn.row hb h2⟩
theorem TmInv.ns (hn : TmInv w B X v H now) : ∀ k, TS X v k → k < w.heap.size ∧ B ≤ k ∧ (Tag w k 68 ∨ Tag w k 72) := by
  rintro k (rfl | hk)
  · exact ⟨hn.mem.lt, hn.base, .inl (mem_tag hn.mem)⟩
  · have := own_tag hn.row k hk
    exact ⟨this.2.1, this.1, .inr this.2.2⟩
theorem TmInv.apart (hn : TmInv w B X v H now) : v.ownBlock ≠ some X := fun hk => (own_tag hn.row X hk).2.2.ne (mem_tag hn.mem) (by decide) rfl
theorem TmInv.parts (hn : TmInv w B X v H now) : ∃ A c, v = .slice A H.length c ∧ H.length ≤ c ∧ c ≤ maxLen := own_form hn.row
/-- The cells of pair i. -/
theorem TmInv.at_ {A : Option Addr} {c : Nat} (hn : TmInv w B X (.slice A H.length c) H now) {i : Nat} (hi : i < H.length) : ∃ g, A = some ⟨g, 0, none⟩ ∧ B ≤ g ∧ g ≠ X := by
  rcases hn.row.2 with ⟨hv, h0⟩ | ⟨g, cap, cur, hv, hBg, hg, hnc, hcm, hcs, htk⟩
  · omega
  · simp only [Value.slice.injEq] at hv
    obtain ⟨rfl, _, rfl⟩ := hv
    refine ⟨g, rfl, hBg, ?_⟩
    rintro rfl
    exact hn.apart rfl
theorem TmInv.cells {g c : Nat} (hn : TmInv w B X (.slice (some ⟨g, 0, none⟩) H.length c) H now) {i : Nat} (hi : i < H.length) : w.cell? ⟨g, i * 2, none⟩ = some (.int .i64 (pl H i).1) ∧ w.cell? ⟨g, i * 2 + 1, none⟩ = some (.int .i64 (pl H i).2) := by
  have h := tflat_at H i hi
  have hl := tflat_len H
  exact ⟨by rw [hn.row.cellAt _ (by omega)]; exact h.1, by rw [hn.row.cellAt _ (by omega)]; exact h.2⟩
end
theorem one_info : (Try.prog.info? 72).map (fun i => (i.zero, i.size, i.bytes)) = some (some (.agg #[.int .i64 0, .int .i64 0]), 2, 16) := by kernel_rfl
set_option maxHeartbeats 1000000 in
theorem ahead_any (a b : One) (w : World) : Calls Try.prog 35 #[.agg #[.int .i64 a.1, .int .i64 a.2], .agg #[.int .i64 b.1, .int .i64 b.2]] w fun e w' => e = .returned (.bool (ah a b)) ∧ Below w.heap.size w w' := by
  obtain ⟨a1, a2⟩ := a
  obtain ⟨b1, b2⟩ := b
  unfold ah
  simp only
  by_cases h1 : a2 < b2
  · go_enter Try.func35, Try.ntmps35
    go_wp2
    go_ret
    exact ⟨by simp [h1], ((Below.refl _ w).alloc (Nat.le_refl _) _).alloc (by simp) _⟩
  · by_cases h2 : a2 = b2
    · subst h2
      go_enter Try.func35, Try.ntmps35
      go_wp2
      go_ret
      exact ⟨by simp, ((Below.refl _ w).alloc (Nat.le_refl _) _).alloc (by simp) _⟩
    · go_enter Try.func35, Try.ntmps35
      go_wp2
      go_ret
      exact ⟨by simp [h1], ((Below.refl _ w).alloc (Nat.le_refl _) _).alloc (by simp) _⟩
end Go.Proofs.Ytoogmdokcndieaa
