/- Package timer: what lies in memory; ahead, place, New, Len, Now: contracts. -/
import Derived.Test.YtohbkepjbaigdaaTmH
import Derived.Test.YtohbkepjbaigdaaRows
import Derived.Test.YtohbkepjbaigdaaChecked
import Derived.Test.YtohbkepjbaigdaaKeep
import Derived.Test.YtohbkepjbaigdaaCalmI
import Derived.Lib.Hide
import Derived.OwnWalk
import Derived.LoopTactic
namespace Go.Proofs.Ytohbkepjbaigdaa
open Go.ChangeShapes Go.WideShapes Go.ChangeAt Go.RowKit Go.Lib
set_option linter.unusedVariables false
set_option linter.unusedSimpArgs false
theorem owns_below {w w' : World} {base e sz : Nat} {v : Value} {n : Nat} {xs : List Value} (h : w.ownsRow base e sz v n xs) (hb : Below w.heap.size w w') : w'.ownsRow base e sz v n xs := by
  refine ⟨h.1, ?_⟩
  rcases h.2 with hn | ⟨g, cap, cur, rfl, hg, hgg, rest⟩
  · exact .inl hn
  · refine .inr ⟨g, cap, cur, rfl, hg, ?_, rest⟩
    rw [hb.block g (Array.getElem?_eq_some_iff.1 hgg).1]
    exact hgg
theorem owns_mono {w : World} {base base' e sz : Nat} {v : Value} {n : Nat} {xs : List Value} (h : w.ownsRow base e sz v n xs) (hb : base' ≤ base) : w.ownsRow base' e sz v n xs := by
  refine ⟨h.1, ?_⟩
  rcases h.2 with hn | ⟨g, cap, cur, rfl, hg, rest⟩
  · exact .inl hn
  · exact .inr ⟨g, cap, cur, rfl, Nat.le_trans hb hg, rest⟩
/-- Which blocks may have turned. -/
structure Eff (S : Nat → Prop) (w w' : World) : Prop where
  os : w'.os = w.os
  tape : w'.tape = w.tape
  output : w'.output = w.output
  size : w.heap.size ≤ w'.heap.size
  block : ∀ k, k < w.heap.size → ¬ S k → w'.heap[k]? = w.heap[k]?
theorem Eff.refl (S : Nat → Prop) (w : World) : Eff S w w := ⟨rfl, rfl, rfl, Nat.le_refl _, fun _ _ _ => rfl⟩
theorem Eff.of {S : Nat → Prop} {a b : World} (h : Below a.heap.size a b) : Eff S a b := ⟨h.os, h.tape, h.output, h.size, fun k hk _ => h.block k hk⟩
theorem Eff.mono {S T : Nat → Prop} {a b : World} (h : Eff S a b) (hs : ∀ k, k < a.heap.size → S k → T k) : Eff T a b := ⟨h.os, h.tape, h.output, h.size, fun k hk hn => h.block k hk fun hS => hn (hs k hk hS)⟩
theorem Eff.trans {S T : Nat → Prop} {a b c : World} (h : Eff S a b) (k : Eff T b c) (hs : ∀ i, i < a.heap.size → T i → S i) : Eff S a c :=
  ⟨k.os.trans h.os, k.tape.trans h.tape, k.output.trans h.output, Nat.le_trans h.size k.size, fun i hi hn => (k.block i (Nat.lt_of_lt_of_le hi h.size) fun ht => hn (hs i hi ht)).trans (h.block i hi hn)⟩
theorem Eff.below {S : Nat → Prop} {B : Nat} {o a b : World} (h : Eff S a b) (ho : Below B o a) (hB : B ≤ a.heap.size) (hs : ∀ k, k < a.heap.size → S k → B ≤ k) : Below B o b :=
  ⟨h.os.trans ho.os, h.tape.trans ho.tape, h.output.trans ho.output, Nat.le_trans ho.size h.size, fun k hk => (h.block k (by omega) fun hS => by have := hs k (by omega) hS; omega).trans (ho.block k hk)⟩
theorem Eff.setCell {S : Nat → Prop} {a b : World} {p : Addr} (h : Eff S a b) (hp : S p.block) (u : Value) : Eff S a (b.setCell p u) :=
  ⟨h.os, h.tape, h.output, by simpa using h.size, fun k hk hn => (Below.heap_setCell b p u k fun e => hn (e ▸ hp)).trans (h.block k hk hn)⟩
theorem Eff.cell {S : Nat → Prop} {a b : World} (h : Eff S a b) {p : Addr} (hp : p.block < a.heap.size) (hn : ¬ S p.block) : b.cell? p = a.cell? p := World.cell?_of_block (w := a) (h.block p.block hp hn)
/-- Of block k's kind. -/
def Tag (w : World) (k t : Nat) : Prop := ∃ cs fr, w.heap[k]? = some (.cells cs t fr)
theorem Tag.ne {w : World} {k j t u : Nat} (h : Tag w k t) (g : Tag w j u) (hn : t ≠ u) : k ≠ j := by
  rintro rfl
  obtain ⟨cs, fr, h⟩ := h
  obtain ⟨ds, gr, g⟩ := g
  rw [h] at g
  injection g with g
  injection g with _ e _
  exact hn e
theorem own_tag {w : World} {B e sz n : Nat} {v : Value} {xs : List Value} (h : w.ownsRow B e sz v n xs) : ∀ k, v.ownBlock = some k → B ≤ k ∧ k < w.heap.size ∧ Tag w k e := by
  intro k hk
  rcases h.2 with ⟨rfl, _⟩ | ⟨g, cap, cur, rfl, hB, hg, _⟩
  · cases hk
  · obtain rfl : g = k := Option.some.inj hk
    exact ⟨hB, (Array.getElem?_eq_some_iff.1 hg).1, _, _, hg⟩
theorem owns_eff {S : Nat → Prop} {w w' : World} {base e sz : Nat} {v : Value} {n : Nat} {xs : List Value} (h : w.ownsRow base e sz v n xs) (hb : Eff S w w') (hS : ∀ k, v.ownBlock = some k → ¬ S k) : w'.ownsRow base e sz v n xs := by
  refine ⟨h.1, ?_⟩
  rcases h.2 with hn | ⟨g, cap, cur, rfl, hg, hgg, rest⟩
  · exact .inl hn
  · refine .inr ⟨g, cap, cur, rfl, hg, ?_, rest⟩
    rw [hb.block g (Array.getElem?_eq_some_iff.1 hgg).1 (hS g rfl)]
    exact hgg
theorem mem_tag {w : World} {g t : Nat} {cs : Array Value} (h : Mem w g t cs) : Tag w g t := ⟨_, _, h⟩
theorem Mem.eff {S : Nat → Prop} {w w' : World} {g t : Nat} {cs : Array Value} (h : Mem w g t cs) (hb : Eff S w w') (hn : ¬ S g) : Mem w' g t cs := (hb.block g h.lt hn).trans h
theorem eff_grown {w w' : World} {row : Option Nat} (hg : w.grownBy w' row) : Eff (fun k => row = some k) w w' := ⟨hg.os, hg.tape, hg.output, hg.size, fun k hk hn => hg.block k hk fun e => hn e.symm⟩
theorem own_form {w : World} {B e sz : Nat} {v : Value} {n : Nat} {xs : List Value} (h : w.ownsRow B e sz v n xs) : ∃ A c, v = .slice A n c ∧ n ≤ c ∧ c ≤ maxLen := by
  rcases h.2 with ⟨rfl, h0⟩ | ⟨g, cap, cur, rfl, _, _, h1, h2, _⟩
  · exact ⟨none, 0, by rw [h0], by omega, by simp⟩
  · exact ⟨_, cap, rfl, h1, h2⟩
def ocells (x : One) : List Value := [.int .i64 x.1, .int .i64 x.2]
def oval (x : One) : Value := .agg #[.int .i64 x.1, .int .i64 x.2]
def tflat (H : List One) : List Value := H.flatMap ocells
theorem tflat_len (H : List One) : (tflat H).length = H.length * 2 := by
  induction H with
  | nil => rfl
  | cons p L ih => simp only [tflat, List.flatMap_cons, List.length_append, List.length_cons] at ih ⊢; rw [ih]; simp [ocells]; omega
theorem tflat_app (L K : List One) : tflat (L ++ K) = tflat L ++ tflat K := by simp [tflat]
theorem tflat_snoc (L : List One) (x : One) : tflat (L ++ [x]) = tflat L ++ [.int .i64 x.1, .int .i64 x.2] := by simp [tflat, ocells]
theorem tflat_at (H : List One) (i : Nat) (h : i < H.length) : (tflat H)[i * 2]? = some (.int .i64 (pl H i).1) ∧ (tflat H)[i * 2 + 1]? = some (.int .i64 (pl H i).2) := by
  induction H generalizing i with
  | nil => simp at h
  | cons p L ih =>
    cases i with
    | zero => exact ⟨rfl, rfl⟩
    | succ i =>
      have := ih i (by simpa using h)
      rw [show (i + 1) * 2 = i * 2 + 2 by omega, show i * 2 + 2 + 1 = i * 2 + 1 + 2 by omega]
      exact this
theorem tflat_take (H : List One) (i : Nat) : (tflat H).take (i * 2) = tflat (H.take i) := by
  induction H generalizing i with
  | nil => simp [tflat]
  | cons p L ih =>
    cases i with
    | zero => simp [tflat]
    | succ i =>
      have e : tflat (p :: L) = ocells p ++ tflat L := rfl
      rw [e, List.take_succ_cons, show tflat (p :: L.take i) = ocells p ++ tflat (L.take i) from rfl, ← ih i, List.take_append]
      rw [List.take_of_length_le (by simp [ocells]; omega)]
      congr 2
      simp [ocells]
      omega
theorem tflat_set (H : List One) (i : Nat) (h : i < H.length) (x : One) : ((tflat H).set (i * 2) (.int .i64 x.1)).set (i * 2 + 1) (.int .i64 x.2) = tflat (H.set i x) := by
  induction H generalizing i with
  | nil => simp at h
  | cons p L ih =>
    cases i with
    | zero => rfl
    | succ i =>
      have := ih i (by simpa using h)
      rw [show (i + 1) * 2 = i * 2 + 2 by omega, show i * 2 + 2 + 1 = i * 2 + 1 + 2 by omega]
      show ocells p ++ _ = _
      rw [show tflat ((p :: L).set (i + 1) x) = ocells p ++ tflat (L.set i x) from rfl, ← this]
      rfl
/-- Timers in block X, those that are set in v's row. -/
structure TmInv (w : World) (B X : Nat) (v : Value) (H : List One) (now : Int) : Prop where
  base : B ≤ X
  mem : Mem w X 50 #[v, .int .i64 now]
  row : w.ownsRow B 54 2 v H.length (tflat H)
/-- The blocks that are the timers' own. -/
def TS (X : Nat) (v : Value) : Nat → Prop := fun k => k = X ∨ v.ownBlock = some k
section
variable {w w' : World} {B X : Nat} {v : Value} {H : List One} {now : Int}
theorem TmInv.below (hn : TmInv w B X v H now) (hb : Below w.heap.size w w') : TmInv w' B X v H now := ⟨hn.base, hn.mem.below hb hn.mem.lt, owns_below hn.row hb⟩
theorem TmInv.eff {S : Nat → Prop} (hn : TmInv w B X v H now) (hb : Eff S w w') (h1 : ¬ S X) (h2 : ∀ k, v.ownBlock = some k → ¬ S k) : TmInv w' B X v H now := ⟨hn.base, hn.mem.eff hb h1, owns_eff hn.row hb h2⟩
theorem TmInv.ns (hn : TmInv w B X v H now) : ∀ k, TS X v k → k < w.heap.size ∧ B ≤ k ∧ (Tag w k 50 ∨ Tag w k 54) := by
  rintro k (rfl | hk)
  · exact ⟨hn.mem.lt, hn.base, .inl (mem_tag hn.mem)⟩
  · have := own_tag hn.row k hk
    exact ⟨this.2.1, this.1, .inr this.2.2⟩
theorem TmInv.apart (hn : TmInv w B X v H now) : v.ownBlock ≠ some X := fun hk => (own_tag hn.row X hk).2.2.ne (mem_tag hn.mem) (by decide) rfl
theorem TmInv.parts (hn : TmInv w B X v H now) : ∃ A c, v = .slice A H.length c ∧ H.length ≤ c ∧ c ≤ maxLen := own_form hn.row
/-- The cells of pair i. -/
theorem TmInv.at_ {A : Option Addr} {c : Nat} (hn : TmInv w B X (.slice A H.length c) H now) {i : Nat} (hi : i < H.length) : ∃ g, A = some ⟨g, 0, none⟩ ∧ B ≤ g ∧ g ≠ X := by
  rcases hn.row.2 with ⟨hv, h0⟩ | ⟨g, cap, cur, hv, hBg, hg, hnc, hcm, hcs, htk⟩
  · omega
  · simp only [Value.slice.injEq] at hv
    obtain ⟨rfl, _, rfl⟩ := hv
    refine ⟨g, rfl, hBg, ?_⟩
    rintro rfl
    exact hn.apart rfl
theorem TmInv.cells {g c : Nat} (hn : TmInv w B X (.slice (some ⟨g, 0, none⟩) H.length c) H now) {i : Nat} (hi : i < H.length) : w.cell? ⟨g, i * 2, none⟩ = some (.int .i64 (pl H i).1) ∧ w.cell? ⟨g, i * 2 + 1, none⟩ = some (.int .i64 (pl H i).2) := by
  have h := tflat_at H i hi
  have hl := tflat_len H
  exact ⟨by rw [hn.row.cellAt _ (by omega)]; exact h.1, by rw [hn.row.cellAt _ (by omega)]; exact h.2⟩
end
theorem one_info : (Try.prog.info? 54).map (fun i => (i.zero, i.size, i.bytes)) = some (some (.agg #[.int .i64 0, .int .i64 0]), 2, 16) := by kernel_rfl
set_option maxHeartbeats 1000000 in
theorem ahead_any (a b : One) (w : World) : Calls Try.prog 30 #[.agg #[.int .i64 a.1, .int .i64 a.2], .agg #[.int .i64 b.1, .int .i64 b.2]] w fun e w' => e = .returned (.bool (ah a b)) ∧ Below w.heap.size w w' := by
  obtain ⟨a1, a2⟩ := a
  obtain ⟨b1, b2⟩ := b
  unfold ah
  simp only
  by_cases h1 : a2 < b2
  · go_enter Try.func30, Try.ntmps30
    go_wp2
    go_ret
    exact ⟨by simp [h1], ((Below.refl _ w).alloc (Nat.le_refl _) _).alloc (by simp) _⟩
  · by_cases h2 : a2 = b2
    · subst h2
      go_enter Try.func30, Try.ntmps30
      go_wp2
      go_ret
      exact ⟨by simp, ((Below.refl _ w).alloc (Nat.le_refl _) _).alloc (by simp) _⟩
    · go_enter Try.func30, Try.ntmps30
      go_wp2
      go_ret
      exact ⟨by simp [h1], ((Below.refl _ w).alloc (Nat.le_refl _) _).alloc (by simp) _⟩
end Go.Proofs.Ytohbkepjbaigdaa
