/- Package cdb: fields, wrong, value, kindOf: contracts. -/
import Derived.Test.YteeeioafhdkagaaCd
import Derived.Deep.QuietTactic
import Derived.BigQuiet
namespace Go.Proofs.Yteeeioafhdkagaa
open Go.ChangeShapes Go.WideShapes Go.ChangeAt Go.RowKit
set_option linter.unusedVariables false
/-- The slice value v shows these fields (what, at, n), in blocks below B: three cells a field. -/
def Fs (w : World) (B : Nat) (v : Value) (l : List (Nat × Nat × Nat)) : Prop :=
  ∃ A c, v = .slice A l.length c ∧ l.length ≤ c ∧ c ≤ maxLen ∧
    (l ≠ [] → ∃ b, A = some ⟨b, 0, none⟩ ∧ b < B ∧ ∀ j (h : j < l.length), w.cell? ⟨b, j * 3, none⟩ = some (.int .i64 (l[j].1 : Nat)) ∧ w.cell? ⟨b, j * 3 + 1, none⟩ = some (.int .i64 (l[j].2.1 : Nat)) ∧ w.cell? ⟨b, j * 3 + 2, none⟩ = some (.int .i64 (l[j].2.2 : Nat)))
theorem Fs.below {w w' : World} {B : Nat} {v : Value} {l : List (Nat × Nat × Nat)} (h : Fs w B v l) (hb : Below B w w') : Fs w' B v l := by
  obtain ⟨A, c, e, h1, h2, h4⟩ := h
  refine ⟨A, c, e, h1, h2, fun hx => ?_⟩
  obtain ⟨b, ea, hlt, hc⟩ := h4 hx
  exact ⟨b, ea, hlt, fun j hj => ⟨(hb.cell (p := ⟨b, _, none⟩) hlt).trans (hc j hj).1, (hb.cell (p := ⟨b, _, none⟩) hlt).trans (hc j hj).2.1, (hb.cell (p := ⟨b, _, none⟩) hlt).trans (hc j hj).2.2⟩⟩
theorem Fs.more {w : World} {B B' : Nat} {v : Value} {l : List (Nat × Nat × Nat)} (h : Fs w B v l) (hB : B ≤ B') : Fs w B' v l := by
  obtain ⟨A, c, e, h1, h2, h4⟩ := h
  refine ⟨A, c, e, h1, h2, fun hx => ?_⟩
  obtain ⟨b, ea, hlt, hc⟩ := h4 hx
  exact ⟨b, ea, by omega, hc⟩
theorem Fs.now {a b : World} {v : Value} {l : List (Nat × Nat × Nat)} (h : Fs a a.heap.size v l) (k : Below a.heap.size a b) : Fs b b.heap.size v l := (h.below k).more k.size
theorem Fs.form {w : World} {B : Nat} {v : Value} {l : List (Nat × Nat × Nat)} (h : Fs w B v l) : ∃ A c, v = .slice A l.length c ∧ l.length ≤ c ∧ c ≤ maxLen := by
  obtain ⟨A, c, e, h1, h2, _⟩ := h
  exact ⟨A, c, e, h1, h2⟩
theorem Fs.at_ {w : World} {B : Nat} {A : Option Addr} {c : Nat} {l : List (Nat × Nat × Nat)} (h : Fs w B (.slice A l.length c) l) (hn : 0 < l.length) :
    ∃ b, A = some ⟨b, 0, none⟩ ∧ b < B ∧ ∀ j (h : j < l.length), w.cell? ⟨b, j * 3, none⟩ = some (.int .i64 (l[j].1 : Nat)) ∧ w.cell? ⟨b, j * 3 + 1, none⟩ = some (.int .i64 (l[j].2.1 : Nat)) ∧ w.cell? ⟨b, j * 3 + 2, none⟩ = some (.int .i64 (l[j].2.2 : Nat)) := by
  obtain ⟨A', c', e, h1, h2, h3⟩ := h
  injection e with e1 e2 e3
  subst e1
  exact h3 (by rintro rfl; simp at hn)
/-- A command that lies in a block. -/
def CmdAt (w : World) (B : Nat) (k a n t : Int) (f : Bool) : Prop := w.heap[B]? = some (.cells #[.int .i64 k, .int .i64 a, .int .i64 n, .slice none 0 0, .int .u64 0, .int .u64 0, .int .i64 t, .bool f] 27 (0, 0))
theorem CmdAt.cells {w : World} {B : Nat} {k a n t : Int} {f : Bool} (h : CmdAt w B k a n t f) : w.cell? ⟨B, 0, none⟩ = some (.int .i64 k) ∧ w.cell? ⟨B, 1, none⟩ = some (.int .i64 a) ∧ w.cell? ⟨B, 2, none⟩ = some (.int .i64 n) ∧ w.cell? ⟨B, 3, none⟩ = some (.slice none 0 0) ∧
    w.cell? ⟨B, 4, none⟩ = some (.int .u64 0) ∧ w.cell? ⟨B, 5, none⟩ = some (.int .u64 0) ∧ w.cell? ⟨B, 6, none⟩ = some (.int .i64 t) ∧ w.cell? ⟨B, 7, none⟩ = some (.bool f) :=
  ⟨cell_of_row w B 0 _ _ (0, 0) h, cell_of_row w B 1 _ _ (0, 0) h, cell_of_row w B 2 _ _ (0, 0) h, cell_of_row w B 3 _ _ (0, 0) h, cell_of_row w B 4 _ _ (0, 0) h, cell_of_row w B 5 _ _ (0, 0) h, cell_of_row w B 6 _ _ (0, 0) h, cell_of_row w B 7 _ _ (0, 0) h⟩
/-- But for one block nothing has turned. -/
structure Keeps (g : Nat) (w w' : World) : Prop where
  os : w'.os = w.os
  tape : w'.tape = w.tape
  output : w'.output = w.output
  size : w.heap.size ≤ w'.heap.size
  block : ∀ k, k < w.heap.size → k ≠ g → w'.heap[k]? = w.heap[k]?
theorem Keeps.refl (g : Nat) (w : World) : Keeps g w w := ⟨rfl, rfl, rfl, Nat.le_refl _, fun _ _ _ => rfl⟩
theorem Keeps.trans {g : Nat} {a b c : World} (h : Keeps g a b) (k : Keeps g b c) : Keeps g a c :=
  ⟨k.os.trans h.os, k.tape.trans h.tape, k.output.trans h.output, Nat.le_trans h.size k.size, fun i hi hg => (k.block i (Nat.lt_of_lt_of_le hi h.size) hg).trans (h.block i hi hg)⟩
theorem Keeps.of {g : Nat} {a b : World} (h : Below a.heap.size a b) : Keeps g a b := ⟨h.os, h.tape, h.output, h.size, fun k hk _ => h.block k hk⟩
theorem Keeps.below {g B : Nat} {a b : World} (h : Keeps g a b) (hB : B ≤ g) (hs : B ≤ a.heap.size) : Below B a b := ⟨h.os, h.tape, h.output, h.size, fun k hk => h.block k (by omega) (by omega)⟩
theorem Keeps.setCell {a b : World} {p : Addr} (h : Keeps p.block a b) (u : Value) : Keeps p.block a (b.setCell p u) :=
  ⟨h.os, h.tape, h.output, by simpa using h.size, fun k hk hg => (Below.heap_setCell b p u k hg).trans (h.block k hk hg)⟩
theorem Keeps.setRow {g : Nat} {a b : World} (h : Keeps g a b) (cs : Array Value) : Keeps g a (b.setRow g cs) :=
  ⟨h.os, h.tape, h.output, by simpa [World.setRow] using h.size, fun k hk hg => (setRow_other b g k cs hg).trans (h.block k hk hg)⟩
theorem Keeps.cell {g : Nat} {a b : World} (h : Keeps g a b) {p : Addr} (hp : p.block < a.heap.size) (hg : p.block ≠ g) : b.cell? p = a.cell? p := World.cell?_of_block (w := a) (h.block p.block hp hg)
theorem Fs.keeps {g : Nat} {a b : World} {v : Value} {l : List (Nat × Nat × Nat)} (h : Fs a a.heap.size v l) (hb : Keeps g a b) (hg : ∀ A n c, v = .slice (some A) n c → A.block ≠ g) : Fs b b.heap.size v l := by
  obtain ⟨A, c, e, h1, h2, h4⟩ := h
  refine ⟨A, c, e, h1, h2, fun hx => ?_⟩
  obtain ⟨b', ea, hlt, hc⟩ := h4 hx
  have hne : b' ≠ g := hg ⟨b', 0, none⟩ _ _ (by rw [e, ea])
  exact ⟨b', ea, Nat.lt_of_lt_of_le hlt hb.size, fun j hj => ⟨(hb.cell (p := ⟨b', _, none⟩) hlt hne).trans (hc j hj).1, (hb.cell (p := ⟨b', _, none⟩) hlt hne).trans (hc j hj).2.1, (hb.cell (p := ⟨b', _, none⟩) hlt hne).trans (hc j hj).2.2⟩⟩
def flatF (l : List (Nat × Nat × Nat)) : List Value := l.flatMap fun f => [.int .i64 (f.1 : Nat), .int .i64 (f.2.1 : Nat), .int .i64 (f.2.2 : Nat)]
theorem flatF_at : ∀ (l : List (Nat × Nat × Nat)) (j : Nat) (h : j < l.length), (flatF l)[j * 3]? = some (.int .i64 (l[j].1 : Nat)) ∧ (flatF l)[j * 3 + 1]? = some (.int .i64 (l[j].2.1 : Nat)) ∧ (flatF l)[j * 3 + 2]? = some (.int .i64 (l[j].2.2 : Nat))
  | [], j, h => by simp at h
  | f :: l, 0, _ => by simp [flatF]
  | f :: l, j + 1, h => by
    have ih := flatF_at l j (by simpa using h)
    have e : flatF (f :: l) = .int .i64 (f.1 : Nat) :: .int .i64 (f.2.1 : Nat) :: .int .i64 (f.2.2 : Nat) :: flatF l := by simp [flatF]
    rw [e, show (j + 1) * 3 = j * 3 + 3 by omega]
    exact ih
theorem Fs_alloc (w : World) (l : List (Nat × Nat × Nat)) (t : TypeId) (hl : l.length ≤ 1000) : Fs (w.alloc (.cells (flatF l).toArray t)) (w.alloc (.cells (flatF l).toArray t)).heap.size (.slice (some ⟨w.heap.size, 0, none⟩) l.length l.length) l := by
  refine ⟨_, _, rfl, Nat.le_refl _, by unfold maxLen; omega, fun _ => ⟨_, rfl, by simp, fun j hj => ?_⟩⟩
  have hf := flatF_at l j hj
  have key : ∀ i u, (flatF l)[i]? = some u → (w.alloc (.cells (flatF l).toArray t)).cell? ⟨w.heap.size, i, none⟩ = some u := by
    intro i u hu
    exact (cell_of_row _ _ i (flatF l).toArray t (0, 0) (heap_alloc_new w _)).trans (by simpa using hu)
  exact ⟨key _ _ hf.1, key _ _ hf.2.1, key _ _ hf.2.2⟩
def flS (k : Int) : List (Nat × Nat × Nat) :=
  if k == 2 then [(1, 2, 8), (2, 10, 4)] else if k == 4 then [(1, 2, 8), (2, 10, 4)] else if k == 5 then [(1, 2, 8), (2, 10, 4)]
  else if k == 3 then [(0, 1, 1), (1, 2, 8), (2, 10, 4)] else if k == 6 then [(0, 1, 1), (1, 2, 8), (2, 13, 1)]
  else if k == 12 then [(3, 2, 1)] else if k == 13 then [(3, 2, 1)] else if k == 15 then [(3, 2, 1)] else []
set_option maxHeartbeats 2000000 in
theorem fields_any (k : Int) (w : World) : Calls Try.prog 29 #[.int .i64 k] w fun e w' => ∃ v, e = .returned v ∧ Fs w' w'.heap.size v (flS k) ∧ (∀ A n c, v = .slice (some A) n c → w.heap.size ≤ A.block) ∧ Below w.heap.size w w' := by
  obtain ⟨x, hx⟩ : ∃ x, x = flS k := ⟨_, rfl⟩
  rw [← hx]
  unfold flS at hx
  have HX := Lib.hid hx
  clear hx
  go_enter Try.func29, Try.ntmps29
  go_wp2
  all_goals
    have hx := HX.out
    clear HX
    repeat (first | rw [if_pos (by assumption)] at hx | rw [if_neg (by rw [Bool.not_eq_true]; assumption)] at hx)
    subst hx
    go_ret
    first
      | exact ⟨_, rfl, Fs_alloc w [(1, 2, 8), (2, 10, 4)] 65 (by simp), by rintro A n c h; cases h; exact Nat.le_refl _, (Below.refl _ _).alloc (Nat.le_refl _) _⟩
      | exact ⟨_, rfl, Fs_alloc w [(0, 1, 1), (1, 2, 8), (2, 10, 4)] 65 (by simp), by rintro A n c h; cases h; exact Nat.le_refl _, (Below.refl _ _).alloc (Nat.le_refl _) _⟩
      | exact ⟨_, rfl, Fs_alloc w [(0, 1, 1), (1, 2, 8), (2, 13, 1)] 65 (by simp), by rintro A n c h; cases h; exact Nat.le_refl _, (Below.refl _ _).alloc (Nat.le_refl _) _⟩
      | exact ⟨_, rfl, Fs_alloc w [(3, 2, 1)] 65 (by simp), by rintro A n c h; cases h; exact Nat.le_refl _, (Below.refl _ _).alloc (Nat.le_refl _) _⟩
      | exact ⟨_, rfl, ⟨none, 0, rfl, Nat.le_refl _, by unfold maxLen; omega, fun h => absurd rfl h⟩, (by rintro A n c h; cases h), Below.refl _ _⟩
theorem wrong_any (c : Int) (w : World) : Calls Try.prog 32 #[.int .i64 c] w fun e w' => e = .returned (.agg #[.int .i64 2, .int .i64 5, .int .i64 c, .slice none 0 0, .int .i64 0]) ∧ Below w.heap.size w w' := by
  go_enter Try.func32, Try.ntmps32
  go_wp2
  exact bodyPost_ret (v := .agg #[.int .i64 2, .int .i64 5, .int .i64 c, .slice none 0 0, .int .i64 0]) (by simp [results, Try.results32, go_sem]) rfl ⟨rfl, (Below.refl _ _).alloc (Nat.le_refl _) _⟩
/-- What a field of such a command holds. -/
def valS (a n t : Nat) (f : Bool) (what : Nat) : Nat := if what = 0 then (if f then 8 else 0) else if what = 1 then a else if what = 2 then n else t
theorem value_any (k : Int) (a n t : Nat) (f : Bool) (x : Nat × Nat × Nat) (hx : x.1 ≤ 3) (hx2 : x.1 = 2 → x.2.2 = 1 ∨ x.2.2 = 4) (ha : a < 9223372036854775808) (hn : n < 256) (ht : t ≤ 15) (w : World) :
    Calls Try.prog 30 #[cmdV k a n t f, .agg #[.int .i64 (x.1 : Nat), .int .i64 (x.2.1 : Nat), .int .i64 (x.2.2 : Nat)]] w fun e w' => e = .returned (.tuple #[.int .u64 (valS a n t f x.1 : Nat), .bool true]) ∧ Below w.heap.size w w' := by
  obtain ⟨what, at_, m⟩ := x
  dsimp only at hx hx2 ⊢
  unfold cmdV
  have hwa : IntKind.u64.wrap (a : Int) = a := by rw [IntKind.wrap_u64]; omega
  have hwn : IntKind.u64.wrap (n : Int) = n := by rw [IntKind.wrap_u64]; omega
  have hwt : IntKind.u64.wrap (t : Int) = t := by rw [IntKind.wrap_u64]; omega
  have ha0 : (0 : Int) ≤ a := by omega
  have hn0 : (0 : Int) ≤ n := by omega
  have ht0 : (0 : Int) ≤ t := by omega
  have ht1 : (t : Int) ≤ 15 := by omega
  have hw : what = 0 ∨ what = 1 ∨ what = 2 ∨ what = 3 := by omega
  have hbb : Below w.heap.size w ((w.alloc (.cells #[.int .i64 k, .int .i64 a, .int .i64 n, .slice none 0 0, .int .u64 0, .int .u64 0, .int .i64 t, .bool f] 27)).alloc (.cells #[.int .i64 (what : Nat), .int .i64 (at_ : Nat), .int .i64 (m : Nat)] 65)) := ((Below.refl _ _).alloc (Nat.le_refl _) _).alloc (by simp) _
  rcases hw with rfl | rfl | rfl | rfl
  · cases f
    · go_enter Try.func30, Try.ntmps30
      go_wp2
      exact bodyPost_ret (v := .tuple #[.int .u64 0, .bool true]) (by simp [results, Try.results30, go_sem]) rfl ⟨rfl, hbb⟩
    · go_enter Try.func30, Try.ntmps30
      go_wp2
      exact bodyPost_ret (v := .tuple #[.int .u64 8, .bool true]) (by simp [results, Try.results30, go_sem]) rfl ⟨rfl, hbb⟩
  · go_enter Try.func30, Try.ntmps30
    go_wp2
    go_quiet (fail)
    go_wp2
    exact bodyPost_ret (v := .tuple #[.int .u64 (a : Nat), .bool true]) (by simp [results, Try.results30, go_sem]) rfl ⟨rfl, below_drewN hbb _⟩
  · rcases hx2 rfl with rfl | rfl
    · have hlt : (n : Int) < 256 := by omega
      go_enter Try.func30, Try.ntmps30
      go_wp2
      go_quiet (fail)
      go_wp2
      exact bodyPost_ret (v := .tuple #[.int .u64 (n : Nat), .bool true]) (by simp [results, Try.results30, go_sem]) rfl ⟨rfl, below_drewN hbb _⟩
    · have hlt : (n : Int) < 4294967296 := by omega
      go_enter Try.func30, Try.ntmps30
      go_wp2
      go_quiet (fail)
      go_wp2
      exact bodyPost_ret (v := .tuple #[.int .u64 (n : Nat), .bool true]) (by simp [results, Try.results30, go_sem]) rfl ⟨rfl, below_drewN hbb _⟩
  · go_enter Try.func30, Try.ntmps30
    go_wp2
    go_quiet (fail)
    go_wp2
    exact bodyPost_ret (v := .tuple #[.int .u64 (t : Nat), .bool true]) (by simp [results, Try.results30, go_sem]) rfl ⟨rfl, below_drewN hbb _⟩
end Go.Proofs.Yteeeioafhdkagaa
