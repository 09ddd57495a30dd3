/- Package resv: Reserve, Release: contracts. -/
import Derived.Test.YtgnpepkpbdddhaaRv3
namespace Go.Proofs.Ytgnpepkpbdddhaa
open Go.ChangeShapes Go.WideShapes Go.ChangeAt Go.RowKit Go.Lib
set_option linter.unusedVariables false
set_option linter.unusedSimpArgs false
namespace Rv
theorem row_new {w w1 : World} {Y g : Nat} {t : RT} (h1 : TabM w1 Y t) (hb1 : Below w.heap.size w w1) (hm : Mem w1 g 40 #[Value.int .i64 0, .int .i64 0, .int .i64 0, .slice none 0 0, .int .i64 0]) (ROW : Array Value) : ∃ W2, W2 = (w1.alloc (.cells #[Value.int .i64 0, .int .i64 0, .int .i64 0, .slice none 0 0, .int .i64 0] 40)).setRow w1.heap.size ROW ∧ TabM W2 Y t ∧ Mem W2 g 40 #[Value.int .i64 0, .int .i64 0, .int .i64 0, .slice none 0 0, .int .i64 0] ∧ Mem W2 w1.heap.size 40 ROW ∧ Below w.heap.size w W2 := by
  have h2 := h1.mem.lt
  have h3 := hm.lt
  refine ⟨_, rfl, (h1.below ((Below.refl _ w1).alloc (Nat.le_refl _) _)).far _ (by omega) _, (hm.alloc _).rowFar (by omega) _, (Mem.new w1 _ _).row _, below_setRow (hb1.alloc hb1.size _) hb1.size _⟩
theorem isType_any (y : Int) (w : World) : Calls Try.prog 34 #[.int .i64 y] w fun e w' => e = .returned (.bool (decide (y = 1 ∨ y = 3 ∨ y = 5 ∨ y = 6))) ∧ w = w' := by
  by_cases hy : y = 1 ∨ y = 3 ∨ y = 5 ∨ y = 6
  · rw [decide_eq_true hy]
    exact isType_yes y hy w
  · rw [decide_eq_false hy]
    have h1 : ¬ y = 1 := fun e => hy (.inl e)
    have h3 : ¬ y = 3 := fun e => hy (.inr (.inl e))
    have h5 : ¬ y = 5 := fun e => hy (.inr (.inr (.inl e)))
    have h6 : ¬ y = 6 := fun e => hy (.inr (.inr (.inr e)))
    have b1 : (y == 1) = false := beq_eq_false_iff_ne.2 h1
    have b3 : (y == 3) = false := beq_eq_false_iff_ne.2 h3
    have b5 : (y == 5) = false := beq_eq_false_iff_ne.2 h5
    have b6 : (y == 6) = false := beq_eq_false_iff_ne.2 h6
    clear hy
    go_enter Try.func34, Try.ntmps34
    go_wp2
    go_ret
    exact ⟨rfl, rfl⟩
section
variable {w w' : World} {Y : Nat} {t : RT}
/-- What a call leaves that tells a reply alone. -/
def Tell1 (w : World) (Y : Nat) (t' : RT) (s k c : Int) (e : Ending) (w' : World) : Prop := e = .returned (rep s k c) ∧ TabM w' Y t' ∧ Keeps Y w w'
/-- Held by a host. -/
def RT.hold (t : RT) (i y : Nat) : RT := { t with holder := (i : Nat), typ := y }
/-- refused says no. -/
def Ref (Y : Nat) (t : RT) (host : Int) (key : Nat) (s k c : Int) (b : Bool) : Prop := ∀ W, TabM W Y t → Calls Try.prog 33 #[.pointer (some ⟨Y, 0, none⟩), .int .i64 host, .int .u64 (key : Nat)] W fun e w' => e = .returned (.tuple #[.agg #[Value.int .i64 s, .int .i64 k, .int .i64 c, .slice none 0 0, .int .i64 0], .bool b]) ∧ Below W.heap.size W w'
theorem Ref.host (host : Int) (key : Nat) (hh : ¬ (0 ≤ host ∧ host < 8)) : Ref Y t host key 2 5 9216 true := fun W hW => refused_host Y host key hh W
theorem Ref.key (i : Nat) (hi : i < 8) (key : Nat) (hk : t.at_ i = 0 ∨ t.at_ i ≠ key) : Ref Y t (i : Nat) key 24 0 0 true := fun W hW => refused_key hW i hi key hk
theorem Ref.not (i : Nat) (hi : i < 8) (key : Nat) (hk : t.at_ i ≠ 0) (hk2 : t.at_ i = key) : Ref Y t (i : Nat) key 0 0 0 false := fun W hW => refused_not hW i hi key hk hk2
theorem keeps_row {w W : World} (k : Keeps Y w W) (hne : Y ≠ w.heap.size) {t' : RT} (hh : TabM W Y t') (cs : Array Value) : TabM (W.setRow w.heap.size cs) Y t' ∧ Keeps Y w (W.setRow w.heap.size cs) :=
  ⟨hh.far _ hne _, k.os, k.tape, k.output, by simpa [World.setRow] using k.size, fun j hj hn => (setRow_other W w.heap.size j _ (by omega)).trans (k.block j hj hn)⟩
set_option maxRecDepth 100000 in
theorem Reserve_ref (h : TabM w Y t) (host : Int) (key : Nat) (y : Int) (s k c : Int) (hrf : Ref Y t host key s k c true) : Calls Try.prog 14 #[.pointer (some ⟨Y, 0, none⟩), .int .i64 host, .int .u64 (key : Nat), .int .i64 y] w (Tell1 w Y t s k c) := by
  have hlt := h.mem.lt
  have hne : Y ≠ w.heap.size := by omega
  have hm0 := Mem.new w 40 #[Value.int .i64 0, .int .i64 0, .int .i64 0, .slice none 0 0, .int .i64 0]
  have hb0 : Below w.heap.size w (w.alloc (.cells #[Value.int .i64 0, .int .i64 0, .int .i64 0, .slice none 0 0, .int .i64 0] 40)) := (Below.refl _ w).alloc (Nat.le_refl _) _
  have h0 := h.below hb0
  unfold Ref at hrf
  go_enter Try.func14, Try.ntmps14
  go_wp2_with (first
    | (go_at_call 33; (with_reducible refine (hrf _ h0).mono ?_); rintro e w1 ⟨rfl, hb1⟩; have h1 := h0.below hb1; have hm1 := hm0.below hb1 hm0.lt; have hbb := hb0.trans (hb1.mono hb0.size))
    | ((refine wpList_store_row rfl 40 (.tmp 9) (.tmp 16) rfl w1.heap.size #[Value.int .i64 s, .int .i64 k, .int .i64 c, .slice none 0 0, .int .i64 0] rfl rfl 40 #[Value.int .i64 0, .int .i64 0, .int .i64 0, .slice none 0 0, .int .i64 0] (Mem.new w1 _ _) (by kernel_rfl) (by kernel_rfl) (by kernel_rfl) ?_); obtain ⟨w2, e2, h2, hm2, hr2, hb2⟩ := row_new h1 hbb hm1 #[Value.int .i64 s, .int .i64 k, .int .i64 c, .slice none 0 0, .int .i64 0]; rw [← e2]; clear e2)
    | (refine wpList_load_row rfl 40 (.tmp 9) rfl w1.heap.size rfl 40 #[Value.int .i64 s, .int .i64 k, .int .i64 c, .slice none 0 0, .int .i64 0] (0, 0) _ hr2 Try.underlying40 rfl (by kernel_rfl) ?_)
    | (refine wpList_store_row rfl 40 (.tmp 8) (.tmp 19) rfl w.heap.size #[Value.int .i64 s, .int .i64 k, .int .i64 c, .slice none 0 0, .int .i64 0] rfl rfl 40 #[Value.int .i64 0, .int .i64 0, .int .i64 0, .slice none 0 0, .int .i64 0] hm2 (by kernel_rfl) (by kernel_rfl) (by kernel_rfl) ?_))
  have hb : Below w.heap.size w (w2.setRow w.heap.size #[Value.int .i64 s, .int .i64 k, .int .i64 c, .slice none 0 0, .int .i64 0]) := below_setRow hb2 (Nat.le_refl _) _
  obtain ⟨g1, g2⟩ := keeps_row (Keeps.of hb2) hne h2 #[Value.int .i64 s, .int .i64 k, .int .i64 c, .slice none 0 0, .int .i64 0]
  exact bodyPost_ret (fin1 (p := 8) rfl _ _ w.heap.size s k c rfl (hm2.row _)) rfl ⟨rfl, g1, g2⟩
set_option maxRecDepth 100000 in
theorem Release_ref (h : TabM w Y t) (host : Int) (key : Nat) (y : Int) (s k c : Int) (hrf : Ref Y t host key s k c true) : Calls Try.prog 17 #[.pointer (some ⟨Y, 0, none⟩), .int .i64 host, .int .u64 (key : Nat), .int .i64 y] w (Tells w Y t s k c []) := by
  have hlt := h.mem.lt
  have hne : Y ≠ w.heap.size := by omega
  have hm0 := Mem.new w 40 #[Value.int .i64 0, .int .i64 0, .int .i64 0, .slice none 0 0, .int .i64 0]
  have hb0 : Below w.heap.size w (w.alloc (.cells #[Value.int .i64 0, .int .i64 0, .int .i64 0, .slice none 0 0, .int .i64 0] 40)) := (Below.refl _ w).alloc (Nat.le_refl _) _
  have h0 := h.below hb0
  unfold Ref at hrf
  go_enter Try.func17, Try.ntmps17
  go_wp2_with (first
    | (go_at_call 33; (with_reducible refine (hrf _ h0).mono ?_); rintro e w1 ⟨rfl, hb1⟩; have h1 := h0.below hb1; have hm1 := hm0.below hb1 hm0.lt; have hbb := hb0.trans (hb1.mono hb0.size))
    | ((refine wpList_store_row rfl 40 (.tmp 10) (.tmp 17) rfl w1.heap.size #[Value.int .i64 s, .int .i64 k, .int .i64 c, .slice none 0 0, .int .i64 0] rfl rfl 40 #[Value.int .i64 0, .int .i64 0, .int .i64 0, .slice none 0 0, .int .i64 0] (Mem.new w1 _ _) (by kernel_rfl) (by kernel_rfl) (by kernel_rfl) ?_); obtain ⟨w2, e2, h2, hm2, hr2, hb2⟩ := row_new h1 hbb hm1 #[Value.int .i64 s, .int .i64 k, .int .i64 c, .slice none 0 0, .int .i64 0]; rw [← e2]; clear e2)
    | (refine wpList_load_row rfl 40 (.tmp 10) rfl w1.heap.size rfl 40 #[Value.int .i64 s, .int .i64 k, .int .i64 c, .slice none 0 0, .int .i64 0] (0, 0) _ hr2 Try.underlying40 rfl (by kernel_rfl) ?_)
    | (refine wpList_store_row rfl 40 (.tmp 8) (.tmp 20) rfl w.heap.size #[Value.int .i64 s, .int .i64 k, .int .i64 c, .slice none 0 0, .int .i64 0] rfl rfl 40 #[Value.int .i64 0, .int .i64 0, .int .i64 0, .slice none 0 0, .int .i64 0] hm2 (by kernel_rfl) (by kernel_rfl) (by kernel_rfl) ?_))
  have hb : Below w.heap.size w (w2.setRow w.heap.size #[Value.int .i64 s, .int .i64 k, .int .i64 c, .slice none 0 0, .int .i64 0]) := below_setRow hb2 (Nat.le_refl _) _
  obtain ⟨g1, g2⟩ := keeps_row (Keeps.of hb2) hne h2 #[Value.int .i64 s, .int .i64 k, .int .i64 c, .slice none 0 0, .int .i64 0]
  exact bodyPost_ret (fin2 (p := 8) (a := 9) rfl _ _ w.heap.size s k c rfl (hm2.row _)) rfl ⟨_, rfl, World.ownsRow_nil _ _ _ _, g1, g2⟩
set_option maxRecDepth 100000 in
theorem Clear_ref (h : TabM w Y t) (host : Int) (key : Nat) (s k c : Int) (hrf : Ref Y t host key s k c true) : Calls Try.prog 15 #[.pointer (some ⟨Y, 0, none⟩), .int .i64 host, .int .u64 (key : Nat)] w (Tells w Y t s k c []) := by
  have hlt := h.mem.lt
  have hne : Y ≠ w.heap.size := by omega
  have hm0 := Mem.new w 40 #[Value.int .i64 0, .int .i64 0, .int .i64 0, .slice none 0 0, .int .i64 0]
  have hb0 : Below w.heap.size w (w.alloc (.cells #[Value.int .i64 0, .int .i64 0, .int .i64 0, .slice none 0 0, .int .i64 0] 40)) := (Below.refl _ w).alloc (Nat.le_refl _) _
  have h0 := h.below hb0
  unfold Ref at hrf
  go_enter Try.func15, Try.ntmps15
  go_wp2_with (first
    | (go_at_call 33; (with_reducible refine (hrf _ h0).mono ?_); rintro e w1 ⟨rfl, hb1⟩; have h1 := h0.below hb1; have hm1 := hm0.below hb1 hm0.lt; have hbb := hb0.trans (hb1.mono hb0.size))
    | ((refine wpList_store_row rfl 40 (.tmp 8) (.tmp 16) rfl w1.heap.size #[Value.int .i64 s, .int .i64 k, .int .i64 c, .slice none 0 0, .int .i64 0] rfl rfl 40 #[Value.int .i64 0, .int .i64 0, .int .i64 0, .slice none 0 0, .int .i64 0] (Mem.new w1 _ _) (by kernel_rfl) (by kernel_rfl) (by kernel_rfl) ?_); obtain ⟨w2, e2, h2, hm2, hr2, hb2⟩ := row_new h1 hbb hm1 #[Value.int .i64 s, .int .i64 k, .int .i64 c, .slice none 0 0, .int .i64 0]; rw [← e2]; clear e2)
    | (refine wpList_load_row rfl 40 (.tmp 8) rfl w1.heap.size rfl 40 #[Value.int .i64 s, .int .i64 k, .int .i64 c, .slice none 0 0, .int .i64 0] (0, 0) _ hr2 Try.underlying40 rfl (by kernel_rfl) ?_)
    | (refine wpList_store_row rfl 40 (.tmp 6) (.tmp 19) rfl w.heap.size #[Value.int .i64 s, .int .i64 k, .int .i64 c, .slice none 0 0, .int .i64 0] rfl rfl 40 #[Value.int .i64 0, .int .i64 0, .int .i64 0, .slice none 0 0, .int .i64 0] hm2 (by kernel_rfl) (by kernel_rfl) (by kernel_rfl) ?_))
  have hb : Below w.heap.size w (w2.setRow w.heap.size #[Value.int .i64 s, .int .i64 k, .int .i64 c, .slice none 0 0, .int .i64 0]) := below_setRow hb2 (Nat.le_refl _) _
  obtain ⟨g1, g2⟩ := keeps_row (Keeps.of hb2) hne h2 #[Value.int .i64 s, .int .i64 k, .int .i64 c, .slice none 0 0, .int .i64 0]
  exact bodyPost_ret (fin2 (p := 6) (a := 7) rfl _ _ w.heap.size s k c rfl (hm2.row _)) rfl ⟨_, rfl, World.ownsRow_nil _ _ _ _, g1, g2⟩
set_option maxRecDepth 100000 in
theorem Preempt_ref (h : TabM w Y t) (host : Int) (key : Nat) (other : Nat) (y : Int) (s k c : Int) (hrf : Ref Y t host key s k c true) : Calls Try.prog 18 #[.pointer (some ⟨Y, 0, none⟩), .int .i64 host, .int .u64 (key : Nat), .int .u64 (other : Nat), .int .i64 y] w (Tells w Y t s k c []) := by
  have hlt := h.mem.lt
  have hne : Y ≠ w.heap.size := by omega
  have hm0 := Mem.new w 40 #[Value.int .i64 0, .int .i64 0, .int .i64 0, .slice none 0 0, .int .i64 0]
  have hb0 : Below w.heap.size w (w.alloc (.cells #[Value.int .i64 0, .int .i64 0, .int .i64 0, .slice none 0 0, .int .i64 0] 40)) := (Below.refl _ w).alloc (Nat.le_refl _) _
  have h0 := h.below hb0
  unfold Ref at hrf
  go_enter Try.func18, Try.ntmps18
  go_wp2_with (first
    | (go_at_call 33; (with_reducible refine (hrf _ h0).mono ?_); rintro e w1 ⟨rfl, hb1⟩; have h1 := h0.below hb1; have hm1 := hm0.below hb1 hm0.lt; have hbb := hb0.trans (hb1.mono hb0.size))
    | ((refine wpList_store_row rfl 40 (.tmp 12) (.tmp 22) rfl w1.heap.size #[Value.int .i64 s, .int .i64 k, .int .i64 c, .slice none 0 0, .int .i64 0] rfl rfl 40 #[Value.int .i64 0, .int .i64 0, .int .i64 0, .slice none 0 0, .int .i64 0] (Mem.new w1 _ _) (by kernel_rfl) (by kernel_rfl) (by kernel_rfl) ?_); obtain ⟨w2, e2, h2, hm2, hr2, hb2⟩ := row_new h1 hbb hm1 #[Value.int .i64 s, .int .i64 k, .int .i64 c, .slice none 0 0, .int .i64 0]; rw [← e2]; clear e2)
    | (refine wpList_load_row rfl 40 (.tmp 12) rfl w1.heap.size rfl 40 #[Value.int .i64 s, .int .i64 k, .int .i64 c, .slice none 0 0, .int .i64 0] (0, 0) _ hr2 Try.underlying40 rfl (by kernel_rfl) ?_)
    | (refine wpList_store_row rfl 40 (.tmp 10) (.tmp 25) rfl w.heap.size #[Value.int .i64 s, .int .i64 k, .int .i64 c, .slice none 0 0, .int .i64 0] rfl rfl 40 #[Value.int .i64 0, .int .i64 0, .int .i64 0, .slice none 0 0, .int .i64 0] hm2 (by kernel_rfl) (by kernel_rfl) (by kernel_rfl) ?_))
  have hb : Below w.heap.size w (w2.setRow w.heap.size #[Value.int .i64 s, .int .i64 k, .int .i64 c, .slice none 0 0, .int .i64 0]) := below_setRow hb2 (Nat.le_refl _) _
  obtain ⟨g1, g2⟩ := keeps_row (Keeps.of hb2) hne h2 #[Value.int .i64 s, .int .i64 k, .int .i64 c, .slice none 0 0, .int .i64 0]
  exact bodyPost_ret (fin2 (p := 10) (a := 11) rfl _ _ w.heap.size s k c rfl (hm2.row _)) rfl ⟨_, rfl, World.ownsRow_nil _ _ _ _, g1, g2⟩
set_option maxRecDepth 100000 in
set_option maxHeartbeats 1000000 in
theorem Reserve_type (h : TabM w Y t) (i : Nat) (hi : i < 8) (key : Nat) (y : Int) (hy : ¬ (y = 1 ∨ y = 3 ∨ y = 5 ∨ y = 6)) (hrf : Ref Y t (i : Nat) key 0 0 0 false) : Calls Try.prog 14 #[.pointer (some ⟨Y, 0, none⟩), .int .i64 (i : Nat), .int .u64 (key : Nat), .int .i64 y] w (Tell1 w Y t 2 5 9216) := by
  have hlt := h.mem.lt
  have hne : Y ≠ w.heap.size := by omega
  have hm0 := Mem.new w 40 #[Value.int .i64 0, .int .i64 0, .int .i64 0, .slice none 0 0, .int .i64 0]
  have hb0 : Below w.heap.size w (w.alloc (.cells #[Value.int .i64 0, .int .i64 0, .int .i64 0, .slice none 0 0, .int .i64 0] 40)) := (Below.refl _ w).alloc (Nat.le_refl _) _
  have h0 := h.below hb0
  unfold Ref at hrf
  have hit := fun W => isType_any y W
  rw [decide_eq_false hy] at hit
  clear hy
  go_enter Try.func14, Try.ntmps14
  go_wp2_with (first
    | (go_at_call 33; (with_reducible refine (hrf _ h0).mono ?_); rintro e w1 ⟨rfl, hb1⟩; have h1 := h0.below hb1; have hm1 := hm0.below hb1 hm0.lt; have hbb := hb0.trans (hb1.mono hb0.size))
    | ((refine wpList_store_row rfl 40 (.tmp 9) (.tmp 16) rfl w1.heap.size #[Value.int .i64 0, .int .i64 0, .int .i64 0, .slice none 0 0, .int .i64 0] rfl rfl 40 #[Value.int .i64 0, .int .i64 0, .int .i64 0, .slice none 0 0, .int .i64 0] (Mem.new w1 _ _) (by kernel_rfl) (by kernel_rfl) (by kernel_rfl) ?_); obtain ⟨w2, e2, h2, hm2, hr2, hb2⟩ := row_new h1 hbb hm1 #[Value.int .i64 0, .int .i64 0, .int .i64 0, .slice none 0 0, .int .i64 0]; rw [← e2]; clear e2)
    | (go_at_call 34; (with_reducible refine (hit _).mono ?_); rintro e w9 ⟨rfl, rfl⟩)
    | (go_at_call 29; (with_reducible refine (wrong_l _ _).mono ?_); rintro e w3 ⟨rfl, hb3⟩; have h5 := h2.below hb3; have hm5 := hm2.below hb3 hm2.lt; have k5 := (Keeps.of (g := Y) hb2).trans (Keeps.of hb3))
    | (refine wpList_store_row rfl 40 (.tmp 8) (.tmp 23) rfl w.heap.size #[Value.int .i64 2, .int .i64 5, .int .i64 9216, .slice none 0 0, .int .i64 0] rfl rfl 40 #[Value.int .i64 0, .int .i64 0, .int .i64 0, .slice none 0 0, .int .i64 0] hm5 (by kernel_rfl) (by kernel_rfl) (by kernel_rfl) ?_))
  obtain ⟨g1, g2⟩ := keeps_row k5 hne h5 #[Value.int .i64 2, .int .i64 5, .int .i64 9216, .slice none 0 0, .int .i64 0]
  exact bodyPost_ret (fin1 (p := 8) rfl _ _ w.heap.size 2 5 9216 rfl (hm5.row _)) rfl ⟨rfl, g1, g2⟩
set_option maxRecDepth 100000 in
set_option maxHeartbeats 1000000 in
theorem Release_type (h : TabM w Y t) (i : Nat) (hi : i < 8) (key : Nat) (y : Int) (hy : ¬ (y = 1 ∨ y = 3 ∨ y = 5 ∨ y = 6)) (hrf : Ref Y t (i : Nat) key 0 0 0 false) : Calls Try.prog 17 #[.pointer (some ⟨Y, 0, none⟩), .int .i64 (i : Nat), .int .u64 (key : Nat), .int .i64 y] w (Tells w Y t 2 5 9216 []) := by
  have hlt := h.mem.lt
  have hne : Y ≠ w.heap.size := by omega
  have hm0 := Mem.new w 40 #[Value.int .i64 0, .int .i64 0, .int .i64 0, .slice none 0 0, .int .i64 0]
  have hb0 : Below w.heap.size w (w.alloc (.cells #[Value.int .i64 0, .int .i64 0, .int .i64 0, .slice none 0 0, .int .i64 0] 40)) := (Below.refl _ w).alloc (Nat.le_refl _) _
  have h0 := h.below hb0
  unfold Ref at hrf
  have hit := fun W => isType_any y W
  rw [decide_eq_false hy] at hit
  clear hy
  go_enter Try.func17, Try.ntmps17
  go_wp2_with (first
    | (go_at_call 33; (with_reducible refine (hrf _ h0).mono ?_); rintro e w1 ⟨rfl, hb1⟩; have h1 := h0.below hb1; have hm1 := hm0.below hb1 hm0.lt; have hbb := hb0.trans (hb1.mono hb0.size))
    | ((refine wpList_store_row rfl 40 (.tmp 10) (.tmp 17) rfl w1.heap.size #[Value.int .i64 0, .int .i64 0, .int .i64 0, .slice none 0 0, .int .i64 0] rfl rfl 40 #[Value.int .i64 0, .int .i64 0, .int .i64 0, .slice none 0 0, .int .i64 0] (Mem.new w1 _ _) (by kernel_rfl) (by kernel_rfl) (by kernel_rfl) ?_); obtain ⟨w2, e2, h2, hm2, hr2, hb2⟩ := row_new h1 hbb hm1 #[Value.int .i64 0, .int .i64 0, .int .i64 0, .slice none 0 0, .int .i64 0]; rw [← e2]; clear e2)
    | (go_at_call 34; (with_reducible refine (hit _).mono ?_); rintro e w9 ⟨rfl, rfl⟩)
    | (go_at_call 29; (with_reducible refine (wrong_l _ _).mono ?_); rintro e w3 ⟨rfl, hb3⟩; have h5 := h2.below hb3; have hm5 := hm2.below hb3 hm2.lt; have k5 := (Keeps.of (g := Y) hb2).trans (Keeps.of hb3))
    | (refine wpList_store_row rfl 40 (.tmp 8) (.tmp 24) rfl w.heap.size #[Value.int .i64 2, .int .i64 5, .int .i64 9216, .slice none 0 0, .int .i64 0] rfl rfl 40 #[Value.int .i64 0, .int .i64 0, .int .i64 0, .slice none 0 0, .int .i64 0] hm5 (by kernel_rfl) (by kernel_rfl) (by kernel_rfl) ?_))
  obtain ⟨g1, g2⟩ := keeps_row k5 hne h5 #[Value.int .i64 2, .int .i64 5, .int .i64 9216, .slice none 0 0, .int .i64 0]
  exact bodyPost_ret (fin2 (p := 8) (a := 9) rfl _ _ w.heap.size 2 5 9216 rfl (hm5.row _)) rfl ⟨_, rfl, World.ownsRow_nil _ _ _ _, g1, g2⟩
set_option maxRecDepth 100000 in
set_option maxHeartbeats 1000000 in
theorem Reserve_take (h : TabM w Y t) (i : Nat) (hi : i < 8) (key : Nat) (y : Nat) (hy : (y : Int) = 1 ∨ (y : Int) = 3 ∨ (y : Int) = 5 ∨ (y : Int) = 6) (hn : t.holder = -1) (hrf : Ref Y t (i : Nat) key 0 0 0 false) : Calls Try.prog 14 #[.pointer (some ⟨Y, 0, none⟩), .int .i64 (i : Nat), .int .u64 (key : Nat), .int .i64 (y : Nat)] w (Tell1 w Y (t.hold i y) 0 0 0) := by
  have hlt := h.mem.lt
  have hne : Y ≠ w.heap.size := by omega
  have hm0 := Mem.new w 40 #[Value.int .i64 0, .int .i64 0, .int .i64 0, .slice none 0 0, .int .i64 0]
  have hb0 : Below w.heap.size w (w.alloc (.cells #[Value.int .i64 0, .int .i64 0, .int .i64 0, .slice none 0 0, .int .i64 0] 40)) := (Below.refl _ w).alloc (Nat.le_refl _) _
  have h0 := h.below hb0
  unfold Ref at hrf
  have hit := fun W => isType_any (y : Nat) W
  rw [decide_eq_true hy] at hit
  clear hy
  go_enter Try.func14, Try.ntmps14
  go_wp2_with (first
    | (go_at_call 33; (with_reducible refine (hrf _ h0).mono ?_); rintro e w1 ⟨rfl, hb1⟩; have h1 := h0.below hb1; have hm1 := hm0.below hb1 hm0.lt; have hbb := hb0.trans (hb1.mono hb0.size))
    | ((refine wpList_store_row rfl 40 (.tmp 9) (.tmp 16) rfl w1.heap.size #[Value.int .i64 0, .int .i64 0, .int .i64 0, .slice none 0 0, .int .i64 0] rfl rfl 40 #[Value.int .i64 0, .int .i64 0, .int .i64 0, .slice none 0 0, .int .i64 0] (Mem.new w1 _ _) (by kernel_rfl) (by kernel_rfl) (by kernel_rfl) ?_); obtain ⟨w2, e2, h2, hm2, hr2, hb2⟩ := row_new h1 hbb hm1 #[Value.int .i64 0, .int .i64 0, .int .i64 0, .slice none 0 0, .int .i64 0]; rw [← e2]; clear e2; have x8 := h2.c8; rw [hn] at x8; have q8 := h2.mem.free 8; have h3 := h2.setHolder (i : Nat); have x9 : (w2.setCell ⟨Y, 8, none⟩ (.int .i64 (i : Nat))).cell? ⟨Y, 9, none⟩ = some (.int .i64 (t.typ : Nat)) := h3.c9; have q9 := h3.mem.free 9; have h4 : TabM ((w2.setCell ⟨Y, 8, none⟩ (.int .i64 (i : Nat))).setCell ⟨Y, 9, none⟩ (.int .i64 (y : Nat))) Y (t.hold i y) := h3.setTyp y; have x8b : ((w2.setCell ⟨Y, 8, none⟩ (.int .i64 (i : Nat))).setCell ⟨Y, 9, none⟩ (.int .i64 (y : Nat))).cell? ⟨Y, 8, none⟩ = some (.int .i64 (i : Nat)) := h4.c8; have x9b : ((w2.setCell ⟨Y, 8, none⟩ (.int .i64 (i : Nat))).setCell ⟨Y, 9, none⟩ (.int .i64 (y : Nat))).cell? ⟨Y, 9, none⟩ = some (.int .i64 (y : Nat)) := h4.c9; have k4 : Keeps Y w ((w2.setCell ⟨Y, 8, none⟩ (.int .i64 (i : Nat))).setCell ⟨Y, 9, none⟩ (.int .i64 (y : Nat))) := ((Keeps.of hb2).setCell (p := ⟨Y, 8, none⟩) _).setCell (p := ⟨Y, 9, none⟩) _; have hm4 := (hm2.far (p := ⟨Y, 8, none⟩) (fun e => hne e.symm) (.int .i64 (i : Nat))).far (p := ⟨Y, 9, none⟩) (fun e => hne e.symm) (.int .i64 (y : Nat)))
    | (go_at_call 34; (with_reducible refine (hit _).mono ?_); rintro e w9 ⟨rfl, rfl⟩)
    | (go_at_call 31; (with_reducible refine (good_l _).mono ?_); rintro e w3 ⟨rfl, hb3⟩; have h5 := h4.below hb3; have hm5 := hm4.below hb3 hm4.lt; have k5 := k4.trans (Keeps.of hb3))
    | (refine wpList_store_row rfl 40 (.tmp 8) (.tmp 52) rfl w.heap.size #[Value.int .i64 0, .int .i64 0, .int .i64 0, .slice none 0 0, .int .i64 0] rfl rfl 40 #[Value.int .i64 0, .int .i64 0, .int .i64 0, .slice none 0 0, .int .i64 0] hm5 (by kernel_rfl) (by kernel_rfl) (by kernel_rfl) ?_))
  obtain ⟨g1, g2⟩ := keeps_row k5 hne h5 #[Value.int .i64 0, .int .i64 0, .int .i64 0, .slice none 0 0, .int .i64 0]
  exact bodyPost_ret (fin1 (p := 8) rfl _ _ w.heap.size 0 0 0 rfl (hm5.row _)) rfl ⟨rfl, g1, g2⟩
set_option maxRecDepth 100000 in
set_option maxHeartbeats 1000000 in
theorem Reserve_other (h : TabM w Y t) (i : Nat) (hi : i < 8) (key : Nat) (y : Nat) (hy : (y : Int) = 1 ∨ (y : Int) = 3 ∨ (y : Int) = 5 ∨ (y : Int) = 6) (hn : t.holder ≠ -1) (hc : t.holder ≠ (i : Nat)) (hrf : Ref Y t (i : Nat) key 0 0 0 false) : Calls Try.prog 14 #[.pointer (some ⟨Y, 0, none⟩), .int .i64 (i : Nat), .int .u64 (key : Nat), .int .i64 (y : Nat)] w (Tell1 w Y t 24 0 0) := by
  have hlt := h.mem.lt
  have hne : Y ≠ w.heap.size := by omega
  have hm0 := Mem.new w 40 #[Value.int .i64 0, .int .i64 0, .int .i64 0, .slice none 0 0, .int .i64 0]
  have hb0 : Below w.heap.size w (w.alloc (.cells #[Value.int .i64 0, .int .i64 0, .int .i64 0, .slice none 0 0, .int .i64 0] 40)) := (Below.refl _ w).alloc (Nat.le_refl _) _
  have h0 := h.below hb0
  unfold Ref at hrf
  have hit := fun W => isType_any (y : Nat) W
  rw [decide_eq_true hy] at hit
  have b1 : (t.holder == -1) = false := beq_eq_false_iff_ne.2 hn
  have b2 : (t.holder != (i : Int)) = true := bne_iff_ne.2 hc
  have b3 : ¬ t.holder = (i : Int) := hc
  have b4 : ¬ t.holder = -1 := hn
  clear hy
  go_enter Try.func14, Try.ntmps14
  go_wp2_with (first
    | (go_at_call 33; (with_reducible refine (hrf _ h0).mono ?_); rintro e w1 ⟨rfl, hb1⟩; have h1 := h0.below hb1; have hm1 := hm0.below hb1 hm0.lt; have hbb := hb0.trans (hb1.mono hb0.size))
    | ((refine wpList_store_row rfl 40 (.tmp 9) (.tmp 16) rfl w1.heap.size #[Value.int .i64 0, .int .i64 0, .int .i64 0, .slice none 0 0, .int .i64 0] rfl rfl 40 #[Value.int .i64 0, .int .i64 0, .int .i64 0, .slice none 0 0, .int .i64 0] (Mem.new w1 _ _) (by kernel_rfl) (by kernel_rfl) (by kernel_rfl) ?_); obtain ⟨w2, e2, h2, hm2, hr2, hb2⟩ := row_new h1 hbb hm1 #[Value.int .i64 0, .int .i64 0, .int .i64 0, .slice none 0 0, .int .i64 0]; rw [← e2]; clear e2; have x8 := h2.c8; have x9 := h2.c9)
    | (go_at_call 34; (with_reducible refine (hit _).mono ?_); rintro e w9 ⟨rfl, rfl⟩)
    | (go_at_call 30; (with_reducible refine (conflict_l _).mono ?_); rintro e w3 ⟨rfl, hb3⟩; have h5 := h2.below hb3; have hm5 := hm2.below hb3 hm2.lt; have k5 := (Keeps.of (g := Y) hb2).trans (Keeps.of hb3))
    | (refine wpList_store_row rfl 40 (.tmp 8) (.tmp 51) rfl w.heap.size #[Value.int .i64 24, .int .i64 0, .int .i64 0, .slice none 0 0, .int .i64 0] rfl rfl 40 #[Value.int .i64 0, .int .i64 0, .int .i64 0, .slice none 0 0, .int .i64 0] hm5 (by kernel_rfl) (by kernel_rfl) (by kernel_rfl) ?_))
  obtain ⟨g1, g2⟩ := keeps_row k5 hne h5 #[Value.int .i64 24, .int .i64 0, .int .i64 0, .slice none 0 0, .int .i64 0]
  exact bodyPost_ret (fin1 (p := 8) rfl _ _ w.heap.size 24 0 0 rfl (hm5.row _)) rfl ⟨rfl, g1, g2⟩
set_option maxRecDepth 100000 in
set_option maxHeartbeats 1000000 in
theorem Reserve_typ (h : TabM w Y t) (i : Nat) (hi : i < 8) (key : Nat) (y : Nat) (hy : (y : Int) = 1 ∨ (y : Int) = 3 ∨ (y : Int) = 5 ∨ (y : Int) = 6) (hc : t.holder = (i : Nat)) (hc2 : t.typ ≠ y) (hrf : Ref Y t (i : Nat) key 0 0 0 false) : Calls Try.prog 14 #[.pointer (some ⟨Y, 0, none⟩), .int .i64 (i : Nat), .int .u64 (key : Nat), .int .i64 (y : Nat)] w (Tell1 w Y t 24 0 0) := by
  have hlt := h.mem.lt
  have hne : Y ≠ w.heap.size := by omega
  have hm0 := Mem.new w 40 #[Value.int .i64 0, .int .i64 0, .int .i64 0, .slice none 0 0, .int .i64 0]
  have hb0 : Below w.heap.size w (w.alloc (.cells #[Value.int .i64 0, .int .i64 0, .int .i64 0, .slice none 0 0, .int .i64 0] 40)) := (Below.refl _ w).alloc (Nat.le_refl _) _
  have h0 := h.below hb0
  unfold Ref at hrf
  have hit := fun W => isType_any (y : Nat) W
  rw [decide_eq_true hy] at hit
  have b1 : ((i : Int) == -1) = false := beq_eq_false_iff_ne.2 (by omega)
  have b2 : ((t.typ : Int) != (y : Int)) = true := bne_iff_ne.2 (by omega)
  have b3 : ¬ (t.typ : Int) = (y : Int) := by omega
  have b4 : ¬ (i : Int) = -1 := by omega
  clear hy
  go_enter Try.func14, Try.ntmps14
  go_wp2_with (first
    | (go_at_call 33; (with_reducible refine (hrf _ h0).mono ?_); rintro e w1 ⟨rfl, hb1⟩; have h1 := h0.below hb1; have hm1 := hm0.below hb1 hm0.lt; have hbb := hb0.trans (hb1.mono hb0.size))
    | ((refine wpList_store_row rfl 40 (.tmp 9) (.tmp 16) rfl w1.heap.size #[Value.int .i64 0, .int .i64 0, .int .i64 0, .slice none 0 0, .int .i64 0] rfl rfl 40 #[Value.int .i64 0, .int .i64 0, .int .i64 0, .slice none 0 0, .int .i64 0] (Mem.new w1 _ _) (by kernel_rfl) (by kernel_rfl) (by kernel_rfl) ?_); obtain ⟨w2, e2, h2, hm2, hr2, hb2⟩ := row_new h1 hbb hm1 #[Value.int .i64 0, .int .i64 0, .int .i64 0, .slice none 0 0, .int .i64 0]; rw [← e2]; clear e2; have x8 := h2.c8; have x9 := h2.c9; rw [hc] at x8)
    | (go_at_call 34; (with_reducible refine (hit _).mono ?_); rintro e w9 ⟨rfl, rfl⟩)
    | (go_at_call 30; (with_reducible refine (conflict_l _).mono ?_); rintro e w3 ⟨rfl, hb3⟩; have h5 := h2.below hb3; have hm5 := hm2.below hb3 hm2.lt; have k5 := (Keeps.of (g := Y) hb2).trans (Keeps.of hb3))
    | (refine wpList_store_row rfl 40 (.tmp 8) (.tmp 51) rfl w.heap.size #[Value.int .i64 24, .int .i64 0, .int .i64 0, .slice none 0 0, .int .i64 0] rfl rfl 40 #[Value.int .i64 0, .int .i64 0, .int .i64 0, .slice none 0 0, .int .i64 0] hm5 (by kernel_rfl) (by kernel_rfl) (by kernel_rfl) ?_))
  obtain ⟨g1, g2⟩ := keeps_row k5 hne h5 #[Value.int .i64 24, .int .i64 0, .int .i64 0, .slice none 0 0, .int .i64 0]
  exact bodyPost_ret (fin1 (p := 8) rfl _ _ w.heap.size 24 0 0 rfl (hm5.row _)) rfl ⟨rfl, g1, g2⟩
set_option maxRecDepth 100000 in
set_option maxHeartbeats 1000000 in
theorem Reserve_again (h : TabM w Y t) (i : Nat) (hi : i < 8) (key : Nat) (y : Nat) (hy : (y : Int) = 1 ∨ (y : Int) = 3 ∨ (y : Int) = 5 ∨ (y : Int) = 6) (hc : t.holder = (i : Nat)) (hc2 : t.typ = y) (hrf : Ref Y t (i : Nat) key 0 0 0 false) : Calls Try.prog 14 #[.pointer (some ⟨Y, 0, none⟩), .int .i64 (i : Nat), .int .u64 (key : Nat), .int .i64 (y : Nat)] w (Tell1 w Y t 0 0 0) := by
  have hlt := h.mem.lt
  have hne : Y ≠ w.heap.size := by omega
  have hm0 := Mem.new w 40 #[Value.int .i64 0, .int .i64 0, .int .i64 0, .slice none 0 0, .int .i64 0]
  have hb0 : Below w.heap.size w (w.alloc (.cells #[Value.int .i64 0, .int .i64 0, .int .i64 0, .slice none 0 0, .int .i64 0] 40)) := (Below.refl _ w).alloc (Nat.le_refl _) _
  have h0 := h.below hb0
  unfold Ref at hrf
  have hit := fun W => isType_any (y : Nat) W
  rw [decide_eq_true hy] at hit
  have b1 : ((i : Int) == -1) = false := beq_eq_false_iff_ne.2 (by omega)
  have b4 : ¬ (i : Int) = -1 := by omega
  clear hy
  go_enter Try.func14, Try.ntmps14
  go_wp2_with (first
    | (go_at_call 33; (with_reducible refine (hrf _ h0).mono ?_); rintro e w1 ⟨rfl, hb1⟩; have h1 := h0.below hb1; have hm1 := hm0.below hb1 hm0.lt; have hbb := hb0.trans (hb1.mono hb0.size))
    | ((refine wpList_store_row rfl 40 (.tmp 9) (.tmp 16) rfl w1.heap.size #[Value.int .i64 0, .int .i64 0, .int .i64 0, .slice none 0 0, .int .i64 0] rfl rfl 40 #[Value.int .i64 0, .int .i64 0, .int .i64 0, .slice none 0 0, .int .i64 0] (Mem.new w1 _ _) (by kernel_rfl) (by kernel_rfl) (by kernel_rfl) ?_); obtain ⟨w2, e2, h2, hm2, hr2, hb2⟩ := row_new h1 hbb hm1 #[Value.int .i64 0, .int .i64 0, .int .i64 0, .slice none 0 0, .int .i64 0]; rw [← e2]; clear e2; have x8 := h2.c8; have x9 := h2.c9; rw [hc] at x8; rw [hc2] at x9)
    | (go_at_call 34; (with_reducible refine (hit _).mono ?_); rintro e w9 ⟨rfl, rfl⟩)
    | (go_at_call 31; (with_reducible refine (good_l _).mono ?_); rintro e w3 ⟨rfl, hb3⟩; have h5 := h2.below hb3; have hm5 := hm2.below hb3 hm2.lt; have k5 := (Keeps.of (g := Y) hb2).trans (Keeps.of hb3))
    | (refine wpList_store_row rfl 40 (.tmp 8) (.tmp 52) rfl w.heap.size #[Value.int .i64 0, .int .i64 0, .int .i64 0, .slice none 0 0, .int .i64 0] rfl rfl 40 #[Value.int .i64 0, .int .i64 0, .int .i64 0, .slice none 0 0, .int .i64 0] hm5 (by kernel_rfl) (by kernel_rfl) (by kernel_rfl) ?_))
  obtain ⟨g1, g2⟩ := keeps_row k5 hne h5 #[Value.int .i64 0, .int .i64 0, .int .i64 0, .slice none 0 0, .int .i64 0]
  exact bodyPost_ret (fin1 (p := 8) rfl _ _ w.heap.size 0 0 0 rfl (hm5.row _)) rfl ⟨rfl, g1, g2⟩
set_option maxRecDepth 100000 in
set_option maxHeartbeats 1000000 in
theorem Release_other (h : TabM w Y t) (i : Nat) (hi : i < 8) (key : Nat) (y : Nat) (hy : (y : Int) = 1 ∨ (y : Int) = 3 ∨ (y : Int) = 5 ∨ (y : Int) = 6) (hc : t.holder ≠ (i : Nat)) (hrf : Ref Y t (i : Nat) key 0 0 0 false) : Calls Try.prog 17 #[.pointer (some ⟨Y, 0, none⟩), .int .i64 (i : Nat), .int .u64 (key : Nat), .int .i64 (y : Nat)] w (Tells w Y t 0 0 0 []) := by
  have hlt := h.mem.lt
  have hne : Y ≠ w.heap.size := by omega
  have hm0 := Mem.new w 40 #[Value.int .i64 0, .int .i64 0, .int .i64 0, .slice none 0 0, .int .i64 0]
  have hb0 : Below w.heap.size w (w.alloc (.cells #[Value.int .i64 0, .int .i64 0, .int .i64 0, .slice none 0 0, .int .i64 0] 40)) := (Below.refl _ w).alloc (Nat.le_refl _) _
  have h0 := h.below hb0
  unfold Ref at hrf
  have hit := fun W => isType_any (y : Nat) W
  rw [decide_eq_true hy] at hit
  have b2 : (t.holder != (i : Int)) = true := bne_iff_ne.2 hc
  have b3 : ¬ t.holder = (i : Int) := hc
  clear hy
  go_enter Try.func17, Try.ntmps17
  go_wp2_with (first
    | (go_at_call 33; (with_reducible refine (hrf _ h0).mono ?_); rintro e w1 ⟨rfl, hb1⟩; have h1 := h0.below hb1; have hm1 := hm0.below hb1 hm0.lt; have hbb := hb0.trans (hb1.mono hb0.size))
    | ((refine wpList_store_row rfl 40 (.tmp 10) (.tmp 17) rfl w1.heap.size #[Value.int .i64 0, .int .i64 0, .int .i64 0, .slice none 0 0, .int .i64 0] rfl rfl 40 #[Value.int .i64 0, .int .i64 0, .int .i64 0, .slice none 0 0, .int .i64 0] (Mem.new w1 _ _) (by kernel_rfl) (by kernel_rfl) (by kernel_rfl) ?_); obtain ⟨w2, e2, h2, hm2, hr2, hb2⟩ := row_new h1 hbb hm1 #[Value.int .i64 0, .int .i64 0, .int .i64 0, .slice none 0 0, .int .i64 0]; rw [← e2]; clear e2; have x8 := h2.c8; have x9 := h2.c9)
    | (go_at_call 34; (with_reducible refine (hit _).mono ?_); rintro e w9 ⟨rfl, rfl⟩)
    | (go_at_call 31; (with_reducible refine (good_l _).mono ?_); rintro e w3 ⟨rfl, hb3⟩; have h5 := h2.below hb3; have hm5 := hm2.below hb3 hm2.lt; have k5 := (Keeps.of (g := Y) hb2).trans (Keeps.of hb3))
    | (refine wpList_store_row rfl 40 (.tmp 8) (.tmp 31) rfl w.heap.size #[Value.int .i64 0, .int .i64 0, .int .i64 0, .slice none 0 0, .int .i64 0] rfl rfl 40 #[Value.int .i64 0, .int .i64 0, .int .i64 0, .slice none 0 0, .int .i64 0] hm5 (by kernel_rfl) (by kernel_rfl) (by kernel_rfl) ?_))
  obtain ⟨g1, g2⟩ := keeps_row k5 hne h5 #[Value.int .i64 0, .int .i64 0, .int .i64 0, .slice none 0 0, .int .i64 0]
  exact bodyPost_ret (fin2 (p := 8) (a := 9) rfl _ _ w.heap.size 0 0 0 rfl (hm5.row _)) rfl ⟨_, rfl, World.ownsRow_nil _ _ _ _, g1, g2⟩
set_option maxRecDepth 100000 in
set_option maxHeartbeats 1000000 in
theorem Release_typ (h : TabM w Y t) (i : Nat) (hi : i < 8) (key : Nat) (y : Nat) (hy : (y : Int) = 1 ∨ (y : Int) = 3 ∨ (y : Int) = 5 ∨ (y : Int) = 6) (hc : t.holder = (i : Nat)) (hc2 : t.typ ≠ y) (hrf : Ref Y t (i : Nat) key 0 0 0 false) : Calls Try.prog 17 #[.pointer (some ⟨Y, 0, none⟩), .int .i64 (i : Nat), .int .u64 (key : Nat), .int .i64 (y : Nat)] w (Tells w Y t 2 5 9732 []) := by
  have hlt := h.mem.lt
  have hne : Y ≠ w.heap.size := by omega
  have hm0 := Mem.new w 40 #[Value.int .i64 0, .int .i64 0, .int .i64 0, .slice none 0 0, .int .i64 0]
  have hb0 : Below w.heap.size w (w.alloc (.cells #[Value.int .i64 0, .int .i64 0, .int .i64 0, .slice none 0 0, .int .i64 0] 40)) := (Below.refl _ w).alloc (Nat.le_refl _) _
  have h0 := h.below hb0
  unfold Ref at hrf
  have hit := fun W => isType_any (y : Nat) W
  rw [decide_eq_true hy] at hit
  have b2 : ((t.typ : Int) != (y : Int)) = true := bne_iff_ne.2 (by omega)
  have b3 : ¬ (t.typ : Int) = (y : Int) := by omega
  clear hy
  go_enter Try.func17, Try.ntmps17
  go_wp2_with (first
    | (go_at_call 33; (with_reducible refine (hrf _ h0).mono ?_); rintro e w1 ⟨rfl, hb1⟩; have h1 := h0.below hb1; have hm1 := hm0.below hb1 hm0.lt; have hbb := hb0.trans (hb1.mono hb0.size))
    | ((refine wpList_store_row rfl 40 (.tmp 10) (.tmp 17) rfl w1.heap.size #[Value.int .i64 0, .int .i64 0, .int .i64 0, .slice none 0 0, .int .i64 0] rfl rfl 40 #[Value.int .i64 0, .int .i64 0, .int .i64 0, .slice none 0 0, .int .i64 0] (Mem.new w1 _ _) (by kernel_rfl) (by kernel_rfl) (by kernel_rfl) ?_); obtain ⟨w2, e2, h2, hm2, hr2, hb2⟩ := row_new h1 hbb hm1 #[Value.int .i64 0, .int .i64 0, .int .i64 0, .slice none 0 0, .int .i64 0]; rw [← e2]; clear e2; have x8 := h2.c8; have x9 := h2.c9; rw [hc] at x8)
    | (go_at_call 34; (with_reducible refine (hit _).mono ?_); rintro e w9 ⟨rfl, rfl⟩)
    | (go_at_call 29; (with_reducible refine (wrong_l _ _).mono ?_); rintro e w3 ⟨rfl, hb3⟩; have h5 := h2.below hb3; have hm5 := hm2.below hb3 hm2.lt; have k5 := (Keeps.of (g := Y) hb2).trans (Keeps.of hb3))
    | (refine wpList_store_row rfl 40 (.tmp 8) (.tmp 38) rfl w.heap.size #[Value.int .i64 2, .int .i64 5, .int .i64 9732, .slice none 0 0, .int .i64 0] rfl rfl 40 #[Value.int .i64 0, .int .i64 0, .int .i64 0, .slice none 0 0, .int .i64 0] hm5 (by kernel_rfl) (by kernel_rfl) (by kernel_rfl) ?_))
  obtain ⟨g1, g2⟩ := keeps_row k5 hne h5 #[Value.int .i64 2, .int .i64 5, .int .i64 9732, .slice none 0 0, .int .i64 0]
  exact bodyPost_ret (fin2 (p := 8) (a := 9) rfl _ _ w.heap.size 2 5 9732 rfl (hm5.row _)) rfl ⟨_, rfl, World.ownsRow_nil _ _ _ _, g1, g2⟩
set_option maxRecDepth 100000 in
set_option maxHeartbeats 1000000 in
theorem Release_gone (h : TabM w Y t) (i : Nat) (hi : i < 8) (key : Nat) (y : Nat) (hy : (y : Int) = 1 ∨ (y : Int) = 3 ∨ (y : Int) = 5 ∨ (y : Int) = 6) (hc : t.holder = (i : Nat)) (hc2 : t.typ = y) (hrf : Ref Y t (i : Nat) key 0 0 0 false) : Calls Try.prog 17 #[.pointer (some ⟨Y, 0, none⟩), .int .i64 (i : Nat), .int .u64 (key : Nat), .int .i64 (y : Nat)] w (Tells w Y t.free 0 0 0 (t.told (i : Nat))) := by
  have hlt := h.mem.lt
  have hne : Y ≠ w.heap.size := by omega
  have hm0 := Mem.new w 40 #[Value.int .i64 0, .int .i64 0, .int .i64 0, .slice none 0 0, .int .i64 0]
  have hb0 : Below w.heap.size w (w.alloc (.cells #[Value.int .i64 0, .int .i64 0, .int .i64 0, .slice none 0 0, .int .i64 0] 40)) := (Below.refl _ w).alloc (Nat.le_refl _) _
  have h0 := h.below hb0
  unfold Ref at hrf
  have hit := fun W => isType_any (y : Nat) W
  rw [decide_eq_true hy] at hit
  have hgv : ∀ W, TabM W Y t → Calls Try.prog 32 #[.pointer (some ⟨Y, 0, none⟩), .int .i64 (i : Nat)] W fun e w' => ∃ v', e = .returned v' ∧ w'.ownsRow W.heap.size 50 2 v' (t.told (i : Nat)).length (nvs (t.told (i : Nat))) ∧ TabM w' Y t.free ∧ Keeps Y W w' := fun W hW => give_any hW (i : Nat)
  generalize t.told (i : Nat) = L at *
  generalize t.free = tf at *
  clear hy
  go_enter Try.func17, Try.ntmps17
  go_wp2_with (first
    | (go_at_call 33; (with_reducible refine (hrf _ h0).mono ?_); rintro e w1 ⟨rfl, hb1⟩; have h1 := h0.below hb1; have hm1 := hm0.below hb1 hm0.lt; have hbb := hb0.trans (hb1.mono hb0.size))
    | ((refine wpList_store_row rfl 40 (.tmp 10) (.tmp 17) rfl w1.heap.size #[Value.int .i64 0, .int .i64 0, .int .i64 0, .slice none 0 0, .int .i64 0] rfl rfl 40 #[Value.int .i64 0, .int .i64 0, .int .i64 0, .slice none 0 0, .int .i64 0] (Mem.new w1 _ _) (by kernel_rfl) (by kernel_rfl) (by kernel_rfl) ?_); obtain ⟨w2, e2, h2, hm2, hr2, hb2⟩ := row_new h1 hbb hm1 #[Value.int .i64 0, .int .i64 0, .int .i64 0, .slice none 0 0, .int .i64 0]; rw [← e2]; clear e2; have x8 := h2.c8; have x9 := h2.c9; rw [hc] at x8; rw [hc2] at x9)
    | (go_at_call 34; (with_reducible refine (hit _).mono ?_); rintro e w9 ⟨rfl, rfl⟩)
    | (go_at_call 31; (with_reducible refine (good_l _).mono ?_); rintro e w3 ⟨rfl, hb3⟩; have h5 := h2.below hb3; have hm5 := hm2.below hb3 hm2.lt; have k5 := (Keeps.of (g := Y) hb2).trans (Keeps.of hb3))
    | (go_at_call 32; (with_reducible refine (hgv _ h5).mono ?_); rintro e w4 ⟨v4, rfl, ho4, h6, k6⟩; have hm6 : Mem w4 w.heap.size 40 #[Value.int .i64 0, .int .i64 0, .int .i64 0, .slice none 0 0, .int .i64 0] := (k6.block _ hm5.lt (fun e => hne e.symm)).trans hm5; have k7 := k5.trans k6)
    | (refine wpList_store_row rfl 40 (.tmp 8) (.tmp 39) rfl w.heap.size #[Value.int .i64 0, .int .i64 0, .int .i64 0, .slice none 0 0, .int .i64 0] rfl rfl 40 #[Value.int .i64 0, .int .i64 0, .int .i64 0, .slice none 0 0, .int .i64 0] hm6 (by kernel_rfl) (by kernel_rfl) (by kernel_rfl) ?_))
  obtain ⟨g1, g2⟩ := keeps_row k7 hne h6 #[Value.int .i64 0, .int .i64 0, .int .i64 0, .slice none 0 0, .int .i64 0]
  refine bodyPost_ret (fin2 (p := 8) (a := 9) rfl _ _ w.heap.size 0 0 0 rfl (hm6.row _)) rfl ⟨_, rfl, ?_, g1, g2⟩
  have hz := hm5.lt
  refine owns_eff (owns_mono ho4 (by omega)) ⟨rfl, rfl, rfl, by simp [World.setRow], fun k hk hn => setRow_other w4 w.heap.size k _ (fun e => hn e.symm)⟩ (S := fun k => w.heap.size = k) fun k hk e => ?_
  have h1 := (own_tag ho4 k hk).1
  omega
end
end Rv
end Go.Proofs.Ytgnpepkpbdddhaa
