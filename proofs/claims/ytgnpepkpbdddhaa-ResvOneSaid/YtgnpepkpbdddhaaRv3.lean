/- Package resv: Register: contracts. -/
import Derived.Test.YtgnpepkpbdddhaaRv2
namespace Go.Proofs.Ytgnpepkpbdddhaa
open Go.ChangeShapes Go.WideShapes Go.ChangeAt Go.RowKit Go.Lib
set_option linter.unusedVariables false
set_option linter.unusedSimpArgs false
namespace Rv
theorem fin2 {fn : Func} {p a : Tmp} (h : fn.results = #[.cell p 40, .tmp a]) (tmps : Array Value) (W : World) (g : Nat) (s k c : Int) (hp : tmps.getD p undef = .pointer (some ⟨g, 0, none⟩)) (hm : Mem W g 40 #[Value.int .i64 s, .int .i64 k, .int .i64 c, .slice none 0 0, .int .i64 0]) : (results fn tmps).run Try.prog W = .ok (.tuple #[rep s k c, tmps.getD a undef]) W :=
  (results_cell2 h tmps W g 40 #[Value.int .i64 s, .int .i64 k, .int .i64 c, .slice none 0 0, .int .i64 0] (0, 0) _ hp hm Try.underlying40 rfl (by kernel_rfl)).trans rfl
theorem fin1 {fn : Func} {p : Tmp} (h : fn.results = #[.cell p 40]) (tmps : Array Value) (W : World) (g : Nat) (s k c : Int) (hp : tmps.getD p undef = .pointer (some ⟨g, 0, none⟩)) (hm : Mem W g 40 #[Value.int .i64 s, .int .i64 k, .int .i64 c, .slice none 0 0, .int .i64 0]) : (results fn tmps).run Try.prog W = .ok (rep s k c) W :=
  (results_cell1 h tmps W g 40 #[Value.int .i64 s, .int .i64 k, .int .i64 c, .slice none 0 0, .int .i64 0] (0, 0) _ hp hm Try.underlying40 rfl (by kernel_rfl)).trans rfl
theorem TabM.at_block {w w' : World} {Y : Nat} {t : RT} (h : TabM w Y t) (e : w'.heap[Y]? = w.heap[Y]?) : TabM w' Y t := ⟨e.trans h.mem, h.len⟩
theorem TabM.far {w : World} {Y : Nat} {t : RT} (h : TabM w Y t) (g : Nat) (hg : Y ≠ g) (cs : Array Value) : TabM (w.setRow g cs) Y t := ⟨h.mem.rowFar hg cs, h.len⟩
theorem good_l (W : World) : Calls Try.prog 31 #[] W fun e w' => e = .returned (.agg #[Value.int .i64 0, .int .i64 0, .int .i64 0, .slice none 0 0, .int .i64 0]) ∧ Below W.heap.size W w' := good_any W
theorem conflict_l (W : World) : Calls Try.prog 30 #[] W fun e w' => e = .returned (.agg #[Value.int .i64 24, .int .i64 0, .int .i64 0, .slice none 0 0, .int .i64 0]) ∧ Below W.heap.size W w' := conflict_any W
theorem wrong_l (c : Int) (W : World) : Calls Try.prog 29 #[.int .i64 c] W fun e w' => e = .returned (.agg #[Value.int .i64 2, .int .i64 5, .int .i64 c, .slice none 0 0, .int .i64 0]) ∧ Below W.heap.size W w' := wrong_any c W
section
variable {w w' : World} {Y : Nat} {t : RT}
/-- What a call that told L leaves. -/
def Tells (w : World) (Y : Nat) (t' : RT) (s k c : Int) (L : List (Nat × Int)) (e : Ending) (w' : World) : Prop := ∃ v', e = .returned (.tuple #[rep s k c, v']) ∧ w'.ownsRow w.heap.size 50 2 v' L.length (nvs L) ∧ TabM w' Y t' ∧ Keeps Y w w'

theorem reg_host (h : TabM w Y t) (host : Int) (key fresh : Nat) (ign : Bool) (hh : ¬ (0 ≤ host ∧ host < 8)) : Calls Try.prog 13 #[.pointer (some ⟨Y, 0, none⟩), .int .i64 host, .int .u64 (key : Nat), .int .u64 (fresh : Nat), .bool ign] w (Tells w Y t 2 5 9216 []) := by
  have hih := fun W => isHost_any host W
  rw [decide_eq_false hh] at hih
  have hm0 := Mem.new w 40 #[Value.int .i64 0, .int .i64 0, .int .i64 0, .slice none 0 0, .int .i64 0]
  have hb0 : Below w.heap.size w (w.alloc (.cells #[Value.int .i64 0, .int .i64 0, .int .i64 0, .slice none 0 0, .int .i64 0] 40)) := (Below.refl _ w).alloc (Nat.le_refl _) _
  have hlt := h.mem.lt
  clear hh
  go_enter Try.func13, Try.ntmps13
  go_wp2_with (first
    | (go_at_call 27; (with_reducible refine (hih _).mono ?_); rintro e w1 ⟨rfl, rfl⟩)
    | (go_at_call 29; (with_reducible refine (wrong_l _ _).mono ?_); rintro e w2 ⟨rfl, hb2⟩; have hm2 := hm0.below hb2 hm0.lt)
    | (refine wpList_store_row rfl 40 (.tmp 10) (.tmp 15) rfl w.heap.size #[Value.int .i64 2, .int .i64 5, .int .i64 9216, .slice none 0 0, .int .i64 0] rfl rfl 40 #[Value.int .i64 0, .int .i64 0, .int .i64 0, .slice none 0 0, .int .i64 0] hm2 (by kernel_rfl) (by kernel_rfl) (by kernel_rfl) ?_))
  have hb : Below w.heap.size w (w2.setRow w.heap.size #[Value.int .i64 2, .int .i64 5, .int .i64 9216, .slice none 0 0, .int .i64 0]) := below_setRow (hb0.trans (hb2.mono hb0.size)) (Nat.le_refl _) _
  exact bodyPost_ret (fin2 (p := 10) (a := 11) rfl _ _ w.heap.size 2 5 9216 rfl (hm2.row _)) rfl ⟨_, rfl, World.ownsRow_nil _ _ _ _, h.below hb, Keeps.of hb⟩
theorem reg_conf (h : TabM w Y t) (i : Nat) (hi : i < 8) (key fresh : Nat) (hk : t.at_ i ≠ key) : Calls Try.prog 13 #[.pointer (some ⟨Y, 0, none⟩), .int .i64 (i : Nat), .int .u64 (key : Nat), .int .u64 (fresh : Nat), .bool false] w (Tells w Y t 24 0 0 []) := by
  have hih := fun W => isHost_any (i : Int) W
  rw [decide_eq_true (show 0 ≤ (i : Int) ∧ (i : Int) < 8 by omega)] at hih
  have hm0 := Mem.new w 40 #[Value.int .i64 0, .int .i64 0, .int .i64 0, .slice none 0 0, .int .i64 0]
  have hb0 : Below w.heap.size w (w.alloc (.cells #[Value.int .i64 0, .int .i64 0, .int .i64 0, .slice none 0 0, .int .i64 0] 40)) := (Below.refl _ w).alloc (Nat.le_refl _) _
  have hlt := h.mem.lt
  have y0 := fun ob => (h.below ((Below.refl _ w).alloc (Nat.le_refl _) ob)).key i hi
  have hix : (i : Int) < 8 := by omega
  unfold RT.at_ at hk
  generalize t.keys[i]?.getD 0 = k0 at *
  have z1 : ¬ (key : Int) = (k0 : Int) := by omega
  have z2 : ((key : Int) != (k0 : Int)) = true := bne_iff_ne.2 z1
  clear hk
  go_enter Try.func13, Try.ntmps13
  go_wp2_with (first
    | (go_at_call 27; (with_reducible refine (hih _).mono ?_); rintro e w1 ⟨rfl, rfl⟩)
    | (go_at_call 30; (with_reducible refine (conflict_l _).mono ?_); rintro e w2 ⟨rfl, hb2⟩; have hm2 := hm0.below hb2 hm0.lt)
    | (refine wpList_store_row rfl 40 (.tmp 10) (.tmp 28) rfl w.heap.size #[Value.int .i64 24, .int .i64 0, .int .i64 0, .slice none 0 0, .int .i64 0] rfl rfl 40 #[Value.int .i64 0, .int .i64 0, .int .i64 0, .slice none 0 0, .int .i64 0] hm2 (by kernel_rfl) (by kernel_rfl) (by kernel_rfl) ?_))
  have hb : Below w.heap.size w (w2.setRow w.heap.size #[Value.int .i64 24, .int .i64 0, .int .i64 0, .slice none 0 0, .int .i64 0]) := below_setRow (hb0.trans (hb2.mono hb0.size)) (Nat.le_refl _) _
  exact bodyPost_ret (fin2 (p := 10) (a := 11) rfl _ _ w.heap.size 24 0 0 rfl (hm2.row _)) rfl ⟨_, rfl, World.ownsRow_nil _ _ _ _, h.below hb, Keeps.of hb⟩
/-- What a Register leaves before it lets go. -/
def RT.put (t : RT) (i fresh : Nat) : RT := { t with keys := t.keys.set i fresh, gen := t.gen + 1 }
set_option maxRecDepth 100000 in
theorem reg_newI (h : TabM w Y t) (hg : t.gen ≤ 999999) (i : Nat) (hi : i < 8) (key fresh : Nat) (f0 : fresh ≠ 0) : Calls Try.prog 13 #[.pointer (some ⟨Y, 0, none⟩), .int .i64 (i : Nat), .int .u64 (key : Nat), .int .u64 (fresh : Nat), .bool true] w (Tells w Y (t.put i fresh) 0 0 0 []) := by
  have hih := fun W => isHost_any (i : Int) W
  rw [decide_eq_true (show 0 ≤ (i : Int) ∧ (i : Int) < 8 by omega)] at hih
  have hlt := h.mem.lt
  have hne : Y ≠ w.heap.size := by omega
  have al : ∀ (W : World) (t' : RT), TabM W Y t' → ∀ ob, TabM (W.alloc ob) Y t' := fun W t' hW ob => hW.below ((Below.refl _ W).alloc (Nat.le_refl _) ob)
  have y0 := (al w t h (.cells #[Value.int .i64 0, .int .i64 0, .int .i64 0, .slice none 0 0, .int .i64 0] 40)).key i hi
  have q1 := (al w t h (.cells #[Value.int .i64 0, .int .i64 0, .int .i64 0, .slice none 0 0, .int .i64 0] 40)).mem.free i
  have h1 : TabM (w.setCell ⟨Y, i, none⟩ (.int .u64 (fresh : Nat))) Y { t with keys := t.keys.set i fresh } := h.setKey i fresh hi
  have x1 := (al _ _ h1 (.cells #[Value.int .i64 0, .int .i64 0, .int .i64 0, .slice none 0 0, .int .i64 0] 40)).c10
  have q2 := (al _ _ h1 (.cells #[Value.int .i64 0, .int .i64 0, .int .i64 0, .slice none 0 0, .int .i64 0] 40)).mem.free 10
  have hgx : (t.gen : Int) ≤ 999999 := by omega
  have h2 : TabM ((w.setCell ⟨Y, i, none⟩ (.int .u64 (fresh : Nat))).setCell ⟨Y, 10, none⟩ (.int .u32 ((t.gen : Int) + 1))) Y (t.put i fresh) := h1.setGen (t.gen + 1)
  have x2 : (((w.setCell ⟨Y, i, none⟩ (.int .u64 (fresh : Nat))).setCell ⟨Y, 10, none⟩ (.int .u32 ((t.gen : Int) + 1))).alloc (.cells #[Value.int .i64 0, .int .i64 0, .int .i64 0, .slice none 0 0, .int .i64 0] 40)).cell? ⟨Y, 8, none⟩ = some (.int .i64 t.holder) := (al _ _ h2 (.cells #[Value.int .i64 0, .int .i64 0, .int .i64 0, .slice none 0 0, .int .i64 0] 40)).c8
  have k2 : Keeps Y w ((w.setCell ⟨Y, i, none⟩ (.int .u64 (fresh : Nat))).setCell ⟨Y, 10, none⟩ (.int .u32 ((t.gen : Int) + 1))) := ((Keeps.refl Y w).setCell (p := ⟨Y, i, none⟩) _).setCell (p := ⟨Y, 10, none⟩) _
  have h2a := al _ _ h2 (.cells #[Value.int .i64 0, .int .i64 0, .int .i64 0, .slice none 0 0, .int .i64 0] 40)
  have hm1 : Mem (((w.setCell ⟨Y, i, none⟩ (.int .u64 (fresh : Nat))).setCell ⟨Y, 10, none⟩ (.int .u32 ((t.gen : Int) + 1))).alloc (.cells #[Value.int .i64 0, .int .i64 0, .int .i64 0, .slice none 0 0, .int .i64 0] 40)) w.heap.size 40 #[Value.int .i64 0, .int .i64 0, .int .i64 0, .slice none 0 0, .int .i64 0] := by have := Mem.new ((w.setCell ⟨Y, i, none⟩ (.int .u64 (fresh : Nat))).setCell ⟨Y, 10, none⟩ (.int .u32 ((t.gen : Int) + 1))) 40 #[Value.int .i64 0, .int .i64 0, .int .i64 0, .slice none 0 0, .int .i64 0]; simpa using this
  have k2a := k2.trans (Keeps.of ((Below.refl _ ((w.setCell ⟨Y, i, none⟩ (.int .u64 (fresh : Nat))).setCell ⟨Y, 10, none⟩ (.int .u32 ((t.gen : Int) + 1)))).alloc (Nat.le_refl _) (.cells #[Value.int .i64 0, .int .i64 0, .int .i64 0, .slice none 0 0, .int .i64 0] 40)))
  have hix : (i : Int) < 8 := by omega
  have hlt2 : w.heap.size < (((w.setCell ⟨Y, i, none⟩ (.int .u64 (fresh : Nat))).setCell ⟨Y, 10, none⟩ (.int .u32 ((t.gen : Int) + 1))).alloc (.cells #[Value.int .i64 0, .int .i64 0, .int .i64 0, .slice none 0 0, .int .i64 0] 40)).heap.size := hm1.lt
  clear h2 h1 k2 al h
  have fin : ∀ W, Keeps Y w W → ∀ t', TabM W Y t' → ∀ cs : Array Value, TabM (W.setRow w.heap.size cs) Y t' ∧ Keeps Y w (W.setRow w.heap.size cs) := by
    intro W k t' hh cs
    refine ⟨hh.far _ hne _, ?_⟩
    exact ⟨k.os, k.tape, k.output, by simpa [World.setRow] using k.size, fun j hj hn => (setRow_other W w.heap.size j _ (by omega)).trans (k.block j hj hn)⟩
  have f1 : ¬ (fresh : Int) = 0 := by omega
  have f2 : ((fresh : Int) == 0) = false := beq_eq_false_iff_ne.2 f1
  clear f0 hg
  go_enter Try.func13, Try.ntmps13
  go_wp2_with (first
    | (go_at_call 27; (with_reducible refine (hih _).mono ?_); rintro e w1 ⟨rfl, rfl⟩)
    | (go_at_call 31; (with_reducible refine (good_l _).mono ?_); rintro e w3 ⟨rfl, hb3⟩; have h3 := h2a.below hb3; have hm3 := hm1.below hb3 hm1.lt; have k3 := k2a.trans (Keeps.of hb3))
    | (refine wpList_store_row rfl 40 (.tmp 10) (.tmp 56) rfl w.heap.size #[Value.int .i64 0, .int .i64 0, .int .i64 0, .slice none 0 0, .int .i64 0] rfl rfl 40 #[Value.int .i64 0, .int .i64 0, .int .i64 0, .slice none 0 0, .int .i64 0] hm3 (by kernel_rfl) (by kernel_rfl) (by kernel_rfl) ?_))
  obtain ⟨g1, g2⟩ := fin w3 k3 _ h3 #[Value.int .i64 0, .int .i64 0, .int .i64 0, .slice none 0 0, .int .i64 0]
  exact bodyPost_ret (fin2 (p := 10) (a := 11) rfl _ _ w.heap.size 0 0 0 rfl (hm3.row _)) rfl ⟨_, rfl, World.ownsRow_nil _ _ _ _, g1, g2⟩
set_option maxRecDepth 100000 in
theorem reg_outI (h : TabM w Y t) (hg : t.gen ≤ 999999) (i : Nat) (hi : i < 8) (key : Nat) (f1 : ¬ t.holder = (i : Nat)) : Calls Try.prog 13 #[.pointer (some ⟨Y, 0, none⟩), .int .i64 (i : Nat), .int .u64 (key : Nat), .int .u64 0, .bool true] w (Tells w Y (t.put i 0) 0 0 0 []) := by
  have hih := fun W => isHost_any (i : Int) W
  rw [decide_eq_true (show 0 ≤ (i : Int) ∧ (i : Int) < 8 by omega)] at hih
  have hlt := h.mem.lt
  have hne : Y ≠ w.heap.size := by omega
  have al : ∀ (W : World) (t' : RT), TabM W Y t' → ∀ ob, TabM (W.alloc ob) Y t' := fun W t' hW ob => hW.below ((Below.refl _ W).alloc (Nat.le_refl _) ob)
  have y0 := (al w t h (.cells #[Value.int .i64 0, .int .i64 0, .int .i64 0, .slice none 0 0, .int .i64 0] 40)).key i hi
  have q1 := (al w t h (.cells #[Value.int .i64 0, .int .i64 0, .int .i64 0, .slice none 0 0, .int .i64 0] 40)).mem.free i
  have h1 : TabM (w.setCell ⟨Y, i, none⟩ (.int .u64 0)) Y { t with keys := t.keys.set i 0 } := h.setKey i 0 hi
  have x1 := (al _ _ h1 (.cells #[Value.int .i64 0, .int .i64 0, .int .i64 0, .slice none 0 0, .int .i64 0] 40)).c10
  have q2 := (al _ _ h1 (.cells #[Value.int .i64 0, .int .i64 0, .int .i64 0, .slice none 0 0, .int .i64 0] 40)).mem.free 10
  have hgx : (t.gen : Int) ≤ 999999 := by omega
  have h2 : TabM ((w.setCell ⟨Y, i, none⟩ (.int .u64 0)).setCell ⟨Y, 10, none⟩ (.int .u32 ((t.gen : Int) + 1))) Y (t.put i 0) := h1.setGen (t.gen + 1)
  have x2 : (((w.setCell ⟨Y, i, none⟩ (.int .u64 0)).setCell ⟨Y, 10, none⟩ (.int .u32 ((t.gen : Int) + 1))).alloc (.cells #[Value.int .i64 0, .int .i64 0, .int .i64 0, .slice none 0 0, .int .i64 0] 40)).cell? ⟨Y, 8, none⟩ = some (.int .i64 t.holder) := (al _ _ h2 (.cells #[Value.int .i64 0, .int .i64 0, .int .i64 0, .slice none 0 0, .int .i64 0] 40)).c8
  have k2 : Keeps Y w ((w.setCell ⟨Y, i, none⟩ (.int .u64 0)).setCell ⟨Y, 10, none⟩ (.int .u32 ((t.gen : Int) + 1))) := ((Keeps.refl Y w).setCell (p := ⟨Y, i, none⟩) _).setCell (p := ⟨Y, 10, none⟩) _
  have h2a := al _ _ h2 (.cells #[Value.int .i64 0, .int .i64 0, .int .i64 0, .slice none 0 0, .int .i64 0] 40)
  have hm1 : Mem (((w.setCell ⟨Y, i, none⟩ (.int .u64 0)).setCell ⟨Y, 10, none⟩ (.int .u32 ((t.gen : Int) + 1))).alloc (.cells #[Value.int .i64 0, .int .i64 0, .int .i64 0, .slice none 0 0, .int .i64 0] 40)) w.heap.size 40 #[Value.int .i64 0, .int .i64 0, .int .i64 0, .slice none 0 0, .int .i64 0] := by have := Mem.new ((w.setCell ⟨Y, i, none⟩ (.int .u64 0)).setCell ⟨Y, 10, none⟩ (.int .u32 ((t.gen : Int) + 1))) 40 #[Value.int .i64 0, .int .i64 0, .int .i64 0, .slice none 0 0, .int .i64 0]; simpa using this
  have k2a := k2.trans (Keeps.of ((Below.refl _ ((w.setCell ⟨Y, i, none⟩ (.int .u64 0)).setCell ⟨Y, 10, none⟩ (.int .u32 ((t.gen : Int) + 1)))).alloc (Nat.le_refl _) (.cells #[Value.int .i64 0, .int .i64 0, .int .i64 0, .slice none 0 0, .int .i64 0] 40)))
  have hix : (i : Int) < 8 := by omega
  have hlt2 : w.heap.size < (((w.setCell ⟨Y, i, none⟩ (.int .u64 0)).setCell ⟨Y, 10, none⟩ (.int .u32 ((t.gen : Int) + 1))).alloc (.cells #[Value.int .i64 0, .int .i64 0, .int .i64 0, .slice none 0 0, .int .i64 0] 40)).heap.size := hm1.lt
  clear h2 h1 k2 al h
  have fin : ∀ W, Keeps Y w W → ∀ t', TabM W Y t' → ∀ cs : Array Value, TabM (W.setRow w.heap.size cs) Y t' ∧ Keeps Y w (W.setRow w.heap.size cs) := by
    intro W k t' hh cs
    refine ⟨hh.far _ hne _, ?_⟩
    exact ⟨k.os, k.tape, k.output, by simpa [World.setRow] using k.size, fun j hj hn => (setRow_other W w.heap.size j _ (by omega)).trans (k.block j hj hn)⟩
  have f2 : (t.holder == (i : Int)) = false := beq_eq_false_iff_ne.2 f1
  clear hg
  go_enter Try.func13, Try.ntmps13
  go_wp2_with (first
    | (go_at_call 27; (with_reducible refine (hih _).mono ?_); rintro e w1 ⟨rfl, rfl⟩)
    | (go_at_call 31; (with_reducible refine (good_l _).mono ?_); rintro e w3 ⟨rfl, hb3⟩; have h3 := h2a.below hb3; have hm3 := hm1.below hb3 hm1.lt; have k3 := k2a.trans (Keeps.of hb3))
    | (refine wpList_store_row rfl 40 (.tmp 10) (.tmp 56) rfl w.heap.size #[Value.int .i64 0, .int .i64 0, .int .i64 0, .slice none 0 0, .int .i64 0] rfl rfl 40 #[Value.int .i64 0, .int .i64 0, .int .i64 0, .slice none 0 0, .int .i64 0] hm3 (by kernel_rfl) (by kernel_rfl) (by kernel_rfl) ?_))
  obtain ⟨g1, g2⟩ := fin w3 k3 _ h3 #[Value.int .i64 0, .int .i64 0, .int .i64 0, .slice none 0 0, .int .i64 0]
  exact bodyPost_ret (fin2 (p := 10) (a := 11) rfl _ _ w.heap.size 0 0 0 rfl (hm3.row _)) rfl ⟨_, rfl, World.ownsRow_nil _ _ _ _, g1, g2⟩
set_option maxRecDepth 100000 in
theorem reg_goneI (h : TabM w Y t) (hg : t.gen ≤ 999999) (i : Nat) (hi : i < 8) (key : Nat) (f1 : t.holder = (i : Nat)) : Calls Try.prog 13 #[.pointer (some ⟨Y, 0, none⟩), .int .i64 (i : Nat), .int .u64 (key : Nat), .int .u64 0, .bool true] w (Tells w Y (t.put i 0).free 0 0 0 ((t.put i 0).told (i : Nat))) := by
  have hih := fun W => isHost_any (i : Int) W
  rw [decide_eq_true (show 0 ≤ (i : Int) ∧ (i : Int) < 8 by omega)] at hih
  have hlt := h.mem.lt
  have hne : Y ≠ w.heap.size := by omega
  have al : ∀ (W : World) (t' : RT), TabM W Y t' → ∀ ob, TabM (W.alloc ob) Y t' := fun W t' hW ob => hW.below ((Below.refl _ W).alloc (Nat.le_refl _) ob)
  have y0 := (al w t h (.cells #[Value.int .i64 0, .int .i64 0, .int .i64 0, .slice none 0 0, .int .i64 0] 40)).key i hi
  have q1 := (al w t h (.cells #[Value.int .i64 0, .int .i64 0, .int .i64 0, .slice none 0 0, .int .i64 0] 40)).mem.free i
  have h1 : TabM (w.setCell ⟨Y, i, none⟩ (.int .u64 0)) Y { t with keys := t.keys.set i 0 } := h.setKey i 0 hi
  have x1 := (al _ _ h1 (.cells #[Value.int .i64 0, .int .i64 0, .int .i64 0, .slice none 0 0, .int .i64 0] 40)).c10
  have q2 := (al _ _ h1 (.cells #[Value.int .i64 0, .int .i64 0, .int .i64 0, .slice none 0 0, .int .i64 0] 40)).mem.free 10
  have hgx : (t.gen : Int) ≤ 999999 := by omega
  have h2 : TabM ((w.setCell ⟨Y, i, none⟩ (.int .u64 0)).setCell ⟨Y, 10, none⟩ (.int .u32 ((t.gen : Int) + 1))) Y (t.put i 0) := h1.setGen (t.gen + 1)
  have x2 : (((w.setCell ⟨Y, i, none⟩ (.int .u64 0)).setCell ⟨Y, 10, none⟩ (.int .u32 ((t.gen : Int) + 1))).alloc (.cells #[Value.int .i64 0, .int .i64 0, .int .i64 0, .slice none 0 0, .int .i64 0] 40)).cell? ⟨Y, 8, none⟩ = some (.int .i64 t.holder) := (al _ _ h2 (.cells #[Value.int .i64 0, .int .i64 0, .int .i64 0, .slice none 0 0, .int .i64 0] 40)).c8
  have k2 : Keeps Y w ((w.setCell ⟨Y, i, none⟩ (.int .u64 0)).setCell ⟨Y, 10, none⟩ (.int .u32 ((t.gen : Int) + 1))) := ((Keeps.refl Y w).setCell (p := ⟨Y, i, none⟩) _).setCell (p := ⟨Y, 10, none⟩) _
  have h2a := al _ _ h2 (.cells #[Value.int .i64 0, .int .i64 0, .int .i64 0, .slice none 0 0, .int .i64 0] 40)
  have hm1 : Mem (((w.setCell ⟨Y, i, none⟩ (.int .u64 0)).setCell ⟨Y, 10, none⟩ (.int .u32 ((t.gen : Int) + 1))).alloc (.cells #[Value.int .i64 0, .int .i64 0, .int .i64 0, .slice none 0 0, .int .i64 0] 40)) w.heap.size 40 #[Value.int .i64 0, .int .i64 0, .int .i64 0, .slice none 0 0, .int .i64 0] := by have := Mem.new ((w.setCell ⟨Y, i, none⟩ (.int .u64 0)).setCell ⟨Y, 10, none⟩ (.int .u32 ((t.gen : Int) + 1))) 40 #[Value.int .i64 0, .int .i64 0, .int .i64 0, .slice none 0 0, .int .i64 0]; simpa using this
  have k2a := k2.trans (Keeps.of ((Below.refl _ ((w.setCell ⟨Y, i, none⟩ (.int .u64 0)).setCell ⟨Y, 10, none⟩ (.int .u32 ((t.gen : Int) + 1)))).alloc (Nat.le_refl _) (.cells #[Value.int .i64 0, .int .i64 0, .int .i64 0, .slice none 0 0, .int .i64 0] 40)))
  have hix : (i : Int) < 8 := by omega
  have hlt2 : w.heap.size < (((w.setCell ⟨Y, i, none⟩ (.int .u64 0)).setCell ⟨Y, 10, none⟩ (.int .u32 ((t.gen : Int) + 1))).alloc (.cells #[Value.int .i64 0, .int .i64 0, .int .i64 0, .slice none 0 0, .int .i64 0] 40)).heap.size := hm1.lt
  clear h2 h1 k2 al h
  have fin : ∀ W, Keeps Y w W → ∀ t', TabM W Y t' → ∀ cs : Array Value, TabM (W.setRow w.heap.size cs) Y t' ∧ Keeps Y w (W.setRow w.heap.size cs) := by
    intro W k t' hh cs
    refine ⟨hh.far _ hne _, ?_⟩
    exact ⟨k.os, k.tape, k.output, by simpa [World.setRow] using k.size, fun j hj hn => (setRow_other W w.heap.size j _ (by omega)).trans (k.block j hj hn)⟩
  have hgv : ∀ W, TabM W Y (t.put i 0) → Calls Try.prog 32 #[.pointer (some ⟨Y, 0, none⟩), .int .i64 (i : Nat)] W fun e w' => ∃ v', e = .returned v' ∧ w'.ownsRow W.heap.size 50 2 v' ((t.put i 0).told (i : Nat)).length (nvs ((t.put i 0).told (i : Nat))) ∧ TabM w' Y (t.put i 0).free ∧ Keeps Y W w' := fun W hW => give_any hW (i : Nat)
  rw [f1] at x2
  generalize (t.put i 0).told (i : Nat) = L at *
  generalize (t.put i 0).free = tf at *
  clear hg f1
  go_enter Try.func13, Try.ntmps13
  go_wp2_with (first
    | (go_at_call 27; (with_reducible refine (hih _).mono ?_); rintro e w1 ⟨rfl, rfl⟩)
    | (go_at_call 31; (with_reducible refine (good_l _).mono ?_); rintro e w3 ⟨rfl, hb3⟩; have h3 := h2a.below hb3; have hm3 := hm1.below hb3 hm1.lt; have k3 := k2a.trans (Keeps.of hb3))
    | (go_at_call 32; (with_reducible refine (hgv _ h3).mono ?_); rintro e w4 ⟨v4, rfl, ho4, h4, k4⟩; have hm4 : Mem w4 w.heap.size 40 #[Value.int .i64 0, .int .i64 0, .int .i64 0, .slice none 0 0, .int .i64 0] := (k4.block _ hm3.lt (fun e => hne e.symm)).trans hm3; have k5 := k3.trans k4)
    | (refine wpList_store_row rfl 40 (.tmp 10) (.tmp 52) rfl w.heap.size #[Value.int .i64 0, .int .i64 0, .int .i64 0, .slice none 0 0, .int .i64 0] rfl rfl 40 #[Value.int .i64 0, .int .i64 0, .int .i64 0, .slice none 0 0, .int .i64 0] hm4 (by kernel_rfl) (by kernel_rfl) (by kernel_rfl) ?_))
  obtain ⟨g1, g2⟩ := fin w4 k5 _ h4 #[Value.int .i64 0, .int .i64 0, .int .i64 0, .slice none 0 0, .int .i64 0]
  refine bodyPost_ret (fin2 (p := 10) (a := 11) rfl _ _ w.heap.size 0 0 0 rfl (hm4.row _)) rfl ⟨_, rfl, ?_, g1, g2⟩
  refine owns_eff (owns_mono ho4 (by have := hb3.size; omega)) ⟨rfl, rfl, rfl, by simp [World.setRow], fun k hk hn => setRow_other w4 w.heap.size k _ (fun e => hn e.symm)⟩ (S := fun k => w.heap.size = k) fun k hk e => ?_
  have h1 := (own_tag ho4 k hk).1
  have h2 := hb3.size
  omega
set_option maxRecDepth 100000 in
theorem reg_new (h : TabM w Y t) (hg : t.gen ≤ 999999) (i : Nat) (hi : i < 8) (key fresh : Nat) (hk : t.at_ i = key) (f0 : fresh ≠ 0) : Calls Try.prog 13 #[.pointer (some ⟨Y, 0, none⟩), .int .i64 (i : Nat), .int .u64 (key : Nat), .int .u64 (fresh : Nat), .bool false] w (Tells w Y (t.put i fresh) 0 0 0 []) := by
  have hih := fun W => isHost_any (i : Int) W
  rw [decide_eq_true (show 0 ≤ (i : Int) ∧ (i : Int) < 8 by omega)] at hih
  have hlt := h.mem.lt
  have hne : Y ≠ w.heap.size := by omega
  have al : ∀ (W : World) (t' : RT), TabM W Y t' → ∀ ob, TabM (W.alloc ob) Y t' := fun W t' hW ob => hW.below ((Below.refl _ W).alloc (Nat.le_refl _) ob)
  have y0 := (al w t h (.cells #[Value.int .i64 0, .int .i64 0, .int .i64 0, .slice none 0 0, .int .i64 0] 40)).key i hi
  have q1 := (al w t h (.cells #[Value.int .i64 0, .int .i64 0, .int .i64 0, .slice none 0 0, .int .i64 0] 40)).mem.free i
  have h1 : TabM (w.setCell ⟨Y, i, none⟩ (.int .u64 (fresh : Nat))) Y { t with keys := t.keys.set i fresh } := h.setKey i fresh hi
  have x1 := (al _ _ h1 (.cells #[Value.int .i64 0, .int .i64 0, .int .i64 0, .slice none 0 0, .int .i64 0] 40)).c10
  have q2 := (al _ _ h1 (.cells #[Value.int .i64 0, .int .i64 0, .int .i64 0, .slice none 0 0, .int .i64 0] 40)).mem.free 10
  have hgx : (t.gen : Int) ≤ 999999 := by omega
  have h2 : TabM ((w.setCell ⟨Y, i, none⟩ (.int .u64 (fresh : Nat))).setCell ⟨Y, 10, none⟩ (.int .u32 ((t.gen : Int) + 1))) Y (t.put i fresh) := h1.setGen (t.gen + 1)
  have x2 : (((w.setCell ⟨Y, i, none⟩ (.int .u64 (fresh : Nat))).setCell ⟨Y, 10, none⟩ (.int .u32 ((t.gen : Int) + 1))).alloc (.cells #[Value.int .i64 0, .int .i64 0, .int .i64 0, .slice none 0 0, .int .i64 0] 40)).cell? ⟨Y, 8, none⟩ = some (.int .i64 t.holder) := (al _ _ h2 (.cells #[Value.int .i64 0, .int .i64 0, .int .i64 0, .slice none 0 0, .int .i64 0] 40)).c8
  have k2 : Keeps Y w ((w.setCell ⟨Y, i, none⟩ (.int .u64 (fresh : Nat))).setCell ⟨Y, 10, none⟩ (.int .u32 ((t.gen : Int) + 1))) := ((Keeps.refl Y w).setCell (p := ⟨Y, i, none⟩) _).setCell (p := ⟨Y, 10, none⟩) _
  have h2a := al _ _ h2 (.cells #[Value.int .i64 0, .int .i64 0, .int .i64 0, .slice none 0 0, .int .i64 0] 40)
  have hm1 : Mem (((w.setCell ⟨Y, i, none⟩ (.int .u64 (fresh : Nat))).setCell ⟨Y, 10, none⟩ (.int .u32 ((t.gen : Int) + 1))).alloc (.cells #[Value.int .i64 0, .int .i64 0, .int .i64 0, .slice none 0 0, .int .i64 0] 40)) w.heap.size 40 #[Value.int .i64 0, .int .i64 0, .int .i64 0, .slice none 0 0, .int .i64 0] := by have := Mem.new ((w.setCell ⟨Y, i, none⟩ (.int .u64 (fresh : Nat))).setCell ⟨Y, 10, none⟩ (.int .u32 ((t.gen : Int) + 1))) 40 #[Value.int .i64 0, .int .i64 0, .int .i64 0, .slice none 0 0, .int .i64 0]; simpa using this
  have k2a := k2.trans (Keeps.of ((Below.refl _ ((w.setCell ⟨Y, i, none⟩ (.int .u64 (fresh : Nat))).setCell ⟨Y, 10, none⟩ (.int .u32 ((t.gen : Int) + 1)))).alloc (Nat.le_refl _) (.cells #[Value.int .i64 0, .int .i64 0, .int .i64 0, .slice none 0 0, .int .i64 0] 40)))
  have hix : (i : Int) < 8 := by omega
  have hlt2 : w.heap.size < (((w.setCell ⟨Y, i, none⟩ (.int .u64 (fresh : Nat))).setCell ⟨Y, 10, none⟩ (.int .u32 ((t.gen : Int) + 1))).alloc (.cells #[Value.int .i64 0, .int .i64 0, .int .i64 0, .slice none 0 0, .int .i64 0] 40)).heap.size := hm1.lt
  clear h2 h1 k2 al h
  unfold RT.at_ at hk
  rw [hk] at y0
  clear hk
  have fin : ∀ W, Keeps Y w W → ∀ t', TabM W Y t' → ∀ cs : Array Value, TabM (W.setRow w.heap.size cs) Y t' ∧ Keeps Y w (W.setRow w.heap.size cs) := by
    intro W k t' hh cs
    refine ⟨hh.far _ hne _, ?_⟩
    exact ⟨k.os, k.tape, k.output, by simpa [World.setRow] using k.size, fun j hj hn => (setRow_other W w.heap.size j _ (by omega)).trans (k.block j hj hn)⟩
  have f1 : ¬ (fresh : Int) = 0 := by omega
  have f2 : ((fresh : Int) == 0) = false := beq_eq_false_iff_ne.2 f1
  clear f0 hg
  go_enter Try.func13, Try.ntmps13
  go_wp2_with (first
    | (go_at_call 27; (with_reducible refine (hih _).mono ?_); rintro e w1 ⟨rfl, rfl⟩)
    | (go_at_call 31; (with_reducible refine (good_l _).mono ?_); rintro e w3 ⟨rfl, hb3⟩; have h3 := h2a.below hb3; have hm3 := hm1.below hb3 hm1.lt; have k3 := k2a.trans (Keeps.of hb3))
    | (refine wpList_store_row rfl 40 (.tmp 10) (.tmp 56) rfl w.heap.size #[Value.int .i64 0, .int .i64 0, .int .i64 0, .slice none 0 0, .int .i64 0] rfl rfl 40 #[Value.int .i64 0, .int .i64 0, .int .i64 0, .slice none 0 0, .int .i64 0] hm3 (by kernel_rfl) (by kernel_rfl) (by kernel_rfl) ?_))
  obtain ⟨g1, g2⟩ := fin w3 k3 _ h3 #[Value.int .i64 0, .int .i64 0, .int .i64 0, .slice none 0 0, .int .i64 0]
  exact bodyPost_ret (fin2 (p := 10) (a := 11) rfl _ _ w.heap.size 0 0 0 rfl (hm3.row _)) rfl ⟨_, rfl, World.ownsRow_nil _ _ _ _, g1, g2⟩
set_option maxRecDepth 100000 in
theorem reg_out (h : TabM w Y t) (hg : t.gen ≤ 999999) (i : Nat) (hi : i < 8) (key : Nat) (hk : t.at_ i = key) (f1 : ¬ t.holder = (i : Nat)) : Calls Try.prog 13 #[.pointer (some ⟨Y, 0, none⟩), .int .i64 (i : Nat), .int .u64 (key : Nat), .int .u64 0, .bool false] w (Tells w Y (t.put i 0) 0 0 0 []) := by
  have hih := fun W => isHost_any (i : Int) W
  rw [decide_eq_true (show 0 ≤ (i : Int) ∧ (i : Int) < 8 by omega)] at hih
  have hlt := h.mem.lt
  have hne : Y ≠ w.heap.size := by omega
  have al : ∀ (W : World) (t' : RT), TabM W Y t' → ∀ ob, TabM (W.alloc ob) Y t' := fun W t' hW ob => hW.below ((Below.refl _ W).alloc (Nat.le_refl _) ob)
  have y0 := (al w t h (.cells #[Value.int .i64 0, .int .i64 0, .int .i64 0, .slice none 0 0, .int .i64 0] 40)).key i hi
  have q1 := (al w t h (.cells #[Value.int .i64 0, .int .i64 0, .int .i64 0, .slice none 0 0, .int .i64 0] 40)).mem.free i
  have h1 : TabM (w.setCell ⟨Y, i, none⟩ (.int .u64 0)) Y { t with keys := t.keys.set i 0 } := h.setKey i 0 hi
  have x1 := (al _ _ h1 (.cells #[Value.int .i64 0, .int .i64 0, .int .i64 0, .slice none 0 0, .int .i64 0] 40)).c10
  have q2 := (al _ _ h1 (.cells #[Value.int .i64 0, .int .i64 0, .int .i64 0, .slice none 0 0, .int .i64 0] 40)).mem.free 10
  have hgx : (t.gen : Int) ≤ 999999 := by omega
  have h2 : TabM ((w.setCell ⟨Y, i, none⟩ (.int .u64 0)).setCell ⟨Y, 10, none⟩ (.int .u32 ((t.gen : Int) + 1))) Y (t.put i 0) := h1.setGen (t.gen + 1)
  have x2 : (((w.setCell ⟨Y, i, none⟩ (.int .u64 0)).setCell ⟨Y, 10, none⟩ (.int .u32 ((t.gen : Int) + 1))).alloc (.cells #[Value.int .i64 0, .int .i64 0, .int .i64 0, .slice none 0 0, .int .i64 0] 40)).cell? ⟨Y, 8, none⟩ = some (.int .i64 t.holder) := (al _ _ h2 (.cells #[Value.int .i64 0, .int .i64 0, .int .i64 0, .slice none 0 0, .int .i64 0] 40)).c8
  have k2 : Keeps Y w ((w.setCell ⟨Y, i, none⟩ (.int .u64 0)).setCell ⟨Y, 10, none⟩ (.int .u32 ((t.gen : Int) + 1))) := ((Keeps.refl Y w).setCell (p := ⟨Y, i, none⟩) _).setCell (p := ⟨Y, 10, none⟩) _
  have h2a := al _ _ h2 (.cells #[Value.int .i64 0, .int .i64 0, .int .i64 0, .slice none 0 0, .int .i64 0] 40)
  have hm1 : Mem (((w.setCell ⟨Y, i, none⟩ (.int .u64 0)).setCell ⟨Y, 10, none⟩ (.int .u32 ((t.gen : Int) + 1))).alloc (.cells #[Value.int .i64 0, .int .i64 0, .int .i64 0, .slice none 0 0, .int .i64 0] 40)) w.heap.size 40 #[Value.int .i64 0, .int .i64 0, .int .i64 0, .slice none 0 0, .int .i64 0] := by have := Mem.new ((w.setCell ⟨Y, i, none⟩ (.int .u64 0)).setCell ⟨Y, 10, none⟩ (.int .u32 ((t.gen : Int) + 1))) 40 #[Value.int .i64 0, .int .i64 0, .int .i64 0, .slice none 0 0, .int .i64 0]; simpa using this
  have k2a := k2.trans (Keeps.of ((Below.refl _ ((w.setCell ⟨Y, i, none⟩ (.int .u64 0)).setCell ⟨Y, 10, none⟩ (.int .u32 ((t.gen : Int) + 1)))).alloc (Nat.le_refl _) (.cells #[Value.int .i64 0, .int .i64 0, .int .i64 0, .slice none 0 0, .int .i64 0] 40)))
  have hix : (i : Int) < 8 := by omega
  have hlt2 : w.heap.size < (((w.setCell ⟨Y, i, none⟩ (.int .u64 0)).setCell ⟨Y, 10, none⟩ (.int .u32 ((t.gen : Int) + 1))).alloc (.cells #[Value.int .i64 0, .int .i64 0, .int .i64 0, .slice none 0 0, .int .i64 0] 40)).heap.size := hm1.lt
  clear h2 h1 k2 al h
  unfold RT.at_ at hk
  rw [hk] at y0
  clear hk
  have fin : ∀ W, Keeps Y w W → ∀ t', TabM W Y t' → ∀ cs : Array Value, TabM (W.setRow w.heap.size cs) Y t' ∧ Keeps Y w (W.setRow w.heap.size cs) := by
    intro W k t' hh cs
    refine ⟨hh.far _ hne _, ?_⟩
    exact ⟨k.os, k.tape, k.output, by simpa [World.setRow] using k.size, fun j hj hn => (setRow_other W w.heap.size j _ (by omega)).trans (k.block j hj hn)⟩
  have f2 : (t.holder == (i : Int)) = false := beq_eq_false_iff_ne.2 f1
  clear hg
  go_enter Try.func13, Try.ntmps13
  go_wp2_with (first
    | (go_at_call 27; (with_reducible refine (hih _).mono ?_); rintro e w1 ⟨rfl, rfl⟩)
    | (go_at_call 31; (with_reducible refine (good_l _).mono ?_); rintro e w3 ⟨rfl, hb3⟩; have h3 := h2a.below hb3; have hm3 := hm1.below hb3 hm1.lt; have k3 := k2a.trans (Keeps.of hb3))
    | (refine wpList_store_row rfl 40 (.tmp 10) (.tmp 56) rfl w.heap.size #[Value.int .i64 0, .int .i64 0, .int .i64 0, .slice none 0 0, .int .i64 0] rfl rfl 40 #[Value.int .i64 0, .int .i64 0, .int .i64 0, .slice none 0 0, .int .i64 0] hm3 (by kernel_rfl) (by kernel_rfl) (by kernel_rfl) ?_))
  obtain ⟨g1, g2⟩ := fin w3 k3 _ h3 #[Value.int .i64 0, .int .i64 0, .int .i64 0, .slice none 0 0, .int .i64 0]
  exact bodyPost_ret (fin2 (p := 10) (a := 11) rfl _ _ w.heap.size 0 0 0 rfl (hm3.row _)) rfl ⟨_, rfl, World.ownsRow_nil _ _ _ _, g1, g2⟩
set_option maxRecDepth 100000 in
theorem reg_gone (h : TabM w Y t) (hg : t.gen ≤ 999999) (i : Nat) (hi : i < 8) (key : Nat) (hk : t.at_ i = key) (f1 : t.holder = (i : Nat)) : Calls Try.prog 13 #[.pointer (some ⟨Y, 0, none⟩), .int .i64 (i : Nat), .int .u64 (key : Nat), .int .u64 0, .bool false] w (Tells w Y (t.put i 0).free 0 0 0 ((t.put i 0).told (i : Nat))) := by
  have hih := fun W => isHost_any (i : Int) W
  rw [decide_eq_true (show 0 ≤ (i : Int) ∧ (i : Int) < 8 by omega)] at hih
  have hlt := h.mem.lt
  have hne : Y ≠ w.heap.size := by omega
  have al : ∀ (W : World) (t' : RT), TabM W Y t' → ∀ ob, TabM (W.alloc ob) Y t' := fun W t' hW ob => hW.below ((Below.refl _ W).alloc (Nat.le_refl _) ob)
  have y0 := (al w t h (.cells #[Value.int .i64 0, .int .i64 0, .int .i64 0, .slice none 0 0, .int .i64 0] 40)).key i hi
  have q1 := (al w t h (.cells #[Value.int .i64 0, .int .i64 0, .int .i64 0, .slice none 0 0, .int .i64 0] 40)).mem.free i
  have h1 : TabM (w.setCell ⟨Y, i, none⟩ (.int .u64 0)) Y { t with keys := t.keys.set i 0 } := h.setKey i 0 hi
  have x1 := (al _ _ h1 (.cells #[Value.int .i64 0, .int .i64 0, .int .i64 0, .slice none 0 0, .int .i64 0] 40)).c10
  have q2 := (al _ _ h1 (.cells #[Value.int .i64 0, .int .i64 0, .int .i64 0, .slice none 0 0, .int .i64 0] 40)).mem.free 10
  have hgx : (t.gen : Int) ≤ 999999 := by omega
  have h2 : TabM ((w.setCell ⟨Y, i, none⟩ (.int .u64 0)).setCell ⟨Y, 10, none⟩ (.int .u32 ((t.gen : Int) + 1))) Y (t.put i 0) := h1.setGen (t.gen + 1)
  have x2 : (((w.setCell ⟨Y, i, none⟩ (.int .u64 0)).setCell ⟨Y, 10, none⟩ (.int .u32 ((t.gen : Int) + 1))).alloc (.cells #[Value.int .i64 0, .int .i64 0, .int .i64 0, .slice none 0 0, .int .i64 0] 40)).cell? ⟨Y, 8, none⟩ = some (.int .i64 t.holder) := (al _ _ h2 (.cells #[Value.int .i64 0, .int .i64 0, .int .i64 0, .slice none 0 0, .int .i64 0] 40)).c8
  have k2 : Keeps Y w ((w.setCell ⟨Y, i, none⟩ (.int .u64 0)).setCell ⟨Y, 10, none⟩ (.int .u32 ((t.gen : Int) + 1))) := ((Keeps.refl Y w).setCell (p := ⟨Y, i, none⟩) _).setCell (p := ⟨Y, 10, none⟩) _
  have h2a := al _ _ h2 (.cells #[Value.int .i64 0, .int .i64 0, .int .i64 0, .slice none 0 0, .int .i64 0] 40)
  have hm1 : Mem (((w.setCell ⟨Y, i, none⟩ (.int .u64 0)).setCell ⟨Y, 10, none⟩ (.int .u32 ((t.gen : Int) + 1))).alloc (.cells #[Value.int .i64 0, .int .i64 0, .int .i64 0, .slice none 0 0, .int .i64 0] 40)) w.heap.size 40 #[Value.int .i64 0, .int .i64 0, .int .i64 0, .slice none 0 0, .int .i64 0] := by have := Mem.new ((w.setCell ⟨Y, i, none⟩ (.int .u64 0)).setCell ⟨Y, 10, none⟩ (.int .u32 ((t.gen : Int) + 1))) 40 #[Value.int .i64 0, .int .i64 0, .int .i64 0, .slice none 0 0, .int .i64 0]; simpa using this
  have k2a := k2.trans (Keeps.of ((Below.refl _ ((w.setCell ⟨Y, i, none⟩ (.int .u64 0)).setCell ⟨Y, 10, none⟩ (.int .u32 ((t.gen : Int) + 1)))).alloc (Nat.le_refl _) (.cells #[Value.int .i64 0, .int .i64 0, .int .i64 0, .slice none 0 0, .int .i64 0] 40)))
  have hix : (i : Int) < 8 := by omega
  have hlt2 : w.heap.size < (((w.setCell ⟨Y, i, none⟩ (.int .u64 0)).setCell ⟨Y, 10, none⟩ (.int .u32 ((t.gen : Int) + 1))).alloc (.cells #[Value.int .i64 0, .int .i64 0, .int .i64 0, .slice none 0 0, .int .i64 0] 40)).heap.size := hm1.lt
  clear h2 h1 k2 al h
  unfold RT.at_ at hk
  rw [hk] at y0
  clear hk
  have fin : ∀ W, Keeps Y w W → ∀ t', TabM W Y t' → ∀ cs : Array Value, TabM (W.setRow w.heap.size cs) Y t' ∧ Keeps Y w (W.setRow w.heap.size cs) := by
    intro W k t' hh cs
    refine ⟨hh.far _ hne _, ?_⟩
    exact ⟨k.os, k.tape, k.output, by simpa [World.setRow] using k.size, fun j hj hn => (setRow_other W w.heap.size j _ (by omega)).trans (k.block j hj hn)⟩
  have hgv : ∀ W, TabM W Y (t.put i 0) → Calls Try.prog 32 #[.pointer (some ⟨Y, 0, none⟩), .int .i64 (i : Nat)] W fun e w' => ∃ v', e = .returned v' ∧ w'.ownsRow W.heap.size 50 2 v' ((t.put i 0).told (i : Nat)).length (nvs ((t.put i 0).told (i : Nat))) ∧ TabM w' Y (t.put i 0).free ∧ Keeps Y W w' := fun W hW => give_any hW (i : Nat)
  rw [f1] at x2
  generalize (t.put i 0).told (i : Nat) = L at *
  generalize (t.put i 0).free = tf at *
  clear hg f1
  go_enter Try.func13, Try.ntmps13
  go_wp2_with (first
    | (go_at_call 27; (with_reducible refine (hih _).mono ?_); rintro e w1 ⟨rfl, rfl⟩)
    | (go_at_call 31; (with_reducible refine (good_l _).mono ?_); rintro e w3 ⟨rfl, hb3⟩; have h3 := h2a.below hb3; have hm3 := hm1.below hb3 hm1.lt; have k3 := k2a.trans (Keeps.of hb3))
    | (go_at_call 32; (with_reducible refine (hgv _ h3).mono ?_); rintro e w4 ⟨v4, rfl, ho4, h4, k4⟩; have hm4 : Mem w4 w.heap.size 40 #[Value.int .i64 0, .int .i64 0, .int .i64 0, .slice none 0 0, .int .i64 0] := (k4.block _ hm3.lt (fun e => hne e.symm)).trans hm3; have k5 := k3.trans k4)
    | (refine wpList_store_row rfl 40 (.tmp 10) (.tmp 52) rfl w.heap.size #[Value.int .i64 0, .int .i64 0, .int .i64 0, .slice none 0 0, .int .i64 0] rfl rfl 40 #[Value.int .i64 0, .int .i64 0, .int .i64 0, .slice none 0 0, .int .i64 0] hm4 (by kernel_rfl) (by kernel_rfl) (by kernel_rfl) ?_))
  obtain ⟨g1, g2⟩ := fin w4 k5 _ h4 #[Value.int .i64 0, .int .i64 0, .int .i64 0, .slice none 0 0, .int .i64 0]
  refine bodyPost_ret (fin2 (p := 10) (a := 11) rfl _ _ w.heap.size 0 0 0 rfl (hm4.row _)) rfl ⟨_, rfl, ?_, g1, g2⟩
  refine owns_eff (owns_mono ho4 (by have := hb3.size; omega)) ⟨rfl, rfl, rfl, by simp [World.setRow], fun k hk hn => setRow_other w4 w.heap.size k _ (fun e => hn e.symm)⟩ (S := fun k => w.heap.size = k) fun k hk e => ?_
  have h1 := (own_tag ho4 k hk).1
  have h2 := hb3.size
  omega
end
end Rv
end Go.Proofs.Ytgnpepkpbdddhaa
