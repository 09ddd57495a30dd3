/- Package store: decodeRoot of a root's bytes. Written by tools/gen-se2.py. -/
import Derived.Test.YtpfackjnnkjjdaaSe1
namespace Go.Proofs.Ytpfackjnnkjjdaa
open Go.ChangeShapes Go.WideShapes Go.ChangeAt Go.RowKit Go.Lib
set_option linter.unusedVariables false
set_option linter.unusedSimpArgs false
set_option maxRecDepth 100000
namespace Se
theorem eff_setRow (W : World) (g : Nat) (cs : Array Value) : Eff (fun k => k = g) W (W.setRow g cs) := by
  have h := (Keeps.refl g W).setRow cs
  exact ⟨h.os, h.tape, h.output, h.size, fun k hk hn => h.block k hk hn⟩
theorem field_at {pre post : List UInt8} {x n t : Nat} (ht : pre.length = t) (hx : x < 256 ^ n) : beVal (((pre ++ (be x n ++ post)).drop t).take n) = x := by
  rw [List.drop_append_of_le_length (by omega), List.drop_of_length_le (by omega), List.nil_append, List.take_append_of_le_length (by simp), List.take_of_length_le (by simp), beVal_be]
  exact Nat.mod_eq_of_lt hx
section
variable {P : Program}
theorem results_cell2 {fn : Func} {p a : Tmp} {ty : TypeId} (h : fn.results = #[.cell p ty, .tmp a]) (tmps : Array Value) (w : World) (g : Nat) (t : TypeId) (cs : Array Value) (fr : Nat × Nat) (d : TypeDesc)
    (hp : tmps.getD p undef = .pointer (some ⟨g, 0, none⟩)) (hg : w.heap[g]? = some (.cells cs t fr))
    (hu : P.underlying ty = some d) (hd : (match d with | .struct _ | .array _ _ => true | _ => false) = true) (hi : (P.info? ty).map (·.size) = some cs.size) :
    (results fn tmps).run P w = .ok (.tuple #[.agg cs, tmps.getD a undef]) w := by
  have hp' : tmps[p]?.getD undef = .pointer (some ⟨g, 0, none⟩) := by simpa using hp
  simp [results, h, hp', asAddr, run_loadVar_row w g t ty cs fr d hg hu hd hi]
end
section
variable {w : World}
set_option maxHeartbeats 4000000 in
theorem number_any (Bx At : Nat) (v : Value) (b : List UInt8) (t n : Nat) (hb : Mem w Bx 34 #[v]) (ha : Mem w At 3 #[.int .i64 (t : Nat)]) (hv : Sl w w.heap.size v b.length (bs b)) (hl : b.length ≤ 1000) (hn : 1 ≤ n ∧ n ≤ 8) (ht : t + n ≤ b.length) : Calls Try.prog 52 #[.int .i64 (n : Nat), .pointer (some ⟨Bx, 0, none⟩), .pointer (some ⟨At, 0, none⟩)] w fun e w' => e = .returned (.int .u64 (beVal ((b.drop t).take n) : Nat)) ∧ w' = w.setCell ⟨At, 0, none⟩ (.int .i64 ((t : Int) + (n : Int))) := by
  obtain ⟨A, c, rfl, hc1, hc2⟩ := hv.form
  have hg : Calls Try.prog 42 #[.slice A b.length c, .int .i64 (t : Nat), .int .i64 (n : Nat)] w fun e' w' => e' = .returned (.tuple #[.int .u64 (beVal ((b.drop t).take n) : Nat), .bool true]) ∧ w = w' := get_b (.slice A b.length c) b _ _ t n rfl rfl w hv (by omega) (by omega) hn ht
  have htx : (t : Int) ≤ 1000 := by omega
  have hnx : (n : Int) ≤ 8 := by omega
  have k0 := hb.cell 0
  have k1 := ha.cell 0
  have f1 := ha.free 0
  generalize beVal ((b.drop t).take n) = x at *
  clear hv ht hn
  go_enter Try.func52, Try.ntmps52
  go_wp2_with (go_at_call 42; (with_reducible refine hg.mono ?_); rintro e' w3 ⟨rfl, rfl⟩)
  go_ret
  exact ⟨rfl, rfl⟩
theorem root_epoch (r : Rt) (hr : r.Ok) : beVal (((rootB r).drop 0).take 8) = r.epoch := by
  have e : rootB r = (([] : List UInt8)) ++ (be r.epoch 8 ++ (be r.base 8 ++ (be r.first 8 ++ (be r.place 2 ++ (be r.life 4 ++ (be r.side 1 ++ (be r.size 2 ++ (be r.sum 4)))))))) := by simp [rootB, List.append_assoc]
  rw [e]
  exact field_at (by simp) (by have := hr.epoch; omega)
theorem root_base (r : Rt) (hr : r.Ok) : beVal (((rootB r).drop 8).take 8) = r.base := by
  have e : rootB r = (be r.epoch 8) ++ (be r.base 8 ++ (be r.first 8 ++ (be r.place 2 ++ (be r.life 4 ++ (be r.side 1 ++ (be r.size 2 ++ (be r.sum 4))))))) := by simp [rootB, List.append_assoc]
  rw [e]
  exact field_at (by simp) (by have := hr.base; omega)
theorem root_first (r : Rt) (hr : r.Ok) : beVal (((rootB r).drop 16).take 8) = r.first := by
  have e : rootB r = (be r.epoch 8 ++ be r.base 8) ++ (be r.first 8 ++ (be r.place 2 ++ (be r.life 4 ++ (be r.side 1 ++ (be r.size 2 ++ (be r.sum 4)))))) := by simp [rootB, List.append_assoc]
  rw [e]
  exact field_at (by simp) (by have := hr.first; omega)
theorem root_place (r : Rt) (hr : r.Ok) : beVal (((rootB r).drop 24).take 2) = r.place := by
  have e : rootB r = (be r.epoch 8 ++ be r.base 8 ++ be r.first 8) ++ (be r.place 2 ++ (be r.life 4 ++ (be r.side 1 ++ (be r.size 2 ++ (be r.sum 4))))) := by simp [rootB, List.append_assoc]
  rw [e]
  exact field_at (by simp) (by have := hr.place; omega)
theorem root_life (r : Rt) (hr : r.Ok) : beVal (((rootB r).drop 26).take 4) = r.life := by
  have e : rootB r = (be r.epoch 8 ++ be r.base 8 ++ be r.first 8 ++ be r.place 2) ++ (be r.life 4 ++ (be r.side 1 ++ (be r.size 2 ++ (be r.sum 4)))) := by simp [rootB, List.append_assoc]
  rw [e]
  exact field_at (by simp) (by have := hr.life; omega)
theorem root_side (r : Rt) (hr : r.Ok) : beVal (((rootB r).drop 30).take 1) = r.side := by
  have e : rootB r = (be r.epoch 8 ++ be r.base 8 ++ be r.first 8 ++ be r.place 2 ++ be r.life 4) ++ (be r.side 1 ++ (be r.size 2 ++ (be r.sum 4))) := by simp [rootB, List.append_assoc]
  rw [e]
  exact field_at (by simp) (by have := hr.side; omega)
theorem root_size (r : Rt) (hr : r.Ok) : beVal (((rootB r).drop 31).take 2) = r.size := by
  have e : rootB r = (be r.epoch 8 ++ be r.base 8 ++ be r.first 8 ++ be r.place 2 ++ be r.life 4 ++ be r.side 1) ++ (be r.size 2 ++ (be r.sum 4)) := by simp [rootB, List.append_assoc]
  rw [e]
  exact field_at (by simp) (by have := hr.size; omega)
theorem root_sum (r : Rt) (hr : r.Ok) : beVal (((rootB r).drop 33).take 4) = r.sum := by
  have e : rootB r = (be r.epoch 8 ++ be r.base 8 ++ be r.first 8 ++ be r.place 2 ++ be r.life 4 ++ be r.side 1 ++ be r.size 2) ++ (be r.sum 4 ++ (([] : List UInt8))) := by simp [rootB, List.append_assoc]
  rw [e]
  exact field_at (by simp) (by have := hr.sum; omega)
set_option maxHeartbeats 8000000 in
theorem decode_any (r : Rt) (hr : r.Ok) (v : Value) (hv : Sl w w.heap.size v 37 (bs (rootB r))) : Calls Try.prog 25 #[v] w fun e w' => e = .returned (.tuple #[.agg #[.int .u64 (r.epoch : Nat), .int .u64 (r.base : Nat), .int .u64 (r.first : Nat), .int .i64 (r.place : Nat), .int .u32 (r.life : Nat), .int .i64 (r.side : Nat), .int .i64 (r.size : Nat), .int .u32 (r.sum : Nat)], .bool true]) ∧ Below w.heap.size w w' := by
  obtain ⟨A, c, rfl, hc1, hc2⟩ := hv.form
  have hl := rootB_len r
  obtain ⟨w3, e3, mB, mR, mA, b3⟩ : ∃ w3, w3 = ((w.alloc (.cells #[.slice A 37 c] 34)).alloc (.cells #[.int .u64 0, .int .u64 0, .int .u64 0, .int .i64 0, .int .u32 0, .int .i64 0, .int .i64 0, .int .u32 0] 57)).alloc (.cells #[.int .i64 0] 3) ∧ Mem w3 w.heap.size 34 #[.slice A 37 c] ∧ Mem w3 (w.heap.size + 1) 57 #[.int .u64 0, .int .u64 0, .int .u64 0, .int .i64 0, .int .u32 0, .int .i64 0, .int .i64 0, .int .u32 0] ∧ Mem w3 (w.heap.size + 1 + 1) 3 #[.int .i64 0] ∧ Below w.heap.size w w3 := by
    refine ⟨_, rfl, ((Mem.new w _ _).alloc _).alloc _, ?_, ?_, (((Below.refl _ w).alloc (Nat.le_refl _) _).alloc (by simp) _).alloc (by simp; omega) _⟩
    · have := Mem.new (w.alloc (.cells #[.slice A 37 c] 34)) 57 #[.int .u64 0, .int .u64 0, .int .u64 0, .int .i64 0, .int .u32 0, .int .i64 0, .int .i64 0, .int .u32 0]
      simpa using this.alloc _
    · have := Mem.new ((w.alloc (.cells #[.slice A 37 c] 34)).alloc (.cells #[.int .u64 0, .int .u64 0, .int .u64 0, .int .i64 0, .int .u32 0, .int .i64 0, .int .i64 0, .int .u32 0] 57)) 3 #[.int .i64 0]
      simpa using this
  have hv3 : ∀ W, Below w.heap.size w W → Sl W W.heap.size (.slice A 37 c) (rootB r).length (bs (rootB r)) := fun W hW => by rw [hl]; exact (hv.below hW).more hW.size
  obtain ⟨gB, hgB⟩ : ∃ g, g = w.heap.size := ⟨_, rfl⟩
  obtain ⟨gR, hgR⟩ : ∃ g, g = w.heap.size + 1 := ⟨_, rfl⟩
  obtain ⟨gA, hgA⟩ : ∃ g, g = w.heap.size + 1 + 1 := ⟨_, rfl⟩
  have hAB : gB ≠ gA := by omega
  have hAR : gR ≠ gA := by omega
  have hAw : w.heap.size ≤ gA := by omega
  have hlt3 : gA < w3.heap.size := by rw [hgA]; exact mA.lt
  have num : ∀ (W : World) (t n : Nat) (x : Nat), Mem W gB 34 #[.slice A 37 c] → Mem W gA 3 #[.int .i64 (t : Nat)] → Below w.heap.size w W → 1 ≤ n ∧ n ≤ 8 → t + n ≤ 37 → beVal (((rootB r).drop t).take n) = x → Calls Try.prog 52 #[.int .i64 (n : Nat), .pointer (some ⟨gB, 0, none⟩), .pointer (some ⟨gA, 0, none⟩)] W fun e w' => e = .returned (.int .u64 (x : Nat)) ∧ Mem w' gA 3 #[.int .i64 ((t + n : Nat) : Int)] ∧ (∀ g t cs, g ≠ gA → Mem W g t cs → Mem w' g t cs) ∧ Below w.heap.size w w' ∧ W.heap.size ≤ w'.heap.size := fun W t n x h1 h2 h3 h4 h5 h6 => (number_any gB gA _ (rootB r) t n h1 h2 (hv3 W h3) (by omega) h4 (by omega)).mono fun e w' ⟨q1, q2⟩ => by
    subst q2
    rw [h6] at q1
    exact ⟨q1, h2.put 0 _, fun g t cs hg hm => hm.far hg _, h3.setCell hAw _, by simp⟩
  have c1 : ∀ W, Mem W gB 34 #[.slice A 37 c] → Mem W gA 3 #[.int .i64 0] → Below w.heap.size w W → Calls Try.prog 52 #[.int .i64 8, .pointer (some ⟨gB, 0, none⟩), .pointer (some ⟨gA, 0, none⟩)] W fun e w' => e = .returned (.int .u64 (r.epoch : Nat)) ∧ Mem w' gA 3 #[.int .i64 8] ∧ (∀ g t cs, g ≠ gA → Mem W g t cs → Mem w' g t cs) ∧ Below w.heap.size w w' ∧ W.heap.size ≤ w'.heap.size := fun W h1 h2 h3 => num W 0 8 r.epoch h1 h2 h3 (by decide) (by decide) (root_epoch r hr)
  have c2 : ∀ W, Mem W gB 34 #[.slice A 37 c] → Mem W gA 3 #[.int .i64 8] → Below w.heap.size w W → Calls Try.prog 52 #[.int .i64 8, .pointer (some ⟨gB, 0, none⟩), .pointer (some ⟨gA, 0, none⟩)] W fun e w' => e = .returned (.int .u64 (r.base : Nat)) ∧ Mem w' gA 3 #[.int .i64 16] ∧ (∀ g t cs, g ≠ gA → Mem W g t cs → Mem w' g t cs) ∧ Below w.heap.size w w' ∧ W.heap.size ≤ w'.heap.size := fun W h1 h2 h3 => num W 8 8 r.base h1 h2 h3 (by decide) (by decide) (root_base r hr)
  have c3 : ∀ W, Mem W gB 34 #[.slice A 37 c] → Mem W gA 3 #[.int .i64 16] → Below w.heap.size w W → Calls Try.prog 52 #[.int .i64 8, .pointer (some ⟨gB, 0, none⟩), .pointer (some ⟨gA, 0, none⟩)] W fun e w' => e = .returned (.int .u64 (r.first : Nat)) ∧ Mem w' gA 3 #[.int .i64 24] ∧ (∀ g t cs, g ≠ gA → Mem W g t cs → Mem w' g t cs) ∧ Below w.heap.size w w' ∧ W.heap.size ≤ w'.heap.size := fun W h1 h2 h3 => num W 16 8 r.first h1 h2 h3 (by decide) (by decide) (root_first r hr)
  have c4 : ∀ W, Mem W gB 34 #[.slice A 37 c] → Mem W gA 3 #[.int .i64 24] → Below w.heap.size w W → Calls Try.prog 52 #[.int .i64 2, .pointer (some ⟨gB, 0, none⟩), .pointer (some ⟨gA, 0, none⟩)] W fun e w' => e = .returned (.int .u64 (r.place : Nat)) ∧ Mem w' gA 3 #[.int .i64 26] ∧ (∀ g t cs, g ≠ gA → Mem W g t cs → Mem w' g t cs) ∧ Below w.heap.size w w' ∧ W.heap.size ≤ w'.heap.size := fun W h1 h2 h3 => num W 24 2 r.place h1 h2 h3 (by decide) (by decide) (root_place r hr)
  have c5 : ∀ W, Mem W gB 34 #[.slice A 37 c] → Mem W gA 3 #[.int .i64 26] → Below w.heap.size w W → Calls Try.prog 52 #[.int .i64 4, .pointer (some ⟨gB, 0, none⟩), .pointer (some ⟨gA, 0, none⟩)] W fun e w' => e = .returned (.int .u64 (r.life : Nat)) ∧ Mem w' gA 3 #[.int .i64 30] ∧ (∀ g t cs, g ≠ gA → Mem W g t cs → Mem w' g t cs) ∧ Below w.heap.size w w' ∧ W.heap.size ≤ w'.heap.size := fun W h1 h2 h3 => num W 26 4 r.life h1 h2 h3 (by decide) (by decide) (root_life r hr)
  have c6 : ∀ W, Mem W gB 34 #[.slice A 37 c] → Mem W gA 3 #[.int .i64 30] → Below w.heap.size w W → Calls Try.prog 52 #[.int .i64 1, .pointer (some ⟨gB, 0, none⟩), .pointer (some ⟨gA, 0, none⟩)] W fun e w' => e = .returned (.int .u64 (r.side : Nat)) ∧ Mem w' gA 3 #[.int .i64 31] ∧ (∀ g t cs, g ≠ gA → Mem W g t cs → Mem w' g t cs) ∧ Below w.heap.size w w' ∧ W.heap.size ≤ w'.heap.size := fun W h1 h2 h3 => num W 30 1 r.side h1 h2 h3 (by decide) (by decide) (root_side r hr)
  have c7 : ∀ W, Mem W gB 34 #[.slice A 37 c] → Mem W gA 3 #[.int .i64 31] → Below w.heap.size w W → Calls Try.prog 52 #[.int .i64 2, .pointer (some ⟨gB, 0, none⟩), .pointer (some ⟨gA, 0, none⟩)] W fun e w' => e = .returned (.int .u64 (r.size : Nat)) ∧ Mem w' gA 3 #[.int .i64 33] ∧ (∀ g t cs, g ≠ gA → Mem W g t cs → Mem w' g t cs) ∧ Below w.heap.size w w' ∧ W.heap.size ≤ w'.heap.size := fun W h1 h2 h3 => num W 31 2 r.size h1 h2 h3 (by decide) (by decide) (root_size r hr)
  have c8 : ∀ W, Mem W gB 34 #[.slice A 37 c] → Mem W gA 3 #[.int .i64 33] → Below w.heap.size w W → Calls Try.prog 52 #[.int .i64 4, .pointer (some ⟨gB, 0, none⟩), .pointer (some ⟨gA, 0, none⟩)] W fun e w' => e = .returned (.int .u64 (r.sum : Nat)) ∧ Mem w' gA 3 #[.int .i64 37] ∧ (∀ g t cs, g ≠ gA → Mem W g t cs → Mem w' g t cs) ∧ Below w.heap.size w w' ∧ W.heap.size ≤ w'.heap.size := fun W h1 h2 h3 => num W 33 4 r.sum h1 h2 h3 (by decide) (by decide) (root_sum r hr)
  have qplace : IntKind.i64.wrap (r.place : Nat) = (r.place : Nat) := IntWalk.i64_in _ (by have := hr.place; omega)
  have qlife : IntKind.u32.wrap (r.life : Nat) = (r.life : Nat) := by show (r.life : Int) % 4294967296 = _; have := hr.life; omega
  have qside : IntKind.i64.wrap (r.side : Nat) = (r.side : Nat) := IntWalk.i64_in _ (by have := hr.side; omega)
  have qsize : IntKind.i64.wrap (r.size : Nat) = (r.size : Nat) := IntWalk.i64_in _ (by have := hr.size; omega)
  have qsum : IntKind.u32.wrap (r.sum : Nat) = (r.sum : Nat) := by show (r.sum : Int) % 4294967296 = _; have := hr.sum; omega
  have d1 : (r.place : Int) < 512 := by have := hr.place; omega
  have d2 : (r.side : Int) < 2 := by have := hr.side; omega
  have d3 : (r.size : Int) ≤ 24576 := by have := hr.size; omega
  clear num
  go_enter Try.func25, Try.ntmps25
  go_upto_region 3 with (fail)
  rw [← e3]
  rw [← hgA, ← hgR, ← hgB]
  rw [← hgB] at mB
  rw [← hgR] at mR
  rw [← hgA] at mA
  have hltB : gB < gA := by omega
  have b3x : w.heap.size ≤ gR := by omega
  have hRB : gB ≠ gR := by omega
  have hltR : gR < gA := by omega
  clear e3 hgA hgR hgB
  have mBw3 := mB
  have mAw3 := mA
  have mRw3 := mR
  have bw3 := b3
  go_wp2_with (first
    | (go_at_call 52; (with_reducible refine (c1 _ mBw3 mAw3 bw3).mono ?_); rintro e' w4 ⟨rfl, mAw4, kw4, bw4, zw4⟩; have mBw4 := kw4 _ _ _ hAB mBw3; have mRw4 := kw4 _ _ _ hAR mRw3)
    | (go_at_call 52; (with_reducible refine (c2 _ mBw4 mAw4 bw4).mono ?_); rintro e' w5 ⟨rfl, mAw5, kw5, bw5, zw5⟩; have mBw5 := kw5 _ _ _ hAB mBw4; have mRw5 := kw5 _ _ _ hAR mRw4)
    | (go_at_call 52; (with_reducible refine (c3 _ mBw5 mAw5 bw5).mono ?_); rintro e' w6 ⟨rfl, mAw6, kw6, bw6, zw6⟩; have mBw6 := kw6 _ _ _ hAB mBw5; have mRw6 := kw6 _ _ _ hAR mRw5; have hXA : w6.heap.size ≠ gA := (by omega); have hXB : gB ≠ w6.heap.size := (by omega); have hXR : gR ≠ w6.heap.size := (by omega); have mX6 : Mem (w6.alloc (.cells #[.int .u64 (r.epoch : Nat), .int .u64 (r.base : Nat), .int .u64 (r.first : Nat), .int .i64 0, .int .u32 0, .int .i64 0, .int .i64 0, .int .u32 0] 57)) w6.heap.size 57 #[.int .u64 (r.epoch : Nat), .int .u64 (r.base : Nat), .int .u64 (r.first : Nat), .int .i64 0, .int .u32 0, .int .i64 0, .int .i64 0, .int .u32 0] := Mem.new w6 _ _)
    | (go_at_call 52; (with_reducible refine (c4 _ (mBw6.alloc _) (mAw6.alloc _) (bw6.alloc bw6.size _)).mono ?_); rintro e' w7 ⟨rfl, mAw7, kw7, bw7, zw7⟩; have mBw7 := kw7 _ _ _ hAB (mBw6.alloc _); have mRw7 := kw7 _ _ _ hAR (mRw6.alloc _); have mXw7 := kw7 _ _ _ hXA mX6)
    | (go_at_call 52; (with_reducible refine (c5 _ mBw7 mAw7 bw7).mono ?_); rintro e' w8 ⟨rfl, mAw8, kw8, bw8, zw8⟩; have mBw8 := kw8 _ _ _ hAB mBw7; have mRw8 := kw8 _ _ _ hAR mRw7; have mXw8 := kw8 _ _ _ hXA mXw7)
    | (go_at_call 52; (with_reducible refine (c6 _ mBw8 mAw8 bw8).mono ?_); rintro e' w9 ⟨rfl, mAw9, kw9, bw9, zw9⟩; have mBw9 := kw9 _ _ _ hAB mBw8; have mRw9 := kw9 _ _ _ hAR mRw8; have mXw9 := kw9 _ _ _ hXA mXw8; have x3 := mXw9.cell 3; have f3 := mXw9.free 3; have ma := mXw9.put 3 (.int .i64 (r.place : Nat)); have x4 := ma.cell 4; have f4 := ma.free 4; have mb := ma.put 4 (.int .u32 (r.life : Nat)); have x5 := mb.cell 5; have f5 := mb.free 5; have mc := mb.put 5 (.int .i64 (r.side : Nat)); have tB := ((mBw9.far (p := ⟨w6.heap.size, 3, none⟩) hXB (.int .i64 (r.place : Nat))).far (p := ⟨w6.heap.size, 4, none⟩) hXB (.int .u32 (r.life : Nat))).far (p := ⟨w6.heap.size, 5, none⟩) hXB (.int .i64 (r.side : Nat)); have tA := ((mAw9.far (p := ⟨w6.heap.size, 3, none⟩) hXA.symm (.int .i64 (r.place : Nat))).far (p := ⟨w6.heap.size, 4, none⟩) hXA.symm (.int .u32 (r.life : Nat))).far (p := ⟨w6.heap.size, 5, none⟩) hXA.symm (.int .i64 (r.side : Nat)); have tR := ((mRw9.far (p := ⟨w6.heap.size, 3, none⟩) hXR (.int .i64 (r.place : Nat))).far (p := ⟨w6.heap.size, 4, none⟩) hXR (.int .u32 (r.life : Nat))).far (p := ⟨w6.heap.size, 5, none⟩) hXR (.int .i64 (r.side : Nat)); have hwX : w.heap.size ≤ w6.heap.size := bw6.size; have tb := ((bw9.setCell (p := ⟨w6.heap.size, 3, none⟩) hwX (.int .i64 (r.place : Nat))).setCell (p := ⟨w6.heap.size, 4, none⟩) hwX (.int .u32 (r.life : Nat))).setCell (p := ⟨w6.heap.size, 5, none⟩) hwX (.int .i64 (r.side : Nat)))
    | (go_at_call 52; (with_reducible refine (c7 _ tB tA tb).mono ?_); rintro e' w10 ⟨rfl, mAw10, kw10, bw10, zw10⟩; have mBw10 := kw10 _ _ _ hAB tB; have mRw10 := kw10 _ _ _ hAR tR; have mXw10 := kw10 _ _ _ hXA mc)
    | (go_at_call 52; (with_reducible refine (c8 _ mBw10 mAw10 bw10).mono ?_); rintro e' w11 ⟨rfl, mAw11, kw11, bw11, zw11⟩; have mBw11 := kw11 _ _ _ hAB mBw10; have mRw11 := kw11 _ _ _ hAR mRw10; have mXw11 := kw11 _ _ _ hXA mXw10; have x6 := mXw11.cell 6; have f6 := mXw11.free 6; have md := mXw11.put 6 (.int .i64 (r.size : Nat)); have x7 := md.cell 7; have f7 := md.free 7; have me := md.put 7 (.int .u32 (r.sum : Nat)); have uR := (mRw11.far (p := ⟨w6.heap.size, 6, none⟩) hXR (.int .i64 (r.size : Nat))).far (p := ⟨w6.heap.size, 7, none⟩) hXR (.int .u32 (r.sum : Nat)); have uB := (mBw11.far (p := ⟨w6.heap.size, 6, none⟩) hXB (.int .i64 (r.size : Nat))).far (p := ⟨w6.heap.size, 7, none⟩) hXB (.int .u32 (r.sum : Nat)); have ub := (bw11.setCell (p := ⟨w6.heap.size, 6, none⟩) hwX (.int .i64 (r.size : Nat))).setCell (p := ⟨w6.heap.size, 7, none⟩) hwX (.int .u32 (r.sum : Nat)); have y0 := uB.cell 0; have y3 := me.cell 3; have y5 := me.cell 5; have y6 := me.cell 6))
  clear c1 c2 c3 c4 c5 c6 c7 c8 x3 x4 x5 x6 x7 f3 f4 f5 f6 f7 y0 y3 y5 y6
  generalize ((w11.setCell ⟨w6.heap.size, 6, none⟩ (.int .i64 (r.size : Nat))).setCell ⟨w6.heap.size, 7, none⟩ (.int .u32 (r.sum : Nat))) = W12 at *
  have hRX : w6.heap.size ≠ gR := hXR.symm
  have me : Mem W12 w6.heap.size 57 #[.int .u64 (r.epoch : Nat), .int .u64 (r.base : Nat), .int .u64 (r.first : Nat), .int .i64 (r.place : Nat), .int .u32 (r.life : Nat), .int .i64 (r.side : Nat), .int .i64 (r.size : Nat), .int .u32 (r.sum : Nat)] := me
  clear hXR hXB hXA hAB hAR mBw11 mRw11 mXw11 mAw11 md kw11 bw11 zw11 mXw10 mRw10 mBw10 mAw10 kw10 bw10 zw10 tB tA tR mc mb ma tb mXw9 mRw9 mBw9 mAw9 kw9 bw9 zw9 mXw8 mRw8 mBw8 mAw8 kw8 bw8 zw8 mXw7 mRw7 mBw7 mAw7 kw7 bw7 zw7 mX6 mRw6 mBw6 mAw6 kw6 bw6 zw6 mRw5 mBw5 mAw5 kw5 bw5 zw5 mRw4 mBw4 mAw4 kw4 bw4 zw4 mRw3 mBw3 mAw3 bw3 hwX hltB hltR hlt3 hAw hv3 hv b3 mA mB mR hl hc1 hc2 qplace qlife qside qsize qsum w11 w10 w9 w8 w7 w5 w4 w3
  generalize w6.heap.size = gX at *
  clear w6
  have k0 := me.cell 0
  have a0 := uR.cell 0
  have b0 := uR.free 0
  have k1 := me.cell 1
  have a1 := uR.cell 1
  have b1 := uR.free 1
  have k2 := me.cell 2
  have a2 := uR.cell 2
  have b2 := uR.free 2
  have k3 := me.cell 3
  have a3 := uR.cell 3
  have b3 := uR.free 3
  have k4 := me.cell 4
  have a4 := uR.cell 4
  have b4 := uR.free 4
  have k5 := me.cell 5
  have a5 := uR.cell 5
  have b5 := uR.free 5
  have k6 := me.cell 6
  have a6 := uR.cell 6
  have b6 := uR.free 6
  have k7 := me.cell 7
  have a7 := uR.cell 7
  have b7 := uR.free 7
  have kB := uB.cell 0
  have n1 : r.place < 512 := by omega
  have n2 : r.side < 2 := by omega
  have n3 : r.size ≤ 24576 := by omega
  have n4 : decide (r.place < 512) = true := decide_eq_true n1
  have n5 : decide (r.side < 2) = true := decide_eq_true n2
  have n6 : decide (r.size ≤ 24576) = true := decide_eq_true n3
  have u1 : Mem ((W12).setCell ⟨gR, 0, none⟩ (.int .u64 (r.epoch : Nat))) gR 57 #[.int .u64 (r.epoch : Nat), .int .u64 0, .int .u64 0, .int .i64 0, .int .u32 0, .int .i64 0, .int .i64 0, .int .u32 0] := uR.put 0 (.int .u64 (r.epoch : Nat))
  have t1 : Below w.heap.size w ((W12).setCell ⟨gR, 0, none⟩ (.int .u64 (r.epoch : Nat))) := ub.setCell (p := ⟨gR, 0, none⟩) b3x (.int .u64 (r.epoch : Nat))
  have u2 : Mem (((W12).setCell ⟨gR, 0, none⟩ (.int .u64 (r.epoch : Nat))).setCell ⟨gR, 1, none⟩ (.int .u64 (r.base : Nat))) gR 57 #[.int .u64 (r.epoch : Nat), .int .u64 (r.base : Nat), .int .u64 0, .int .i64 0, .int .u32 0, .int .i64 0, .int .i64 0, .int .u32 0] := u1.put 1 (.int .u64 (r.base : Nat))
  have t2 : Below w.heap.size w (((W12).setCell ⟨gR, 0, none⟩ (.int .u64 (r.epoch : Nat))).setCell ⟨gR, 1, none⟩ (.int .u64 (r.base : Nat))) := t1.setCell (p := ⟨gR, 1, none⟩) b3x (.int .u64 (r.base : Nat))
  have u3 : Mem ((((W12).setCell ⟨gR, 0, none⟩ (.int .u64 (r.epoch : Nat))).setCell ⟨gR, 1, none⟩ (.int .u64 (r.base : Nat))).setCell ⟨gR, 2, none⟩ (.int .u64 (r.first : Nat))) gR 57 #[.int .u64 (r.epoch : Nat), .int .u64 (r.base : Nat), .int .u64 (r.first : Nat), .int .i64 0, .int .u32 0, .int .i64 0, .int .i64 0, .int .u32 0] := u2.put 2 (.int .u64 (r.first : Nat))
  have t3 : Below w.heap.size w ((((W12).setCell ⟨gR, 0, none⟩ (.int .u64 (r.epoch : Nat))).setCell ⟨gR, 1, none⟩ (.int .u64 (r.base : Nat))).setCell ⟨gR, 2, none⟩ (.int .u64 (r.first : Nat))) := t2.setCell (p := ⟨gR, 2, none⟩) b3x (.int .u64 (r.first : Nat))
  have u4 : Mem (((((W12).setCell ⟨gR, 0, none⟩ (.int .u64 (r.epoch : Nat))).setCell ⟨gR, 1, none⟩ (.int .u64 (r.base : Nat))).setCell ⟨gR, 2, none⟩ (.int .u64 (r.first : Nat))).setCell ⟨gR, 3, none⟩ (.int .i64 (r.place : Nat))) gR 57 #[.int .u64 (r.epoch : Nat), .int .u64 (r.base : Nat), .int .u64 (r.first : Nat), .int .i64 (r.place : Nat), .int .u32 0, .int .i64 0, .int .i64 0, .int .u32 0] := u3.put 3 (.int .i64 (r.place : Nat))
  have t4 : Below w.heap.size w (((((W12).setCell ⟨gR, 0, none⟩ (.int .u64 (r.epoch : Nat))).setCell ⟨gR, 1, none⟩ (.int .u64 (r.base : Nat))).setCell ⟨gR, 2, none⟩ (.int .u64 (r.first : Nat))).setCell ⟨gR, 3, none⟩ (.int .i64 (r.place : Nat))) := t3.setCell (p := ⟨gR, 3, none⟩) b3x (.int .i64 (r.place : Nat))
  have u5 : Mem ((((((W12).setCell ⟨gR, 0, none⟩ (.int .u64 (r.epoch : Nat))).setCell ⟨gR, 1, none⟩ (.int .u64 (r.base : Nat))).setCell ⟨gR, 2, none⟩ (.int .u64 (r.first : Nat))).setCell ⟨gR, 3, none⟩ (.int .i64 (r.place : Nat))).setCell ⟨gR, 4, none⟩ (.int .u32 (r.life : Nat))) gR 57 #[.int .u64 (r.epoch : Nat), .int .u64 (r.base : Nat), .int .u64 (r.first : Nat), .int .i64 (r.place : Nat), .int .u32 (r.life : Nat), .int .i64 0, .int .i64 0, .int .u32 0] := u4.put 4 (.int .u32 (r.life : Nat))
  have t5 : Below w.heap.size w ((((((W12).setCell ⟨gR, 0, none⟩ (.int .u64 (r.epoch : Nat))).setCell ⟨gR, 1, none⟩ (.int .u64 (r.base : Nat))).setCell ⟨gR, 2, none⟩ (.int .u64 (r.first : Nat))).setCell ⟨gR, 3, none⟩ (.int .i64 (r.place : Nat))).setCell ⟨gR, 4, none⟩ (.int .u32 (r.life : Nat))) := t4.setCell (p := ⟨gR, 4, none⟩) b3x (.int .u32 (r.life : Nat))
  have u6 : Mem (((((((W12).setCell ⟨gR, 0, none⟩ (.int .u64 (r.epoch : Nat))).setCell ⟨gR, 1, none⟩ (.int .u64 (r.base : Nat))).setCell ⟨gR, 2, none⟩ (.int .u64 (r.first : Nat))).setCell ⟨gR, 3, none⟩ (.int .i64 (r.place : Nat))).setCell ⟨gR, 4, none⟩ (.int .u32 (r.life : Nat))).setCell ⟨gR, 5, none⟩ (.int .i64 (r.side : Nat))) gR 57 #[.int .u64 (r.epoch : Nat), .int .u64 (r.base : Nat), .int .u64 (r.first : Nat), .int .i64 (r.place : Nat), .int .u32 (r.life : Nat), .int .i64 (r.side : Nat), .int .i64 0, .int .u32 0] := u5.put 5 (.int .i64 (r.side : Nat))
  have t6 : Below w.heap.size w (((((((W12).setCell ⟨gR, 0, none⟩ (.int .u64 (r.epoch : Nat))).setCell ⟨gR, 1, none⟩ (.int .u64 (r.base : Nat))).setCell ⟨gR, 2, none⟩ (.int .u64 (r.first : Nat))).setCell ⟨gR, 3, none⟩ (.int .i64 (r.place : Nat))).setCell ⟨gR, 4, none⟩ (.int .u32 (r.life : Nat))).setCell ⟨gR, 5, none⟩ (.int .i64 (r.side : Nat))) := t5.setCell (p := ⟨gR, 5, none⟩) b3x (.int .i64 (r.side : Nat))
  have u7 : Mem ((((((((W12).setCell ⟨gR, 0, none⟩ (.int .u64 (r.epoch : Nat))).setCell ⟨gR, 1, none⟩ (.int .u64 (r.base : Nat))).setCell ⟨gR, 2, none⟩ (.int .u64 (r.first : Nat))).setCell ⟨gR, 3, none⟩ (.int .i64 (r.place : Nat))).setCell ⟨gR, 4, none⟩ (.int .u32 (r.life : Nat))).setCell ⟨gR, 5, none⟩ (.int .i64 (r.side : Nat))).setCell ⟨gR, 6, none⟩ (.int .i64 (r.size : Nat))) gR 57 #[.int .u64 (r.epoch : Nat), .int .u64 (r.base : Nat), .int .u64 (r.first : Nat), .int .i64 (r.place : Nat), .int .u32 (r.life : Nat), .int .i64 (r.side : Nat), .int .i64 (r.size : Nat), .int .u32 0] := u6.put 6 (.int .i64 (r.size : Nat))
  have t7 : Below w.heap.size w ((((((((W12).setCell ⟨gR, 0, none⟩ (.int .u64 (r.epoch : Nat))).setCell ⟨gR, 1, none⟩ (.int .u64 (r.base : Nat))).setCell ⟨gR, 2, none⟩ (.int .u64 (r.first : Nat))).setCell ⟨gR, 3, none⟩ (.int .i64 (r.place : Nat))).setCell ⟨gR, 4, none⟩ (.int .u32 (r.life : Nat))).setCell ⟨gR, 5, none⟩ (.int .i64 (r.side : Nat))).setCell ⟨gR, 6, none⟩ (.int .i64 (r.size : Nat))) := t6.setCell (p := ⟨gR, 6, none⟩) b3x (.int .i64 (r.size : Nat))
  have u8 : Mem (((((((((W12).setCell ⟨gR, 0, none⟩ (.int .u64 (r.epoch : Nat))).setCell ⟨gR, 1, none⟩ (.int .u64 (r.base : Nat))).setCell ⟨gR, 2, none⟩ (.int .u64 (r.first : Nat))).setCell ⟨gR, 3, none⟩ (.int .i64 (r.place : Nat))).setCell ⟨gR, 4, none⟩ (.int .u32 (r.life : Nat))).setCell ⟨gR, 5, none⟩ (.int .i64 (r.side : Nat))).setCell ⟨gR, 6, none⟩ (.int .i64 (r.size : Nat))).setCell ⟨gR, 7, none⟩ (.int .u32 (r.sum : Nat))) gR 57 #[.int .u64 (r.epoch : Nat), .int .u64 (r.base : Nat), .int .u64 (r.first : Nat), .int .i64 (r.place : Nat), .int .u32 (r.life : Nat), .int .i64 (r.side : Nat), .int .i64 (r.size : Nat), .int .u32 (r.sum : Nat)] := u7.put 7 (.int .u32 (r.sum : Nat))
  have t8 : Below w.heap.size w (((((((((W12).setCell ⟨gR, 0, none⟩ (.int .u64 (r.epoch : Nat))).setCell ⟨gR, 1, none⟩ (.int .u64 (r.base : Nat))).setCell ⟨gR, 2, none⟩ (.int .u64 (r.first : Nat))).setCell ⟨gR, 3, none⟩ (.int .i64 (r.place : Nat))).setCell ⟨gR, 4, none⟩ (.int .u32 (r.life : Nat))).setCell ⟨gR, 5, none⟩ (.int .i64 (r.side : Nat))).setCell ⟨gR, 6, none⟩ (.int .i64 (r.size : Nat))).setCell ⟨gR, 7, none⟩ (.int .u32 (r.sum : Nat))) := t7.setCell (p := ⟨gR, 7, none⟩) b3x (.int .u32 (r.sum : Nat))
  have mF : Mem ((((((((((W12).setCell ⟨gR, 0, none⟩ (.int .u64 (r.epoch : Nat))).setCell ⟨gR, 1, none⟩ (.int .u64 (r.base : Nat))).setCell ⟨gR, 2, none⟩ (.int .u64 (r.first : Nat))).setCell ⟨gR, 3, none⟩ (.int .i64 (r.place : Nat))).setCell ⟨gR, 4, none⟩ (.int .u32 (r.life : Nat))).setCell ⟨gR, 5, none⟩ (.int .i64 (r.side : Nat))).setCell ⟨gR, 6, none⟩ (.int .i64 (r.size : Nat))).setCell ⟨gR, 7, none⟩ (.int .u32 (r.sum : Nat))).drew) gR 57 #[.int .u64 (r.epoch : Nat), .int .u64 (r.base : Nat), .int .u64 (r.first : Nat), .int .i64 (r.place : Nat), .int .u32 (r.life : Nat), .int .i64 (r.side : Nat), .int .i64 (r.size : Nat), .int .u32 (r.sum : Nat)] := u8.drewN 1
  have bF : Below w.heap.size w ((((((((((W12).setCell ⟨gR, 0, none⟩ (.int .u64 (r.epoch : Nat))).setCell ⟨gR, 1, none⟩ (.int .u64 (r.base : Nat))).setCell ⟨gR, 2, none⟩ (.int .u64 (r.first : Nat))).setCell ⟨gR, 3, none⟩ (.int .i64 (r.place : Nat))).setCell ⟨gR, 4, none⟩ (.int .u32 (r.life : Nat))).setCell ⟨gR, 5, none⟩ (.int .i64 (r.side : Nat))).setCell ⟨gR, 6, none⟩ (.int .i64 (r.size : Nat))).setCell ⟨gR, 7, none⟩ (.int .u32 (r.sum : Nat))).drew) := t8.drew
  clear u1 u2 u3 u4 u5 u6 u7 u8 t1 t2 t3 t4 t5 t6 t7 t8
  clear me uR uB
  go_region
  generalize (((((((((W12).setCell ⟨gR, 0, none⟩ (.int .u64 (r.epoch : Nat))).setCell ⟨gR, 1, none⟩ (.int .u64 (r.base : Nat))).setCell ⟨gR, 2, none⟩ (.int .u64 (r.first : Nat))).setCell ⟨gR, 3, none⟩ (.int .i64 (r.place : Nat))).setCell ⟨gR, 4, none⟩ (.int .u32 (r.life : Nat))).setCell ⟨gR, 5, none⟩ (.int .i64 (r.side : Nat))).setCell ⟨gR, 6, none⟩ (.int .i64 (r.size : Nat))).setCell ⟨gR, 7, none⟩ (.int .u32 (r.sum : Nat))).drew = W13 at *
  go_wp2
  refine bodyPost_ret (v := .tuple #[.agg #[.int .u64 (r.epoch : Nat), .int .u64 (r.base : Nat), .int .u64 (r.first : Nat), .int .i64 (r.place : Nat), .int .u32 (r.life : Nat), .int .i64 (r.side : Nat), .int .i64 (r.size : Nat), .int .u32 (r.sum : Nat)], .bool true]) ?_ rfl ⟨rfl, bF⟩
  exact (results_cell2 (p := 2) (a := 3) (ty := 57) rfl _ _ gR 57 _ (0, 0) _ rfl mF Try.underlying57 rfl (by kernel_rfl)).trans rfl

end
end Se
end Go.Proofs.Ytpfackjnnkjjdaa
