/- Package pdu: the reader. -/
import Derived.Test.YtafpaigifemjjaaPd11
namespace Go.Proofs.Ytafpaigifemjjaa
open Go.ChangeShapes Go.WideShapes Go.ChangeAt Go.RowKit
set_option linter.unusedVariables false
section
variable {P : Program}
theorem results_cell2 {fn : Func} {p a : Tmp} {ty : TypeId} (h : fn.results = #[.cell p ty, .tmp a]) (tmps : Array Value) (w : World) (g : Nat) (t : TypeId) (cs : Array Value) (fr : Nat × Nat) (d : TypeDesc)
    (hp : tmps.getD p undef = .pointer (some ⟨g, 0, none⟩)) (hg : w.heap[g]? = some (.cells cs t fr))
    (hu : P.underlying ty = some d) (hd : (match d with | .struct _ | .array _ _ => true | _ => false) = true) (hi : (P.info? ty).map (·.size) = some cs.size) :
    (results fn tmps).run P w = .ok (.tuple #[.agg cs, tmps.getD a undef]) w := by
  have hp' : tmps[p]?.getD undef = .pointer (some ⟨g, 0, none⟩) := by simpa using hp
  simp [results, h, hp', asAddr, run_loadVar_row w g t ty cs fr d hg hu hd hi]
end
theorem owns_setCell {w : World} {base e : Nat} {v : Value} {n : Nat} {xs : List Value} (h : w.ownsRow base e 1 v n xs) {a : Addr} (ha : a.block < base) (u : Value) : (w.setCell a u).ownsRow base e 1 v n xs := by
  refine ⟨h.1, ?_⟩
  rcases h.2 with hn | ⟨g, cap, cur, rfl, hb, hgg, rest⟩
  · exact .inl hn
  · refine .inr ⟨g, cap, cur, rfl, hb, ?_, rest⟩
    rw [Below.heap_setCell w a u g (by omega)]
    exact hgg
theorem newr_any (w : World) : Calls Try.prog 13 #[] w fun e w' => e = .returned (.pointer (some ⟨w.heap.size, 0, none⟩)) ∧ w' = w.alloc (.cells #[.slice none 0 0, .int .i64 0] 60) := by
  go_enter Try.func13, Try.ntmps13
  go_wp2
  go_ret
  exact ⟨rfl, rfl⟩
set_option maxHeartbeats 1000000 in
theorem rdput_any (R : Nat) (hv v : Value) (n m : Nat) (xs ys : List Value) (w : World) (hm : Mem w R 60 #[hv, .int .i64 0]) (ho : w.ownsRow (R + 1) 5 1 hv n xs) (hs : Sl w w.heap.size v m ys) (h1 : ∀ u ∈ ys, u.oneCell' = true) (hl : n + m ≤ 17592186044416) :
    Calls Try.prog 14 #[.pointer (some ⟨R, 0, none⟩), v] w fun e w' => e = .returned (.tuple #[]) ∧ ∃ hv', Mem w' R 60 #[hv', .int .i64 0] ∧ w'.ownsRow (R + 1) 5 1 hv' (n + m) (xs ++ ys) ∧ Below R w w' := by
  obtain ⟨i0, hi, hz0, hz1, hz2⟩ := info_parts info_u8
  obtain ⟨A, c, rfl, _, _⟩ := (Sl.of_own ho).form
  obtain ⟨A2, c2, rfl, _, _⟩ := hs.form
  have x0 : w.cell? ⟨R, 0, none⟩ = some (.slice A n c) := hm.cell 0
  have x1 : w.cell? ⟨R, 1, none⟩ = some (.int .i64 0) := hm.cell 1
  have hR := hm.lt
  have hbk : ∀ k, (Value.slice A n c).ownBlock = some k → R + 1 ≤ k := by
    intro k hk
    obtain ⟨_, h | ⟨g, cap, cur, hv, hge, _⟩⟩ := ho
    · rw [h.1] at hk; cases hk
    · rw [hv] at hk
      simp [Value.ownBlock] at hk
      omega
  go_enter Try.func14, Try.ntmps14
  go_wp2_with (at_builtin; refine wpList_append_sl _ rfl (.tmp 13) (.tmp 14) _ rfl (R + 1) 5 i0 _ Try.underlying24 hi hz0 hz1 (by omega) rfl (.slice A n c) n xs rfl ho w.heap.size _ m ys rfl hs h1 hl hR ?_; intro v2 w2 hown2 hg2 hat2; have hb2 : Below (R + 1) w w2 := below_own (Below.refl _ w) hg2 hR hbk; have hm2 := hm.below hb2 (Nat.lt_succ_self R); obtain ⟨A3, c3, rfl, _, _⟩ := (Sl.of_own hown2).form; have y0 : w2.cell? ⟨R, 0, none⟩ = some (.slice A n c) := hm2.cell 0; have z0 := hm2.free 0)
  refine bodyPost_end (v := .tuple #[]) (by simp [results, Try.results14, go_sem]) rfl ⟨rfl, .slice A3 (n + m) c3, hm2.put 0 _, ?_, (hb2.mono (Nat.le_succ R)).setCell (p := ⟨R, 0, none⟩) (Nat.le_refl _) _⟩
  exact owns_setCell hown2 (a := ⟨R, 0, none⟩) (Nat.lt_succ_self R) _
set_option maxHeartbeats 2000000 in
theorem next_short (R : Nat) (hv : Value) (l : List UInt8) (h0 : 0 < l.length) (h52 : l.length < 52) (w : World) (hm : Mem w R 60 #[hv, .int .i64 0]) (hs : Sl w w.heap.size hv l.length (bs l)) :
    Calls Try.prog 15 #[.pointer (some ⟨R, 0, none⟩)] w fun e w' => e = .returned (.tuple #[zpV, .bool false]) ∧ Below w.heap.size w w' := by
  have hd : ∀ W, Below w.heap.size w W → Calls Try.prog 7 #[hv] W fun e w' => e = .returned (.tuple #[.agg #[Value.int .i64 0, .bool false, .int .i64 0, .int .i64 0, .int .u32 0, .int .u32 0, .int .u32 0, .int .u32 0, .int .u32 0, .int .u32 0, .int .u8 0, .int .u8 0, .int .u8 0, .int .u8 0, .int .u8 0, .int .u8 0, .int .u8 0, .int .u8 0, .int .u8 0, .int .u8 0, .int .u8 0, .int .u8 0, .int .u8 0, .int .u8 0, .int .u8 0, .int .u8 0, .slice none 0 0], .int .i64 0, .int .i64 3]) ∧ Below W.heap.size W w' := fun W hW => dec_short hv l h52 W (hs.now hW)
  obtain ⟨A, c, rfl, _, _⟩ := hs.form
  have hlx : ((l.length : Int) == 0) = false := by rw [beq_eq_false_iff_ne]; omega
  have hbox : ∀ w1, Below (w.alloc (.cells #[Value.int .i64 0, .bool false, .int .i64 0, .int .i64 0, .int .u32 0, .int .u32 0, .int .u32 0, .int .u32 0, .int .u32 0, .int .u32 0, .int .u8 0, .int .u8 0, .int .u8 0, .int .u8 0, .int .u8 0, .int .u8 0, .int .u8 0, .int .u8 0, .int .u8 0, .int .u8 0, .int .u8 0, .int .u8 0, .int .u8 0, .int .u8 0, .int .u8 0, .int .u8 0, .slice none 0 0] 26)).heap.size (w.alloc (.cells #[Value.int .i64 0, .bool false, .int .i64 0, .int .i64 0, .int .u32 0, .int .u32 0, .int .u32 0, .int .u32 0, .int .u32 0, .int .u32 0, .int .u8 0, .int .u8 0, .int .u8 0, .int .u8 0, .int .u8 0, .int .u8 0, .int .u8 0, .int .u8 0, .int .u8 0, .int .u8 0, .int .u8 0, .int .u8 0, .int .u8 0, .int .u8 0, .int .u8 0, .int .u8 0, .slice none 0 0] 26)) w1 → Mem w1 w.heap.size 26 #[Value.int .i64 0, .bool false, .int .i64 0, .int .i64 0, .int .u32 0, .int .u32 0, .int .u32 0, .int .u32 0, .int .u32 0, .int .u32 0, .int .u8 0, .int .u8 0, .int .u8 0, .int .u8 0, .int .u8 0, .int .u8 0, .int .u8 0, .int .u8 0, .int .u8 0, .int .u8 0, .int .u8 0, .int .u8 0, .int .u8 0, .int .u8 0, .int .u8 0, .int .u8 0, .slice none 0 0] ∧ Below w.heap.size w w1 := by
    intro w1 h
    have h0 := Mem.new w 26 #[Value.int .i64 0, .bool false, .int .i64 0, .int .i64 0, .int .u32 0, .int .u32 0, .int .u32 0, .int .u32 0, .int .u32 0, .int .u32 0, .int .u8 0, .int .u8 0, .int .u8 0, .int .u8 0, .int .u8 0, .int .u8 0, .int .u8 0, .int .u8 0, .int .u8 0, .int .u8 0, .int .u8 0, .int .u8 0, .int .u8 0, .int .u8 0, .int .u8 0, .int .u8 0, .slice none 0 0]
    exact ⟨h0.below h h0.lt, ((Below.refl _ _).alloc (Nat.le_refl _) _).trans (h.mono (by simp))⟩
  have hR := hm.lt
  have hcl : ∀ W, Below w.heap.size w W → W.cell? ⟨R, 0, none⟩ = some (.slice A l.length c) ∧ W.cell? ⟨R, 1, none⟩ = some (.int .i64 0) := fun W hW => ⟨(hm.below hW hR).cell 0, (hm.below hW hR).cell 1⟩
  obtain ⟨x0, x1⟩ := hcl _ (hbox _ (Below.refl _ _)).2
  generalize l.length = n at *
  have hrow : ∀ w1, Mem w1 w.heap.size 26 #[Value.int .i64 0, .bool false, .int .i64 0, .int .i64 0, .int .u32 0, .int .u32 0, .int .u32 0, .int .u32 0, .int .u32 0, .int .u32 0, .int .u8 0, .int .u8 0, .int .u8 0, .int .u8 0, .int .u8 0, .int .u8 0, .int .u8 0, .int .u8 0, .int .u8 0, .int .u8 0, .int .u8 0, .int .u8 0, .int .u8 0, .int .u8 0, .int .u8 0, .int .u8 0, .slice none 0 0] → Below w.heap.size w w1 → Mem ((w1.alloc (.cells #[Value.int .i64 0, .bool false, .int .i64 0, .int .i64 0, .int .u32 0, .int .u32 0, .int .u32 0, .int .u32 0, .int .u32 0, .int .u32 0, .int .u8 0, .int .u8 0, .int .u8 0, .int .u8 0, .int .u8 0, .int .u8 0, .int .u8 0, .int .u8 0, .int .u8 0, .int .u8 0, .int .u8 0, .int .u8 0, .int .u8 0, .int .u8 0, .int .u8 0, .int .u8 0, .slice none 0 0] 26)).setRow w1.heap.size #[Value.int .i64 0, .bool false, .int .i64 0, .int .i64 0, .int .u32 0, .int .u32 0, .int .u32 0, .int .u32 0, .int .u32 0, .int .u32 0, .int .u8 0, .int .u8 0, .int .u8 0, .int .u8 0, .int .u8 0, .int .u8 0, .int .u8 0, .int .u8 0, .int .u8 0, .int .u8 0, .int .u8 0, .int .u8 0, .int .u8 0, .int .u8 0, .int .u8 0, .int .u8 0, .slice none 0 0]) w.heap.size 26 #[Value.int .i64 0, .bool false, .int .i64 0, .int .i64 0, .int .u32 0, .int .u32 0, .int .u32 0, .int .u32 0, .int .u32 0, .int .u32 0, .int .u8 0, .int .u8 0, .int .u8 0, .int .u8 0, .int .u8 0, .int .u8 0, .int .u8 0, .int .u8 0, .int .u8 0, .int .u8 0, .int .u8 0, .int .u8 0, .int .u8 0, .int .u8 0, .int .u8 0, .int .u8 0, .slice none 0 0] ∧ Below w.heap.size w ((w1.alloc (.cells #[Value.int .i64 0, .bool false, .int .i64 0, .int .i64 0, .int .u32 0, .int .u32 0, .int .u32 0, .int .u32 0, .int .u32 0, .int .u32 0, .int .u8 0, .int .u8 0, .int .u8 0, .int .u8 0, .int .u8 0, .int .u8 0, .int .u8 0, .int .u8 0, .int .u8 0, .int .u8 0, .int .u8 0, .int .u8 0, .int .u8 0, .int .u8 0, .int .u8 0, .int .u8 0, .slice none 0 0] 26)).setRow w1.heap.size #[Value.int .i64 0, .bool false, .int .i64 0, .int .i64 0, .int .u32 0, .int .u32 0, .int .u32 0, .int .u32 0, .int .u32 0, .int .u32 0, .int .u8 0, .int .u8 0, .int .u8 0, .int .u8 0, .int .u8 0, .int .u8 0, .int .u8 0, .int .u8 0, .int .u8 0, .int .u8 0, .int .u8 0, .int .u8 0, .int .u8 0, .int .u8 0, .int .u8 0, .int .u8 0, .slice none 0 0]) :=
    fun w1 h1 h2 => ⟨(h1.alloc _).rowFar (Nat.ne_of_lt h1.lt) _, below_setRow (Below.alloc h2 h2.size _) h2.size _⟩
  go_enter Try.func15, Try.ntmps15
  go_wp2
  go_step3
  go_wp2
  have hm0 := Mem.new w 26 #[Value.int .i64 0, .bool false, .int .i64 0, .int .i64 0, .int .u32 0, .int .u32 0, .int .u32 0, .int .u32 0, .int .u32 0, .int .u32 0, .int .u8 0, .int .u8 0, .int .u8 0, .int .u8 0, .int .u8 0, .int .u8 0, .int .u8 0, .int .u8 0, .int .u8 0, .int .u8 0, .int .u8 0, .int .u8 0, .int .u8 0, .int .u8 0, .int .u8 0, .int .u8 0, .slice none 0 0]
  have hb0 : Below w.heap.size w (w.alloc (.cells #[Value.int .i64 0, .bool false, .int .i64 0, .int .i64 0, .int .u32 0, .int .u32 0, .int .u32 0, .int .u32 0, .int .u32 0, .int .u32 0, .int .u8 0, .int .u8 0, .int .u8 0, .int .u8 0, .int .u8 0, .int .u8 0, .int .u8 0, .int .u8 0, .int .u8 0, .int .u8 0, .int .u8 0, .int .u8 0, .int .u8 0, .int .u8 0, .int .u8 0, .int .u8 0, .slice none 0 0] 26)) := (Below.refl _ _).alloc (Nat.le_refl _) _
  have hb0' := hm0.lt
  generalize w.alloc (.cells #[Value.int .i64 0, .bool false, .int .i64 0, .int .i64 0, .int .u32 0, .int .u32 0, .int .u32 0, .int .u32 0, .int .u32 0, .int .u32 0, .int .u8 0, .int .u8 0, .int .u8 0, .int .u8 0, .int .u8 0, .int .u8 0, .int .u8 0, .int .u8 0, .int .u8 0, .int .u8 0, .int .u8 0, .int .u8 0, .int .u8 0, .int .u8 0, .int .u8 0, .int .u8 0, .slice none 0 0] 26) = w0 at *
  go_step3
  go_wp2
  go_loopw [] (fun wr => wr = w0) (fun _ => 0)
  case atStart => rfl
  case round =>
    subst hrel
    go_wp2_with (first
      | (refine wpList_store_row rfl 26 (.tmp 4) (.tmp 18) rfl w1.heap.size #[Value.int .i64 0, .bool false, .int .i64 0, .int .i64 0, .int .u32 0, .int .u32 0, .int .u32 0, .int .u32 0, .int .u32 0, .int .u32 0, .int .u8 0, .int .u8 0, .int .u8 0, .int .u8 0, .int .u8 0, .int .u8 0, .int .u8 0, .int .u8 0, .int .u8 0, .int .u8 0, .int .u8 0, .int .u8 0, .int .u8 0, .int .u8 0, .int .u8 0, .int .u8 0, .slice none 0 0] rfl rfl 26 #[Value.int .i64 0, .bool false, .int .i64 0, .int .i64 0, .int .u32 0, .int .u32 0, .int .u32 0, .int .u32 0, .int .u32 0, .int .u32 0, .int .u8 0, .int .u8 0, .int .u8 0, .int .u8 0, .int .u8 0, .int .u8 0, .int .u8 0, .int .u8 0, .int .u8 0, .int .u8 0, .int .u8 0, .int .u8 0, .int .u8 0, .int .u8 0, .int .u8 0, .int .u8 0, .slice none 0 0] (Mem.new w1 _ _) (by kernel_rfl) (by kernel_rfl) (by kernel_rfl) ?_; obtain ⟨hm2, hb2⟩ := hrow w1 hm1 hbw1; obtain ⟨y0, y1⟩ := hcl _ hb2)
      | (refine wpList_store_row rfl 26 (.tmp 2) (.tmp 52) rfl w.heap.size #[Value.int .i64 0, .bool false, .int .i64 0, .int .i64 0, .int .u32 0, .int .u32 0, .int .u32 0, .int .u32 0, .int .u32 0, .int .u32 0, .int .u8 0, .int .u8 0, .int .u8 0, .int .u8 0, .int .u8 0, .int .u8 0, .int .u8 0, .int .u8 0, .int .u8 0, .int .u8 0, .int .u8 0, .int .u8 0, .int .u8 0, .int .u8 0, .int .u8 0, .int .u8 0, .slice none 0 0] rfl rfl 26 #[Value.int .i64 0, .bool false, .int .i64 0, .int .i64 0, .int .u32 0, .int .u32 0, .int .u32 0, .int .u32 0, .int .u32 0, .int .u32 0, .int .u8 0, .int .u8 0, .int .u8 0, .int .u8 0, .int .u8 0, .int .u8 0, .int .u8 0, .int .u8 0, .int .u8 0, .int .u8 0, .int .u8 0, .int .u8 0, .int .u8 0, .int .u8 0, .int .u8 0, .int .u8 0, .slice none 0 0] hm2 (by kernel_rfl) (by kernel_rfl) (by kernel_rfl) ?_)
      | (go_at_call 7; refine (hd _ hb0).mono ?_; rintro e w1 ⟨rfl, hb1⟩; have hm1 := hm0.below hb1 hb0'; have hbw1 := hb0.trans (hb1.mono hb0.size)))
    rw [Exit.noGoto_ret]
    refine bodyPost_ret (v := .tuple #[zpV, .bool false]) ?_ rfl ⟨rfl, below_setRow hb2 (Nat.le_refl _) _⟩
    exact (results_cell2 (p := 2) (a := 3) (ty := 26) rfl _ _ w.heap.size 26 #[Value.int .i64 0, .bool false, .int .i64 0, .int .i64 0, .int .u32 0, .int .u32 0, .int .u32 0, .int .u32 0, .int .u32 0, .int .u32 0, .int .u8 0, .int .u8 0, .int .u8 0, .int .u8 0, .int .u8 0, .int .u8 0, .int .u8 0, .int .u8 0, .int .u8 0, .int .u8 0, .int .u8 0, .int .u8 0, .int .u8 0, .int .u8 0, .int .u8 0, .int .u8 0, .slice none 0 0] (0, 0) _ rfl (hm2.row #[Value.int .i64 0, .bool false, .int .i64 0, .int .i64 0, .int .u32 0, .int .u32 0, .int .u32 0, .int .u32 0, .int .u32 0, .int .u32 0, .int .u8 0, .int .u8 0, .int .u8 0, .int .u8 0, .int .u8 0, .int .u8 0, .int .u8 0, .int .u8 0, .int .u8 0, .int .u8 0, .int .u8 0, .int .u8 0, .int .u8 0, .int .u8 0, .int .u8 0, .int .u8 0, .slice none 0 0]) Try.underlying26 rfl (by kernel_rfl)).trans rfl
set_option maxHeartbeats 2000000 in
theorem next_bad (R : Nat) (hv : Value) (l : List UInt8) (w : World) (hm : Mem w R 60 #[hv, .int .i64 0]) (hs : Sl w w.heap.size hv l.length (bs l))
    (hd : ∀ W, Sl W W.heap.size hv l.length (bs l) → Calls Try.prog 7 #[hv] W fun e w' => e = .returned (.tuple #[zpV, .int .i64 0, .int .i64 5]) ∧ Below W.heap.size W w') :
    Calls Try.prog 15 #[.pointer (some ⟨R, 0, none⟩)] w fun e w' => e = .returned (.tuple #[zpV, .bool false]) ∧ Mem w' R 60 #[.slice none 0 0, .int .i64 5] ∧ Below R w w' := by
  have hd : ∀ W, Below w.heap.size w W → Calls Try.prog 7 #[hv] W fun e w' => e = .returned (.tuple #[.agg #[Value.int .i64 0, .bool false, .int .i64 0, .int .i64 0, .int .u32 0, .int .u32 0, .int .u32 0, .int .u32 0, .int .u32 0, .int .u32 0, .int .u8 0, .int .u8 0, .int .u8 0, .int .u8 0, .int .u8 0, .int .u8 0, .int .u8 0, .int .u8 0, .int .u8 0, .int .u8 0, .int .u8 0, .int .u8 0, .int .u8 0, .int .u8 0, .int .u8 0, .int .u8 0, .slice none 0 0], .int .i64 0, .int .i64 5]) ∧ Below W.heap.size W w' := fun W hW => hd W (hs.now hW)
  obtain ⟨A, c, rfl, _, _⟩ := hs.form
  have hbox : ∀ w1, Below (w.alloc (.cells #[Value.int .i64 0, .bool false, .int .i64 0, .int .i64 0, .int .u32 0, .int .u32 0, .int .u32 0, .int .u32 0, .int .u32 0, .int .u32 0, .int .u8 0, .int .u8 0, .int .u8 0, .int .u8 0, .int .u8 0, .int .u8 0, .int .u8 0, .int .u8 0, .int .u8 0, .int .u8 0, .int .u8 0, .int .u8 0, .int .u8 0, .int .u8 0, .int .u8 0, .int .u8 0, .slice none 0 0] 26)).heap.size (w.alloc (.cells #[Value.int .i64 0, .bool false, .int .i64 0, .int .i64 0, .int .u32 0, .int .u32 0, .int .u32 0, .int .u32 0, .int .u32 0, .int .u32 0, .int .u8 0, .int .u8 0, .int .u8 0, .int .u8 0, .int .u8 0, .int .u8 0, .int .u8 0, .int .u8 0, .int .u8 0, .int .u8 0, .int .u8 0, .int .u8 0, .int .u8 0, .int .u8 0, .int .u8 0, .int .u8 0, .slice none 0 0] 26)) w1 → Mem w1 w.heap.size 26 #[Value.int .i64 0, .bool false, .int .i64 0, .int .i64 0, .int .u32 0, .int .u32 0, .int .u32 0, .int .u32 0, .int .u32 0, .int .u32 0, .int .u8 0, .int .u8 0, .int .u8 0, .int .u8 0, .int .u8 0, .int .u8 0, .int .u8 0, .int .u8 0, .int .u8 0, .int .u8 0, .int .u8 0, .int .u8 0, .int .u8 0, .int .u8 0, .int .u8 0, .int .u8 0, .slice none 0 0] ∧ Below w.heap.size w w1 := by
    intro w1 h
    have h0 := Mem.new w 26 #[Value.int .i64 0, .bool false, .int .i64 0, .int .i64 0, .int .u32 0, .int .u32 0, .int .u32 0, .int .u32 0, .int .u32 0, .int .u32 0, .int .u8 0, .int .u8 0, .int .u8 0, .int .u8 0, .int .u8 0, .int .u8 0, .int .u8 0, .int .u8 0, .int .u8 0, .int .u8 0, .int .u8 0, .int .u8 0, .int .u8 0, .int .u8 0, .int .u8 0, .int .u8 0, .slice none 0 0]
    exact ⟨h0.below h h0.lt, ((Below.refl _ _).alloc (Nat.le_refl _) _).trans (h.mono (by simp))⟩
  have hR := hm.lt
  have hcl : ∀ W, Below w.heap.size w W → W.cell? ⟨R, 0, none⟩ = some (.slice A l.length c) ∧ W.cell? ⟨R, 1, none⟩ = some (.int .i64 0) := fun W hW => ⟨(hm.below hW hR).cell 0, (hm.below hW hR).cell 1⟩
  obtain ⟨x0, x1⟩ := hcl _ (hbox _ (Below.refl _ _)).2
  have hrow : ∀ w1, Mem w1 w.heap.size 26 #[Value.int .i64 0, .bool false, .int .i64 0, .int .i64 0, .int .u32 0, .int .u32 0, .int .u32 0, .int .u32 0, .int .u32 0, .int .u32 0, .int .u8 0, .int .u8 0, .int .u8 0, .int .u8 0, .int .u8 0, .int .u8 0, .int .u8 0, .int .u8 0, .int .u8 0, .int .u8 0, .int .u8 0, .int .u8 0, .int .u8 0, .int .u8 0, .int .u8 0, .int .u8 0, .slice none 0 0] → Below w.heap.size w w1 → Mem ((w1.alloc (.cells #[Value.int .i64 0, .bool false, .int .i64 0, .int .i64 0, .int .u32 0, .int .u32 0, .int .u32 0, .int .u32 0, .int .u32 0, .int .u32 0, .int .u8 0, .int .u8 0, .int .u8 0, .int .u8 0, .int .u8 0, .int .u8 0, .int .u8 0, .int .u8 0, .int .u8 0, .int .u8 0, .int .u8 0, .int .u8 0, .int .u8 0, .int .u8 0, .int .u8 0, .int .u8 0, .slice none 0 0] 26)).setRow w1.heap.size #[Value.int .i64 0, .bool false, .int .i64 0, .int .i64 0, .int .u32 0, .int .u32 0, .int .u32 0, .int .u32 0, .int .u32 0, .int .u32 0, .int .u8 0, .int .u8 0, .int .u8 0, .int .u8 0, .int .u8 0, .int .u8 0, .int .u8 0, .int .u8 0, .int .u8 0, .int .u8 0, .int .u8 0, .int .u8 0, .int .u8 0, .int .u8 0, .int .u8 0, .int .u8 0, .slice none 0 0]) w.heap.size 26 #[Value.int .i64 0, .bool false, .int .i64 0, .int .i64 0, .int .u32 0, .int .u32 0, .int .u32 0, .int .u32 0, .int .u32 0, .int .u32 0, .int .u8 0, .int .u8 0, .int .u8 0, .int .u8 0, .int .u8 0, .int .u8 0, .int .u8 0, .int .u8 0, .int .u8 0, .int .u8 0, .int .u8 0, .int .u8 0, .int .u8 0, .int .u8 0, .int .u8 0, .int .u8 0, .slice none 0 0] ∧ Below w.heap.size w ((w1.alloc (.cells #[Value.int .i64 0, .bool false, .int .i64 0, .int .i64 0, .int .u32 0, .int .u32 0, .int .u32 0, .int .u32 0, .int .u32 0, .int .u32 0, .int .u8 0, .int .u8 0, .int .u8 0, .int .u8 0, .int .u8 0, .int .u8 0, .int .u8 0, .int .u8 0, .int .u8 0, .int .u8 0, .int .u8 0, .int .u8 0, .int .u8 0, .int .u8 0, .int .u8 0, .int .u8 0, .slice none 0 0] 26)).setRow w1.heap.size #[Value.int .i64 0, .bool false, .int .i64 0, .int .i64 0, .int .u32 0, .int .u32 0, .int .u32 0, .int .u32 0, .int .u32 0, .int .u32 0, .int .u8 0, .int .u8 0, .int .u8 0, .int .u8 0, .int .u8 0, .int .u8 0, .int .u8 0, .int .u8 0, .int .u8 0, .int .u8 0, .int .u8 0, .int .u8 0, .int .u8 0, .int .u8 0, .int .u8 0, .int .u8 0, .slice none 0 0]) :=
    fun w1 h1 h2 => ⟨(h1.alloc _).rowFar (Nat.ne_of_lt h1.lt) _, below_setRow (Below.alloc h2 h2.size _) h2.size _⟩
  have hmem : ∀ W, Below w.heap.size w W → Mem W R 60 #[.slice A l.length c, .int .i64 0] := fun W hW => hm.below hW hR
  generalize l.length = n at *
  go_enter Try.func15, Try.ntmps15
  go_wp2
  go_step3
  go_wp2
  have hm0 := Mem.new w 26 #[Value.int .i64 0, .bool false, .int .i64 0, .int .i64 0, .int .u32 0, .int .u32 0, .int .u32 0, .int .u32 0, .int .u32 0, .int .u32 0, .int .u8 0, .int .u8 0, .int .u8 0, .int .u8 0, .int .u8 0, .int .u8 0, .int .u8 0, .int .u8 0, .int .u8 0, .int .u8 0, .int .u8 0, .int .u8 0, .int .u8 0, .int .u8 0, .int .u8 0, .int .u8 0, .slice none 0 0]
  have hb0 : Below w.heap.size w (w.alloc (.cells #[Value.int .i64 0, .bool false, .int .i64 0, .int .i64 0, .int .u32 0, .int .u32 0, .int .u32 0, .int .u32 0, .int .u32 0, .int .u32 0, .int .u8 0, .int .u8 0, .int .u8 0, .int .u8 0, .int .u8 0, .int .u8 0, .int .u8 0, .int .u8 0, .int .u8 0, .int .u8 0, .int .u8 0, .int .u8 0, .int .u8 0, .int .u8 0, .int .u8 0, .int .u8 0, .slice none 0 0] 26)) := (Below.refl _ _).alloc (Nat.le_refl _) _
  have hb0' := hm0.lt
  generalize w.alloc (.cells #[Value.int .i64 0, .bool false, .int .i64 0, .int .i64 0, .int .u32 0, .int .u32 0, .int .u32 0, .int .u32 0, .int .u32 0, .int .u32 0, .int .u8 0, .int .u8 0, .int .u8 0, .int .u8 0, .int .u8 0, .int .u8 0, .int .u8 0, .int .u8 0, .int .u8 0, .int .u8 0, .int .u8 0, .int .u8 0, .int .u8 0, .int .u8 0, .int .u8 0, .int .u8 0, .slice none 0 0] 26) = w0 at *
  go_step3
  go_wp2
  go_loopw [] (fun wr => wr = w0 ∨ (Mem wr R 60 #[.slice none 0 0, .int .i64 5] ∧ Mem wr w.heap.size 26 #[Value.int .i64 0, .bool false, .int .i64 0, .int .i64 0, .int .u32 0, .int .u32 0, .int .u32 0, .int .u32 0, .int .u32 0, .int .u32 0, .int .u8 0, .int .u8 0, .int .u8 0, .int .u8 0, .int .u8 0, .int .u8 0, .int .u8 0, .int .u8 0, .int .u8 0, .int .u8 0, .int .u8 0, .int .u8 0, .int .u8 0, .int .u8 0, .int .u8 0, .int .u8 0, .slice none 0 0] ∧ Below R w wr)) (fun wr => match wr.cell? ⟨R, 1, none⟩ with | some (.int _ 0) => 1 | _ => 0)
  case atStart => exact .inl rfl
  case round =>
    rcases hrel with rfl | ⟨hmr, hmz, hbr⟩
    · go_wp2_with (first
        | (refine wpList_store_row rfl 26 (.tmp 4) (.tmp 18) rfl w1.heap.size #[Value.int .i64 0, .bool false, .int .i64 0, .int .i64 0, .int .u32 0, .int .u32 0, .int .u32 0, .int .u32 0, .int .u32 0, .int .u32 0, .int .u8 0, .int .u8 0, .int .u8 0, .int .u8 0, .int .u8 0, .int .u8 0, .int .u8 0, .int .u8 0, .int .u8 0, .int .u8 0, .int .u8 0, .int .u8 0, .int .u8 0, .int .u8 0, .int .u8 0, .int .u8 0, .slice none 0 0] rfl rfl 26 #[Value.int .i64 0, .bool false, .int .i64 0, .int .i64 0, .int .u32 0, .int .u32 0, .int .u32 0, .int .u32 0, .int .u32 0, .int .u32 0, .int .u8 0, .int .u8 0, .int .u8 0, .int .u8 0, .int .u8 0, .int .u8 0, .int .u8 0, .int .u8 0, .int .u8 0, .int .u8 0, .int .u8 0, .int .u8 0, .int .u8 0, .int .u8 0, .int .u8 0, .int .u8 0, .slice none 0 0] (Mem.new w1 _ _) (by kernel_rfl) (by kernel_rfl) (by kernel_rfl) ?_; obtain ⟨hm2, hb2⟩ := hrow w1 hm1 hbw1; have hr2 := hmem _ hb2; generalize (w1.alloc (.cells #[Value.int .i64 0, .bool false, .int .i64 0, .int .i64 0, .int .u32 0, .int .u32 0, .int .u32 0, .int .u32 0, .int .u32 0, .int .u32 0, .int .u8 0, .int .u8 0, .int .u8 0, .int .u8 0, .int .u8 0, .int .u8 0, .int .u8 0, .int .u8 0, .int .u8 0, .int .u8 0, .int .u8 0, .int .u8 0, .int .u8 0, .int .u8 0, .int .u8 0, .int .u8 0, .slice none 0 0] 26)).setRow w1.heap.size #[Value.int .i64 0, .bool false, .int .i64 0, .int .i64 0, .int .u32 0, .int .u32 0, .int .u32 0, .int .u32 0, .int .u32 0, .int .u32 0, .int .u8 0, .int .u8 0, .int .u8 0, .int .u8 0, .int .u8 0, .int .u8 0, .int .u8 0, .int .u8 0, .int .u8 0, .int .u8 0, .int .u8 0, .int .u8 0, .int .u8 0, .int .u8 0, .int .u8 0, .int .u8 0, .slice none 0 0] = w2 at *; have f0 := hr2.free 1; have y1 : w2.cell? ⟨R, 1, none⟩ = some (.int .i64 0) := hr2.cell 1; have y0 : w2.cell? ⟨R, 0, none⟩ = some (.slice A n c) := hr2.cell 0; have hr3 := hr2.put 1 (.int .i64 5); have f1 := hr3.free 0; have y2 : (w2.setCell ⟨R, 1, none⟩ (.int .i64 5)).cell? ⟨R, 0, none⟩ = some (.slice A n c) := hr3.cell 0; have hr4 := hr3.put 0 (.slice none 0 0))
        | (go_at_call 7; refine (hd _ hb0).mono ?_; rintro e w1 ⟨rfl, hb1⟩; have hm1 := hm0.below hb1 hb0'; have hbw1 := hb0.trans (hb1.mono hb0.size)))
      refine ⟨.inr ⟨hr4, (hm2.far (p := ⟨R, 1, none⟩) (Nat.ne_of_gt hR) _).far (p := ⟨R, 0, none⟩) (Nat.ne_of_gt hR) _, ((hb2.mono (Nat.le_of_lt hR)).setCell (p := ⟨R, 1, none⟩) (Nat.le_refl _) _).setCell (p := ⟨R, 0, none⟩) (Nat.le_refl _) _⟩, ?_⟩
      have e1 : ((w2.setCell ⟨R, 1, none⟩ (.int .i64 5)).setCell ⟨R, 0, none⟩ (.slice none 0 0)).cell? ⟨R, 1, none⟩ = some (.int .i64 5) := hr4.cell 1
      rw [e1, x1]
      simp
    · have y0 : wr.cell? ⟨R, 0, none⟩ = some (.slice none 0 0) := hmr.cell 0
      have y1 : wr.cell? ⟨R, 1, none⟩ = some (.int .i64 5) := hmr.cell 1
      have f0 := hmr.free 0
      have hr4 := hmr.put 0 (.slice none 0 0)
      have hz4 := hmz.far (p := ⟨R, 0, none⟩) (Nat.ne_of_gt hR) (.slice none 0 0)
      have hb4 := hbr.setCell (p := ⟨R, 0, none⟩) (Nat.le_refl _) (.slice none 0 0)
      go_wp2_with (refine wpList_store_row rfl 26 (.tmp 2) (.tmp 52) rfl w.heap.size #[Value.int .i64 0, .bool false, .int .i64 0, .int .i64 0, .int .u32 0, .int .u32 0, .int .u32 0, .int .u32 0, .int .u32 0, .int .u32 0, .int .u8 0, .int .u8 0, .int .u8 0, .int .u8 0, .int .u8 0, .int .u8 0, .int .u8 0, .int .u8 0, .int .u8 0, .int .u8 0, .int .u8 0, .int .u8 0, .int .u8 0, .int .u8 0, .int .u8 0, .int .u8 0, .slice none 0 0] rfl rfl 26 #[Value.int .i64 0, .bool false, .int .i64 0, .int .i64 0, .int .u32 0, .int .u32 0, .int .u32 0, .int .u32 0, .int .u32 0, .int .u32 0, .int .u8 0, .int .u8 0, .int .u8 0, .int .u8 0, .int .u8 0, .int .u8 0, .int .u8 0, .int .u8 0, .int .u8 0, .int .u8 0, .int .u8 0, .int .u8 0, .int .u8 0, .int .u8 0, .int .u8 0, .int .u8 0, .slice none 0 0] hz4 (by kernel_rfl) (by kernel_rfl) (by kernel_rfl) ?_)
      rw [Exit.noGoto_ret]
      refine bodyPost_ret (v := .tuple #[zpV, .bool false]) ?_ rfl ⟨rfl, hr4.rowFar (Nat.ne_of_lt hR) #[Value.int .i64 0, .bool false, .int .i64 0, .int .i64 0, .int .u32 0, .int .u32 0, .int .u32 0, .int .u32 0, .int .u32 0, .int .u32 0, .int .u8 0, .int .u8 0, .int .u8 0, .int .u8 0, .int .u8 0, .int .u8 0, .int .u8 0, .int .u8 0, .int .u8 0, .int .u8 0, .int .u8 0, .int .u8 0, .int .u8 0, .int .u8 0, .int .u8 0, .int .u8 0, .slice none 0 0], below_setRow hb4 (Nat.le_of_lt hR) _⟩
      exact (results_cell2 (p := 2) (a := 3) (ty := 26) rfl _ _ w.heap.size 26 #[Value.int .i64 0, .bool false, .int .i64 0, .int .i64 0, .int .u32 0, .int .u32 0, .int .u32 0, .int .u32 0, .int .u32 0, .int .u32 0, .int .u8 0, .int .u8 0, .int .u8 0, .int .u8 0, .int .u8 0, .int .u8 0, .int .u8 0, .int .u8 0, .int .u8 0, .int .u8 0, .int .u8 0, .int .u8 0, .int .u8 0, .int .u8 0, .int .u8 0, .int .u8 0, .slice none 0 0] (0, 0) _ rfl (hz4.row #[Value.int .i64 0, .bool false, .int .i64 0, .int .i64 0, .int .u32 0, .int .u32 0, .int .u32 0, .int .u32 0, .int .u32 0, .int .u32 0, .int .u8 0, .int .u8 0, .int .u8 0, .int .u8 0, .int .u8 0, .int .u8 0, .int .u8 0, .int .u8 0, .int .u8 0, .int .u8 0, .int .u8 0, .int .u8 0, .int .u8 0, .int .u8 0, .int .u8 0, .int .u8 0, .slice none 0 0]) Try.underlying26 rfl (by kernel_rfl)).trans rfl
theorem err_any (R : Nat) (hv : Value) (E : Int) (w : World) (hm : Mem w R 60 #[hv, .int .i64 E]) :
    Calls Try.prog 16 #[.pointer (some ⟨R, 0, none⟩)] w fun e w' => e = .returned (.int .i64 E) ∧ w = w' := by
  have x1 : w.cell? ⟨R, 1, none⟩ = some (.int .i64 E) := hm.cell 1
  go_enter Try.func16, Try.ntmps16
  go_wp2
  go_ret
  exact ⟨rfl, rfl⟩
set_option maxHeartbeats 2000000 in
theorem next_enc (R : Nat) (hv : Value) (p : Pdh) (h : p.Fit) (hk : pknown (p.op : Nat) = true) (l : List UInt8) (hl : l.length ≤ 4096) (w : World) (hm : Mem w R 60 #[hv, .int .i64 0]) (hs : Sl w w.heap.size hv (encB p l).length (bs (encB p l))) :
    Calls Try.prog 15 #[.pointer (some ⟨R, 0, none⟩)] w fun e w' => ∃ A2 k2, e = .returned (.tuple #[p.v (.slice A2 l.length k2), .bool true]) ∧ Below R w w' := by
  obtain ⟨CS, e1, e2, e3, e4⟩ := pdv p .nilFunc h.cdb
  have hlen := encB_len p l h
  have hlen1 : 52 ≤ (encB p l).length := by rw [hlen]; omega
  have hlen2 : (encB p l).length ≤ 5000 := by
    rw [hlen]
    have := padN4 l.length
    split <;> omega
  clear hlen
  have hd : ∀ W, Below w.heap.size w W → Calls Try.prog 7 #[hv] W fun e w' => ∃ A2 k2, e = .returned (.tuple #[.agg (CS.setIfInBounds 26 (.slice A2 l.length k2)), .int .i64 ((encB p l).length : Nat), .int .i64 0]) ∧ (CS.setIfInBounds 26 (.slice A2 l.length k2)).all (·.oneCell') = true ∧ Below W.heap.size W w' := by
    intro W hW
    refine (dec_enc p h hk l hl hv W (hs.now hW)).mono ?_
    rintro e w' ⟨v2, rfl, hs2, hb2, hf2⟩
    obtain ⟨A2, k2, rfl, _, _⟩ := hs2.form
    exact ⟨A2, k2, by rw [e4], all_set e3 26 _ rfl, hb2⟩
  obtain ⟨A, c, rfl, hc1, hc2⟩ := hs.form
  unfold maxLen at hc2
  obtain ⟨b, off, rfl, _, _⟩ := hs.at_ (by omega)
  have hlx : (52 : Int) ≤ ((encB p l).length : Int) := by omega
  have hbox : ∀ w1, Below (w.alloc (.cells #[Value.int .i64 0, .bool false, .int .i64 0, .int .i64 0, .int .u32 0, .int .u32 0, .int .u32 0, .int .u32 0, .int .u32 0, .int .u32 0, .int .u8 0, .int .u8 0, .int .u8 0, .int .u8 0, .int .u8 0, .int .u8 0, .int .u8 0, .int .u8 0, .int .u8 0, .int .u8 0, .int .u8 0, .int .u8 0, .int .u8 0, .int .u8 0, .int .u8 0, .int .u8 0, .slice none 0 0] 26)).heap.size (w.alloc (.cells #[Value.int .i64 0, .bool false, .int .i64 0, .int .i64 0, .int .u32 0, .int .u32 0, .int .u32 0, .int .u32 0, .int .u32 0, .int .u32 0, .int .u8 0, .int .u8 0, .int .u8 0, .int .u8 0, .int .u8 0, .int .u8 0, .int .u8 0, .int .u8 0, .int .u8 0, .int .u8 0, .int .u8 0, .int .u8 0, .int .u8 0, .int .u8 0, .int .u8 0, .int .u8 0, .slice none 0 0] 26)) w1 → Mem w1 w.heap.size 26 #[Value.int .i64 0, .bool false, .int .i64 0, .int .i64 0, .int .u32 0, .int .u32 0, .int .u32 0, .int .u32 0, .int .u32 0, .int .u32 0, .int .u8 0, .int .u8 0, .int .u8 0, .int .u8 0, .int .u8 0, .int .u8 0, .int .u8 0, .int .u8 0, .int .u8 0, .int .u8 0, .int .u8 0, .int .u8 0, .int .u8 0, .int .u8 0, .int .u8 0, .int .u8 0, .slice none 0 0] ∧ Below w.heap.size w w1 := by
    intro w1 h
    have h0 := Mem.new w 26 #[Value.int .i64 0, .bool false, .int .i64 0, .int .i64 0, .int .u32 0, .int .u32 0, .int .u32 0, .int .u32 0, .int .u32 0, .int .u32 0, .int .u8 0, .int .u8 0, .int .u8 0, .int .u8 0, .int .u8 0, .int .u8 0, .int .u8 0, .int .u8 0, .int .u8 0, .int .u8 0, .int .u8 0, .int .u8 0, .int .u8 0, .int .u8 0, .int .u8 0, .int .u8 0, .slice none 0 0]
    exact ⟨h0.below h h0.lt, ((Below.refl _ _).alloc (Nat.le_refl _) _).trans (h.mono (by simp))⟩
  have hR := hm.lt
  have hmem : ∀ W, Below w.heap.size w W → Mem W R 60 #[.slice (some ⟨b, off, none⟩) (encB p l).length c, .int .i64 0] := fun W hW => hm.below hW hR
  have hcl : ∀ W, Below w.heap.size w W → W.cell? ⟨R, 0, none⟩ = some (.slice (some ⟨b, off, none⟩) (encB p l).length c) ∧ W.cell? ⟨R, 1, none⟩ = some (.int .i64 0) := fun W hW => ⟨(hmem _ hW).cell 0, (hmem _ hW).cell 1⟩
  obtain ⟨x0, x1⟩ := hcl _ (hbox _ (Below.refl _ _)).2
  have hsz : ∀ d, (Try.prog.info? 26).map (·.size) = some (CS.setIfInBounds 26 d).size := fun d => by rw [Array.size_setIfInBounds, e2]; kernel_rfl
  have hzz : ∀ d, (#[Value.int .i64 0, .bool false, .int .i64 0, .int .i64 0, .int .u32 0, .int .u32 0, .int .u32 0, .int .u32 0, .int .u32 0, .int .u32 0, .int .u8 0, .int .u8 0, .int .u8 0, .int .u8 0, .int .u8 0, .int .u8 0, .int .u8 0, .int .u8 0, .int .u8 0, .int .u8 0, .int .u8 0, .int .u8 0, .int .u8 0, .int .u8 0, .int .u8 0, .int .u8 0, .slice none 0 0] : Array Value).size = (CS.setIfInBounds 26 d).size := fun d => by rw [Array.size_setIfInBounds, e2]; rfl
  have hrow : ∀ w1 (cs : Array Value), Mem w1 w.heap.size 26 #[Value.int .i64 0, .bool false, .int .i64 0, .int .i64 0, .int .u32 0, .int .u32 0, .int .u32 0, .int .u32 0, .int .u32 0, .int .u32 0, .int .u8 0, .int .u8 0, .int .u8 0, .int .u8 0, .int .u8 0, .int .u8 0, .int .u8 0, .int .u8 0, .int .u8 0, .int .u8 0, .int .u8 0, .int .u8 0, .int .u8 0, .int .u8 0, .int .u8 0, .int .u8 0, .slice none 0 0] → Below w.heap.size w w1 → Mem ((w1.alloc (.cells #[Value.int .i64 0, .bool false, .int .i64 0, .int .i64 0, .int .u32 0, .int .u32 0, .int .u32 0, .int .u32 0, .int .u32 0, .int .u32 0, .int .u8 0, .int .u8 0, .int .u8 0, .int .u8 0, .int .u8 0, .int .u8 0, .int .u8 0, .int .u8 0, .int .u8 0, .int .u8 0, .int .u8 0, .int .u8 0, .int .u8 0, .int .u8 0, .int .u8 0, .int .u8 0, .slice none 0 0] 26)).setRow w1.heap.size cs) w.heap.size 26 #[Value.int .i64 0, .bool false, .int .i64 0, .int .i64 0, .int .u32 0, .int .u32 0, .int .u32 0, .int .u32 0, .int .u32 0, .int .u32 0, .int .u8 0, .int .u8 0, .int .u8 0, .int .u8 0, .int .u8 0, .int .u8 0, .int .u8 0, .int .u8 0, .int .u8 0, .int .u8 0, .int .u8 0, .int .u8 0, .int .u8 0, .int .u8 0, .int .u8 0, .int .u8 0, .slice none 0 0] ∧ Below w.heap.size w ((w1.alloc (.cells #[Value.int .i64 0, .bool false, .int .i64 0, .int .i64 0, .int .u32 0, .int .u32 0, .int .u32 0, .int .u32 0, .int .u32 0, .int .u32 0, .int .u8 0, .int .u8 0, .int .u8 0, .int .u8 0, .int .u8 0, .int .u8 0, .int .u8 0, .int .u8 0, .int .u8 0, .int .u8 0, .int .u8 0, .int .u8 0, .int .u8 0, .int .u8 0, .int .u8 0, .int .u8 0, .slice none 0 0] 26)).setRow w1.heap.size cs) ∧ Mem ((w1.alloc (.cells #[Value.int .i64 0, .bool false, .int .i64 0, .int .i64 0, .int .u32 0, .int .u32 0, .int .u32 0, .int .u32 0, .int .u32 0, .int .u32 0, .int .u8 0, .int .u8 0, .int .u8 0, .int .u8 0, .int .u8 0, .int .u8 0, .int .u8 0, .int .u8 0, .int .u8 0, .int .u8 0, .int .u8 0, .int .u8 0, .int .u8 0, .int .u8 0, .int .u8 0, .int .u8 0, .slice none 0 0] 26)).setRow w1.heap.size cs) w1.heap.size 26 cs :=
    fun w1 cs h1 h2 => ⟨(h1.alloc _).rowFar (Nat.ne_of_lt h1.lt) _, below_setRow (Below.alloc h2 h2.size _) h2.size _, (Mem.new w1 _ _).row cs⟩
  simp only [e4]
  clear e3 e4 e1 h hk hl
  generalize (encB p l).length = n at *
  go_enter Try.func15, Try.ntmps15
  go_wp2
  go_step3
  go_wp2
  have hm0 := Mem.new w 26 #[Value.int .i64 0, .bool false, .int .i64 0, .int .i64 0, .int .u32 0, .int .u32 0, .int .u32 0, .int .u32 0, .int .u32 0, .int .u32 0, .int .u8 0, .int .u8 0, .int .u8 0, .int .u8 0, .int .u8 0, .int .u8 0, .int .u8 0, .int .u8 0, .int .u8 0, .int .u8 0, .int .u8 0, .int .u8 0, .int .u8 0, .int .u8 0, .int .u8 0, .int .u8 0, .slice none 0 0]
  have hb0 : Below w.heap.size w (w.alloc (.cells #[Value.int .i64 0, .bool false, .int .i64 0, .int .i64 0, .int .u32 0, .int .u32 0, .int .u32 0, .int .u32 0, .int .u32 0, .int .u32 0, .int .u8 0, .int .u8 0, .int .u8 0, .int .u8 0, .int .u8 0, .int .u8 0, .int .u8 0, .int .u8 0, .int .u8 0, .int .u8 0, .int .u8 0, .int .u8 0, .int .u8 0, .int .u8 0, .int .u8 0, .int .u8 0, .slice none 0 0] 26)) := (Below.refl _ _).alloc (Nat.le_refl _) _
  have hb0' := hm0.lt
  generalize w.alloc (.cells #[Value.int .i64 0, .bool false, .int .i64 0, .int .i64 0, .int .u32 0, .int .u32 0, .int .u32 0, .int .u32 0, .int .u32 0, .int .u32 0, .int .u8 0, .int .u8 0, .int .u8 0, .int .u8 0, .int .u8 0, .int .u8 0, .int .u8 0, .int .u8 0, .int .u8 0, .int .u8 0, .int .u8 0, .int .u8 0, .int .u8 0, .int .u8 0, .int .u8 0, .int .u8 0, .slice none 0 0] 26) = w0 at *
  go_step3
  go_wp2
  go_loopw [] (fun wr => wr = w0) (fun _ => 0)
  case atStart => rfl
  case round =>
    subst hrel
    go_wp2_with (first
      | (refine wpList_store_row rfl 26 (.tmp 4) (.tmp 18) rfl w1.heap.size (CS.setIfInBounds 26 (.slice A2 l.length k2)) rfl rfl 26 #[Value.int .i64 0, .bool false, .int .i64 0, .int .i64 0, .int .u32 0, .int .u32 0, .int .u32 0, .int .u32 0, .int .u32 0, .int .u32 0, .int .u8 0, .int .u8 0, .int .u8 0, .int .u8 0, .int .u8 0, .int .u8 0, .int .u8 0, .int .u8 0, .int .u8 0, .int .u8 0, .int .u8 0, .int .u8 0, .int .u8 0, .int .u8 0, .int .u8 0, .int .u8 0, .slice none 0 0] (Mem.new w1 _ _) (hsz _) (hzz _) hone ?_; obtain ⟨hm2, hb2, hp2⟩ := hrow w1 (CS.setIfInBounds 26 (.slice A2 l.length k2)) hm1 hbw1; have hr2 := hmem _ hb2; have hRp : R ≠ w1.heap.size := (Nat.ne_of_lt (Nat.lt_of_lt_of_le hR hbw1.size)); generalize (w1.alloc (.cells #[Value.int .i64 0, .bool false, .int .i64 0, .int .i64 0, .int .u32 0, .int .u32 0, .int .u32 0, .int .u32 0, .int .u32 0, .int .u32 0, .int .u8 0, .int .u8 0, .int .u8 0, .int .u8 0, .int .u8 0, .int .u8 0, .int .u8 0, .int .u8 0, .int .u8 0, .int .u8 0, .int .u8 0, .int .u8 0, .int .u8 0, .int .u8 0, .int .u8 0, .int .u8 0, .slice none 0 0] 26)).setRow w1.heap.size (CS.setIfInBounds 26 (.slice A2 l.length k2)) = w2 at *; have f0 := hr2.free 0; have y0 : w2.cell? ⟨R, 0, none⟩ = some (.slice (some ⟨b, off, none⟩) n c) := hr2.cell 0; have hp3 := fun u => hp2.far (p := ⟨R, 0, none⟩) (Ne.symm hRp) u; have hz3 := fun u => hm2.far (p := ⟨R, 0, none⟩) (Nat.ne_of_gt hR) u; have hb3 := fun u => (hb2.mono (Nat.le_of_lt hR)).setCell (p := ⟨R, 0, none⟩) (Nat.le_refl _) u)
      | (refine wpList_load_row rfl 26 (.tmp 4) rfl w1.heap.size rfl 26 (CS.setIfInBounds 26 (.slice A2 l.length k2)) (0, 0) _ (hp3 _) Try.underlying26 rfl (hsz _) ?_)
      | (refine wpList_store_row rfl 26 (.tmp 2) (.tmp 33) rfl w.heap.size (CS.setIfInBounds 26 (.slice A2 l.length k2)) rfl rfl 26 #[Value.int .i64 0, .bool false, .int .i64 0, .int .i64 0, .int .u32 0, .int .u32 0, .int .u32 0, .int .u32 0, .int .u32 0, .int .u32 0, .int .u8 0, .int .u8 0, .int .u8 0, .int .u8 0, .int .u8 0, .int .u8 0, .int .u8 0, .int .u8 0, .int .u8 0, .int .u8 0, .int .u8 0, .int .u8 0, .int .u8 0, .int .u8 0, .int .u8 0, .int .u8 0, .slice none 0 0] (hz3 _) (hsz _) (hzz _) hone ?_)
      | (go_at_call 7; refine (hd _ hb0).mono ?_; rintro e w1 ⟨A2, k2, rfl, hone, hb1⟩; have hm1 := hm0.below hb1 hb0'; have hbw1 := hb0.trans (hb1.mono hb0.size)))
    all_goals
      try rw [Exit.noGoto_ret]
      refine bodyPost_ret (v := .tuple #[.agg (CS.setIfInBounds 26 (.slice A2 l.length k2)), .bool true]) ?_ rfl ⟨A2, k2, rfl, below_setRow (hb3 _) (Nat.le_of_lt hR) _⟩
      exact (results_cell2 (p := 2) (a := 3) (ty := 26) rfl _ _ w.heap.size 26 (CS.setIfInBounds 26 (.slice A2 l.length k2)) (0, 0) _ rfl ((hz3 _).row _) Try.underlying26 rfl (hsz _)).trans rfl

end Go.Proofs.Ytafpaigifemjjaa
