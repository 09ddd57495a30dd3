/- Package net: clone, Send: contracts. -/
import Derived.Test.YtmlimmcaidkoeaaNt1
import Derived.Deep.RegionLaw
namespace Go.Proofs.Ytmlimmcaidkoeaa
open Go.ChangeShapes Go.WideShapes Go.ChangeAt Go.RowKit
set_option linter.unusedVariables false
theorem pk_info : (Try.prog.info? 41).map (fun i => (i.zero, i.size, i.bytes)) = some (some (.agg #[.int .i64 0, .int .i64 0, .slice none 0 0]), 3, 40) := by kernel_rfl
theorem own_grown {w w' : World} {base e sz : Nat} {v : Value} {n : Nat} {xs : List Value} {row : Option Nat} (h : w.ownsRow base e sz v n xs) (hg : w.grownBy w' row) (hr : ∀ k, v.ownBlock = some k → row ≠ some k) : w'.ownsRow base e sz v n xs :=
  owns_eff (S := fun k => row = some k) h ⟨hg.os, hg.tape, hg.output, hg.size, fun k hk hn => hg.block k hk fun e => hn e.symm⟩ hr
theorem eff_grown {w w' : World} {row : Option Nat} (hg : w.grownBy w' row) : Eff (fun k => row = some k) w w' := ⟨hg.os, hg.tape, hg.output, hg.size, fun k hk hn => hg.block k hk fun e => hn e.symm⟩
theorem Mem.eff {S : Nat → Prop} {w w' : World} {g t : Nat} {cs : Array Value} (h : Mem w g t cs) (hb : Eff S w w') (hn : ¬ S g) : Mem w' g t cs := (hb.block g h.lt hn).trans h
theorem own_one {w : World} {base e sz n : Nat} {v : Value} {xs : List Value} (h : w.ownsRow base e sz v n xs) : v.oneCell' = true := by
  obtain ⟨A, c, rfl, _⟩ := own_form h
  rfl
section
variable {P : Program}
theorem results_cell1 {fn : Func} {p : Tmp} {ty : TypeId} (h : fn.results = #[.cell p ty]) (tmps : Array Value) (w : World) (g : Nat) (t : TypeId) (cs : Array Value) (fr : Nat × Nat) (d : TypeDesc)
    (hp : tmps.getD p undef = .pointer (some ⟨g, 0, none⟩)) (hg : w.heap[g]? = some (.cells cs t fr))
    (hu : P.underlying ty = some d) (hd : (match d with | .struct _ | .array _ _ => true | _ => false) = true) (hi : (P.info? ty).map (·.size) = some cs.size) :
    (results fn tmps).run P w = .ok (.agg cs) w := by
  have hp' : tmps[p]?.getD undef = .pointer (some ⟨g, 0, none⟩) := by simpa using hp
  simp [results, h, hp', asAddr, run_loadVar_row w g t ty cs fr d hg hu hd hi]
end
theorem Eff.setRow {S : Nat → Prop} {a b : World} {g : Nat} (h : Eff S a b) (hp : S g) (cs : Array Value) : Eff S a (b.setRow g cs) :=
  ⟨h.os, h.tape, h.output, by simpa [World.setRow] using h.size, fun k hk hn => (setRow_other b g k cs fun e => hn (e ▸ hp)).trans (h.block k hk hn)⟩
set_option maxHeartbeats 2000000 in
theorem clone_any (fr to : Int) (d : Value) (l : List UInt8) (hl : l.length ≤ 8192) (w : World) (hd : Sl w w.heap.size d l.length (bs l)) :
    Calls Try.prog 31 #[.agg #[.int .i64 fr, .int .i64 to, d]] w fun e w' => ∃ d', e = .returned (.agg #[.int .i64 fr, .int .i64 to, d']) ∧ w'.ownsRow w.heap.size 5 1 d' l.length (bs l) ∧ Below w.heap.size w w' := by
  obtain ⟨i0, hi, hz0, hz1, hz2⟩ := info_parts info_u8
  obtain ⟨A, c, rfl, hc1, hc2⟩ := hd.form
  have hd2 : ∀ o1 o2, Sl ((w.alloc o1).alloc o2) ((w.alloc o1).alloc o2).heap.size (.slice A l.length c) l.length (bs l) := fun o1 o2 => (((hd.alloc (Nat.le_refl _) o1).more (by simp)).alloc (Nat.le_refl _) o2).more (by simp)
  have hB : ∀ o1 o2, w.heap.size ≤ ((w.alloc o1).alloc o2).heap.size := fun o1 o2 => by simp; omega
  have hgm : ∀ (o1 o2 : Array Value) w1, ((w.alloc (.cells o1 41)).alloc (.cells o2 41)).grownBy w1 (Value.slice none 0 0).ownBlock → Mem w1 w.heap.size 41 o1 ∧ Mem w1 (w.heap.size + 1) 41 o2 ∧ Below w.heap.size w w1 := by
    intro o1 o2 w1 hg
    have hb := ((Below.refl w.heap.size w).alloc (Nat.le_refl _) (.cells o1 41)).alloc (by simp) (.cells o2 41)
    refine ⟨((Mem.new w 41 o1).alloc _).eff (eff_grown hg) (by simp [Value.ownBlock]), ?_, hb.grown hg (by simp; omega) (by simp [Value.ownBlock])⟩
    have := (Mem.new (w.alloc (.cells o1 41)) 41 o2).eff (eff_grown hg) (by simp [Value.ownBlock])
    rwa [show (w.alloc (.cells o1 41)).heap.size = w.heap.size + 1 by simp] at this
  have hput : ∀ W g t a u, Mem W g t #[.int .i64 fr, .int .i64 to, a] → Mem (W.setCell ⟨g, 2, none⟩ u) g t #[.int .i64 fr, .int .i64 to, u] := fun W g t a u h => h.put 2 u
  go_enter Try.func31, Try.ntmps31
  go_wp2_with (first
    | (refine wpList_load_row rfl 41 (.tmp 1) rfl w.heap.size rfl 41 #[.int .i64 fr, .int .i64 to, .slice A1 l.length c1] (0, 0) _ hm3 Try.underlying41 rfl (by kernel_rfl) ?_)
    | (refine wpList_store_row rfl 41 (.tmp 2) (.tmp 7) rfl (w.heap.size + 1) #[.int .i64 fr, .int .i64 to, .slice A1 l.length c1] rfl rfl 41 #[.int .i64 0, .int .i64 0, .slice none 0 0] hm4 (by kernel_rfl) (by kernel_rfl) (by kernel_rfl) ?_)
    | (at_builtin; refine wpList_append_sl _ rfl (.const (.slice none 0 0)) (.tmp 4) _ rfl w.heap.size 5 i0 _ Try.underlying33 hi hz0 hz1 (by omega) rfl (.slice none 0 0) 0 [] rfl (World.ownsRow_nil _ _ _ _) _ _ l.length (bs l) rfl (hd2 _ _) bs_one (by omega) (hB _ _) ?_; intro v1 w1 hown1 hg1 hat1; rw [Nat.zero_add, List.nil_append] at hown1; obtain ⟨hm1, hm2, hb1⟩ := hgm _ _ _ hg1; obtain ⟨A1, c1, rfl, hk1, hk2⟩ := own_form hown1; have hf1 := hm1.free 2; have hx1 := hm1.cell 2; have hm3 := hput _ _ _ _ (.slice A1 l.length c1) hm1; have hm4 := hm2.far (p := ⟨w.heap.size, 2, none⟩) (by show w.heap.size + 1 ≠ w.heap.size; omega) (.slice A1 l.length c1)))
  have hm5 := hm4.row #[.int .i64 fr, .int .i64 to, .slice A1 l.length c1]
  refine bodyPost_ret (v := .agg #[.int .i64 fr, .int .i64 to, .slice A1 l.length c1]) ?_ rfl ⟨.slice A1 l.length c1, rfl, ?_, ?_⟩
  · exact (results_cell1 (p := 2) (ty := 41) rfl _ _ (w.heap.size + 1) 41 #[.int .i64 fr, .int .i64 to, .slice A1 l.length c1] (0, 0) _ rfl hm5 Try.underlying41 rfl (by kernel_rfl)).trans rfl
  · refine owns_eff hown1 (S := fun k => k = w.heap.size ∨ k = w.heap.size + 1) ?_ ?_
    · exact Eff.setRow ((Eff.refl _ w1).setCell (p := ⟨w.heap.size, 2, none⟩) (.inl rfl) _) (.inr rfl) _
    · intro k hk hs
      have := hown1.lt k hk
      have hat : some k = none ∨ some k = some (w.heap.size + 2) := by
        rw [← hk]
        refine hat1.imp (fun e => e.trans rfl) (fun e => e.trans ?_)
        simp
      simp only [Option.some.injEq, reduceCtorEq, false_or] at hat
      omega
  · exact below_setRow (hb1.setCell (p := ⟨w.heap.size, 2, none⟩) (Nat.le_refl _) _) (by omega) _
end Go.Proofs.Ytmlimmcaidkoeaa
