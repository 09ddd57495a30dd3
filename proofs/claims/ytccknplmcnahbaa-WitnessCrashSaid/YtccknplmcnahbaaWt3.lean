/- Package witness: Format, Open, Get, may, Cas: contracts. -/
import Derived.Test.YtccknplmcnahbaaWt2
import Derived.Test.YtccknplmcnahbaaTn5
namespace Go.Proofs.Ytccknplmcnahbaa
open Go.ChangeShapes Go.WideShapes Go.ChangeAt Go.RowKit Go.Lib
set_option linter.unusedVariables false
set_option linter.unusedSimpArgs false
set_option maxRecDepth 100000
namespace Wt
open Dk Tw
section
variable {P : Program}
theorem results_cell1 {fn : Func} {p : Tmp} {ty : TypeId} (h : fn.results = #[.cell p ty]) (tmps : Array Value) (w : World) (g : Nat) (t : TypeId) (cs : Array Value) (fr : Nat × Nat) (d : TypeDesc)
    (hp : tmps.getD p undef = .pointer (some ⟨g, 0, none⟩)) (hg : w.heap[g]? = some (.cells cs t fr))
    (hu : P.underlying ty = some d) (hd : (match d with | .struct _ | .array _ _ => true | _ => false) = true) (hi : (P.info? ty).map (·.size) = some cs.size) :
    (results fn tmps).run P w = .ok (.agg cs) w := by
  have hp' : tmps[p]?.getD undef = .pointer (some ⟨g, 0, none⟩) := by simpa using hp
  simp [results, h, hp', asAddr, run_loadVar_row w g t ty cs fr d hg hu hd hi]
theorem results_cell3 {fn : Func} {p a b : Tmp} {ty : TypeId} (h : fn.results = #[.cell p ty, .tmp a, .tmp b]) (tmps : Array Value) (w : World) (g : Nat) (t : TypeId) (cs : Array Value) (fr : Nat × Nat) (d : TypeDesc)
    (hp : tmps.getD p undef = .pointer (some ⟨g, 0, none⟩)) (hg : w.heap[g]? = some (.cells cs t fr))
    (hu : P.underlying ty = some d) (hd : (match d with | .struct _ | .array _ _ => true | _ => false) = true) (hi : (P.info? ty).map (·.size) = some cs.size) :
    (results fn tmps).run P w = .ok (.tuple #[.agg cs, tmps.getD a undef, tmps.getD b undef]) w := by
  have hp' : tmps[p]?.getD undef = .pointer (some ⟨g, 0, none⟩) := by simpa using hp
  simp [results, h, hp', asAddr, run_loadVar_row w g t ty cs fr d hg hu hd hi]
end
section
variable {o w w' : World} {X Y Z n : Nat} {O O' : Nat → Prop} {S : DS} {l : List UInt8} {e p m : Nat}
set_option maxHeartbeats 2000000 in
theorem wformat_ok (h : Dsk o w X O S) (hu : S.up) (h2 : 1 < S.last.length) (hw : S.wtg ≤ 900000) (hc : S.calls ≤ 1000000000) (he : e < 18446744073709551616) (hok : okR (p : Nat) (m : Nat) = true) :
    Calls Try.prog 11 #[.pointer (some ⟨X, 0, none⟩), .agg #[.int .u64 (e : Nat), .int .i64 (p : Nat), .int .i64 (m : Nat)]] w fun e' w' => ∃ O', e' = .returned (.int .i64 0) ∧ Dsk o w' X O' (fmtS S 0 (encS e p m)) ∧ Below o.heap.size o w' := by
  have hrg := okR_range hok
  have hB := (Below.refl _ w).alloc (Nat.le_refl _) (.cells #[.int .u64 (e : Nat), .int .i64 (p : Nat), .int .i64 (m : Nat)] 24)
  have hM := Mem.new w 24 #[.int .u64 (e : Nat), .int .i64 (p : Nat), .int .i64 (m : Nat)]
  have hr := right_any e (p : Nat) (m : Nat) (w.alloc (.cells #[.int .u64 (e : Nat), .int .i64 (p : Nat), .int .i64 (m : Nat)] 24))
  rw [hok] at hr
  have hen := fun W => encode_any e p m he (by omega) (by omega) W
  have hf : ∀ W v, Below w.heap.size w W → Sl W W.heap.size v 10 (bs (encS e p m)) → Calls Try.prog 21 #[.pointer (some ⟨X, 0, none⟩), .int .i64 0, v] W fun e' w' => ∃ O', e' = .returned (.int .i64 0) ∧ Dsk o w' X O' (fmtS S 0 (encS e p m)) ∧ Below o.heap.size o w' := fun W v hW hv => (format_ok (h.below hW) hu 0 h2 hw hc v (encS e p m) (by rw [encS_len]; exact hv) (by rw [encS_len]; decide)).mono fun e' w' ⟨O', h1, h3, _⟩ => ⟨O', h1, h3, h3.bl⟩
  have HE := Lib.hid he
  clear he
  go_enter Try.func11, Try.ntmps11
  go_wp2_with (first
    | (refine wpList_load_row rfl 24 (.tmp 3) rfl w.heap.size rfl 24 #[.int .u64 (e : Nat), .int .i64 (p : Nat), .int .i64 (m : Nat)] (0, 0) _ hM Try.underlying24 rfl (by kernel_rfl) ?_)
    | (go_at_call 18; (with_reducible refine hr.mono ?_); rintro e' w2 ⟨rfl, hb2⟩; have m2 := hM.below hb2 hM.lt; have B2 := hB.trans (hb2.mono hB.size))
    | (refine wpList_load_row rfl 24 (.tmp 3) rfl w.heap.size rfl 24 #[.int .u64 (e : Nat), .int .i64 (p : Nat), .int .i64 (m : Nat)] (0, 0) _ m2 Try.underlying24 rfl (by kernel_rfl) ?_)
    | (go_at_call 8; (with_reducible refine (hen _).mono ?_); rintro e' w3 ⟨v3, rfl, ho3, hb3⟩; have B3 := B2.trans (hb3.mono B2.size))
    | (go_at_call 21; (with_reducible refine (hf _ _ B3 (Sl.of_own ho3)).mono ?_); rintro e' w4 ⟨O4, rfl, h4, b4⟩))
  go_ret
  exact ⟨O4, rfl, h4, b4⟩
theorem wformat_no (p m : Int) (e : Nat) (hok : okR p m = false) (w : World) : Calls Try.prog 11 #[.pointer (some ⟨X, 0, none⟩), .agg #[.int .u64 (e : Nat), .int .i64 p, .int .i64 m]] w fun e' w' => e' = .returned (.int .i64 1) ∧ Below w.heap.size w w' := by
  have hB := (Below.refl _ w).alloc (Nat.le_refl _) (.cells #[.int .u64 (e : Nat), .int .i64 p, .int .i64 m] 24)
  have hM := Mem.new w 24 #[.int .u64 (e : Nat), .int .i64 p, .int .i64 m]
  have hr := right_any e p m (w.alloc (.cells #[.int .u64 (e : Nat), .int .i64 p, .int .i64 m] 24))
  rw [hok] at hr
  go_enter Try.func11, Try.ntmps11
  go_wp2_with (first
    | (refine wpList_load_row rfl 24 (.tmp 3) rfl w.heap.size rfl 24 #[.int .u64 (e : Nat), .int .i64 p, .int .i64 m] (0, 0) _ hM Try.underlying24 rfl (by kernel_rfl) ?_)
    | (go_at_call 18; (with_reducible refine hr.mono ?_); rintro e' w2 ⟨rfl, hb2⟩))
  go_ret
  exact ⟨rfl, hB.trans (hb2.mono hB.size)⟩
/-- A witness made since o: on a disk, over a twin. -/
structure Wit (o w : World) (Z Y X : Nat) (O : Nat → Prop) (S : DS) (n : Nat) (l : List UInt8) (e p m : Nat) : Prop where
  dsk : Dsk o w X O S
  tw : ∃ v, TwM o.heap.size w O Y X 0 n v l
  mem : Mem w Z 62 #[.pointer (some ⟨Y, 0, none⟩), .int .u64 (e : Nat), .int .i64 (p : Nat), .int .i64 (m : Nat)]
  from_ : o.heap.size ≤ Z
  noZ : ¬ O Z
theorem Wit.below (h : Wit o w Z Y X O S n l e p m) (hb : Below w.heap.size w w') : Wit o w' Z Y X O S n l e p m := ⟨h.dsk.below hb, h.tw.imp fun v hv => hv.below hb, h.mem.below hb h.mem.lt, h.from_, h.noZ⟩
theorem Wit.neY (h : Wit o w Z Y X O S n l e p m) : Z ≠ Y := by
  obtain ⟨v, hv⟩ := h.tw
  exact (mem_tag h.mem).ne (mem_tag hv.mem) (by decide)
set_option maxHeartbeats 2000000 in
theorem wopen_is (h : Dsk o w X O S) (hdd : S.dead = false) (hof : S.off = false) (h2 : 1 < S.last.length) (hw : S.wtg ≤ 1000000) (he : e < 18446744073709551616) (hok : okR (p : Nat) (m : Nat) = true) (hb : bestTo S 0 2 = some (n, encS e p m)) :
    Calls Try.prog 12 #[.pointer (some ⟨X, 0, none⟩)] w fun e' w' => ∃ Z Y, e' = .returned (.tuple #[.pointer (some ⟨Z, 0, none⟩), .int .i64 0]) ∧ Wit o w' Z Y X O S n (encS e p m) e p m ∧ Below w.heap.size w w' := by
  have hrg := okR_range hok
  have hX := h
  obtain ⟨V, hV⟩ := h.is
  have ho : Calls Try.prog 22 #[.pointer (some ⟨X, 0, none⟩), .int .i64 0] w fun e' w' => ∃ Y v, e' = .returned (.tuple #[.pointer (some ⟨Y, 0, none⟩), .int .i64 0]) ∧ TwM w.heap.size w' O Y X 0 n v (encS e p m) ∧ Dsk o w' X O S ∧ Below w.heap.size w w' := open_is h hdd hof 0 h2 hw hb
  have hd : decR (encS e p m) = some (e, p, m) := dec_enc e p m he (by omega) (by omega) hok
  have hde : ∀ W v, Sl W W.heap.size v (encS e p m).length (bs (encS e p m)) → Calls Try.prog 7 #[v] W fun e' w' => e' = .returned (.tuple #[.agg #[.int .u64 (e : Nat), .int .i64 (p : Nat), .int .i64 (m : Nat)], .int .i64 0]) ∧ Below W.heap.size W w' := fun W v hv => by
    have := decode_any v (encS e p m) W hv
    rw [hd] at this
    exact this
  have HE := Lib.hid he
  clear he hd
  go_enter Try.func12, Try.ntmps12
  go_wp2_with (first
    | (go_at_call 22; (with_reducible refine ho.mono ?_); rintro e' w1 ⟨Y, v1, rfl, t1, d1, b1⟩; have cv := value_any t1)
    | (go_at_call 23; (with_reducible refine cv.mono ?_); rintro e' w2 ⟨v2, rfl, ho2, b2⟩; have B2 := b1.trans (b2.mono b1.size))
    | (go_at_call 7; (with_reducible refine (hde _ _ (Sl.of_own ho2)).mono ?_); rintro e' w3 ⟨rfl, b3⟩; have B3 := B2.trans (b3.mono B2.size); have m3 := (Mem.new w3 24 #[.int .u64 0, .int .i64 0, .int .i64 0]).row #[.int .u64 (e : Nat), .int .i64 (p : Nat), .int .i64 (m : Nat)])
    | (refine wpList_store_row rfl 24 (.tmp 6) (.tmp 19) rfl w3.heap.size #[.int .u64 (e : Nat), .int .i64 (p : Nat), .int .i64 (m : Nat)] rfl rfl 24 #[.int .u64 0, .int .i64 0, .int .i64 0] (Mem.new w3 _ _) (by kernel_rfl) (by kernel_rfl) (by kernel_rfl) ?_)
    | (refine wpList_load_row rfl 24 (.tmp 6) rfl w3.heap.size rfl 24 #[.int .u64 (e : Nat), .int .i64 (p : Nat), .int .i64 (m : Nat)] (0, 0) _ m3 Try.underlying24 rfl (by kernel_rfl) ?_))
  go_ret2
  have b3a : Below w3.heap.size w3 ((w3.alloc (.cells #[.int .u64 0, .int .i64 0, .int .i64 0] 24)).setRow w3.heap.size #[.int .u64 (e : Nat), .int .i64 (p : Nat), .int .i64 (m : Nat)]) := below_setRow ((Below.refl _ w3).alloc (Nat.le_refl _) _) (Nat.le_refl _) _
  have b13 : Below w1.heap.size w1 ((w3.alloc (.cells #[.int .u64 0, .int .i64 0, .int .i64 0] 24)).setRow w3.heap.size #[.int .u64 (e : Nat), .int .i64 (p : Nat), .int .i64 (m : Nat)]) := (b2.trans (b3.mono b2.size)).trans (b3a.mono (Nat.le_trans b2.size b3.size))
  have hsz : ((w3.alloc (.cells #[.int .u64 0, .int .i64 0, .int .i64 0] 24)).setRow w3.heap.size #[.int .u64 (e : Nat), .int .i64 (p : Nat), .int .i64 (m : Nat)]).heap.size = w3.heap.size + 1 := by simp [World.setRow]
  generalize (w3.alloc (.cells #[.int .u64 0, .int .i64 0, .int .i64 0] 24)).setRow w3.heap.size #[.int .u64 (e : Nat), .int .i64 (p : Nat), .int .i64 (m : Nat)] = w4 at *
  have b4 := b13.alloc b13.size (.cells #[.pointer (some ⟨Y, 0, none⟩), .int .u64 (e : Nat), .int .i64 (p : Nat), .int .i64 (m : Nat)] 62)
  have hs4 := b13.size
  have hs1 := d1.bl.size
  refine ⟨w3.heap.size + 1, Y, rfl, ?_, b1.trans (b4.mono b1.size)⟩
  rw [← hsz]
  refine ⟨d1.below b4, ⟨v1, (t1.mono h.bl.size).below b4⟩, Mem.new w4 _ _, by omega, fun hO => ?_⟩
  obtain ⟨V1, hV1⟩ := d1.is
  have := hV1.lt _ hO
  omega
set_option maxHeartbeats 2000000 in
theorem get_any (h : Wit o w Z Y X O S n l e p m) : Calls Try.prog 16 #[.pointer (some ⟨Z, 0, none⟩)] w fun e' w' => e' = .returned (.agg #[.int .u64 (e : Nat), .int .i64 (p : Nat), .int .i64 (m : Nat)]) ∧ Below w.heap.size w w' := by
  have hZ := h.mem.lt
  have hB := (Below.refl _ w).alloc (Nat.le_refl _) (.cells #[.int .u64 0, .int .i64 0, .int .i64 0] 24)
  have hM := Mem.new w 24 #[.int .u64 0, .int .i64 0, .int .i64 0]
  have z1 := fun o => (h.mem.alloc o).cell 1
  have z2 := fun o => (h.mem.alloc o).cell 2
  have z3 := fun o => (h.mem.alloc o).cell 3
  go_enter Try.func16, Try.ntmps16
  go_wp2_with (refine wpList_store_row rfl 24 (.tmp 2) (.tmp 6) rfl w.heap.size #[.int .u64 (e : Nat), .int .i64 (p : Nat), .int .i64 (m : Nat)] rfl rfl 24 #[.int .u64 0, .int .i64 0, .int .i64 0] hM (by kernel_rfl) (by kernel_rfl) (by kernel_rfl) ?_)
  try simp only [Exit.inBlock, Exit.then]
  refine bodyPost_ret (v := .agg #[.int .u64 (e : Nat), .int .i64 (p : Nat), .int .i64 (m : Nat)]) ?_ rfl ⟨rfl, below_setRow hB (Nat.le_refl _) _⟩
  exact (results_cell1 (p := 2) (ty := 24) rfl _ _ w.heap.size 24 _ (0, 0) _ rfl (hM.row #[.int .u64 (e : Nat), .int .i64 (p : Nat), .int .i64 (m : Nat)]) Try.underlying24 rfl (by kernel_rfl)).trans rfl
/-- May a register be put? -/
def mayB (e x re : Nat) (rp rm : Int) : Bool := decide (e = x ∧ x ≠ 18446744073709551615 ∧ re = x + 1 ∧ okR rp rm = true)
set_option maxHeartbeats 4000000 in
theorem may_any (h : Wit o w Z Y X O S n l e p m) (x re : Nat) (rp rm : Int) (hx : x < 18446744073709551616) (hre : re < 18446744073709551616) : Calls Try.prog 26 #[.pointer (some ⟨Z, 0, none⟩), .int .u64 (x : Nat), .agg #[.int .u64 (re : Nat), .int .i64 rp, .int .i64 rm]] w fun e' w' => e' = .returned (.bool (mayB e x re rp rm)) ∧ Below w.heap.size w w' := by
  have hB := (Below.refl _ w).alloc (Nat.le_refl _) (.cells #[.int .u64 (re : Nat), .int .i64 rp, .int .i64 rm] 24)
  have hM := Mem.new w 24 #[.int .u64 (re : Nat), .int .i64 rp, .int .i64 rm]
  have z1 := fun o => (h.mem.alloc o).cell 1
  have hr := right_any re rp rm (w.alloc (.cells #[.int .u64 (re : Nat), .int .i64 rp, .int .i64 rm] 24))
  obtain ⟨r, hr0⟩ : ∃ r, mayB e x re rp rm = r := ⟨_, rfl⟩
  have hr1 : r = decide (e = x ∧ x ≠ 18446744073709551615 ∧ re = x + 1 ∧ okR rp rm = true) := hr0.symm
  rw [hr0]
  clear hr0 h
  by_cases c1 : e = x
  · subst c1
    by_cases c2 : e = 18446744073709551615
    · obtain rfl : r = false := by rw [hr1]; exact decide_eq_false (fun q => q.2.1 c2)
      subst c2
      clear hr1 hx
      go_enter Try.func26, Try.ntmps26
      go_wp2
      go_ret
      exact ⟨rfl, hB⟩
    · have c2x : ¬ (e : Int) = 18446744073709551615 := by omega
      have c2b : ((e : Int) == 18446744073709551615) = false := beq_eq_false_iff_ne.2 c2x
      have cw : IntKind.u64.wrap ((e : Int) + 1) = (e : Int) + 1 := IntWalk.u64_in _ (by omega)
      by_cases c3 : re = e + 1
      · subst c3
        have c3b : ((((e + 1 : Nat) : Int)) != (e : Int) + 1) = false := by rw [show ((e + 1 : Nat) : Int) = (e : Int) + 1 by omega]; simp
        have ee : ((e + 1 : Nat) : Int) = (e : Int) + 1 := by omega
        rw [ee] at hr hM hB c3b ⊢
        clear c3b
        have H2 := Lib.hid c2x
        cases hok : okR rp rm with
        | true =>
          obtain rfl : r = true := by rw [hr1]; exact decide_eq_true ⟨rfl, c2, rfl, hok⟩
          rw [hok] at hr
          clear hr1 hx hre c2 c2x hok
          go_enter Try.func26, Try.ntmps26
          go_wp2_with (first
            | (refine wpList_load_row rfl 24 (.tmp 5) rfl w.heap.size rfl 24 #[.int .u64 ((e : Int) + 1), .int .i64 rp, .int .i64 rm] (0, 0) _ hM Try.underlying24 rfl (by kernel_rfl) ?_)
            | (go_at_call 18; (with_reducible refine hr.mono ?_); rintro e' w2 ⟨rfl, hb2⟩))
          go_ret
          exact ⟨rfl, hB.trans (hb2.mono hB.size)⟩
        | false =>
          obtain rfl : r = false := by rw [hr1]; exact decide_eq_false (fun q => by rw [hok] at q; exact absurd q.2.2.2 (by decide))
          rw [hok] at hr
          clear hr1 hx hre c2 c2x hok
          go_enter Try.func26, Try.ntmps26
          go_wp2_with (first
            | (refine wpList_load_row rfl 24 (.tmp 5) rfl w.heap.size rfl 24 #[.int .u64 ((e : Int) + 1), .int .i64 rp, .int .i64 rm] (0, 0) _ hM Try.underlying24 rfl (by kernel_rfl) ?_)
            | (go_at_call 18; (with_reducible refine hr.mono ?_); rintro e' w2 ⟨rfl, hb2⟩))
          go_ret
          exact ⟨rfl, hB.trans (hb2.mono hB.size)⟩
      · obtain rfl : r = false := by rw [hr1]; exact decide_eq_false (fun q => c3 q.2.2.1)
        have c3b : ((re : Int) != (e : Int) + 1) = true := bne_iff_ne.2 (by omega)
        have c3n : ¬ (re : Int) = (e : Int) + 1 := by omega
        clear hr1 hx hre c2 c2x c3
        go_enter Try.func26, Try.ntmps26
        go_wp2
        go_ret
        exact ⟨rfl, hB⟩
  · obtain rfl : r = false := by rw [hr1]; exact decide_eq_false (fun q => c1 q.1)
    have c1b : ((e : Int) != (x : Int)) = true := bne_iff_ne.2 (by omega)
    have c1n : ¬ (e : Int) = (x : Int) := by omega
    clear hr1 hx hre c1
    go_enter Try.func26, Try.ntmps26
    go_wp2
    go_ret
    exact ⟨rfl, hB⟩
end
end Wt
end Go.Proofs.Ytccknplmcnahbaa
