/- gemellaw8's full and known. -/
import Derived.Test.YthjfigfjkjgogaaDk9
import Derived.Test.YthjfigfjkjgogaaZ
import Derived.Lib.SlBytesConst
namespace Go.Proofs.Ythjfigfjkjgogaa
open Go.ChangeShapes Go.WideShapes Go.ChangeAt Go.RowKit Go.Lib
set_option linter.unusedVariables false
set_option linter.unusedSimpArgs false
theorem own : ownKnob Try.prog.godebug = none := by kernel_rfl
theorem laidOut : laidOutB Try.prog = true := by kernel_rfl
namespace Dk
section
variable {P : Program} (w : World)
/-- append of no bytes that would be 0. -/
theorem wpList_append_zeros0 {ops : Array Oper} {rest : List Oper} {o : Oper} {a : Act} {Q : Exit → Act → World → Prop} (hgd : o.guard = none) (s x : Operand) (t tn : TypeId)
    (ho : o.op = .call { callee := .builtin .append, args := #[s, x], argTypes := #[t, tn] })
    (base : Nat) (e : TypeId) (i : TypeInfo) (k kn : IntKind) (ht : P.underlying t = some (.slice e)) (htn : P.underlying tn = some (.int kn)) (hi : P.info? e = some i) (hz : i.zero = some (.int k 0))
    (hsize : i.size = 1) (hby : i.bytes = 1) (v : Value) (n : Nat) (xs : List Value) (hs : a.eval s = v) (hown : w.ownsRow base e 1 v n xs) (hx : a.eval x = .int .i64 0)
    (h : wpList P ops Q rest (a.put o.dst v) w) : wpList P ops Q (o :: rest) a w := by
  have hr : (Builtin.append_ #[t, tn] o.type #[v, .int .i64 0]).run P w = .ok v w := by
    have hw : IntKind.i64.wrap 0 = 0 := by rw [IntKind.wrap_i64]; omega
    rcases hown.2 with ⟨rfl, rfl⟩ | ⟨g, cap, cur, rfl, _, _, hnc, _⟩
    · simp [Builtin.append_, run_underlying ht, run_underlying htn, sizeOf, typeInfo, zeroValue, hi, hz, hsize, hby, asInt, asIntOf, hw, storeCells, Builtin.zeroCells]
    · simp [Builtin.append_, run_underlying ht, run_underlying htn, sizeOf, typeInfo, zeroValue, hi, hz, hsize, hby, asInt, asIntOf, hw, hnc, storeCells, Builtin.zeroCells]
  exact Lib.wpList_append_run w hgd s x t tn ho v (.int .i64 0) hs hx v w hr h
end
set_option maxRecDepth 100000 in
theorem full_any (v : Value) (l : List UInt8) (hl : l.length ≤ 512) (w : World) (hd : Sl w w.heap.size v l.length (bs l)) :
    Calls Try.prog 12 #[v] w fun e w' => ∃ v', e = .returned v' ∧ w'.ownsRow w.heap.size 5 1 v' 512 (bs (full l)) ∧ Below w.heap.size w w' := by
  obtain ⟨i0, hi, hz0, hz1, hz2⟩ := info_parts (show (Try.prog.info? 5).map (fun i => (i.zero, i.size, i.bytes)) = some (some (.int .u8 0), 1, 1) by kernel_rfl)
  obtain ⟨A, c, rfl, hc1, hc2⟩ := hd.form
  have hlx : (l.length : Int) ≤ 512 := by omega
  have hda := fun o => hd.now ((Below.refl _ w).alloc (Nat.le_refl _) o)
  have he0 := own_empty w w.heap.size 5 1 (Nat.le_refl _)
  have hb0 : ∀ (w5 : World), (w.alloc (.cells #[] 5)).grownBy w5 (Value.slice (some ⟨w.heap.size, 0, none⟩) 0 0).ownBlock → Below w.heap.size w w5 := fun w5 hg => below_own ((Below.refl _ w).alloc (Nat.le_refl _) _) hg (by simp) (fun k hk => by cases hk; exact Nat.le_refl _)
  have hsz : ∀ (o : Obj), (w.alloc o).heap.size ≤ (w.alloc o).heap.size := fun _ => Nat.le_refl _
  rcases Nat.lt_or_ge l.length 512 with h512 | h512
  · have e8 : (512 : Int) - (l.length : Int) = ((512 - l.length : Nat) : Int) := by omega
    have hm : 0 < 512 - l.length := by omega
    have hsum : l.length + (512 - l.length) = 512 := by omega
    have hbs : bs l ++ List.replicate (512 - l.length) (.int .u8 0) = bs (full l) := by unfold full; rw [bs_app]; congr 1; simp [bs]
    generalize 512 - l.length = m at *
    go_enter Try.func12, Try.ntmps12
    go_wp2_with (first
      | (at_builtin; (refine wpList_append_sl _ rfl (.tmp 3) (.tmp 4) _ rfl w.heap.size 5 i0 _ Try.underlying22 hi hz0 hz1 (by omega) rfl (.slice (some ⟨w.heap.size, 0, none⟩) 0 0) 0 [] rfl he0 _ (.slice A l.length c) l.length (bs l) rfl (hda _) bs_one (by omega) (by simp) ?_); intro v5 w5 ho5 hg5 hx5; have hb5 := hb0 w5 hg5; have hs5 := hb5.size)
      | (at_builtin; (refine wpList_append_zeros w5 rfl (.tmp 5) (.tmp 8) _ _ rfl w.heap.size 5 i0 .u8 .i64 Try.underlying22 Try.underlying3 hi hz0 hz1 hz2 v5 _ _ rfl ho5 m rfl hm (by omega) hs5 ?_); intro v6 w6 ho6 hg6; have hb6 := below_own hb5 hg6 hs5 (fun k hk => (own_tag ho5 k hk).1)))
    go_ret
    refine ⟨_, rfl, ?_, hb6⟩
    have : w6.ownsRow w.heap.size 5 1 v6 (0 + l.length + m) (bs l ++ List.replicate m (.int .u8 0)) := ho6
    rw [Nat.zero_add, hsum, hbs] at this
    exact this
  · have e8 : (512 : Int) - (l.length : Int) = 0 := by omega
    have hbs : bs l = bs (full l) := by unfold full; rw [show 512 - l.length = 0 by omega]; simp
    have h5 : l.length = 512 := by omega
    have H5 := Lib.hid h5
    clear h5 h512
    go_enter Try.func12, Try.ntmps12
    go_wp2_with (first
      | (at_builtin; (refine wpList_append_sl _ rfl (.tmp 3) (.tmp 4) _ rfl w.heap.size 5 i0 _ Try.underlying22 hi hz0 hz1 (by omega) rfl (.slice (some ⟨w.heap.size, 0, none⟩) 0 0) 0 [] rfl he0 _ (.slice A l.length c) l.length (bs l) rfl (hda _) bs_one (by omega) (by simp) ?_); intro v5 w5 ho5 hg5 hx5; have hb5 := hb0 w5 hg5; have hs5 := hb5.size)
      | (at_builtin; (refine wpList_append_zeros0 w5 rfl (.tmp 5) (.tmp 8) _ _ rfl w.heap.size 5 i0 .u8 .i64 Try.underlying22 Try.underlying3 hi hz0 hz1 hz2 v5 _ _ rfl ho5 rfl ?_)))
    go_ret
    refine ⟨_, rfl, ?_, hb5⟩
    have : w5.ownsRow w.heap.size 5 1 v5 (0 + l.length) (bs l) := ho5
    rw [Nat.zero_add, H5.out, hbs] at this
    exact this
section
variable {o w : World} {X : Nat} {O : Nat → Prop} {S : DS} {V : DV}
theorem read_no (h : DiskM w X O S V) (hdd : S.dead = false) (hof : S.off = true) (n : Int) :
    Calls Try.prog 11 #[.pointer (some ⟨X, 0, none⟩), .int .i64 n] w fun e w' => e = .returned (.tuple #[.slice none 0 0, .int .i64 8]) ∧ w = w' := by
  have hab := able_any h
  have herr : S.err = 8 := by unfold DS.err; rw [hdd, hof]; rfl
  rw [herr] at hab
  clear herr
  go_enter Try.func11, Try.ntmps11
  go_wp2_with (go_at_call 16; (with_reducible refine hab.mono ?_); rintro e w1 ⟨rfl, rfl⟩)
  go_ret2
  exact ⟨rfl, rfl⟩
theorem crashed_nil (S : DS) (i : Nat) : (S.crashed []).la i = S.la i := by
  show (fell S.last S.wts (sorted S.tch) [] S.tch.length)[i]?.getD [] = _
  have := fell_stop S.last S.wts (sorted S.tch) [] 0 S.tch.length (Nat.zero_le _)
  rw [Nat.zero_add] at this
  rw [this]
  rfl
end
def kS1 : DS := (DS.new 3).wr 1 [120]
def kS2 : DS := kS1.flushed
def kS3 : DS := kS2.wr 1 [121]
def kS4 : DS := kS3.crashed []
def kS5 : DS := { kS4 with off := false, arm := 0, picks := [] }
theorem k5_la : (kS5.wa 1).getLast?.getD (kS5.la 1) = [120] := by decide +kernel
set_option maxRecDepth 100000 in
set_option maxHeartbeats 4000000 in
theorem known_any (w : World) : Calls Try.prog 5 #[] w fun e w' => e = .returned (.bool true) ∧ Below w.heap.size w w' := by
  have kc := fun (W : World) (C : Array Value) (n c : Nat) => Lib.run_convert_bytes_const (P := Try.prog) W 22 5 C n c Try.underlying22 Try.underlying5
  have cNew : Calls Try.prog 6 #[.int .i64 3] w fun e w' => ∃ X O, e = .returned (.tuple #[.pointer (some ⟨X, 0, none⟩), .int .i64 0]) ∧ Dsk w w' X O (DS.new 3) ∧ (∀ k, O k → w.heap.size ≤ k) ∧ Below w.heap.size w w' := d_new (o := w) 3 (by omega) (by omega) (Below.refl w.heap.size w)
  have up0 : (DS.new 3).up := ⟨rfl, rfl, rfl⟩
  have cW : ∀ (S : DS) (hu : S.up) (hl : S.last.length = 3) (hw : S.wtg ≤ 1000000) (hc : S.calls ≤ 4611686018427387904) (x : UInt8) W X O, Dsk w W X O S → Calls Try.prog 7 #[.pointer (some ⟨X, 0, none⟩), .int .i64 1, .slice (some ⟨W.heap.size, 0, none⟩) 1 1] (W.alloc (.cells #[.int .u8 (x.toNat : Int)] 5 (1, 2))) fun e w' => ∃ O', e = .returned (.int .i64 0) ∧ Dsk w w' X O' (S.wr 1 [x]) := by
    intro S hu hl hw hc x W X O hs
    have h2 := hs.below ((Below.refl _ W).alloc (Nat.le_refl _) (.cells #[.int .u8 (x.toNat : Int)] 5 (1, 2)))
    obtain ⟨V, hv⟩ := hs.is
    refine (d_write h2 hu 1 (by omega) hw hc _ [x] _ (Nat.le_refl _) (Sl.freshM (c := 1) W #[.int .u8 (x.toNat : Int)] _ _ rfl (Nat.le_refl _) (by unfold maxLen; omega)) (show [x].length ≤ 512 by simp) ?_).mono ?_
    · intro k _ hk hO
      obtain rfl := Option.some.inj hk
      exact absurd (hv.lt _ hO) (Nat.lt_irrefl _)
    · rintro e w' ⟨O', rfl, h1, _⟩
      exact ⟨O', rfl, h1⟩
  have c1 : ∀ W X O, Dsk w W X O (DS.new 3) → Calls Try.prog 7 #[.pointer (some ⟨X, 0, none⟩), .int .i64 1, .slice (some ⟨W.heap.size, 0, none⟩) 1 1] (W.alloc (.cells #[.int .u8 120] 5 (1, 2))) fun e w' => ∃ O', e = .returned (.int .i64 0) ∧ Dsk w w' X O' (kS1) := fun W X O hs => cW (DS.new 3) up0 (by simp [DS.new]) (by decide) (by decide) 120 W X O hs
  have c2 := fun W X O (hs : Dsk w W X O kS1) => d_flush hs ⟨rfl, rfl, rfl⟩ (by decide) (by decide)
  have c3 : ∀ W X O, Dsk w W X O (kS2) → Calls Try.prog 7 #[.pointer (some ⟨X, 0, none⟩), .int .i64 1, .slice (some ⟨W.heap.size, 0, none⟩) 1 1] (W.alloc (.cells #[.int .u8 121] 5 (1, 2))) fun e w' => ∃ O', e = .returned (.int .i64 0) ∧ Dsk w w' X O' (kS3) := fun W X O hs => cW kS2 ⟨rfl, rfl, rfl⟩ (by decide) (by decide) (by decide) 121 W X O hs
  have c4 := fun W X O (hs : Dsk w W X O kS3) => d_waiting hs
  have c5 := fun W X O (hs : Dsk w W X O kS3) => d_crash hs rfl (by decide) (.slice none 0 0) [] (by simp) Sl.nil_
  have c6 : ∀ W X O, Dsk w W X O kS4 → Calls Try.prog 11 #[.pointer (some ⟨X, 0, none⟩), .int .i64 1] W fun e w' => e = .returned (.tuple #[.slice none 0 0, .int .i64 8]) ∧ W = w' := by
    intro W X O hs
    obtain ⟨V, hv⟩ := hs.is
    exact read_no hv rfl rfl 1
  have c7 := fun W X O (hs : Dsk w W X O kS4) => d_on hs
  have c8 : ∀ W X O, Dsk w W X O kS5 → Calls Try.prog 11 #[.pointer (some ⟨X, 0, none⟩), .int .i64 1] W fun e w' => ∃ g, e = .returned (.tuple #[.slice (some ⟨g, 0, none⟩) 512 512, .int .i64 0]) ∧ w'.cell? ⟨g, 0, none⟩ = some (.int .u8 120) ∧ Dsk w w' X O kS5 := by
    intro W X O hs
    refine (d_read hs rfl rfl 1 (by decide) (by decide)).mono ?_
    rintro e w' ⟨g, rfl, _, h2, h3, _⟩
    rw [k5_la] at h2
    refine ⟨g, rfl, ?_, h3⟩
    rw [h2.cell 0]
    rfl
  have c9 : ∀ W X O, Dsk w W X O kS5 → Calls Try.prog 14 #[.pointer (some ⟨X, 0, none⟩)] W fun e w' => e = .returned (.int .i64 3) ∧ W = w' := by
    intro W X O hs
    obtain ⟨V, hv⟩ := hs.is
    exact sectors_any hv
  have c10 : ∀ W X O, Dsk w W X O kS5 → Calls Try.prog 15 #[.pointer (some ⟨X, 0, none⟩)] W fun e w' => e = .returned (.int .i64 3) ∧ W = w' := by
    intro W X O hs
    obtain ⟨V, hv⟩ := hs.is
    exact calls_any hv
  clear cW
  go_enter Try.func5, Try.ntmps5
  go_wp2_with (first
    | (go_at_call 6; (with_reducible refine cNew.mono ?_); rintro e w1 ⟨X, O1, rfl, s1, _, _⟩)
    | (go_at_call 7; (with_reducible refine (c3 _ _ _ s3).mono ?_); rintro e w4 ⟨O4, rfl, s4⟩)
    | (go_at_call 7; (with_reducible refine (c1 _ _ _ s1).mono ?_); rintro e w2 ⟨O2, rfl, s2⟩)
    | (go_at_call 8; (with_reducible refine (c2 _ _ _ s2).mono ?_); rintro e w3 ⟨rfl, s3, _⟩)
    | (go_at_call 13; (with_reducible refine (c4 _ _ _ s4).mono ?_); rintro e w5 ⟨rfl, rfl⟩)
    | (go_at_call 9; (with_reducible refine (c5 _ _ _ s4).mono ?_); rintro e w6 ⟨rfl, s6, _⟩)
    | (go_at_call 11; (with_reducible refine (c8 _ _ _ s8).mono ?_); rintro e w9 ⟨g9, rfl, y9, s9⟩)
    | (go_at_call 11; (with_reducible refine (c6 _ _ _ s6).mono ?_); rintro e w7 ⟨rfl, rfl⟩)
    | (go_at_call 10; (with_reducible refine (c7 _ _ _ s6).mono ?_); rintro e w8 ⟨rfl, s8, _⟩)
    | (go_at_call 14; (with_reducible refine (c9 _ _ _ s9).mono ?_); rintro e w10 ⟨rfl, rfl⟩)
    | (go_at_call 15; (with_reducible refine (c10 _ _ _ s9).mono ?_); rintro e w11 ⟨rfl, rfl⟩))
  go_ret
  exact ⟨rfl, s9.bl⟩
end Dk
end Go.Proofs.Ythjfigfjkjgogaa
