/- Package mpath: a path in memory; New. -/
import Derived.Test.YtoogmdokcndieaaMp1
import Derived.Test.YtoogmdokcndieaaTmS
namespace Go.Proofs.Ytoogmdokcndieaa
open Go.ChangeShapes Go.WideShapes Go.ChangeAt Go.RowKit Go.Lib
set_option linter.unusedVariables false
set_option linter.unusedSimpArgs false
set_option maxRecDepth 100000
namespace Nw
/-- A command that waits. -/
structure It where
  id : Nat
  c : Cm
  v : Value
  d : List UInt8
  due : Bool
def It.cells (x : It) : List Value := [.int .u64 (x.id : Nat), .int .i64 x.c.kind, .int .i64 x.c.at', .int .i64 x.c.n, x.v, .int .u64 (x.c.key : Nat), .int .u64 (x.c.new : Nat), .int .i64 x.c.typ, .bool x.c.force, .bool x.due]
def rowW (l : List It) : List Value := l.flatMap It.cells
theorem rowW_len (l : List It) : (rowW l).length = l.length * 10 := by
  induction l with
  | nil => rfl
  | cons a l ih => unfold rowW at *; simp only [List.flatMap_cons, List.length_append, ih, List.length_cons]; simp [It.cells]; omega
/-- A path made since o, to which nothing was told and for which no time went by. -/
structure Pth (o w : World) (X Y host : Nat) (its : List It) (S : List One) : Prop where
  from_ : o.heap.size ≤ X
  bl : Below o.heap.size o w
  is : ∃ v, Mem w X 50 #[.int .i64 (host : Nat), .int .u64 (its.length : Nat), v, .slice none 0 0, .int .i64 0, .int .i64 0, .pointer (some ⟨Y, 0, none⟩)] ∧ w.ownsRow o.heap.size 52 10 v its.length (rowW its)
  dat : ∀ x ∈ its, w.ownsRow o.heap.size 5 1 x.v x.d.length (bs x.d)
  tm : TmS o w Y S 0
  few : S.length ≤ its.length
  ids : ∀ i (h : i < its.length), its[i].id = i + 1
section
variable {o w w' : World} {X Y host : Nat} {its : List It} {S : List One}
theorem Pth.below (h : Pth o w X Y host its S) (hb : Below w.heap.size w w') : Pth o w' X Y host its S := ⟨h.from_, h.bl.trans (hb.mono h.bl.size), h.is.imp fun v hv => ⟨hv.1.below hb hv.1.lt, owns_below hv.2 hb⟩, fun x hx => owns_below (h.dat x hx) hb, h.tm.below hb, h.few, h.ids⟩
theorem path_new (hb : Below o.heap.size o w) (host : Nat) (hh : host ≤ 7) : Calls Try.prog 5 #[.int .i64 (host : Nat)] w fun e' w' => ∃ X Y, e' = .returned (.tuple #[.pointer (some ⟨X, 0, none⟩), .int .i64 0]) ∧ Pth o w' X Y host [] [] ∧ Below w.heap.size w w' := by
  have c1 := new_s (o := o) (w := w) hb
  have hhx : (host : Int) ≤ 7 := by omega
  go_enter Try.func5, Try.ntmps5
  go_wp2_with (go_at_call 12; (with_reducible refine c1.mono ?_); rintro e' w1 ⟨rfl, t1, b1⟩)
  have B1 : Below w1.heap.size w1 (w1.alloc (.cells #[.int .i64 (host : Nat), .int .u64 0, .slice none 0 0, .slice none 0 0, .int .i64 0, .int .i64 0, .pointer (some ⟨w.heap.size, 0, none⟩)] 50)) := (Below.refl _ w1).alloc (Nat.le_refl _) _
  refine bodyPost_ret (v := .tuple #[.pointer (some ⟨w1.heap.size, 0, none⟩), .int .i64 0]) (by simp [results, Try.results5, go_sem]) rfl ⟨_, _, rfl, ⟨t1.bl.size, t1.bl.trans (B1.mono t1.bl.size), ⟨_, Mem.new w1 _ _, World.ownsRow_nil _ _ _ _⟩, fun x hx => (by cases hx), t1.below B1, Nat.le_refl _, fun i h => absurd h (by simp)⟩, b1.trans (B1.mono b1.size)⟩
end
end Nw
end Go.Proofs.Ytoogmdokcndieaa
