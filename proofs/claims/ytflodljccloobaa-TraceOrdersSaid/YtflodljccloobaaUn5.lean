/- Package lu: New; what onBlocks tells, whatever the kind; Blocks. -/
import Derived.Test.YtflodljccloobaaUn4
import Derived.Test.YtflodljccloobaaUnZ
namespace Go.Proofs.Ytflodljccloobaa
open Go.ChangeShapes Go.WideShapes Go.ChangeAt Go.RowKit Go.Lib
set_option linter.unusedVariables false
set_option linter.unusedSimpArgs false
set_option maxRecDepth 100000
namespace Un
open Rv
/-- Hosts of whom nothing is kept. -/
def hs0 : List Value := [.slice none 0 0, .int .u64 0, .slice none 0 0, .slice none 0 0, .int .u64 0, .slice none 0 0, .slice none 0 0, .int .u64 0, .slice none 0 0, .slice none 0 0, .int .u64 0, .slice none 0 0, .slice none 0 0, .int .u64 0, .slice none 0 0, .slice none 0 0, .int .u64 0, .slice none 0 0, .slice none 0 0, .int .u64 0, .slice none 0 0, .slice none 0 0, .int .u64 0, .slice none 0 0]
theorem hs0_at (H : Nat) (hH : H < 8) : hs0[3 * H]? = some (.slice none 0 0) := by
  have : H = 0 ∨ H = 1 ∨ H = 2 ∨ H = 3 ∨ H = 4 ∨ H = 5 ∨ H = 6 ∨ H = 7 := by omega
  rcases this with rfl | rfl | rfl | rfl | rfl | rfl | rfl | rfl <;> rfl
section
variable {w w' : World} {B Z X g h Y N : Nat} {D D' M M' : List UInt8} {t t' : RT} {hs : List Value}
theorem unew_any (n : Nat) (h1 : 1 ≤ n) (h2 : n ≤ 1024) (w : World) : Calls Try.prog 11 #[.int .i64 (n : Nat)] w fun e w' => ∃ Z X g h Y, e = .returned (.tuple #[.pointer (some ⟨Z, 0, none⟩), .int .i64 0]) ∧ UnM w' w.heap.size Z X g h Y n (List.replicate (8 * n) 0) (List.replicate ((n + 7) / 8) 0) RT.zero hs0 ∧ Below w.heap.size w w' := by
  have c1 := spnew_any n h1 h2 w
  have c2 := fun W => Rv.new_any W
  clear h1 h2
  go_enter Try.func11, Try.ntmps11
  go_wp2_with (first
    | (go_at_call 15; (with_reducible refine c1.mono ?_); rintro e w1 ⟨X, g, h, rfl, s1, b1⟩)
    | (go_at_call 16; (with_reducible refine (c2 _).mono ?_); rintro e w2 ⟨Y, rfl, hY, t2, b2⟩))
  go_ret2
  have b3 := (Below.refl _ w2).alloc (Nat.le_refl _) (.cells (unRow X Y hs0) 72)
  have B2 := b1.trans (b2.mono b1.size)
  exact ⟨w2.heap.size, X, g, h, Y, rfl, ⟨Mem.new w2 _ _, rfl, (s1.below b2).below b3, t2.below b3, B2.size, Nat.le_trans b1.size hY⟩, B2.trans (b3.mono B2.size)⟩
theorem ublocks_any (hu : UnM w B Z X g h Y N D M t hs) : Calls Try.prog 37 #[.pointer (some ⟨Z, 0, none⟩)] w fun e w' => e = .returned (.int .i64 (N : Nat)) ∧ w = w' := by
  have x0 := hu.c0
  have cb := blocks_any hu.sp
  go_enter Try.func37, Try.ntmps37
  go_wp2_with (go_at_call 51; (with_reducible refine cb.mono ?_); rintro e w1 ⟨rfl, rfl⟩)
  go_ret
  exact ⟨rfl, rfl⟩
theorem OnB.rd {cm : Array Value} {s k c i : Int} {l : List UInt8} (hu : UnM w B Z X g h Y N D M t hs) (hc : ∀ W, Below w.heap.size w W → Calls Try.prog 23 #[.pointer (some ⟨Z, 0, none⟩), .agg cm] W fun e w' => ∃ v, e = .returned v ∧ Rep w' W.heap.size v s k c i l ∧ Below W.heap.size W w') : OnB w B Z X g h Y N t hs cm s k c i l D (fun M' => M' = M) := fun W hW => (hc W hW).mono fun e w' ⟨v, q1, q2, q3⟩ => ⟨v, M, q1, q2, rfl, (hu.below hW).below q3, Eff.of q3⟩
theorem OnB.wr {cm : Array Value} {s k c i : Int} {l D' : List UInt8} {QM : List UInt8 → Prop} (hu : UnM w B Z X g h Y N D M t hs) (hc : ∀ W, Below w.heap.size w W → Calls Try.prog 23 #[.pointer (some ⟨Z, 0, none⟩), .agg cm] W fun e w' => ∃ v, e = .returned v ∧ Rep w' W.heap.size v s k c i l ∧ ∃ M', QM M' ∧ SpInv w' B X g h N D' M' ∧ Eff (SpS g h) W w') : OnB w B Z X g h Y N t hs cm s k c i l D' QM := fun W hW => (hc W hW).mono fun e w' ⟨v, q1, q2, M', q5, q3, q4⟩ => ⟨v, M', q1, q2, q5, (hu.below hW).sp' q3 q4, q4⟩
/-- A command's cells. -/
def cmd (kd a n : Int) (v : Value) (ck cn ct : Int) (cf : Bool) : Array Value := #[.int .i64 kd, .int .i64 a, .int .i64 n, v, .int .u64 ck, .int .u64 cn, .int .i64 ct, .bool cf]
variable {v : Value} {ck cn ct : Int} {cf : Bool} {l : List UInt8}
theorem OnB.read (hu : UnM w B Z X g h Y N D M t hs) (a n : Nat) (h3 : n ≤ 32) (ha : a + n ≤ N) : OnB w B Z X g h Y N t hs (cmd 2 (a : Nat) (n : Nat) v ck cn ct cf) 0 0 0 0 (piece D a n) D (fun M' => M' = M) := OnB.rd hu fun W hW => onb_read (hu.below hW) a n v ck cn ct cf h3 ha
theorem OnB.write (hu : UnM w B Z X g h Y N D M t hs) (a n : Nat) (h3 : n ≤ 32) (ha : a + n ≤ N) (hv : Sl w w.heap.size v l.length (bs l)) (hl : l.length = n * 8) : OnB w B Z X g h Y N t hs (cmd 3 (a : Nat) (n : Nat) v ck cn ct cf) 0 0 0 0 [] (laid D a l) (runTo M a n true) := OnB.wr hu fun W hW => onb_write (hu.below hW) a n l v ck cn ct cf h3 ha (hv.now hW) hl
theorem OnB.write_bad (hu : UnM w B Z X g h Y N D M t hs) (a n : Nat) (h3 : n ≤ 32) (ha : a + n ≤ N) (hv : Sl w w.heap.size v l.length (bs l)) (hl : l.length ≠ n * 8) (hl1 : l.length ≤ 100000) : OnB w B Z X g h Y N t hs (cmd 3 (a : Nat) (n : Nat) v ck cn ct cf) 2 5 9216 0 [] D (fun M' => M' = M) := OnB.rd hu fun W hW => onb_write_bad (hu.below hW) a n l v ck cn ct cf h3 ha (hv.now hW) hl hl1
theorem OnB.unmap (hu : UnM w B Z X g h Y N D M t hs) (a n : Nat) (h3 : n ≤ 32) (ha : a + n ≤ N) : OnB w B Z X g h Y N t hs (cmd 5 (a : Nat) (n : Nat) v ck cn ct cf) 0 0 0 0 [] (laid D a (List.replicate (n * 8) 0)) (runTo M a n false) := OnB.wr hu fun W hW => onb_unmap (hu.below hW) a n v ck cn ct cf h3 ha
theorem OnB.sync (hu : UnM w B Z X g h Y N D M t hs) (a n : Nat) (h3 : n ≤ 32) (ha : a + n ≤ N) : OnB w B Z X g h Y N t hs (cmd 4 (a : Nat) (n : Nat) v ck cn ct cf) 0 0 0 0 [] D (fun M' => M' = M) := OnB.rd hu fun W hW => onb_sync (hu.below hW) a n v ck cn ct cf h3 ha
theorem OnB.ready (hu : UnM w B Z X g h Y N D M t hs) (a n : Int) : OnB w B Z X g h Y N t hs (cmd 1 a n v ck cn ct cf) 0 0 0 0 [] D (fun M' => M' = M) := OnB.rd hu fun W hW => onb_ready (hu.below hW) a n v ck cn ct cf
theorem OnB.range (hu : UnM w B Z X g h Y N D M t hs) (kd a n : Int) (hk : kd ≠ 1) (hn : n ≤ 9223372036854775807) (hi : inB N a n = false) : OnB w B Z X g h Y N t hs (cmd kd a n v ck cn ct cf) 2 5 8448 0 [] D (fun M' => M' = M) := OnB.rd hu fun W hW => onb_range (hu.below hW) kd a n v ck cn ct cf hk hn hi
theorem OnB.cmp_bad (hu : UnM w B Z X g h Y N D M t hs) (a n : Nat) (h3 : n ≤ 32) (ha : a + n ≤ N) (hv : Sl w w.heap.size v l.length (bs l)) (hl : l.length ≠ n * 16) (hl1 : l.length ≤ 100000) : OnB w B Z X g h Y N t hs (cmd 6 (a : Nat) (n : Nat) v ck cn ct cf) 2 5 9216 0 [] D (fun M' => M' = M) := OnB.rd hu fun W hW => onb_cmp_bad (hu.below hW) a n l v ck cn ct cf h3 ha (hv.now hW) hl hl1
theorem OnB.cmp_no (hu : UnM w B Z X g h Y N D M t hs) (a n : Nat) (h3 : n ≤ 32) (ha : a + n ≤ N) (hv : Sl w w.heap.size v l.length (bs l)) (hl : l.length = n * 16) (k : Nat) (hk : k < n * 8) (heq : ∀ j, j < k → D[a * 8 + j]? = l[j]?) (hne : D[a * 8 + k]? ≠ l[k]?) : OnB w B Z X g h Y N t hs (cmd 6 (a : Nat) (n : Nat) v ck cn ct cf) 2 14 7424 (k : Nat) [] D (fun M' => M' = M) := OnB.rd hu fun W hW => onb_cmp_no (hu.below hW) a n l v ck cn ct cf h3 ha (hv.now hW) hl k hk heq hne
theorem OnB.cmp_yes (hu : UnM w B Z X g h Y N D M t hs) (a n : Nat) (h3 : n ≤ 32) (ha : a + n ≤ N) (hv : Sl w w.heap.size v l.length (bs l)) (hl : l.length = n * 16) (heq : ∀ j, j < n * 8 → D[a * 8 + j]? = l[j]?) : OnB w B Z X g h Y N t hs (cmd 6 (a : Nat) (n : Nat) v ck cn ct cf) 0 0 0 0 [] (laid D a (l.drop (n * 8))) (runTo M a n true) := by
  by_cases h0 : n = 0
  · have e : l = [] := List.eq_nil_of_length_eq_zero (by omega)
    subst e
    have q := OnB.wr hu fun W hW => onb_cmp_zero (hu.below hW) a n [] v ck cn ct cf h3 ha (hv.now hW) hl h0
    rw [List.drop_nil]
    exact q
  · exact OnB.wr hu fun W hW => onb_cmp_yes (hu.below hW) a n l v ck cn ct cf h3 ha (hv.now hW) hl (by omega) heq
end
end Un
end Go.Proofs.Ytflodljccloobaa
