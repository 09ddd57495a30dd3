/- Package store: the root: encode, decodeRoot. Written by tools/gen-se1.py. -/
import Derived.Test.YtpfackjnnkjjdaaPutB
import Derived.Test.YtpfackjnnkjjdaaPrS
import Derived.Test.YtpfackjnnkjjdaaMm
import Derived.Test.YtpfackjnnkjjdaaCalmK
namespace Go.Proofs.Ytpfackjnnkjjdaa
open Go.ChangeShapes Go.WideShapes Go.ChangeAt Go.RowKit Go.Lib
set_option linter.unusedVariables false
set_option linter.unusedSimpArgs false
set_option maxRecDepth 100000
namespace Se
/-- What the root says. -/
structure Rt where
  epoch : Nat
  base : Nat
  first : Nat
  place : Nat
  life : Nat
  side : Nat
  size : Nat
  sum : Nat
def Rt.row (r : Rt) : Array Value := #[.int .u64 (r.epoch : Nat), .int .u64 (r.base : Nat), .int .u64 (r.first : Nat), .int .i64 (r.place : Nat), .int .u32 (r.life : Nat), .int .i64 (r.side : Nat), .int .i64 (r.size : Nat), .int .u32 (r.sum : Nat)]
/-- A root that has place in its bytes. -/
structure Rt.Ok (r : Rt) : Prop where
  epoch : r.epoch < 18446744073709551616
  base : r.base < 18446744073709551616
  first : r.first < 18446744073709551616
  place : r.place < 512
  life : r.life < 4294967296
  side : r.side < 2
  size : r.size < 24577
  sum : r.sum < 4294967296
def rootB (r : Rt) : List UInt8 := be r.epoch 8 ++ be r.base 8 ++ be r.first 8 ++ be r.place 2 ++ be r.life 4 ++ be r.side 1 ++ be r.size 2 ++ be r.sum 4
theorem rootB_len (r : Rt) : (rootB r).length = 37 := by simp [rootB]
/-- Put, and whose the bytes are. -/
theorem put_o (v : Value) (l : List UInt8) (X N : Int) (x n : Nat) (hX : X = x) (hN : N = n) (w : World) (hv : Sl w w.heap.size v l.length (bs l)) (hx : x < 18446744073709551616) (hl : l.length ≤ 8796093022208) (hn : 1 ≤ n ∧ n ≤ 8) :
    Calls Try.prog 30 #[v, .int .u64 X, .int .i64 N] w fun e w' => ∃ v', e = .returned v' ∧ w'.ownsRow w.heap.size 5 1 v' (l ++ be x n).length (bs (l ++ be x n)) ∧ Below w.heap.size w w' := by
  subst hX; subst hN
  refine (put_any v l x n w hv hx hl (by omega) (by omega)).mono ?_
  rintro e w' ⟨v', rfl, ho, hb⟩
  rw [putS_is l x n hn] at ho
  exact ⟨v', rfl, ho, hb⟩
section
variable {w : World}
set_option maxHeartbeats 4000000 in
theorem encode_any (r : Rt) (hr : r.Ok) : Calls Try.prog 23 #[.agg #[.int .u64 (r.epoch : Nat), .int .u64 (r.base : Nat), .int .u64 (r.first : Nat), .int .i64 (r.place : Nat), .int .u32 (r.life : Nat), .int .i64 (r.side : Nat), .int .i64 (r.size : Nat), .int .u32 (r.sum : Nat)]] w fun e w' => ∃ v, e = .returned v ∧ w'.ownsRow w.heap.size 5 1 v 37 (bs (rootB r)) ∧ Below w.heap.size w w' := by
  obtain ⟨w1, e1, hm1, b1⟩ : ∃ w1, w1 = w.alloc (.cells #[.int .u64 (r.epoch : Nat), .int .u64 (r.base : Nat), .int .u64 (r.first : Nat), .int .i64 (r.place : Nat), .int .u32 (r.life : Nat), .int .i64 (r.side : Nat), .int .i64 (r.size : Nat), .int .u32 (r.sum : Nat)] 57) ∧ Mem w1 w.heap.size 57 #[.int .u64 (r.epoch : Nat), .int .u64 (r.base : Nat), .int .u64 (r.first : Nat), .int .i64 (r.place : Nat), .int .u32 (r.life : Nat), .int .i64 (r.side : Nat), .int .i64 (r.size : Nat), .int .u32 (r.sum : Nat)] ∧ Below w.heap.size w w1 := ⟨_, rfl, Mem.new w _ _, (Below.refl _ w).alloc (Nat.le_refl _) _⟩
  obtain ⟨L1, hL1⟩ : ∃ L, L = be r.epoch 8 := ⟨_, rfl⟩
  have hl1 : L1.length = 8 := by rw [hL1]; simp
  have c1 : ∀ W, Calls Try.prog 30 #[.slice none 0 0, .int .u64 (r.epoch : Nat), .int .i64 8] W fun e w' => ∃ v', e = .returned v' ∧ Sl w' w'.heap.size v' L1.length (bs L1) ∧ Below W.heap.size W w' := fun W => by rw [hL1]; exact put_b (.slice none 0 0) [] _ _ r.epoch 8 rfl rfl W Sl.nil_ (by have := hr.epoch; omega) (by simp) (by decide)
  obtain ⟨L2, hL2⟩ : ∃ L, L = L1 ++ be r.base 8 := ⟨_, rfl⟩
  have hl2 : L2.length = 16 := by rw [hL2, List.length_append, hl1]; simp
  have c2 : ∀ W v, Sl W W.heap.size v L1.length (bs L1) → Calls Try.prog 30 #[v, .int .u64 (r.base : Nat), .int .i64 8] W fun e w' => ∃ v', e = .returned v' ∧ Sl w' w'.heap.size v' L2.length (bs L2) ∧ Below W.heap.size W w' := fun W v h => by rw [hL2]; exact put_b v L1 _ _ r.base 8 rfl rfl W h (by have := hr.base; omega) (by omega) (by decide)
  obtain ⟨L3, hL3⟩ : ∃ L, L = L2 ++ be r.first 8 := ⟨_, rfl⟩
  have hl3 : L3.length = 24 := by rw [hL3, List.length_append, hl2]; simp
  have c3 : ∀ W v, Sl W W.heap.size v L2.length (bs L2) → Calls Try.prog 30 #[v, .int .u64 (r.first : Nat), .int .i64 8] W fun e w' => ∃ v', e = .returned v' ∧ Sl w' w'.heap.size v' L3.length (bs L3) ∧ Below W.heap.size W w' := fun W v h => by rw [hL3]; exact put_b v L2 _ _ r.first 8 rfl rfl W h (by have := hr.first; omega) (by omega) (by decide)
  obtain ⟨L4, hL4⟩ : ∃ L, L = L3 ++ be r.place 2 := ⟨_, rfl⟩
  have hl4 : L4.length = 26 := by rw [hL4, List.length_append, hl3]; simp
  have c4 : ∀ W v, Sl W W.heap.size v L3.length (bs L3) → Calls Try.prog 30 #[v, .int .u64 (r.place : Nat), .int .i64 2] W fun e w' => ∃ v', e = .returned v' ∧ Sl w' w'.heap.size v' L4.length (bs L4) ∧ Below W.heap.size W w' := fun W v h => by rw [hL4]; exact put_b v L3 _ _ r.place 2 rfl rfl W h (by have := hr.place; omega) (by omega) (by decide)
  obtain ⟨L5, hL5⟩ : ∃ L, L = L4 ++ be r.life 4 := ⟨_, rfl⟩
  have hl5 : L5.length = 30 := by rw [hL5, List.length_append, hl4]; simp
  have c5 : ∀ W v, Sl W W.heap.size v L4.length (bs L4) → Calls Try.prog 30 #[v, .int .u64 (r.life : Nat), .int .i64 4] W fun e w' => ∃ v', e = .returned v' ∧ Sl w' w'.heap.size v' L5.length (bs L5) ∧ Below W.heap.size W w' := fun W v h => by rw [hL5]; exact put_b v L4 _ _ r.life 4 rfl rfl W h (by have := hr.life; omega) (by omega) (by decide)
  obtain ⟨L6, hL6⟩ : ∃ L, L = L5 ++ be r.side 1 := ⟨_, rfl⟩
  have hl6 : L6.length = 31 := by rw [hL6, List.length_append, hl5]; simp
  have c6 : ∀ W v, Sl W W.heap.size v L5.length (bs L5) → Calls Try.prog 30 #[v, .int .u64 (r.side : Nat), .int .i64 1] W fun e w' => ∃ v', e = .returned v' ∧ Sl w' w'.heap.size v' L6.length (bs L6) ∧ Below W.heap.size W w' := fun W v h => by rw [hL6]; exact put_b v L5 _ _ r.side 1 rfl rfl W h (by have := hr.side; omega) (by omega) (by decide)
  obtain ⟨L7, hL7⟩ : ∃ L, L = L6 ++ be r.size 2 := ⟨_, rfl⟩
  have hl7 : L7.length = 33 := by rw [hL7, List.length_append, hl6]; simp
  have c7 : ∀ W v, Sl W W.heap.size v L6.length (bs L6) → Calls Try.prog 30 #[v, .int .u64 (r.size : Nat), .int .i64 2] W fun e w' => ∃ v', e = .returned v' ∧ Sl w' w'.heap.size v' L7.length (bs L7) ∧ Below W.heap.size W w' := fun W v h => by rw [hL7]; exact put_b v L6 _ _ r.size 2 rfl rfl W h (by have := hr.size; omega) (by omega) (by decide)
  obtain ⟨L8, hL8⟩ : ∃ L, L = L7 ++ be r.sum 4 := ⟨_, rfl⟩
  have hl8 : L8.length = 37 := by rw [hL8, List.length_append, hl7]; simp
  have c8 : ∀ W v, Sl W W.heap.size v L7.length (bs L7) → Calls Try.prog 30 #[v, .int .u64 (r.sum : Nat), .int .i64 4] W fun e w' => ∃ v', e = .returned v' ∧ w'.ownsRow W.heap.size 5 1 v' L8.length (bs L8) ∧ Below W.heap.size W w' := fun W v h => by rw [hL8]; exact put_o v L7 _ _ r.sum 4 rfl rfl W h (by have := hr.sum; omega) (by omega) (by decide)
  have hroot : rootB r = L8 := by rw [hL8, hL7, hL6, hL5, hL4, hL3, hL2, hL1]; rfl
  have qplace : IntKind.u64.wrap (r.place : Nat) = (r.place : Nat) := by show (r.place : Int) % 18446744073709551616 = _; have := hr.place; omega
  have qlife : IntKind.u64.wrap (r.life : Nat) = (r.life : Nat) := by show (r.life : Int) % 18446744073709551616 = _; have := hr.life; omega
  have qside : IntKind.u64.wrap (r.side : Nat) = (r.side : Nat) := by show (r.side : Int) % 18446744073709551616 = _; have := hr.side; omega
  have qsize : IntKind.u64.wrap (r.size : Nat) = (r.size : Nat) := by show (r.size : Int) % 18446744073709551616 = _; have := hr.size; omega
  have qsum : IntKind.u64.wrap (r.sum : Nat) = (r.sum : Nat) := by show (r.sum : Int) % 18446744073709551616 = _; have := hr.sum; omega
  have H8 := Lib.hid hl8
  have HR := Lib.hid hroot
  clear hroot hL1 hL2 hL3 hL4 hL5 hL6 hL7 hL8 hl1 hl2 hl3 hl4 hl5 hl6 hl7 hl8 hr
  go_enter Try.func23, Try.ntmps23
  go_upto_region 1 with (fail)
  rw [← e1]
  clear e1
  have p0 := hm1.cell 0
  go_wp2_with (first
    | (go_at_call 30; (with_reducible refine (c1 w1).mono ?_); rintro e' w2 ⟨v1, rfl, s1, b2⟩; have hm2 := hm1.below b2 hm1.lt; obtain ⟨A1, d1, rfl, _, _⟩ := s1.form; have p1 := hm2.cell 1)
    | (go_at_call 30; (with_reducible refine (c2 _ _ s1).mono ?_); rintro e' w3 ⟨v2, rfl, s2, b3⟩; have hm3 := hm2.below b3 hm2.lt; obtain ⟨A2, d2, rfl, _, _⟩ := s2.form; have p2 := hm3.cell 2)
    | (go_at_call 30; (with_reducible refine (c3 _ _ s2).mono ?_); rintro e' w4 ⟨v3, rfl, s3, b4⟩; have hm4 := hm3.below b4 hm3.lt; obtain ⟨A3, d3, rfl, _, _⟩ := s3.form; have p3 := hm4.cell 3)
    | (go_at_call 30; (with_reducible refine (c4 _ _ s3).mono ?_); rintro e' w5 ⟨v4, rfl, s4, b5⟩; have hm5 := hm4.below b5 hm4.lt; obtain ⟨A4, d4, rfl, _, _⟩ := s4.form; have p4 := hm5.cell 4)
    | (go_at_call 30; (with_reducible refine (c5 _ _ s4).mono ?_); rintro e' w6 ⟨v5, rfl, s5, b6⟩; have hm6 := hm5.below b6 hm5.lt; obtain ⟨A5, d5, rfl, _, _⟩ := s5.form; have p5 := hm6.cell 5)
    | (go_at_call 30; (with_reducible refine (c6 _ _ s5).mono ?_); rintro e' w7 ⟨v6, rfl, s6, b7⟩; have hm7 := hm6.below b7 hm6.lt; obtain ⟨A6, d6, rfl, _, _⟩ := s6.form; have p6 := hm7.cell 6)
    | (go_at_call 30; (with_reducible refine (c7 _ _ s6).mono ?_); rintro e' w8 ⟨v7, rfl, s7, b8⟩; have hm8 := hm7.below b8 hm7.lt; obtain ⟨A7, d7, rfl, _, _⟩ := s7.form; have p7 := hm8.cell 7)
    | (go_at_call 30; (with_reducible refine (c8 _ _ s7).mono ?_); rintro e' w9 ⟨v8, rfl, s8, b9⟩; have hm9 := hm8.below b9 hm8.lt; obtain ⟨A8, d8, rfl, _, _⟩ := own_form s8))
  go_ret
  refine ⟨_, rfl, ?_, b1.trans ((b2.trans ((b3.trans ((b4.trans ((b5.trans ((b6.trans ((b7.trans ((b8.trans (b9.mono b8.size)).mono b7.size)).mono b6.size)).mono b5.size)).mono b4.size)).mono b3.size)).mono b2.size)).mono b1.size)⟩
  rw [HR.out, ← H8.out]
  have h1 := b1.size
  have h2 := b2.size
  have h3 := b3.size
  have h4 := b4.size
  have h5 := b5.size
  have h6 := b6.size
  have h7 := b7.size
  have h8 := b8.size
  exact owns_mono s8 (by omega)
end
end Se
end Go.Proofs.Ytpfackjnnkjjdaa
