/- Sums of package crc, and of the document's second telling of it: contracts. -/
import Derived.Test.YtpfackjnnkjjdaaCrcF
import Derived.Test.YtpfackjnnkjjdaaCrcT
namespace Go.Proofs.Ytpfackjnnkjjdaa.Crc
open Go.ChangeShapes Go.WideShapes Go.ChangeAt Go.RowKit
set_option linter.unusedVariables false
set_option maxRecDepth 100000

theorem take_snoc (l : List UInt8) (k : Nat) (h : k < l.length) : l.take (k + 1) = l.take k ++ [l[k]] := List.take_succ_eq_append_getElem h

set_option maxHeartbeats 400000 in
theorem feed_any (g : Nat) (s : Nat) (v : Value) (l : List UInt8) (w : World) (hT : Mem w g 119 (cellsT f8)) (hs : s < 4294967296) (hv : Sl w w.heap.size v l.length (bs l)) :
    Calls Try.prog 79 #[.pointer (some ⟨g, 0, none⟩), .int .u32 s, v] w fun e w' => e = .returned (.int .u32 (sumS s l : Nat)) ∧ w = w' := by
  obtain ⟨A, c, rfl, hc1, hc2⟩ := hv.form
  unfold maxLen at hc2
  go_enter Try.func79, Try.ntmps79
  go_wp2
  go_loop [1, 8, 11] (fun sm _ i => ∃ k : Nat, k ≤ l.length ∧ i = .int .i64 k ∧ sm = .int .u32 (sumS s (l.take k) : Nat)) (fun _ _ i => l.length - (intOf i).toNat)
  case atStart => exact ⟨0, by omega, rfl, rfl⟩
  case round =>
    obtain ⟨k, hk, rfl, rfl⟩ := hrel
    by_cases hlt : k < l.length
    · obtain ⟨b, off, rfl, hb, hcell⟩ := hv.at_ (by omega)
      have hx : w.cell? ⟨b, off + k, none⟩ = some (.int .u8 ((l[k]).toNat : Int)) := hcell _ _ (bs_get hlt)
      have hS := sumS_lt (l.take k) hs
      have hxl := (l[k]).toNat_lt
      have hnext : sumS s (l.take (k + 1)) = sumS s (l.take k) / 256 ^^^ f8 (sumS s (l.take k) % 256 ^^^ (l[k]).toNat) := by
        rw [take_snoc l k hlt, sumS_snoc, step8]
      clear hcell
      generalize sumS s (l.take k) = S at *
      generalize hX : (l[k]).toNat = X at *
      have hJ := xor_byte (show S % 256 < 256 by omega) (show X < 256 by omega)
      have hxor : bits BinOp.xor IntKind.u8 ((S : Int) % 256) (X : Int) = ((S % 256 ^^^ X : Nat) : Int) := by
        have h := u8_xor_nat (S % 256) X (by omega) (by omega)
        rw [← h]; simp
      generalize S % 256 ^^^ X = J at *
      have hc := (hT.cell J).trans (cellsT_get _ hJ)
      have hfl : f8 J < 4294967296 := f8_lt (by omega)
      have hxo : bits BinOp.xor IntKind.u32 ((S : Int) / 256) (f8 J : Int) = ((S / 256 ^^^ f8 J : Nat) : Int) := by
        have h := u32_xor_nat (S / 256) (f8 J) (by omega) hfl
        rw [← h]; simp
      have HN := Lib.hid hnext
      clear hnext hX
      go_wp2
      go_round
      case rel => exact ⟨k + 1, by omega, by go_num, by rw [HN.out]⟩
      case measure => simp [intOf]; omega
    · go_wp2
      go_ret
      have : l.take k = l := List.take_of_length_le (by omega)
      exact ⟨by rw [this]; rfl, rfl⟩

theorem not_u32 {x : Nat} (h : x < 4294967296) : bits BinOp.xor IntKind.u32 IntKind.u32.max (x : Int) = ((4294967295 - x : Nat) : Int) := by
  have h1 := u32_xor_nat 4294967295 x (by omega) h
  rw [not32 h, ← h1]
  rfl

theorem more_any (s : Nat) (v : Value) (l : List UInt8) (w : World) (hs : s < 4294967296) (hv : Sl w w.heap.size v l.length (bs l)) :
    Calls Try.prog 65 #[.int .u32 s, v] w fun e w' => e = .returned (.int .u32 (moreS s l : Nat)) ∧ Below w.heap.size w w' := by
  have hzt := zero_tab
  have hv0 := hv
  obtain ⟨A, c, rfl, hc1, hc2⟩ := hv.form
  have hn1 := not_u32 hs
  have hS := sumS_lt l (s := 4294967295 - s) (by omega)
  have hn2 := not_u32 hS
  have hfin : 4294967295 - sumS (4294967295 - s) l = moreS s l := rfl
  rw [hfin] at hn2
  clear hfin
  generalize hM : 4294967295 - s = M at *
  have hMl : M < 4294967296 := by omega
  clear hM
  go_enter Try.func65, Try.ntmps65
  go_wp2_with (first
    | (go_at_call 78; refine (table_any _).mono ?_; rintro e w1 ⟨rfl, hb1⟩; have hm := Mem.new w1 119 (cellsT fun _ => 0))
    | (refine wpList_store_row rfl 119 (.tmp 5) (.tmp 6) rfl w1.heap.size (cellsT f8) rfl rfl 119 _ hm (by rw [cellsT_size]; exact info_tab) (by rw [cellsT_size, cellsT_size]) (cellsT_one _) ?_
       have hb2 := below_setRow (hb1.alloc hb1.size (.cells (cellsT fun _ => 0) 119)) (g := w1.heap.size) hb1.size (cellsT f8)
       have hm2 := hm.row (cellsT f8)
       generalize (w1.alloc (.cells (cellsT fun _ => 0) 119)).setRow w1.heap.size (cellsT f8) = w2 at *
       have hv2 := (hv0.below hb2).more hb2.size))
  refine (feed_any _ M _ l _ hm2 hMl hv2).mono ?_
  rintro e w' ⟨rfl, rfl⟩
  go_wp2_with fail
  go_ret
  exact ⟨rfl, hb2⟩

theorem more_any0 (v : Value) (l : List UInt8) (w : World) (hv : Sl w w.heap.size v l.length (bs l)) :
    Calls Try.prog 65 #[.int .u32 0, v] w fun e w' => e = .returned (.int .u32 (moreS 0 l : Nat)) ∧ Below w.heap.size w w' := more_any 0 v l w (by omega) hv
theorem sum_any (v : Value) (l : List UInt8) (w : World) (hv : Sl w w.heap.size v l.length (bs l)) :
    Calls Try.prog 53 #[v] w fun e w' => e = .returned (.int .u32 (moreS 0 l : Nat)) ∧ Below w.heap.size w w' := by
  have hv0 := hv
  obtain ⟨A, c, rfl, hc1, hc2⟩ := hv.form
  go_enter Try.func53, Try.ntmps53
  go_wp2_with (go_at_call 65; refine (more_any0 _ l _ hv0).mono ?_; rintro e w1 ⟨rfl, hb1⟩)
  go_ret
  exact ⟨rfl, hb1⟩

end Go.Proofs.Ytpfackjnnkjjdaa.Crc
