/- The document's PDU of noughts as bytes (gemelref7.Encode). -/
import Derived.Test.YtafpaigifemjjaaPd13
import Derived.Test.YtafpaigifemjjaaPutO
namespace Go.Proofs.Ytafpaigifemjjaa
open Go.ChangeShapes Go.WideShapes Go.ChangeAt Go.RowKit
set_option linter.unusedVariables false
theorem rknown0 (w : World) : Calls Try.prog 23 #[.int .i64 0] w fun e w' => e = .returned (.bool true) ∧ Below w.heap.size w w' := by
  go_enter Try.func23, Try.ntmps23
  go_wp2
  go_loopw [4] (fun i wr => i = .int .i64 0 ∧ wr = w.alloc (.cells #[.int .i64 0, .int .i64 1, .int .i64 2, .int .i64 3, .int .i64 5, .int .i64 6, .int .i64 32, .int .i64 33, .int .i64 34, .int .i64 35, .int .i64 37, .int .i64 38, .int .i64 49, .int .i64 63] 3)) (fun _ _ => 0)
  case atStart => exact ⟨rfl, rfl⟩
  case round =>
    obtain ⟨rfl, rfl⟩ := hrel
    go_wp2
    all_goals (first | go_ret | go_ret2)
    all_goals exact ⟨rfl, (Below.refl _ _).alloc (Nat.le_refl _) _⟩
theorem owns_mono {w : World} {base base' e : Nat} {v : Value} {n : Nat} {xs : List Value} (h : w.ownsRow base e 1 v n xs) (hb : base' ≤ base) : w.ownsRow base' e 1 v n xs := by
  refine ⟨h.1, ?_⟩
  rcases h.2 with hn | ⟨g, cap, cur, rfl, hg, rest⟩
  · exact .inl hn
  · exact .inr ⟨g, cap, cur, rfl, Nat.le_trans hb hg, rest⟩
theorem be0 : be 0 4 = List.replicate 4 0 := rfl
theorem zeros4 (n : Nat) : List.replicate n (0 : UInt8) ++ be 0 4 = List.replicate (n + 4) 0 := by rw [be0, List.replicate_append_replicate]
set_option maxHeartbeats 2000000 in
theorem rencode0 (w : World) : Calls Try.prog 10 #[.agg #[Value.int .i64 0, .bool false, .int .i64 0, .int .i64 0, .int .u32 0, .int .u32 0, .int .u32 0, .int .u32 0, .int .u32 0, .int .u32 0, .int .u8 0, .int .u8 0, .int .u8 0, .int .u8 0, .int .u8 0, .int .u8 0, .int .u8 0, .int .u8 0, .int .u8 0, .int .u8 0, .int .u8 0, .int .u8 0, .int .u8 0, .int .u8 0, .int .u8 0, .int .u8 0, .slice none 0 0]] w fun e w' => ∃ v', e = .returned (.tuple #[v', .int .i64 0]) ∧ w'.ownsRow w.heap.size 5 1 v' 52 (bs (Crc.sealS (List.replicate 48 0))) ∧ Below w.heap.size w w' := by
  obtain ⟨i0, hi, hz0, hz1, hz2⟩ := info_parts info_u8
  have hb0 : Below w.heap.size w (w.alloc (.cells #[Value.int .i64 0, .bool false, .int .i64 0, .int .i64 0, .int .u32 0, .int .u32 0, .int .u32 0, .int .u32 0, .int .u32 0, .int .u32 0, .int .u8 0, .int .u8 0, .int .u8 0, .int .u8 0, .int .u8 0, .int .u8 0, .int .u8 0, .int .u8 0, .int .u8 0, .int .u8 0, .int .u8 0, .int .u8 0, .int .u8 0, .int .u8 0, .int .u8 0, .int .u8 0, .slice none 0 0] 35)) := (Below.refl _ _).alloc (Nat.le_refl _) _
  have hm0 := Mem.new w 35 #[Value.int .i64 0, .bool false, .int .i64 0, .int .i64 0, .int .u32 0, .int .u32 0, .int .u32 0, .int .u32 0, .int .u32 0, .int .u32 0, .int .u8 0, .int .u8 0, .int .u8 0, .int .u8 0, .int .u8 0, .int .u8 0, .int .u8 0, .int .u8 0, .int .u8 0, .int .u8 0, .int .u8 0, .int .u8 0, .int .u8 0, .int .u8 0, .int .u8 0, .int .u8 0, .slice none 0 0]
  have hlt0 := hm0.lt
  have hcells : ∀ W, Mem W w.heap.size 35 #[Value.int .i64 0, .bool false, .int .i64 0, .int .i64 0, .int .u32 0, .int .u32 0, .int .u32 0, .int .u32 0, .int .u32 0, .int .u32 0, .int .u8 0, .int .u8 0, .int .u8 0, .int .u8 0, .int .u8 0, .int .u8 0, .int .u8 0, .int .u8 0, .int .u8 0, .int .u8 0, .int .u8 0, .int .u8 0, .int .u8 0, .int .u8 0, .int .u8 0, .int .u8 0, .slice none 0 0] → (W.cell? ⟨w.heap.size, 1, none⟩ = some (.bool false) ∧ W.cell? ⟨w.heap.size, 2, none⟩ = some (.int .i64 0) ∧ W.cell? ⟨w.heap.size, 3, none⟩ = some (.int .i64 0) ∧ W.cell? ⟨w.heap.size, 0, none⟩ = some (.int .i64 0) ∧ W.cell? ⟨w.heap.size, 26, none⟩ = some (.slice none 0 0)) ∧ (W.cell? ⟨w.heap.size, 4, none⟩ = some (.int .u32 0) ∧ W.cell? ⟨w.heap.size, 5, none⟩ = some (.int .u32 0) ∧ W.cell? ⟨w.heap.size, 6, none⟩ = some (.int .u32 0) ∧ W.cell? ⟨w.heap.size, 7, none⟩ = some (.int .u32 0) ∧ W.cell? ⟨w.heap.size, 8, none⟩ = some (.int .u32 0) ∧ W.cell? ⟨w.heap.size, 9, none⟩ = some (.int .u32 0)) :=
    fun W h => ⟨⟨h.cell 1, h.cell 2, h.cell 3, h.cell 0, h.cell 26⟩, h.cell 4, h.cell 5, h.cell 6, h.cell 7, h.cell 8, h.cell 9⟩
  have hcdb : ∀ W, Mem W w.heap.size 35 #[Value.int .i64 0, .bool false, .int .i64 0, .int .i64 0, .int .u32 0, .int .u32 0, .int .u32 0, .int .u32 0, .int .u32 0, .int .u32 0, .int .u8 0, .int .u8 0, .int .u8 0, .int .u8 0, .int .u8 0, .int .u8 0, .int .u8 0, .int .u8 0, .int .u8 0, .int .u8 0, .int .u8 0, .int .u8 0, .int .u8 0, .int .u8 0, .int .u8 0, .int .u8 0, .slice none 0 0] → Sl W W.heap.size (.slice (some ⟨w.heap.size, 10, none⟩) 16 16) 16 (bs (List.replicate 16 0)) := by
    intro W h
    refine ⟨rfl, some ⟨w.heap.size, 10, none⟩, 16, rfl, Nat.le_refl _, by unfold maxLen; omega, fun _ => ⟨w.heap.size, 10, rfl, h.lt, ?_⟩⟩
    intro j u hu
    have hj : j < 16 := (List.getElem?_eq_some_iff.1 hu).1
    rw [h.cell, ← hu]
    match j, hj with
    | 0, _ | 1, _ | 2, _ | 3, _ | 4, _ | 5, _ | 6, _ | 7, _ | 8, _ | 9, _ | 10, _ | 11, _ | 12, _ | 13, _ | 14, _ | 15, _ => rfl
  have hrow4 : ∀ w1 : World, (w1.alloc (.cells (#[Value.int .u8 0, .int .u8 0, .int .u8 0, .int .u8 0]) 5)).ownsRow w1.heap.size 5 1 (.slice (some ⟨w1.heap.size, 0, none⟩) 4 4) 4 (bs (List.replicate 4 0)) :=
    fun w1 => ⟨rfl, .inr ⟨w1.heap.size, 4, #[Value.int .u8 0, .int .u8 0, .int .u8 0, .int .u8 0], rfl, Nat.le_refl _, heap_alloc_new w1 _, Nat.le_refl _, by unfold maxLen; omega, rfl, rfl⟩⟩
  have hput : ∀ W v base n, n ≤ 100 → W.ownsRow base 5 1 v n (bs (List.replicate n 0)) → base ≤ W.heap.size → Calls Try.prog 24 #[v, .int .u64 0, .int .i64 4] W fun e w' => ∃ v', e = .returned v' ∧ w'.ownsRow base 5 1 v' (n + 4) (bs (List.replicate (n + 4) 0)) ∧ OnlyB W w' v v' := by
    intro W v base n hn ho hb
    refine (rput_only v (List.replicate n 0) 0 4 W base (by simpa using ho) hb (by omega) (by simp; omega) (by omega) (by omega)).mono ?_
    rintro e w' ⟨v', rfl, h1, h2⟩
    have hp : putS (List.replicate n (0 : UInt8)) 0 4 = List.replicate (n + 4) 0 := (putS_is _ 0 4 (by omega)).trans (zeros4 n)
    rw [hp] at h1
    exact ⟨v', rfl, by simpa using h1, h2⟩
  go_enter Try.func10, Try.ntmps10
  apply wp_seq_k
  intro K hK
  have HK := Lib.hid hK
  clear hK
  go_wp2
  refine HK.out _ _ ?_
  clear HK
  generalize w.alloc (.cells #[Value.int .i64 0, .bool false, .int .i64 0, .int .i64 0, .int .u32 0, .int .u32 0, .int .u32 0, .int .u32 0, .int .u32 0, .int .u32 0, .int .u8 0, .int .u8 0, .int .u8 0, .int .u8 0, .int .u8 0, .int .u8 0, .int .u8 0, .int .u8 0, .int .u8 0, .int .u8 0, .int .u8 0, .int .u8 0, .int .u8 0, .int .u8 0, .int .u8 0, .int .u8 0, .slice none 0 0] 35) = w0 at *
  obtain ⟨⟨a1, a2, a3, a4, a5⟩, _⟩ := hcells w0 hm0
  have tk := Lib.hid True.intro
  go_wp2_with (first
    | (go_at_call 23; refine (rknown0 _).mono ?_; rintro e w1 ⟨rfl, hb1⟩; have hm1 := hm0.below hb1 hlt0; have hb2 := hb0.trans (hb1.mono hb0.size); obtain ⟨⟨b1, b2, b3, b4, b5⟩, _⟩ := hcells w1 hm1; have hb3 : Below w1.heap.size w1 (w1.alloc (.cells (#[Value.int .u8 0, .int .u8 0, .int .u8 0, .int .u8 0]) 5)) := (Below.refl _ _).alloc (Nat.le_refl _) _; have hm2 := hm1.below hb3 hm1.lt; have h4 := hrow4 w1; obtain ⟨⟨c1, c2, c3, c4, c5⟩, _⟩ := hcells _ hm2)
    | (go_at_call 24; have hq := tk; refine (hput _ _ w1.heap.size 4 (by omega) h4 hb3.size).mono ?_; clear hq tk; rintro e w2 ⟨v2, rfl, hown2, ho2⟩; have hb4 := hb3.trans (ho2.below h4 hb3.size); have hm3 := hm1.below hb4 hm1.lt; obtain ⟨_, d4, d5, d6, d7, d8, d9⟩ := hcells w2 hm3))
  have hg6 : Mem (w2.alloc (.cells (#[Value.int .u32 0, .int .u32 0, .int .u32 0, .int .u32 0, .int .u32 0, .int .u32 0]) 22)) w2.heap.size 22 (#[Value.int .u32 0, .int .u32 0, .int .u32 0, .int .u32 0, .int .u32 0, .int .u32 0]) := Mem.new _ _ _
  have hb5 : Below w1.heap.size w1 (w2.alloc (.cells (#[Value.int .u32 0, .int .u32 0, .int .u32 0, .int .u32 0, .int .u32 0, .int .u32 0]) 22)) := Below.alloc hb4 hb4.size _
  have hown3 := hown2.alloc (.cells (#[Value.int .u32 0, .int .u32 0, .int .u32 0, .int .u32 0, .int .u32 0, .int .u32 0]) 22)
  have hm4 := hm3.alloc (.cells (#[Value.int .u32 0, .int .u32 0, .int .u32 0, .int .u32 0, .int .u32 0, .int .u32 0]) 22)
  have hne : v2.ownBlock ≠ some w2.heap.size := by
    intro e
    have := (hown2.lt _ e).2
    omega
  have hG1 : w1.heap.size ≤ w2.heap.size := hb4.size
  have hGlt := hg6.lt
  clear hown2 hm3
  generalize w2.heap.size = G at *
  generalize w2.alloc (.cells (#[Value.int .u32 0, .int .u32 0, .int .u32 0, .int .u32 0, .int .u32 0, .int .u32 0]) 22) = w3 at *
  clear d4 d5 d6 d7 d8 d9 a1 a2 a3 a4 a5 b1 b2 b3 b4 b5 c1 c2 c3 c4 c5 hb4 ho2
  go_loopw [5, 7] (fun b i wr => ∃ k : Nat, k ≤ 6 ∧ i = .int .i64 k ∧ wr.ownsRow w1.heap.size 5 1 b (8 + 4 * k) (bs (List.replicate (8 + 4 * k) 0)) ∧ Mem wr G 22 (#[Value.int .u32 0, .int .u32 0, .int .u32 0, .int .u32 0, .int .u32 0, .int .u32 0]) ∧ b.ownBlock ≠ some G ∧ Below w1.heap.size w1 wr) (fun _ i _ => 6 - (intOf i).toNat)
  case atStart => exact ⟨0, by omega, rfl, hown3, hg6, hne, hb5⟩
  case round =>
    obtain ⟨k, hk, rfl, hown, hmg, hne', hbr⟩ := hrel
    have hmz := hm1.below hbr hm1.lt
    obtain ⟨Ab, cb, rfl, _, _⟩ := (Sl.of_own hown).form
    have hbrs := hbr.size
    rcases Nat.lt_or_ge k 6 with h6 | h6
    · have hz : wr.cell? ⟨G, k, none⟩ = some (.int .u32 0) := by
        rw [hmg.cell k]
        match k, h6 with
        | 0, _ | 1, _ | 2, _ | 3, _ | 4, _ | 5, _ => rfl
      have hp := hput wr (.slice Ab (8 + 4 * k) cb) w1.heap.size (8 + 4 * k) (by omega) hown hbrs
      go_wp2_with (go_at_call 24; refine hp.mono ?_; rintro e w5 ⟨v5, rfl, hown5, ho5⟩)
      have hkeep : w5.heap[G]? = wr.heap[G]? := ho5.1.block G hmg.lt (fun e => hne' e.symm)
      have hne5 : v5.ownBlock ≠ some G := by
        rcases ho5.2 with e | ⟨g, e, hg⟩
        · rw [e]; exact hne'
        · rw [e]; intro e'; have h1 := Option.some.inj e'; have h2 := hmg.lt; omega
      exact ⟨⟨k + 1, by omega, by go_num, ownsRow_len hown5 (by omega) (by rw [show 8 + 4 * k + 4 = 8 + 4 * (k + 1) by omega]), hkeep.trans hmg, hne5, hbr.trans (ho5.below hown hbrs)⟩, by simp [intOf]; omega⟩
    · obtain rfl : k = 6 := by omega
      obtain ⟨⟨_, _, _, _, a5⟩, _⟩ := hcells wr hmz
      have hs5 := hcdb wr hmz
      have hown32 := ownsRow_len hown (show 8 + 4 * 6 = 32 from rfl) (show bs (List.replicate (8 + 4 * 6) 0) = bs (List.replicate 32 0) from rfl)
      have hz48 : bs (List.replicate 32 (0 : UInt8)) ++ bs (List.replicate 16 0) = bs (List.replicate 48 0) := rfl
      have hl48 : (List.replicate 48 (0 : UInt8)).length = 48 := by simp
      have hsl : bs (List.replicate 48 (0 : UInt8)) ++ bs (Crc.le4 (Crc.moreS 0 (List.replicate 48 0))) = bs (Crc.sealS (List.replicate 48 0)) := by rw [← bs_app]; rfl
      have hmlt := Crc.moreS_lt 0 (List.replicate 48 (0 : UInt8))
      generalize hZ : List.replicate 48 (0 : UInt8) = Z at *
      have tk2 := Lib.hid True.intro
      clear hmg hne'
      go_wp2_with (first
        | (at_builtin; have hq := tk2; refine wpList_append_sl _ rfl (.tmp 82) (.tmp 84) _ rfl w1.heap.size 5 i0 _ Try.underlying24 hi hz0 hz1 (by omega) rfl _ 32 (bs (List.replicate 32 0)) rfl hown32 _ _ 16 (bs (List.replicate 16 0)) rfl hs5 bs_one (by omega) hbrs ?_; clear hq tk2; intro v6 w6 hown6 hg6' hat6; have hb6 : Below w1.heap.size w1 w6 := below_own hbr hg6' hbrs (fun k hk => (hown.lt k hk).1); have hown48 := ownsRow_len hown6 (show 32 + 16 = 48 from rfl) hz48; have hm6 := hm1.below hb6 hm1.lt; have hsl6 := Sl.of_own hown48; obtain ⟨A6, c6, rfl, _, _⟩ := hsl6.form)
        | (go_at_call 12; refine (Crc.rsum_any _ Z _ (by rw [hl48]; exact hsl6)).mono ?_; rintro e w' ⟨rfl, rfl⟩)
        | (go_at_call 11; refine (Crc.four_any (Crc.moreS 0 Z) _ hmlt).mono ?_; rintro e w7 ⟨v7, rfl, hown7, hb7⟩; have hown48b := owns_below hown48 hb7; have hb8 := hb6.trans (hb7.mono hb6.size); have hm7 := hm6.below hb7 hm6.lt; have hs7 := Sl.of_own hown7; obtain ⟨A7, c7, rfl, _, _⟩ := hs7.form)
        | (at_builtin; refine wpList_append_sl _ rfl (.tmp 86) (.tmp 89) _ rfl w1.heap.size 5 i0 _ Try.underlying24 hi hz0 hz1 (by omega) rfl _ 48 (bs Z) rfl hown48b _ _ 4 (bs (Crc.le4 (Crc.moreS 0 Z))) rfl hs7 bs_one (by omega) hb8.size ?_; intro v8 w8 hown8 hg8 hat8; have hb9 : Below w1.heap.size w1 w8 := below_own hb8 hg8 hb8.size (fun k hk => (hown48b.lt k hk).1); have hm8 := hm1.below hb9 hm1.lt; obtain ⟨⟨_, _, _, _, z5⟩, _⟩ := hcells w8 hm8))
      go_ret2
      rw [hsl, ← hZ] at hown8
      have hw1 := hb2.size
      exact ⟨v8, rfl, owns_mono hown8 hb2.size, hb2.trans (hb9.mono hb2.size)⟩
end Go.Proofs.Ytafpaigifemjjaa
