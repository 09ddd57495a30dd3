/- The document's second telling of keys and holders (gemelref6): contracts. -/
import Derived.Test.YteeeioafhdkagaaPutR
import Derived.Test.YteeeioafhdkagaaPr5
namespace Go.Proofs.Yteeeioafhdkagaa
open Go.ChangeShapes Go.WideShapes Go.ChangeAt Go.RowKit
set_option linter.unusedVariables false
/-- The reference's Put, as its lists call it. -/
theorem rput_b (v : Value) (l : List UInt8) (X N : Int) (x n : Nat) (hX : X = x) (hN : N = n) (w : World) (base : Nat) (hv : w.ownsRow base 5 1 v l.length (bs l)) (hb : base ≤ w.heap.size) (hx : x < 18446744073709551616) (hl : l.length ≤ 8796093022208) (hn : 1 ≤ n ∧ n ≤ 8) :
    Calls Try.prog 40 #[v, .int .u64 X, .int .i64 N] w fun e w' => ∃ v', e = .returned v' ∧ w'.ownsRow base 5 1 v' (l ++ be x n).length (bs (l ++ be x n)) ∧ Below base w w' := by
  subst hX; subst hN
  refine (rput_any v l x n w base hv hb hx hl (by omega) (by omega)).mono ?_
  rintro e w' ⟨v', rfl, ho, hb⟩
  rw [putS_is l x n hn] at ho
  exact ⟨v', rfl, ho, hb⟩
set_option maxHeartbeats 2000000 in
theorem rHolder_any (g k : Nat) (T : Int) (w : World) (hg : g < 4294967296) (hk : k < 18446744073709551616) :
    Calls Try.prog 26 #[.int .u32 g, .int .u64 k, .int .i64 T] w fun e w' => ∃ v', e = .returned v' ∧ Sl w' w'.heap.size v' (holderS g k (T % 16).toNat).length (bs (holderS g k (T % 16).toNat)) ∧ Below w.heap.size w w' := by
  have hT := and_f T
  have ht16 : (T % 16).toNat < 16 := by omega
  generalize (T % 16).toNat = t at *
  have c1 := rput_b (.slice none 0 0) [] g 4 g 4 rfl rfl w w.heap.size (World.ownsRow_nil _ _ _ _) (Nat.le_refl _) (by omega) (by simp) (by omega)
  rw [List.nil_append] at c1
  by_cases h0 : t = 0
  · subst h0
    have c2 : ∀ W v, Below w.heap.size w W → W.ownsRow w.heap.size 5 1 v (be g 4).length (bs (be g 4)) → Calls Try.prog 40 #[v, .int .u64 0, .int .i64 4] W _ := fun W v hW h => rput_b v _ 0 4 0 4 rfl rfl W w.heap.size h hW.size (by omega) (by simp) (by omega)
    go_enter Try.func26, Try.ntmps26
    go_wp2_with (first
      | (go_at_call 40; with_reducible refine c1.mono ?_; rintro e w1 ⟨v1, rfl, hs1, hb1⟩)
      | (go_at_call 40; with_reducible refine (c2 _ _ hb1 hs1).mono ?_; rintro e w2 ⟨v2, rfl, hs2, hb2⟩))
    go_ret
    exact ⟨_, rfl, Sl.of_own hs2, hb1.trans hb2⟩
  · have e0 : holderS g k t = be g 4 ++ be 16 4 ++ be k 8 ++ ([0, 0, 0, 0, 0, UInt8.ofNat t, 0, 0] : List UInt8) := by
      unfold holderS
      rw [if_neg h0]
      have e1 : be 0 5 = ([0, 0, 0, 0, 0] : List UInt8) := by decide +kernel
      have e2 : be 0 2 = ([0, 0] : List UInt8) := by decide +kernel
      have e3 : be t 1 = [UInt8.ofNat t] := by simp [be, beTo]
      rw [e1, e2, e3]
      simp
    have c2 : ∀ W v, Below w.heap.size w W → W.ownsRow w.heap.size 5 1 v (be g 4).length (bs (be g 4)) → Calls Try.prog 40 #[v, .int .u64 16, .int .i64 4] W _ := fun W v hW h => rput_b v _ 16 4 16 4 rfl rfl W w.heap.size h hW.size (by omega) (by simp) (by omega)
    have c3 : ∀ W v, Below w.heap.size w W → W.ownsRow w.heap.size 5 1 v (be g 4 ++ be 16 4).length (bs (be g 4 ++ be 16 4)) → Calls Try.prog 40 #[v, .int .u64 k, .int .i64 8] W _ := fun W v hW h => rput_b v _ k 8 k 8 rfl rfl W w.heap.size h hW.size (by omega) (by simp) (by omega)
    have hne : ((t : Int) == 0) = false := by rw [beq_eq_false_iff_ne]; omega
    have hwt : IntKind.u8.wrap (t : Int) = t := by rw [IntKind.wrap_u8]; omega
    have ht8 : (t : Int) = ((UInt8.ofNat t).toNat : Int) := by rw [UInt8.toNat_ofNat']; omega
    obtain ⟨i0, hi, hz0, hz1, hz2⟩ := info_parts (show (Try.prog.info? 5).map (fun i => (i.zero, i.size, i.bytes)) = some (some (.int .u8 0), 1, 1) by kernel_rfl)
    have hfr : ∀ W : World, Sl (W.alloc (.cells #[.int .u8 0, .int .u8 0, .int .u8 0, .int .u8 0, .int .u8 0, .int .u8 t, .int .u8 0, .int .u8 0] 5)) (W.alloc (.cells #[.int .u8 0, .int .u8 0, .int .u8 0, .int .u8 0, .int .u8 0, .int .u8 t, .int .u8 0, .int .u8 0] 5)).heap.size (.slice (some ⟨W.heap.size, 0, none⟩) 8 8) 8 (bs [0, 0, 0, 0, 0, UInt8.ofNat t, 0, 0]) := by
      intro W
      have h := Sl.fresh W #[.int .u8 0, .int .u8 0, .int .u8 0, .int .u8 0, .int .u8 0, .int .u8 t, .int .u8 0, .int .u8 0] 5 (n := 8) rfl (by unfold maxLen; omega)
      have e : (#[.int .u8 0, .int .u8 0, .int .u8 0, .int .u8 0, .int .u8 0, .int .u8 t, .int .u8 0, .int .u8 0] : Array Value).toList = bs [0, 0, 0, 0, 0, UInt8.ofNat t, 0, 0] := by
        simp only [bs, List.map_cons, List.map_nil]
        rw [← ht8]
        rfl
      rw [e] at h
      exact h
    rw [e0]
    clear e0 h0 ht8
    go_enter Try.func26, Try.ntmps26
    go_wp2_with (first
      | (go_at_call 40; with_reducible refine c1.mono ?_; rintro e w1 ⟨v1, rfl, hs1, hb1⟩)
      | (go_at_call 40; with_reducible refine (c2 _ _ hb1 hs1).mono ?_; rintro e w2 ⟨v2, rfl, hs2, hb2⟩; have hb12 := hb1.trans hb2)
      | (go_at_call 40; with_reducible refine (c3 _ _ hb12 hs2).mono ?_; rintro e w3 ⟨v3, rfl, hs3, hb3⟩; have hb13 := hb12.trans hb3)
      | (at_builtin; refine wpList_append_sl _ rfl (.tmp 20) (.tmp 24) _ rfl w.heap.size 5 i0 _ Try.underlying24 hi hz0 hz1 (by omega) rfl v3 _ _ rfl (hs3.alloc _) _ _ 8 (bs [0, 0, 0, 0, 0, UInt8.ofNat t, 0, 0]) rfl (hfr w3) bs_one (by simp) (hb13.alloc hb13.size _).size ?_; intro v4 w4 hown4 hg4 hat4
         have hb4 : Below w.heap.size w w4 := below_own (hb13.alloc hb13.size _) hg4 (hb13.alloc hb13.size _).size (fun k hk => (hs3.lt k hk).1)))
    go_ret
    refine ⟨_, rfl, ?_, hb4⟩
    rw [← bs_app] at hown4
    have h := Sl.of_own hown4
    rw [List.length_append]
    exact h
set_option maxHeartbeats 2000000 in
theorem rKeys_le (g : Nat) (v : Value) (l : List Nat) (w : World) (hg : g < 4294967296) (hv : Sl w w.heap.size v l.length (u64s l)) (hl : ∀ x ∈ l, x < 18446744073709551616) (hl16 : l.length ≤ 16) :
    Calls Try.prog 25 #[.int .u32 g, v] w fun e w' => ∃ v', e = .returned v' ∧ Sl w' w'.heap.size v' (keysS g l).length (bs (keysS g l)) ∧ Below w.heap.size w w' := by
  obtain ⟨A, c, rfl, hc1, hc2⟩ := hv.form
  unfold maxLen at hc2
  have h16 : ¬ (16 : Int) < l.length := by omega
  have h16b : (l.length : Int) ≤ 16 := by omega
  have c1 := rput_b (.slice none 0 0) [] g 4 g 4 rfl rfl w w.heap.size (World.ownsRow_nil _ _ _ _) (Nat.le_refl _) (by omega) (by simp) (by omega)
  rw [List.nil_append] at c1
  have c2 : ∀ W v, Below w.heap.size w W → W.ownsRow w.heap.size 5 1 v (be g 4).length (bs (be g 4)) → Calls Try.prog 40 #[v, .int .u64 (8 * (l.length : Int)), .int .i64 4] W _ := fun W v hW h => rput_b v _ (8 * (l.length : Int)) 4 (8 * l.length) 4 (by omega) rfl W w.heap.size h hW.size (by omega) (by simp) (by omega)
  have c3 : ∀ k (hk : k < l.length) W v, Below w.heap.size w W → W.ownsRow w.heap.size 5 1 v (be g 4 ++ be (8 * l.length) 4 ++ catK (l.take k)).length (bs (be g 4 ++ be (8 * l.length) 4 ++ catK (l.take k))) → Calls Try.prog 40 #[v, .int .u64 ((l[k] : Nat) : Int), .int .i64 8] W _ :=
    fun k hk W v hW h => rput_b v _ _ 8 _ 8 rfl rfl W w.heap.size h hW.size (hl _ (List.getElem_mem _)) (by rw [List.length_append, catK_len, List.length_take]; simp; omega) (by omega)
  have hMc : (l.length : Int) ≤ c := by omega
  have hw8 : IntKind.u64.wrap (8 * (l.length : Int)) = 8 * (l.length : Int) := by rw [IntKind.wrap_u64]; omega
  have hw64 : IntKind.i64.wrap (8 * (l.length : Int)) = 8 * (l.length : Int) := IntWalk.i64_in _ (by omega)
  clear hl
  go_enter Try.func25, Try.ntmps25
  go_wp2_with (first
    | (go_at_call 40; with_reducible refine c1.mono ?_; rintro e w1 ⟨v1, rfl, hs1, hb1⟩)
    | (go_at_call 40; with_reducible refine (c2 _ _ hb1 hs1).mono ?_; rintro e w2 ⟨v2, rfl, hs2, hb2⟩))
  have hs2' : w2.ownsRow w.heap.size 5 1 v2 (be g 4 ++ be (8 * l.length) 4 ++ catK (l.take 0)).length (bs (be g 4 ++ be (8 * l.length) 4 ++ catK (l.take 0))) := by simpa [catK] using hs2
  have hb12 := hb1.trans hb2
  clear hs1 hs2 c1 c2 hb1 hb2
  go_loopw [5, 6] (fun pv i wr => ∃ k : Nat, k ≤ l.length ∧ i = .int .i64 k ∧ wr.ownsRow w.heap.size 5 1 pv (be g 4 ++ be (8 * l.length) 4 ++ catK (l.take k)).length (bs (be g 4 ++ be (8 * l.length) 4 ++ catK (l.take k))) ∧ Below w.heap.size w wr) (fun _ i _ => l.length - (intOf i).toNat)
  case atStart => exact ⟨0, Nat.zero_le _, rfl, hs2', hb12⟩
  case round =>
    obtain ⟨k, hk, rfl, hsl, hb⟩ := hrel
    by_cases hlt : k < l.length
    · obtain ⟨b, off, rfl, hbB, hcell⟩ := hv.at_ (by omega)
      have hkl : k < l.length := by omega
      have hx : wr.cell? ⟨b, off + k, none⟩ = some (.int .u64 ((l[k] : Nat) : Int)) := (hb.cell (p := ⟨b, off + k, none⟩) hbB).trans (hcell _ _ (u64s_get hkl))
      have c4 := c3 k hkl wr _ hb hsl
      have hsn : catK (l.take (k + 1)) = catK (l.take k) ++ be (l[k]) 8 := by rw [List.take_succ_eq_append_getElem hkl, catK_snoc]
      have HS := Lib.hid hsn
      have hlz : (k : Int) < (l.length : Int) := by omega
      clear hcell c3 hsn hsl
      go_wp2_with (go_at_call 40; with_reducible refine c4.mono ?_; rintro e w3 ⟨v3, rfl, hs3, hb3⟩)
      refine ⟨⟨k + 1, by omega, by go_num, ?_, hb.trans hb3⟩, by simp [intOf]; omega⟩
      rw [HS.out, ← List.append_assoc]
      exact hs3
    · obtain rfl : k = l.length := by omega
      have hlz : ¬ (l.length : Int) < (l.length : Int) := by omega
      go_wp2
      go_ret
      rw [List.take_length] at hsl
      exact ⟨_, rfl, Sl.of_own hsl, hb⟩
set_option maxHeartbeats 2000000 in
theorem rKeys_gt (g : Nat) (v : Value) (l0 l : List Nat) (w : World) (hg : g < 4294967296) (hv0 : Sl w w.heap.size v l0.length (u64s l0)) (hll : 16 < l0.length) (hl0 : l0.take 16 = l) (hl : ∀ x ∈ l, x < 18446744073709551616) :
    Calls Try.prog 25 #[.int .u32 g, v] w fun e w' => ∃ v', e = .returned v' ∧ Sl w' w'.heap.size v' (keysS g l).length (bs (keysS g l)) ∧ Below w.heap.size w w' := by
  obtain ⟨A, c, rfl, hc1, hc2⟩ := hv0.form
  have hv : Sl w w.heap.size (.slice A 16 c) 16 (u64s l) := by
    have h := hv0.take (m := 16) (by omega)
    rw [show (u64s l0).take 16 = u64s l by rw [← hl0]; simp [u64s]] at h
    exact h
  have hL : l.length = 16 := by rw [← hl0, List.length_take]; omega
  unfold maxLen at hc2
  have h16b : (16 : Int) < l0.length := by omega
  have c1 := rput_b (.slice none 0 0) [] g 4 g 4 rfl rfl w w.heap.size (World.ownsRow_nil _ _ _ _) (Nat.le_refl _) (by omega) (by simp) (by omega)
  rw [List.nil_append] at c1
  have c2 : ∀ W v, Below w.heap.size w W → W.ownsRow w.heap.size 5 1 v (be g 4).length (bs (be g 4)) → Calls Try.prog 40 #[v, .int .u64 (128), .int .i64 4] W _ := fun W v hW h => rput_b v _ (128) 4 (8 * l.length) 4 (by omega) rfl W w.heap.size h hW.size (by omega) (by simp) (by omega)
  have c3 : ∀ k (hk : k < l.length) W v, Below w.heap.size w W → W.ownsRow w.heap.size 5 1 v (be g 4 ++ be (8 * l.length) 4 ++ catK (l.take k)).length (bs (be g 4 ++ be (8 * l.length) 4 ++ catK (l.take k))) → Calls Try.prog 40 #[v, .int .u64 ((l[k] : Nat) : Int), .int .i64 8] W _ :=
    fun k hk W v hW h => rput_b v _ _ 8 _ 8 rfl rfl W w.heap.size h hW.size (hl _ (List.getElem_mem _)) (by rw [List.length_append, catK_len, List.length_take]; simp; omega) (by omega)
  have hMc : (16 : Int) ≤ c := by omega
  clear hl hv0 hl0
  go_enter Try.func25, Try.ntmps25
  go_wp2_with (first
    | (go_at_call 40; with_reducible refine c1.mono ?_; rintro e w1 ⟨v1, rfl, hs1, hb1⟩)
    | (go_at_call 40; with_reducible refine (c2 _ _ hb1 hs1).mono ?_; rintro e w2 ⟨v2, rfl, hs2, hb2⟩))
  have hs2' : w2.ownsRow w.heap.size 5 1 v2 (be g 4 ++ be (8 * l.length) 4 ++ catK (l.take 0)).length (bs (be g 4 ++ be (8 * l.length) 4 ++ catK (l.take 0))) := by simpa [catK] using hs2
  have hb12 := hb1.trans hb2
  clear hs1 hs2 c1 c2 hb1 hb2
  go_loopw [5, 6] (fun pv i wr => ∃ k : Nat, k ≤ l.length ∧ i = .int .i64 k ∧ wr.ownsRow w.heap.size 5 1 pv (be g 4 ++ be (8 * l.length) 4 ++ catK (l.take k)).length (bs (be g 4 ++ be (8 * l.length) 4 ++ catK (l.take k))) ∧ Below w.heap.size w wr) (fun _ i _ => 16 - (intOf i).toNat)
  case atStart => exact ⟨0, Nat.zero_le _, rfl, hs2', hb12⟩
  case round =>
    obtain ⟨k, hk, rfl, hsl, hb⟩ := hrel
    by_cases hlt : k < 16
    · obtain ⟨b, off, rfl, hbB, hcell⟩ := hv.at_ (by omega)
      have hkl : k < l.length := by omega
      have hx : wr.cell? ⟨b, off + k, none⟩ = some (.int .u64 ((l[k] : Nat) : Int)) := (hb.cell (p := ⟨b, off + k, none⟩) hbB).trans (hcell _ _ (u64s_get hkl))
      have c4 := c3 k hkl wr _ hb hsl
      have hsn : catK (l.take (k + 1)) = catK (l.take k) ++ be (l[k]) 8 := by rw [List.take_succ_eq_append_getElem hkl, catK_snoc]
      have HS := Lib.hid hsn
      have hlz : (k : Int) < (16 : Int) := by omega
      clear hcell c3 hsn hsl
      go_wp2_with (go_at_call 40; with_reducible refine c4.mono ?_; rintro e w3 ⟨v3, rfl, hs3, hb3⟩)
      refine ⟨⟨k + 1, by omega, by go_num, ?_, hb.trans hb3⟩, by simp [intOf]; omega⟩
      rw [HS.out, ← List.append_assoc]
      exact hs3
    · obtain rfl : k = l.length := by omega
      have hlz : ¬ (l.length : Int) < (16 : Int) := by omega
      go_wp2
      go_ret
      rw [List.take_length] at hsl
      exact ⟨_, rfl, Sl.of_own hsl, hb⟩
theorem rKeys_any (g : Nat) (v : Value) (l : List Nat) (w : World) (hg : g < 4294967296) (hv : Sl w w.heap.size v l.length (u64s l)) (hl : ∀ x ∈ l, x < 18446744073709551616) :
    Calls Try.prog 25 #[.int .u32 g, v] w fun e w' => ∃ v', e = .returned v' ∧ Sl w' w'.heap.size v' (keysS g (l.take 16)).length (bs (keysS g (l.take 16))) ∧ Below w.heap.size w w' := by
  by_cases h : 16 < l.length
  · exact rKeys_gt g v l _ w hg hv h rfl fun x hx => hl x (List.mem_of_mem_take hx)
  · rw [List.take_of_length_le (by omega)]
    exact rKeys_le g v l w hg hv hl (by omega)
end Go.Proofs.Yteeeioafhdkagaa
