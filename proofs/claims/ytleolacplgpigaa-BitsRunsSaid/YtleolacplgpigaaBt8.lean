/- Package bits: join, Or, Same: contracts. -/
import Derived.Test.YtleolacplgpigaaBt7
namespace Go.Proofs.Ytleolacplgpigaa
open Go.ChangeShapes Go.WideShapes Go.ChangeAt Go.RowKit Go.Lib
set_option linter.unusedVariables false
set_option linter.unusedSimpArgs false
/-- Two rows joined byte by byte, as long as the longer one. -/
def jn (g : UInt8 → UInt8 → UInt8) (a b : List UInt8) : List UInt8 := (List.range (max a.length b.length)).map fun i => g (a.getD i 0) (b.getD i 0)
theorem jn_len (g : UInt8 → UInt8 → UInt8) (a b : List UInt8) : (jn g a b).length = max a.length b.length := by simp [jn]
theorem jn_get (g : UInt8 → UInt8 → UInt8) (a b : List UInt8) (i : Nat) (h : i < max a.length b.length) : (jn g a b)[i]? = some (g (a.getD i 0) (b.getD i 0)) := by
  simp only [jn, List.getElem?_map, List.getElem?_range h]
  rfl
/-- What a row holds that is joined so far. -/
def jnTo (g : UInt8 → UInt8 → UInt8) (a b : List UInt8) (k : Nat) : List UInt8 := (jn g a b).take k ++ List.replicate (max a.length b.length - k) 0
theorem jnTo_len (g : UInt8 → UInt8 → UInt8) (a b : List UInt8) (k : Nat) (h : k ≤ max a.length b.length) : (jnTo g a b k).length = max a.length b.length := by
  simp [jnTo, jn_len]; omega
theorem jnTo_zero (g : UInt8 → UInt8 → UInt8) (a b : List UInt8) : jnTo g a b 0 = List.replicate (max a.length b.length) 0 := by simp [jnTo]
theorem jnTo_all (g : UInt8 → UInt8 → UInt8) (a b : List UInt8) : jnTo g a b (max a.length b.length) = jn g a b := by
  unfold jnTo
  rw [List.take_of_length_le (by rw [jn_len]; exact Nat.le_refl _)]
  simp
theorem jnTo_put (g : UInt8 → UInt8 → UInt8) (a b : List UInt8) (k : Nat) (h : k < max a.length b.length) : (jnTo g a b k).set k (g (a.getD k 0) (b.getD k 0)) = jnTo g a b (k + 1) := by
  unfold jnTo
  have hl : ((jn g a b).take k).length = k := by rw [List.length_take, jn_len]; omega
  rw [List.set_append_right _ _ (by omega), hl, Nat.sub_self]
  rw [List.take_add_one, jn_get g a b k h, show max a.length b.length - k = (max a.length b.length - (k + 1)) + 1 by omega, List.replicate_succ, List.set_cons_zero]
  simp
theorem below_setCell {B : Nat} {a w : World} (h : Below B a w) {p : Addr} (hg : B ≤ p.block) (u : Value) : Below B a (w.setCell p u) := h.setCell hg u
theorem getD_in {l : List UInt8} {i : Nat} (h : i < l.length) : l.getD i 0 = l[i] := by rw [List.getD_eq_getElem?_getD, List.getElem?_eq_getElem h]; rfl
theorem getD_out {l : List UInt8} {i : Nat} (h : l.length ≤ i) : l.getD i 0 = 0 := by rw [List.getD_eq_getElem?_getD, List.getElem?_eq_none h]; rfl
theorem or8 (x y : UInt8) : bits BinOp.or IntKind.u8 (x.toNat : Int) (y.toNat : Int) = ((x ||| y).toNat : Int) := by
  rw [UInt8.toNat_or]
  have ha := x.toNat_lt
  have hb := y.toNat_lt
  generalize x.toNat = a at *
  generalize y.toNat = b at *
  have hx : a ||| b < 2 ^ 8 := Nat.or_lt_two_pow (by omega) (by omega)
  have h1 : (BitVec.ofInt 8 (a : Int)).toNat = a := by
    rw [BitVec.ofInt_natCast, BitVec.toNat_ofNat]; exact Nat.mod_eq_of_lt (by omega)
  have h2 : (BitVec.ofInt 8 (b : Int)).toNat = b := by
    rw [BitVec.ofInt_natCast, BitVec.toNat_ofNat]; exact Nat.mod_eq_of_lt (by omega)
  show IntKind.u8.wrap ((BitVec.ofInt 8 (a : Int) ||| BitVec.ofInt 8 (b : Int)).toNat : Int) = _
  rw [BitVec.toNat_or, h1, h2, IntKind.wrap_u8]
  omega
theorem xorb (x y : UInt8) : bits BinOp.xor IntKind.u8 (x.toNat : Int) (y.toNat : Int) = ((x ^^^ y).toNat : Int) := by
  rw [UInt8.toNat_xor]
  have ha := x.toNat_lt
  have hb := y.toNat_lt
  generalize x.toNat = a at *
  generalize y.toNat = b at *
  have hx : a ^^^ b < 2 ^ 8 := Nat.xor_lt_two_pow (by omega) (by omega)
  have h1 : (BitVec.ofInt 8 (a : Int)).toNat = a := by
    rw [BitVec.ofInt_natCast, BitVec.toNat_ofNat]; exact Nat.mod_eq_of_lt (by omega)
  have h2 : (BitVec.ofInt 8 (b : Int)).toNat = b := by
    rw [BitVec.ofInt_natCast, BitVec.toNat_ofNat]; exact Nat.mod_eq_of_lt (by omega)
  show IntKind.u8.wrap ((BitVec.ofInt 8 (a : Int) ^^^ BitVec.ofInt 8 (b : Int)).toNat : Int) = _
  rw [BitVec.toNat_xor, h1, h2, IntKind.wrap_u8]
  omega
theorem orf (x y : UInt8) (w : World) : Calls Try.prog 18 #[.int .u8 (x.toNat : Int), .int .u8 (y.toNat : Int)] w fun e w' => e = .returned (.int .u8 ((x ||| y).toNat : Int)) ∧ w = w' := by
  have h := or8 x y
  go_enter Try.func18, Try.ntmps18
  go_wp2
  go_ret
  exact ⟨rfl, rfl⟩
theorem xorf (x y : UInt8) (w : World) : Calls Try.prog 17 #[.int .u8 (x.toNat : Int), .int .u8 (y.toNat : Int)] w fun e w' => e = .returned (.int .u8 ((x ^^^ y).toNat : Int)) ∧ w = w' := by
  have h := xorb x y
  go_enter Try.func17, Try.ntmps17
  go_wp2
  go_ret
  exact ⟨rfl, rfl⟩
set_option maxHeartbeats 1000000 in
theorem join_or (va vb : Value) (a b : List UInt8) (w : World) (ha : a.length ≤ 1000000) (hb : b.length ≤ 1000000) (hda : Sl w w.heap.size va a.length (bs a)) (hdb : Sl w w.heap.size vb b.length (bs b)) :
    Calls Try.prog 16 #[va, vb, .func (.func 18) #[] #[]] w fun e w' => ∃ v, e = .returned v ∧ w'.ownsRow w.heap.size 5 1 v (max a.length b.length) (bs (jn (· ||| ·) a b)) ∧ Below w.heap.size w w' := by
  obtain ⟨i0, hi, hz0, hz1, hz2⟩ := info_parts (show (Try.prog.info? 5).map (fun i => (i.zero, i.size, i.bytes)) = some (some (.int .u8 0), 1, 1) by kernel_rfl)
  obtain ⟨A1, c1, rfl, hc1, hc2⟩ := hda.form
  obtain ⟨A2, c2, rfl, hc3, hc4⟩ := hdb.form
  have hax : (a.length : Int) ≤ 1000000 := by omega
  have hbx : (b.length : Int) ≤ 1000000 := by omega
  have hK : (if a.length < b.length then (b.length : Int) else (a.length : Int)) = ((max a.length b.length : Nat) : Int) := by split <;> omega
  have hKb : max a.length b.length ≤ 1000000 := by omega
  have hto := jnTo_zero (· ||| ·) a b
  have htl := jnTo_len (· ||| ·) a b
  have htp := jnTo_put (· ||| ·) a b
  have hta := jnTo_all (· ||| ·) a b
  have hKa : a.length ≤ max a.length b.length := by omega
  have hKb2 : b.length ≤ max a.length b.length := by omega
  have hKm : max a.length b.length ≤ a.length ∨ max a.length b.length ≤ b.length := by omega
  generalize hKe : max a.length b.length = K at *
  have HK := Lib.hid hK
  clear hK hKe
  have HTO := Lib.hid hto
  have HTL := Lib.hid htl
  have HTP := Lib.hid htp
  have HTA := Lib.hid hta
  clear hto htl htp hta
  go_enter Try.func16, Try.ntmps16
  go_wp2_with (at_make; (refine wpList_make_full _ rfl (.tmp 15) (.tmp 15) 25 rfl w.heap.size 5 i0 _ 1 Try.underlying25 hi hz0 hz1 .i64 .i64 _ _ K rfl rfl HK.out HK.out (by rw [hz2]; omega) (by unfold maxLen; omega) (Nat.le_refl _) ?_; intro w2 hown2 hg2))
  all_goals
    have hb2 : Below w.heap.size w w2 := (Below.refl _ w).grown hg2 (Nat.le_refl _) (fun k hk => by cases hk)
    have e0 : (madeCells (Value.int .u8 0).cells (K * 1)).toList = bs (jnTo (· ||| ·) a b 0) := by rw [made_bytes, HTO.out]; simp [bs]
    rw [e0] at hown2
    clear e0 hg2
    have hKx : (K : Int) ≤ 1000000 := by omega
    go_loopw [8, 9, 10, 19] (fun x8 x9 x10 i wr => ∃ (k : Nat), k ≤ K ∧ i = .int .i64 k ∧ wr.ownsRow w.heap.size 5 1 (.slice (some ⟨w.heap.size, 0, none⟩) K K) K (bs (jnTo (· ||| ·) a b k)) ∧ Below w.heap.size w wr) (fun _ _ _ i _ => K - (intOf i).toNat)
    case atStart => exact ⟨0, by omega, rfl, hown2, hb2⟩
    case round =>
      clear hown2 hb2
      obtain ⟨k, hk, rfl, hown, hb⟩ := hrel
      by_cases hkK : k < K
      · have hkx : (k : Int) < (K : Int) := by omega
        have hpa : k < a.length → Hid (∃ b1 o1, A1 = some ⟨b1, o1, none⟩ ∧ wr.cell? ⟨b1, o1 + k, none⟩ = some (.int .u8 ((a.getD k 0).toNat : Int))) := fun h => by
          obtain ⟨b1, o1, e1, _, hat⟩ := (hda.below hb).at_ (by omega)
          exact Lib.hid ⟨b1, o1, e1, hat _ _ (by rw [getD_in h]; exact bs_get h)⟩
        have hpb : k < b.length → Hid (∃ b1 o1, A2 = some ⟨b1, o1, none⟩ ∧ wr.cell? ⟨b1, o1 + k, none⟩ = some (.int .u8 ((b.getD k 0).toNat : Int))) := fun h => by
          obtain ⟨b1, o1, e1, _, hat⟩ := (hdb.below hb).at_ (by omega)
          exact Lib.hid ⟨b1, o1, e1, hat _ _ (by rw [getD_in h]; exact bs_get h)⟩
        have hna : ¬ k < a.length → a.getD k 0 = 0 := fun h => getD_out (by omega)
        have hnb : ¬ k < b.length → b.getD k 0 = 0 := fun h => getD_out (by omega)
        have hf := orf (a.getD k 0) (b.getD k 0) wr
        have hfz := hown.frozenAt k
        have hkl : k < (jnTo (· ||| ·) a b k).length := by rw [HTL.out k hk]; exact hkK
        have hcl := hown.cellAt k (by simpa using hkK)
        rw [bs_get hkl] at hcl
        generalize ((jnTo (· ||| ·) a b k)[k]) = z at hcl
        clear hkl
        have hst := Lib.hid (hown.stored k)
        have HP := Lib.hid (HTP.out k hkK)
        generalize a.getD k 0 = x at *
        generalize b.getD k 0 = y at *
        by_cases h1 : k < a.length <;> by_cases h2 : k < b.length
        · have h1x : (k : Int) < (a.length : Int) := by omega
          have h2x : (k : Int) < (b.length : Int) := by omega
          obtain ⟨b1, o1, rfl, hq1⟩ := (hpa h1).out
          obtain ⟨b2, o2, rfl, hq2⟩ := (hpb h2).out
          clear hpa hpb hna hnb
          go_wp2_with (go_at_call 18; (with_reducible refine hf.mono ?_); rintro e w3 ⟨rfl, rfl⟩)
          refine ⟨⟨k + 1, by omega, by simp, ?_, below_setCell hb (Nat.le_refl _) _⟩, by simp [intOf]; omega⟩
          rw [← HP.out, ← bs_set8]
          exact (hst.out _).1
        · first
          | (exfalso; omega)
          | (have h1x : (k : Int) < (a.length : Int) := by omega
             have h2x : ¬ (k : Int) < (b.length : Int) := by omega
             obtain ⟨b1, o1, rfl, hq1⟩ := (hpa h1).out
             obtain rfl := hnb h2
             rw [show (((0 : UInt8).toNat : Nat) : Int) = 0 from rfl] at hf
             simp only [UInt8.or_zero, UInt8.zero_or] at hf HP
             clear hpa hpb hna hnb
             go_wp2_with (go_at_call 18; (with_reducible refine hf.mono ?_); rintro e w3 ⟨rfl, rfl⟩)
             refine ⟨⟨k + 1, by omega, by simp, ?_, below_setCell hb (Nat.le_refl _) _⟩, by simp [intOf]; omega⟩
             rw [← HP.out, ← bs_set8]
             exact (hst.out _).1)
        · first
          | (exfalso; omega)
          | (have h1x : ¬ (k : Int) < (a.length : Int) := by omega
             have h2x : (k : Int) < (b.length : Int) := by omega
             obtain ⟨b2, o2, rfl, hq2⟩ := (hpb h2).out
             obtain rfl := hna h1
             rw [show (((0 : UInt8).toNat : Nat) : Int) = 0 from rfl] at hf
             simp only [UInt8.or_zero, UInt8.zero_or] at hf HP
             clear hpa hpb hna hnb
             go_wp2_with (go_at_call 18; (with_reducible refine hf.mono ?_); rintro e w3 ⟨rfl, rfl⟩)
             refine ⟨⟨k + 1, by omega, by simp, ?_, below_setCell hb (Nat.le_refl _) _⟩, by simp [intOf]; omega⟩
             rw [← HP.out, ← bs_set8]
             exact (hst.out _).1)
        · omega
      · obtain rfl : k = K := by omega
        go_wp2
        go_ret
        refine ⟨_, rfl, ?_, hb⟩
        rw [← HTA.out]
        exact hown
set_option maxHeartbeats 1000000 in
theorem join_xor (va vb : Value) (a b : List UInt8) (w : World) (ha : a.length ≤ 1000000) (hb : b.length ≤ 1000000) (hda : Sl w w.heap.size va a.length (bs a)) (hdb : Sl w w.heap.size vb b.length (bs b)) :
    Calls Try.prog 16 #[va, vb, .func (.func 17) #[] #[]] w fun e w' => ∃ v, e = .returned v ∧ w'.ownsRow w.heap.size 5 1 v (max a.length b.length) (bs (jn (· ^^^ ·) a b)) ∧ Below w.heap.size w w' := by
  obtain ⟨i0, hi, hz0, hz1, hz2⟩ := info_parts (show (Try.prog.info? 5).map (fun i => (i.zero, i.size, i.bytes)) = some (some (.int .u8 0), 1, 1) by kernel_rfl)
  obtain ⟨A1, c1, rfl, hc1, hc2⟩ := hda.form
  obtain ⟨A2, c2, rfl, hc3, hc4⟩ := hdb.form
  have hax : (a.length : Int) ≤ 1000000 := by omega
  have hbx : (b.length : Int) ≤ 1000000 := by omega
  have hK : (if a.length < b.length then (b.length : Int) else (a.length : Int)) = ((max a.length b.length : Nat) : Int) := by split <;> omega
  have hKb : max a.length b.length ≤ 1000000 := by omega
  have hto := jnTo_zero (· ^^^ ·) a b
  have htl := jnTo_len (· ^^^ ·) a b
  have htp := jnTo_put (· ^^^ ·) a b
  have hta := jnTo_all (· ^^^ ·) a b
  have hKa : a.length ≤ max a.length b.length := by omega
  have hKb2 : b.length ≤ max a.length b.length := by omega
  have hKm : max a.length b.length ≤ a.length ∨ max a.length b.length ≤ b.length := by omega
  generalize hKe : max a.length b.length = K at *
  have HK := Lib.hid hK
  clear hK hKe
  have HTO := Lib.hid hto
  have HTL := Lib.hid htl
  have HTP := Lib.hid htp
  have HTA := Lib.hid hta
  clear hto htl htp hta
  go_enter Try.func16, Try.ntmps16
  go_wp2_with (at_make; (refine wpList_make_full _ rfl (.tmp 15) (.tmp 15) 25 rfl w.heap.size 5 i0 _ 1 Try.underlying25 hi hz0 hz1 .i64 .i64 _ _ K rfl rfl HK.out HK.out (by rw [hz2]; omega) (by unfold maxLen; omega) (Nat.le_refl _) ?_; intro w2 hown2 hg2))
  all_goals
    have hb2 : Below w.heap.size w w2 := (Below.refl _ w).grown hg2 (Nat.le_refl _) (fun k hk => by cases hk)
    have e0 : (madeCells (Value.int .u8 0).cells (K * 1)).toList = bs (jnTo (· ^^^ ·) a b 0) := by rw [made_bytes, HTO.out]; simp [bs]
    rw [e0] at hown2
    clear e0 hg2
    have hKx : (K : Int) ≤ 1000000 := by omega
    go_loopw [8, 9, 10, 19] (fun x8 x9 x10 i wr => ∃ (k : Nat), k ≤ K ∧ i = .int .i64 k ∧ wr.ownsRow w.heap.size 5 1 (.slice (some ⟨w.heap.size, 0, none⟩) K K) K (bs (jnTo (· ^^^ ·) a b k)) ∧ Below w.heap.size w wr) (fun _ _ _ i _ => K - (intOf i).toNat)
    case atStart => exact ⟨0, by omega, rfl, hown2, hb2⟩
    case round =>
      clear hown2 hb2
      obtain ⟨k, hk, rfl, hown, hb⟩ := hrel
      by_cases hkK : k < K
      · have hkx : (k : Int) < (K : Int) := by omega
        have hpa : k < a.length → Hid (∃ b1 o1, A1 = some ⟨b1, o1, none⟩ ∧ wr.cell? ⟨b1, o1 + k, none⟩ = some (.int .u8 ((a.getD k 0).toNat : Int))) := fun h => by
          obtain ⟨b1, o1, e1, _, hat⟩ := (hda.below hb).at_ (by omega)
          exact Lib.hid ⟨b1, o1, e1, hat _ _ (by rw [getD_in h]; exact bs_get h)⟩
        have hpb : k < b.length → Hid (∃ b1 o1, A2 = some ⟨b1, o1, none⟩ ∧ wr.cell? ⟨b1, o1 + k, none⟩ = some (.int .u8 ((b.getD k 0).toNat : Int))) := fun h => by
          obtain ⟨b1, o1, e1, _, hat⟩ := (hdb.below hb).at_ (by omega)
          exact Lib.hid ⟨b1, o1, e1, hat _ _ (by rw [getD_in h]; exact bs_get h)⟩
        have hna : ¬ k < a.length → a.getD k 0 = 0 := fun h => getD_out (by omega)
        have hnb : ¬ k < b.length → b.getD k 0 = 0 := fun h => getD_out (by omega)
        have hf := xorf (a.getD k 0) (b.getD k 0) wr
        have hfz := hown.frozenAt k
        have hkl : k < (jnTo (· ^^^ ·) a b k).length := by rw [HTL.out k hk]; exact hkK
        have hcl := hown.cellAt k (by simpa using hkK)
        rw [bs_get hkl] at hcl
        generalize ((jnTo (· ^^^ ·) a b k)[k]) = z at hcl
        clear hkl
        have hst := Lib.hid (hown.stored k)
        have HP := Lib.hid (HTP.out k hkK)
        generalize a.getD k 0 = x at *
        generalize b.getD k 0 = y at *
        by_cases h1 : k < a.length <;> by_cases h2 : k < b.length
        · have h1x : (k : Int) < (a.length : Int) := by omega
          have h2x : (k : Int) < (b.length : Int) := by omega
          obtain ⟨b1, o1, rfl, hq1⟩ := (hpa h1).out
          obtain ⟨b2, o2, rfl, hq2⟩ := (hpb h2).out
          clear hpa hpb hna hnb
          go_wp2_with (go_at_call 17; (with_reducible refine hf.mono ?_); rintro e w3 ⟨rfl, rfl⟩)
          refine ⟨⟨k + 1, by omega, by simp, ?_, below_setCell hb (Nat.le_refl _) _⟩, by simp [intOf]; omega⟩
          rw [← HP.out, ← bs_set8]
          exact (hst.out _).1
        · first
          | (exfalso; omega)
          | (have h1x : (k : Int) < (a.length : Int) := by omega
             have h2x : ¬ (k : Int) < (b.length : Int) := by omega
             obtain ⟨b1, o1, rfl, hq1⟩ := (hpa h1).out
             obtain rfl := hnb h2
             rw [show (((0 : UInt8).toNat : Nat) : Int) = 0 from rfl] at hf
             simp only [UInt8.xor_zero, UInt8.zero_xor] at hf HP
             clear hpa hpb hna hnb
             go_wp2_with (go_at_call 17; (with_reducible refine hf.mono ?_); rintro e w3 ⟨rfl, rfl⟩)
             refine ⟨⟨k + 1, by omega, by simp, ?_, below_setCell hb (Nat.le_refl _) _⟩, by simp [intOf]; omega⟩
             rw [← HP.out, ← bs_set8]
             exact (hst.out _).1)
        · first
          | (exfalso; omega)
          | (have h1x : ¬ (k : Int) < (a.length : Int) := by omega
             have h2x : (k : Int) < (b.length : Int) := by omega
             obtain ⟨b2, o2, rfl, hq2⟩ := (hpb h2).out
             obtain rfl := hna h1
             rw [show (((0 : UInt8).toNat : Nat) : Int) = 0 from rfl] at hf
             simp only [UInt8.xor_zero, UInt8.zero_xor] at hf HP
             clear hpa hpb hna hnb
             go_wp2_with (go_at_call 17; (with_reducible refine hf.mono ?_); rintro e w3 ⟨rfl, rfl⟩)
             refine ⟨⟨k + 1, by omega, by simp, ?_, below_setCell hb (Nat.le_refl _) _⟩, by simp [intOf]; omega⟩
             rw [← HP.out, ← bs_set8]
             exact (hst.out _).1)
        · omega
      · obtain rfl : k = K := by omega
        go_wp2
        go_ret
        refine ⟨_, rfl, ?_, hb⟩
        rw [← HTA.out]
        exact hown
theorem or_any (va vb : Value) (a b : List UInt8) (w : World) (ha : a.length ≤ 1000000) (hb : b.length ≤ 1000000) (hda : Sl w w.heap.size va a.length (bs a)) (hdb : Sl w w.heap.size vb b.length (bs b)) :
    Calls Try.prog 13 #[va, vb] w fun e w' => ∃ v, e = .returned v ∧ w'.ownsRow w.heap.size 5 1 v (max a.length b.length) (bs (jn (· ||| ·) a b)) ∧ Below w.heap.size w w' := by
  have h := join_or va vb a b w ha hb hda hdb
  go_enter Try.func13, Try.ntmps13
  go_wp2_with (go_at_call 16; (with_reducible refine h.mono ?_); rintro e w3 ⟨v3, rfl, ho3, hb3⟩)
  go_ret
  exact ⟨_, rfl, ho3, hb3⟩
theorem jn_far {g : UInt8 → UInt8 → UInt8} (h0 : g 0 0 = 0) (a b : List UInt8) (i : Nat) : (jn g a b).getD i 0 = g (a.getD i 0) (b.getD i 0) := by
  by_cases h : i < max a.length b.length
  · rw [List.getD_eq_getElem?_getD, jn_get g a b i h]
    rfl
  · rw [getD_out (by rw [jn_len]; omega), getD_out (by omega), getD_out (by omega), h0]
theorem next_none (v : Value) (l : List UInt8) (w : World) (hl : l.length ≤ 1000000) (hd : Sl w w.heap.size v l.length (bs l)) (h4 : ∀ j, bit l j = false) :
    Calls Try.prog 9 #[v, .int .i64 0, .bool true] w fun e w' => e = .returned (.tuple #[.int .i64 0, .bool false]) ∧ w = w' :=
  next_no v l 0 true w hl hd (by omega) (fun j _ _ => h4 j)
/-- Same of two rows with the same bytes, nothing beyond. -/
theorem same_yes (va vb : Value) (a b : List UInt8) (w : World) (ha : a.length ≤ 1000000) (hb : b.length ≤ 1000000) (hda : Sl w w.heap.size va a.length (bs a)) (hdb : Sl w w.heap.size vb b.length (bs b)) (hs : ∀ i, a.getD i 0 = b.getD i 0) :
    Calls Try.prog 12 #[va, vb] w fun e w' => e = .returned (.bool true) ∧ Below w.heap.size w w' := by
  have h := join_xor va vb a b w ha hb hda hdb
  have hz : ∀ j, bit (jn (· ^^^ ·) a b) j = false := by
    intro j
    unfold bit
    rw [jn_far (by rfl), hs]
    simp
  have hl : (jn (· ^^^ ·) a b).length ≤ 1000000 := by rw [jn_len]; omega
  have hlen := jn_len (· ^^^ ·) a b
  rw [← hlen] at h
  clear hlen
  generalize jn (· ^^^ ·) a b = l at *
  go_enter Try.func12, Try.ntmps12
  go_wp2_with (first
    | (go_at_call 16; (with_reducible refine h.mono ?_); rintro e w3 ⟨v3, rfl, ho3, hb3⟩)
    | (go_at_call 9; (with_reducible refine (next_none v3 l w3 hl (Sl.of_own ho3) hz).mono ?_); rintro e w4 ⟨rfl, rfl⟩))
  go_ret
  exact ⟨rfl, hb3⟩
end Go.Proofs.Ytleolacplgpigaa
