/- Package twin: Pack, Unpack: contracts. -/
import Derived.Test.YtpfackjnnkjjdaaMm
import Derived.Test.YtpfackjnnkjjdaaSealP
import Derived.Test.YtpfackjnnkjjdaaPutB
import Derived.Test.YtpfackjnnkjjdaaPadB
import Derived.Lib.SlBytesConst
namespace Go.Proofs.Ytpfackjnnkjjdaa
open Go.ChangeShapes Go.WideShapes Go.ChangeAt Go.RowKit Go.Lib
set_option linter.unusedVariables false
set_option linter.unusedSimpArgs false
namespace Tw
open Crc
def mark : List UInt8 := [84, 87, 73, 78]
/-- What is sealed of a value. -/
def packB (n : Nat) (l : List UInt8) : List UInt8 := mark ++ be n 8 ++ be l.length 2 ++ l
def packP (n : Nat) (l : List UInt8) : List UInt8 := packB n l ++ List.replicate (494 - l.length) 0
def packS (n : Nat) (l : List UInt8) : List UInt8 := sealS (packP n l)
theorem packB_len (n : Nat) (l : List UInt8) : (packB n l).length = 14 + l.length := by simp [packB, mark]; omega
theorem packP_len {n : Nat} {l : List UInt8} (h : l.length ≤ 488) : (packP n l).length = 508 := by rw [packP, List.length_append, packB_len, List.length_replicate]; omega
theorem packS_len {n : Nat} {l : List UInt8} (h : l.length ≤ 488) : (packS n l).length = 512 := by rw [packS, Crc.sealS_len, packP_len h]
theorem padS_pack {n : Nat} {l : List UInt8} (h : l.length ≤ 488) : padS (packB n l) 508 = packP n l := by
  unfold padS packP
  rw [if_neg (by omega), packB_len]
  congr 2
  unfold padN
  rw [show (508 : Int).toNat = 508 from rfl, Nat.mod_eq_of_lt (show 14 + l.length < 508 by omega), Nat.mod_eq_of_lt (by omega)]
  omega
theorem pack_long (n : Nat) (v : Value) (l : List UInt8) (w : World) (hv : Sl w w.heap.size v l.length (bs l)) (hl : 488 < l.length) :
    Calls Try.prog 47 #[.int .u64 (n : Nat), v] w fun e w' => e = .returned (.tuple #[.slice none 0 0, .int .i64 5]) ∧ w = w' := by
  obtain ⟨A, c, rfl, _, _⟩ := hv.form
  have hlx : (488 : Int) < (l.length : Int) := by omega
  go_enter Try.func47, Try.ntmps47
  go_wp2
  go_ret2
  exact ⟨rfl, rfl⟩
set_option maxRecDepth 100000 in
set_option maxHeartbeats 1000000 in
theorem pack_ok (n : Nat) (hn : n < 18446744073709551616) (v : Value) (l : List UInt8) (w : World) (hv : Sl w w.heap.size v l.length (bs l)) (hl : l.length ≤ 488) :
    Calls Try.prog 47 #[.int .u64 (n : Nat), v] w fun e w' => ∃ v', e = .returned (.tuple #[v', .int .i64 0]) ∧ w'.ownsRow w.heap.size 5 1 v' 512 (bs (packS n l)) ∧ Below w.heap.size w w' := by
  obtain ⟨i0, hi, hz0, hz1, hz2⟩ := info_parts (show (Try.prog.info? 5).map (fun i => (i.zero, i.size, i.bytes)) = some (some (.int .u8 0), 1, 1) by kernel_rfl)
  obtain ⟨A, c, rfl, _, _⟩ := hv.form
  have hlx : (l.length : Int) ≤ 488 := by omega
  have kc := fun (W : World) (C : Array Value) (n c : Nat) => Lib.run_convert_bytes_const (P := Try.prog) W 34 5 C n c Try.underlying34 Try.underlying5
  have hb1 : Below w.heap.size w (w.alloc (.cells #[.int .u8 84, .int .u8 87, .int .u8 73, .int .u8 78] 5 (4, 5))) := (Below.refl _ w).alloc (Nat.le_refl _) _
  have hsm : Sl (w.alloc (.cells #[.int .u8 84, .int .u8 87, .int .u8 73, .int .u8 78] 5 (4, 5))) (w.alloc (.cells #[.int .u8 84, .int .u8 87, .int .u8 73, .int .u8 78] 5 (4, 5))).heap.size (.slice (some ⟨w.heap.size, 0, none⟩) 4 4) mark.length (bs mark) := Sl.freshM w #[.int .u8 84, .int .u8 87, .int .u8 73, .int .u8 78] _ _ rfl (Nat.le_refl _) (by unfold maxLen; omega)
  have hput1 : Calls Try.prog 30 #[.slice (some ⟨w.heap.size, 0, none⟩) 4 4, .int .u64 (n : Nat), .int .i64 8] (w.alloc (.cells #[.int .u8 84, .int .u8 87, .int .u8 73, .int .u8 78] 5 (4, 5))) fun e w' => ∃ v', e = .returned v' ∧ Sl w' w'.heap.size v' (mark ++ be n 8).length (bs (mark ++ be n 8)) ∧ Below w.heap.size w w' := (put_b _ mark n 8 n 8 rfl rfl _ hsm hn (by decide) (by omega)).mono fun e w' ⟨v', h1, h2, h3⟩ => ⟨v', h1, h2, hb1.trans (h3.mono (by simp))⟩
  have hput2 : ∀ W v', Sl W W.heap.size v' (mark ++ be n 8).length (bs (mark ++ be n 8)) → Below w.heap.size w W → Calls Try.prog 30 #[v', .int .u64 (l.length : Nat), .int .i64 2] W fun e w' => ∃ v'', e = .returned v'' ∧ w'.ownsRow w.heap.size 5 1 v'' 14 (bs (mark ++ be n 8 ++ be l.length 2)) ∧ Below w.heap.size w w' := by
    intro W v' hs hb
    refine (put_any v' _ l.length 2 W hs (by omega) (by simp [mark]) (by omega) (by omega)).mono ?_
    rintro e w' ⟨v'', rfl, h1, h2⟩
    have hlen : (mark ++ be n 8 ++ be l.length 2).length = 14 := by simp [mark]
    have e1 : putS (mark ++ be n 8) l.length 2 = mark ++ be n 8 ++ be l.length 2 := by unfold putS; rw [if_neg (by omega)]; rfl
    rw [e1, hlen] at h1
    exact ⟨v'', rfl, owns_mono h1 hb.size, hb.trans (h2.mono hb.size)⟩
  have hpb : bs (mark ++ be n 8 ++ be l.length 2) ++ bs l = bs (packB n l) := by rw [← bs_app]; rfl
  have hpl := packB_len n l
  have hpad : ∀ W v', W.ownsRow w.heap.size 5 1 v' (14 + l.length) (bs (packB n l)) → Below w.heap.size w W → Calls Try.prog 63 #[v', .int .i64 508] W fun e w' => ∃ v'', e = .returned v'' ∧ Sl w' w'.heap.size v'' (packP n l).length (bs (packP n l)) ∧ Below w.heap.size w w' := by
    intro W v' ho hb
    refine (pad_any v' (packB n l) 508 W (hpl ▸ Sl.of_own ho) (by omega) (by omega) (by omega)).mono ?_
    rintro e w' ⟨v'', rfl, h1, h2⟩
    rw [padS_pack hl] at h1
    exact ⟨v'', rfl, Sl.of_own h1, hb.trans (h2.mono hb.size)⟩
  have hseal : ∀ W v', Sl W W.heap.size v' (packP n l).length (bs (packP n l)) → Below w.heap.size w W → Calls Try.prog 62 #[v'] W fun e w' => ∃ v'', e = .returned v'' ∧ w'.ownsRow w.heap.size 5 1 v'' 512 (bs (packS n l)) ∧ Below w.heap.size w w' := by
    intro W v' hs hb
    refine (seal_any v' (packP n l) W hs (by rw [packP_len hl]; omega)).mono ?_
    rintro e w' ⟨v'', rfl, h1, h2⟩
    have : (sealS (packP n l)).length = 512 := packS_len hl
    rw [this] at h1
    exact ⟨v'', rfl, owns_mono h1 hb.size, hb.trans (h2.mono hb.size)⟩
  have hcat : ∀ W : World, ∀ v', W.ownsRow w.heap.size 5 1 v' (14 + l.length) (bs (mark ++ be n 8 ++ be l.length 2) ++ bs l) → W.ownsRow w.heap.size 5 1 v' (14 + l.length) (bs (packB n l)) := fun W v' h => hpb ▸ h
  have hvn := fun W (hW : Below w.heap.size w W) => hv.now hW
  have hsum : 14 + l.length ≤ 17592186044416 := by omega
  clear hpb hpl hsm hb1
  generalize bs (mark ++ be n 8 ++ be l.length 2) = P1 at *
  generalize packP n l = P2 at *
  generalize bs (packS n l) = P3 at *
  generalize bs (packB n l) = P4 at *
  go_enter Try.func47, Try.ntmps47
  go_wp2_with (first
    | (go_at_call 30; (with_reducible refine hput1.mono ?_); rintro e w2 ⟨v2, rfl, hs2, hb2⟩)
    | (go_at_call 30; (with_reducible refine (hput2 _ _ hs2 hb2).mono ?_); rintro e w3 ⟨v3, rfl, ho3, hb3⟩; have hv3 := hvn w3 hb3)
    | (at_builtin; (refine wpList_append_sl _ rfl (.tmp 19) (.tmp 20) _ rfl w.heap.size 5 i0 _ Try.underlying34 hi hz0 hz1 (by omega) rfl v3 14 P1 rfl ho3 _ (.slice A l.length c) l.length (bs l) rfl hv3 bs_one hsum hb3.size ?_); intro v4 w4 ho4 hg4 hat4; have hb4 := below_own hb3 hg4 hb3.size (fun k hk => (own_tag ho3 k hk).1); have ho4' := hcat _ _ ho4)
    | (go_at_call 63; (with_reducible refine (hpad _ _ ho4' hb4).mono ?_); rintro e w5 ⟨v5, rfl, hs5, hb5⟩)
    | (go_at_call 62; (with_reducible refine (hseal _ _ hs5 hb5).mono ?_); rintro e w6 ⟨v6, rfl, ho6, hb6⟩))
  go_ret2
  exact ⟨v6, rfl, ho6, hb6⟩
/-- What Unpack tells: the number, the value, why not. -/
def lenS (b : List UInt8) : Nat := beVal ((b.drop 12).take 2)
def unpackB (b : List UInt8) : Nat × List UInt8 × Nat := if b.take 4 ≠ mark ∨ 488 < lenS b ∨ nought (b.drop (14 + lenS b)) = false then (0, [], 2) else (beVal ((b.drop 4).take 8), (b.drop 14).take (lenS b), 0)
def unpackS (s : List UInt8) : Nat × List UInt8 × Nat := if s.length ≠ 512 then (0, [], 3) else if (openS s).2 ≠ 0 then (0, [], (openS s).2) else unpackB (openS s).1
theorem openS_len {s : List UInt8} (h : s.length = 512) (h2 : (openS s).2 = 0) : (openS s).1.length = 508 := by
  unfold openS at h2 ⊢
  rw [if_neg (by omega)] at h2 ⊢
  split
  · rename_i hc
    rw [if_pos hc] at h2
    cases h2
  · simp
    omega
theorem openS_err (s : List UInt8) : (openS s).2 ≤ 4 := by
  unfold openS
  split
  · simp
  · split <;> simp
theorem unpack_pack (n : Nat) (hn : n < 18446744073709551616) (l : List UInt8) (hl : l.length ≤ 488) : unpackS (packS n l) = (n, l, 0) := by
  have e1 : (packS n l).length = 512 := packS_len hl
  unfold unpackS
  rw [if_neg (by omega)]
  unfold packS
  rw [open_seal, if_neg (by simp)]
  show unpackB (packP n l) = _
  have h4 : (packP n l).take 4 = mark := by simp [packP, packB, mark]
  have h12 : (packP n l).drop 12 = be l.length 2 ++ l ++ List.replicate (494 - l.length) 0 := by
    unfold packP packB
    rw [List.append_assoc, List.append_assoc, List.drop_append_of_le_length (by simp [mark]), List.drop_of_length_le (by simp [mark])]
    simp
  have hlen : lenS (packP n l) = l.length := by
    unfold lenS
    rw [h12, List.append_assoc, List.take_append_of_le_length (by simp), List.take_of_length_le (by simp)]
    rw [beVal_be]; exact Nat.mod_eq_of_lt (by omega)
  have h14 : (packP n l).drop 14 = l ++ List.replicate (494 - l.length) 0 := by
    have : (packP n l).drop 14 = ((packP n l).drop 12).drop 2 := by rw [List.drop_drop]
    rw [this, h12, List.append_assoc, List.drop_append_of_le_length (by simp), List.drop_of_length_le (by simp)]
    simp
  have hno : nought ((packP n l).drop (14 + l.length)) = true := by
    rw [← List.drop_drop, h14, List.drop_append_of_le_length (Nat.le_refl _), List.drop_of_length_le (Nat.le_refl _)]
    simp [nought]
  have h8 : ((packP n l).drop 4).take 8 = be n 8 := by
    unfold packP packB
    rw [List.append_assoc, List.append_assoc, List.append_assoc, List.drop_append_of_le_length (by simp [mark]), List.drop_of_length_le (by simp [mark])]
    simp
  unfold unpackB
  rw [hlen, if_neg (by rw [h4, hno]; simp; omega), h8, h14, List.take_append_of_le_length (Nat.le_refl _), List.take_of_length_le (Nat.le_refl _), beVal_be, Nat.mod_eq_of_lt (by omega)]
/-- A piece of a slice. -/
theorem Sl_cut {w : World} {B n c b off : Nat} {xs : List Value} (h : Sl w B (.slice (some ⟨b, off, none⟩) n c) n xs) (a m : Nat) (ham : a + m ≤ n) : Sl w B (.slice (some ⟨b, off + a, none⟩) m (c - a)) m ((xs.drop a).take m) := by
  obtain ⟨h0, A, c', hv, h1, h2, h3⟩ := h
  simp only [Value.slice.injEq] at hv
  obtain ⟨rfl, -, rfl⟩ := hv
  refine ⟨by rw [List.length_take, List.length_drop]; omega, _, _, rfl, by omega, by omega, fun hne => ?_⟩
  have hx : xs ≠ [] := by
    rintro rfl
    simp at hne
  obtain ⟨b', off', e, h4, h5⟩ := h3 hx
  simp only [Option.some.injEq, Addr.mk.injEq, and_true] at e
  obtain ⟨rfl, rfl⟩ := e
  refine ⟨b, off + a, rfl, h4, fun j u hu => ?_⟩
  rw [List.getElem?_take] at hu
  split at hu
  · rw [List.getElem?_drop] at hu
    have := h5 (a + j) u hu
    rwa [← Nat.add_assoc] at this
  · cases hu
set_option maxRecDepth 100000 in
set_option maxHeartbeats 1000000 in
theorem unpack_any (v : Value) (s : List UInt8) (w : World) (hv : Sl w w.heap.size v s.length (bs s)) (hs : s.length ≤ 1000000) :
    Calls Try.prog 51 #[v] w fun e w' => ∃ v', e = .returned (.tuple #[.int .u64 ((unpackS s).1 : Nat), v', .int .i64 ((unpackS s).2.2 : Nat)]) ∧ w'.ownsRow w.heap.size 5 1 v' (unpackS s).2.1.length (bs (unpackS s).2.1) ∧ Below w.heap.size w w' := by
  obtain ⟨i0, hi, hz0, hz1, hz2⟩ := info_parts (show (Try.prog.info? 5).map (fun i => (i.zero, i.size, i.bytes)) = some (some (.int .u8 0), 1, 1) by kernel_rfl)
  obtain ⟨A, c, rfl, _, _⟩ := hv.form
  have hop := open_any (.slice A s.length c) s w hv (by omega)
  have hsx : (s.length : Int) ≤ 1000000 := by omega
  obtain ⟨U, hU⟩ : ∃ U, U = unpackS s := ⟨_, rfl⟩
  rw [← hU]
  unfold unpackS at hU
  by_cases h5 : s.length = 512
  case neg =>
    rw [if_pos h5] at hU
    have HU := Lib.hid hU
    clear hU
    have h5x : ¬ (s.length : Int) = 512 := by omega
    clear hop
    go_enter Try.func51, Try.ntmps51
    go_wp2
    go_ret3
    rw [HU.out]
    exact ⟨_, rfl, World.ownsRow_nil _ _ _ _, Below.refl _ _⟩
  rw [if_neg (by omega)] at hU
  have hol := openS_len h5
  have hoe := openS_err s
  have H5 := Lib.hid h5
  have h5x : (s.length : Int) = 512 := by omega
  clear h5 hv
  generalize openS s = q at *
  obtain ⟨b, E⟩ := q
  simp only at hol hoe hU
  have hop : Calls Try.prog 64 #[.slice A s.length c] w fun e w' => ∃ v', e = .returned (.tuple #[v', .int .i64 (E : Nat)]) ∧ Sl w' w'.heap.size v' b.length (bs b) ∧ Below w.heap.size w w' := hop
  by_cases hE : E = 0
  case neg =>
    rw [if_pos hE] at hU
    have HU := Lib.hid hU
    clear hU
    have hEx : ¬ (E : Int) = 0 := by omega
    have hEl : (E : Int) ≤ 4 := by omega
    go_enter Try.func51, Try.ntmps51
    go_wp2_with (go_at_call 64; (with_reducible refine hop.mono ?_); rintro e w2 ⟨v2, rfl, hs2, hb2⟩)
    go_ret3
    rw [HU.out]
    exact ⟨_, rfl, World.ownsRow_nil _ _ _ _, hb2⟩
  subst hE
  rw [if_neg (by simp)] at hU
  have hbl := hol rfl
  have HBL := Lib.hid hbl
  rw [hbl] at hop
  have cg : ∀ W v', Sl W W.heap.size v' 508 (bs b) → Calls Try.prog 42 #[v', .int .i64 4, .int .i64 8] W fun e w' => e = .returned (.tuple #[.int .u64 (beVal ((b.drop 4).take 8)), .bool true]) ∧ W = w' := fun W v' h => get_b v' b 4 8 4 8 rfl rfl W (by rw [hbl]; exact h) (by omega) (by omega) (by omega) (by omega)
  have cl : ∀ W v', Sl W W.heap.size v' 508 (bs b) → Calls Try.prog 42 #[v', .int .i64 12, .int .i64 2] W fun e w' => e = .returned (.tuple #[.int .u64 (lenS b), .bool true]) ∧ W = w' := fun W v' h => get_b v' b 12 2 12 2 rfl rfl W (by rw [hbl]; exact h) (by omega) (by omega) (by omega) (by omega)
  have cop : Calls Try.prog 64 #[.slice A s.length c] w fun e w' => ∃ b0 o0 c2, e = .returned (.tuple #[.slice (some ⟨b0, o0, none⟩) 508 c2, .int .i64 0]) ∧ Sl w' w'.heap.size (.slice (some ⟨b0, o0, none⟩) 508 c2) 508 (bs b) ∧ 508 ≤ c2 ∧ c2 ≤ maxLen ∧ Below w.heap.size w w' := by
    refine hop.mono ?_
    rintro e w' ⟨v', rfl, h1, h2⟩
    obtain ⟨A2, c2, rfl, h3, h4⟩ := h1.form
    obtain ⟨b0, o0, rfl, _, _⟩ := h1.at_ (by omega)
    exact ⟨b0, o0, c2, rfl, h1, h3, h4, h2⟩
  have hm4 : ∀ W b0 o0 c2, Sl W W.heap.size (.slice (some ⟨b0, o0, none⟩) 508 c2) 508 (bs b) → (convert 34 9 (.slice (some ⟨b0, o0, none⟩) 4 c2)).run Try.prog W = .ok (.string ⟨(b.take 4).toArray⟩) W := by
    intro W b0 o0 c2 h
    have h4 := h.take (m := 4) (by omega)
    rw [bs, ← List.map_take] at h4
    exact bytes_str (P := Try.prog) W 34 9 5 Try.underlying34 Try.underlying5 Try.underlying9 _ _ (b.take 4) 4 h4
  have hml : lenS b < 65536 := by
    unfold lenS
    have h2 : ((b.drop 12).take 2).length = 2 := by simp [hbl]
    have := beVal_lt 2 _ h2
    omega
  clear hop hol hoe
  unfold unpackB at hU
  by_cases hmk : b.take 4 = mark
  case neg =>
    rw [if_pos (.inl hmk)] at hU
    have HU := Lib.hid hU
    clear hU
    have hmkx : (b.take 4 == [84, 87, 73, 78]) = false := by rw [beq_eq_false_iff_ne]; exact hmk
    clear hmk
    generalize lenS b = m at *
    generalize b.take 4 = b4 at *
    generalize beVal ((b.drop 4).take 8) = nn at *
    go_enter Try.func51, Try.ntmps51
    go_wp2_with (first
      | (go_at_call 64; (with_reducible refine cop.mono ?_); rintro e w2 ⟨b0, o0, c2, rfl, hs2, hc1, hc2, hb2⟩; have hst := hm4 _ _ _ _ hs2)
      | (go_at_call 42; (with_reducible refine (cg _ _ hs2).mono ?_); rintro e w3 ⟨rfl, rfl⟩)
      | (go_at_call 42; (with_reducible refine (cl _ _ hs2).mono ?_); rintro e w3 ⟨rfl, rfl⟩))
    go_ret3
    rw [HU.out]
    exact ⟨_, rfl, World.ownsRow_nil _ _ _ _, hb2⟩
  have hmkx : (b.take 4 == [84, 87, 73, 78]) = true := by rw [beq_iff_eq]; exact hmk
  by_cases hmm : 488 < lenS b
  · rw [if_pos (.inr (.inl hmm))] at hU
    have HU := Lib.hid hU
    clear hU
    have hmx : (488 : Int) < (lenS b : Int) := by omega
    clear hmk
    generalize lenS b = m at *
    generalize b.take 4 = b4 at *
    generalize beVal ((b.drop 4).take 8) = nn at *
    go_enter Try.func51, Try.ntmps51
    go_wp2_with (first
      | (go_at_call 64; (with_reducible refine cop.mono ?_); rintro e w2 ⟨b0, o0, c2, rfl, hs2, hc1, hc2, hb2⟩; have hst := hm4 _ _ _ _ hs2)
      | (go_at_call 42; (with_reducible refine (cg _ _ hs2).mono ?_); rintro e w3 ⟨rfl, rfl⟩)
      | (go_at_call 42; (with_reducible refine (cl _ _ hs2).mono ?_); rintro e w3 ⟨rfl, rfl⟩))
    go_ret3
    rw [HU.out]
    exact ⟨_, rfl, World.ownsRow_nil _ _ _ _, hb2⟩
  have hmx : ¬ (488 : Int) < (lenS b : Int) := by omega
  have hcut : ∀ W b0 o0 c2, Sl W W.heap.size (.slice (some ⟨b0, o0, none⟩) 508 c2) 508 (bs b) → Sl W W.heap.size (.slice (some ⟨b0, o0 + 14, none⟩) (lenS b) (c2 - 14)) (lenS b) (bs ((b.drop 14).take (lenS b))) := by
    intro W b0 o0 c2 h
    have := Sl_cut h 14 (lenS b) (by omega)
    rw [bs, ← List.map_drop, ← List.map_take] at this
    exact this
  have hcell : ∀ W b0 o0 c2 k (hk : 14 + lenS b + k < 508), Sl W W.heap.size (.slice (some ⟨b0, o0, none⟩) 508 c2) 508 (bs b) → W.cell? ⟨b0, o0 + (14 + lenS b) + k, none⟩ = some (.int .u8 ((b[14 + lenS b + k]'(by omega)).toNat : Int)) := by
    intro W b0 o0 c2 k hk h
    obtain ⟨b1, o1, e, _, hc⟩ := h.at_ (by omega)
    simp only [Option.some.injEq, Addr.mk.injEq, and_true] at e
    obtain ⟨rfl, rfl⟩ := e
    have := hc (14 + lenS b + k) _ (bs_get (show 14 + lenS b + k < b.length by omega))
    rwa [← Nat.add_assoc] at this
  have HU := Lib.hid hU
  clear hU
  have hlen3 : ((b.drop 14).take (lenS b)).length = lenS b := by rw [List.length_take, List.length_drop]; omega
  go_enter Try.func51, Try.ntmps51
  go_wp2_with (first
    | (go_at_call 64; (with_reducible refine cop.mono ?_); rintro e w2 ⟨b0, o0, c2, rfl, hs2, hc1, hc2, hb2⟩; have hst := hm4 _ _ _ _ hs2; have hc3 : ¬ c2 = 14 + lenS b := (by omega))
    | (go_at_call 42; (with_reducible refine (cg _ _ hs2).mono ?_); rintro e w3 ⟨rfl, rfl⟩)
    | (go_at_call 42; (with_reducible refine (cl _ _ hs2).mono ?_); rintro e w3 ⟨rfl, rfl⟩))
  have hkx : ((508 : Int) - (14 + (lenS b : Int))) = ((508 - (14 + lenS b) : Nat) : Int) := by omega
  have HKX := Lib.hid hkx
  clear hkx
  go_loopw [2, 47] (fun nn i wr => ∃ j : Nat, nn = .int .u64 (beVal ((b.drop 4).take 8) : Nat) ∧ j ≤ 508 - (14 + lenS b) ∧ i = .int .i64 j ∧ wr = w2 ∧ ∀ k (hk : k < j) (hb : 14 + lenS b + k < b.length), b[14 + lenS b + k] = 0) (fun _ i _ => 508 - (14 + lenS b) - (intOf i).toNat)
  case atStart => exact ⟨0, rfl, by omega, rfl, rfl, fun k hk => absurd hk (by omega)⟩
  case round =>
    obtain ⟨j, rfl, hj, rfl, rfl, hz⟩ := hrel
    have hbl := HBL.out
    by_cases hjl : j < 508 - (14 + lenS b)
    · have y := hcell _ b0 o0 c2 j (by omega) hs2
      have hjx : (j : Int) < (508 - (14 + (lenS b : Int))) := by omega
      by_cases hx : (b[14 + lenS b + j]'(by omega)) = 0
      · have hz2 : ∀ k (hk : k < j + 1) (hb : 14 + lenS b + k < b.length), b[14 + lenS b + k] = 0 := by
          intro k hk hb
          by_cases hkj : k = j
          · subst hkj; exact hx
          · exact hz k (by omega) hb
        have hx0 : ((b[14 + lenS b + j]'(by omega)).toNat : Int) = 0 := by rw [hx]; rfl
        clear hz hcell hx hmk
        generalize (b[14 + lenS b + j]'(by omega)) = xb at *
        go_wp2
        exact ⟨⟨j + 1, by first | rfl | trivial, by omega, by go_num, by first | rfl | trivial, hz2⟩, by simp [intOf]; omega⟩
      · have hno : nought (b.drop (14 + lenS b)) = false := by
          unfold nought
          rw [List.all_eq_false]
          refine ⟨b[14 + lenS b + j]'(by omega), ?_, by simpa using hx⟩
          rw [List.mem_iff_getElem]
          exact ⟨j, by rw [List.length_drop]; omega, by rw [List.getElem_drop]⟩
        have hx0 : ¬ ((b[14 + lenS b + j]'(by omega)).toNat : Int) = 0 := by
          intro e
          apply hx
          apply UInt8.toNat_inj.1
          show _ = 0
          omega
        have HNO := Lib.hid hno
        clear hz hcell hx hmk hno
        generalize (b[14 + lenS b + j]'(by omega)) = xb at *
        go_wp2
        go_ret3
        have hU := HU.out
        rw [if_pos (.inr (.inr HNO.out))] at hU
        rw [hU]
        exact ⟨_, rfl, World.ownsRow_nil _ _ _ _, hb2⟩
    · obtain rfl : j = 508 - (14 + lenS b) := by omega
      have hyes : nought (b.drop (14 + lenS b)) = true := by
        unfold nought
        rw [List.all_eq_true]
        intro x hx
        obtain ⟨k, hk, rfl⟩ := List.mem_iff_getElem.1 hx
        rw [List.length_drop] at hk
        rw [List.getElem_drop, hz k (by omega) (by omega)]
        rfl
      have hcond : ¬ (b.take 4 ≠ mark ∨ 488 < lenS b ∨ nought (b.drop (14 + lenS b)) = false) := by rw [hyes]; simp [hmk]; omega
      have HC := Lib.hid hcond
      clear hcond
      have hjx : ((508 - (14 + lenS b) : Nat) : Int) = 508 - (14 + (lenS b : Int)) := by omega
      have hcu := hcut _ _ _ _ hs2
      have hmn : lenS b ≤ 488 := by omega
      clear hz hcell hyes hmk
      obtain ⟨L, hLL⟩ : ∃ L, (b.drop 14).take (lenS b) = L := ⟨_, rfl⟩
      rw [hLL] at hcu hlen3
      have HLL := Lib.hid hLL
      clear hLL
      have e14 : 14 + lenS b - 14 = lenS b := by omega
      have hc14 : ¬ c2 = 14 := by omega
      have hcu2 : Sl wr wr.heap.size (.slice (some ⟨b0, o0 + 14, none⟩) (14 + lenS b - 14) (c2 - 14)) (14 + lenS b - 14) (bs L) := by rw [e14]; exact hcu
      have E14 := Lib.hid e14
      clear e14 hcu
      go_wp2_with (at_builtin; (refine wpList_append_sl _ rfl (.const (.slice none 0 0)) (.tmp 57) _ rfl w.heap.size 5 i0 _ Try.underlying34 hi hz0 hz1 (by omega) rfl (.slice none 0 0) 0 [] rfl (World.ownsRow_nil _ _ _ _) _ (.slice (some ⟨b0, o0 + 14, none⟩) (14 + lenS b - 14) (c2 - 14)) (14 + lenS b - 14) (bs L) rfl hcu2 bs_one (by omega) hb2.size ?_); intro v6 w6 ho6 hg6 hat6; have hb6 := hb2.grown hg6 hb2.size (fun k hk => by cases hk))
      go_ret3
      have hU := HU.out
      rw [if_neg HC.out, HLL.out] at hU
      rw [hU]
      refine ⟨v6, rfl, ?_, hb6⟩
      show w6.ownsRow _ _ _ _ L.length (bs L)
      rw [hlen3]
      rw [E14.out] at ho6
      simpa using ho6
end Tw
end Go.Proofs.Ytpfackjnnkjjdaa
