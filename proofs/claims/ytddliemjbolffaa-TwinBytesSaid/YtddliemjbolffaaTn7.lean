/- gemelref11's Unpack. -/
import Derived.Test.YtddliemjbolffaaTn6
import Derived.Test.YtddliemjbolffaaGetR
namespace Go.Proofs.Ytddliemjbolffaa
open Go.ChangeShapes Go.WideShapes Go.ChangeAt Go.RowKit Go.Lib
set_option linter.unusedVariables false
set_option linter.unusedSimpArgs false
namespace Tw
open Dk Crc
theorem beVal_inj : ∀ (k : Nat) (a b : List UInt8), a.length = k → b.length = k → beVal a = beVal b → a = b := by
  intro k
  induction k with
  | zero => intro a b ha hb _; rw [List.eq_nil_of_length_eq_zero ha, List.eq_nil_of_length_eq_zero hb]
  | succ k ih =>
    intro a b ha hb h
    have hna : a ≠ [] := by rintro rfl; simp at ha
    have hnb : b ≠ [] := by rintro rfl; simp at hb
    have ea := List.dropLast_concat_getLast hna
    have eb := List.dropLast_concat_getLast hnb
    rw [← ea, ← eb, beVal_snoc, beVal_snoc] at h
    have h1 := (a.getLast hna).toNat_lt
    have h2 := (b.getLast hnb).toNat_lt
    have e1 : beVal a.dropLast = beVal b.dropLast := by omega
    have e2 : (a.getLast hna).toNat = (b.getLast hnb).toNat := by omega
    rw [← ea, ← eb, ih _ _ (by rw [List.length_dropLast]; omega) (by rw [List.length_dropLast]; omega) e1, UInt8.toNat_inj.1 e2]
theorem be_beVal (k : Nat) (l : List UInt8) (h : l.length = k) : be (beVal l) k = l :=
  beVal_inj k _ _ (by simp) h (by rw [beVal_be, Nat.mod_eq_of_lt (beVal_lt k l h)])
theorem nought_rep {d : List UInt8} (h : nought d = true) : d = List.replicate d.length 0 := by
  unfold nought at h
  rw [List.all_eq_true] at h
  exact List.eq_replicate_iff.2 ⟨rfl, fun x hx => by have := h x hx; simpa using this⟩
def rnum (s : List UInt8) : Nat := beVal ((s.drop 4).take 8)
def rlen (s : List UInt8) : Nat := beVal ((s.drop 12).take 2)
def runpackS (s : List UInt8) : Nat × List UInt8 × Nat := if s.length ≠ 512 then (0, [], 3) else if le4 (moreS 0 (s.take 508)) ≠ s.drop 508 then (0, [], 4) else if 488 < rlen s then (0, [], 2) else if packS (rnum s) ((s.drop 14).take (rlen s)) ≠ s then (0, [], 2) else (rnum s, (s.drop 14).take (rlen s), 0)
theorem rnum_lt (s : List UInt8) : rnum s < 18446744073709551616 := Nat.lt_of_lt_of_le (beVal_lt' 8 _ (by simp; omega)) (by decide)
theorem runpackS_eq (s : List UInt8) : runpackS s = unpackS s := by
  unfold runpackS unpackS
  by_cases h : s.length = 512
  case neg => rw [if_pos h, if_pos h]
  have h' : ¬ (s.length ≠ 512) := by omega
  rw [if_neg h', if_neg h']
  have hop : openS s = if leV (s.drop 508) ≠ moreS 0 (s.take 508) then ([], 4) else (s.take 508, 0) := by
    unfold openS
    rw [if_neg (by omega), h]
  have hm := moreS_lt 0 (s.take 508)
  by_cases hc : le4 (moreS 0 (s.take 508)) = s.drop 508
  case neg =>
    have hne : leV (s.drop 508) ≠ moreS 0 (s.take 508) := by
      intro e
      apply hc
      apply leV_inj
      · rw [le4_len, List.length_drop]; omega
      · rw [leV_le4 _ hm, e]
    rw [if_pos hc, hop, if_pos hne]
    rfl
  have hlv : leV (s.drop 508) = moreS 0 (s.take 508) := by rw [← hc, leV_le4 _ hm]
  have hc' : ¬ (le4 (moreS 0 (s.take 508)) ≠ s.drop 508) := by simpa using hc
  have hl' : ¬ (leV (s.drop 508) ≠ moreS 0 (s.take 508)) := by simpa using hlv
  rw [if_neg hc', hop, if_neg hl']
  simp only [ne_eq, not_true_eq_false, if_false]
  obtain ⟨b, hb⟩ : ∃ b, s.take 508 = b := ⟨_, rfl⟩
  have hbl : b.length = 508 := by rw [← hb, List.length_take]; omega
  have hsb : s = b ++ s.drop 508 := by rw [← hb, List.take_append_drop]
  have e4 : (s.drop 4).take 8 = (b.drop 4).take 8 := by rw [← hb, List.drop_take, List.take_take]; rfl
  have e12 : (s.drop 12).take 2 = (b.drop 12).take 2 := by rw [← hb, List.drop_take, List.take_take]; rfl
  have hrl : rlen s = lenS b := by unfold rlen lenS; rw [e12]
  have hrn : rnum s = beVal ((b.drop 4).take 8) := by unfold rnum; rw [e4]
  rw [hb]
  unfold unpackB
  by_cases hL : 488 < lenS b
  · have hL2 : 488 < rlen s := by rw [hrl]; exact hL
    have hL3 : b.take 4 ≠ mark ∨ 488 < lenS b ∨ nought (b.drop (14 + lenS b)) = false := .inr (.inl hL)
    rw [if_pos hL2, if_pos hL3]
  have hL' : ¬ 488 < rlen s := by rw [hrl]; exact hL
  rw [if_neg hL']
  have e14 : (s.drop 14).take (rlen s) = (b.drop 14).take (lenS b) := by
    rw [hrl, ← hb, List.drop_take, List.take_take, hb]
    congr 1
    omega
  have hvl : ((b.drop 14).take (lenS b)).length = lenS b := by rw [List.length_take, List.length_drop]; omega
  by_cases hp : packS (rnum s) ((s.drop 14).take (rlen s)) = s
  · have hp' : ¬ (packS (rnum s) ((s.drop 14).take (rlen s)) ≠ s) := by simpa using hp
    rw [if_neg hp']
    have hu := unpack_pack (rnum s) (rnum_lt s) ((s.drop 14).take (rlen s)) (by rw [e14, hvl]; omega)
    rw [hp] at hu
    unfold unpackS at hu
    rw [if_neg h', hop, if_neg hl'] at hu
    simp only [ne_eq, not_true_eq_false, if_false] at hu
    rw [hb] at hu
    unfold unpackB at hu
    exact hu.symm
  · rw [if_pos hp, if_pos]
    by_cases hk : b.take 4 = mark
    case neg => exact .inl hk
    cases hn : nought (b.drop (14 + lenS b)) with
    | false => exact .inr (.inr rfl)
    | true =>
      exfalso
      apply hp
      have hz := nought_rep hn
      have hbe : packP (rnum s) ((s.drop 14).take (rlen s)) = b := by
        unfold packP packB
        rw [e14, hvl, hrn, be_beVal 8 _ (by simp; omega)]
        have el : be (lenS b) 2 = (b.drop 12).take 2 := be_beVal 2 _ (by simp; omega)
        rw [el, ← hk]
        have ez : List.replicate (494 - lenS b) 0 = b.drop (14 + lenS b) := by
          rw [hz, List.length_drop, hbl]
          congr 1
          omega
        rw [ez]
        have s1 : b.take 4 ++ (b.drop 4).take 8 = b.take 12 := by rw [← List.take_add]
        have s2 : b.take 12 ++ (b.drop 12).take 2 = b.take 14 := by rw [← List.take_add]
        have s3 : b.take 14 ++ (b.drop 14).take (lenS b) = b.take (14 + lenS b) := by rw [← List.take_add]
        rw [s1, s2, s3, List.take_append_drop]
      unfold packS sealS
      rw [hbe]
      rw [hb] at hc
      rw [hc]
      exact hsb.symm
theorem bs_take' (l : List UInt8) (m : Nat) : bs (l.take m) = (bs l).take m := by unfold bs; rw [List.map_take]
set_option maxRecDepth 100000 in
set_option maxHeartbeats 2000000 in
theorem runpack_any (v : Value) (s : List UInt8) (w : World) (hv : Sl w w.heap.size v s.length (bs s)) (hs : s.length ≤ 1000000) :
    Calls Try.prog 9 #[v] w fun e w' => ∃ v', e = .returned (.tuple #[.int .u64 ((unpackS s).1 : Nat), v', .int .i64 ((unpackS s).2.2 : Nat)]) ∧ w'.ownsRow w.heap.size 5 1 v' (unpackS s).2.1.length (bs (unpackS s).2.1) ∧ Below w.heap.size w w' := by
  obtain ⟨i0, hi, hz0, hz1, hz2⟩ := info_parts (show (Try.prog.info? 5).map (fun i => (i.zero, i.size, i.bytes)) = some (some (.int .u8 0), 1, 1) by kernel_rfl)
  obtain ⟨U, hU⟩ : ∃ U, U = unpackS s := ⟨_, rfl⟩
  rw [← hU]
  rw [← runpackS_eq] at hU
  unfold runpackS at hU
  by_cases h5 : s.length = 512
  case neg =>
    rw [if_pos h5] at hU
    have HU := Lib.hid hU
    clear hU
    obtain ⟨A, c, rfl, _, _⟩ := hv.form
    have h5x : ¬ (s.length : Int) = 512 := by omega
    have hsx : (s.length : Int) ≤ 1000000 := by omega
    go_enter Try.func9, Try.ntmps9
    go_wp2
    go_ret3
    rw [HU.out]
    exact ⟨_, rfl, World.ownsRow_nil _ _ _ _, Below.refl _ _⟩
  have h' : ¬ (s.length ≠ 512) := by omega
  rw [if_neg h'] at hU
  rw [h5] at hv
  obtain ⟨A, c, rfl, hc1, hc2⟩ := hv.form
  obtain ⟨b0, o0, rfl, _, _⟩ := hv.at_ (by omega)
  have hc3 : ¬ c = 508 := by omega
  have hc4 : ¬ c = 14 := by omega
  have hsW : ∀ W, Below w.heap.size w W → Sl W W.heap.size (.slice (some ⟨b0, o0, none⟩) 512 c) 512 (bs s) := fun W hB => hv.now hB
  have cSum : ∀ W, Below w.heap.size w W → Calls Try.prog 21 #[.slice (some ⟨b0, o0, none⟩) 508 c] W fun e w' => e = .returned (.int .u32 (moreS 0 (s.take 508) : Nat)) ∧ W = w' := fun W hB => rsum_any _ (s.take 508) W (by
    have := Sl_cut (hsW W hB) 0 508 (by omega)
    rw [show (s.take 508).length = 508 by rw [List.length_take]; omega]
    rw [List.drop_zero, ← bs_take'] at this
    exact this)
  have hD : ∀ W, Below w.heap.size w W → Sl W W.heap.size (.slice (some ⟨b0, o0 + 508, none⟩) 4 (c - 508)) 4 (bs (s.drop 508)) := fun W hB => by
    have := Sl_cut (hsW W hB) 508 4 (by omega)
    rw [bs, ← List.map_drop, ← List.map_take, List.take_of_length_le (by rw [List.length_drop]; omega)] at this
    exact this
  have cFour := fun W => four_any (moreS 0 (s.take 508)) W (moreS_lt _ _)
  have cG1 : ∀ W, Below w.heap.size w W → Calls Try.prog 24 #[.slice (some ⟨b0, o0, none⟩) 512 c, .int .i64 4, .int .i64 8] W fun e w' => e = .returned (.tuple #[.int .u64 (rnum s : Nat), .bool true]) ∧ W = w' := fun W hB => by
    have := rget_any (.slice (some ⟨b0, o0, none⟩) 512 c) s 4 8 W (by rw [h5]; exact hsW W hB) (by omega) (by omega) (by omega) (by omega) (by omega)
    have e : getS s 4 8 = (rnum s, true) := by unfold getS; rw [if_pos (by omega)]; rfl
    rw [e] at this
    exact this
  have cG2 : ∀ W, Below w.heap.size w W → Calls Try.prog 24 #[.slice (some ⟨b0, o0, none⟩) 512 c, .int .i64 12, .int .i64 2] W fun e w' => e = .returned (.tuple #[.int .u64 (rlen s : Nat), .bool true]) ∧ W = w' := fun W hB => by
    have := rget_any (.slice (some ⟨b0, o0, none⟩) 512 c) s 12 2 W (by rw [h5]; exact hsW W hB) (by omega) (by omega) (by omega) (by omega) (by omega)
    have e : getS s 12 2 = (rlen s, true) := by unfold getS; rw [if_pos (by omega)]; rfl
    rw [e] at this
    exact this
  have hcutV : 14 + rlen s ≤ 512 → ∀ W, Below w.heap.size w W → Sl W W.heap.size (.slice (some ⟨b0, o0 + 14, none⟩) (rlen s) (c - 14)) (rlen s) (bs ((s.drop 14).take (rlen s))) := fun h W hB => by
    have := Sl_cut (hsW W hB) 14 (rlen s) h
    rw [bs, ← List.map_drop, ← List.map_take] at this
    exact this
  have hrn := rnum_lt s
  have hVl : 14 + rlen s ≤ 512 → ((s.drop 14).take (rlen s)).length = rlen s := fun h => by rw [List.length_take, List.length_drop]; omega
  have cP := fun (h : rlen s ≤ 488) W v' (ho : W.ownsRow w.heap.size 5 1 v' (rlen s) (bs ((s.drop 14).take (rlen s)))) => rpack_ok (rnum s) hrn v' ((s.drop 14).take (rlen s)) W (by rw [hVl (by omega)]; exact Sl.of_own ho) (by rw [hVl (by omega)]; exact h)
  have hrl : rlen s < 65536 := Nat.lt_of_lt_of_le (beVal_lt' 2 _ (by simp; omega)) (by decide)
  have hrlx : (rlen s : Int) < 65536 := by omega
  clear hrn hv
  generalize hM : moreS 0 (s.take 508) = M at *
  generalize hDe : s.drop 508 = D at *
  generalize hN : rnum s = N at *
  generalize hL : rlen s = L at *
  generalize hV : (s.drop 14).take L = V at *
  have H5 := Lib.hid h5
  clear h5 h' hM hDe hN hL hV hs
  by_cases hcr : le4 M = D
  case neg =>
    rw [if_pos hcr] at hU
    have HU := Lib.hid hU
    clear hU
    have hcmp : (le4 M == D) = false := by simpa using hcr
    clear hcr
    go_enter Try.func9, Try.ntmps9
    go_wp2
    apply calm_region [.is (.slice (some ⟨b0, o0, none⟩) 512 c), .is (.slice (some ⟨b0, o0, none⟩) 508 c), .is (.int .u32 (M : Nat)), .sl 4 (bs (le4 M)), .is (.string ⟨(le4 M).toArray⟩), .is (.slice (some ⟨b0, o0, none⟩) 512 c), .is (.slice (some ⟨b0, o0 + 508, none⟩) 4 (c - 508)), .is (.string ⟨D.toArray⟩), .is (.bool true)] [[], [0], [1], [2, 2], [3], [], [5], [6], [4, 7]] (by kernel_rfl) (by kernel_rfl) (by kernel_rfl) rfl
    intro f a1 ha1
    simp only [putL, Act.put, List.setIfInBounds_toArray, List.set_cons_succ, List.set_cons_zero] at ha1
    subst ha1
    refine ⟨?_, ?_⟩
    · refine AllCalm.cons (fun W hB hd => ?_) ?_
      · go_wp2_with (fail)
        exact CalmQ.mk rfl _ rfl (Below.refl _ _) rfl
      refine AllCalm.cons (fun W hB hd => ?_) ?_
      · obtain ⟨h0, -⟩ := hd
        have h0 : f 0 = _ := h0
        rw [h0]
        go_wp2_with (fail)
        exact CalmQ.mk rfl _ rfl (Below.refl _ _) rfl
      refine AllCalm.cons (fun W hB hd => ?_) ?_
      · obtain ⟨h1, -⟩ := hd
        have h1 : f 1 = _ := h1
        rw [h1]
        have cs := cSum W hB
        go_wp2_with ((go_at_call 21; (with_reducible refine cs.mono ?_); rintro e wf ⟨rfl, rfl⟩))
        exact CalmQ.mk rfl _ rfl (Below.refl _ _) rfl
      refine AllCalm.cons (fun W hB hd => ?_) ?_
      · obtain ⟨h2, -, -⟩ := hd
        have h2 : f 2 = _ := h2
        rw [h2]
        go_wp2_with ((go_at_call 20; (with_reducible refine (cFour W).mono ?_); rintro e wf ⟨v', rfl, hof, hbf⟩))
        exact CalmQ.mk rfl _ rfl hbf (Sl.of_own hof)
      refine AllCalm.cons (fun W hB hd => ?_) ?_
      · obtain ⟨h3, -⟩ := hd
        have h3 : Sl W W.heap.size (f 3) _ _ := h3
        have st := str h3
        go_wp2_with (fail)
        exact CalmQ.mk rfl _ rfl (Below.refl _ _) rfl
      refine AllCalm.cons (fun W hB hd => ?_) ?_
      · go_wp2_with (fail)
        exact CalmQ.mk rfl _ rfl (Below.refl _ _) rfl
      refine AllCalm.cons (fun W hB hd => ?_) ?_
      · obtain ⟨h5, -⟩ := hd
        have h5 : f 5 = _ := h5
        rw [h5]
        go_wp2_with (fail)
        exact CalmQ.mk rfl _ rfl (Below.refl _ _) rfl
      refine AllCalm.cons (fun W hB hd => ?_) ?_
      · obtain ⟨h6, -⟩ := hd
        have h6 : f 6 = _ := h6
        rw [h6]
        have st := str (hD W hB)
        go_wp2_with (fail)
        exact CalmQ.mk rfl _ rfl (Below.refl _ _) rfl
      refine AllCalm.cons (fun W hB hd => ?_) ?_
      · obtain ⟨h4, h7, -⟩ := hd
        have h4 : f 4 = _ := h4
        have h7 : f 7 = _ := h7
        rw [h4, h7]
        go_wp2_with (fail)
        exact CalmQ.mk rfl _ rfl (Below.refl _ _) rfl
      exact AllCalm.nil
    · intro W hB hT
      obtain ⟨h0, h1, h2, h3, h4, h5, h6, h7, h8, -⟩ := hT
      have h0 : f 0 = _ := h0
      have h1 : f 1 = _ := h1
      have h2 : f 2 = _ := h2
      have h3 : Sl W W.heap.size (f 3) _ _ := h3
      have h4 : f 4 = _ := h4
      have h5 : f 5 = _ := h5
      have h6 : f 6 = _ := h6
      have h7 : f 7 = _ := h7
      have h8 : f 8 = _ := h8
      rw [h0, h1, h2, h4, h5, h6, h7, h8]
      clear h0 h1 h2 h4 h5 h6 h7 h8
      go_wp2
      go_ret3
      rw [HU.out]
      exact ⟨_, rfl, World.ownsRow_nil _ _ _ _, hB⟩
  have hcr' : ¬ (le4 M ≠ D) := by simpa using hcr
  rw [if_neg hcr'] at hU
  clear hcr'
  have HCR := Lib.hid hcr
  have hcmp : (le4 M == D) = true := by simpa using hcr
  clear hcr
  go_enter Try.func9, Try.ntmps9
  go_wp2
  apply calm_region [.is (.slice (some ⟨b0, o0, none⟩) 512 c), .is (.slice (some ⟨b0, o0, none⟩) 508 c), .is (.int .u32 (M : Nat)), .sl 4 (bs (le4 M)), .is (.string ⟨(le4 M).toArray⟩), .is (.slice (some ⟨b0, o0, none⟩) 512 c), .is (.slice (some ⟨b0, o0 + 508, none⟩) 4 (c - 508)), .is (.string ⟨D.toArray⟩), .is (.bool false)] [[], [0], [1], [2, 2], [3], [], [5], [6], [4, 7]] (by kernel_rfl) (by kernel_rfl) (by kernel_rfl) rfl
  intro f a1 ha1
  simp only [putL, Act.put, List.setIfInBounds_toArray, List.set_cons_succ, List.set_cons_zero] at ha1
  subst ha1
  refine ⟨?_, ?_⟩
  · refine AllCalm.cons (fun W hB hd => ?_) ?_
    · go_wp2_with (fail)
      exact CalmQ.mk rfl _ rfl (Below.refl _ _) rfl
    refine AllCalm.cons (fun W hB hd => ?_) ?_
    · obtain ⟨h0, -⟩ := hd
      have h0 : f 0 = _ := h0
      rw [h0]
      go_wp2_with (fail)
      exact CalmQ.mk rfl _ rfl (Below.refl _ _) rfl
    refine AllCalm.cons (fun W hB hd => ?_) ?_
    · obtain ⟨h1, -⟩ := hd
      have h1 : f 1 = _ := h1
      rw [h1]
      have cs := cSum W hB
      go_wp2_with ((go_at_call 21; (with_reducible refine cs.mono ?_); rintro e wf ⟨rfl, rfl⟩))
      exact CalmQ.mk rfl _ rfl (Below.refl _ _) rfl
    refine AllCalm.cons (fun W hB hd => ?_) ?_
    · obtain ⟨h2, -, -⟩ := hd
      have h2 : f 2 = _ := h2
      rw [h2]
      go_wp2_with ((go_at_call 20; (with_reducible refine (cFour W).mono ?_); rintro e wf ⟨v', rfl, hof, hbf⟩))
      exact CalmQ.mk rfl _ rfl hbf (Sl.of_own hof)
    refine AllCalm.cons (fun W hB hd => ?_) ?_
    · obtain ⟨h3, -⟩ := hd
      have h3 : Sl W W.heap.size (f 3) _ _ := h3
      have st := str h3
      go_wp2_with (fail)
      exact CalmQ.mk rfl _ rfl (Below.refl _ _) rfl
    refine AllCalm.cons (fun W hB hd => ?_) ?_
    · go_wp2_with (fail)
      exact CalmQ.mk rfl _ rfl (Below.refl _ _) rfl
    refine AllCalm.cons (fun W hB hd => ?_) ?_
    · obtain ⟨h5, -⟩ := hd
      have h5 : f 5 = _ := h5
      rw [h5]
      go_wp2_with (fail)
      exact CalmQ.mk rfl _ rfl (Below.refl _ _) rfl
    refine AllCalm.cons (fun W hB hd => ?_) ?_
    · obtain ⟨h6, -⟩ := hd
      have h6 : f 6 = _ := h6
      rw [h6]
      have st := str (hD W hB)
      go_wp2_with (fail)
      exact CalmQ.mk rfl _ rfl (Below.refl _ _) rfl
    refine AllCalm.cons (fun W hB hd => ?_) ?_
    · obtain ⟨h4, h7, -⟩ := hd
      have h4 : f 4 = _ := h4
      have h7 : f 7 = _ := h7
      rw [h4, h7]
      go_wp2_with (fail)
      exact CalmQ.mk rfl _ rfl (Below.refl _ _) rfl
    exact AllCalm.nil
  · intro W hB hT
    obtain ⟨h0, h1, h2, h3, h4, h5, h6, h7, h8, -⟩ := hT
    have h0 : f 0 = _ := h0
    have h1 : f 1 = _ := h1
    have h2 : f 2 = _ := h2
    have h3 : Sl W W.heap.size (f 3) _ _ := h3
    have h4 : f 4 = _ := h4
    have h5 : f 5 = _ := h5
    have h6 : f 6 = _ := h6
    have h7 : f 7 = _ := h7
    have h8 : f 8 = _ := h8
    rw [h0, h1, h2, h4, h5, h6, h7, h8]
    clear h0 h1 h2 h4 h5 h6 h7 h8
    clear cSum cFour hD hcmp
    have g1 := cG1 W hB
    have g2 := cG2 W hB
    by_cases hL : 488 < L
    · have hLx : (488 : Int) < (L : Int) := by omega
      rw [if_pos hL] at hU
      have HU := Lib.hid hU
      clear hU hL
      go_wp2_with (first
        | (go_at_call 24; (with_reducible refine g1.mono ?_); rintro e w1 ⟨rfl, rfl⟩)
        | (go_at_call 24; (with_reducible refine g2.mono ?_); rintro e w1 ⟨rfl, rfl⟩))
      go_ret3
      rw [HU.out]
      exact ⟨_, rfl, World.ownsRow_nil _ _ _ _, hB⟩
    · have hLx : ¬ (488 : Int) < (L : Int) := by omega
      have hLy : (L : Int) ≤ 488 := by omega
      rw [if_neg hL] at hU
      have e14 : 14 + L - 14 = L := by omega
      have hcu : Sl (W.alloc (.cells #[] 5)) (W.alloc (.cells #[] 5)).heap.size (.slice (some ⟨b0, o0 + 14, none⟩) (14 + L - 14) (c - 14)) (14 + L - 14) (bs V) := by
        rw [e14]
        exact hcutV (by omega) _ (hB.alloc hB.size _)
      have he0 := own_empty W w.heap.size 5 1 hB.size
      have hb0 : Below w.heap.size w (W.alloc (.cells #[] 5)) := hB.alloc hB.size _
      have cp := cP (by omega)
      have HVL := Lib.hid (hVl (by omega))
      have E14 := Lib.hid e14
      clear hVl hcutV cP e14 hL cG1 cG2 hrl hrlx
      have hWs := hB.size
      generalize packS N V = Xp at *
      by_cases hpk : Xp = s
      · have hpk' : ¬ (Xp ≠ s) := by simpa using hpk
        rw [if_neg hpk'] at hU
        have HU := Lib.hid hU
        have hcmp : (Xp == s) = true := by simpa using hpk
        clear hU hpk hpk'
        go_wp2_with (first
          | (go_at_call 24; (with_reducible refine g1.mono ?_); rintro e w1 ⟨rfl, rfl⟩)
          | (go_at_call 24; (with_reducible refine g2.mono ?_); rintro e w1 ⟨rfl, rfl⟩)
          | (at_builtin; (refine wpList_append_sl _ rfl (.tmp 36) (.tmp 40) _ rfl w.heap.size 5 i0 _ Try.underlying23 hi hz0 hz1 (by omega) rfl (.slice (some ⟨W.heap.size, 0, none⟩) 0 0) 0 [] rfl he0 _ (.slice (some ⟨b0, o0 + 14, none⟩) (14 + L - 14) (c - 14)) (14 + L - 14) (bs V) rfl hcu bs_one (by omega) hb0.size ?_); intro v6 w6 ho6 hg6 hat6; have hb6 := below_own hb0 hg6 hb0.size (fun k hk => (own_tag he0 k hk).1); have ho6' := ownsRow_len ho6 ((Nat.zero_add _).trans E14.out) (List.nil_append _); obtain ⟨A6, c6, rfl, _, _⟩ := own_form ho6'; have cp6 := cp _ _ ho6')
          | (go_at_call 7; (with_reducible refine cp6.mono ?_); rintro e w10 ⟨v10, rfl, ho10, hb10⟩; obtain ⟨A10, c10, rfl, _, _⟩ := own_form ho10; have hbt := hb6.trans (hb10.mono hb6.size); have st1 := str (Sl.of_own ho10); have st2 := str (hsW _ hbt)))
        go_ret3
        rw [HU.out]
        exact ⟨_, rfl, ownsRow_len (own_below ho6' hb10) HVL.out.symm rfl, hbt⟩
      · rw [if_pos hpk] at hU
        have HU := Lib.hid hU
        have hcmp : (Xp == s) = false := by simpa using hpk
        clear hU hpk
        go_wp2_with (first
          | (go_at_call 24; (with_reducible refine g1.mono ?_); rintro e w1 ⟨rfl, rfl⟩)
          | (go_at_call 24; (with_reducible refine g2.mono ?_); rintro e w1 ⟨rfl, rfl⟩)
          | (at_builtin; (refine wpList_append_sl _ rfl (.tmp 36) (.tmp 40) _ rfl w.heap.size 5 i0 _ Try.underlying23 hi hz0 hz1 (by omega) rfl (.slice (some ⟨W.heap.size, 0, none⟩) 0 0) 0 [] rfl he0 _ (.slice (some ⟨b0, o0 + 14, none⟩) (14 + L - 14) (c - 14)) (14 + L - 14) (bs V) rfl hcu bs_one (by omega) hb0.size ?_); intro v6 w6 ho6 hg6 hat6; have hb6 := below_own hb0 hg6 hb0.size (fun k hk => (own_tag he0 k hk).1); have ho6' := ownsRow_len ho6 ((Nat.zero_add _).trans E14.out) (List.nil_append _); obtain ⟨A6, c6, rfl, _, _⟩ := own_form ho6'; have cp6 := cp _ _ ho6')
          | (go_at_call 7; (with_reducible refine cp6.mono ?_); rintro e w10 ⟨v10, rfl, ho10, hb10⟩; obtain ⟨A10, c10, rfl, _, _⟩ := own_form ho10; have hbt := hb6.trans (hb10.mono hb6.size); have st1 := str (Sl.of_own ho10); have st2 := str (hsW _ hbt)))
        go_ret3
        rw [HU.out]
        exact ⟨_, rfl, World.ownsRow_nil _ _ _ _, hbt⟩
end Tw
end Go.Proofs.Ytddliemjbolffaa
