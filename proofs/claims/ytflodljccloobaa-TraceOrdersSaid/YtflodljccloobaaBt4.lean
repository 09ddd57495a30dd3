/- Package bits: turn: contract. -/
import Derived.Test.YtflodljccloobaaBt3
namespace Go.Proofs.Ytflodljccloobaa
open Go.ChangeShapes Go.WideShapes Go.ChangeAt Go.RowKit Go.Lib
set_option linter.unusedVariables false
theorem owns_below {w w' : World} {base e sz : Nat} {v : Value} {n : Nat} {xs : List Value} (h : w.ownsRow base e sz v n xs) (hb : Below w.heap.size w w') : w'.ownsRow base e sz v n xs := by
  refine ⟨h.1, ?_⟩
  rcases h.2 with hn | ⟨g, cap, cur, rfl, hg, hgg, rest⟩
  · exact .inl hn
  · refine .inr ⟨g, cap, cur, rfl, hg, ?_, rest⟩
    rw [hb.block g (Array.getElem?_eq_some_iff.1 hgg).1]
    exact hgg
theorem bs_set8 (L : List UInt8) (j : Nat) (y : UInt8) : (bs L).set j (.int .u8 (y.toNat : Int)) = bs (L.set j y) := by simp [bs, List.map_set]
theorem xor8 (x : Nat) (hx : x < 256) (q : Nat) (hq : q < 8) : bits BinOp.xor IntKind.u8 (x : Int) (2 ^ q % 256) = ((x ^^^ 2 ^ q : Nat) : Int) := by
  have key : ∀ q : Fin 8, ∀ x : Fin 256, bits BinOp.xor IntKind.u8 ((x.val : Nat) : Int) (2 ^ q.val % 256) = ((x.val ^^^ 2 ^ q.val : Nat) : Int) := by decide +kernel
  exact key ⟨q, hq⟩ ⟨x, hx⟩
/-- How many bits of the n from the F-th on are not so. -/
def tn (l : List UInt8) (F : Nat) (set : Bool) : Nat → Nat
  | 0 => 0
  | n + 1 => tn l F set n + (if bit l (F + n) = set then 0 else 1)
theorem tn_le (l : List UInt8) (F : Nat) (set : Bool) (n : Nat) : tn l F set n ≤ n := by
  induction n with
  | zero => exact Nat.le_refl _
  | succ n ih => unfold tn; split <;> omega
set_option maxHeartbeats 1000000 in
theorem turn_any (B g c : Nat) (l : List UInt8) (F N : Nat) (set : Bool) (o w : World) (hl : l.length ≤ 1000000) (hBw : B ≤ w.heap.size) (hN : F + N ≤ 8 * l.length) (hF : F < 8 * l.length) (hown : w.ownsRow B 5 1 (.slice (some ⟨g, 0, none⟩) l.length c) l.length (bs l)) (hg : B ≤ g) (hb : Below B o w) :
    Calls Try.prog 64 #[.slice (some ⟨g, 0, none⟩) l.length c, .int .i64 (F : Nat), .int .i64 (N : Nat), .bool set] w fun e w' => e = .returned (.int .i64 (tn l F set N : Nat)) ∧ ∃ l' : List UInt8, l'.length = l.length ∧ (∀ j, bit l' j = if F ≤ j ∧ j < F + N then set else bit l j) ∧ w'.ownsRow B 5 1 (.slice (some ⟨g, 0, none⟩) l.length c) l.length (bs l') ∧ Below B o w' := by
  have hlx : (l.length : Int) ≤ 1000000 := by omega
  have hFx : (F : Int) < ((8 * l.length : Nat) : Int) := by omega
  have hNx : (F : Int) + (N : Int) ≤ 8 * (l.length : Int) := by omega
  have hmin : (N : Int) ≤ 8 * (l.length : Int) - (F : Int) := by omega
  have hsz0 := size_any _ l w hl (Sl.of_own hown)
  go_enter Try.func64, Try.ntmps64
  go_wp2_with (go_at_call 66; (with_reducible refine hsz0.mono ?_); rintro e w1 ⟨rfl, rfl⟩)
  clear hsz0
  go_loopw [9, 10] (fun t i wr => ∃ (k : Nat) (L : List UInt8), k ≤ N ∧ L.length = l.length ∧ t = .int .i64 (tn l F set k : Nat) ∧ i = .int .i64 (F + k : Nat) ∧ Hid (∀ j, bit L j = if F ≤ j ∧ j < F + k then set else bit l j) ∧ wr.ownsRow B 5 1 (.slice (some ⟨g, 0, none⟩) l.length c) l.length (bs L) ∧ Below B o wr ∧ B ≤ wr.heap.size) (fun _ i _ => F + N - (intOf i).toNat)
  case atStart => exact ⟨0, l, by omega, rfl, rfl, by simp, Lib.hid (fun j => by rw [if_neg (by omega)]), hown, hb, hBw⟩
  case round =>
    clear hown hb
    obtain ⟨k, L, hk, hL, rfl, rfl, HB, hown, hb, hBr⟩ := hrel
    have hsl : Sl wr wr.heap.size (.slice (some ⟨g, 0, none⟩) l.length c) L.length (bs L) := by rw [hL]; exact Sl.of_own hown
    have hsz : Calls Try.prog 66 #[.slice (some ⟨g, 0, none⟩) l.length c] wr fun e w' => e = .returned (.int .i64 ((8 * l.length : Nat))) ∧ wr = w' := by
      have h := size_any _ L wr (by omega) hsl
      rw [hL] at h
      exact h
    have hhas := has_nat _ L (F + k) wr (by omega) hsl
    rw [show ((F + k : Nat) : Int) = (F : Int) + (k : Int) from Int.natCast_add F k] at hhas
    have HLn := Lib.hid hL
    clear hsl hL
    have htn := tn_le l F set k
    by_cases hkN : k < N
    · have hkx : (k : Int) < (N : Int) := by omega
      have hbk : bit L (F + k) = bit l (F + k) := by rw [HB.out, if_neg (by omega)]
      rw [hbk] at hhas
      by_cases hset : bit l (F + k) = set
      · have ht : tn l F set (k + 1) = tn l F set k := by show tn l F set k + _ = _; rw [if_pos hset]; rfl
        rw [hset] at hhas
        have hnext : Hid (∀ j, bit L j = if F ≤ j ∧ j < F + (k + 1) then set else bit l j) := Lib.hid fun j => by
          rw [HB.out]
          by_cases hj : j = F + k
          · subst hj
            rw [if_neg (by omega), if_pos (by omega), hset]
          · by_cases h : F ≤ j ∧ j < F + k
            · rw [if_pos h, if_pos (by omega)]
            · rw [if_neg h, if_neg (by omega)]
        clear hset
        have hne : (set != set) = false := by simp
        go_wp2_with (first
          | (go_at_call 66; (with_reducible refine hsz.mono ?_); rintro e w1 ⟨rfl, rfl⟩)
          | (go_at_call 67; (with_reducible refine hhas.mono ?_); rintro e w1 ⟨rfl, rfl⟩))
        exact ⟨⟨k + 1, L, by omega, HLn.out, by rw [ht], by go_num, hnext, hown, hb, hBr⟩, by simp [intOf]; omega⟩
      · have ht : tn l F set (k + 1) = tn l F set k + 1 := by show tn l F set k + _ = _; rw [if_neg hset]
        have hset2 : bit l (F + k) = !set := by revert hset; cases bit l (F + k) <;> cases set <;> simp
        rw [hset2] at hhas
        have hi : F + k < 8 * L.length := by rw [HLn.out]; omega
        have hnext : Hid (∀ j, bit (over L (F + k)) j = if F ≤ j ∧ j < F + (k + 1) then set else bit l j) := Lib.hid fun j => by
          rw [bit_over hi, HB.out]
          by_cases hj : j = F + k
          · subst hj
            rw [if_pos rfl, if_neg (by omega), if_pos (by omega), hset2, Bool.not_not]
          · rw [if_neg hj]
            by_cases h : F ≤ j ∧ j < F + k
            · rw [if_pos h, if_pos (by omega)]
            · rw [if_neg h, if_neg (by omega)]
        have hj8 : (F + k) / 8 < L.length := by omega
        have hq8 : (F + k) % 8 < 8 := by omega
        have hgd : L.getD ((F + k) / 8) 0 = L[(F + k) / 8] := by rw [List.getD_eq_getElem?_getD, List.getElem?_eq_getElem hj8]; rfl
        have hG : ∀ W, Below wr.heap.size wr W → W.ownsRow B 5 1 (.slice (some ⟨g, 0, none⟩) l.length c) l.length (bs L) ∧ W.cell? ⟨g, (F + k) / 8, none⟩ = some (.int .u8 ((L[(F + k) / 8]).toNat : Int)) ∧ Below B o W ∧ B ≤ W.heap.size := by
          intro W hW
          have ho := owns_below hown hW
          exact ⟨ho, by rw [ho.cellAt _ (by have := HLn.out; omega)]; exact bs_get hj8, hb.trans (hW.mono hBr), Nat.le_trans hBr hW.size⟩
        clear hset hset2
        have hne : ((!set) != set) = true := by cases set <;> rfl
        go_wp2_with (first
          | (go_at_call 66; (with_reducible refine hsz.mono ?_); rintro e w1 ⟨rfl, rfl⟩)
          | (go_at_call 67; (with_reducible refine hhas.mono ?_); rintro e w1 ⟨rfl, rfl⟩))
        apply calm_tail 9 [.is _, .is _, .is _, .is _, .is _, .is _, .is _, .is _, .is _] [[], [], [1], [0, 2], [3], [], [5], [6], [4, 7]] (by kernel_rfl) (by kernel_rfl) (by kernel_rfl) rfl
        intro f a1 ha1
        simp only [List.take_succ_cons, List.take_zero, putL, Act.put, List.setIfInBounds_toArray, List.set_cons_succ, List.set_cons_zero] at ha1
        subst ha1
        refine ⟨?_, ?_⟩
        · refine AllCalm.cons (fun W hB hd => ?_) ?_
          · go_wp2_with (fail)
            exact CalmQ.mk rfl _ rfl (Below.refl _ _) rfl
          refine AllCalm.cons (fun W hB hd => ?_) ?_
          · go_wp2_with (fail)
            exact CalmQ.mk rfl _ rfl (Below.refl _ _) rfl
          refine AllCalm.cons (fun W hB hd => ?_) ?_
          · obtain ⟨h1, -⟩ := hd
            have h1 : f 1 = _ := h1
            rw [h1]
            go_wp2_with (fail)
            exact CalmQ.mk rfl _ rfl (Below.refl _ _) rfl
          refine AllCalm.cons (fun W hB hd => ?_) ?_
          · obtain ⟨h0, h2, -⟩ := hd
            have h0 : f 0 = _ := h0
            have h2 : f 2 = _ := h2
            rw [h0, h2]
            go_wp2_with (fail)
            exact CalmQ.mk rfl _ rfl (Below.refl _ _) rfl
          refine AllCalm.cons (fun W hB hd => ?_) ?_
          · obtain ⟨h3, -⟩ := hd
            have h3 : f 3 = _ := h3
            rw [h3]
            have kx := (hG W hB).2.1
            go_wp2_with (fail)
            exact CalmQ.mk rfl _ rfl (Below.refl _ _) rfl
          refine AllCalm.cons (fun W hB hd => ?_) ?_
          · go_wp2_with (fail)
            exact CalmQ.mk rfl _ rfl (Below.refl _ _) rfl
          refine AllCalm.cons (fun W hB hd => ?_) ?_
          · obtain ⟨h5, -⟩ := hd
            have h5 : f 5 = _ := h5
            rw [h5]
            go_wp2_with (fail)
            exact CalmQ.mk rfl _ rfl (Below.refl _ _) rfl
          refine AllCalm.cons (fun W hB hd => ?_) ?_
          · obtain ⟨h6, -⟩ := hd
            have h6 : f 6 = _ := h6
            rw [h6]
            go_wp2_with (fail)
            exact CalmQ.mk rfl _ rfl (Below.refl _ _) rfl
          refine AllCalm.cons (fun W hB hd => ?_) ?_
          · obtain ⟨h4, h7, -⟩ := hd
            have h4 : f 4 = _ := h4
            have h7 : f 7 = _ := h7
            rw [h4, h7]
            go_wp2_with (fail)
            exact CalmQ.mk rfl _ rfl (Below.refl _ _) rfl
          exact AllCalm.nil
        · intro W hB hT
          obtain ⟨h0, h1, h2, h3, h4, h5, h6, h7, h8, -⟩ := hT
          have h0 : f 0 = _ := h0
          have h1 : f 1 = _ := h1
          have h2 : f 2 = _ := h2
          have h3 : f 3 = _ := h3
          have h4 : f 4 = _ := h4
          have h5 : f 5 = _ := h5
          have h6 : f 6 = _ := h6
          have h7 : f 7 = _ := h7
          have h8 : f 8 = _ := h8
          rw [h0, h1, h2, h3, h4, h5, h6, h7, h8]
          clear h0 h1 h2 h3 h4 h5 h6 h7 h8
          simp only [List.drop_succ_cons, List.drop_zero]
          obtain ⟨ho, kx, hbW, hBW⟩ := hG W hB
          have hfz := ho.frozenAt ((F + k) / 8)
          have hst := Lib.hid (ho.stored ((F + k) / 8))
          have hxv : bits BinOp.xor IntKind.u8 ((L[(F + k) / 8]).toNat : Int) (2 ^ ((F + k) % 8) % 256) = ((L[(F + k) / 8] ^^^ UInt8.ofNat (2 ^ ((F + k) % 8))).toNat : Int) := by
            rw [xor8 _ (UInt8.toNat_lt _) _ hq8, over_byte _ _ hq8]
          have HXV := Lib.hid hxv
          clear hxv hG hown
          go_wp2_with fail
          refine ⟨⟨k + 1, over L (F + k), by omega, by rw [over_len]; exact HLn.out, by rw [ht]; simp, by go_num, hnext, ?_, hbW.setCell (by simpa using hg) _, by simpa using hBW⟩, by simp [intOf]; omega⟩
          unfold over
          rw [hgd, HXV.out, ← bs_set8]
          exact (hst.out _).1
    · obtain rfl : k = N := by omega
      go_wp2_with (go_at_call 66; (with_reducible refine hsz.mono ?_); rintro e w1 ⟨rfl, rfl⟩)
      go_ret
      exact ⟨rfl, L, HLn.out, HB.out, hown, hb⟩
end Go.Proofs.Ytflodljccloobaa
