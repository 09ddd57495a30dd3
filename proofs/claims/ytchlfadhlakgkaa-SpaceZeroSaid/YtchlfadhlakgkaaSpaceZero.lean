/- SpaceZero: for all bytes and all numbers the statement's function tells true and turns nothing that was there. No condition. -/
import Derived.Test.YtchlfadhlakgkaaSp5
import Derived.LoopTactic
import Derived.BigQuiet
import Derived.IntWalk
import Derived.Deep.QuietTactic
namespace Go.Proofs.Ytchlfadhlakgkaa
open Go.ChangeShapes Go.WideShapes Go.ChangeAt Go.RowKit Go.Lib
set_option linter.unusedVariables false
namespace Zero
theorem walk_no (v : Value) (l : List UInt8) (at_ n : Int) (w : World) (hd : Sl w w.heap.size v l.length (bs l)) (hno : l.length % 8 ≠ 0 ∨ 128 < l.length ∨ at_ < 0 ∨ n < 0 ∨ 16 < n ∨ 16 < at_) :
    Calls Try.prog 4 #[v, .int .i64 at_, .int .i64 n] w fun e w' => e = .returned (.bool true) ∧ Below w.heap.size w w' := by
  obtain ⟨A, c, rfl, hc1, hc2⟩ := hd.form
  by_cases h8 : l.length % 8 = 0
  · have h8x : (l.length : Int) % 8 = 0 := by omega
    by_cases h2 : 128 < l.length
    · have h2x : (128 : Int) < (l.length : Int) := by omega
      go_enter Try.func4, Try.ntmps4
      go_wp2_with (go_at_call 7; refine (known_any _).mono ?_; rintro e w1 ⟨rfl, hb1⟩)
      go_ret
      exact ⟨rfl, hb1⟩
    have h2x : ¬ (128 : Int) < (l.length : Int) := by omega
    by_cases h3 : at_ < 0
    · go_enter Try.func4, Try.ntmps4
      go_wp2_with (go_at_call 7; refine (known_any _).mono ?_; rintro e w1 ⟨rfl, hb1⟩)
      go_ret
      exact ⟨rfl, hb1⟩
    by_cases h4 : n < 0
    · go_enter Try.func4, Try.ntmps4
      go_wp2_with (go_at_call 7; refine (known_any _).mono ?_; rintro e w1 ⟨rfl, hb1⟩)
      go_ret
      exact ⟨rfl, hb1⟩
    by_cases h5 : 16 < n
    · go_enter Try.func4, Try.ntmps4
      go_wp2_with (go_at_call 7; refine (known_any _).mono ?_; rintro e w1 ⟨rfl, hb1⟩)
      go_ret
      exact ⟨rfl, hb1⟩
    have h6 : 16 < at_ := by omega
    go_enter Try.func4, Try.ntmps4
    go_wp2_with (go_at_call 7; refine (known_any _).mono ?_; rintro e w1 ⟨rfl, hb1⟩)
    go_ret
    exact ⟨rfl, hb1⟩
  · have h8x : ¬ (l.length : Int) % 8 = 0 := by omega
    go_enter Try.func4, Try.ntmps4
    go_wp2_with (go_at_call 7; refine (known_any _).mono ?_; rintro e w1 ⟨rfl, hb1⟩)
    go_ret
    exact ⟨rfl, hb1⟩
/-- What a byte is in the end. -/
def fin (l : List UInt8) (a n j : Nat) : UInt8 := if a ≤ j / 8 ∧ j / 8 < a + n then 0 else l.getD j 0
section
variable {o W : World} {X g h : Nat} {D M : List UInt8}
theorem made (w : World) (hb : Below o.heap.size o w) : Calls Try.prog 8 #[.int .i64 16] w fun e w' => ∃ X g h, e = .returned (.tuple #[.pointer (some ⟨X, 0, none⟩), .int .i64 0]) ∧ Spc o w' X g h 16 (List.replicate 128 0) [0, 0] := by
  refine (Spc.made 16 (by omega) (by omega) hb).mono ?_
  rintro e w' ⟨X, g, h, rfl, h1, _⟩
  exact ⟨X, g, h, rfl, h1⟩
theorem wr (v : Value) (l : List UInt8) (q : Nat) (hs : Spc o W X g h 16 (List.replicate 128 0) [0, 0]) (hd : Sl W W.heap.size v l.length (bs l)) (hl : l.length = q * 8) (hq : q ≤ 16) : Calls Try.prog 9 #[.pointer (some ⟨X, 0, none⟩), .int .i64 0, v] W fun e w' => e = .returned (.int .i64 0) ∧ ∃ D M, Spc o w' X g h 16 D M ∧ (∀ j, j < 128 → D[j]? = some (l.getD j 0)) ∧ (∀ j, bit M j = decide (8 * j < l.length)) := by
  refine (write_ok 0 q v l hs.inv hd hl (by omega) (by omega)).mono ?_
  rintro e w' ⟨rfl, M', h1, h3, h4⟩
  refine ⟨rfl, _, M', hs.to h3 h4, fun j hj => ?_, fun j => ?_⟩
  · rw [laid_get (by rw [List.length_replicate]; omega), List.getD_eq_getElem?_getD]
    by_cases hjl : j < l.length
    · rw [if_pos (by omega), show j - 0 * 8 = j by omega, List.getElem?_eq_getElem hjl]
      rfl
    · rw [if_neg (by omega), List.getElem?_replicate, if_pos hj, List.getElem?_eq_none (by omega)]
      rfl
  · rw [h1.2]
    by_cases hj : j < q
    · rw [if_pos (by omega), decide_eq_true (by omega)]
    · rw [if_neg (by omega), decide_eq_false (by omega)]
      unfold bit
      rw [show ([0, 0] : List UInt8).getD (j / 8) 0 = 0 from by
        rcases Nat.lt_or_ge (j / 8) 2 with h | h
        · match j / 8, h with
          | 0, _ => rfl
          | 1, _ => rfl
        · rw [List.getD_eq_getElem?_getD, List.getElem?_eq_none (by simpa using h)]; rfl]
      simp
theorem un (l : List UInt8) (a n : Nat) (hs : Spc o W X g h 16 D M) (h1 : ∀ j, j < 128 → D[j]? = some (l.getD j 0)) (h2 : ∀ j, bit M j = decide (8 * j < l.length)) (hn : n ≤ 16) (ha : a + n ≤ 16) : Calls Try.prog 12 #[.pointer (some ⟨X, 0, none⟩), .int .i64 (a : Nat), .int .i64 (n : Nat)] W fun e w' => e = .returned (.int .i64 0) ∧ ∃ D M, Spc o w' X g h 16 D M ∧ (∀ j, j < 128 → D[j]? = some (fin l a n j)) ∧ (∀ j, bit M j = if a ≤ j ∧ j < a + n then false else decide (8 * j < l.length)) := by
  have hDl := hs.inv.lenD
  refine (unmap_ok a n hs.inv (by omega) ha).mono ?_
  rintro e w' ⟨rfl, M', h5, h3, h4⟩
  refine ⟨rfl, _, M', hs.to h3 h4, fun j hj => ?_, fun j => ?_⟩
  · rw [laid_get (by rw [List.length_replicate]; omega), List.length_replicate]
    unfold fin
    by_cases hjl : a * 8 ≤ j ∧ j < a * 8 + n * 8
    · rw [if_pos hjl, if_pos (by omega), List.getElem?_replicate, if_pos (by omega)]
    · rw [if_neg hjl, if_neg (by omega)]
      exact h1 j hj
  · rw [h5.2, h2]
theorem rd (l : List UInt8) (a n : Nat) (hs : Spc o W X g h 16 D M) (h1 : ∀ j, j < 128 → D[j]? = some (fin l a n j)) : Calls Try.prog 11 #[.pointer (some ⟨X, 0, none⟩), .int .i64 0, .int .i64 16] W fun e w' => ∃ b c, e = .returned (.tuple #[.slice (some ⟨b, 0, none⟩) 128 c, .int .i64 0]) ∧ 128 ≤ c ∧ c ≤ maxLen ∧ b < w'.heap.size ∧ (∀ j : Nat, j < 128 → w'.cell? ⟨b, j, none⟩ = some (.int .u8 ((fin l a n j).toNat : Int))) ∧ Spc o w' X g h 16 D M := by
  have hDl := hs.inv.lenD
  refine (read_s 0 16 hs (by omega) (by omega) (by omega)).mono ?_
  rintro e w' ⟨b, c, rfl, hc1, hc2, h3, _⟩
  have hpl : (piece D 0 16).length = 128 := piece_len (by omega)
  have hlt : b < w'.heap.size := by
    obtain ⟨b', _, e, hb', _⟩ := h3.sl.at_ (by omega)
    cases e
    exact hb'
  refine ⟨b, c, rfl, hc1, hc2, hlt, fun j hj => ?_, h3.spc⟩
  have := h3.row.cellAt j (by omega)
  rw [this, bs, List.getElem?_map, piece_get (by omega) (by omega), show 0 * 8 + j = j by omega, h1 j hj]
  rfl
end
set_option maxRecDepth 100000 in
set_option maxHeartbeats 1000000 in
theorem walk (v : Value) (l : List UInt8) (at_ n : Int) (w : World) (hd : Sl w w.heap.size v l.length (bs l)) (_ : -9223372036854775808 ≤ at_) (_ : at_ ≤ 9223372036854775807) (_ : -9223372036854775808 ≤ n) (_ : n ≤ 9223372036854775807) :
    Calls Try.prog 4 #[v, .int .i64 at_, .int .i64 n] w fun e w' => e = .returned (.bool true) ∧ Below w.heap.size w w' := by
  by_cases hno : l.length % 8 ≠ 0 ∨ 128 < l.length ∨ at_ < 0 ∨ n < 0 ∨ 16 < n ∨ 16 < at_
  · exact walk_no v l at_ n w hd hno
  obtain ⟨a, rfl⟩ : ∃ a : Nat, at_ = a := ⟨at_.toNat, by omega⟩
  obtain ⟨n, rfl⟩ : ∃ m : Nat, n = m := ⟨n.toNat, by omega⟩
  obtain ⟨q, hq⟩ : ∃ q : Nat, l.length = q * 8 := ⟨l.length / 8, by omega⟩
  have h8x : (l.length : Int) % 8 = 0 := by omega
  have h2x : ¬ (128 : Int) < (l.length : Int) := by omega
  have h3 : ¬ (a : Int) < 0 := by omega
  have h4 : ¬ (n : Int) < 0 := by omega
  have h5 : ¬ 16 < (n : Int) := by omega
  have h6 : ¬ 16 < (a : Int) := by omega
  have hq16 : q ≤ 16 := by omega
  have hwr := fun W X g h (hs : Spc w W X g h 16 (List.replicate 128 0) [0, 0]) => wr v l q hs (hd.now hs.bl) hq hq16
  have hn16 : n ≤ 16 := by omega
  have ha16 : a ≤ 16 := by omega
  have hl8 : l.length % 8 = 0 := by omega
  have hl128 : l.length ≤ 128 := by omega
  obtain ⟨A, c, rfl, hc1, hc2⟩ := hd.form
  clear hno hq
  by_cases hfit : a + n ≤ 16
  case neg =>
    have hfx : (16 : Int) < (a : Int) + (n : Int) := by omega
    have hun := fun W X g h D M (hs : Spc w W X g h 16 D M) => unmap_no (a : Int) (n : Int) hs.inv (by omega) (decide_eq_false (by omega))
    go_enter Try.func4, Try.ntmps4
    go_wp2_with (first
      | (go_at_call 7; refine (known_any _).mono ?_; rintro e w1 ⟨rfl, hb1⟩)
      | (go_at_call 8; (with_reducible refine (made _ hb1).mono ?_); rintro e w2 ⟨X, g, h, rfl, hs2⟩)
      | (go_at_call 9; (with_reducible refine (hwr _ _ _ _ hs2).mono ?_); rintro e w3 ⟨rfl, D3, M3, hs3, h31, h32⟩)
      | (go_at_call 12; (with_reducible refine (hun _ _ _ _ _ _ hs3).mono ?_); rintro e w4 ⟨rfl, rfl⟩))
    go_ret
    exact ⟨rfl, hs3.bl⟩
  have hfx : ¬ (16 : Int) < (a : Int) + (n : Int) := by omega
  have hun := fun W X g h D M (hs : Spc w W X g h 16 D M) h1 h2 => un l a n hs h1 h2 hn16 hfit
  go_enter Try.func4, Try.ntmps4
  go_wp2_with (first
    | (go_at_call 7; refine (known_any _).mono ?_; rintro e w1 ⟨rfl, hb1⟩)
    | (go_at_call 8; (with_reducible refine (made _ hb1).mono ?_); rintro e w2 ⟨X, g, h, rfl, hs2⟩)
    | (go_at_call 9; (with_reducible refine (hwr _ _ _ _ hs2).mono ?_); rintro e w3 ⟨rfl, D3, M3, hs3, h31, h32⟩)
    | (go_at_call 12; (with_reducible refine (hun _ _ _ _ _ _ hs3 h31 h32).mono ?_); rintro e w4 ⟨rfl, D4, M4, hs4, h41, h42⟩)
    | (go_at_call 11; (with_reducible refine (rd l a n hs4 h41).mono ?_); rintro e w5 ⟨b5, c5, rfl, hc5, hc6, hlt5, x5, hs5⟩))
  go_loopw [12] (fun i wr => ∃ k : Nat, k ≤ 16 ∧ i = .int .i64 k ∧ Below w5.heap.size w5 wr) (fun i _ => 16 - (intOf i).toNat)
  case atStart => exact ⟨0, by omega, rfl, Below.refl _ _⟩
  case round =>
    obtain ⟨k, hk, rfl, hbr⟩ := hrel
    have hs6 := hs5.below hbr
    clear hwr hun hs2 hs3 h31 h32 hs4 h41
    by_cases hk16 : k < 16
    case neg =>
      obtain rfl : k = 16 := by omega
      go_wp2
      go_ret
      exact ⟨rfl, hs6.bl⟩
    have hkx : (k : Int) < 16 := by omega
    have hmap := mapped_any (k : Int) hs6.inv
    rw [show (k : Int).toNat = k by omega, h42 k, decide_eq_true (show 0 ≤ (k : Int) by omega), Bool.true_and] at hmap
    clear h42
    rcases (by omega : (((a ≤ k ∧ k < a + n) ∧ 8 * k < l.length) ∨ ((a ≤ k ∧ k < a + n) ∧ ¬ 8 * k < l.length) ∨ (¬ a ≤ k ∧ 8 * k < l.length) ∨ (¬ a ≤ k ∧ ¬ 8 * k < l.length) ∨ ((a ≤ k ∧ ¬ k < a + n) ∧ 8 * k < l.length) ∨ ((a ≤ k ∧ ¬ k < a + n) ∧ ¬ 8 * k < l.length))) with hc | hc | hc | hc | hc | hc
    · have hg : a ≤ k ∧ k < a + n := by omega
      rw [if_pos hg] at hmap
      have g1 : (a : Int) ≤ (k : Int) := by omega
      have g2 : (k : Int) < (a : Int) + (n : Int) := by omega
      have i1 : 8 * (k : Int) < (l.length : Int) := by omega
      go_wp2_with (go_at_call 13; (with_reducible refine hmap.mono ?_); rintro e w7 ⟨rfl, rfl⟩)
      go_loopw [15] (fun i wq => ∃ j : Nat, 8 * k ≤ j ∧ j ≤ 8 * k + 8 ∧ i = .int .i64 j ∧ Below w5.heap.size w5 wq) (fun i _ => 8 * k + 8 - (intOf i).toNat)
      case atStart => exact ⟨8 * k, by omega, by omega, by simp, hbr⟩
      case round =>
        obtain ⟨j, hj1, hj2, rfl, hbq⟩ := hrel
        have hs7 := hs5.below hbq
        by_cases hj : j < 8 * k + 8
        case neg =>
          obtain rfl : j = 8 * k + 8 := by omega
          go_wp2
          exact ⟨⟨k + 1, by omega, by simp, hbq⟩, by simp [intOf]; omega⟩
        have hjx : (j : Int) < 8 * (k : Int) + 8 := by omega
        have x7 := (hbq.cell (p := ⟨b5, j, none⟩) hlt5).trans (x5 j (by omega))
        have hj128 : (j : Int) < 128 := by omega
        have hv : fin l a n j = 0 := by
          unfold fin
          rw [if_pos (by omega)]
        rw [hv] at x7
        clear hv x5 hd
        go_wp2
        go_quiet (fail)
        go_wp2
        exact ⟨⟨j + 1, by omega, by omega, by simp, below_drewN hbq _⟩, by simp [intOf]; omega⟩
    · have hg : a ≤ k ∧ k < a + n := by omega
      rw [if_pos hg] at hmap
      have g1 : (a : Int) ≤ (k : Int) := by omega
      have g2 : (k : Int) < (a : Int) + (n : Int) := by omega
      have i1 : ¬ 8 * (k : Int) < (l.length : Int) := by omega
      go_wp2_with (go_at_call 13; (with_reducible refine hmap.mono ?_); rintro e w7 ⟨rfl, rfl⟩)
      go_loopw [15] (fun i wq => ∃ j : Nat, 8 * k ≤ j ∧ j ≤ 8 * k + 8 ∧ i = .int .i64 j ∧ Below w5.heap.size w5 wq) (fun i _ => 8 * k + 8 - (intOf i).toNat)
      case atStart => exact ⟨8 * k, by omega, by omega, by simp, hbr⟩
      case round =>
        obtain ⟨j, hj1, hj2, rfl, hbq⟩ := hrel
        have hs7 := hs5.below hbq
        by_cases hj : j < 8 * k + 8
        case neg =>
          obtain rfl : j = 8 * k + 8 := by omega
          go_wp2
          exact ⟨⟨k + 1, by omega, by simp, hbq⟩, by simp [intOf]; omega⟩
        have hjx : (j : Int) < 8 * (k : Int) + 8 := by omega
        have x7 := (hbq.cell (p := ⟨b5, j, none⟩) hlt5).trans (x5 j (by omega))
        have hj128 : (j : Int) < 128 := by omega
        have hv : fin l a n j = 0 := by
          unfold fin
          rw [if_pos (by omega)]
        rw [hv] at x7
        clear hv x5 hd
        go_wp2
        go_quiet (fail)
        go_wp2
        exact ⟨⟨j + 1, by omega, by omega, by simp, below_drewN hbq _⟩, by simp [intOf]; omega⟩
    · have hg : ¬ (a ≤ k ∧ k < a + n) := by omega
      rw [if_neg hg] at hmap
      have g1 : ¬ (a : Int) ≤ (k : Int) := by omega
      have i1 : 8 * (k : Int) < (l.length : Int) := by omega
      rw [decide_eq_true (show 8 * k < l.length by omega)] at hmap
      go_wp2_with (go_at_call 13; (with_reducible refine hmap.mono ?_); rintro e w7 ⟨rfl, rfl⟩)
      go_loopw [15] (fun i wq => ∃ j : Nat, 8 * k ≤ j ∧ j ≤ 8 * k + 8 ∧ i = .int .i64 j ∧ Below w5.heap.size w5 wq) (fun i _ => 8 * k + 8 - (intOf i).toNat)
      case atStart => exact ⟨8 * k, by omega, by omega, by simp, hbr⟩
      case round =>
        obtain ⟨j, hj1, hj2, rfl, hbq⟩ := hrel
        have hs7 := hs5.below hbq
        by_cases hj : j < 8 * k + 8
        case neg =>
          obtain rfl : j = 8 * k + 8 := by omega
          go_wp2
          exact ⟨⟨k + 1, by omega, by simp, hbq⟩, by simp [intOf]; omega⟩
        have hjx : (j : Int) < 8 * (k : Int) + 8 := by omega
        have x7 := (hbq.cell (p := ⟨b5, j, none⟩) hlt5).trans (x5 j (by omega))
        have hj128 : (j : Int) < 128 := by omega
        have hjl : j < l.length := by omega
        have hjlx : (j : Int) < (l.length : Int) := by omega
        have hv : fin l a n j = l[j] := by
          unfold fin
          rw [if_neg (by omega), List.getD_eq_getElem?_getD, List.getElem?_eq_getElem hjl]
          rfl
        rw [hv] at x7
        obtain ⟨b, off, rfl, hbb, hat⟩ := hd.at_ (by omega)
        have x8 := (hs7.bl.cell (p := ⟨b, off + j, none⟩) hbb).trans (hat j _ (bs_get hjl))
        generalize l[j] = y at *
        clear hv x5 hd hat
        go_wp2
        go_quiet (fail)
        go_wp2
        exact ⟨⟨j + 1, by omega, by omega, by simp, below_drewN hbq _⟩, by simp [intOf]; omega⟩
    · have hg : ¬ (a ≤ k ∧ k < a + n) := by omega
      rw [if_neg hg] at hmap
      have g1 : ¬ (a : Int) ≤ (k : Int) := by omega
      have i1 : ¬ 8 * (k : Int) < (l.length : Int) := by omega
      rw [decide_eq_false (show ¬ 8 * k < l.length by omega)] at hmap
      go_wp2_with (go_at_call 13; (with_reducible refine hmap.mono ?_); rintro e w7 ⟨rfl, rfl⟩)
      go_loopw [15] (fun i wq => ∃ j : Nat, 8 * k ≤ j ∧ j ≤ 8 * k + 8 ∧ i = .int .i64 j ∧ Below w5.heap.size w5 wq) (fun i _ => 8 * k + 8 - (intOf i).toNat)
      case atStart => exact ⟨8 * k, by omega, by omega, by simp, hbr⟩
      case round =>
        obtain ⟨j, hj1, hj2, rfl, hbq⟩ := hrel
        have hs7 := hs5.below hbq
        by_cases hj : j < 8 * k + 8
        case neg =>
          obtain rfl : j = 8 * k + 8 := by omega
          go_wp2
          exact ⟨⟨k + 1, by omega, by simp, hbq⟩, by simp [intOf]; omega⟩
        have hjx : (j : Int) < 8 * (k : Int) + 8 := by omega
        have x7 := (hbq.cell (p := ⟨b5, j, none⟩) hlt5).trans (x5 j (by omega))
        have hj128 : (j : Int) < 128 := by omega
        have hv : fin l a n j = 0 := by
          unfold fin
          rw [if_neg (by omega), List.getD_eq_getElem?_getD, List.getElem?_eq_none (by omega)]
          rfl
        rw [hv] at x7
        clear hv x5 hd
        go_wp2
        go_quiet (fail)
        go_wp2
        exact ⟨⟨j + 1, by omega, by omega, by simp, below_drewN hbq _⟩, by simp [intOf]; omega⟩
    · have hg : ¬ (a ≤ k ∧ k < a + n) := by omega
      rw [if_neg hg] at hmap
      have g1 : (a : Int) ≤ (k : Int) := by omega
      have g2 : ¬ (k : Int) < (a : Int) + (n : Int) := by omega
      have i1 : 8 * (k : Int) < (l.length : Int) := by omega
      rw [decide_eq_true (show 8 * k < l.length by omega)] at hmap
      go_wp2_with (go_at_call 13; (with_reducible refine hmap.mono ?_); rintro e w7 ⟨rfl, rfl⟩)
      go_loopw [15] (fun i wq => ∃ j : Nat, 8 * k ≤ j ∧ j ≤ 8 * k + 8 ∧ i = .int .i64 j ∧ Below w5.heap.size w5 wq) (fun i _ => 8 * k + 8 - (intOf i).toNat)
      case atStart => exact ⟨8 * k, by omega, by omega, by simp, hbr⟩
      case round =>
        obtain ⟨j, hj1, hj2, rfl, hbq⟩ := hrel
        have hs7 := hs5.below hbq
        by_cases hj : j < 8 * k + 8
        case neg =>
          obtain rfl : j = 8 * k + 8 := by omega
          go_wp2
          exact ⟨⟨k + 1, by omega, by simp, hbq⟩, by simp [intOf]; omega⟩
        have hjx : (j : Int) < 8 * (k : Int) + 8 := by omega
        have x7 := (hbq.cell (p := ⟨b5, j, none⟩) hlt5).trans (x5 j (by omega))
        have hj128 : (j : Int) < 128 := by omega
        have hjl : j < l.length := by omega
        have hjlx : (j : Int) < (l.length : Int) := by omega
        have hv : fin l a n j = l[j] := by
          unfold fin
          rw [if_neg (by omega), List.getD_eq_getElem?_getD, List.getElem?_eq_getElem hjl]
          rfl
        rw [hv] at x7
        obtain ⟨b, off, rfl, hbb, hat⟩ := hd.at_ (by omega)
        have x8 := (hs7.bl.cell (p := ⟨b, off + j, none⟩) hbb).trans (hat j _ (bs_get hjl))
        generalize l[j] = y at *
        clear hv x5 hd hat
        go_wp2
        go_quiet (fail)
        go_wp2
        exact ⟨⟨j + 1, by omega, by omega, by simp, below_drewN hbq _⟩, by simp [intOf]; omega⟩
    · have hg : ¬ (a ≤ k ∧ k < a + n) := by omega
      rw [if_neg hg] at hmap
      have g1 : (a : Int) ≤ (k : Int) := by omega
      have g2 : ¬ (k : Int) < (a : Int) + (n : Int) := by omega
      have i1 : ¬ 8 * (k : Int) < (l.length : Int) := by omega
      rw [decide_eq_false (show ¬ 8 * k < l.length by omega)] at hmap
      go_wp2_with (go_at_call 13; (with_reducible refine hmap.mono ?_); rintro e w7 ⟨rfl, rfl⟩)
      go_loopw [15] (fun i wq => ∃ j : Nat, 8 * k ≤ j ∧ j ≤ 8 * k + 8 ∧ i = .int .i64 j ∧ Below w5.heap.size w5 wq) (fun i _ => 8 * k + 8 - (intOf i).toNat)
      case atStart => exact ⟨8 * k, by omega, by omega, by simp, hbr⟩
      case round =>
        obtain ⟨j, hj1, hj2, rfl, hbq⟩ := hrel
        have hs7 := hs5.below hbq
        by_cases hj : j < 8 * k + 8
        case neg =>
          obtain rfl : j = 8 * k + 8 := by omega
          go_wp2
          exact ⟨⟨k + 1, by omega, by simp, hbq⟩, by simp [intOf]; omega⟩
        have hjx : (j : Int) < 8 * (k : Int) + 8 := by omega
        have x7 := (hbq.cell (p := ⟨b5, j, none⟩) hlt5).trans (x5 j (by omega))
        have hj128 : (j : Int) < 128 := by omega
        have hv : fin l a n j = 0 := by
          unfold fin
          rw [if_neg (by omega), List.getD_eq_getElem?_getD, List.getElem?_eq_none (by omega)]
          rfl
        rw [hv] at x7
        clear hv x5 hd
        go_wp2
        go_quiet (fail)
        go_wp2
        exact ⟨⟨j + 1, by omega, by omega, by simp, below_drewN hbq _⟩, by simp [intOf]; omega⟩
set_option maxRecDepth 100000 in
theorem lifted (os : Os) (started : os.Started) (H : Type) (enc : TypeId × Value → H) :
    ReturnsInHanded {} Try.checked os 4 .any (Rows.spaceZeroSpec.pre6 enc Try.prog Try.f4 Rows.spaceZeroRow.domain false) (Rows.spaceZeroSpec.post enc Try.prog Try.f4 false true false false) := by
  refine returnsInHanded_of_change (C := Try.checked) own started (by kernel_rfl) Try.func4
    (ChangeSpec.witness6 (enc := enc) (C := Try.checked) false ⟨#[], #[.slice none 0 0, .int .i64 0, .int .i64 0], []⟩ 8 (by kernel_rfl) (by kernel_rfl) (by kernel_rfl) (by kernel_rfl)) ?_
  intro W base args ds gs before hval0 hW hcnd _
  have hval : ∀ (j : Nat) t v, Try.f4.params[j]? = some t → args[j]? = some v → Value.okWide Try.prog W .any base t v := hval0
  have hW' := hW
  obtain ⟨p, q, hA0, hV, rfl, hfz, hnd⟩ := hW
  have hA : DataW.TrodAll enc Try.prog W 0 (fun _ => true) true Try.f4.params.toList args.toList ds p := hA0
  rw [Try.params4] at hA hval
  obtain ⟨v0, vs0, d0, ds0, p0, q0, hargs, rfl, rfl, h0, r0⟩ := trodAll_cons hA
  obtain ⟨v1, vs1, d1, ds1, p1, q1, rfl, rfl, rfl, h1, r1⟩ := trodAll_cons r0
  obtain ⟨v2, vs2, d2, ds2, p2, q2, rfl, rfl, rfl, h2, r2⟩ := trodAll_cons r1
  obtain ⟨rfl, rfl, rfl⟩ := trodAll_nil r2
  obtain rfl : args = #[v0, v1, v2] := by cases args; simp_all
  obtain ⟨rfl, rfl⟩ := trodVars_none hV
  obtain ⟨l0, s0, e0⟩ := open_bytes Try.underlying22 Try.underlying5 (by kernel_rfl) (hval 0 22 v0 rfl rfl) h0
  obtain ⟨a1, rfl, _, _, w1⟩ := open_int Try.underlying3 (hval 1 3 v1 rfl rfl) h1
  have b1 := bounds_i64 w1
  obtain ⟨a2, rfl, _, _, w2⟩ := open_int Try.underlying3 (hval 2 3 v2 rfl rfl) h2
  have b2 := bounds_i64 w2
  refine (walk v0 l0 a1 a2 W s0 b1.1 b1.2 b2.1 b2.2).mono fun e W' ⟨he, hb⟩ => ?_
  subst he
  exact ⟨_, rfl, law_post laidOut (by kernel_rfl) rfl (by kernel_rfl) Try.underlying4 rfl rfl rfl hW' hb⟩

theorem proved : Rows.SpaceZeroSaid :=
  OpenClaim.holds_of_wide 4 Try.f4 rfl rfl rfl rfl rfl rfl rfl ⟨rfl, rfl, rfl, rfl, rfl⟩ rfl rfl rfl rfl rfl (by kernel_rfl) Try.func4 (by kernel_rfl)
    (of_decide_eq_true (by kernel_rfl)) (by unfold Func.isWrapper; first | (rw [if_pos (by decide +kernel)]; kernel_rfl) | (rw [if_neg (by decide +kernel)]; exact ⟨rfl, rfl⟩))
    (fun os started H enc _ => lifted os started H enc)
end Zero
end Go.Proofs.Ytchlfadhlakgkaa
