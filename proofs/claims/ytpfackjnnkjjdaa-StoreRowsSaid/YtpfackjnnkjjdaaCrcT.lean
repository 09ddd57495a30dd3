/- The table of package crc: a contract. -/
import Derived.Test.YtpfackjnnkjjdaaCrcM
import Derived.Test.YtpfackjnnkjjdaaPadB
namespace Go.Proofs.Ytpfackjnnkjjdaa.Crc
open Go.ChangeShapes Go.WideShapes Go.ChangeAt Go.RowKit
set_option linter.unusedVariables false
set_option maxRecDepth 100000

/-- Two hundred and fifty-six numbers as cells. -/
def cellsT (T : Nat → Nat) : Array Value := ((List.range 256).map fun i => Value.int .u32 (T i : Int)).toArray
theorem cellsT_size (T : Nat → Nat) : (cellsT T).size = 256 := by simp [cellsT]
theorem cellsT_get (T : Nat → Nat) {j : Nat} (h : j < 256) : (cellsT T)[j]? = some (.int .u32 (T j : Int)) := by
  simp [cellsT, h]
theorem cellsT_congr {T T' : Nat → Nat} (h : ∀ j, j < 256 → T j = T' j) : cellsT T = cellsT T' := by
  unfold cellsT
  congr 1
  apply List.map_congr_left
  intro i hi
  rw [h i (by simpa using hi)]
theorem cellsT_put (T : Nat → Nat) {j : Nat} (h : j < 256) (x : Nat) : (cellsT T).setIfInBounds j (.int .u32 (x : Int)) = cellsT (fun i => if i = j then x else T i) := by
  apply Array.ext
  · simp [cellsT]
  · intro i h1 h2
    simp only [Array.size_setIfInBounds, cellsT_size] at h1
    rw [Array.getElem_setIfInBounds (by simpa [cellsT_size] using h1)]
    by_cases e : j = i
    · subst e; simp [cellsT]
    · rw [if_neg e]; simp [cellsT, show ¬ i = j from fun h => e h.symm]
theorem info_tab : (Try.prog.info? 119).map (·.size) = some 256 := by kernel_rfl
theorem cellsT_one (T : Nat → Nat) : (cellsT T).all (·.oneCell') = true := by simp [cellsT, Value.oneCell']
theorem zero_tab (w : World) : (zeroValue 119).run Try.prog w = .ok (.agg (cellsT fun _ => 0)) w := by kernel_rfl

/-- The table within a round. -/
def mid (r S I : Nat) (j : Nat) : Nat := if j % (2 * S) = S ∧ j < I then fk (r + 1) 1 ^^^ tt r (j - S) else tt r j
theorem mid_start (r S : Nat) : ∀ j, tt r j = mid r S 0 j := fun j => by unfold mid; rw [if_neg (by omega)]
theorem mid_at (r S I : Nat) (hS : 1 ≤ S) (hI : I % (2 * S) = 0) : mid r S I I = tt r I := by unfold mid; rw [if_neg (by omega)]
theorem mod_in {I j d : Nat} (hd : 0 < d) (hI : I % d = 0) (h1 : I ≤ j) (h2 : j < I + d) : j % d = j - I := by
  have h3 : j = I + (j - I) := by omega
  conv => lhs; rw [h3, Nat.add_mod, hI, Nat.zero_add, Nat.mod_mod]
  exact Nat.mod_eq_of_lt (by omega)
theorem mid_next (r S I : Nat) (hS : 1 ≤ S) (hI : I % (2 * S) = 0) : ∀ j, (if j = I + S then fk (r + 1) 1 ^^^ tt r I else mid r S I j) = mid r S (I + 2 * S) j := fun j => by
  by_cases h1 : j < I
  · rw [if_neg (by omega)]
    unfold mid
    by_cases h2 : j % (2 * S) = S
    · rw [if_pos ⟨h2, h1⟩, if_pos ⟨h2, by omega⟩]
    · rw [if_neg (fun h => h2 h.1), if_neg (fun h => h2 h.1)]
  · by_cases h2 : j < I + 2 * S
    · have h3 := mod_in (by omega) hI (show I ≤ j by omega) h2
      by_cases h4 : j = I + S
      · subst h4
        rw [if_pos rfl]
        unfold mid
        rw [if_pos ⟨by omega, by omega⟩, Nat.add_sub_cancel]
      · rw [if_neg h4]
        unfold mid
        rw [if_neg (fun h => h1 h.2), if_neg (fun h => h4 (by omega))]
    · rw [if_neg (by omega)]
      unfold mid
      rw [if_neg (fun h => h1 h.2), if_neg (fun h => h2 h.2)]
theorem mid_end (r S : Nat) (h1 : 128 / 2 ^ r = S) (h2 : 256 / 2 ^ r = 2 * S) : ∀ j, j < 256 → mid r S 256 j = tt (r + 1) j := fun j hj => by
  show _ = if j % (256 / 2 ^ r) = 128 / 2 ^ r then fk (r + 1) 1 ^^^ tt r (j - 128 / 2 ^ r) else tt r j
  rw [h1, h2]
  unfold mid
  by_cases h : j % (2 * S) = S
  · rw [if_pos ⟨h, hj⟩, if_pos h]
  · rw [if_neg (fun x => h x.1), if_neg h]
theorem step_facts : ∀ r, r < 8 → 1 ≤ 128 / 2 ^ r ∧ 128 / 2 ^ r ≤ 128 ∧ 256 / 2 ^ r = 2 * (128 / 2 ^ r) ∧ 128 / 2 ^ (r + 1) = 128 / 2 ^ r / 2 ∧ 256 % (2 * (128 / 2 ^ r)) = 0 := by decide +kernel
theorem next_le {I d : Nat} (hd : 0 < d) (h1 : I % d = 0) (h2 : 256 % d = 0) (h3 : I < 256) : I + d ≤ 256 := by
  have e1 : I = d * (I / d) := by have := Nat.div_add_mod I d; omega
  have e2 : 256 = d * (256 / d) := by have := Nat.div_add_mod 256 d; omega
  have h4 : I / d < 256 / d := by
    rcases Nat.lt_or_ge (I / d) (256 / d) with h | h
    · exact h
    · have := Nat.mul_le_mul_left d h; omega
  have h5 := Nat.mul_le_mul_left d (show I / d + 1 ≤ 256 / d by omega)
  rw [Nat.mul_add, Nat.mul_one] at h5
  omega

set_option maxRecDepth 100000 in
set_option maxHeartbeats 1000000 in
theorem table_any (w : World) : Calls Try.prog 78 #[] w fun e w' => e = .returned (.agg (cellsT f8)) ∧ Below w.heap.size w w' := by
  have hzt := zero_tab
  go_enter Try.func78, Try.ntmps78
  go_wp2
  go_loopw [2, 3, 4, 5] (fun tn sp lo i wr => ∃ r S : Nat, r ≤ 8 ∧ 128 / 2 ^ r = S ∧ tn = .int .u32 (fk r 1 : Nat) ∧ sp = .int .i64 S ∧ Mem wr (w.heap.size + 1) 119 (cellsT (tt r)) ∧ Mem wr w.heap.size 119 (cellsT fun _ => 0) ∧ Below w.heap.size w wr) (fun _ sp _ _ _ => (intOf sp).toNat)
  case atStart =>
    refine ⟨0, 128, by omega, rfl, rfl, rfl, ?_, ?_, ?_⟩
    · have h := Mem.new (w.alloc (.cells (cellsT fun _ => 0) 119)) 119 (cellsT fun _ => 0)
      have e : (w.alloc (.cells (cellsT fun _ => 0) 119)).heap.size = w.heap.size + 1 := by simp
      rw [e] at h
      exact h
    · exact (Mem.new w _ _).alloc _
    · exact ((Below.refl _ _).alloc (Nat.le_refl _) _).alloc (by simp) _
  case round =>
    obtain ⟨r, S, hr, hS, rfl, rfl, hm1, hm0, hb⟩ := hrel
    by_cases hlt : r < 8
    · obtain ⟨s1, s2, s3, s4, s5⟩ := step_facts r hlt
      rw [hS] at s1 s2 s3 s4 s5
      have htl : fk r 1 < 4294967296 := fk_lt (by omega)
      have hfe : fk (r + 1) 1 = f (fk r 1) := fk_succ' r 1
      generalize hT : fk r 1 = T at *
      generalize hF : f T = F at *
      have hFl : F < 4294967296 := by rw [← hF]; exact f_lt htl
      have HF := Lib.hid hfe
      have S3 := Lib.hid s3
      have S4 := Lib.hid s4
      have S5 := Lib.hid s5
      have HS := Lib.hid hS
      clear hfe s3 s4 s5 hS hT
      obtain ⟨wo, rfl⟩ : ∃ wo : World, wo = wr := ⟨_, rfl⟩
      rcases Nat.mod_two_eq_zero_or_one T with hp | hp
      case' inl =>
        have ha : bits BinOp.and IntKind.u32 (T : Int) 1 = 0 := by
          have h := u32_and_nat T 1 htl (by omega)
          rw [nat_mask1, hp] at h
          exact h
        have hx : (T : Int) / 2 = (F : Int) := by rw [← hF]; unfold f; rw [if_neg (by omega), Nat.xor_zero]; omega
      case' inr =>
        have ha : bits BinOp.and IntKind.u32 (T : Int) 1 = 1 := by
          have h := u32_and_nat T 1 htl (by omega)
          rw [nat_mask1, hp] at h
          exact h
        have hx : bits BinOp.xor IntKind.u32 ((T : Int) / 2) 2197175160 = (F : Int) := by
          have h := u32_xor_nat (T / 2) 2197175160 (by omega) (by omega)
          rw [← hF]; unfold f; rw [if_pos hp]; unfold poly
          simpa using h
      all_goals
        clear hF hp
        go_wp2
        clear ha hx
        go_loopw [5] (fun i wi => ∃ I : Nat, I ≤ 256 ∧ I % (2 * S) = 0 ∧ i = .int .i64 I ∧ Mem wi (w.heap.size + 1) 119 (cellsT (mid r S I)) ∧ Mem wi w.heap.size 119 (cellsT fun _ => 0) ∧ Below w.heap.size w wi) (fun i _ => 256 - (intOf i).toNat)
        case atStart => exact ⟨0, by omega, by simp, rfl, by rw [← cellsT_congr (T := tt r) (fun j _ => mid_start r S j)]; exact hm1, hm0, hb⟩
        case round =>
          obtain ⟨I, hI, hI2, rfl, hi1, hi0, hib⟩ := hrel
          by_cases hlt2 : I < 256
          · have hle := next_le (show 0 < 2 * S by omega) hI2 S5.out hlt2
            have c1 := (hi1.cell I).trans (cellsT_get _ hlt2)
            rw [mid_at r S I s1 hI2] at c1
            have c2 := (hi1.cell (I + S)).trans (cellsT_get _ (show I + S < 256 by omega))
            have c3 := hi1.free (I + S)
            have htt : tt r I < 4294967296 := tt_lt r (by omega) I hlt2
            have hxo : bits BinOp.xor IntKind.u32 (F : Int) (tt r I : Int) = ((fk (r + 1) 1 ^^^ tt r I : Nat) : Int) := by rw [HF.out]; exact u32_xor_nat _ _ hFl htt
            have I2 := Lib.hid hI2
            clear hI2
            go_wp2
            refine ⟨⟨I + 2 * S, hle, by rw [Nat.add_mod_right]; exact I2.out, by go_num, ?_, hi0.far (by simp) _, hib.setCell (by simp) _⟩, by simp [intOf]; omega⟩
            have h := hi1.put (I + S) (.int .u32 ((fk (r + 1) 1 ^^^ tt r I : Nat) : Int))
            rw [cellsT_put _ (by omega), cellsT_congr (fun j _ => mid_next r S I s1 I2.out j)] at h
            exact h
          · obtain rfl : I = 256 := by omega
            clear hI2
            go_wp2
            refine ⟨⟨r + 1, S / 2, by omega, S4.out, by rw [HF.out], by simp, ?_, hi0, hib⟩, by simp [intOf]; omega⟩
            rw [← cellsT_congr (mid_end r S HS.out S3.out)]
            exact hi1
    · obtain rfl : r = 8 := by omega
      obtain rfl : S = 0 := hS.symm
      clear hS
      go_wp2_with (first
        | (refine wpList_load_row rfl 119 (.tmp 1) rfl (w.heap.size + 1) rfl 119 (cellsT (tt 8)) (0, 0) _ hm1 Try.underlying119 rfl (by rw [cellsT_size]; exact info_tab) ?_)
        | (refine wpList_store_row rfl 119 (.tmp 0) (.tmp 33) rfl w.heap.size (cellsT (tt 8)) rfl rfl 119 _ hm0 (by rw [cellsT_size]; exact info_tab) (by rw [cellsT_size, cellsT_size]) (cellsT_one _) ?_))
      have hend : cellsT (tt 8) = cellsT f8 := cellsT_congr tt_done
      refine bodyPost_ret (v := .agg (cellsT (tt 8))) (results_cell_row rfl _ _ w.heap.size 119 _ (0, 0) _ rfl (hm0.row _) Try.underlying119 rfl (by rw [cellsT_size]; exact info_tab)) rfl ⟨by rw [hend], below_setRow hb (Nat.le_refl _) _⟩
end Go.Proofs.Ytpfackjnnkjjdaa.Crc
