/- Law package 3: known: contract. -/
import Derived.Test.YtikehhcbjmcfdaaDoorTxtV
import Derived.Test.YtikehhcbjmcfdaaDoorTxtM
namespace Go.Proofs.YtikehhcbjmcfdaaDoor
open Go.ChangeShapes Go.WideShapes Go.ChangeAt Go.RowKit
set_option linter.unusedVariables false
theorem k_enc : encE [(⟨#[65]⟩, ⟨#[49]⟩)] = 0 := by decide +kernel
theorem k_encB : encB [(⟨#[65]⟩, ⟨#[49]⟩)] = [65, 61, 49, 0] := by decide +kernel
theorem k_decE : decE [65, 61, 49, 0] = 0 := by decide +kernel
theorem k_decP : (decP [65, 61, 49, 0]).map (fun p => (p.1.data.toList, p.2.data.toList)) = [([65], [49])] := by decide +kernel
theorem k_num : numS (ByteArray.mk #[48, 120, 49, 70]).data.toList = (31, true) := by decide +kernel
theorem k_n1 : numS (ByteArray.mk #[49, 50]).data.toList = (12, true) := by decide +kernel
theorem k_n2 : numS (ByteArray.mk #[48, 120, 48, 98]).data.toList = (11, true) := by decide +kernel
theorem k_dec : Lib.decDigits 11 = [49, 49] := by decide +kernel
theorem k_name : nameS (ByteArray.mk #[105, 113, 110, 46, 97, 58, 98]).data.toList = true := by decide +kernel
/-- The pair of the law's look. -/
def kP : List (ByteArray × ByteArray) := [(⟨#[65]⟩, ⟨#[49]⟩)]
theorem k_decP' : decP [65, 61, 49, 0] = kP := by
  have h := k_decP
  generalize decP [65, 61, 49, 0] = l at h
  match l, h with
  | [], h => simp at h
  | _ :: _ :: _, h => simp at h
  | [(a, b)], h =>
    simp only [List.map_cons, List.map_nil, List.cons.injEq, Prod.mk.injEq, and_true] at h
    have ea : a = ⟨#[65]⟩ := bytes_inj (by rw [h.1])
    have eb : b = ⟨#[49]⟩ := bytes_inj (by rw [h.2])
    rw [ea, eb]
    rfl
theorem Pr.one (w : World) (t : TypeId) (p : ByteArray × ByteArray) (h1 : p.1.size ≤ maxLen) (h2 : p.2.size ≤ maxLen) : Pr (w.alloc (.cells #[.string p.1, .string p.2] t)) (w.alloc (.cells #[.string p.1, .string p.2] t)).heap.size (.slice (some ⟨w.heap.size, 0, none⟩) 1 1) [p] := by
  have hm := Mem.new w t #[.string p.1, .string p.2]
  refine ⟨_, 1, rfl, Nat.le_refl _, by unfold maxLen; omega, fun q hq => ?_, fun _ => ⟨w.heap.size, 0, rfl, hm.lt, fun j q hq => ?_⟩⟩
  · obtain rfl : q = p := by simpa using hq
    exact ⟨h1, h2⟩
  · have hj : j = 0 := by
      rcases Nat.eq_zero_or_pos j with h | h
      · exact h
      · rw [List.getElem?_eq_none (by simp; omega)] at hq; cases hq
    subst hj
    obtain rfl : p = q := by simpa using hq
    exact ⟨hm.cell 0, hm.cell 1⟩
set_option maxHeartbeats 1000000 in
theorem known_any (m : Int) (w : World) (hm : w.cell? ⟨0, 0, none⟩ = some (.int .i64 m)) (hm0 : 0 < w.heap.size) :
    Calls Tryd.prog 7 #[] w fun e w' => e = .returned (.bool true) ∧ Below w.heap.size w w' := by
  have hEn : Calls Tryd.prog 13 #[.slice (some ⟨w.heap.size, 0, none⟩) 1 1] (w.alloc (.cells #[.string ⟨#[65]⟩, .string ⟨#[49]⟩] 34)) fun e w' => ∃ v', e = .returned (.tuple #[v', .int .i64 0]) ∧ Sl w' w'.heap.size v' 4 (bs [65, 61, 49, 0]) ∧ Below w.heap.size w w' := by
    refine (Encode_any _ kP _ (Pr.one w 34 (⟨#[65]⟩, ⟨#[49]⟩) (by decide) (by decide)) (by decide)).mono ?_
    rintro e w' ⟨v', c, rfl, rfl, hs, hb⟩
    rw [show encB kP = [65, 61, 49, 0] from k_encB] at hs
    exact ⟨v', by rw [show encE kP = 0 from k_enc]; rfl, hs, ((Below.refl _ _).alloc (Nat.le_refl _) _).trans (hb.mono (by simp))⟩
  have hDe : ∀ (W : World) (v : Value), Sl W W.heap.size v 4 (bs [65, 61, 49, 0]) → Below w.heap.size w W → Calls Tryd.prog 14 #[v] W fun e w' => ∃ b off c', e = .returned (.tuple #[.slice (some ⟨b, off, none⟩) 1 c', .int .i64 0]) ∧ b < w'.heap.size ∧ w'.cell? ⟨b, off + 1, none⟩ = some (.string ⟨#[49]⟩) ∧ Below w.heap.size w w' := by
    intro W v hs hb
    refine (Decode_any v [65, 61, 49, 0] m W hs ((hb.cell (p := ⟨0, 0, none⟩) hm0).trans hm) (Nat.lt_of_lt_of_le hm0 hb.size)).mono ?_
    rintro e w' ⟨v', c, rfl, rfl, hp, hb2⟩
    rw [k_decP'] at hp
    obtain ⟨A', c', rfl, _, _⟩ := hp.form
    obtain ⟨b, off, rfl, hlt, hc⟩ := hp.at_ (by decide)
    exact ⟨b, off, c', by rw [k_decE]; rfl, hlt, by have h := (hc 0 (⟨#[65]⟩, ⟨#[49]⟩) rfl).2; rw [Nat.zero_mul, Nat.add_zero] at h; exact h, hb.trans (hb2.mono hb.size)⟩
  have hNu : ∀ W, Calls Tryd.prog 10 #[.string ⟨#[48, 120, 49, 70]⟩] W fun e w' => e = .returned (.tuple #[.int .i64 31, .bool true]) ∧ W = w' := fun W => by
    have h := Number_any ⟨#[48, 120, 49, 70]⟩ W (by decide)
    rw [k_num] at h
    exact h
  have hLe : ∀ W, Calls Tryd.prog 8 #[.string ⟨#[49, 50]⟩, .string ⟨#[48, 120, 48, 98]⟩] W fun e w' => e = .returned (.tuple #[.string ⟨#[49, 49]⟩, .bool true]) ∧ Below W.heap.size W w' := fun W => by
    have h := Lesser_any ⟨#[49, 50]⟩ ⟨#[48, 120, 48, 98]⟩ ⟨#[49, 49]⟩ W (by decide) (by decide) (fun _ V _ => by
      rw [k_n1, k_n2]
      refine (Go.Proofs.Tryd.strconv_Itoa_small 11 (by omega) V).mono ?_
      rintro e w' ⟨rfl, rfl⟩
      rw [k_dec]
      exact ⟨rfl, Below.refl _ _⟩)
    have hb : bothN ⟨#[49, 50]⟩ ⟨#[48, 120, 48, 98]⟩ = true := by unfold bothN; rw [k_n1, k_n2]; rfl
    rw [hb] at h
    exact h
  have hNa : ∀ W, Calls Tryd.prog 18 #[.string ⟨#[105, 113, 110, 46, 97, 58, 98]⟩] W fun e w' => e = .returned (.bool true) ∧ W = w' := fun W => by
    have h := Name_any ⟨#[105, 113, 110, 46, 97, 58, 98]⟩ W (by decide)
    rw [k_name] at h
    exact h
  go_enter Tryd.func7, Tryd.ntmps7
  go_wp2_with (first
    | (go_at_call 13; with_reducible refine hEn.mono ?_; rintro e w1 ⟨v1, rfl, hs1, hb1⟩)
    | (go_at_call 14; with_reducible refine (hDe _ _ hs1 hb1).mono ?_; rintro e w2 ⟨b2, o2, c2, rfl, hl2, hx2, hb2⟩)
    | (go_at_call 10; with_reducible refine (hNu _).mono ?_; rintro e w' ⟨rfl, rfl⟩)
    | (go_at_call 8; with_reducible refine (hLe _).mono ?_; rintro e w3 ⟨rfl, hb3⟩; have hx3 := (hb3.cell (p := ⟨b2, o2 + 1, none⟩) hl2).trans hx2)
    | (go_at_call 18; with_reducible refine (hNa _).mono ?_; rintro e w' ⟨rfl, rfl⟩))
  go_ret
  exact ⟨rfl, hb2.trans (hb3.mono hb2.size)⟩
end Go.Proofs.YtikehhcbjmcfdaaDoor
