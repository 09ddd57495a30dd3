/- Package text: right: contract. -/
import Derived.Test.YtikehhcbjmcfdaaDoorTxtP
import Derived.Test.YtikehhcbjmcfdaaDoorTxtB
import Derived.Maps.OwnSet
import Derived.Maps.OwnOps
namespace Go.Proofs.YtikehhcbjmcfdaaDoor
open Go.ChangeShapes Go.WideShapes Go.ChangeAt Go.RowKit Go.Maps Go.WideMaps
set_option linter.unusedVariables false
/-- May the pairs be, where the keys in seen are taken? -/
def rightS : List (ByteArray × ByteArray) → List (List UInt8) → Bool
  | [], _ => true
  | p :: l, seen => keyS p.1.data.toList && valueS p.2.data.toList && !seen.contains p.1.data.toList && rightS l (p.1.data.toList :: seen)
theorem lawK : Keyed Tryd.prog 9 := string_keyed Tryd.underlying9
theorem zeroI (w : World) : (zeroValue 3).run Tryd.prog w = .ok (.int .i64 0) w := by kernel_rfl
def keyL (s : ByteArray) : Lit := .string s.data.toList
theorem keyL_of {s : ByteArray} (h : s.size ≤ maxLen) : keyOf Tryd.prog 9 (.string s) = some (keyL s) := keyOf_string_mk Tryd.underlying9 h
theorem keyL_inj {a b : ByteArray} (h : keyL a = keyL b) : a = b := by
  unfold keyL at h
  injection h with h
  exact WideShapes.bytes_inj h
set_option maxHeartbeats 1000000 in
theorem right_any (v : Value) (l : List (ByteArray × ByteArray)) (w : World) (hv : Pr w w.heap.size v l) :
    Calls Tryd.prog 22 #[v] w fun e w' => e = .returned (.bool (rightS l [])) ∧ Below w.heap.size w w' := by
  have hmm := @run_makeMap Tryd.prog
  have hsz := hv.sizes
  obtain ⟨A, c, rfl, hc1, hc2⟩ := hv.form
  unfold maxLen at hc2
  go_enter Tryd.func22, Tryd.ntmps22
  go_wp2
  go_loopw [11] (fun i wr => ∃ (k : Nat) (seen : List (List UInt8)) (D : DataW Unit), k ≤ l.length ∧ i = .int .i64 k ∧ wr.ownsMap Tryd.prog 9 (plainElem Tryd.prog 3) w.heap.size k D ∧ (∀ x : ByteArray, Maps.has D (keyL x) = seen.contains x.data.toList) ∧ rightS l [] = rightS (l.drop k) seen ∧ Below w.heap.size w wr) (fun i _ => l.length - (intOf i).toNat)
  case atStart => exact ⟨0, [], .map [], Nat.zero_le _, rfl, World.ownsMap_made _ _ _ _, fun x => rfl, rfl, (Below.refl _ _).alloc (Nat.le_refl _) _⟩
  case round =>
    obtain ⟨k, seen, D, hk, rfl, hown, hhas, hr, hb⟩ := hrel
    by_cases hlt : k < l.length
    · obtain ⟨b, off, rfl, hbB, hcell⟩ := (hv.below hb).at_ (by omega)
      obtain ⟨p, hp⟩ : ∃ p, p = l[k] := ⟨_, rfl⟩
      have hpk : l[k]? = some p := by rw [hp, List.getElem?_eq_getElem hlt]
      obtain ⟨hx0, hx1⟩ := hcell k p hpk
      obtain ⟨hs1, hs2⟩ := hsz p (by rw [hp]; exact List.getElem_mem hlt)
      have hd : l.drop k = p :: l.drop (k + 1) := by rw [hp, List.drop_eq_getElem_cons hlt]
      rw [hd] at hr
      have HR := Lib.hid hr
      have HH := Lib.hid hhas
      clear hcell hpk hp hsz hd hr hhas
      have hkey := keyL_of hs1
      go_wp2_with (first
        | (go_at_call 37; refine (rightKey_any _ _ hs1).mono ?_; rintro e w' ⟨rfl, rfl⟩)
        | (go_at_call 38; refine (rightValue_any _ _ hs2).mono ?_; rintro e w' ⟨rfl, rfl⟩)
        | (at_lookup; refine wpList_lookup_own_ok_int _ rfl _ _ 59 rfl 9 3 .i64 lawK Tryd.underlying59 Tryd.underlying3 (zeroI _) w.heap.size k D rfl (hown.alloc _) _ _ rfl hkey ?_; intro c1 hat hwc)
        | (at_mapUpdate; refine wpList_mapUpdate_own _ rfl _ _ _ 59 rfl 9 3 lawK Tryd.underlying59 (plainElem Tryd.prog 3) w.heap.size k D rfl (hown.alloc _) (by unfold maxLen; omega) _ _ _ rfl rfl hkey _ [] (plainElem_int Tryd.underlying3 (WalkArith.wf_i64 (by omega))) ?_; intro w1 hown1 hgrow1))
      · rename_i h1 h2
        go_ret
        refine ⟨ret_b ?_, hb.alloc hb.size _⟩
        rw [HR.out, rightS]
        simp only [Bool.not_eq_true'] at h2
        rw [h2]
        simp
      · rename_i h1 h2 h3
        go_ret
        refine ⟨ret_b ?_, hb.alloc hb.size _⟩
        rw [HH.out] at h3
        rw [HR.out, rightS, h3]
        simp
      · rename_i h1 h2 h3
        refine ⟨⟨k + 1, p.1.data.toList :: seen, _, by omega, by go_num, hown1, fun x => ?_, ?_, (hb.alloc hb.size _).grown hgrow1 (by simp; have := hb.size; omega) (fun j hj => by cases hj; exact Nat.le_refl _)⟩, by simp [intOf]; omega⟩
        · rw [List.contains_cons]
          by_cases hx : x = p.1
          · rw [hx, has_put_same (k := keyL p.1) hown.isMap (show WideAt.IsKeyLit (keyL p.1) from trivial)]
            simp
          · rw [has_put_other (fun e => hx (keyL_inj e)), HH.out]
            have : (x.data.toList == p.1.data.toList) = false := by
              rw [beq_eq_false_iff_ne]
              exact fun e => hx (WideShapes.bytes_inj e)
            rw [this, Bool.false_or]
        · rw [HH.out] at h3
          simp only [Bool.not_eq_false'] at h2
          rw [HR.out, rightS, h1, h2, h3]
          rfl
      · rename_i h1
        go_ret
        refine ⟨ret_b ?_, hb.alloc hb.size _⟩
        rw [Bool.not_eq_true] at h1
        rw [HR.out, rightS, h1]
        simp
    · obtain rfl : k = l.length := by omega
      go_wp2
      go_ret
      refine ⟨ret_b ?_, hb⟩
      rw [hr, List.drop_length]
      rfl
end Go.Proofs.YtikehhcbjmcfdaaDoor
