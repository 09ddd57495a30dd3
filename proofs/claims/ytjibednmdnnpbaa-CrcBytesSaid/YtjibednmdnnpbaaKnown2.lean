/- The first check of the statements of layer 2 (the sum of 123456789; sealed there and back): it tells true. -/
import Derived.Test.YtjibednmdnnpbaaSeal
import Derived.Lib.SlBytesConst
import Derived.Lib.QuietBelow
import Derived.BigQuiet
namespace Go.Proofs.Ytjibednmdnnpbaa.Crc
open Go.ChangeShapes Go.WideShapes Go.ChangeAt Go.RowKit Go.Sort
set_option linter.unusedVariables false

theorem own : ownKnob Try.prog.godebug = none := by kernel_rfl
theorem laidOut : laidOutB Try.prog = true := by kernel_rfl

def digs : List UInt8 := [49, 50, 51, 52, 53, 54, 55, 56, 57]
theorem digs_sum : moreS 0 digs = 3808858755 := by decide +kernel
def fourSum : Nat := moreS 0 [49, 50, 51, 52]
theorem sum_none (w : World) : Calls Try.prog 32 #[.slice none 0 0] w fun e w' => e = .returned (.int .u32 0) ∧ Below w.heap.size w w' := by
  have h := sum_any (.slice none 0 0) [] w Sl.nil_
  exact h
theorem sum_digs (v : Value) (w : World) (hv : Sl w w.heap.size v 9 (bs digs)) : Calls Try.prog 32 #[v] w fun e w' => e = .returned (.int .u32 3808858755) ∧ Below w.heap.size w w' := by
  have h := sum_any v digs w hv
  rw [digs_sum] at h
  exact h
theorem sum_four (v : Value) (w : World) (hv : Sl w w.heap.size v 4 (bs [49, 50, 51, 52])) : Calls Try.prog 32 #[v] w fun e w' => e = .returned (.int .u32 (fourSum : Nat)) ∧ Below w.heap.size w w' := sum_any v _ w hv
theorem more_five (v : Value) (w : World) (hv : Sl w w.heap.size v 5 (bs [53, 54, 55, 56, 57])) : Calls Try.prog 34 #[.int .u32 (fourSum : Nat), v] w fun e w' => e = .returned (.int .u32 3808858755) ∧ Below w.heap.size w w' := by
  have h := more_any fourSum v [53, 54, 55, 56, 57] w (moreS_lt _ _) hv
  have e : moreS fourSum [53, 54, 55, 56, 57] = 3808858755 := by unfold fourSum; rw [moreS_app]; exact digs_sum
  rw [e] at h
  exact h
theorem seal_digs (v : Value) (w : World) (hv : Sl w w.heap.size v 9 (bs digs)) : Calls Try.prog 31 #[v] w fun e w' => ∃ v', e = .returned v' ∧ Sl w' w'.heap.size v' (sealS digs).length (bs (sealS digs)) ∧ Below w.heap.size w w' :=
  (seal_any v digs w hv (by simp [digs])).mono fun e w' ⟨v', h1, h2, h3⟩ => ⟨v', h1, Sl.of_own h2, h3⟩
theorem open_digs (v : Value) (w : World) (hv : Sl w w.heap.size v (sealS digs).length (bs (sealS digs))) : Calls Try.prog 29 #[v] w fun e w' => ∃ v', e = .returned (.tuple #[v', .int .i64 0]) ∧ Sl w' w'.heap.size v' 9 (bs digs) ∧ Below w.heap.size w w' := by
  have h := open_any v (sealS digs) w hv (by simp [digs])
  rw [open_seal] at h
  exact h

set_option maxHeartbeats 4000000 in
theorem known2_any (w : World) : Calls Try.prog 28 #[] w fun e w' => e = .returned (.bool true) ∧ Below w.heap.size w w' := by
  have kc := fun (w : World) (C : Array Value) (n c : Nat) => Lib.run_convert_bytes_const (P := Try.prog) w 22 5 C n c Try.underlying22 Try.underlying5
  go_enter Try.func28, Try.ntmps28
  go_wp2_with (go_at_call 31; fail)
  have hs1 := Sl.freshM w #[Value.int .u8 49, .int .u8 50, .int .u8 51, .int .u8 52, .int .u8 53, .int .u8 54, .int .u8 55, .int .u8 56, .int .u8 57] 5 (9, 10) (n := 9) (c := 9) rfl (Nat.le_refl _) (by unfold maxLen; omega)
  have hb1 : Below w.heap.size w (w.alloc (.cells #[Value.int .u8 49, .int .u8 50, .int .u8 51, .int .u8 52, .int .u8 53, .int .u8 54, .int .u8 55, .int .u8 56, .int .u8 57] 5 (9, 10))) := (Below.refl _ _).alloc (Nat.le_refl _) _
  rw [show (#[Value.int .u8 49, .int .u8 50, .int .u8 51, .int .u8 52, .int .u8 53, .int .u8 54, .int .u8 55, .int .u8 56, .int .u8 57] : Array Value).toList = bs digs from rfl] at hs1
  generalize w.alloc (.cells #[Value.int .u8 49, .int .u8 50, .int .u8 51, .int .u8 52, .int .u8 53, .int .u8 54, .int .u8 55, .int .u8 56, .int .u8 57] 5 (9, 10)) = w1 at *
  generalize w.heap.size = B0 at hs1 ⊢
  refine (seal_digs _ _ hs1).mono ?_
  rintro e w2 ⟨v2, rfl, hs2, hb2⟩
  go_wp2_with fail
  refine (open_digs _ _ hs2).mono ?_
  rintro e w3 ⟨v3, rfl, hs3, hb3⟩
  have hb := bchain hb2 hb3
  have hsb := hs1.now hb
  clear hs1 hs2 hb2 hb3 kc
  go_wp2_with fail
  have hs4 : Sl w3 w3.heap.size (.slice (some ⟨B0, 0, none⟩) 4 9) 4 (bs [49, 50, 51, 52]) := hsb.take (m := 4) (by omega)
  have hs5 : Sl w3 w3.heap.size (.slice (some ⟨B0, 4, none⟩) 5 5) 5 (bs [53, 54, 55, 56, 57]) := by
    have h := hsb.drop (m := 4) (by omega)
    rw [Nat.zero_add] at h
    exact h
  have cN : ∀ d os, Calls Try.prog 32 #[.slice none 0 0] (grow (redrawn w3 d) os) fun e w'' => e = .returned (.int .u32 0) ∧ ∃ p : Regrown, w'' = grow (redrawn w3 p.d) p.os := fun d os => Calls.regrown_of (sum_none _)
  have cD : ∀ d os, Calls Try.prog 32 #[.slice (some ⟨B0, 0, none⟩) 9 9] (grow (redrawn w3 d) os) fun e w'' => e = .returned (.int .u32 3808858755) ∧ ∃ p : Regrown, w'' = grow (redrawn w3 p.d) p.os := fun d os => Calls.regrown_of (sum_digs _ _ (hsb.now (below_regrown w3 d os)))
  have cF : ∀ d os, Calls Try.prog 32 #[.slice (some ⟨B0, 0, none⟩) 4 9] (grow (redrawn w3 d) os) fun e w'' => e = .returned (.int .u32 (fourSum : Nat)) ∧ ∃ p : Regrown, w'' = grow (redrawn w3 p.d) p.os := fun d os => Calls.regrown_of (sum_four _ _ (hs4.now (below_regrown w3 d os)))
  have cM : ∀ d os, Calls Try.prog 34 #[.int .u32 (fourSum : Nat), .slice (some ⟨B0, 4, none⟩) 5 5] (grow (redrawn w3 d) os) fun e w'' => e = .returned (.int .u32 3808858755) ∧ ∃ p : Regrown, w'' = grow (redrawn w3 p.d) p.os := fun d os => Calls.regrown_of (more_five _ _ (hs5.now (below_regrown w3 d os)))
  have k1 : ∀ d os, (convert 22 9 v3).run Try.prog (grow (redrawn w3 d) os) = .ok (.string ⟨digs.toArray⟩) (grow (redrawn w3 d) os) := fun d os => bytes_str _ _ _ _ Try.underlying22 Try.underlying5 Try.underlying9 _ _ digs _ (hs3.now (below_regrown w3 d os))
  have k2 : ∀ d os, (convert 22 9 (.slice (some ⟨B0, 0, none⟩) 9 9)).run Try.prog (grow (redrawn w3 d) os) = .ok (.string ⟨digs.toArray⟩) (grow (redrawn w3 d) os) := fun d os => bytes_str _ _ _ _ Try.underlying22 Try.underlying5 Try.underlying9 _ _ digs _ (hsb.now (below_regrown w3 d os))
  refine wp_region_quiet_below (by kernel_rfl) (by kernel_rfl) ?_
  repeat (first | go_big_quiet_step (first | exact cN _ _ | exact cD _ _ | exact cF _ _ | exact cM _ _) | quiet_step (first | exact cN _ _ | exact cD _ _ | exact cF _ _ | exact cM _ _))
  refine wpQuiet_nil ?_
  intro w9 hw9
  have hbw : Below w3.heap.size w3 w9 := by obtain ⟨p, rfl⟩ := hw9; exact below_regrown _ _ _
  clear hw9 cN cD cF cM k1 k2
  go_wp2
  go_ret
  exact ⟨rfl, hb1.trans ((hb.trans (hbw.mono hb.size)).mono hb1.size)⟩
end Go.Proofs.Ytjibednmdnnpbaa.Crc
