/- Package pdu: Encode: what it refuses. -/
import Derived.Test.YtafpaigifemjjaaPd3
namespace Go.Proofs.Ytafpaigifemjjaa
open Go.ChangeShapes Go.WideShapes Go.ChangeAt Go.RowKit
set_option linter.unusedVariables false
set_option maxHeartbeats 2000000 in
theorem encode_no (op fl st : Int) (tag sn ex mx off len : Nat) (fin : Bool) (cdb : List UInt8) (hc : cdb.length = 16) (A : Option Addr) (n c : Nat) (w : World) (h : pknown op = false ∨ fl < 0 ∨ 127 < fl ∨ st < 0 ∨ 255 < st) :
    Calls Try.prog 6 #[pduV op fin fl st tag sn ex mx off len cdb (.slice A n c)] w fun e w' => e = .returned (.tuple #[.slice none 0 0, .int .i64 1]) ∧ Below w.heap.size w w' := by
  obtain ⟨c0, c1, c2, c3, c4, c5, c6, c7, c8, c9, c10, c11, c12, c13, c14, c15, rfl⟩ := cdb16 cdb hc
  have hV : pduV op fin fl st tag sn ex mx off len [c0, c1, c2, c3, c4, c5, c6, c7, c8, c9, c10, c11, c12, c13, c14, c15] (.slice A n c) = .agg #[Value.int .i64 op, .bool fin, .int .i64 fl, .int .i64 st, .int .u32 (tag : Nat), .int .u32 (sn : Nat), .int .u32 (ex : Nat), .int .u32 (mx : Nat), .int .u32 (off : Nat), .int .u32 (len : Nat), .int .u8 c0.toNat, .int .u8 c1.toNat, .int .u8 c2.toNat, .int .u8 c3.toNat, .int .u8 c4.toNat, .int .u8 c5.toNat, .int .u8 c6.toNat, .int .u8 c7.toNat, .int .u8 c8.toNat, .int .u8 c9.toNat, .int .u8 c10.toNat, .int .u8 c11.toNat, .int .u8 c12.toNat, .int .u8 c13.toNat, .int .u8 c14.toNat, .int .u8 c15.toNat, .slice A n c] := rfl
  rw [hV]
  clear hV
  obtain ⟨k, hk⟩ : ∃ k, k = pknown op := ⟨_, rfl⟩
  have hK : ∀ W, Calls Try.prog 17 #[.int .i64 op] W fun e w' => e = .returned (.bool k) ∧ W = w' := by rw [hk]; exact fun W => pknown_any op W
  rw [← hk] at h
  clear hk hc
  have hb : Below w.heap.size w (w.alloc (.cells #[Value.int .i64 op, .bool fin, .int .i64 fl, .int .i64 st, .int .u32 (tag : Nat), .int .u32 (sn : Nat), .int .u32 (ex : Nat), .int .u32 (mx : Nat), .int .u32 (off : Nat), .int .u32 (len : Nat), .int .u8 c0.toNat, .int .u8 c1.toNat, .int .u8 c2.toNat, .int .u8 c3.toNat, .int .u8 c4.toNat, .int .u8 c5.toNat, .int .u8 c6.toNat, .int .u8 c7.toNat, .int .u8 c8.toNat, .int .u8 c9.toNat, .int .u8 c10.toNat, .int .u8 c11.toNat, .int .u8 c12.toNat, .int .u8 c13.toNat, .int .u8 c14.toNat, .int .u8 c15.toNat, .slice A n c] 26)) := (Below.refl _ _).alloc (Nat.le_refl _) _
  rcases h with h | h | h | h | h
  · subst h
    go_enter Try.func6, Try.ntmps6
    go_wp2_with (go_at_call 17; refine (hK _).mono ?_; rintro e w' ⟨rfl, rfl⟩)
    all_goals (go_ret2; exact ⟨rfl, hb⟩)
  all_goals
    have h' := decide_eq_true h
    go_enter Try.func6, Try.ntmps6
    go_wp2_with (go_at_call 17; refine (hK _).mono ?_; rintro e w' ⟨rfl, rfl⟩)
    all_goals (go_ret2; exact ⟨rfl, hb⟩)
set_option maxHeartbeats 2000000 in
theorem encode_long (op fl st : Int) (tag sn ex mx off len : Nat) (fin : Bool) (cdb : List UInt8) (hk : pknown op = true) (q1 : 0 ≤ fl) (q2 : fl ≤ 127) (q3 : 0 ≤ st) (q4 : st ≤ 255) (hc : cdb.length = 16) (A : Option Addr) (n c : Nat) (w : World) (h : 4096 < n) :
    Calls Try.prog 6 #[pduV op fin fl st tag sn ex mx off len cdb (.slice A n c)] w fun e w' => e = .returned (.tuple #[.slice none 0 0, .int .i64 5]) ∧ Below w.heap.size w w' := by
  obtain ⟨c0, c1, c2, c3, c4, c5, c6, c7, c8, c9, c10, c11, c12, c13, c14, c15, rfl⟩ := cdb16 cdb hc
  have hV : pduV op fin fl st tag sn ex mx off len [c0, c1, c2, c3, c4, c5, c6, c7, c8, c9, c10, c11, c12, c13, c14, c15] (.slice A n c) = .agg #[Value.int .i64 op, .bool fin, .int .i64 fl, .int .i64 st, .int .u32 (tag : Nat), .int .u32 (sn : Nat), .int .u32 (ex : Nat), .int .u32 (mx : Nat), .int .u32 (off : Nat), .int .u32 (len : Nat), .int .u8 c0.toNat, .int .u8 c1.toNat, .int .u8 c2.toNat, .int .u8 c3.toNat, .int .u8 c4.toNat, .int .u8 c5.toNat, .int .u8 c6.toNat, .int .u8 c7.toNat, .int .u8 c8.toNat, .int .u8 c9.toNat, .int .u8 c10.toNat, .int .u8 c11.toNat, .int .u8 c12.toNat, .int .u8 c13.toNat, .int .u8 c14.toNat, .int .u8 c15.toNat, .slice A n c] := rfl
  rw [hV]
  clear hV hc
  have hb : Below w.heap.size w (w.alloc (.cells #[Value.int .i64 op, .bool fin, .int .i64 fl, .int .i64 st, .int .u32 (tag : Nat), .int .u32 (sn : Nat), .int .u32 (ex : Nat), .int .u32 (mx : Nat), .int .u32 (off : Nat), .int .u32 (len : Nat), .int .u8 c0.toNat, .int .u8 c1.toNat, .int .u8 c2.toNat, .int .u8 c3.toNat, .int .u8 c4.toNat, .int .u8 c5.toNat, .int .u8 c6.toNat, .int .u8 c7.toNat, .int .u8 c8.toNat, .int .u8 c9.toNat, .int .u8 c10.toNat, .int .u8 c11.toNat, .int .u8 c12.toNat, .int .u8 c13.toNat, .int .u8 c14.toNat, .int .u8 c15.toNat, .slice A n c] 26)) := (Below.refl _ _).alloc (Nat.le_refl _) _
  have d1 : decide (fl < 0) = false := decide_eq_false (by omega)
  have d2 : decide (127 < fl) = false := decide_eq_false (by omega)
  have d3 : decide (st < 0) = false := decide_eq_false (by omega)
  have d4 : decide (255 < st) = false := decide_eq_false (by omega)
  go_enter Try.func6, Try.ntmps6
  go_wp2_with (go_at_call 17; refine (pknown_any _ _).mono ?_; rw [hk]; rintro e w' ⟨rfl, rfl⟩)
  go_ret2
  exact ⟨rfl, hb⟩
end Go.Proofs.Ytafpaigifemjjaa
