/- PduFlips: for every PDU, every place and every pattern the statement's function tells true and turns nothing that was there. No condition. -/
import Derived.Test.YtafpaigifemjjaaPd13
import Derived.Test.YtafpaigifemjjaaPd9
import Derived.Test.YtafpaigifemjjaaPd10
import Derived.Test.YtafpaigifemjjaaPdO
import Derived.Test.YtafpaigifemjjaaFlipL
import Derived.Test.YtafpaigifemjjaaCalmT
import Derived.Deep.AppendLies
import Derived.Test.YtafpaigifemjjaaChecked
import Derived.Test.YtafpaigifemjjaaRows
namespace Go.Proofs.Ytafpaigifemjjaa
open Go.ChangeShapes Go.WideShapes Go.ChangeAt Go.RowKit
set_option linter.unusedVariables false
namespace PFlips
open Flips Crc
section
variable {P : Program}
theorem wpList_load_rowG {ops : Array Oper} {rest : List Oper} {o : Oper} {a : Act} {w : World} {Q : Exit → Act → World → Prop} (hw : Region.wanted o (yielded ops a.tmps) = true) (ty : TypeId) (x : Operand) (ho : o.op = .load ty x)
    (g : Nat) (hx : a.eval x = .pointer (some ⟨g, 0, none⟩)) (t : TypeId) (cs : Array Value) (fr : Nat × Nat) (d : TypeDesc) (hg : w.heap[g]? = some (.cells cs t fr))
    (hu : P.underlying ty = some d) (hd : (match d with | .struct _ | .array _ _ => true | _ => false) = true) (hi : (P.info? ty).map (·.size) = some cs.size)
    (h : wpList P ops Q rest (a.put o.dst (.agg cs)) w) : wpList P ops Q (o :: rest) a w :=
  wpList_step fun K hK => by rw [if_pos hw]; exact wp_load_row ty x ho g hx t cs fr d hg hu hd hi (hK _ _ h)
end
theorem known_nat {op : Int} (h : pknown op = true) : 0 ≤ op ∧ op < 256 := by
  simp [pknown] at h
  omega
/-- The box of a PDU. -/
theorem pdv_cells (op fl st : Int) (fin : Bool) (tag sn ex mx off len : Nat) (cdb : List UInt8) (d : Value) (hc : cdb.length = 16) :
    ∃ CS : Array Value, pduV op fin fl st tag sn ex mx off len cdb d = .agg CS ∧ CS.size = 27 ∧ CS[26]? = some d := by
  obtain ⟨c0, c1, c2, c3, c4, c5, c6, c7, c8, c9, c10, c11, c12, c13, c14, c15, rfl⟩ := cdb16 cdb hc
  exact ⟨_, rfl, by kernel_rfl, rfl⟩
set_option maxHeartbeats 1000000 in
/-- Too long, or no place: told at once. -/
theorem walkA (op fl st : Int) (fin : Bool) (tag sn ex mx off len : Nat) (cdb : List UInt8) (A : Option Addr) (n c : Nat) (bit : Int) (pat : Value) (w : World) (hc : cdb.length = 16) (h : 1500 < n ∨ bit < 0) :
    Calls Try.prog 3 #[pduV op fin fl st tag sn ex mx off len cdb (.slice A n c), .int .i64 bit, pat] w fun e w' => e = .returned (.bool true) ∧ Below w.heap.size w w' := by
  obtain ⟨CS, e1, e2, e3⟩ := pdv_cells op fl st fin tag sn ex mx off len cdb (.slice A n c) hc
  rw [e1]
  have hm0 := Mem.new w 26 CS
  have hb0 : Below w.heap.size w (w.alloc (.cells CS 26)) := (Below.refl _ _).alloc (Nat.le_refl _) _
  have hlt := hm0.lt
  have hk := known7_any (w.alloc (.cells CS 26))
  generalize hw0 : w.alloc (.cells CS 26) = w0 at *
  have HW := Lib.hid hw0
  clear e1
  rcases h with h | h
  · have d1 : decide ((1500 : Int) < (n : Int)) = true := decide_eq_true (by omega)
    clear h hw0
    go_enter Try.func3, Try.ntmps3
    go_wp2_with (first
      | (go_at_call 5; rw [HW.out]; refine hk.mono ?_; rintro e w1 ⟨rfl, hb1⟩; have x26 := ((hm0.below hb1 hlt).cell 26).trans e3; have hb2 := hb0.trans (hb1.mono hb0.size)))
    go_ret
    exact ⟨rfl, hb2⟩
  · have d1 : decide (bit < 0) = true := decide_eq_true h
    clear h hw0
    go_enter Try.func3, Try.ntmps3
    go_wp2_with (first
      | (go_at_call 5; rw [HW.out]; refine hk.mono ?_; rintro e w1 ⟨rfl, hb1⟩; have x26 := ((hm0.below hb1 hlt).cell 26).trans e3; have hb2 := hb0.trans (hb1.mono hb0.size)))
    all_goals go_ret
    all_goals exact ⟨rfl, hb2⟩
set_option maxRecDepth 100000 in
set_option maxHeartbeats 1000000 in
/-- Refused by Encode: told at once. -/
theorem walkB (op fl st : Int) (fin : Bool) (tag sn ex mx off len : Nat) (cdb : List UInt8) (A : Option Addr) (n c : Nat) (bit : Int) (pat : Value) (w : World) (hc : cdb.length = 16) (hn : n ≤ 1500) (hb : 0 ≤ bit) (hq : pknown op = false ∨ fl < 0 ∨ 127 < fl ∨ st < 0 ∨ 255 < st) :
    Calls Try.prog 3 #[pduV op fin fl st tag sn ex mx off len cdb (.slice A n c), .int .i64 bit, pat] w fun e w' => e = .returned (.bool true) ∧ Below w.heap.size w w' := by
  have hen := fun W => encode_no op fl st tag sn ex mx off len fin cdb hc A n c W hq
  obtain ⟨CS, e1, e2, e3⟩ := pdv_cells op fl st fin tag sn ex mx off len cdb (.slice A n c) hc
  rw [e1] at hen ⊢
  have hm0 := Mem.new w 26 CS
  have hb0 : Below w.heap.size w (w.alloc (.cells CS 26)) := (Below.refl _ _).alloc (Nat.le_refl _) _
  have hlt := hm0.lt
  have hk := known7_any (w.alloc (.cells CS 26))
  have hsz : (Try.prog.info? 26).map (·.size) = some CS.size := by rw [e2]; kernel_rfl
  generalize hw0 : w.alloc (.cells CS 26) = w0 at *
  have HW := Lib.hid hw0
  have d1 : decide ((1500 : Int) < (n : Int)) = false := decide_eq_false (by omega)
  have d2 : decide (bit < 0) = false := decide_eq_false (by omega)
  clear e1 hw0 hn hb hq
  go_enter Try.func3, Try.ntmps3
  go_wp2_with (first
    | (go_at_call 5; rw [HW.out]; refine hk.mono ?_; rintro e w1 ⟨rfl, hb1⟩; have hm1 := hm0.below hb1 hlt; have x26 := (hm1.cell 26).trans e3; have hb2 := hb0.trans (hb1.mono hb0.size))
    | (refine wpList_load_row rfl 26 (.tmp 3) rfl w.heap.size rfl 26 CS (0, 0) _ hm1 Try.underlying26 rfl hsz ?_)
    | (go_at_call 6; refine (hen _).mono ?_; rintro e w2 ⟨rfl, hb3⟩))
  all_goals go_ret
  all_goals exact ⟨rfl, hb2.trans (hb3.mono hb2.size)⟩
theorem empty_row (w : World) (v : Value) (n : Nat) (xs : List Value) (hs : Sl w w.heap.size v n xs) :
    (w.alloc (.cells #[] 5)).ownsRow w.heap.size 5 1 (.slice (some ⟨w.heap.size, 0, none⟩) 0 0) 0 [] ∧ Sl (w.alloc (.cells #[] 5)) w.heap.size v n xs ∧ Below w.heap.size w (w.alloc (.cells #[] 5)) :=
  ⟨⟨rfl, .inr ⟨w.heap.size, 0, #[], rfl, Nat.le_refl _, heap_alloc_new w _, Nat.le_refl _, by unfold maxLen; omega, rfl, rfl⟩⟩, hs.alloc (Nat.le_refl _) _, (Below.refl _ _).alloc (Nat.le_refl _) _⟩
theorem sealed_take (p : Pdh) (l L : List UInt8) (h : p.Fit) (hL : L.length = (encB p l).length) : 52 ≤ (encB p l).length ∧ 52 ≤ L.length := by
  rw [hL, encB_len p l h]; omega
theorem low_bound {q k D HI : Nat} (hq : q < 2 ^ k) (h : k = 0 ∨ D + k ≤ HI) : q * 2 ^ D < 2 ^ HI := by
  rcases h with rfl | h
  · have : q = 0 := by simpa using hq
    subst this
    simpa using Nat.two_pow_pos HI
  · calc q * 2 ^ D < 2 ^ k * 2 ^ D := (Nat.mul_lt_mul_right (Nat.two_pow_pos D)).2 hq
      _ = 2 ^ (D + k) := by rw [← Nat.pow_add, Nat.add_comm]
      _ ≤ 2 ^ HI := Nat.pow_le_pow_right (by omega) h
theorem flip0 (E L : List UInt8) (q D : Nat) (hL : L.length = E.length) (hv : leV L = leV E ^^^ q * 2 ^ D) (h : q = 0) : L = E := by
  subst h
  exact leV_inj _ _ hL (by rw [hv]; simp)
theorem flipF (p : Pdh) (h : p.Fit) (l L : List UInt8) (q D N : Nat) (hN : N = 52) (hL : L.length = (encB p l).length) (hv : leV L = leV (encB p l) ^^^ q * 2 ^ D) (hq : q < 4294967296) (hX : q * 2 ^ D < 2 ^ (8 * N)) (hD : D ≤ 416) (h0 : q ≠ 0) : Crc.openS (L.take 52) = ([], 4) := by
  obtain ⟨l1, l2⟩ := sealed_take p l L h hL
  obtain ⟨_, h2⟩ := turned_front (encB p l) L N (q * 2 ^ D) hL (by omega) hX hv
  subst hN
  rw [encB_take p l h] at h2
  have hs : (Crc.sealS (p.bytes l.length)).length = 52 := by rw [Crc.sealS_len, p.bytes_len _ h]
  have ht : (L.take 52).length = 52 := by simp; omega
  have := Crc.flips_found (p.bytes l.length) (L.take 52) q D (by rw [hs, ht]) h2 hq (by rw [ht]; omega)
  rw [if_neg h0] at this
  exact this
theorem flipD (p : Pdh) (h : p.Fit) (l L : List UInt8) (q D N : Nat) (hN : N = 52) (hl0 : l.length ≠ 0) (hL : L.length = (encB p l).length) (hv : leV L = leV (encB p l) ^^^ q * 2 ^ (8 * N + D)) (hq : q < 4294967296) (hD : 416 + D ≤ 8 * (encB p l).length) (h0 : q ≠ 0) : L.take 52 = Crc.sealS (p.bytes l.length) ∧ Crc.openS (L.drop 52) = ([], 4) := by
  obtain ⟨l1, l2⟩ := sealed_take p l L h hL
  rw [Nat.pow_add, Nat.mul_comm (2 ^ (8 * N)), ← Nat.mul_assoc] at hv
  obtain ⟨h1, h2⟩ := turned_back (encB p l) L N (q * 2 ^ D) hL (by omega) hv
  subst hN
  rw [encB_take p l h] at h1
  rw [encB_drop p l h hl0] at h2
  have hs : (Crc.sealS (padS l 4)).length = L.length - 52 := by
    rw [← encB_drop p l h hl0, List.length_drop, hL]
  have ht : (L.drop 52).length = L.length - 52 := by simp
  have := Crc.flips_found (padS l 4) (L.drop 52) q D (by rw [hs, ht]) h2 hq (by rw [ht, hL]; omega)
  rw [if_neg h0] at this
  exact ⟨h1, this⟩
theorem zp_same (W : World) : Calls Try.prog 8 #[.agg #[Value.int .i64 0, .bool false, .int .i64 0, .int .i64 0, .int .u32 0, .int .u32 0, .int .u32 0, .int .u32 0, .int .u32 0, .int .u32 0, .int .u8 0, .int .u8 0, .int .u8 0, .int .u8 0, .int .u8 0, .int .u8 0, .int .u8 0, .int .u8 0, .int .u8 0, .int .u8 0, .int .u8 0, .int .u8 0, .int .u8 0, .int .u8 0, .int .u8 0, .int .u8 0, .slice none 0 0], .agg #[Value.int .i64 0, .bool false, .int .i64 0, .int .i64 0, .int .u32 0, .int .u32 0, .int .u32 0, .int .u32 0, .int .u32 0, .int .u32 0, .int .u8 0, .int .u8 0, .int .u8 0, .int .u8 0, .int .u8 0, .int .u8 0, .int .u8 0, .int .u8 0, .int .u8 0, .int .u8 0, .int .u8 0, .int .u8 0, .int .u8 0, .int .u8 0, .int .u8 0, .int .u8 0, .slice none 0 0]] W fun e w' => e = .returned (.bool true) ∧ Below W.heap.size W w' :=
  same_true ⟨0, false, 0, 0, 0, 0, 0, 0, 0, 0, List.replicate 16 0⟩ rfl (.slice none 0 0) (.slice none 0 0) [] W Sl.nil_ Sl.nil_
set_option maxRecDepth 100000 in
set_option maxHeartbeats 4000000 in
theorem walkF1 (p : Pdh) (h : p.Fit) (hk : pknown (p.op : Nat) = true) (l : List UInt8) (hl : l.length ≤ 1500) (A : Option Addr) (c : Nat) (B P : Nat) (w : World) (hd : Sl w w.heap.size (.slice A l.length c) l.length (bs l)) (hB : B ≤ 9223372036854775807) (hP : P < 4294967296) (h0 : l.length = 0) :
    Calls Try.prog 3 #[p.v (.slice A l.length c), .int .i64 B, .int .u32 P] w fun e w' => e = .returned (.bool true) ∧ Below w.heap.size w w' := by
  obtain ⟨i0, hi, hz0, hz1, hz2⟩ := info_parts info_u8
  have hen := fun W hW => enc_ok p h hk (.slice A l.length c) l W hW (by omega)
  obtain ⟨CS, e1, e2, e3⟩ := pdv_cells p.op p.fl p.st p.fin p.tag p.sn p.ex p.mx p.off p.len p.cdb (.slice A l.length c) h.cdb
  obtain ⟨CQ, q1, q2, q3, q4⟩ := pdv p .nilFunc h.cdb
  have e1' : p.v (.slice A l.length c) = .agg CS := e1
  have hof := fun W => of_any p h.cdb A l.length c W
  have hsame := fun d1 W => same_true p h.cdb d1 (.slice A l.length c) l W
  rw [e1'] at hen hof hsame ⊢
  have hm0 := Mem.new w 26 CS
  have hb0 : Below w.heap.size w (w.alloc (.cells CS 26)) := (Below.refl _ _).alloc (Nat.le_refl _) _
  have hlt := hm0.lt
  have hkn := known7_any (w.alloc (.cells CS 26))
  have hd0 := hd.now hb0
  have hsz : (Try.prog.info? 26).map (·.size) = some CS.size := by rw [e2]; kernel_rfl
  have hqsz : ∀ u, (Try.prog.info? 26).map (·.size) = some (CQ.setIfInBounds 26 u).size := fun u => by rw [Array.size_setIfInBounds, q2]; kernel_rfl
  have hqzz : ∀ u, (#[Value.int .i64 0, .bool false, .int .i64 0, .int .i64 0, .int .u32 0, .int .u32 0, .int .u32 0, .int .u32 0, .int .u32 0, .int .u32 0, .int .u8 0, .int .u8 0, .int .u8 0, .int .u8 0, .int .u8 0, .int .u8 0, .int .u8 0, .int .u8 0, .int .u8 0, .int .u8 0, .int .u8 0, .int .u8 0, .int .u8 0, .int .u8 0, .int .u8 0, .int .u8 0, .slice none 0 0] : Array Value).size = (CQ.setIfInBounds 26 u).size := fun u => by rw [Array.size_setIfInBounds, q2]; rfl
  generalize hw0 : w.alloc (.cells CS 26) = w0 at *
  have HW := Lib.hid hw0
  have d1 : decide ((1500 : Int) < (l.length : Int)) = false := decide_eq_false (by omega)
  have hlen := encB_len p l h
  have hpad := padN4 l.length
  obtain ⟨EL, hEL⟩ : ∃ EL, EL = (encB p l).length := ⟨_, rfl⟩
  have hEL2 : EL ≤ 1600 := by rw [hEL, hlen]; split <;> omega
  have hEL1 : 52 ≤ EL := by rw [hEL, hlen]; omega
  have h52 : decide ((52 : Int) < (EL : Int)) = false := decide_eq_false (by rw [hEL, hlen, if_pos h0]; omega)
  have HEL := Lib.hid hEL
  have hgood : ∀ L, L = encB p l → ∀ W v, Sl W W.heap.size v EL (bs L) → Calls Try.prog 7 #[v] W fun e w' => ∃ v2, e = .returned (.tuple #[.agg (CQ.setIfInBounds 26 v2), .int .i64 (EL : Nat), .int .i64 0]) ∧ (CQ.setIfInBounds 26 v2).all (·.oneCell') = true ∧ Sl w' w'.heap.size v2 l.length (bs l) ∧ Below W.heap.size W w' := by
    rintro L rfl W v hW
    refine (dec_enc p h hk l (by omega) v W (by rw [← HEL.out]; exact hW)).mono ?_
    rintro e w' ⟨v2, rfl, hs, hb, _⟩
    exact ⟨v2, by rw [q4, HEL.out], all_set q3 26 _ (one_slice hs), hs, hb⟩
  have hbad : ∀ (L : List UInt8) (q D : Nat), (D ≤ 416 ∧ ∃ k, q < 2 ^ k ∧ (k = 0 ∨ D + k ≤ 416)) → q ≠ 0 → L.length = EL → leV L = leV (encB p l) ^^^ q * 2 ^ D → q < 4294967296 → ∀ W v, Sl W W.heap.size v EL (bs L) → Calls Try.prog 7 #[v] W fun e w' => e = .returned (.tuple #[.agg #[Value.int .i64 0, .bool false, .int .i64 0, .int .i64 0, .int .u32 0, .int .u32 0, .int .u32 0, .int .u32 0, .int .u32 0, .int .u32 0, .int .u8 0, .int .u8 0, .int .u8 0, .int .u8 0, .int .u8 0, .int .u8 0, .int .u8 0, .int .u8 0, .int .u8 0, .int .u8 0, .int .u8 0, .int .u8 0, .int .u8 0, .int .u8 0, .int .u8 0, .int .u8 0, .slice none 0 0], .int .i64 0, .int .i64 4]) ∧ Below W.heap.size W w' := by
    intro L q D hD hq hL hv hq32 W v hW
    obtain ⟨N, hN⟩ : ∃ N, N = 52 := ⟨_, rfl⟩
    have hX : q * 2 ^ D < 2 ^ (8 * N) := by
      obtain ⟨k, hk1, hk2⟩ := hD.2
      exact low_bound hk1 (hk2.imp id (by omega))
    refine (dec_head_bad v L (by omega) (by omega) (flipF p h l L q D N hN (by rw [hL, HEL.out]) hv hq32 hX hD.1 hq) W (by rw [hL]; exact hW))
  have HBAD := Lib.hid hbad
  have HSAME := Lib.hid hsame
  have HGOOD := Lib.hid hgood
  rw [← hEL] at hen
  clear e1 e1' hw0 hlen hpad hEL hd q1 q2 q3 hbad hsame hgood
  simp only [q4] at HSAME
  clear q4
  go_enter Try.func3, Try.ntmps3
  go_wp2_with (first
    | (go_at_call 5; rw [HW.out]; refine hkn.mono ?_; rintro e w1 ⟨rfl, hb1⟩; have hm1 := hm0.below hb1 hlt; have x26 := (hm1.cell 26).trans e3; have hb2 := hb0.trans (hb1.mono hb0.size); have hd1 := hd0.now hb1)
    | (refine wpList_load_row rfl 26 (.tmp 3) rfl w.heap.size rfl 26 CS (0, 0) _ hm1 Try.underlying26 rfl hsz ?_)
    | (go_at_call 6; refine (hen _ hd1).mono ?_; rintro e w2 ⟨v2, rfl, hs2, hb3⟩; obtain ⟨Ab, cb, rfl, hcb1, hcb2⟩ := hs2.form; unfold maxLen at hcb2; have hm2 := hm1.below hb3 (Nat.lt_of_lt_of_le hlt hb1.size); have hd2 := hd1.now hb3; have hb4 := hb2.trans (hb3.mono hb2.size); obtain ⟨hown0, hs2x, hb5⟩ := empty_row w2 _ _ _ hs2)
    | (at_builtin; refine wpList_append_sl _ rfl (.tmp 50) (.tmp 51) _ rfl w2.heap.size 5 i0 _ Try.underlying24 hi hz0 hz1 (by omega) rfl (.slice (some ⟨w2.heap.size, 0, none⟩) 0 0) 0 [] rfl hown0 _ _ EL (bs (encB p l)) rfl hs2x bs_one (by show 0 + EL ≤ _; omega) (by simp) ?_; intro v3 w3 hown3 hg3 hat3; have hb6 := below_own hb5 hg3 (by simp) (by simp [Value.ownBlock]); have hown := ownsRow_len hown3 (Nat.zero_add EL) (List.nil_append _); obtain ⟨g, cap, rfl, hgg1, hgg2⟩ := hown.form (by omega)))
  have hD0 : B / 2 % 416 < 416 := Nat.mod_lt _ (by omega)
  have hD : (B : Int) / 2 % 416 = ((B / 2 % 416 : Nat) : Int) := by simp
  generalize B / 2 % 416 = D at *
  simp only [hD]
  have hEB : (encB p l).length = EL := HEL.out.symm
  clear hD x26 hs2 hs2x hown0 hown3 hg3 hat3 hen hkn hm1 hb5 hd1
  generalize hE : encB p l = E at *
  clear hE
  go_loopw [12, 15] (fun tn i wr => ∃ (k : Nat) (L : List UInt8), k ≤ 32 ∧ L.length = EL ∧ i = .int .i64 k ∧ tn = .bool (decide (P % 2 ^ k ≠ 0)) ∧ leV L = leV E ^^^ (P % 2 ^ k) * 2 ^ D ∧ wr.ownsRow w2.heap.size 5 1 (.slice (some ⟨g, 0, none⟩) EL cap) EL (bs L) ∧ Below w2.heap.size w2 wr ∧ (k = 0 ∨ D + k ≤ 416)) (fun _ i _ => 32 - (intOf i).toNat)
  case atStart => exact ⟨0, E, by omega, hEB, rfl, by simp [Nat.mod_one], by simp [Nat.mod_one], hown, hb6, .inl rfl⟩
  case round =>
    obtain ⟨k, L, hk32, hL, rfl, rfl, hlv, hown3, hb7, hkD⟩ := hrel
    by_cases hlt : k < 32 ∧ D + k < 416
    · obtain ⟨h32, hDk⟩ := hlt
      have hj : (D + k) / 8 < L.length := by omega
      have hPk : (P / 2 ^ k) < 4294967296 := Nat.lt_of_le_of_lt (Nat.div_le_self _ _) hP
      have hand : bits BinOp.and IntKind.u32 ((P : Int) / 2 ^ k) 1 = ((P / 2 ^ k % 2 : Nat) : Int) := by
        have h := u32_and_nat (P / 2 ^ k) 1 hPk (by omega)
        rw [nat_mask1] at h
        rw [← h]; simp
      rcases Nat.mod_two_eq_zero_or_one (P / 2 ^ k) with hp | hp
      · rw [hp] at hand
        have hm := mod_next0 P k hp
        have HM := Lib.hid hm
        have HLV := Lib.hid hlv
        clear hm hp hlv
        go_wp2
        refine ⟨⟨k + 1, L, by omega, hL, by go_num, by rw [HM.out]; simp, by rw [HM.out]; exact HLV.out, hown3, hb7, .inr (by omega)⟩, by simp [intOf]; omega⟩
      · have hp0 := hp
        rw [hp] at hand
        have hm := mod_next1 P k hp
        have HM := Lib.hid hm
        have HLV := Lib.hid hlv
        have hset := leV_set L (D + k) hj
        have HS := Lib.hid hset
        have hcl : wr.cell? ⟨g, (D + k) / 8, none⟩ = some (.int .u8 ((L[(D + k) / 8]).toNat : Int)) := by
          rw [hown3.cellAt _ (by omega)]; exact bs_get hj
        have hfz := hown3.frozenAt ((D + k) / 8)
        have hst := hown3.stored ((D + k) / 8)
        have HST := Lib.hid hst
        have hxl := (L[(D + k) / 8]).toNat_lt
        have hk8 : (D + k) % 8 < 8 := Nat.mod_lt _ (by omega)
        clear hm hp hlv hset hst
        have hpos : decide (P % 2 ^ (k + 1) ≠ 0) = true := decide_eq_true (mod_pos1 P k hp0)
        have HP := Lib.hid hpos
        clear hpos hp0
        go_wp2
        refine ⟨⟨k + 1, L.set ((D + k) / 8) (L[(D + k) / 8] ^^^ UInt8.ofNat (2 ^ ((D + k) % 8))), by omega, by simp [hL], by go_num, by rw [HP.out], ?_, ?_, hb7.setCell (by simpa using hgg1) _, .inr (by omega)⟩, by simp [intOf]; omega⟩
        · rw [HS.out, HLV.out, HM.out, xor_mul, ← Nat.pow_add, Nat.add_comm k D, Nat.xor_assoc]
        · rw [xor_val _ hk8, ← bs_set]
          exact (HST.out _).1
    · have hpl : P % 2 ^ k < 4294967296 := Nat.lt_of_le_of_lt (Nat.mod_le _ _) hP
      have hsL : Sl wr wr.heap.size (.slice (some ⟨g, 0, none⟩) EL cap) EL (bs L) := Sl.of_own hown3
      have hdw := hd2.now hb7
      have hmw := hm2.below hb7 hm2.lt
      have hbw := hb4.trans (hb7.mono hb4.size)
      by_cases hz : P % 2 ^ k = 0
      · have hLE := flip0 E L (P % 2 ^ k) D (by rw [hL, hEB]) hlv hz
        have hdec := HGOOD.out L hLE wr (.slice (some ⟨g, 0, none⟩) EL cap) hsL
        rw [hz]
        have HDEC := Lib.hid hdec
        clear hdec hlv hz hLE
        go_wp2_with (first
          | (go_at_call 7; refine HDEC.out.mono ?_; rintro e w4 ⟨v4, rfl, hone, hs4, hb8⟩; have hm4 := hmw.below hb8 hmw.lt; have hd4 := hdw.now hb8; have hbw4 := hbw.trans (hb8.mono hbw.size))
          | (refine wpList_store_row rfl 26 (.tmp 16) (.tmp 101) rfl w4.heap.size (CQ.setIfInBounds 26 v4) rfl rfl 26 #[Value.int .i64 0, .bool false, .int .i64 0, .int .i64 0, .int .u32 0, .int .u32 0, .int .u32 0, .int .u32 0, .int .u32 0, .int .u32 0, .int .u8 0, .int .u8 0, .int .u8 0, .int .u8 0, .int .u8 0, .int .u8 0, .int .u8 0, .int .u8 0, .int .u8 0, .int .u8 0, .int .u8 0, .int .u8 0, .int .u8 0, .int .u8 0, .int .u8 0, .int .u8 0, .slice none 0 0] (Mem.new w4 _ _) (hqsz _) (hqzz _) hone ?_; have hb9 := below_setRow ((Below.refl w4.heap.size w4).alloc (Nat.le_refl _) (.cells #[Value.int .i64 0, .bool false, .int .i64 0, .int .i64 0, .int .u32 0, .int .u32 0, .int .u32 0, .int .u32 0, .int .u32 0, .int .u32 0, .int .u8 0, .int .u8 0, .int .u8 0, .int .u8 0, .int .u8 0, .int .u8 0, .int .u8 0, .int .u8 0, .int .u8 0, .int .u8 0, .int .u8 0, .int .u8 0, .int .u8 0, .int .u8 0, .int .u8 0, .int .u8 0, .slice none 0 0] 26)) (Nat.le_refl _) (CQ.setIfInBounds 26 v4); have hmq := (Mem.new w4 26 #[Value.int .i64 0, .bool false, .int .i64 0, .int .i64 0, .int .u32 0, .int .u32 0, .int .u32 0, .int .u32 0, .int .u32 0, .int .u32 0, .int .u8 0, .int .u8 0, .int .u8 0, .int .u8 0, .int .u8 0, .int .u8 0, .int .u8 0, .int .u8 0, .int .u8 0, .int .u8 0, .int .u8 0, .int .u8 0, .int .u8 0, .int .u8 0, .int .u8 0, .int .u8 0, .slice none 0 0]).row (CQ.setIfInBounds 26 v4); generalize (w4.alloc (.cells #[Value.int .i64 0, .bool false, .int .i64 0, .int .i64 0, .int .u32 0, .int .u32 0, .int .u32 0, .int .u32 0, .int .u32 0, .int .u32 0, .int .u8 0, .int .u8 0, .int .u8 0, .int .u8 0, .int .u8 0, .int .u8 0, .int .u8 0, .int .u8 0, .int .u8 0, .int .u8 0, .int .u8 0, .int .u8 0, .int .u8 0, .int .u8 0, .int .u8 0, .int .u8 0, .slice none 0 0] 26)).setRow w4.heap.size (CQ.setIfInBounds 26 v4) = w5 at *; have hm5 := hm4.below hb9 hm4.lt; have hd5 := hd4.now hb9; have hs5 := hs4.now hb9; have hbw5 := hbw4.trans (hb9.mono hbw4.size)))
        all_goals
          try simp only [Act.put]
          have hB5 := hbw5
          apply calm_tail 8 [.is _, .is _, .is _, .is _, .is _, .is _, .is _, .is _] [[], [0], [1], [2], [2], [4, 2, 2], [3, 5, 5, 2], [2, 6]] (by kernel_rfl) (by kernel_rfl) (by kernel_rfl) rfl
          intro f a1 ha1
          simp only [List.take_succ_cons, List.take_zero, putL, Act.put, List.setIfInBounds_toArray, List.set_cons_succ, List.set_cons_zero] at ha1
          subst ha1
          refine ⟨?_, ?_⟩
          · refine AllCalm.cons (fun W hB hd => ?_) ?_
            · go_wp2_with (fail)
              exact CalmQ.mk rfl _ rfl (Below.refl _ _) rfl
            refine AllCalm.cons (fun W hB hd => ?_) ?_
            · obtain ⟨h0, -⟩ := hd
              have h0 : f 0 = _ := h0
              rw [h0]
              go_wp2_with (fail)
              exact CalmQ.mk rfl _ rfl (Below.refl _ _) rfl
            refine AllCalm.cons (fun W hB hd => ?_) ?_
            · obtain ⟨h1, -⟩ := hd
              have h1 : f 1 = _ := h1
              rw [h1]
              go_wp2_with (fail)
              exact CalmQ.mk rfl _ rfl (Below.refl _ _) rfl
            refine AllCalm.cons (fun W hB hd => ?_) ?_
            · obtain ⟨h2, -⟩ := hd
              have h2 : f 2 = _ := h2
              rw [h2]
              go_wp2_with ((refine wpList_load_rowG rfl 26 (.tmp 16) rfl w4.heap.size rfl 26 (CQ.setIfInBounds 26 v4) (0, 0) _ (hmq.below hB hmq.lt) Try.underlying26 rfl (hqsz _) ?_))
              exact CalmQ.mk rfl _ rfl (Below.refl _ _) rfl
            refine AllCalm.cons (fun W hB hd => ?_) ?_
            · obtain ⟨h2, -⟩ := hd
              have h2 : f 2 = _ := h2
              rw [h2]
              go_wp2_with ((refine wpList_load_rowG rfl 26 (.tmp 3) rfl w.heap.size rfl 26 CS (0, 0) _ (hm5.below hB hm5.lt) Try.underlying26 rfl hsz ?_))
              exact CalmQ.mk rfl _ rfl (Below.refl _ _) rfl
            refine AllCalm.cons (fun W hB hd => ?_) ?_
            · obtain ⟨h4, h2, -, -⟩ := hd
              have h4 : f 4 = _ := h4
              have h2 : f 2 = _ := h2
              rw [h4, h2]
              go_wp2_with ((go_at_call 9; with_reducible refine (hof W).mono ?_; rintro e w6 ⟨rfl, hb10⟩))
              exact CalmQ.mk rfl _ rfl hb10 rfl
            refine AllCalm.cons (fun W hB hd => ?_) ?_
            · obtain ⟨h3, h5, -, h2, -⟩ := hd
              have h3 : f 3 = _ := h3
              have h5 : f 5 = _ := h5
              have h2 : f 2 = _ := h2
              rw [h3, h5, h2]
              go_wp2_with ((go_at_call 8; with_reducible refine (HSAME.out v4 W (hs5.now hB) (hd5.now hB)).mono ?_; rintro e w6 ⟨rfl, hb10⟩))
              exact CalmQ.mk rfl _ rfl hb10 rfl
            refine AllCalm.cons (fun W hB hd => ?_) ?_
            · obtain ⟨h2, h6, -⟩ := hd
              have h2 : f 2 = _ := h2
              have h6 : f 6 = _ := h6
              rw [h2, h6]
              go_wp2_with (fail)
              exact CalmQ.mk rfl _ rfl (Below.refl _ _) rfl
            exact AllCalm.nil
          · intro W hB hT
            obtain ⟨h0, h1, h2, h3, h4, h5, h6, h7, -⟩ := hT
            have h0 : f 0 = _ := h0
            have h1 : f 1 = _ := h1
            have h2 : f 2 = _ := h2
            have h3 : f 3 = _ := h3
            have h4 : f 4 = _ := h4
            have h5 : f 5 = _ := h5
            have h6 : f 6 = _ := h6
            have h7 : f 7 = _ := h7
            rw [h0, h1, h2, h3, h4, h5, h6, h7]
            clear h0 h1 h2 h3 h4 h5 h6 h7
            simp only [List.drop_succ_cons, List.drop_zero]
            go_wp2_with fail
            go_ret
            exact ⟨rfl, hB5.trans (hB.mono hB5.size)⟩
      · have hdec := HBAD.out L (P % 2 ^ k) D (⟨by omega, k, Nat.mod_lt _ (Nat.two_pow_pos k), hkD⟩) hz hL hlv hpl wr (.slice (some ⟨g, 0, none⟩) EL cap) hsL
        have hdd : decide (P % 2 ^ k ≠ 0) = true := decide_eq_true hz
        rw [hdd]
        have HDEC := Lib.hid hdec
        clear hdec hlv hz hdd
        go_wp2_with (first
          | (go_at_call 7; refine HDEC.out.mono ?_; rintro e w4 ⟨rfl, hb8⟩; have hbw4 := hbw.trans (hb8.mono hbw.size))
          | (refine wpList_store_row rfl 26 (.tmp 16) (.tmp 101) rfl w4.heap.size #[Value.int .i64 0, .bool false, .int .i64 0, .int .i64 0, .int .u32 0, .int .u32 0, .int .u32 0, .int .u32 0, .int .u32 0, .int .u32 0, .int .u8 0, .int .u8 0, .int .u8 0, .int .u8 0, .int .u8 0, .int .u8 0, .int .u8 0, .int .u8 0, .int .u8 0, .int .u8 0, .int .u8 0, .int .u8 0, .int .u8 0, .int .u8 0, .int .u8 0, .int .u8 0, .slice none 0 0] rfl rfl 26 #[Value.int .i64 0, .bool false, .int .i64 0, .int .i64 0, .int .u32 0, .int .u32 0, .int .u32 0, .int .u32 0, .int .u32 0, .int .u32 0, .int .u8 0, .int .u8 0, .int .u8 0, .int .u8 0, .int .u8 0, .int .u8 0, .int .u8 0, .int .u8 0, .int .u8 0, .int .u8 0, .int .u8 0, .int .u8 0, .int .u8 0, .int .u8 0, .int .u8 0, .int .u8 0, .slice none 0 0] (Mem.new w4 _ _) (by kernel_rfl) (by kernel_rfl) (by kernel_rfl) ?_; have hb9 := below_setRow ((Below.refl w4.heap.size w4).alloc (Nat.le_refl _) (.cells #[Value.int .i64 0, .bool false, .int .i64 0, .int .i64 0, .int .u32 0, .int .u32 0, .int .u32 0, .int .u32 0, .int .u32 0, .int .u32 0, .int .u8 0, .int .u8 0, .int .u8 0, .int .u8 0, .int .u8 0, .int .u8 0, .int .u8 0, .int .u8 0, .int .u8 0, .int .u8 0, .int .u8 0, .int .u8 0, .int .u8 0, .int .u8 0, .int .u8 0, .int .u8 0, .slice none 0 0] 26)) (Nat.le_refl _) #[Value.int .i64 0, .bool false, .int .i64 0, .int .i64 0, .int .u32 0, .int .u32 0, .int .u32 0, .int .u32 0, .int .u32 0, .int .u32 0, .int .u8 0, .int .u8 0, .int .u8 0, .int .u8 0, .int .u8 0, .int .u8 0, .int .u8 0, .int .u8 0, .int .u8 0, .int .u8 0, .int .u8 0, .int .u8 0, .int .u8 0, .int .u8 0, .int .u8 0, .int .u8 0, .slice none 0 0]; have hmq := (Mem.new w4 26 #[Value.int .i64 0, .bool false, .int .i64 0, .int .i64 0, .int .u32 0, .int .u32 0, .int .u32 0, .int .u32 0, .int .u32 0, .int .u32 0, .int .u8 0, .int .u8 0, .int .u8 0, .int .u8 0, .int .u8 0, .int .u8 0, .int .u8 0, .int .u8 0, .int .u8 0, .int .u8 0, .int .u8 0, .int .u8 0, .int .u8 0, .int .u8 0, .int .u8 0, .int .u8 0, .slice none 0 0]).row #[Value.int .i64 0, .bool false, .int .i64 0, .int .i64 0, .int .u32 0, .int .u32 0, .int .u32 0, .int .u32 0, .int .u32 0, .int .u32 0, .int .u8 0, .int .u8 0, .int .u8 0, .int .u8 0, .int .u8 0, .int .u8 0, .int .u8 0, .int .u8 0, .int .u8 0, .int .u8 0, .int .u8 0, .int .u8 0, .int .u8 0, .int .u8 0, .int .u8 0, .int .u8 0, .slice none 0 0]; generalize (w4.alloc (.cells #[Value.int .i64 0, .bool false, .int .i64 0, .int .i64 0, .int .u32 0, .int .u32 0, .int .u32 0, .int .u32 0, .int .u32 0, .int .u32 0, .int .u8 0, .int .u8 0, .int .u8 0, .int .u8 0, .int .u8 0, .int .u8 0, .int .u8 0, .int .u8 0, .int .u8 0, .int .u8 0, .int .u8 0, .int .u8 0, .int .u8 0, .int .u8 0, .int .u8 0, .int .u8 0, .slice none 0 0] 26)).setRow w4.heap.size #[Value.int .i64 0, .bool false, .int .i64 0, .int .i64 0, .int .u32 0, .int .u32 0, .int .u32 0, .int .u32 0, .int .u32 0, .int .u32 0, .int .u8 0, .int .u8 0, .int .u8 0, .int .u8 0, .int .u8 0, .int .u8 0, .int .u8 0, .int .u8 0, .int .u8 0, .int .u8 0, .int .u8 0, .int .u8 0, .int .u8 0, .int .u8 0, .int .u8 0, .int .u8 0, .slice none 0 0] = w5 at *; have hbw5 := hbw4.trans (hb9.mono hbw4.size))
          | (refine wpList_load_rowG rfl 26 (.tmp 16) rfl w4.heap.size rfl 26 #[Value.int .i64 0, .bool false, .int .i64 0, .int .i64 0, .int .u32 0, .int .u32 0, .int .u32 0, .int .u32 0, .int .u32 0, .int .u32 0, .int .u8 0, .int .u8 0, .int .u8 0, .int .u8 0, .int .u8 0, .int .u8 0, .int .u8 0, .int .u8 0, .int .u8 0, .int .u8 0, .int .u8 0, .int .u8 0, .int .u8 0, .int .u8 0, .int .u8 0, .int .u8 0, .slice none 0 0] (0, 0) _ hmq Try.underlying26 rfl (by kernel_rfl) ?_)
          | (go_at_call 8; with_reducible refine (zp_same _).mono ?_; rintro e w6 ⟨rfl, hb10⟩))
        all_goals go_ret
        all_goals exact ⟨rfl, hbw5.trans (hb10.mono hbw5.size)⟩
set_option maxRecDepth 100000 in
set_option maxHeartbeats 4000000 in
theorem walkF2 (p : Pdh) (h : p.Fit) (hk : pknown (p.op : Nat) = true) (l : List UInt8) (hl : l.length ≤ 1500) (A : Option Addr) (c : Nat) (B P : Nat) (w : World) (hd : Sl w w.heap.size (.slice A l.length c) l.length (bs l)) (hB : B ≤ 9223372036854775807) (hP : P < 4294967296) (h0 : l.length ≠ 0) (hev : B % 2 = 0) :
    Calls Try.prog 3 #[p.v (.slice A l.length c), .int .i64 B, .int .u32 P] w fun e w' => e = .returned (.bool true) ∧ Below w.heap.size w w' := by
  obtain ⟨i0, hi, hz0, hz1, hz2⟩ := info_parts info_u8
  have hen := fun W hW => enc_ok p h hk (.slice A l.length c) l W hW (by omega)
  obtain ⟨CS, e1, e2, e3⟩ := pdv_cells p.op p.fl p.st p.fin p.tag p.sn p.ex p.mx p.off p.len p.cdb (.slice A l.length c) h.cdb
  obtain ⟨CQ, q1, q2, q3, q4⟩ := pdv p .nilFunc h.cdb
  have e1' : p.v (.slice A l.length c) = .agg CS := e1
  have hof := fun W => of_any p h.cdb A l.length c W
  have hsame := fun d1 W => same_true p h.cdb d1 (.slice A l.length c) l W
  rw [e1'] at hen hof hsame ⊢
  have hm0 := Mem.new w 26 CS
  have hb0 : Below w.heap.size w (w.alloc (.cells CS 26)) := (Below.refl _ _).alloc (Nat.le_refl _) _
  have hlt := hm0.lt
  have hkn := known7_any (w.alloc (.cells CS 26))
  have hd0 := hd.now hb0
  have hsz : (Try.prog.info? 26).map (·.size) = some CS.size := by rw [e2]; kernel_rfl
  have hqsz : ∀ u, (Try.prog.info? 26).map (·.size) = some (CQ.setIfInBounds 26 u).size := fun u => by rw [Array.size_setIfInBounds, q2]; kernel_rfl
  have hqzz : ∀ u, (#[Value.int .i64 0, .bool false, .int .i64 0, .int .i64 0, .int .u32 0, .int .u32 0, .int .u32 0, .int .u32 0, .int .u32 0, .int .u32 0, .int .u8 0, .int .u8 0, .int .u8 0, .int .u8 0, .int .u8 0, .int .u8 0, .int .u8 0, .int .u8 0, .int .u8 0, .int .u8 0, .int .u8 0, .int .u8 0, .int .u8 0, .int .u8 0, .int .u8 0, .int .u8 0, .slice none 0 0] : Array Value).size = (CQ.setIfInBounds 26 u).size := fun u => by rw [Array.size_setIfInBounds, q2]; rfl
  generalize hw0 : w.alloc (.cells CS 26) = w0 at *
  have HW := Lib.hid hw0
  have d1 : decide ((1500 : Int) < (l.length : Int)) = false := decide_eq_false (by omega)
  have hlen := encB_len p l h
  have hpad := padN4 l.length
  obtain ⟨EL, hEL⟩ : ∃ EL, EL = (encB p l).length := ⟨_, rfl⟩
  have hEL2 : EL ≤ 1600 := by rw [hEL, hlen]; split <;> omega
  have hEL1 : 52 ≤ EL := by rw [hEL, hlen]; omega
  have h52 : decide ((52 : Int) < (EL : Int)) = true := decide_eq_true (by rw [hEL, hlen, if_neg h0]; omega)
  have hbt : (((B : Int) % 2) == 0) = true := by rw [beq_iff_eq]; omega
  have HEL := Lib.hid hEL
  have hgood : ∀ L, L = encB p l → ∀ W v, Sl W W.heap.size v EL (bs L) → Calls Try.prog 7 #[v] W fun e w' => ∃ v2, e = .returned (.tuple #[.agg (CQ.setIfInBounds 26 v2), .int .i64 (EL : Nat), .int .i64 0]) ∧ (CQ.setIfInBounds 26 v2).all (·.oneCell') = true ∧ Sl w' w'.heap.size v2 l.length (bs l) ∧ Below W.heap.size W w' := by
    rintro L rfl W v hW
    refine (dec_enc p h hk l (by omega) v W (by rw [← HEL.out]; exact hW)).mono ?_
    rintro e w' ⟨v2, rfl, hs, hb, _⟩
    exact ⟨v2, by rw [q4, HEL.out], all_set q3 26 _ (one_slice hs), hs, hb⟩
  have hbad : ∀ (L : List UInt8) (q D : Nat), (D ≤ 416 ∧ ∃ k, q < 2 ^ k ∧ (k = 0 ∨ D + k ≤ 416)) → q ≠ 0 → L.length = EL → leV L = leV (encB p l) ^^^ q * 2 ^ D → q < 4294967296 → ∀ W v, Sl W W.heap.size v EL (bs L) → Calls Try.prog 7 #[v] W fun e w' => e = .returned (.tuple #[.agg #[Value.int .i64 0, .bool false, .int .i64 0, .int .i64 0, .int .u32 0, .int .u32 0, .int .u32 0, .int .u32 0, .int .u32 0, .int .u32 0, .int .u8 0, .int .u8 0, .int .u8 0, .int .u8 0, .int .u8 0, .int .u8 0, .int .u8 0, .int .u8 0, .int .u8 0, .int .u8 0, .int .u8 0, .int .u8 0, .int .u8 0, .int .u8 0, .int .u8 0, .int .u8 0, .slice none 0 0], .int .i64 0, .int .i64 4]) ∧ Below W.heap.size W w' := by
    intro L q D hD hq hL hv hq32 W v hW
    obtain ⟨N, hN⟩ : ∃ N, N = 52 := ⟨_, rfl⟩
    have hX : q * 2 ^ D < 2 ^ (8 * N) := by
      obtain ⟨k, hk1, hk2⟩ := hD.2
      exact low_bound hk1 (hk2.imp id (by omega))
    refine (dec_head_bad v L (by omega) (by omega) (flipF p h l L q D N hN (by rw [hL, HEL.out]) hv hq32 hX hD.1 hq) W (by rw [hL]; exact hW))
  have HBAD := Lib.hid hbad
  have HSAME := Lib.hid hsame
  have HGOOD := Lib.hid hgood
  rw [← hEL] at hen
  clear e1 e1' hw0 hlen hpad hEL hd q1 q2 q3 hbad hsame hgood
  simp only [q4] at HSAME
  clear q4
  go_enter Try.func3, Try.ntmps3
  go_wp2_with (first
    | (go_at_call 5; rw [HW.out]; refine hkn.mono ?_; rintro e w1 ⟨rfl, hb1⟩; have hm1 := hm0.below hb1 hlt; have x26 := (hm1.cell 26).trans e3; have hb2 := hb0.trans (hb1.mono hb0.size); have hd1 := hd0.now hb1)
    | (refine wpList_load_row rfl 26 (.tmp 3) rfl w.heap.size rfl 26 CS (0, 0) _ hm1 Try.underlying26 rfl hsz ?_)
    | (go_at_call 6; refine (hen _ hd1).mono ?_; rintro e w2 ⟨v2, rfl, hs2, hb3⟩; obtain ⟨Ab, cb, rfl, hcb1, hcb2⟩ := hs2.form; unfold maxLen at hcb2; have hm2 := hm1.below hb3 (Nat.lt_of_lt_of_le hlt hb1.size); have hd2 := hd1.now hb3; have hb4 := hb2.trans (hb3.mono hb2.size); obtain ⟨hown0, hs2x, hb5⟩ := empty_row w2 _ _ _ hs2)
    | (at_builtin; refine wpList_append_sl _ rfl (.tmp 50) (.tmp 51) _ rfl w2.heap.size 5 i0 _ Try.underlying24 hi hz0 hz1 (by omega) rfl (.slice (some ⟨w2.heap.size, 0, none⟩) 0 0) 0 [] rfl hown0 _ _ EL (bs (encB p l)) rfl hs2x bs_one (by show 0 + EL ≤ _; omega) (by simp) ?_; intro v3 w3 hown3 hg3 hat3; have hb6 := below_own hb5 hg3 (by simp) (by simp [Value.ownBlock]); have hown := ownsRow_len hown3 (Nat.zero_add EL) (List.nil_append _); obtain ⟨g, cap, rfl, hgg1, hgg2⟩ := hown.form (by omega)))
  have hD0 : B / 2 % 416 < 416 := Nat.mod_lt _ (by omega)
  have hD : (B : Int) / 2 % 416 = ((B / 2 % 416 : Nat) : Int) := by simp
  generalize B / 2 % 416 = D at *
  simp only [hD]
  have hEB : (encB p l).length = EL := HEL.out.symm
  clear hD x26 hs2 hs2x hown0 hown3 hg3 hat3 hen hkn hm1 hb5 hd1
  generalize hE : encB p l = E at *
  clear hE
  go_loopw [12, 15] (fun tn i wr => ∃ (k : Nat) (L : List UInt8), k ≤ 32 ∧ L.length = EL ∧ i = .int .i64 k ∧ tn = .bool (decide (P % 2 ^ k ≠ 0)) ∧ leV L = leV E ^^^ (P % 2 ^ k) * 2 ^ D ∧ wr.ownsRow w2.heap.size 5 1 (.slice (some ⟨g, 0, none⟩) EL cap) EL (bs L) ∧ Below w2.heap.size w2 wr ∧ (k = 0 ∨ D + k ≤ 416)) (fun _ i _ => 32 - (intOf i).toNat)
  case atStart => exact ⟨0, E, by omega, hEB, rfl, by simp [Nat.mod_one], by simp [Nat.mod_one], hown, hb6, .inl rfl⟩
  case round =>
    obtain ⟨k, L, hk32, hL, rfl, rfl, hlv, hown3, hb7, hkD⟩ := hrel
    by_cases hlt : k < 32 ∧ D + k < 416
    · obtain ⟨h32, hDk⟩ := hlt
      have hj : (D + k) / 8 < L.length := by omega
      have hPk : (P / 2 ^ k) < 4294967296 := Nat.lt_of_le_of_lt (Nat.div_le_self _ _) hP
      have hand : bits BinOp.and IntKind.u32 ((P : Int) / 2 ^ k) 1 = ((P / 2 ^ k % 2 : Nat) : Int) := by
        have h := u32_and_nat (P / 2 ^ k) 1 hPk (by omega)
        rw [nat_mask1] at h
        rw [← h]; simp
      rcases Nat.mod_two_eq_zero_or_one (P / 2 ^ k) with hp | hp
      · rw [hp] at hand
        have hm := mod_next0 P k hp
        have HM := Lib.hid hm
        have HLV := Lib.hid hlv
        clear hm hp hlv
        go_wp2
        refine ⟨⟨k + 1, L, by omega, hL, by go_num, by rw [HM.out]; simp, by rw [HM.out]; exact HLV.out, hown3, hb7, .inr (by omega)⟩, by simp [intOf]; omega⟩
      · have hp0 := hp
        rw [hp] at hand
        have hm := mod_next1 P k hp
        have HM := Lib.hid hm
        have HLV := Lib.hid hlv
        have hset := leV_set L (D + k) hj
        have HS := Lib.hid hset
        have hcl : wr.cell? ⟨g, (D + k) / 8, none⟩ = some (.int .u8 ((L[(D + k) / 8]).toNat : Int)) := by
          rw [hown3.cellAt _ (by omega)]; exact bs_get hj
        have hfz := hown3.frozenAt ((D + k) / 8)
        have hst := hown3.stored ((D + k) / 8)
        have HST := Lib.hid hst
        have hxl := (L[(D + k) / 8]).toNat_lt
        have hk8 : (D + k) % 8 < 8 := Nat.mod_lt _ (by omega)
        clear hm hp hlv hset hst
        have hpos : decide (P % 2 ^ (k + 1) ≠ 0) = true := decide_eq_true (mod_pos1 P k hp0)
        have HP := Lib.hid hpos
        clear hpos hp0
        go_wp2
        refine ⟨⟨k + 1, L.set ((D + k) / 8) (L[(D + k) / 8] ^^^ UInt8.ofNat (2 ^ ((D + k) % 8))), by omega, by simp [hL], by go_num, by rw [HP.out], ?_, ?_, hb7.setCell (by simpa using hgg1) _, .inr (by omega)⟩, by simp [intOf]; omega⟩
        · rw [HS.out, HLV.out, HM.out, xor_mul, ← Nat.pow_add, Nat.add_comm k D, Nat.xor_assoc]
        · rw [xor_val _ hk8, ← bs_set]
          exact (HST.out _).1
    · have hpl : P % 2 ^ k < 4294967296 := Nat.lt_of_le_of_lt (Nat.mod_le _ _) hP
      have hsL : Sl wr wr.heap.size (.slice (some ⟨g, 0, none⟩) EL cap) EL (bs L) := Sl.of_own hown3
      have hdw := hd2.now hb7
      have hmw := hm2.below hb7 hm2.lt
      have hbw := hb4.trans (hb7.mono hb4.size)
      by_cases hz : P % 2 ^ k = 0
      · have hLE := flip0 E L (P % 2 ^ k) D (by rw [hL, hEB]) hlv hz
        have hdec := HGOOD.out L hLE wr (.slice (some ⟨g, 0, none⟩) EL cap) hsL
        rw [hz]
        have HDEC := Lib.hid hdec
        clear hdec hlv hz hLE
        go_wp2_with (first
          | (go_at_call 7; refine HDEC.out.mono ?_; rintro e w4 ⟨v4, rfl, hone, hs4, hb8⟩; have hm4 := hmw.below hb8 hmw.lt; have hd4 := hdw.now hb8; have hbw4 := hbw.trans (hb8.mono hbw.size))
          | (refine wpList_store_row rfl 26 (.tmp 16) (.tmp 101) rfl w4.heap.size (CQ.setIfInBounds 26 v4) rfl rfl 26 #[Value.int .i64 0, .bool false, .int .i64 0, .int .i64 0, .int .u32 0, .int .u32 0, .int .u32 0, .int .u32 0, .int .u32 0, .int .u32 0, .int .u8 0, .int .u8 0, .int .u8 0, .int .u8 0, .int .u8 0, .int .u8 0, .int .u8 0, .int .u8 0, .int .u8 0, .int .u8 0, .int .u8 0, .int .u8 0, .int .u8 0, .int .u8 0, .int .u8 0, .int .u8 0, .slice none 0 0] (Mem.new w4 _ _) (hqsz _) (hqzz _) hone ?_; have hb9 := below_setRow ((Below.refl w4.heap.size w4).alloc (Nat.le_refl _) (.cells #[Value.int .i64 0, .bool false, .int .i64 0, .int .i64 0, .int .u32 0, .int .u32 0, .int .u32 0, .int .u32 0, .int .u32 0, .int .u32 0, .int .u8 0, .int .u8 0, .int .u8 0, .int .u8 0, .int .u8 0, .int .u8 0, .int .u8 0, .int .u8 0, .int .u8 0, .int .u8 0, .int .u8 0, .int .u8 0, .int .u8 0, .int .u8 0, .int .u8 0, .int .u8 0, .slice none 0 0] 26)) (Nat.le_refl _) (CQ.setIfInBounds 26 v4); have hmq := (Mem.new w4 26 #[Value.int .i64 0, .bool false, .int .i64 0, .int .i64 0, .int .u32 0, .int .u32 0, .int .u32 0, .int .u32 0, .int .u32 0, .int .u32 0, .int .u8 0, .int .u8 0, .int .u8 0, .int .u8 0, .int .u8 0, .int .u8 0, .int .u8 0, .int .u8 0, .int .u8 0, .int .u8 0, .int .u8 0, .int .u8 0, .int .u8 0, .int .u8 0, .int .u8 0, .int .u8 0, .slice none 0 0]).row (CQ.setIfInBounds 26 v4); generalize (w4.alloc (.cells #[Value.int .i64 0, .bool false, .int .i64 0, .int .i64 0, .int .u32 0, .int .u32 0, .int .u32 0, .int .u32 0, .int .u32 0, .int .u32 0, .int .u8 0, .int .u8 0, .int .u8 0, .int .u8 0, .int .u8 0, .int .u8 0, .int .u8 0, .int .u8 0, .int .u8 0, .int .u8 0, .int .u8 0, .int .u8 0, .int .u8 0, .int .u8 0, .int .u8 0, .int .u8 0, .slice none 0 0] 26)).setRow w4.heap.size (CQ.setIfInBounds 26 v4) = w5 at *; have hm5 := hm4.below hb9 hm4.lt; have hd5 := hd4.now hb9; have hs5 := hs4.now hb9; have hbw5 := hbw4.trans (hb9.mono hbw4.size)))
        all_goals
          try simp only [Act.put]
          have hB5 := hbw5
          apply calm_tail 8 [.is _, .is _, .is _, .is _, .is _, .is _, .is _, .is _] [[], [0], [1], [2], [2], [4, 2, 2], [3, 5, 5, 2], [2, 6]] (by kernel_rfl) (by kernel_rfl) (by kernel_rfl) rfl
          intro f a1 ha1
          simp only [List.take_succ_cons, List.take_zero, putL, Act.put, List.setIfInBounds_toArray, List.set_cons_succ, List.set_cons_zero] at ha1
          subst ha1
          refine ⟨?_, ?_⟩
          · refine AllCalm.cons (fun W hB hd => ?_) ?_
            · go_wp2_with (fail)
              exact CalmQ.mk rfl _ rfl (Below.refl _ _) rfl
            refine AllCalm.cons (fun W hB hd => ?_) ?_
            · obtain ⟨h0, -⟩ := hd
              have h0 : f 0 = _ := h0
              rw [h0]
              go_wp2_with (fail)
              exact CalmQ.mk rfl _ rfl (Below.refl _ _) rfl
            refine AllCalm.cons (fun W hB hd => ?_) ?_
            · obtain ⟨h1, -⟩ := hd
              have h1 : f 1 = _ := h1
              rw [h1]
              go_wp2_with (fail)
              exact CalmQ.mk rfl _ rfl (Below.refl _ _) rfl
            refine AllCalm.cons (fun W hB hd => ?_) ?_
            · obtain ⟨h2, -⟩ := hd
              have h2 : f 2 = _ := h2
              rw [h2]
              go_wp2_with ((refine wpList_load_rowG rfl 26 (.tmp 16) rfl w4.heap.size rfl 26 (CQ.setIfInBounds 26 v4) (0, 0) _ (hmq.below hB hmq.lt) Try.underlying26 rfl (hqsz _) ?_))
              exact CalmQ.mk rfl _ rfl (Below.refl _ _) rfl
            refine AllCalm.cons (fun W hB hd => ?_) ?_
            · obtain ⟨h2, -⟩ := hd
              have h2 : f 2 = _ := h2
              rw [h2]
              go_wp2_with ((refine wpList_load_rowG rfl 26 (.tmp 3) rfl w.heap.size rfl 26 CS (0, 0) _ (hm5.below hB hm5.lt) Try.underlying26 rfl hsz ?_))
              exact CalmQ.mk rfl _ rfl (Below.refl _ _) rfl
            refine AllCalm.cons (fun W hB hd => ?_) ?_
            · obtain ⟨h4, h2, -, -⟩ := hd
              have h4 : f 4 = _ := h4
              have h2 : f 2 = _ := h2
              rw [h4, h2]
              go_wp2_with ((go_at_call 9; with_reducible refine (hof W).mono ?_; rintro e w6 ⟨rfl, hb10⟩))
              exact CalmQ.mk rfl _ rfl hb10 rfl
            refine AllCalm.cons (fun W hB hd => ?_) ?_
            · obtain ⟨h3, h5, -, h2, -⟩ := hd
              have h3 : f 3 = _ := h3
              have h5 : f 5 = _ := h5
              have h2 : f 2 = _ := h2
              rw [h3, h5, h2]
              go_wp2_with ((go_at_call 8; with_reducible refine (HSAME.out v4 W (hs5.now hB) (hd5.now hB)).mono ?_; rintro e w6 ⟨rfl, hb10⟩))
              exact CalmQ.mk rfl _ rfl hb10 rfl
            refine AllCalm.cons (fun W hB hd => ?_) ?_
            · obtain ⟨h2, h6, -⟩ := hd
              have h2 : f 2 = _ := h2
              have h6 : f 6 = _ := h6
              rw [h2, h6]
              go_wp2_with (fail)
              exact CalmQ.mk rfl _ rfl (Below.refl _ _) rfl
            exact AllCalm.nil
          · intro W hB hT
            obtain ⟨h0, h1, h2, h3, h4, h5, h6, h7, -⟩ := hT
            have h0 : f 0 = _ := h0
            have h1 : f 1 = _ := h1
            have h2 : f 2 = _ := h2
            have h3 : f 3 = _ := h3
            have h4 : f 4 = _ := h4
            have h5 : f 5 = _ := h5
            have h6 : f 6 = _ := h6
            have h7 : f 7 = _ := h7
            rw [h0, h1, h2, h3, h4, h5, h6, h7]
            clear h0 h1 h2 h3 h4 h5 h6 h7
            simp only [List.drop_succ_cons, List.drop_zero]
            go_wp2_with fail
            go_ret
            exact ⟨rfl, hB5.trans (hB.mono hB5.size)⟩
      · have hdec := HBAD.out L (P % 2 ^ k) D (⟨by omega, k, Nat.mod_lt _ (Nat.two_pow_pos k), hkD⟩) hz hL hlv hpl wr (.slice (some ⟨g, 0, none⟩) EL cap) hsL
        have hdd : decide (P % 2 ^ k ≠ 0) = true := decide_eq_true hz
        rw [hdd]
        have HDEC := Lib.hid hdec
        clear hdec hlv hz hdd
        go_wp2_with (first
          | (go_at_call 7; refine HDEC.out.mono ?_; rintro e w4 ⟨rfl, hb8⟩; have hbw4 := hbw.trans (hb8.mono hbw.size))
          | (refine wpList_store_row rfl 26 (.tmp 16) (.tmp 101) rfl w4.heap.size #[Value.int .i64 0, .bool false, .int .i64 0, .int .i64 0, .int .u32 0, .int .u32 0, .int .u32 0, .int .u32 0, .int .u32 0, .int .u32 0, .int .u8 0, .int .u8 0, .int .u8 0, .int .u8 0, .int .u8 0, .int .u8 0, .int .u8 0, .int .u8 0, .int .u8 0, .int .u8 0, .int .u8 0, .int .u8 0, .int .u8 0, .int .u8 0, .int .u8 0, .int .u8 0, .slice none 0 0] rfl rfl 26 #[Value.int .i64 0, .bool false, .int .i64 0, .int .i64 0, .int .u32 0, .int .u32 0, .int .u32 0, .int .u32 0, .int .u32 0, .int .u32 0, .int .u8 0, .int .u8 0, .int .u8 0, .int .u8 0, .int .u8 0, .int .u8 0, .int .u8 0, .int .u8 0, .int .u8 0, .int .u8 0, .int .u8 0, .int .u8 0, .int .u8 0, .int .u8 0, .int .u8 0, .int .u8 0, .slice none 0 0] (Mem.new w4 _ _) (by kernel_rfl) (by kernel_rfl) (by kernel_rfl) ?_; have hb9 := below_setRow ((Below.refl w4.heap.size w4).alloc (Nat.le_refl _) (.cells #[Value.int .i64 0, .bool false, .int .i64 0, .int .i64 0, .int .u32 0, .int .u32 0, .int .u32 0, .int .u32 0, .int .u32 0, .int .u32 0, .int .u8 0, .int .u8 0, .int .u8 0, .int .u8 0, .int .u8 0, .int .u8 0, .int .u8 0, .int .u8 0, .int .u8 0, .int .u8 0, .int .u8 0, .int .u8 0, .int .u8 0, .int .u8 0, .int .u8 0, .int .u8 0, .slice none 0 0] 26)) (Nat.le_refl _) #[Value.int .i64 0, .bool false, .int .i64 0, .int .i64 0, .int .u32 0, .int .u32 0, .int .u32 0, .int .u32 0, .int .u32 0, .int .u32 0, .int .u8 0, .int .u8 0, .int .u8 0, .int .u8 0, .int .u8 0, .int .u8 0, .int .u8 0, .int .u8 0, .int .u8 0, .int .u8 0, .int .u8 0, .int .u8 0, .int .u8 0, .int .u8 0, .int .u8 0, .int .u8 0, .slice none 0 0]; have hmq := (Mem.new w4 26 #[Value.int .i64 0, .bool false, .int .i64 0, .int .i64 0, .int .u32 0, .int .u32 0, .int .u32 0, .int .u32 0, .int .u32 0, .int .u32 0, .int .u8 0, .int .u8 0, .int .u8 0, .int .u8 0, .int .u8 0, .int .u8 0, .int .u8 0, .int .u8 0, .int .u8 0, .int .u8 0, .int .u8 0, .int .u8 0, .int .u8 0, .int .u8 0, .int .u8 0, .int .u8 0, .slice none 0 0]).row #[Value.int .i64 0, .bool false, .int .i64 0, .int .i64 0, .int .u32 0, .int .u32 0, .int .u32 0, .int .u32 0, .int .u32 0, .int .u32 0, .int .u8 0, .int .u8 0, .int .u8 0, .int .u8 0, .int .u8 0, .int .u8 0, .int .u8 0, .int .u8 0, .int .u8 0, .int .u8 0, .int .u8 0, .int .u8 0, .int .u8 0, .int .u8 0, .int .u8 0, .int .u8 0, .slice none 0 0]; generalize (w4.alloc (.cells #[Value.int .i64 0, .bool false, .int .i64 0, .int .i64 0, .int .u32 0, .int .u32 0, .int .u32 0, .int .u32 0, .int .u32 0, .int .u32 0, .int .u8 0, .int .u8 0, .int .u8 0, .int .u8 0, .int .u8 0, .int .u8 0, .int .u8 0, .int .u8 0, .int .u8 0, .int .u8 0, .int .u8 0, .int .u8 0, .int .u8 0, .int .u8 0, .int .u8 0, .int .u8 0, .slice none 0 0] 26)).setRow w4.heap.size #[Value.int .i64 0, .bool false, .int .i64 0, .int .i64 0, .int .u32 0, .int .u32 0, .int .u32 0, .int .u32 0, .int .u32 0, .int .u32 0, .int .u8 0, .int .u8 0, .int .u8 0, .int .u8 0, .int .u8 0, .int .u8 0, .int .u8 0, .int .u8 0, .int .u8 0, .int .u8 0, .int .u8 0, .int .u8 0, .int .u8 0, .int .u8 0, .int .u8 0, .int .u8 0, .slice none 0 0] = w5 at *; have hbw5 := hbw4.trans (hb9.mono hbw4.size))
          | (refine wpList_load_rowG rfl 26 (.tmp 16) rfl w4.heap.size rfl 26 #[Value.int .i64 0, .bool false, .int .i64 0, .int .i64 0, .int .u32 0, .int .u32 0, .int .u32 0, .int .u32 0, .int .u32 0, .int .u32 0, .int .u8 0, .int .u8 0, .int .u8 0, .int .u8 0, .int .u8 0, .int .u8 0, .int .u8 0, .int .u8 0, .int .u8 0, .int .u8 0, .int .u8 0, .int .u8 0, .int .u8 0, .int .u8 0, .int .u8 0, .int .u8 0, .slice none 0 0] (0, 0) _ hmq Try.underlying26 rfl (by kernel_rfl) ?_)
          | (go_at_call 8; with_reducible refine (zp_same _).mono ?_; rintro e w6 ⟨rfl, hb10⟩))
        all_goals go_ret
        all_goals exact ⟨rfl, hbw5.trans (hb10.mono hbw5.size)⟩
set_option maxRecDepth 100000 in
set_option maxHeartbeats 4000000 in
theorem walkD (p : Pdh) (h : p.Fit) (hk : pknown (p.op : Nat) = true) (l : List UInt8) (hl : l.length ≤ 1500) (A : Option Addr) (c : Nat) (B P : Nat) (w : World) (hd : Sl w w.heap.size (.slice A l.length c) l.length (bs l)) (hB : B ≤ 9223372036854775807) (hP : P < 4294967296) (h0 : l.length ≠ 0) (hev : B % 2 = 1) :
    Calls Try.prog 3 #[p.v (.slice A l.length c), .int .i64 B, .int .u32 P] w fun e w' => e = .returned (.bool true) ∧ Below w.heap.size w w' := by
  obtain ⟨i0, hi, hz0, hz1, hz2⟩ := info_parts info_u8
  have hen := fun W hW => enc_ok p h hk (.slice A l.length c) l W hW (by omega)
  obtain ⟨CS, e1, e2, e3⟩ := pdv_cells p.op p.fl p.st p.fin p.tag p.sn p.ex p.mx p.off p.len p.cdb (.slice A l.length c) h.cdb
  obtain ⟨CQ, q1, q2, q3, q4⟩ := pdv p .nilFunc h.cdb
  have e1' : p.v (.slice A l.length c) = .agg CS := e1
  have hof := fun W => of_any p h.cdb A l.length c W
  have hsame := fun d1 W => same_true p h.cdb d1 (.slice A l.length c) l W
  rw [e1'] at hen hof hsame ⊢
  have hm0 := Mem.new w 26 CS
  have hb0 : Below w.heap.size w (w.alloc (.cells CS 26)) := (Below.refl _ _).alloc (Nat.le_refl _) _
  have hlt := hm0.lt
  have hkn := known7_any (w.alloc (.cells CS 26))
  have hd0 := hd.now hb0
  have hsz : (Try.prog.info? 26).map (·.size) = some CS.size := by rw [e2]; kernel_rfl
  have hqsz : ∀ u, (Try.prog.info? 26).map (·.size) = some (CQ.setIfInBounds 26 u).size := fun u => by rw [Array.size_setIfInBounds, q2]; kernel_rfl
  have hqzz : ∀ u, (#[Value.int .i64 0, .bool false, .int .i64 0, .int .i64 0, .int .u32 0, .int .u32 0, .int .u32 0, .int .u32 0, .int .u32 0, .int .u32 0, .int .u8 0, .int .u8 0, .int .u8 0, .int .u8 0, .int .u8 0, .int .u8 0, .int .u8 0, .int .u8 0, .int .u8 0, .int .u8 0, .int .u8 0, .int .u8 0, .int .u8 0, .int .u8 0, .int .u8 0, .int .u8 0, .slice none 0 0] : Array Value).size = (CQ.setIfInBounds 26 u).size := fun u => by rw [Array.size_setIfInBounds, q2]; rfl
  generalize hw0 : w.alloc (.cells CS 26) = w0 at *
  have HW := Lib.hid hw0
  have d1 : decide ((1500 : Int) < (l.length : Int)) = false := decide_eq_false (by omega)
  have hlen := encB_len p l h
  have hpad := padN4 l.length
  obtain ⟨EL, hEL⟩ : ∃ EL, EL = (encB p l).length := ⟨_, rfl⟩
  have hEL2 : EL ≤ 1600 := by rw [hEL, hlen]; split <;> omega
  have hEL1 : 52 ≤ EL := by rw [hEL, hlen]; omega
  have h52 : decide ((52 : Int) < (EL : Int)) = true := decide_eq_true (by rw [hEL, hlen, if_neg h0]; omega)
  have hbt : (((B : Int) % 2) == 0) = false := by rw [beq_eq_false_iff_ne]; omega
  have h53 : 52 < EL := by rw [hEL, hlen, if_neg h0]; omega
  have HEL := Lib.hid hEL
  have hgood : ∀ L, L = encB p l → ∀ W v, Sl W W.heap.size v EL (bs L) → Calls Try.prog 7 #[v] W fun e w' => ∃ v2, e = .returned (.tuple #[.agg (CQ.setIfInBounds 26 v2), .int .i64 (EL : Nat), .int .i64 0]) ∧ (CQ.setIfInBounds 26 v2).all (·.oneCell') = true ∧ Sl w' w'.heap.size v2 l.length (bs l) ∧ Below W.heap.size W w' := by
    rintro L rfl W v hW
    refine (dec_enc p h hk l (by omega) v W (by rw [← HEL.out]; exact hW)).mono ?_
    rintro e w' ⟨v2, rfl, hs, hb, _⟩
    exact ⟨v2, by rw [q4, HEL.out], all_set q3 26 _ (one_slice hs), hs, hb⟩
  have hbad : ∀ (L : List UInt8) (q D : Nat), 416 ≤ D ∧ D ≤ 8 * EL → q ≠ 0 → L.length = EL → leV L = leV (encB p l) ^^^ q * 2 ^ D → q < 4294967296 → ∀ W v, Sl W W.heap.size v EL (bs L) → Calls Try.prog 7 #[v] W fun e w' => e = .returned (.tuple #[.agg #[Value.int .i64 0, .bool false, .int .i64 0, .int .i64 0, .int .u32 0, .int .u32 0, .int .u32 0, .int .u32 0, .int .u32 0, .int .u32 0, .int .u8 0, .int .u8 0, .int .u8 0, .int .u8 0, .int .u8 0, .int .u8 0, .int .u8 0, .int .u8 0, .int .u8 0, .int .u8 0, .int .u8 0, .int .u8 0, .int .u8 0, .int .u8 0, .int .u8 0, .int .u8 0, .slice none 0 0], .int .i64 0, .int .i64 4]) ∧ Below W.heap.size W w' := by
    intro L q D hD hq hL hv hq32 W v hW
    obtain ⟨N, hN⟩ : ∃ N, N = 52 := ⟨_, rfl⟩
    have e : D = 8 * N + (D - 416) := by omega
    rw [e] at hv
    obtain ⟨f1, f2⟩ := flipD p h l L q (D - 416) N hN h0 (by rw [hL, HEL.out]) hv hq32 (by rw [← HEL.out]; omega) hq
    exact dec_data_bad p h hk l (by omega) h0 v L (by rw [hL, HEL.out]) f1 f2 W (by rw [hL]; exact hW)
  have HBAD := Lib.hid hbad
  have HSAME := Lib.hid hsame
  have HGOOD := Lib.hid hgood
  rw [← hEL] at hen
  clear e1 e1' hw0 hlen hpad hEL hd q1 q2 q3 hbad hsame hgood
  simp only [q4] at HSAME
  clear q4
  go_enter Try.func3, Try.ntmps3
  go_wp2_with (first
    | (go_at_call 5; rw [HW.out]; refine hkn.mono ?_; rintro e w1 ⟨rfl, hb1⟩; have hm1 := hm0.below hb1 hlt; have x26 := (hm1.cell 26).trans e3; have hb2 := hb0.trans (hb1.mono hb0.size); have hd1 := hd0.now hb1)
    | (refine wpList_load_row rfl 26 (.tmp 3) rfl w.heap.size rfl 26 CS (0, 0) _ hm1 Try.underlying26 rfl hsz ?_)
    | (go_at_call 6; refine (hen _ hd1).mono ?_; rintro e w2 ⟨v2, rfl, hs2, hb3⟩; obtain ⟨Ab, cb, rfl, hcb1, hcb2⟩ := hs2.form; unfold maxLen at hcb2; have hm2 := hm1.below hb3 (Nat.lt_of_lt_of_le hlt hb1.size); have hd2 := hd1.now hb3; have hb4 := hb2.trans (hb3.mono hb2.size); obtain ⟨hown0, hs2x, hb5⟩ := empty_row w2 _ _ _ hs2)
    | (at_builtin; refine wpList_append_sl _ rfl (.tmp 50) (.tmp 51) _ rfl w2.heap.size 5 i0 _ Try.underlying24 hi hz0 hz1 (by omega) rfl (.slice (some ⟨w2.heap.size, 0, none⟩) 0 0) 0 [] rfl hown0 _ _ EL (bs (encB p l)) rfl hs2x bs_one (by show 0 + EL ≤ _; omega) (by simp) ?_; intro v3 w3 hown3 hg3 hat3; have hb6 := below_own hb5 hg3 (by simp) (by simp [Value.ownBlock]); have hown := ownsRow_len hown3 (Nat.zero_add EL) (List.nil_append _); obtain ⟨g, cap, rfl, hgg1, hgg2⟩ := hown.form (by omega)))
  have hD0 : 416 + B / 2 % (8 * EL - 416) < 8 * EL := by
    have := Nat.mod_lt (B / 2) (show 0 < 8 * EL - 416 by omega)
    omega
  have hD1 : 416 ≤ 416 + B / 2 % (8 * EL - 416) := by omega
  have hm : 8 * (EL : Int) - 416 = ((8 * EL - 416 : Nat) : Int) := by omega
  have hD : wrap64 (416 + (B : Int) / 2 % (8 * (EL : Int) - 416)) = ((416 + B / 2 % (8 * EL - 416) : Nat) : Int) := by
    have e1 : 416 + (B : Int) / 2 % (8 * (EL : Int) - 416) = ((416 + B / 2 % (8 * EL - 416) : Nat) : Int) := by rw [hm]; simp
    rw [e1]
    have hb : 0 ≤ ((416 + B / 2 % (8 * EL - 416) : Nat) : Int) ∧ ((416 + B / 2 % (8 * EL - 416) : Nat) : Int) < 12800 := by omega
    generalize ((416 + B / 2 % (8 * EL - 416) : Nat) : Int) = z at *
    exact IntWalk.wrap64_in z ⟨by omega, by omega⟩
  clear hm
  generalize 416 + B / 2 % (8 * EL - 416) = D at *
  simp only [hD]
  have hEB : (encB p l).length = EL := HEL.out.symm
  clear hD x26 hs2 hs2x hown0 hown3 hg3 hat3 hen hkn hm1 hb5 hd1
  generalize hE : encB p l = E at *
  clear hE
  go_loopw [12, 15] (fun tn i wr => ∃ (k : Nat) (L : List UInt8), k ≤ 32 ∧ L.length = EL ∧ i = .int .i64 k ∧ tn = .bool (decide (P % 2 ^ k ≠ 0)) ∧ leV L = leV E ^^^ (P % 2 ^ k) * 2 ^ D ∧ wr.ownsRow w2.heap.size 5 1 (.slice (some ⟨g, 0, none⟩) EL cap) EL (bs L) ∧ Below w2.heap.size w2 wr ∧ (k = 0 ∨ D + k ≤ 8 * EL)) (fun _ i _ => 32 - (intOf i).toNat)
  case atStart => exact ⟨0, E, by omega, hEB, rfl, by simp [Nat.mod_one], by simp [Nat.mod_one], hown, hb6, .inl rfl⟩
  case round =>
    obtain ⟨k, L, hk32, hL, rfl, rfl, hlv, hown3, hb7, hkD⟩ := hrel
    by_cases hlt : k < 32 ∧ D + k < 8 * EL
    · obtain ⟨h32, hDk⟩ := hlt
      have hj : (D + k) / 8 < L.length := by omega
      have hPk : (P / 2 ^ k) < 4294967296 := Nat.lt_of_le_of_lt (Nat.div_le_self _ _) hP
      have hand : bits BinOp.and IntKind.u32 ((P : Int) / 2 ^ k) 1 = ((P / 2 ^ k % 2 : Nat) : Int) := by
        have h := u32_and_nat (P / 2 ^ k) 1 hPk (by omega)
        rw [nat_mask1] at h
        rw [← h]; simp
      rcases Nat.mod_two_eq_zero_or_one (P / 2 ^ k) with hp | hp
      · rw [hp] at hand
        have hm := mod_next0 P k hp
        have HM := Lib.hid hm
        have HLV := Lib.hid hlv
        clear hm hp hlv
        go_wp2
        refine ⟨⟨k + 1, L, by omega, hL, by go_num, by rw [HM.out]; simp, by rw [HM.out]; exact HLV.out, hown3, hb7, .inr (by omega)⟩, by simp [intOf]; omega⟩
      · have hp0 := hp
        rw [hp] at hand
        have hm := mod_next1 P k hp
        have HM := Lib.hid hm
        have HLV := Lib.hid hlv
        have hset := leV_set L (D + k) hj
        have HS := Lib.hid hset
        have hcl : wr.cell? ⟨g, (D + k) / 8, none⟩ = some (.int .u8 ((L[(D + k) / 8]).toNat : Int)) := by
          rw [hown3.cellAt _ (by omega)]; exact bs_get hj
        have hfz := hown3.frozenAt ((D + k) / 8)
        have hst := hown3.stored ((D + k) / 8)
        have HST := Lib.hid hst
        have hxl := (L[(D + k) / 8]).toNat_lt
        have hk8 : (D + k) % 8 < 8 := Nat.mod_lt _ (by omega)
        clear hm hp hlv hset hst
        have hpos : decide (P % 2 ^ (k + 1) ≠ 0) = true := decide_eq_true (mod_pos1 P k hp0)
        have HP := Lib.hid hpos
        clear hpos hp0
        go_wp2
        refine ⟨⟨k + 1, L.set ((D + k) / 8) (L[(D + k) / 8] ^^^ UInt8.ofNat (2 ^ ((D + k) % 8))), by omega, by simp [hL], by go_num, by rw [HP.out], ?_, ?_, hb7.setCell (by simpa using hgg1) _, .inr (by omega)⟩, by simp [intOf]; omega⟩
        · rw [HS.out, HLV.out, HM.out, xor_mul, ← Nat.pow_add, Nat.add_comm k D, Nat.xor_assoc]
        · rw [xor_val _ hk8, ← bs_set]
          exact (HST.out _).1
    · have hpl : P % 2 ^ k < 4294967296 := Nat.lt_of_le_of_lt (Nat.mod_le _ _) hP
      have hsL : Sl wr wr.heap.size (.slice (some ⟨g, 0, none⟩) EL cap) EL (bs L) := Sl.of_own hown3
      have hdw := hd2.now hb7
      have hmw := hm2.below hb7 hm2.lt
      have hbw := hb4.trans (hb7.mono hb4.size)
      by_cases hz : P % 2 ^ k = 0
      · have hLE := flip0 E L (P % 2 ^ k) D (by rw [hL, hEB]) hlv hz
        have hdec := HGOOD.out L hLE wr (.slice (some ⟨g, 0, none⟩) EL cap) hsL
        rw [hz]
        have HDEC := Lib.hid hdec
        clear hdec hlv hz hLE
        go_wp2_with (first
          | (go_at_call 7; refine HDEC.out.mono ?_; rintro e w4 ⟨v4, rfl, hone, hs4, hb8⟩; have hm4 := hmw.below hb8 hmw.lt; have hd4 := hdw.now hb8; have hbw4 := hbw.trans (hb8.mono hbw.size))
          | (refine wpList_store_row rfl 26 (.tmp 16) (.tmp 101) rfl w4.heap.size (CQ.setIfInBounds 26 v4) rfl rfl 26 #[Value.int .i64 0, .bool false, .int .i64 0, .int .i64 0, .int .u32 0, .int .u32 0, .int .u32 0, .int .u32 0, .int .u32 0, .int .u32 0, .int .u8 0, .int .u8 0, .int .u8 0, .int .u8 0, .int .u8 0, .int .u8 0, .int .u8 0, .int .u8 0, .int .u8 0, .int .u8 0, .int .u8 0, .int .u8 0, .int .u8 0, .int .u8 0, .int .u8 0, .int .u8 0, .slice none 0 0] (Mem.new w4 _ _) (hqsz _) (hqzz _) hone ?_; have hb9 := below_setRow ((Below.refl w4.heap.size w4).alloc (Nat.le_refl _) (.cells #[Value.int .i64 0, .bool false, .int .i64 0, .int .i64 0, .int .u32 0, .int .u32 0, .int .u32 0, .int .u32 0, .int .u32 0, .int .u32 0, .int .u8 0, .int .u8 0, .int .u8 0, .int .u8 0, .int .u8 0, .int .u8 0, .int .u8 0, .int .u8 0, .int .u8 0, .int .u8 0, .int .u8 0, .int .u8 0, .int .u8 0, .int .u8 0, .int .u8 0, .int .u8 0, .slice none 0 0] 26)) (Nat.le_refl _) (CQ.setIfInBounds 26 v4); have hmq := (Mem.new w4 26 #[Value.int .i64 0, .bool false, .int .i64 0, .int .i64 0, .int .u32 0, .int .u32 0, .int .u32 0, .int .u32 0, .int .u32 0, .int .u32 0, .int .u8 0, .int .u8 0, .int .u8 0, .int .u8 0, .int .u8 0, .int .u8 0, .int .u8 0, .int .u8 0, .int .u8 0, .int .u8 0, .int .u8 0, .int .u8 0, .int .u8 0, .int .u8 0, .int .u8 0, .int .u8 0, .slice none 0 0]).row (CQ.setIfInBounds 26 v4); generalize (w4.alloc (.cells #[Value.int .i64 0, .bool false, .int .i64 0, .int .i64 0, .int .u32 0, .int .u32 0, .int .u32 0, .int .u32 0, .int .u32 0, .int .u32 0, .int .u8 0, .int .u8 0, .int .u8 0, .int .u8 0, .int .u8 0, .int .u8 0, .int .u8 0, .int .u8 0, .int .u8 0, .int .u8 0, .int .u8 0, .int .u8 0, .int .u8 0, .int .u8 0, .int .u8 0, .int .u8 0, .slice none 0 0] 26)).setRow w4.heap.size (CQ.setIfInBounds 26 v4) = w5 at *; have hm5 := hm4.below hb9 hm4.lt; have hd5 := hd4.now hb9; have hs5 := hs4.now hb9; have hbw5 := hbw4.trans (hb9.mono hbw4.size)))
        all_goals
          try simp only [Act.put]
          have hB5 := hbw5
          apply calm_tail 8 [.is _, .is _, .is _, .is _, .is _, .is _, .is _, .is _] [[], [0], [1], [2], [2], [4, 2, 2], [3, 5, 5, 2], [2, 6]] (by kernel_rfl) (by kernel_rfl) (by kernel_rfl) rfl
          intro f a1 ha1
          simp only [List.take_succ_cons, List.take_zero, putL, Act.put, List.setIfInBounds_toArray, List.set_cons_succ, List.set_cons_zero] at ha1
          subst ha1
          refine ⟨?_, ?_⟩
          · refine AllCalm.cons (fun W hB hd => ?_) ?_
            · go_wp2_with (fail)
              exact CalmQ.mk rfl _ rfl (Below.refl _ _) rfl
            refine AllCalm.cons (fun W hB hd => ?_) ?_
            · obtain ⟨h0, -⟩ := hd
              have h0 : f 0 = _ := h0
              rw [h0]
              go_wp2_with (fail)
              exact CalmQ.mk rfl _ rfl (Below.refl _ _) rfl
            refine AllCalm.cons (fun W hB hd => ?_) ?_
            · obtain ⟨h1, -⟩ := hd
              have h1 : f 1 = _ := h1
              rw [h1]
              go_wp2_with (fail)
              exact CalmQ.mk rfl _ rfl (Below.refl _ _) rfl
            refine AllCalm.cons (fun W hB hd => ?_) ?_
            · obtain ⟨h2, -⟩ := hd
              have h2 : f 2 = _ := h2
              rw [h2]
              go_wp2_with ((refine wpList_load_rowG rfl 26 (.tmp 16) rfl w4.heap.size rfl 26 (CQ.setIfInBounds 26 v4) (0, 0) _ (hmq.below hB hmq.lt) Try.underlying26 rfl (hqsz _) ?_))
              exact CalmQ.mk rfl _ rfl (Below.refl _ _) rfl
            refine AllCalm.cons (fun W hB hd => ?_) ?_
            · obtain ⟨h2, -⟩ := hd
              have h2 : f 2 = _ := h2
              rw [h2]
              go_wp2_with ((refine wpList_load_rowG rfl 26 (.tmp 3) rfl w.heap.size rfl 26 CS (0, 0) _ (hm5.below hB hm5.lt) Try.underlying26 rfl hsz ?_))
              exact CalmQ.mk rfl _ rfl (Below.refl _ _) rfl
            refine AllCalm.cons (fun W hB hd => ?_) ?_
            · obtain ⟨h4, h2, -, -⟩ := hd
              have h4 : f 4 = _ := h4
              have h2 : f 2 = _ := h2
              rw [h4, h2]
              go_wp2_with ((go_at_call 9; with_reducible refine (hof W).mono ?_; rintro e w6 ⟨rfl, hb10⟩))
              exact CalmQ.mk rfl _ rfl hb10 rfl
            refine AllCalm.cons (fun W hB hd => ?_) ?_
            · obtain ⟨h3, h5, -, h2, -⟩ := hd
              have h3 : f 3 = _ := h3
              have h5 : f 5 = _ := h5
              have h2 : f 2 = _ := h2
              rw [h3, h5, h2]
              go_wp2_with ((go_at_call 8; with_reducible refine (HSAME.out v4 W (hs5.now hB) (hd5.now hB)).mono ?_; rintro e w6 ⟨rfl, hb10⟩))
              exact CalmQ.mk rfl _ rfl hb10 rfl
            refine AllCalm.cons (fun W hB hd => ?_) ?_
            · obtain ⟨h2, h6, -⟩ := hd
              have h2 : f 2 = _ := h2
              have h6 : f 6 = _ := h6
              rw [h2, h6]
              go_wp2_with (fail)
              exact CalmQ.mk rfl _ rfl (Below.refl _ _) rfl
            exact AllCalm.nil
          · intro W hB hT
            obtain ⟨h0, h1, h2, h3, h4, h5, h6, h7, -⟩ := hT
            have h0 : f 0 = _ := h0
            have h1 : f 1 = _ := h1
            have h2 : f 2 = _ := h2
            have h3 : f 3 = _ := h3
            have h4 : f 4 = _ := h4
            have h5 : f 5 = _ := h5
            have h6 : f 6 = _ := h6
            have h7 : f 7 = _ := h7
            rw [h0, h1, h2, h3, h4, h5, h6, h7]
            clear h0 h1 h2 h3 h4 h5 h6 h7
            simp only [List.drop_succ_cons, List.drop_zero]
            go_wp2_with fail
            go_ret
            exact ⟨rfl, hB5.trans (hB.mono hB5.size)⟩
      · have hdec := HBAD.out L (P % 2 ^ k) D (by omega) hz hL hlv hpl wr (.slice (some ⟨g, 0, none⟩) EL cap) hsL
        have hdd : decide (P % 2 ^ k ≠ 0) = true := decide_eq_true hz
        rw [hdd]
        have HDEC := Lib.hid hdec
        clear hdec hlv hz hdd
        go_wp2_with (first
          | (go_at_call 7; refine HDEC.out.mono ?_; rintro e w4 ⟨rfl, hb8⟩; have hbw4 := hbw.trans (hb8.mono hbw.size))
          | (refine wpList_store_row rfl 26 (.tmp 16) (.tmp 101) rfl w4.heap.size #[Value.int .i64 0, .bool false, .int .i64 0, .int .i64 0, .int .u32 0, .int .u32 0, .int .u32 0, .int .u32 0, .int .u32 0, .int .u32 0, .int .u8 0, .int .u8 0, .int .u8 0, .int .u8 0, .int .u8 0, .int .u8 0, .int .u8 0, .int .u8 0, .int .u8 0, .int .u8 0, .int .u8 0, .int .u8 0, .int .u8 0, .int .u8 0, .int .u8 0, .int .u8 0, .slice none 0 0] rfl rfl 26 #[Value.int .i64 0, .bool false, .int .i64 0, .int .i64 0, .int .u32 0, .int .u32 0, .int .u32 0, .int .u32 0, .int .u32 0, .int .u32 0, .int .u8 0, .int .u8 0, .int .u8 0, .int .u8 0, .int .u8 0, .int .u8 0, .int .u8 0, .int .u8 0, .int .u8 0, .int .u8 0, .int .u8 0, .int .u8 0, .int .u8 0, .int .u8 0, .int .u8 0, .int .u8 0, .slice none 0 0] (Mem.new w4 _ _) (by kernel_rfl) (by kernel_rfl) (by kernel_rfl) ?_; have hb9 := below_setRow ((Below.refl w4.heap.size w4).alloc (Nat.le_refl _) (.cells #[Value.int .i64 0, .bool false, .int .i64 0, .int .i64 0, .int .u32 0, .int .u32 0, .int .u32 0, .int .u32 0, .int .u32 0, .int .u32 0, .int .u8 0, .int .u8 0, .int .u8 0, .int .u8 0, .int .u8 0, .int .u8 0, .int .u8 0, .int .u8 0, .int .u8 0, .int .u8 0, .int .u8 0, .int .u8 0, .int .u8 0, .int .u8 0, .int .u8 0, .int .u8 0, .slice none 0 0] 26)) (Nat.le_refl _) #[Value.int .i64 0, .bool false, .int .i64 0, .int .i64 0, .int .u32 0, .int .u32 0, .int .u32 0, .int .u32 0, .int .u32 0, .int .u32 0, .int .u8 0, .int .u8 0, .int .u8 0, .int .u8 0, .int .u8 0, .int .u8 0, .int .u8 0, .int .u8 0, .int .u8 0, .int .u8 0, .int .u8 0, .int .u8 0, .int .u8 0, .int .u8 0, .int .u8 0, .int .u8 0, .slice none 0 0]; have hmq := (Mem.new w4 26 #[Value.int .i64 0, .bool false, .int .i64 0, .int .i64 0, .int .u32 0, .int .u32 0, .int .u32 0, .int .u32 0, .int .u32 0, .int .u32 0, .int .u8 0, .int .u8 0, .int .u8 0, .int .u8 0, .int .u8 0, .int .u8 0, .int .u8 0, .int .u8 0, .int .u8 0, .int .u8 0, .int .u8 0, .int .u8 0, .int .u8 0, .int .u8 0, .int .u8 0, .int .u8 0, .slice none 0 0]).row #[Value.int .i64 0, .bool false, .int .i64 0, .int .i64 0, .int .u32 0, .int .u32 0, .int .u32 0, .int .u32 0, .int .u32 0, .int .u32 0, .int .u8 0, .int .u8 0, .int .u8 0, .int .u8 0, .int .u8 0, .int .u8 0, .int .u8 0, .int .u8 0, .int .u8 0, .int .u8 0, .int .u8 0, .int .u8 0, .int .u8 0, .int .u8 0, .int .u8 0, .int .u8 0, .slice none 0 0]; generalize (w4.alloc (.cells #[Value.int .i64 0, .bool false, .int .i64 0, .int .i64 0, .int .u32 0, .int .u32 0, .int .u32 0, .int .u32 0, .int .u32 0, .int .u32 0, .int .u8 0, .int .u8 0, .int .u8 0, .int .u8 0, .int .u8 0, .int .u8 0, .int .u8 0, .int .u8 0, .int .u8 0, .int .u8 0, .int .u8 0, .int .u8 0, .int .u8 0, .int .u8 0, .int .u8 0, .int .u8 0, .slice none 0 0] 26)).setRow w4.heap.size #[Value.int .i64 0, .bool false, .int .i64 0, .int .i64 0, .int .u32 0, .int .u32 0, .int .u32 0, .int .u32 0, .int .u32 0, .int .u32 0, .int .u8 0, .int .u8 0, .int .u8 0, .int .u8 0, .int .u8 0, .int .u8 0, .int .u8 0, .int .u8 0, .int .u8 0, .int .u8 0, .int .u8 0, .int .u8 0, .int .u8 0, .int .u8 0, .int .u8 0, .int .u8 0, .slice none 0 0] = w5 at *; have hbw5 := hbw4.trans (hb9.mono hbw4.size))
          | (refine wpList_load_rowG rfl 26 (.tmp 16) rfl w4.heap.size rfl 26 #[Value.int .i64 0, .bool false, .int .i64 0, .int .i64 0, .int .u32 0, .int .u32 0, .int .u32 0, .int .u32 0, .int .u32 0, .int .u32 0, .int .u8 0, .int .u8 0, .int .u8 0, .int .u8 0, .int .u8 0, .int .u8 0, .int .u8 0, .int .u8 0, .int .u8 0, .int .u8 0, .int .u8 0, .int .u8 0, .int .u8 0, .int .u8 0, .int .u8 0, .int .u8 0, .slice none 0 0] (0, 0) _ hmq Try.underlying26 rfl (by kernel_rfl) ?_)
          | (go_at_call 8; with_reducible refine (zp_same _).mono ?_; rintro e w6 ⟨rfl, hb10⟩))
        all_goals go_ret
        all_goals exact ⟨rfl, hbw5.trans (hb10.mono hbw5.size)⟩
theorem walk (op fl st : Int) (fin : Bool) (tag sn ex mx off len : Nat) (cdb l : List UInt8) (dv : Value) (bit pat : Int) (w : World) (hc : cdb.length = 16) (hs : Sl w w.heap.size dv l.length (bs l)) (u1 : tag < 4294967296) (u2 : sn < 4294967296) (u3 : ex < 4294967296) (u4 : mx < 4294967296) (u5 : off < 4294967296) (u6 : len < 4294967296)
    (hb1 : -9223372036854775808 ≤ bit) (hb2 : bit ≤ 9223372036854775807) (hp1 : 0 ≤ pat) (hp2 : pat ≤ 4294967295) :
    Calls Try.prog 3 #[pduV op fin fl st tag sn ex mx off len cdb dv, .int .i64 bit, .int .u32 pat] w fun e w' => e = .returned (.bool true) ∧ Below w.heap.size w w' := by
  obtain ⟨A, c, rfl, _, _⟩ := hs.form
  by_cases hA : 1500 < l.length ∨ bit < 0
  · exact walkA op fl st fin tag sn ex mx off len cdb A l.length c bit _ w hc hA
  by_cases hq : pknown op = false ∨ fl < 0 ∨ 127 < fl ∨ st < 0 ∨ 255 < st
  · exact walkB op fl st fin tag sn ex mx off len cdb A l.length c bit _ w hc (by omega) (by omega) hq
  have hk : pknown op = true := by
    cases h : pknown op with
    | true => rfl
    | false => exact absurd (.inl h) hq
  obtain ⟨k1, k2⟩ := known_nat hk
  have hq2 : ¬ (fl < 0 ∨ 127 < fl ∨ st < 0 ∨ 255 < st) := fun h => hq (.inr h)
  obtain ⟨B, rfl⟩ : ∃ B : Nat, bit = B := ⟨bit.toNat, by omega⟩
  obtain ⟨P, rfl⟩ : ∃ P : Nat, pat = P := ⟨pat.toNat, by omega⟩
  obtain ⟨o, rfl⟩ : ∃ o : Nat, op = o := ⟨op.toNat, by omega⟩
  obtain ⟨f, rfl⟩ : ∃ f : Nat, fl = f := ⟨fl.toNat, by omega⟩
  obtain ⟨s, rfl⟩ : ∃ s : Nat, st = s := ⟨st.toNat, by omega⟩
  have hfit : (⟨o, fin, f, s, tag, sn, ex, mx, off, len, cdb⟩ : Pdh).Fit := ⟨by show o < 256; omega, by show f < 128; omega, by show s < 256; omega, u1, u2, u3, u4, u5, u6, hc⟩
  by_cases h0 : l.length = 0
  · exact walkF1 ⟨o, fin, f, s, tag, sn, ex, mx, off, len, cdb⟩ hfit hk l (by omega) A c B P w hs (by omega) (by omega) h0
  · rcases Nat.mod_two_eq_zero_or_one B with he | he
    · exact walkF2 ⟨o, fin, f, s, tag, sn, ex, mx, off, len, cdb⟩ hfit hk l (by omega) A c B P w hs (by omega) (by omega) h0 he
    · exact walkD ⟨o, fin, f, s, tag, sn, ex, mx, off, len, cdb⟩ hfit hk l (by omega) A c B P w hs (by omega) (by omega) h0 he

theorem own : ownKnob Try.prog.godebug = none := by kernel_rfl
theorem laidOut : laidOutB Try.prog = true := by kernel_rfl
set_option maxRecDepth 100000 in
theorem lifted (os : Os) (started : os.Started) (H : Type) (enc : TypeId × Value → H) :
    ReturnsInHanded {} Try.checked os 3 .any (Rows.pduFlipsSpec.pre6 enc Try.prog Try.f3 Rows.pduFlipsRow.domain false) (Rows.pduFlipsSpec.post enc Try.prog Try.f3 false true false false) := by
  refine returnsInHanded_of_change (C := Try.checked) own started (by kernel_rfl) Try.func3
    (ChangeSpec.witness6 (enc := enc) (C := Try.checked) false ⟨#[], #[.agg #[.int .i64 0, .bool false, .int .i64 0, .int .i64 0, .int .u32 0, .int .u32 0, .int .u32 0, .int .u32 0, .int .u32 0, .int .u32 0, .int .u8 0, .int .u8 0, .int .u8 0, .int .u8 0, .int .u8 0, .int .u8 0, .int .u8 0, .int .u8 0, .int .u8 0, .int .u8 0, .int .u8 0, .int .u8 0, .int .u8 0, .int .u8 0, .int .u8 0, .int .u8 0, .slice none 0 0], .int .i64 0, .int .u32 0], []⟩ 8 (by kernel_rfl) (by kernel_rfl) (by kernel_rfl) (by kernel_rfl)) ?_
  intro W base args ds gs before hval0 hW hcnd _
  have hval : ∀ (j : Nat) t v, Try.f3.params[j]? = some t → args[j]? = some v → Value.okWide Try.prog W .any base t v := hval0
  have hW' := hW
  obtain ⟨p, q, hA0, hV, rfl, hfz, hnd⟩ := hW
  have hA : DataW.TrodAll enc Try.prog W 0 (fun _ => true) true Try.f3.params.toList args.toList ds p := hA0
  rw [Try.params3] at hA hval
  obtain ⟨v0, vs0, d0, ds0, p0, q0, hargs, rfl, rfl, h0, r0⟩ := trodAll_cons hA
  obtain ⟨v1, vs1, d1, ds1, p1, q1, rfl, rfl, rfl, h1, r1⟩ := trodAll_cons r0
  obtain ⟨v2, vs2, d2, ds2, p2, q2, rfl, rfl, rfl, h2, r2⟩ := trodAll_cons r1
  obtain ⟨rfl, rfl, rfl⟩ := trodAll_nil r2
  obtain rfl : args = #[v0, v1, v2] := by cases args; simp_all
  obtain ⟨rfl, rfl⟩ := trodVars_none hV
  obtain ⟨op0, fl0, st0, fin0, tag0, sn0, ex0, mx0, off0, len0, cdb0, l0, dv0, rfl, hc0, s0, _, _, _, u0_0, u0_1, u0_2, u0_3, u0_4, u0_5⟩ := open_pdu (hval 0 26 v0 rfl rfl) h0
  obtain ⟨a1, rfl, _, _, w1⟩ := open_int Try.underlying3 (hval 1 3 v1 rfl rfl) h1
  have b1 := bounds_i64 w1
  obtain ⟨a2, rfl, _, _, w2⟩ := open_int Try.underlying22 (hval 2 22 v2 rfl rfl) h2
  have b2 := bounds_u32 w2
  refine (walk op0 fl0 st0 fin0 tag0 sn0 ex0 mx0 off0 len0 cdb0 l0 dv0 a1 a2 W hc0 s0 u0_0 u0_1 u0_2 u0_3 u0_4 u0_5 b1.1 b1.2 b2.1 b2.2).mono fun e W' ⟨he, hb⟩ => ?_
  subst he
  exact ⟨_, rfl, law_post laidOut (by kernel_rfl) rfl (by kernel_rfl) Try.underlying4 rfl rfl rfl hW' hb⟩

theorem proved : Rows.PduFlipsSaid :=
  OpenClaim.holds_of_wide 3 Try.f3 rfl rfl rfl rfl rfl rfl rfl ⟨rfl, rfl, rfl, rfl, rfl⟩ rfl rfl rfl rfl rfl (by kernel_rfl) Try.func3 (by kernel_rfl)
    (of_decide_eq_true (by kernel_rfl)) (by unfold Func.isWrapper; first | (rw [if_pos (by decide +kernel)]; kernel_rfl) | (rw [if_neg (by decide +kernel)]; exact ⟨rfl, rfl⟩))
    (fun os started H enc _ => lifted os started H enc)

end PFlips
end Go.Proofs.Ytafpaigifemjjaa
