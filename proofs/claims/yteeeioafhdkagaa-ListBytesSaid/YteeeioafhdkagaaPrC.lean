/- Package prlist: plain facts on cut, longer and turned bytes. -/
import Derived.Test.YteeeioafhdkagaaPrK
namespace Go.Proofs.Yteeeioafhdkagaa
open Go.ChangeShapes Go.WideShapes Go.ChangeAt Go.RowKit
set_option linter.unusedVariables false
theorem keysS_mid (g : Nat) (l : List Nat) : ((keysS g l).drop 4).take 4 = be (8 * l.length) 4 := by
  unfold keysS
  rw [List.append_assoc, List.drop_left' (by simp), List.take_left' (by simp)]
theorem keysS_midV (g : Nat) (l : List Nat) (h : l.length ≤ 16) : beVal (((keysS g l).drop 4).take 4) = 8 * l.length := by
  rw [keysS_mid, beVal_be4 (by omega)]
theorem cut_short {l : List UInt8} {n d : Nat} (hm : beVal ((l.drop 4).take 4) = n) (hl : l.length = 8 + n) (hd : d < l.length) : frontE (l.take d) = 3 := by
  unfold frontE
  by_cases h8 : d < 8
  · rw [if_pos (by rw [List.length_take]; omega)]
  · rw [if_neg (by rw [List.length_take]; omega)]
    have e : ((l.take d).drop 4).take 4 = (l.drop 4).take 4 := by
      rw [List.drop_take, List.take_take, show min 4 (d - 4) = 4 by omega]
    rw [e, hm, if_pos (by rw [List.length_take]; omega)]
theorem more_form {l : List UInt8} {n : Nat} (x : UInt8) (hm : beVal ((l.drop 4).take 4) = n) (hl : l.length = 8 + n) : frontE (l ++ [x]) = 2 := by
  unfold frontE
  have e : ((l ++ [x]).drop 4).take 4 = (l.drop 4).take 4 := by
    rw [List.drop_append_of_le_length (by omega), List.take_append_of_le_length (by rw [List.length_drop]; omega)]
  rw [e, hm, List.length_append, List.length_singleton, if_neg (by omega), if_neg (by omega), if_pos (by omega)]
theorem xor_ne {a x : UInt8} (h : a ^^^ x = a) : x = 0 := by
  have : a ^^^ (a ^^^ x) = a ^^^ a := by rw [h]
  rw [← UInt8.xor_assoc, UInt8.xor_self, UInt8.zero_xor] at this
  exact this
theorem turned_len {l : List UInt8} {n k : Nat} {x : UInt8} (hm : beVal ((l.drop 4).take 4) = n) (hl : l.length = 8 + n) (h4 : 4 ≤ k) (h8 : k < 8) (hx : x ≠ 0) (hk : k < l.length) : frontE (l.set k (l[k] ^^^ x)) ≠ 0 := by
  intro h
  unfold frontE at h
  rw [List.length_set, if_neg (by omega)] at h
  have hn : beVal (((l.set k (l[k] ^^^ x)).drop 4).take 4) = n := by
    generalize beVal (((l.set k (l[k] ^^^ x)).drop 4).take 4) = m at *
    by_cases h1 : l.length - 8 < m
    · rw [if_pos h1] at h; cases h
    · rw [if_neg h1] at h
      by_cases h2 : m < l.length - 8
      · rw [if_pos h2] at h; cases h
      · omega
  have e := be_inj 4 _ _ (by rw [List.length_take, List.length_drop, List.length_set]; omega) (by rw [List.length_take, List.length_drop]; omega) (hn.trans hm.symm)
  have e2 := congrArg (fun q => q[k - 4]?) e
  simp only [List.getElem?_take, List.getElem?_drop] at e2
  rw [if_pos (by omega), if_pos (by omega), show 4 + (k - 4) = k by omega, List.getElem?_set_self hk, List.getElem?_eq_getElem hk] at e2
  exact hx (xor_ne (Option.some.inj e2))
theorem pkE_front {l : List UInt8} {n : Nat} (h : frontE l = n) (hn : n ≠ 0) : pkE l = n := by unfold pkE; rw [h, if_pos hn]
theorem xor_u8 (a b : UInt8) : bits .xor .u8 (a.toNat : Int) (b.toNat : Int) = ((a ^^^ b).toNat : Int) := by
  have h1 : ∀ c : UInt8, (BitVec.ofInt 8 (c.toNat : Int)).toNat = c.toNat := fun c => by
    rw [BitVec.ofInt_natCast, BitVec.toNat_ofNat]; exact Nat.mod_eq_of_lt c.toNat_lt
  show IntKind.u8.wrap ((BitVec.ofInt 8 (a.toNat : Int) ^^^ BitVec.ofInt 8 (b.toNat : Int)).toNat : Int) = _
  rw [BitVec.toNat_xor, h1, h1, ← UInt8.toNat_xor]
  have := (a ^^^ b).toNat_lt
  generalize (a ^^^ b).toNat = z at *
  rw [IntKind.wrap_u8]
  omega
theorem ParseKeys_err (v : Value) (l : List UInt8) (w : World) (E : Nat) (hv : Sl w w.heap.size v l.length (bs l)) (hl : l.length ≤ 100000) (hE : pkE l = E) (h0 : E ≠ 0) :
    Calls Try.prog 17 #[v] w fun e w' => e = .returned (.tuple #[.int .u32 0, .slice none 0 0, .int .i64 E]) ∧ Below w.heap.size w w' := by
  refine (ParseKeys_any v l w hv hl).mono ?_
  rintro e w' ⟨g, vr, err, rfl, rfl, _, h2, hb⟩
  obtain ⟨rfl, rfl⟩ := h2 (by omega)
  exact ⟨by rw [hE]; rfl, hb⟩
theorem ParseKeys_ok (v : Value) (l : List UInt8) (w : World) (hv : Sl w w.heap.size v l.length (bs l)) (hl : l.length ≤ 100000) (hE : pkE l = 0) :
    Calls Try.prog 17 #[v] w fun e w' => ∃ A c, e = .returned (.tuple #[.int .u32 (beVal (l.take 4) : Nat), .slice A (cutK (l.drop 8)).length c, .int .i64 0]) ∧ Sl w' w'.heap.size (.slice A (cutK (l.drop 8)).length c) (cutK (l.drop 8)).length (u64s (cutK (l.drop 8))) ∧ Below w.heap.size w w' := by
  refine (ParseKeys_any v l w hv hl).mono ?_
  rintro e w' ⟨g, vr, err, rfl, rfl, h1, _, hb⟩
  obtain ⟨rfl, hs⟩ := h1 hE
  obtain ⟨A, c, rfl, _, _⟩ := hs.form
  exact ⟨A, c, by rw [hE]; rfl, hs, hb⟩
theorem own : ownKnob Try.prog.godebug = none := by kernel_rfl
theorem laidOut : laidOutB Try.prog = true := by kernel_rfl
end Go.Proofs.Yteeeioafhdkagaa
