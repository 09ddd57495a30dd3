/- Package lu: the cursor: number, row. -/
import Derived.Test.YtpkebbibafldkaaUn1
import Derived.Lib.SliceRun
namespace Go.Proofs.Ytpkebbibafldkaa
open Go.ChangeShapes Go.WideShapes Go.ChangeAt Go.RowKit Go.Lib
set_option linter.unusedVariables false
set_option linter.unusedSimpArgs false
set_option maxRecDepth 100000
namespace Un
open Rv
/-- A cursor in block C at byte p of L; nothing was missing so far. -/
structure CurM (w : World) (C : Nat) (A : Option Addr) (c : Nat) (L : List UInt8) (p : Nat) : Prop where
  mem : Mem w C 51 #[.slice A L.length c, .int .i64 (p : Nat), .bool false]
  sl : Sl w C (.slice A L.length c) L.length (bs L)
  few : L.length ≤ 100000
  at_ : p ≤ L.length
section
variable {w w' : World} {C c : Nat} {A : Option Addr} {L : List UInt8} {p : Nat}
theorem CurM.below (h : CurM w C A c L p) (hb : Below w.heap.size w w') : CurM w' C A c L p := ⟨h.mem.below hb h.mem.lt, h.sl.below (hb.mono (Nat.le_of_lt h.mem.lt)), h.few, h.at_⟩
theorem CurM.eff {S : Nat → Prop} (h : CurM w C A c L p) (he : Eff S w w') (hC : ∀ q, q ≤ C → ¬ S q) : CurM w' C A c L p := ⟨h.mem.eff he (hC C (Nat.le_refl _)), h.sl.below ⟨he.os, he.tape, he.output, he.size, fun k hk => he.block k (Nat.lt_trans hk h.mem.lt) (hC k (Nat.le_of_lt hk))⟩, h.few, h.at_⟩
theorem CurM.now (h : CurM w C A c L p) : Sl w w.heap.size (.slice A L.length c) L.length (bs L) := h.sl.more (Nat.le_of_lt h.mem.lt)
theorem CurM.put (h : CurM w C A c L p) {q : Nat} (hq : q ≤ L.length) : CurM (w.setCell ⟨C, 1, none⟩ (.int .i64 (q : Nat))) C A c L q := ⟨h.mem.put 1 _, h.sl.keep fun b o hb => by
    have e := Eff.setCell (S := fun k => k = C) (Eff.refl _ w) (p := ⟨C, 1, none⟩) rfl (.int .i64 (q : Nat))
    exact e.cell (p := ⟨b, o, none⟩) (Nat.lt_trans hb h.mem.lt) (fun e => by have e' : b = C := e; omega), h.few, hq⟩
theorem CurM.ok (h : CurM w C A c L p) : CurM (w.setCell ⟨C, 2, none⟩ (.bool false)) C A c L p := ⟨h.mem.put 2 _, h.sl.keep fun b o hb => by
    have e := Eff.setCell (S := fun k => k = C) (Eff.refl _ w) (p := ⟨C, 2, none⟩) rfl (.bool false)
    exact e.cell (p := ⟨b, o, none⟩) (Nat.lt_trans hb h.mem.lt) (fun e => by have e' : b = C := e; omega), h.few, h.at_⟩
set_option maxHeartbeats 2000000 in
theorem number_any (h : CurM w C A c L p) (n : Nat) (hn : 1 ≤ n ∧ n ≤ 8) (hp : p + n ≤ L.length) : Calls Try.prog 50 #[.pointer (some ⟨C, 0, none⟩), .int .i64 (n : Nat)] w fun e w' => e = .returned (.int .u64 (beVal ((L.drop p).take n) : Nat)) ∧ CurM w' C A c L (p + n) ∧ Eff (fun q => q = C) w w' := by
  have hfew := h.few
  have cG : ∀ W, Below w.heap.size w W → Calls Try.prog 45 #[.slice A L.length c, .int .i64 (p : Nat), .int .i64 (n : Nat)] W fun e w' => e = .returned (.tuple #[.int .u64 (beVal ((L.drop p).take n) : Nat), .bool true]) ∧ W = w' := fun W hW => get_b (.slice A L.length c) L _ _ p n rfl rfl W (h.below hW).now (by omega) (by omega) (by omega) (by omega)
  have hpx : (p : Int) ≤ 100000 := by omega
  have hnx : (n : Int) ≤ 8 := by omega
  obtain ⟨pn, hpn⟩ : ∃ pn, p + n = pn := ⟨_, rfl⟩
  have hpi : (p : Int) + (n : Int) = (pn : Int) := by omega
  have hpb : (pn : Int) ≤ 100008 := by omega
  rw [hpn] at hp ⊢
  have HP := Lib.hid hp
  generalize beVal ((L.drop p).take n) = val at *
  clear hp hfew hn hpn
  go_enter Try.func50, Try.ntmps50
  go_wp2
  refine wp_region_any (by kernel_rfl) ?_
  change wpAny _ _ _ _ _ _ _ (World.drew _)
  refine wpAny_take (i := 0) (oi := { dst := some 8, op := Op.move (Operand.tmp 0), type := 49, pos := "code.go:47", after := #[], guard := none }) (v := (.pointer (some ⟨C, 0, none⟩))) rfl (by kernel_rfl) (by kernel_rfl) (by kernel_rfl) (fun _ _ _ h => h) (Or.inl ⟨by rfl, by intro w; go_simp⟩) ?_
  try dsimp only [Act.put]
  try simp only [List.setIfInBounds_toArray, List.set_cons_succ, List.set_cons_zero]
  apply calm_tailK 14 [0] [.is (.pointer (some ⟨C, 0, none⟩)), .is _, .is _, .is _, .is _, .is _, .is _, .is _, .is _, .is _, .is _, .is _, .is _, .is _] [[], [0], [1], [2], [], [4], [5], [6], [], [3, 7, 8], [9], [10], [10], [11, 9, 0, 1, 2, 3, 4, 5, 6, 7, 8, 9, 10, 11]] (by kernel_rfl) (by kernel_rfl) rfl (by decide) (by intro i hi o ho; obtain rfl := List.mem_singleton.1 hi; obtain rfl := Option.some.inj ho; exact rfl)
  intro f a1 ha1
  simp only [List.take_succ_cons, List.take_zero, putL, Act.put, List.setIfInBounds_toArray, List.set_cons_succ, List.set_cons_zero] at ha1
  subst ha1
  refine ⟨?_, ?_⟩
  · refine AllCalm.cons (fun W hB hd => ?_) ?_
    · go_wp2_with (fail)
      exact CalmQ.mk rfl _ rfl (Below.refl _ _) rfl
    refine AllCalm.cons (fun W hB hd => ?_) ?_
    · obtain ⟨h0, -⟩ := hd
      have h0 : f 0 = _ := h0
      rw [h0]
      go_wp2_with (fail)
      exact CalmQ.mk rfl _ rfl (Below.refl _ _) rfl
    refine AllCalm.cons (fun W hB hd => ?_) ?_
    · obtain ⟨h1, -⟩ := hd
      have h1 : f 1 = _ := h1
      rw [h1]
      go_wp2_with (fail)
      exact CalmQ.mk rfl _ rfl (Below.refl _ _) rfl
    refine AllCalm.cons (fun W hB hd => ?_) ?_
    · obtain ⟨h2, -⟩ := hd
      have h2 : f 2 = _ := h2
      rw [h2]
      have q0 := (h.below ((Below.refl _ w).drew.trans hB)).mem.cell 0
      go_wp2_with (fail)
      exact CalmQ.mk rfl _ rfl (Below.refl _ _) rfl
    refine AllCalm.cons (fun W hB hd => ?_) ?_
    · go_wp2_with (fail)
      exact CalmQ.mk rfl _ rfl (Below.refl _ _) rfl
    refine AllCalm.cons (fun W hB hd => ?_) ?_
    · obtain ⟨h4, -⟩ := hd
      have h4 : f 4 = _ := h4
      rw [h4]
      go_wp2_with (fail)
      exact CalmQ.mk rfl _ rfl (Below.refl _ _) rfl
    refine AllCalm.cons (fun W hB hd => ?_) ?_
    · obtain ⟨h5, -⟩ := hd
      have h5 : f 5 = _ := h5
      rw [h5]
      go_wp2_with (fail)
      exact CalmQ.mk rfl _ rfl (Below.refl _ _) rfl
    refine AllCalm.cons (fun W hB hd => ?_) ?_
    · obtain ⟨h6, -⟩ := hd
      have h6 : f 6 = _ := h6
      rw [h6]
      have q0 := (h.below ((Below.refl _ w).drew.trans hB)).mem.cell 1
      go_wp2_with (fail)
      exact CalmQ.mk rfl _ rfl (Below.refl _ _) rfl
    refine AllCalm.cons (fun W hB hd => ?_) ?_
    · go_wp2_with (fail)
      exact CalmQ.mk rfl _ rfl (Below.refl _ _) rfl
    refine AllCalm.cons (fun W hB hd => ?_) ?_
    · obtain ⟨h3, h7, h8, -⟩ := hd
      have h3 : f 3 = _ := h3
      have h7 : f 7 = _ := h7
      have h8 : f 8 = _ := h8
      rw [h3, h7, h8]
      have cW := cG _ ((Below.refl _ w).drew.trans hB)
      go_wp2_with ((go_at_call 45; (with_reducible refine cW.mono ?_); rintro e' w3 ⟨rfl, rfl⟩))
      exact CalmQ.mk rfl _ rfl (Below.refl _ _) rfl
    refine AllCalm.cons (fun W hB hd => ?_) ?_
    · obtain ⟨h9, -⟩ := hd
      have h9 : f 9 = _ := h9
      rw [h9]
      go_wp2_with (fail)
      exact CalmQ.mk rfl _ rfl (Below.refl _ _) rfl
    refine AllCalm.cons (fun W hB hd => ?_) ?_
    · obtain ⟨h10, -⟩ := hd
      have h10 : f 10 = _ := h10
      rw [h10]
      go_wp2_with (fail)
      exact CalmQ.mk rfl _ rfl (Below.refl _ _) rfl
    refine AllCalm.cons (fun W hB hd => ?_) ?_
    · obtain ⟨h10, -⟩ := hd
      have h10 : f 10 = _ := h10
      rw [h10]
      go_wp2_with (fail)
      exact CalmQ.mk rfl _ rfl (Below.refl _ _) rfl
    refine AllCalm.cons (fun W hB hd => ?_) ?_
    · obtain ⟨h11, h9, h0, h1, h2, h3, h4, h5, h6, h7, h8, -, h10, -, -⟩ := hd
      have h11 : f 11 = _ := h11
      have h9 : f 9 = _ := h9
      have h0 : f 0 = _ := h0
      have h1 : f 1 = _ := h1
      have h2 : f 2 = _ := h2
      have h3 : f 3 = _ := h3
      have h4 : f 4 = _ := h4
      have h5 : f 5 = _ := h5
      have h6 : f 6 = _ := h6
      have h7 : f 7 = _ := h7
      have h8 : f 8 = _ := h8
      have h10 : f 10 = _ := h10
      rw [h11, h9, h0, h1, h2, h3, h4, h5, h6, h7, h8, h10]
      go_wp2_with (fail)
      exact CalmQ.mk rfl _ rfl (Below.refl _ _) rfl
    exact AllCalm.nil
  · intro W hB hT
    obtain ⟨h0, h1, h2, h3, h4, h5, h6, h7, h8, h9, h10, h11, h12, h13, -⟩ := hT
    have h0 : f 0 = _ := h0
    have h1 : f 1 = _ := h1
    have h2 : f 2 = _ := h2
    have h3 : f 3 = _ := h3
    have h4 : f 4 = _ := h4
    have h5 : f 5 = _ := h5
    have h6 : f 6 = _ := h6
    have h7 : f 7 = _ := h7
    have h8 : f 8 = _ := h8
    have h9 : f 9 = _ := h9
    have h10 : f 10 = _ := h10
    have h11 : f 11 = _ := h11
    have h12 : f 12 = _ := h12
    have h13 : f 13 = _ := h13
    rw [h0, h1, h2, h3, h4, h5, h6, h7, h8, h9, h10, h11, h12, h13]
    clear h0 h1 h2 h3 h4 h5 h6 h7 h8 h9 h10 h11 h12 h13
    simp only [List.drop_succ_cons, List.drop_zero]
    have BW := (Below.refl _ w).drew.trans hB
    have hW := h.below BW
    have k2 := hW.mem.cell 2
    have f2 := hW.mem.free 2
    have h2 := hW.ok
    have k1 := h2.mem.cell 1
    have f1 := h2.mem.free 1
    have E2 : Eff (fun q => q = C) w (W.setCell ⟨C, 2, none⟩ (.bool false)) := (Eff.of (S := fun q => q = C) BW).trans (Eff.setCell (S := fun q => q = C) (Eff.refl _ _) (p := ⟨C, 2, none⟩) rfl _) fun _ _ h => h
    have hF := h2.put (q := pn) HP.out
    have EF := Eff.setCell (S := fun q => q = C) E2 (p := ⟨C, 1, none⟩) rfl (.int .i64 (pn : Nat))
    clear h2 E2
    go_wp2
    go_ret
    exact ⟨rfl, hF, EF⟩
theorem sliced_own {A : Option Addr} {a e c n m q : Nat} (h : (sliced A a e c 1).ownBlock = some q) : (Value.slice A n m).ownBlock = some q := by
  cases A with
  | none => unfold sliced at h; split at h <;> cases h
  | some p =>
    unfold sliced at h
    split at h
    · exact h
    · have e : (p.add (a * 1)).block = p.block := by unfold Addr.add; split <;> rfl
      have h2 : some (p.add (a * 1)).block = some q := h
      rw [e] at h2
      exact h2
theorem sl_piece {w : World} {B n c : Nat} {A : Option Addr} {xs : List Value} (h : Sl w B (.slice A n c) n xs) (a m : Nat) (ham : a + m ≤ n) : Sl w B (sliced A a (a + m) c 1) m ((xs.drop a).take m) := by
  obtain ⟨h0, A', c', hv, h1, h2, h3⟩ := h
  simp only [Value.slice.injEq] at hv
  obtain ⟨rfl, -, rfl⟩ := hv
  have hl : ((xs.drop a).take m).length = m := by rw [List.length_take, List.length_drop]; omega
  refine ⟨hl, _, c - a, by unfold sliced; rw [Nat.add_sub_cancel_left], by omega, by omega, fun hne => ?_⟩
  have hm : 0 < m := by
    rw [← hl]
    exact List.length_pos_iff.2 hne
  have hx : xs ≠ [] := by
    rintro rfl
    simp at hne
  obtain ⟨b, off, rfl, h4, h5⟩ := h3 hx
  refine ⟨b, off + a, ?_, h4, fun j u hu => ?_⟩
  · rw [if_neg (by omega)]
    simp [Addr.add]
  · rw [List.getElem?_take] at hu
    split at hu
    · rw [List.getElem?_drop] at hu
      have := h5 (a + j) u hu
      rwa [← Nat.add_assoc] at this
    · cases hu
set_option maxHeartbeats 2000000 in
theorem row_any (h : CurM w C A c L p) (k : Nat) (hk : beVal ((L.drop p).take 2) = k) (hp : p + 2 + k ≤ L.length) : Calls Try.prog 19 #[.pointer (some ⟨C, 0, none⟩)] w fun e w' => ∃ A' c', e = .returned (.slice A' k c') ∧ w'.ownsRow w.heap.size 5 1 (.slice A' k c') k (bs ((L.drop (p + 2)).take k)) ∧ CurM w' C A c L (p + 2 + k) ∧ Eff (fun q => q = C) w w' := by
  obtain ⟨i0, hi, hz0, hz1, hz2⟩ := info_parts info_u8
  have hfew := h.few
  have cN : Calls Try.prog 50 #[.pointer (some ⟨C, 0, none⟩), .int .i64 2] w fun e w' => e = .returned (.int .u64 (k : Nat)) ∧ CurM w' C A c L (p + 2) ∧ Eff (fun q => q = C) w w' := by
    have q := number_any h 2 (by decide) (by omega)
    rw [hk] at q
    exact q
  obtain ⟨p2, hp2⟩ : ∃ p2, p + 2 = p2 := ⟨_, rfl⟩
  obtain ⟨pe, hpe⟩ : ∃ pe, p2 + k = pe := ⟨_, rfl⟩
  rw [hp2] at cN hp ⊢
  rw [hpe] at hp ⊢
  obtain ⟨xk, hxk⟩ : ∃ xk, (L.drop p2).take k = xk := ⟨_, rfl⟩
  have hxl : xk.length = k := by rw [← hxk, List.length_take, List.length_drop]; omega
  have hsl : ∀ W, (Instr.slice 22 (.slice A L.length c) (some (.int .i64 (p2 : Nat))) (some (.int .i64 (pe : Nat))) none).run Try.prog W = .ok (sliced A p2 pe c 1) W := by
    intro W
    have hc : L.length ≤ c := by
      obtain ⟨A', c', hv, h1, _⟩ := h.sl.form
      injection hv with _ _ e
      omega
    have h1 := run_slice_lh (P := Try.prog) (w := W) 22 A L.length c (by kernel_rfl) .i64 .i64 (p2 : Int) (pe : Int) (by omega) (by omega) (by omega)
    rw [h1, show Try.prog.elem 22 = 5 by kernel_rfl, show (sizeOf 5).run Try.prog W = .ok 1 W by simp [sizeOf, typeInfo, hi, hz1]]
    simp only [Result.andThen]
    rw [show ((p2 : Int)).toNat = p2 by omega, show ((pe : Nat) : Int).toNat = pe by omega]
  have hpc : ∀ W, CurM W C A c L pe → Sl W W.heap.size (sliced A p2 pe c 1) k (bs xk) := fun W hW => by
    have q := sl_piece hW.now p2 k (by omega)
    rw [hpe] at q
    have e : ((bs L).drop p2).take k = bs xk := by
      rw [← hxk]
      unfold bs
      rw [← List.map_drop, ← List.map_take]
    rw [e] at q
    exact q
  have hform : ∃ A3 c3, sliced A p2 pe c 1 = .slice A3 k c3 := ⟨_, _, by unfold sliced; rw [show pe - p2 = k by omega]⟩
  obtain ⟨A3, c3, hA3⟩ := hform
  rw [hA3] at hsl hpc
  have h1x : (k : Int) ≤ (L.length : Int) - (p2 : Int) := by omega
  have h1y : ¬ (L.length : Int) - (p2 : Int) < (k : Int) := by omega
  have hpi : (p2 : Int) + (k : Int) = (pe : Int) := by omega
  have hpj : (pe : Int) - (k : Int) = (p2 : Int) := by omega
  have hLx : (L.length : Int) ≤ 100000 := by omega
  have hp2x : (p2 : Int) ≤ 100000 := by omega
  have hkx : (k : Int) ≤ 100000 := by omega
  have hpex : (pe : Int) ≤ 100000 := by omega
  have hk9 : 0 + k ≤ 17592186044416 := by omega
  have HP := Lib.hid hp
  have HXK := Lib.hid hxk
  clear hk hp hfew hp2 hpe hA3 hxk
  go_enter Try.func19, Try.ntmps19
  go_upto_region 2 with (go_at_call 50; (with_reducible refine cN.mono ?_); rintro e' w2 ⟨rfl, H2, E2⟩)
  apply calm_region [.is _, .is _, .is _, .is _, .is _, .is _, .is _, .is _, .is _, .is _, .is _, .is _, .is _, .is _, .is _, .is _, .is (.bool false), .is (.bool false)] [[], [0], [1], [2], [3], [4], [4], [6, 4], [7, 4], [8, 4], [9, 4], [4], [11, 4], [12, 4], [13, 4], [10, 14, 4], [5, 15, 4], [4, 16]] (by kernel_rfl) (by kernel_rfl) (by kernel_rfl) rfl
  intro f a1 ha1
  simp only [putL, Act.put, List.setIfInBounds_toArray, List.set_cons_succ, List.set_cons_zero] at ha1
  subst ha1
  refine ⟨?_, ?_⟩
  · refine AllCalm.cons (fun W hB hd => ?_) ?_
    · go_wp2_with (fail)
      exact CalmQ.mk rfl _ rfl (Below.refl _ _) rfl
    refine AllCalm.cons (fun W hB hd => ?_) ?_
    · obtain ⟨h0, -⟩ := hd
      have h0 : f 0 = _ := h0
      rw [h0]
      go_wp2_with (fail)
      exact CalmQ.mk rfl _ rfl (Below.refl _ _) rfl
    refine AllCalm.cons (fun W hB hd => ?_) ?_
    · obtain ⟨h1, -⟩ := hd
      have h1 : f 1 = _ := h1
      rw [h1]
      go_wp2_with (fail)
      exact CalmQ.mk rfl _ rfl (Below.refl _ _) rfl
    refine AllCalm.cons (fun W hB hd => ?_) ?_
    · obtain ⟨h2, -⟩ := hd
      have h2 : f 2 = _ := h2
      rw [h2]
      have q0 := (H2.below hB).mem.cell 2
      go_wp2_with (fail)
      exact CalmQ.mk rfl _ rfl (Below.refl _ _) rfl
    refine AllCalm.cons (fun W hB hd => ?_) ?_
    · obtain ⟨h3, -⟩ := hd
      have h3 : f 3 = _ := h3
      rw [h3]
      go_wp2_with (fail)
      exact CalmQ.mk rfl _ rfl (Below.refl _ _) rfl
    refine AllCalm.cons (fun W hB hd => ?_) ?_
    · obtain ⟨h4, -⟩ := hd
      have h4 : f 4 = _ := h4
      rw [h4]
      go_wp2_with (fail)
      exact CalmQ.mk rfl _ rfl (Below.refl _ _) rfl
    refine AllCalm.cons (fun W hB hd => ?_) ?_
    · obtain ⟨h4, -⟩ := hd
      have h4 : f 4 = _ := h4
      rw [h4]
      go_wp2_with (fail)
      exact CalmQ.mk rfl _ rfl (Below.refl _ _) rfl
    refine AllCalm.cons (fun W hB hd => ?_) ?_
    · obtain ⟨h6, h4, -⟩ := hd
      have h6 : f 6 = _ := h6
      have h4 : f 4 = _ := h4
      rw [h6, h4]
      go_wp2_with (fail)
      exact CalmQ.mk rfl _ rfl (Below.refl _ _) rfl
    refine AllCalm.cons (fun W hB hd => ?_) ?_
    · obtain ⟨h7, h4, -⟩ := hd
      have h7 : f 7 = _ := h7
      have h4 : f 4 = _ := h4
      rw [h7, h4]
      go_wp2_with (fail)
      exact CalmQ.mk rfl _ rfl (Below.refl _ _) rfl
    refine AllCalm.cons (fun W hB hd => ?_) ?_
    · obtain ⟨h8, h4, -⟩ := hd
      have h8 : f 8 = _ := h8
      have h4 : f 4 = _ := h4
      rw [h8, h4]
      have q0 := (H2.below hB).mem.cell 0
      go_wp2_with (fail)
      exact CalmQ.mk rfl _ rfl (Below.refl _ _) rfl
    refine AllCalm.cons (fun W hB hd => ?_) ?_
    · obtain ⟨h9, h4, -⟩ := hd
      have h9 : f 9 = _ := h9
      have h4 : f 4 = _ := h4
      rw [h9, h4]
      go_wp2_with (fail)
      exact CalmQ.mk rfl _ rfl (Below.refl _ _) rfl
    refine AllCalm.cons (fun W hB hd => ?_) ?_
    · obtain ⟨h4, -⟩ := hd
      have h4 : f 4 = _ := h4
      rw [h4]
      go_wp2_with (fail)
      exact CalmQ.mk rfl _ rfl (Below.refl _ _) rfl
    refine AllCalm.cons (fun W hB hd => ?_) ?_
    · obtain ⟨h11, h4, -⟩ := hd
      have h11 : f 11 = _ := h11
      have h4 : f 4 = _ := h4
      rw [h11, h4]
      go_wp2_with (fail)
      exact CalmQ.mk rfl _ rfl (Below.refl _ _) rfl
    refine AllCalm.cons (fun W hB hd => ?_) ?_
    · obtain ⟨h12, h4, -⟩ := hd
      have h12 : f 12 = _ := h12
      have h4 : f 4 = _ := h4
      rw [h12, h4]
      go_wp2_with (fail)
      exact CalmQ.mk rfl _ rfl (Below.refl _ _) rfl
    refine AllCalm.cons (fun W hB hd => ?_) ?_
    · obtain ⟨h13, h4, -⟩ := hd
      have h13 : f 13 = _ := h13
      have h4 : f 4 = _ := h4
      rw [h13, h4]
      have q0 := (H2.below hB).mem.cell 1
      go_wp2_with (fail)
      exact CalmQ.mk rfl _ rfl (Below.refl _ _) rfl
    refine AllCalm.cons (fun W hB hd => ?_) ?_
    · obtain ⟨h10, h14, h4, -⟩ := hd
      have h10 : f 10 = _ := h10
      have h14 : f 14 = _ := h14
      have h4 : f 4 = _ := h4
      rw [h10, h14, h4]
      go_wp2_with (fail)
      exact CalmQ.mk rfl _ rfl (Below.refl _ _) rfl
    refine AllCalm.cons (fun W hB hd => ?_) ?_
    · obtain ⟨h5, h15, h4, -⟩ := hd
      have h5 : f 5 = _ := h5
      have h15 : f 15 = _ := h15
      have h4 : f 4 = _ := h4
      rw [h5, h15, h4]
      go_wp2_with (fail)
      refine CalmQ.mk rfl _ rfl (Below.refl _ _) ?_; show _ = Value.bool false; simp; omega
    refine AllCalm.cons (fun W hB hd => ?_) ?_
    · obtain ⟨h4, h16, -⟩ := hd
      have h4 : f 4 = _ := h4
      have h16 : f 16 = _ := h16
      rw [h4, h16]
      go_wp2_with (fail)
      exact CalmQ.mk rfl _ rfl (Below.refl _ _) rfl
    exact AllCalm.nil
  · intro W hB hT
    obtain ⟨h0, h1, h2, h3, h4, h5, h6, h7, h8, h9, h10, h11, h12, h13, h14, h15, h16, h17, -⟩ := hT
    have h0 : f 0 = _ := h0
    have h1 : f 1 = _ := h1
    have h2 : f 2 = _ := h2
    have h3 : f 3 = _ := h3
    have h4 : f 4 = _ := h4
    have h5 : f 5 = _ := h5
    have h6 : f 6 = _ := h6
    have h7 : f 7 = _ := h7
    have h8 : f 8 = _ := h8
    have h9 : f 9 = _ := h9
    have h10 : f 10 = _ := h10
    have h11 : f 11 = _ := h11
    have h12 : f 12 = _ := h12
    have h13 : f 13 = _ := h13
    have h14 : f 14 = _ := h14
    have h15 : f 15 = _ := h15
    have h16 : f 16 = _ := h16
    have h17 : f 17 = _ := h17
    rw [h0, h1, h2, h3, h4, h5, h6, h7, h8, h9, h10, h11, h12, h13, h14, h15, h16, h17]
    clear h0 h1 h2 h3 h4 h5 h6 h7 h8 h9 h10 h11 h12 h13 h14 h15 h16 h17
    have H3 := H2.below hB
    have E3 : Eff (fun q => q = C) w W := E2.trans (Eff.of (S := fun q => q = C) hB) fun _ _ h => h
    generalize W = W0 at *
    have k1 := H3.mem.cell 1
    have f1 := H3.mem.free 1
    go_upto_region 6 with (fail)
    obtain ⟨w4, e4, H4, E4⟩ : ∃ w4, w4 = W0.setCell ⟨C, 1, none⟩ (.int .i64 (pe : Nat)) ∧ CurM w4 C A c L pe ∧ Eff (fun q => q = C) w w4 := ⟨_, rfl, H3.put HP.out, Eff.setCell (S := fun q => q = C) E3 (p := ⟨C, 1, none⟩) rfl _⟩
    rw [← e4]
    clear e4 k1 f1 H3 E3 H2 E2
    apply calm_tail 15 [.is _, .is _, .is _, .is _, .is _, .is _, .is _, .is _, .is _, .is _, .is _, .is _, .is _, .is _, .is (.slice A3 k c3)] [[], [0], [1], [2], [], [4], [5], [6], [], [7, 8], [], [10], [11], [12], [3, 9, 13]] (by kernel_rfl) (by kernel_rfl) (by kernel_rfl) rfl
    intro f a1 ha1
    simp only [List.take_succ_cons, List.take_zero, putL, Act.put, List.setIfInBounds_toArray, List.set_cons_succ, List.set_cons_zero] at ha1
    subst ha1
    refine ⟨?_, ?_⟩
    · refine AllCalm.cons (fun W hB hd => ?_) ?_
      · go_wp2_with (fail)
        exact CalmQ.mk rfl _ rfl (Below.refl _ _) rfl
      refine AllCalm.cons (fun W hB hd => ?_) ?_
      · obtain ⟨h0, -⟩ := hd
        have h0 : f 0 = _ := h0
        rw [h0]
        go_wp2_with (fail)
        exact CalmQ.mk rfl _ rfl (Below.refl _ _) rfl
      refine AllCalm.cons (fun W hB hd => ?_) ?_
      · obtain ⟨h1, -⟩ := hd
        have h1 : f 1 = _ := h1
        rw [h1]
        go_wp2_with (fail)
        exact CalmQ.mk rfl _ rfl (Below.refl _ _) rfl
      refine AllCalm.cons (fun W hB hd => ?_) ?_
      · obtain ⟨h2, -⟩ := hd
        have h2 : f 2 = _ := h2
        rw [h2]
        have q0 := (H4.below hB).mem.cell 0
        go_wp2_with (fail)
        exact CalmQ.mk rfl _ rfl (Below.refl _ _) rfl
      refine AllCalm.cons (fun W hB hd => ?_) ?_
      · go_wp2_with (fail)
        exact CalmQ.mk rfl _ rfl (Below.refl _ _) rfl
      refine AllCalm.cons (fun W hB hd => ?_) ?_
      · obtain ⟨h4, -⟩ := hd
        have h4 : f 4 = _ := h4
        rw [h4]
        go_wp2_with (fail)
        exact CalmQ.mk rfl _ rfl (Below.refl _ _) rfl
      refine AllCalm.cons (fun W hB hd => ?_) ?_
      · obtain ⟨h5, -⟩ := hd
        have h5 : f 5 = _ := h5
        rw [h5]
        go_wp2_with (fail)
        exact CalmQ.mk rfl _ rfl (Below.refl _ _) rfl
      refine AllCalm.cons (fun W hB hd => ?_) ?_
      · obtain ⟨h6, -⟩ := hd
        have h6 : f 6 = _ := h6
        rw [h6]
        have q0 := (H4.below hB).mem.cell 1
        go_wp2_with (fail)
        exact CalmQ.mk rfl _ rfl (Below.refl _ _) rfl
      refine AllCalm.cons (fun W hB hd => ?_) ?_
      · go_wp2_with (fail)
        exact CalmQ.mk rfl _ rfl (Below.refl _ _) rfl
      refine AllCalm.cons (fun W hB hd => ?_) ?_
      · obtain ⟨h7, h8, -⟩ := hd
        have h7 : f 7 = _ := h7
        have h8 : f 8 = _ := h8
        rw [h7, h8]
        go_wp2_with (fail)
        exact CalmQ.mk rfl _ rfl (Below.refl _ _) rfl
      refine AllCalm.cons (fun W hB hd => ?_) ?_
      · go_wp2_with (fail)
        exact CalmQ.mk rfl _ rfl (Below.refl _ _) rfl
      refine AllCalm.cons (fun W hB hd => ?_) ?_
      · obtain ⟨h10, -⟩ := hd
        have h10 : f 10 = _ := h10
        rw [h10]
        go_wp2_with (fail)
        exact CalmQ.mk rfl _ rfl (Below.refl _ _) rfl
      refine AllCalm.cons (fun W hB hd => ?_) ?_
      · obtain ⟨h11, -⟩ := hd
        have h11 : f 11 = _ := h11
        rw [h11]
        go_wp2_with (fail)
        exact CalmQ.mk rfl _ rfl (Below.refl _ _) rfl
      refine AllCalm.cons (fun W hB hd => ?_) ?_
      · obtain ⟨h12, -⟩ := hd
        have h12 : f 12 = _ := h12
        rw [h12]
        have q0 := (H4.below hB).mem.cell 1
        go_wp2_with (fail)
        exact CalmQ.mk rfl _ rfl (Below.refl _ _) rfl
      refine AllCalm.cons (fun W hB hd => ?_) ?_
      · obtain ⟨h3, h9, h13, -⟩ := hd
        have h3 : f 3 = _ := h3
        have h9 : f 9 = _ := h9
        have h13 : f 13 = _ := h13
        rw [h3, h9, h13]
        go_wp2_with (fail)
        exact CalmQ.mk rfl _ rfl (Below.refl _ _) rfl
      exact AllCalm.nil
    · intro W hB hT
      obtain ⟨h0, h1, h2, h3, h4, h5, h6, h7, h8, h9, h10, h11, h12, h13, h14, -⟩ := hT
      have h0 : f 0 = _ := h0
      have h1 : f 1 = _ := h1
      have h2 : f 2 = _ := h2
      have h3 : f 3 = _ := h3
      have h4 : f 4 = _ := h4
      have h5 : f 5 = _ := h5
      have h6 : f 6 = _ := h6
      have h7 : f 7 = _ := h7
      have h8 : f 8 = _ := h8
      have h9 : f 9 = _ := h9
      have h10 : f 10 = _ := h10
      have h11 : f 11 = _ := h11
      have h12 : f 12 = _ := h12
      have h13 : f 13 = _ := h13
      have h14 : f 14 = _ := h14
      rw [h0, h1, h2, h3, h4, h5, h6, h7, h8, h9, h10, h11, h12, h13, h14]
      clear h0 h1 h2 h3 h4 h5 h6 h7 h8 h9 h10 h11 h12 h13 h14
      simp only [List.drop_succ_cons, List.drop_zero]
      have H5 := H4.below hB
      have s5 := hpc W H5
      go_wp2_with (at_builtin; (refine wpList_append_sl _ rfl (.const (.slice none 0 0)) (.tmp 50) _ rfl W.heap.size 5 i0 _ Try.underlying22 hi hz0 hz1 (by omega) rfl (.slice none 0 0) 0 [] rfl (World.ownsRow_nil _ _ _ _) W.heap.size (.slice A3 k c3) k (bs xk) rfl s5 bs_one hk9 (Nat.le_refl _) ?_); intro v6 w6 ho6 hg6 hat6; have b6 := (Below.refl _ W).grown hg6 (Nat.le_refl _) (fun k hk => (by cases hk)); have ho6' : w6.ownsRow W.heap.size 5 1 v6 k (bs xk) := (by simpa using ho6); clear ho6; obtain ⟨A6, c6, rfl, _, _⟩ := own_form ho6')
      go_ret
      have EW : Eff (fun q => q = C) w W := E4.trans (Eff.of (S := fun q => q = C) hB) fun _ _ h => h
      exact ⟨A6, c6, rfl, by rw [HXK.out]; exact owns_mono ho6' EW.size, H5.below b6, EW.trans (Eff.of (S := fun q => q = C) b6) fun _ _ h => h⟩
end
end Un
end Go.Proofs.Ytpkebbibafldkaa
