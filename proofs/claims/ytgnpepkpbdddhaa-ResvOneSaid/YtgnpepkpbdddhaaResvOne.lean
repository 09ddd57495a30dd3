/- ResvOne: for all acts the statement's function tells true and turns nothing that was there. No condition. -/
import Derived.Test.YtgnpepkpbdddhaaActV
import Derived.BigQuiet
import Derived.Deep.QuietTactic
namespace Go.Proofs.Ytgnpepkpbdddhaa
open Go.ChangeShapes Go.WideShapes Go.ChangeAt Go.RowKit Go.Lib
set_option linter.unusedVariables false
set_option linter.unusedSimpArgs false
namespace Rv
theorem may_self (t : RT) (kind : Int) : t.may t.holder kind = true := by unfold RT.may; rw [if_pos (.inr rfl)]
theorem may_8 (t : RT) (h : Int) : t.may h 8 = true := by
  unfold RT.may
  split
  · rfl
  · split
    · rfl
    · rfl
theorem may_reg {t : RT} {q k : Nat} (h : t.holder = (q : Nat)) (hk : k < 8) (ht : t.typ = 5 ∨ t.typ = 6) (ha : t.at_ k ≠ 0) (kind : Int) : t.may (k : Nat) kind = true := by
  unfold RT.may
  split
  · rfl
  · rw [if_pos ⟨ht, by rw [t.key_nat k hk]; exact ha⟩]
theorem may_no3 {t : RT} {q k : Nat} (h : t.holder = (q : Nat)) (hk : k < 8) (hq : k ≠ q) (hn : ¬ ((t.typ = 5 ∨ t.typ = 6) ∧ t.at_ k ≠ 0)) : t.may (k : Nat) 3 = false := by
  unfold RT.may
  rw [if_neg (by rw [h]; omega), if_neg (by rw [t.key_nat k hk]; exact hn)]
  rfl
theorem may_no2 {t : RT} {q k : Nat} (h : t.holder = (q : Nat)) (hk : k < 8) (hq : k ≠ q) (hn : ¬ ((t.typ = 5 ∨ t.typ = 6) ∧ t.at_ k ≠ 0)) : t.may (k : Nat) 2 = decide (t.typ = 1 ∨ t.typ = 5) := by
  unfold RT.may
  rw [if_neg (by rw [h]; omega), if_neg (by rw [t.key_nat k hk]; exact hn)]
  rfl
set_option maxRecDepth 100000 in
set_option maxHeartbeats 2000000 in
theorem walk (v : Value) (acs : List Act15) (w : World) (hv : Acts w w.heap.size v acs) : Calls Try.prog 3 #[v] w fun e w' => e = .returned (.bool true) ∧ Below w.heap.size w w' := by
  obtain ⟨A0, c0, rfl, hc1, hc2⟩ := hv.form
  by_cases h60 : acs.length ≤ 60
  · have h60x : (acs.length : Int) ≤ 60 := by omega
    go_enter Try.func3, Try.ntmps3
    go_wp2_with (first
      | (go_at_call 6; refine (known_any _).mono ?_; rintro e w1 ⟨rfl, hb1⟩)
      | (go_at_call 7; (with_reducible refine (new_any _).mono ?_); rintro e w2 ⟨Y, rfl, hY, h2, hb2⟩))
    have hB2 : Below w.heap.size w w2 := hb1.trans (hb2.mono hb1.size)
    have hYw : w.heap.size ≤ Y := Nat.le_trans hb1.size hY
    clear hb1 hb2 hY
    go_loopw [4] (fun s4 wr => ∃ (t : RT) (i : Nat), i ≤ acs.length ∧ s4 = .int .i64 (i : Nat) ∧ TabM wr Y t ∧ Hid (t.Ok ∧ t.gen ≤ i) ∧ Below w.heap.size w wr) (fun s4 _ => acs.length - (intOf s4).toNat)
    case atStart => exact ⟨_, 0, Nat.zero_le _, rfl, h2, Lib.hid ⟨ok_zero, Nat.le_refl _⟩, hB2⟩
    case round =>
      clear h2 hB2
      obtain ⟨t, i, hi, rfl, ht, HT, hB⟩ := hrel
      by_cases hlt : i < acs.length
      · have hltx : (i : Int) < (acs.length : Int) := by omega
        obtain ⟨b0, f0, rfl, hb0, x0, x1, x2, x3, x4⟩ := hv.at_ hlt
        generalize acs[i] = a at *
        obtain ⟨op, host, key, other, ty⟩ := a
        simp only at x0 x1 x2 x3 x4
        have hdo : ∀ (X : Nat) (W : World), Below wr.heap.size wr W → FM W X → wr.heap.size ≤ X → Calls Try.prog 8 #[.pointer (some ⟨Y, 0, none⟩), .pointer (some ⟨X, 0, none⟩), .agg #[.int .i64 op, .int .i64 host, .int .u64 (key : Nat), .int .u64 (other : Nat), .int .i64 ty]] W fun e w' => ∃ (b : Bool) (t' : RT), e = .returned (.bool b) ∧ TabM w' Y t' ∧ Hid (t'.Ok ∧ t'.gen ≤ i + 1) ∧ Below w.heap.size w w' := fun X W hW hX hXw => (do_any (ht.below hW) HT.out.1 (by have := HT.out.2; omega) hX (by have := ht.mem.lt; omega) op host key other ty).mono fun e w' ⟨b, t', h1, h2, h3, h4, h5⟩ => ⟨b, t', h1, h2, Lib.hid ⟨h3, by have := HT.out.2; omega⟩, h5.below (hB.trans (hW.mono hB.size)) (Nat.le_trans hB.size hW.size) fun k hk hs => by have := hB.size; rcases hs with rfl | rfl <;> omega⟩
        have y0 : ∀ W, Below wr.heap.size wr W → W.cell? ⟨b0, f0 + i * 5, none⟩ = _ := fun W hW => ((hB.trans (hW.mono hB.size)).cell (p := ⟨b0, f0 + i * 5, none⟩) hb0).trans x0
        have y1 : ∀ W, Below wr.heap.size wr W → W.cell? ⟨b0, f0 + i * 5 + 1, none⟩ = _ := fun W hW => ((hB.trans (hW.mono hB.size)).cell (p := ⟨b0, f0 + i * 5 + 1, none⟩) hb0).trans x1
        have y2 : ∀ W, Below wr.heap.size wr W → W.cell? ⟨b0, f0 + i * 5 + 2, none⟩ = _ := fun W hW => ((hB.trans (hW.mono hB.size)).cell (p := ⟨b0, f0 + i * 5 + 2, none⟩) hb0).trans x2
        have y3 : ∀ W, Below wr.heap.size wr W → W.cell? ⟨b0, f0 + i * 5 + 3, none⟩ = _ := fun W hW => ((hB.trans (hW.mono hB.size)).cell (p := ⟨b0, f0 + i * 5 + 3, none⟩) hb0).trans x3
        have y4 : ∀ W, Below wr.heap.size wr W → W.cell? ⟨b0, f0 + i * 5 + 4, none⟩ = _ := fun W hW => ((hB.trans (hW.mono hB.size)).cell (p := ⟨b0, f0 + i * 5 + 4, none⟩) hb0).trans x4
        clear x0 x1 x2 x3 x4 ht hB HT
        go_wp2_with fail
        apply calm_tail 6 [.is (.pointer (some ⟨Y, 0, none⟩)), .of (fun u W => ∃ X, u = .pointer (some ⟨X, 0, none⟩) ∧ wr.heap.size ≤ X ∧ FM W X) (fun u W W' hb ⟨X, hu, h1, h2⟩ => ⟨X, hu, h1, Mem.below h2 hb (Mem.lt h2)⟩), .is (.slice (some ⟨b0, f0, none⟩) acs.length c0), .is (.int .i64 i), .is (.pointer (some ⟨b0, f0 + i * 5, none⟩)), .is (.agg #[.int .i64 op, .int .i64 host, .int .u64 (key : Nat), .int .u64 (other : Nat), .int .i64 ty])] [[], [], [], [], [2, 3], [4]] (by kernel_rfl) (by kernel_rfl) (by kernel_rfl) rfl
        intro f a1 ha1
        simp only [List.take_succ_cons, List.take_zero, putL, Act.put, List.setIfInBounds_toArray, List.set_cons_succ, List.set_cons_zero] at ha1
        subst ha1
        refine ⟨?_, ?_⟩
        · refine AllCalm.cons (fun W hB hd => ?_) ?_
          · go_wp2_with (fail)
            exact CalmQ.mk rfl _ rfl (Below.refl _ _) rfl
          refine AllCalm.cons (fun W hB hd => ?_) ?_
          · go_wp2_with ((go_at_call 9; (with_reducible refine (fnew_any _).mono ?_); rintro e wf ⟨X, rfl, hX, hf, hbf⟩))
            exact CalmQ.mk rfl _ rfl hbf ⟨X, rfl, Nat.le_trans hB.size hX, hf⟩
          refine AllCalm.cons (fun W hB hd => ?_) ?_
          · go_wp2_with (fail)
            exact CalmQ.mk rfl _ rfl (Below.refl _ _) rfl
          refine AllCalm.cons (fun W hB hd => ?_) ?_
          · go_wp2_with (fail)
            exact CalmQ.mk rfl _ rfl (Below.refl _ _) rfl
          refine AllCalm.cons (fun W hB hd => ?_) ?_
          · obtain ⟨h2, h3, -⟩ := hd
            have h2 : f 2 = _ := h2
            have h3 : f 3 = _ := h3
            rw [h2, h3]
            go_wp2_with (fail)
            exact CalmQ.mk rfl _ rfl (Below.refl _ _) rfl
          refine AllCalm.cons (fun W hB hd => ?_) ?_
          · obtain ⟨h4, -⟩ := hd
            have h4 : f 4 = _ := h4
            rw [h4]
            have z0 := y0 W hB; have z1 := y1 W hB; have z2 := y2 W hB; have z3 := y3 W hB; have z4 := y4 W hB
            go_wp2_with (fail)
            exact CalmQ.mk rfl _ rfl (Below.refl _ _) rfl
          exact AllCalm.nil
        · intro W hB hT
          obtain ⟨h0, h1, h2, h3, h4, h5, -⟩ := hT
          have h0 : f 0 = _ := h0
          have h2 : f 2 = _ := h2
          have h3 : f 3 = _ := h3
          have h4 : f 4 = _ := h4
          have h5 : f 5 = _ := h5
          rw [h0, h2, h3, h4, h5]
          clear h0 h2 h3 h4 h5
          simp only [List.drop_succ_cons, List.drop_zero]
          obtain ⟨X, hX, hXw, hf⟩ := h1
          rw [hX]
          clear y0 y1 y2 y3 y4
          have hdo := hdo X W hB hf hXw
          clear hf
          go_wp2_with (go_at_call 8; (with_reducible refine hdo.mono ?_); rintro e w4 ⟨bd, t', rfl, h4, HT4, hB4⟩)
          clear hdo
          have HG4 : Hid (t'.Ok ∧ t'.gen ≤ i + 1) := HT4
          rcases HT4.out.1 with ⟨q1, q2⟩ | ⟨q, hq, q1, q2, q3⟩
          · have hho := holder_any h4
            rw [q1, q2] at hho
            have hho : Calls Try.prog 10 #[.pointer (some ⟨Y, 0, none⟩)] w4 fun e w' => e = .returned (.tuple #[.int .i64 (-1), .int .i64 0]) ∧ ∃ k, w' = w4.drewN k := hho
            clear q1 q2
            go_wp2_with (go_at_call 10; (with_reducible refine hho.mono ?_); rintro e w5 ⟨rfl, kg, rfl⟩)
            exact ⟨⟨t', i + 1, hlt, by go_num, ⟨h4.mem, h4.len⟩, HG4, below_drewN hB4 kg⟩, by simp [intOf]; omega⟩
          · have hho := holder_any h4
            rw [q1] at hho
            have hq7 : ¬ 7 < (q : Int) := by omega
            have hq0 : ¬ (q : Int) < 0 := by omega
            have hkey : ∀ (k : Nat), k < 8 → ∀ n, Calls Try.prog 11 #[.pointer (some ⟨Y, 0, none⟩), .int .i64 (k : Nat)] (w4.drewN n) fun e w' => e = .returned (.int .u64 (t'.at_ k : Nat)) ∧ (w4.drewN n) = w' := fun k hk n => by have := key_any (w := w4.drewN n) (t := t') (Y := Y) ⟨h4.mem, h4.len⟩ (k : Nat); rwa [t'.key_nat k hk] at this
            have hal : ∀ (k : Nat) (kind : Int) (b : Bool), (kind = 2 ∨ kind = 3 ∨ kind = 8) → t'.may (k : Nat) kind = b → ∀ n, Calls Try.prog 12 #[.pointer (some ⟨Y, 0, none⟩), .int .i64 (k : Nat), .int .i64 kind] (w4.drewN n) fun e w' => e = .returned (.bool b) ∧ (w4.drewN n) = w' := fun k kind b hk hb n => by have := allows_any (w := w4.drewN n) (t := t') (Y := Y) ⟨h4.mem, h4.len⟩ (k : Nat) kind hk; rwa [hb] at this
            have hkq := hkey q hq
            have hal3 := hal q 3 true (.inr (.inl rfl)) (by rw [← q1]; exact may_self _ _)
            have hqn : ((t'.at_ q : Nat) : Int) ≠ 0 := by omega
            have hqb : (((t'.at_ q : Nat) : Int) == 0) = false := beq_eq_false_iff_ne.2 hqn
            have HE : Hid (acs.length - i - 1 < acs.length - i) := Lib.hid (by omega)
            have fin : ∀ n, TabM (w4.drewN n) Y t' ∧ Below w.heap.size w (w4.drewN n) := fun n => ⟨⟨h4.mem, h4.len⟩, below_drewN hB4 n⟩
            generalize t'.at_ q = kq at *
            rcases q3 with e3 | e3 | e3 | e3
            all_goals
              rw [e3] at hho
              first
                | replace hho : Calls Try.prog 10 #[.pointer (some ⟨Y, 0, none⟩)] w4 fun e w' => e = .returned (.tuple #[.int .i64 (q : Nat), .int .i64 1]) ∧ ∃ k, w' = w4.drewN k := hho
                | replace hho : Calls Try.prog 10 #[.pointer (some ⟨Y, 0, none⟩)] w4 fun e w' => e = .returned (.tuple #[.int .i64 (q : Nat), .int .i64 3]) ∧ ∃ k, w' = w4.drewN k := hho
                | replace hho : Calls Try.prog 10 #[.pointer (some ⟨Y, 0, none⟩)] w4 fun e w' => e = .returned (.tuple #[.int .i64 (q : Nat), .int .i64 5]) ∧ ∃ k, w' = w4.drewN k := hho
                | replace hho : Calls Try.prog 10 #[.pointer (some ⟨Y, 0, none⟩)] w4 fun e w' => e = .returned (.tuple #[.int .i64 (q : Nat), .int .i64 6]) ∧ ∃ k, w' = w4.drewN k := hho
              go_wp2_with (first
                | (go_at_call 10; (with_reducible refine hho.mono ?_); rintro e w5 ⟨rfl, kg, rfl⟩)
                | (go_at_call 11; (with_reducible refine (hkq _).mono ?_); rintro e w6 ⟨rfl, rfl⟩)
                | (go_at_call 12; (with_reducible refine (hal3 _).mono ?_); rintro e w6 ⟨rfl, rfl⟩))
              go_loopw [7] (fun s7 wr2 => ∃ k : Nat, k ≤ 8 ∧ s7 = .int .i64 (k : Nat) ∧ w4.drewN kg = wr2) (fun s7 _ => 8 - (intOf s7).toNat)
              case atStart => exact ⟨0, by omega, rfl, rfl⟩
              case round =>
                obtain ⟨k, hk, rfl, rfl⟩ := hrel
                by_cases hk8 : k < 8
                · have hkx : (k : Int) < 8 := by omega
                  have c8 := hal k 8 true (.inr (.inr rfl)) (may_8 _ _)
                  have ck := hkey k hk8
                  by_cases hkq2 : k = q
                  · subst hkq2
                    have c3 := hal k 3 true (.inr (.inl rfl)) (by rw [← q1]; exact may_self _ _)
                    have c2 := hal k 2 true (.inl rfl) (by rw [← q1]; exact may_self _ _)
                    clear hal hkey hkq hal3 hho q1 q2 e3 h4 HT4
                    go_wp2_with (first
                      | (go_at_call 11; (with_reducible refine (ck _).mono ?_); rintro e w6 ⟨rfl, rfl⟩)
                      | (go_at_call 12; (with_reducible refine (c3 _).mono ?_); rintro e w6 ⟨rfl, rfl⟩)
                      | (go_at_call 12; (with_reducible refine (c2 _).mono ?_); rintro e w6 ⟨rfl, rfl⟩)
                      | (go_at_call 12; (with_reducible refine (c8 _).mono ?_); rintro e w6 ⟨rfl, rfl⟩))
                    exact ⟨⟨k + 1, hk8, by go_num, trivial⟩, by simp [intOf]; omega⟩
                  · have hkn : ((k : Int) == (q : Int)) = false := beq_eq_false_iff_ne.2 (by omega)
                    have hkm : ¬ (k : Int) = (q : Int) := by omega
                    by_cases hr : (t'.typ = 5 ∨ t'.typ = 6) ∧ t'.at_ k ≠ 0
                    · have c3 := hal k 3 true (.inr (.inl rfl)) (may_reg q1 hk8 hr.1 hr.2 _)
                      have c2 := hal k 2 true (.inl rfl) (may_reg q1 hk8 hr.1 hr.2 _)
                      obtain ⟨r1, r2⟩ := hr
                      have r3 : ¬ ((t'.at_ k : Nat) : Int) = 0 := by omega
                      have r4 : (((t'.at_ k : Nat) : Int) != 0) = true := bne_iff_ne.2 r3
                      generalize t'.at_ k = kk at *
                      rw [e3] at r1
                      simp at r1
                      all_goals
                        clear hal hkey hkq hal3 hho q1 q2 e3 h4 HT4
                        go_wp2_with (first
                          | (go_at_call 11; (with_reducible refine (ck _).mono ?_); rintro e w6 ⟨rfl, rfl⟩)
                          | (go_at_call 12; (with_reducible refine (c3 _).mono ?_); rintro e w6 ⟨rfl, rfl⟩)
                          | (go_at_call 12; (with_reducible refine (c2 _).mono ?_); rintro e w6 ⟨rfl, rfl⟩)
                          | (go_at_call 12; (with_reducible refine (c8 _).mono ?_); rintro e w6 ⟨rfl, rfl⟩))
                        exact ⟨⟨k + 1, hk8, by go_num, trivial⟩, by simp [intOf]; omega⟩
                    · have c3 := hal k 3 false (.inr (.inl rfl)) (may_no3 q1 hk8 hkq2 hr)
                      have c2 := hal k 2 _ (.inl rfl) (may_no2 q1 hk8 hkq2 hr)
                      have hz : t'.typ = 5 ∨ t'.typ = 6 → t'.at_ k = 0 := fun h => Classical.byContradiction fun e => hr ⟨h, e⟩
                      rw [e3] at c2 hz
                      first
                        | rw [decide_eq_true (by decide)] at c2
                        | rw [decide_eq_false (by decide)] at c2
                      first
                        | (rw [hz (by decide)] at ck; replace ck : ∀ n, Calls Try.prog 11 #[.pointer (some ⟨Y, 0, none⟩), .int .i64 (k : Nat)] (w4.drewN n) fun e w' => e = .returned (.int .u64 0) ∧ (w4.drewN n) = w' := ck)
                        | skip
                      clear hz hr
                      clear hal hkey hkq hal3 hho q1 q2 e3 h4 HT4
                      go_wp2_with (first
                        | (go_at_call 11; (with_reducible refine (ck _).mono ?_); rintro e w6 ⟨rfl, rfl⟩)
                        | (go_at_call 12; (with_reducible refine (c3 _).mono ?_); rintro e w6 ⟨rfl, rfl⟩)
                        | (go_at_call 12; (with_reducible refine (c2 _).mono ?_); rintro e w6 ⟨rfl, rfl⟩)
                        | (go_at_call 12; (with_reducible refine (c8 _).mono ?_); rintro e w6 ⟨rfl, rfl⟩))
                      exact ⟨⟨k + 1, hk8, by go_num, trivial⟩, by simp [intOf]; omega⟩
                · obtain rfl : k = 8 := by omega
                  have fg := fin kg
                  clear hal hkey hkq hal3 hho q1 q2 e3 h4 HT4 fin
                  go_wp2
                  exact ⟨⟨t', i + 1, hlt, by go_num, fg.1, HG4, fg.2⟩, by simp [intOf]; omega⟩
      · obtain rfl : i = acs.length := by omega
        go_wp2
        go_ret
        exact ⟨rfl, hB⟩
  · have h60x : 60 < (acs.length : Int) := by omega
    go_enter Try.func3, Try.ntmps3
    go_wp2_with (first
      | (go_at_call 6; refine (known_any _).mono ?_; rintro e w1 ⟨rfl, hb1⟩))
    go_ret
    exact ⟨rfl, hb1⟩
set_option maxRecDepth 100000 in
theorem lifted (os : Os) (started : os.Started) (H : Type) (enc : TypeId × Value → H) :
    ReturnsInHanded {} Try.checked os 3 .any (Rows.resvOneSpec.pre6 enc Try.prog Try.f3 Rows.resvOneRow.domain false) (Rows.resvOneSpec.post enc Try.prog Try.f3 false true false false) := by
  refine returnsInHanded_of_change (C := Try.checked) own started (by kernel_rfl) Try.func3
    (ChangeSpec.witness6 (enc := enc) (C := Try.checked) false ⟨#[], #[.slice none 0 0], []⟩ 8 (by kernel_rfl) (by kernel_rfl) (by kernel_rfl) (by kernel_rfl)) ?_
  intro W base args ds gs before hval0 hW hcnd _
  have hval : ∀ (j : Nat) t v, Try.f3.params[j]? = some t → args[j]? = some v → Value.okWide Try.prog W .any base t v := hval0
  have hW' := hW
  obtain ⟨p, q, hA0, hV, rfl, hfz, hnd⟩ := hW
  have hA : DataW.TrodAll enc Try.prog W 0 (fun _ => true) true Try.f3.params.toList args.toList ds p := hA0
  rw [Try.params3] at hA hval
  obtain ⟨v0, vs0, d0, ds0, p0, q0, hargs, rfl, rfl, h0, r0⟩ := trodAll_cons hA
  obtain ⟨rfl, rfl, rfl⟩ := trodAll_nil r0
  obtain rfl : args = #[v0] := by cases args; simp_all
  obtain ⟨rfl, rfl⟩ := trodVars_none hV
  obtain ⟨acs0, s0⟩ := open_acts (hval 0 22 v0 rfl rfl) h0
  refine (walk v0 acs0 W s0).mono fun e W' ⟨he, hb⟩ => ?_
  subst he
  exact ⟨_, rfl, law_post laidOut (by kernel_rfl) rfl (by kernel_rfl) Try.underlying4 rfl rfl rfl hW' hb⟩

theorem proved : Rows.ResvOneSaid :=
  OpenClaim.holds_of_wide 3 Try.f3 rfl rfl rfl rfl rfl rfl rfl ⟨rfl, rfl, rfl, rfl, rfl⟩ rfl rfl rfl rfl rfl (by kernel_rfl) Try.func3 (by kernel_rfl)
    (of_decide_eq_true (by kernel_rfl)) (by unfold Func.isWrapper; first | (rw [if_pos (by decide +kernel)]; kernel_rfl) | (rw [if_neg (by decide +kernel)]; exact ⟨rfl, rfl⟩))
    (fun os started H enc _ => lifted os started H enc)
end Rv
end Go.Proofs.Ytgnpepkpbdddhaa
