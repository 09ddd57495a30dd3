/- ResvLeaves: for all numbers the statement.s function tells true and turns nothing that was there. No condition. -/
import Derived.Test.YtgnpepkpbdddhaaRv9
import Derived.BigQuiet
import Derived.Deep.QuietTactic
namespace Go.Proofs.Ytgnpepkpbdddhaa
open Go.ChangeShapes Go.WideShapes Go.ChangeAt Go.RowKit Go.Lib
set_option linter.unusedVariables false
set_option linter.unusedSimpArgs false
namespace Rv
set_option maxRecDepth 100000 in
set_option maxHeartbeats 2000000 in
theorem walk (a0 a1 : Int) (a2 : Bool) (w : World) (b0 : 0 ≤ a0) (b1 : a0 ≤ 255) (b2 : 0 ≤ a1) (b3 : a1 ≤ 255) : Calls Try.prog 5 #[.int .u8 a0, .int .u8 a1, .bool a2] w fun e w' => e = .returned (.bool true) ∧ Below w.heap.size w w' := by
  have m3 := u8_and3 a0 b0 b1
  have c0 : ∀ (W : World) (Y : Nat), TabM W Y RT.zero → Calls Try.prog 13 #[.pointer (some ⟨Y, 0, none⟩), .int .i64 0, .int .u64 0, .int .u64 1, .bool false] W fun e w' => ∃ v', e = .returned v' ∧ TabM w' Y (RT.zero.put 0 1) ∧ Keeps Y W w' := fun W Y h => (reg_new h (by decide) 0 (by decide) 0 1 rfl (by decide)).mono fun e w' ⟨v, h1, _, h2, h3⟩ => ⟨_, h1, h2, h3⟩
  obtain ⟨y, hy, hy4⟩ : ∃ y : Nat, (y = 1 ∨ y = 3 ∨ y = 5 ∨ y = 6) ∧ ∀ W : World, (W.alloc (.cells #[.int .i64 1, .int .i64 3, .int .i64 5, .int .i64 6] 3)).cell? ⟨W.heap.size, (a0 % 4).toNat, none⟩ = some (.int .i64 (y : Nat)) := by
    have h4 : a0 % 4 = 0 ∨ a0 % 4 = 1 ∨ a0 % 4 = 2 ∨ a0 % 4 = 3 := by omega
    rcases h4 with e | e | e | e
    · exact ⟨1, .inl rfl, fun W => by rw [e]; exact (Mem.new W 3 #[.int .i64 1, .int .i64 3, .int .i64 5, .int .i64 6]).cell 0⟩
    · exact ⟨3, .inr (.inl rfl), fun W => by rw [e]; exact (Mem.new W 3 #[.int .i64 1, .int .i64 3, .int .i64 5, .int .i64 6]).cell 1⟩
    · exact ⟨5, .inr (.inr (.inl rfl)), fun W => by rw [e]; exact (Mem.new W 3 #[.int .i64 1, .int .i64 3, .int .i64 5, .int .i64 6]).cell 2⟩
    · exact ⟨6, .inr (.inr (.inr rfl)), fun W => by rw [e]; exact (Mem.new W 3 #[.int .i64 1, .int .i64 3, .int .i64 5, .int .i64 6]).cell 3⟩
  have q0 : 0 ≤ a0 % 4 := by omega
  have q1 : a0 % 4 < 4 := by omega
  go_enter Try.func5, Try.ntmps5
  go_wp2_with (first
    | (go_at_call 6; refine (known_any _).mono ?_; rintro e w1 ⟨rfl, hb1⟩)
    | (go_at_call 7; (with_reducible refine (new_any _).mono ?_); rintro e w2 ⟨Y, rfl, hY, h2, hb2⟩; have z2 := hy4 w2)
    | (go_at_call 13; (with_reducible refine (c0 _ _ (h2.below ((Below.refl _ w2).alloc (Nat.le_refl _) _))).mono ?_); rintro e w3 ⟨v3, rfl, h3, k3⟩))
  have hB2 : Below w.heap.size w w2 := hb1.trans (hb2.mono hb1.size)
  have hYw : w.heap.size ≤ Y := Nat.le_trans hb1.size hY
  have hB3 : Below w.heap.size w w3 := (hB2.alloc hB2.size _).trans (k3.below hYw (hB2.alloc hB2.size _).size)
  go_loopw [9, 10] (fun s9 s10 wr => ∃ (t : RT) (j n : Nat), 1 ≤ j ∧ j ≤ 8 ∧ n ≤ j ∧ s9 = .int .i64 (n : Nat) ∧ s10 = .int .i64 (j : Nat) ∧ Hid (LvI t 0 1 10756 j n ∧ t.at_ 0 = 1) ∧ TabM wr Y t ∧ Below w.heap.size w wr) (fun _ s10 _ => 8 - (intOf s10).toNat)
  case atStart => exact ⟨_, 1, 0, by omega, by omega, by omega, rfl, rfl, Lib.hid ⟨⟨rfl, rfl, by decide, fun k h1 h8 _ => by rw [put_at _ rfl 0 1 k (by decide), if_neg (by omega)]; exact zero_at k, rfl, rfl⟩, rfl⟩, h3, hB3⟩
  case round =>
    obtain ⟨t, j, n, hj1, hj8, hnj, rfl, rfl, HI, ht, hB⟩ := hrel
    by_cases hj : j < 8
    · have hjx : (j : Int) < 8 := by omega
      have HM : Hid (LvI (t.put j 2) 0 1 10756 (j + 1) (n + 1) ∧ (t.put j 2).at_ 0 = 1) := Lib.hid ⟨HI.out.1.more hj (by omega) 2 (by decide), by rw [put_at t HI.out.1.len j 2 0 hj, if_neg (by omega)]; exact HI.out.2⟩
      have HS : Hid (LvI t 0 1 10756 (j + 1) n ∧ t.at_ 0 = 1) := Lib.hid ⟨HI.out.1.skip hj (by omega), HI.out.2⟩
      have cR : ∀ W, TabM W Y t → Calls Try.prog 13 #[.pointer (some ⟨Y, 0, none⟩), .int .i64 (j : Nat), .int .u64 0, .int .u64 2, .bool false] W fun e w' => ∃ v', e = .returned v' ∧ TabM w' Y (t.put j 2) ∧ Keeps Y W w' := fun W h => (reg_new h (by have := HI.out.1.gen; omega) j hj 0 2 (HI.out.1.later j (Nat.le_refl _) hj (by omega)) (by decide)).mono fun e w' ⟨v, h1, _, h2, h3⟩ => ⟨_, h1, h2, h3⟩
      clear HI
      go_wp2_with (go_at_call 13; (with_reducible refine (cR _ ht).mono ?_); rintro e w5 ⟨v5, rfl, h5, k5⟩)
      all_goals first
        | exact ⟨⟨_, j + 1, n + 1, by omega, hj, by omega, by go_num, by go_num, HM, h5, hB.trans (k5.below hYw hB.size)⟩, by simp [intOf]; omega⟩
        | exact ⟨⟨_, j + 1, n, by omega, hj, by omega, rfl, by go_num, HS, ht, hB⟩, by simp [intOf]; omega⟩
    · obtain rfl : j = 8 := by omega
      have hy' : (y : Int) = 1 ∨ (y : Int) = 3 ∨ (y : Int) = 5 ∨ (y : Int) = 6 := by omega
      have cV : ∀ W, TabM W Y t → Calls Try.prog 14 #[.pointer (some ⟨Y, 0, none⟩), .int .i64 0, .int .u64 1, .int .i64 (y : Nat)] W fun e w' => e = .returned (.agg #[Value.int .i64 0, .int .i64 0, .int .i64 0, .slice none 0 0, .int .i64 0]) ∧ TabM w' Y (t.hold 0 y) ∧ Keeps Y W w' := fun W h => Reserve_take h 0 (by decide) 1 y hy' HI.out.1.hold (Ref.not 0 (by decide) 1 (by rw [HI.out.2]; decide) HI.out.2)
      obtain ⟨tf, L, f1, f2, f3, f4, f5, cL, cG⟩ : ∃ (tf : RT) (L : List (Nat × Int)), tf.holder = -1 ∧ ((tf.key 0 ≠ 0) ↔ a2 = true) ∧ (y < 5 → L.length = 0) ∧ (¬ y < 5 → L.length = n) ∧ (∀ p ∈ L, p.2 = 10756 ∧ (p.1 : Int) ≠ 0) ∧ (a2 = true → ∀ W, TabM W Y (t.hold 0 y) → Calls Try.prog 17 #[.pointer (some ⟨Y, 0, none⟩), .int .i64 0, .int .u64 1, .int .i64 (y : Nat)] W fun e w' => ∃ v', e = .returned (.tuple #[.agg #[Value.int .i64 0, .int .i64 0, .int .i64 0, .slice none 0 0, .int .i64 0], v']) ∧ w'.ownsRow W.heap.size 50 2 v' L.length (nvs L) ∧ TabM w' Y tf ∧ Keeps Y W w') ∧ (a2 = false → ∀ W, TabM W Y (t.hold 0 y) → Calls Try.prog 13 #[.pointer (some ⟨Y, 0, none⟩), .int .i64 0, .int .u64 1, .int .u64 0, .bool false] W fun e w' => ∃ v', e = .returned (.tuple #[.agg #[Value.int .i64 0, .int .i64 0, .int .i64 0, .slice none 0 0, .int .i64 0], v']) ∧ w'.ownsRow W.heap.size 50 2 v' L.length (nvs L) ∧ TabM w' Y tf ∧ Keeps Y W w') := by
        obtain ⟨hl, hat⟩ := HI.out
        have hgn := hl.gen
        have told : ∀ t' : RT, t'.typ = y → (∀ k : Nat, k < 8 → (k : Int) ≠ ((0 : Nat) : Int) → t'.at_ k = t.at_ k) → (y < 5 → (t'.told ((0 : Nat) : Int)).length = 0) ∧ (¬ y < 5 → (t'.told ((0 : Nat) : Int)).length = n) ∧ (∀ p ∈ t'.told ((0 : Nat) : Int), p.2 = 10756 ∧ (p.1 : Int) ≠ 0) := by
          intro t' hty hc
          unfold RT.told
          rw [hty]
          refine ⟨fun h => by rw [if_neg (by omega)]; rfl, fun h => ?_, fun p hp => ?_⟩
          · rw [if_pos (by omega), othTo_congr t' t _ _ _ _ hc]
            exact hl.num.symm
          · split at hp
            · exact othTo_mem _ _ _ _ _ p hp
            · cases hp
        cases a2 with
        | true =>
          obtain ⟨e1, e2, e3⟩ := told (t.hold 0 y) rfl (fun k _ _ => rfl)
          refine ⟨(t.hold 0 y).free, (t.hold 0 y).told ((0 : Nat) : Int), rfl, ⟨fun _ => rfl, fun _ => ?_⟩, e1, e2, e3, fun _ W h => Release_gone h 0 (by decide) 1 y hy' rfl rfl (Ref.not 0 (by decide) 1 ?_ ?_), fun h => by cases h⟩
          · show t.at_ 0 ≠ 0
            rw [hat]; decide
          · show t.at_ 0 ≠ 0
            rw [hat]; decide
          · exact hat
        | false =>
          obtain ⟨e1, e2, e3⟩ := told ((t.hold 0 y).put 0 0) rfl (fun k hk hk0 => by rw [put_at (t.hold 0 y) hl.len 0 0 k (by decide), if_neg (by omega)]; rfl)
          refine ⟨((t.hold 0 y).put 0 0).free, ((t.hold 0 y).put 0 0).told ((0 : Nat) : Int), rfl, ⟨fun h => absurd ?_ h, fun h => by cases h⟩, e1, e2, e3, (fun h => by cases h), fun _ W h => reg_gone h ?_ 0 (by decide) 1 hat rfl⟩
          · show ((t.hold 0 y).put 0 0).at_ 0 = 0
            rw [put_at (t.hold 0 y) hl.len 0 0 0 (by decide), if_pos rfl]
          · show t.gen ≤ 999999
            omega
      have cH : ∀ W, TabM W Y tf → Calls Try.prog 10 #[.pointer (some ⟨Y, 0, none⟩)] W fun e w' => e = .returned (.tuple #[.int .i64 (-1), .int .i64 (tf.typ : Nat)]) ∧ ∃ k, w' = W.drewN k := fun W h => f1 ▸ holder_any h
      obtain ⟨kf, hkf⟩ : ∃ kf, tf.key 0 = kf := ⟨_, rfl⟩
      have cK : ∀ W, TabM W Y tf → Calls Try.prog 11 #[.pointer (some ⟨Y, 0, none⟩), .int .i64 0] W fun e w' => e = .returned (.int .u64 (kf : Nat)) ∧ W = w' := fun W h => hkf ▸ key_any h 0
      rw [hkf] at f2
      generalize t.hold 0 y = th at *
      clear HI hy' hy f1 hkf
      obtain ⟨m, hm, hmy⟩ : ∃ m : Nat, L.length = m ∧ ((y < 5 ∧ m = 0) ∨ (¬ y < 5 ∧ m = n)) := by
        by_cases h : y < 5
        · exact ⟨0, f3 h, .inl ⟨h, rfl⟩⟩
        · exact ⟨n, f4 h, .inr ⟨h, rfl⟩⟩
      clear f3 f4
      cases a2 with
      | true =>
        have k1 : ¬ (kf : Int) = 0 := by have := f2.2 rfl; omega
        have k2 : ((kf : Int) != 0) = true := bne_iff_ne.2 k1
        have cQ := cL rfl
        clear cL cG f2
        rcases hmy with ⟨y5, rfl⟩ | ⟨y5, rfl⟩
        · have y5x : (y : Int) < 5 := by omega
          clear y5
          go_wp2_with (first
            | (go_at_call 14; (with_reducible refine (cV _ ht).mono ?_); rintro e wv ⟨rfl, hv, kv⟩; have hva := hv.below ((Below.refl _ wv).alloc (Nat.le_refl _) (.cells #[Value.int .i64 0, .int .i64 0, .int .i64 0, .slice none 0 0, .int .i64 0] 40)); have mv := Mem.new wv 40 #[Value.int .i64 0, .int .i64 0, .int .i64 0, .slice none 0 0, .int .i64 0]; have BV := hB.trans (kv.below hYw hB.size); have BA := BV.alloc BV.size (.cells #[Value.int .i64 0, .int .i64 0, .int .i64 0, .slice none 0 0, .int .i64 0] 40); have hYv : Y ≠ wv.heap.size := fun e => by have := hv.mem.lt; omega)
            | (go_at_call 17; (with_reducible refine (cQ _ hva).mono ?_); rintro e wl ⟨vl, rfl, hol, hl2, kl⟩; have ml : Mem wl wv.heap.size 40 #[Value.int .i64 0, .int .i64 0, .int .i64 0, .slice none 0 0, .int .i64 0] := (kl.block _ mv.lt (fun e => hYv e.symm)).trans mv; obtain ⟨Al, cl, rfl, hl3, hl4⟩ := own_form hol; have BL := BA.trans (kl.below hYw BA.size))
            | (refine wpList_store_row rfl 40 (.tmp 11) (.tmp 49) rfl wv.heap.size #[Value.int .i64 0, .int .i64 0, .int .i64 0, .slice none 0 0, .int .i64 0] rfl rfl 40 #[Value.int .i64 0, .int .i64 0, .int .i64 0, .slice none 0 0, .int .i64 0] ml (by kernel_rfl) (by kernel_rfl) (by kernel_rfl) ?_; have BZ := below_setRow BL BV.size #[Value.int .i64 0, .int .i64 0, .int .i64 0, .slice none 0 0, .int .i64 0]; obtain ⟨wz, ez, hz, mz, nz⟩ := put_row hl2 ml hYv; rw [← ez] at BZ; rw [← ez]; clear ez; have cz := mz.cell 0; have oz := owns_at hol (fun k hk => nz k (fun e => by have o1 := own_tag hol k hk; have o2 := mv.lt; omega)))
            | (go_at_call 10; (with_reducible refine (cH _ hz).mono ?_); rintro e wg ⟨rfl, kg, rfl⟩; have hg2 : TabM (wz.drewN kg) Y tf := ⟨hz.mem, hz.len⟩)
            | (go_at_call 11; (with_reducible refine (cK _ hg2).mono ?_); rintro e wk ⟨rfl, rfl⟩))
          go_loopw [15] (fun s15 wr2 => ∃ q : Nat, q ≤ L.length ∧ s15 = .int .i64 (q : Nat) ∧ wz.drewN kg = wr2) (fun s15 _ => L.length - (intOf s15).toNat)
          case atStart => exact ⟨0, Nat.zero_le _, rfl, rfl⟩
          case round =>
            obtain ⟨q, hq, rfl, rfl⟩ := hrel
            by_cases hql : q < L.length
            · exfalso; omega
            · obtain rfl : q = L.length := by omega
              go_wp2
              go_ret
              exact ⟨rfl, below_drewN BZ _⟩
        · have y5x : ¬ (y : Int) < 5 := by omega
          clear y5
          go_wp2_with (first
            | (go_at_call 14; (with_reducible refine (cV _ ht).mono ?_); rintro e wv ⟨rfl, hv, kv⟩; have hva := hv.below ((Below.refl _ wv).alloc (Nat.le_refl _) (.cells #[Value.int .i64 0, .int .i64 0, .int .i64 0, .slice none 0 0, .int .i64 0] 40)); have mv := Mem.new wv 40 #[Value.int .i64 0, .int .i64 0, .int .i64 0, .slice none 0 0, .int .i64 0]; have BV := hB.trans (kv.below hYw hB.size); have BA := BV.alloc BV.size (.cells #[Value.int .i64 0, .int .i64 0, .int .i64 0, .slice none 0 0, .int .i64 0] 40); have hYv : Y ≠ wv.heap.size := fun e => by have := hv.mem.lt; omega)
            | (go_at_call 17; (with_reducible refine (cQ _ hva).mono ?_); rintro e wl ⟨vl, rfl, hol, hl2, kl⟩; have ml : Mem wl wv.heap.size 40 #[Value.int .i64 0, .int .i64 0, .int .i64 0, .slice none 0 0, .int .i64 0] := (kl.block _ mv.lt (fun e => hYv e.symm)).trans mv; obtain ⟨Al, cl, rfl, hl3, hl4⟩ := own_form hol; have BL := BA.trans (kl.below hYw BA.size))
            | (refine wpList_store_row rfl 40 (.tmp 11) (.tmp 49) rfl wv.heap.size #[Value.int .i64 0, .int .i64 0, .int .i64 0, .slice none 0 0, .int .i64 0] rfl rfl 40 #[Value.int .i64 0, .int .i64 0, .int .i64 0, .slice none 0 0, .int .i64 0] ml (by kernel_rfl) (by kernel_rfl) (by kernel_rfl) ?_; have BZ := below_setRow BL BV.size #[Value.int .i64 0, .int .i64 0, .int .i64 0, .slice none 0 0, .int .i64 0]; obtain ⟨wz, ez, hz, mz, nz⟩ := put_row hl2 ml hYv; rw [← ez] at BZ; rw [← ez]; clear ez; have cz := mz.cell 0; have oz := owns_at hol (fun k hk => nz k (fun e => by have o1 := own_tag hol k hk; have o2 := mv.lt; omega)))
            | (go_at_call 10; (with_reducible refine (cH _ hz).mono ?_); rintro e wg ⟨rfl, kg, rfl⟩; have hg2 : TabM (wz.drewN kg) Y tf := ⟨hz.mem, hz.len⟩)
            | (go_at_call 11; (with_reducible refine (cK _ hg2).mono ?_); rintro e wk ⟨rfl, rfl⟩))
          go_loopw [15] (fun s15 wr2 => ∃ q : Nat, q ≤ L.length ∧ s15 = .int .i64 (q : Nat) ∧ wz.drewN kg = wr2) (fun s15 _ => L.length - (intOf s15).toNat)
          case atStart => exact ⟨0, Nat.zero_le _, rfl, rfl⟩
          case round =>
            obtain ⟨q, hq, rfl, rfl⟩ := hrel
            by_cases hql : q < L.length
            · have hLn : L.length ≠ 0 := by omega
              obtain ⟨g, c', hv', _, _, _, _⟩ := own_form2 oz hLn
              obtain rfl : Al = some ⟨g, 0, none⟩ := by injection hv'
              have hcl := fun k u hk => own_cells oz (2 * q + k) u (nvs_get L q hql k u hk)
              have e0 : (wz.drewN kg).cell? ⟨g, q * 2, none⟩ = some (.int .i64 (L[q].1 : Nat)) := by have := hcl 0 _ rfl; rwa [show 2 * q + 0 = q * 2 by omega] at this
              have e1 : (wz.drewN kg).cell? ⟨g, q * 2 + 1, none⟩ = some (.int .i64 10756) := by have := hcl 1 _ rfl; rw [show 2 * q + 1 = q * 2 + 1 by omega, (f5 L[q] (List.getElem_mem hql)).1] at this; exact this
              have e2 := (f5 L[q] (List.getElem_mem hql)).2
              have e3 : (((L[q].1 : Nat) : Int) == 0) = false := beq_eq_false_iff_ne.2 e2
              have hqx : (q : Int) < (L.length : Int) := by omega
              generalize L[q].1 = a at *
              clear hcl f5 hv'
              go_wp2
              exact ⟨⟨q + 1, hql, by go_num, trivial⟩, by simp [intOf]; omega⟩
            · obtain rfl : q = L.length := by omega
              go_wp2
              go_ret
              exact ⟨rfl, below_drewN BZ _⟩
      | false =>
        obtain rfl : kf = 0 := Classical.byContradiction fun h => by cases f2.1 h
        have cQ := cG rfl
        clear cL cG f2
        rcases hmy with ⟨y5, rfl⟩ | ⟨y5, rfl⟩
        · have y5x : (y : Int) < 5 := by omega
          clear y5
          go_wp2_with (first
            | (go_at_call 14; (with_reducible refine (cV _ ht).mono ?_); rintro e wv ⟨rfl, hv, kv⟩; have hva := hv.below ((Below.refl _ wv).alloc (Nat.le_refl _) (.cells #[Value.int .i64 0, .int .i64 0, .int .i64 0, .slice none 0 0, .int .i64 0] 40)); have mv := Mem.new wv 40 #[Value.int .i64 0, .int .i64 0, .int .i64 0, .slice none 0 0, .int .i64 0]; have BV := hB.trans (kv.below hYw hB.size); have BA := BV.alloc BV.size (.cells #[Value.int .i64 0, .int .i64 0, .int .i64 0, .slice none 0 0, .int .i64 0] 40); have hYv : Y ≠ wv.heap.size := fun e => by have := hv.mem.lt; omega)
            | (go_at_call 13; (with_reducible refine (cQ _ hva).mono ?_); rintro e wl ⟨vl, rfl, hol, hl2, kl⟩; have ml : Mem wl wv.heap.size 40 #[Value.int .i64 0, .int .i64 0, .int .i64 0, .slice none 0 0, .int .i64 0] := (kl.block _ mv.lt (fun e => hYv e.symm)).trans mv; obtain ⟨Al, cl, rfl, hl3, hl4⟩ := own_form hol; have BL := BA.trans (kl.below hYw BA.size))
            | (refine wpList_store_row rfl 40 (.tmp 11) (.tmp 54) rfl wv.heap.size #[Value.int .i64 0, .int .i64 0, .int .i64 0, .slice none 0 0, .int .i64 0] rfl rfl 40 #[Value.int .i64 0, .int .i64 0, .int .i64 0, .slice none 0 0, .int .i64 0] ml (by kernel_rfl) (by kernel_rfl) (by kernel_rfl) ?_; have BZ := below_setRow BL BV.size #[Value.int .i64 0, .int .i64 0, .int .i64 0, .slice none 0 0, .int .i64 0]; obtain ⟨wz, ez, hz, mz, nz⟩ := put_row hl2 ml hYv; rw [← ez] at BZ; rw [← ez]; clear ez; have cz := mz.cell 0; have oz := owns_at hol (fun k hk => nz k (fun e => by have o1 := own_tag hol k hk; have o2 := mv.lt; omega)))
            | (go_at_call 10; (with_reducible refine (cH _ hz).mono ?_); rintro e wg ⟨rfl, kg, rfl⟩; have hg2 : TabM (wz.drewN kg) Y tf := ⟨hz.mem, hz.len⟩)
            | (go_at_call 11; (with_reducible refine (cK _ hg2).mono ?_); rintro e wk ⟨rfl, rfl⟩))
          go_loopw [15] (fun s15 wr2 => ∃ q : Nat, q ≤ L.length ∧ s15 = .int .i64 (q : Nat) ∧ wz.drewN kg = wr2) (fun s15 _ => L.length - (intOf s15).toNat)
          case atStart => exact ⟨0, Nat.zero_le _, rfl, rfl⟩
          case round =>
            obtain ⟨q, hq, rfl, rfl⟩ := hrel
            by_cases hql : q < L.length
            · exfalso; omega
            · obtain rfl : q = L.length := by omega
              go_wp2
              go_ret
              exact ⟨rfl, below_drewN BZ _⟩
        · have y5x : ¬ (y : Int) < 5 := by omega
          clear y5
          go_wp2_with (first
            | (go_at_call 14; (with_reducible refine (cV _ ht).mono ?_); rintro e wv ⟨rfl, hv, kv⟩; have hva := hv.below ((Below.refl _ wv).alloc (Nat.le_refl _) (.cells #[Value.int .i64 0, .int .i64 0, .int .i64 0, .slice none 0 0, .int .i64 0] 40)); have mv := Mem.new wv 40 #[Value.int .i64 0, .int .i64 0, .int .i64 0, .slice none 0 0, .int .i64 0]; have BV := hB.trans (kv.below hYw hB.size); have BA := BV.alloc BV.size (.cells #[Value.int .i64 0, .int .i64 0, .int .i64 0, .slice none 0 0, .int .i64 0] 40); have hYv : Y ≠ wv.heap.size := fun e => by have := hv.mem.lt; omega)
            | (go_at_call 13; (with_reducible refine (cQ _ hva).mono ?_); rintro e wl ⟨vl, rfl, hol, hl2, kl⟩; have ml : Mem wl wv.heap.size 40 #[Value.int .i64 0, .int .i64 0, .int .i64 0, .slice none 0 0, .int .i64 0] := (kl.block _ mv.lt (fun e => hYv e.symm)).trans mv; obtain ⟨Al, cl, rfl, hl3, hl4⟩ := own_form hol; have BL := BA.trans (kl.below hYw BA.size))
            | (refine wpList_store_row rfl 40 (.tmp 11) (.tmp 54) rfl wv.heap.size #[Value.int .i64 0, .int .i64 0, .int .i64 0, .slice none 0 0, .int .i64 0] rfl rfl 40 #[Value.int .i64 0, .int .i64 0, .int .i64 0, .slice none 0 0, .int .i64 0] ml (by kernel_rfl) (by kernel_rfl) (by kernel_rfl) ?_; have BZ := below_setRow BL BV.size #[Value.int .i64 0, .int .i64 0, .int .i64 0, .slice none 0 0, .int .i64 0]; obtain ⟨wz, ez, hz, mz, nz⟩ := put_row hl2 ml hYv; rw [← ez] at BZ; rw [← ez]; clear ez; have cz := mz.cell 0; have oz := owns_at hol (fun k hk => nz k (fun e => by have o1 := own_tag hol k hk; have o2 := mv.lt; omega)))
            | (go_at_call 10; (with_reducible refine (cH _ hz).mono ?_); rintro e wg ⟨rfl, kg, rfl⟩; have hg2 : TabM (wz.drewN kg) Y tf := ⟨hz.mem, hz.len⟩)
            | (go_at_call 11; (with_reducible refine (cK _ hg2).mono ?_); rintro e wk ⟨rfl, rfl⟩))
          go_loopw [15] (fun s15 wr2 => ∃ q : Nat, q ≤ L.length ∧ s15 = .int .i64 (q : Nat) ∧ wz.drewN kg = wr2) (fun s15 _ => L.length - (intOf s15).toNat)
          case atStart => exact ⟨0, Nat.zero_le _, rfl, rfl⟩
          case round =>
            obtain ⟨q, hq, rfl, rfl⟩ := hrel
            by_cases hql : q < L.length
            · have hLn : L.length ≠ 0 := by omega
              obtain ⟨g, c', hv', _, _, _, _⟩ := own_form2 oz hLn
              obtain rfl : Al = some ⟨g, 0, none⟩ := by injection hv'
              have hcl := fun k u hk => own_cells oz (2 * q + k) u (nvs_get L q hql k u hk)
              have e0 : (wz.drewN kg).cell? ⟨g, q * 2, none⟩ = some (.int .i64 (L[q].1 : Nat)) := by have := hcl 0 _ rfl; rwa [show 2 * q + 0 = q * 2 by omega] at this
              have e1 : (wz.drewN kg).cell? ⟨g, q * 2 + 1, none⟩ = some (.int .i64 10756) := by have := hcl 1 _ rfl; rw [show 2 * q + 1 = q * 2 + 1 by omega, (f5 L[q] (List.getElem_mem hql)).1] at this; exact this
              have e2 := (f5 L[q] (List.getElem_mem hql)).2
              have e3 : (((L[q].1 : Nat) : Int) == 0) = false := beq_eq_false_iff_ne.2 e2
              have hqx : (q : Int) < (L.length : Int) := by omega
              generalize L[q].1 = a at *
              clear hcl f5 hv'
              go_wp2
              exact ⟨⟨q + 1, hql, by go_num, trivial⟩, by simp [intOf]; omega⟩
            · obtain rfl : q = L.length := by omega
              go_wp2
              go_ret
              exact ⟨rfl, below_drewN BZ _⟩
set_option maxRecDepth 100000 in
theorem lifted (os : Os) (started : os.Started) (H : Type) (enc : TypeId × Value → H) :
    ReturnsInHanded {} Try.checked os 5 .any (Rows.resvLeavesSpec.pre6 enc Try.prog Try.f5 Rows.resvLeavesRow.domain false) (Rows.resvLeavesSpec.post enc Try.prog Try.f5 false true false false) := by
  refine returnsInHanded_of_change (C := Try.checked) own started (by kernel_rfl) Try.func5
    (ChangeSpec.witness6 (enc := enc) (C := Try.checked) false ⟨#[], #[.int .u8 0, .int .u8 0, .bool false], []⟩ 8 (by kernel_rfl) (by kernel_rfl) (by kernel_rfl) (by kernel_rfl)) ?_
  intro W base args ds gs before hval0 hW hcnd _
  have hval : ∀ (j : Nat) t v, Try.f5.params[j]? = some t → args[j]? = some v → Value.okWide Try.prog W .any base t v := hval0
  have hW' := hW
  obtain ⟨p, q, hA0, hV, rfl, hfz, hnd⟩ := hW
  have hA : DataW.TrodAll enc Try.prog W 0 (fun _ => true) true Try.f5.params.toList args.toList ds p := hA0
  rw [Try.params5] at hA hval
  obtain ⟨v0, vs0, d0, ds0, p0, q0, hargs, rfl, rfl, h0, r0⟩ := trodAll_cons hA
  obtain ⟨v1, vs1, d1, ds1, p1, q1, rfl, rfl, rfl, h1, r1⟩ := trodAll_cons r0
  obtain ⟨v2, vs2, d2, ds2, p2, q2, rfl, rfl, rfl, h2, r2⟩ := trodAll_cons r1
  obtain ⟨rfl, rfl, rfl⟩ := trodAll_nil r2
  obtain rfl : args = #[v0, v1, v2] := by cases args; simp_all
  obtain ⟨rfl, rfl⟩ := trodVars_none hV
  obtain ⟨a0, rfl, _, _, w0⟩ := open_int Try.underlying5 (hval 0 5 v0 rfl rfl) h0
  have b0 := bounds_u8 w0
  obtain ⟨a1, rfl, _, _, w1⟩ := open_int Try.underlying5 (hval 1 5 v1 rfl rfl) h1
  have b1 := bounds_u8 w1
  obtain ⟨a2, rfl, _, _⟩ := open_bool Try.underlying4 (hval 2 4 v2 rfl rfl) h2
  refine (walk a0 a1 a2 W b0.1 b0.2 b1.1 b1.2).mono fun e W' ⟨he, hb⟩ => ?_
  subst he
  exact ⟨_, rfl, law_post laidOut (by kernel_rfl) rfl (by kernel_rfl) Try.underlying4 rfl rfl rfl hW' hb⟩

theorem proved : Rows.ResvLeavesSaid :=
  OpenClaim.holds_of_wide 5 Try.f5 rfl rfl rfl rfl rfl rfl rfl ⟨rfl, rfl, rfl, rfl, rfl⟩ rfl rfl rfl rfl rfl (by kernel_rfl) Try.func5 (by kernel_rfl)
    (of_decide_eq_true (by kernel_rfl)) (by unfold Func.isWrapper; first | (rw [if_pos (by decide +kernel)]; kernel_rfl) | (rw [if_neg (by decide +kernel)]; exact ⟨rfl, rfl⟩))
    (fun os started H enc _ => lifted os started H enc)
end Rv
end Go.Proofs.Ytgnpepkpbdddhaa
