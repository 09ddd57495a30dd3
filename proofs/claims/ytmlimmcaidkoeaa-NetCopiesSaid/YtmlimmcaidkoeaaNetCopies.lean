/- NetCopies: for all bytes and every two numbers the statement's function tells true and turns nothing that was there. No condition. -/
import Derived.Test.YtmlimmcaidkoeaaNtL
import Derived.LoopTactic
namespace Go.Proofs.Ytmlimmcaidkoeaa
open Go.ChangeShapes Go.WideShapes Go.ChangeAt Go.RowKit Go.Lib
set_option linter.unusedVariables false
namespace Copies
def Kin (l : List UInt8) (p : Pk) : Prop := p.fr = 0 ∧ p.to = 1 ∧ p.l = l
theorem copy_c {o W : World} {X : Nat} {l : List UInt8} {L : List Pk} (i : Nat) (hi : i < L.length) (hL : L.length < 4096) (hk : ∀ p ∈ L, Kin l p) (hg : NetGo o W X 2 L 1) :
    Calls Try.prog 21 #[.pointer (some ⟨X, 0, none⟩), .int .i64 (i : Nat)] W fun e w' => ∃ L' : List Pk, e = .returned (.bool true) ∧ L'.length = L.length + 1 ∧ (∀ p ∈ L', Kin l p) ∧ NetGo o w' X 2 L' 1 := by
  refine (copy_go hg (Below.refl _ _) hi hL).mono ?_
  rintro e w' ⟨d, rfl, h, _⟩
  refine ⟨_, rfl, by simp, fun p hp => ?_, h⟩
  rw [List.mem_append, List.mem_singleton] at hp
  rcases hp with hp | rfl
  · exact hk p hp
  · have := hk L[i] (List.getElem_mem hi)
    exact ⟨this.1, this.2.1, this.2.2⟩
theorem drop_c {o W : World} {X : Nat} {l : List UInt8} {L : List Pk} (hi : 0 < L.length) (hk : ∀ p ∈ L, Kin l p) (hg : NetGo o W X 2 L 1) :
    Calls Try.prog 23 #[.pointer (some ⟨X, 0, none⟩), .int .i64 0] W fun e w' => ∃ L' : List Pk, e = .returned (.bool true) ∧ L'.length = L.length - 1 ∧ (∀ p ∈ L', Kin l p) ∧ NetGo o w' X 2 L' 1 := by
  refine (drop_go hg (Below.refl _ _) (i := 0) hi).mono ?_
  rintro e w' ⟨rfl, h, _⟩
  exact ⟨_, rfl, List.length_eraseIdx_of_lt hi, fun p hp => hk p (List.mem_of_mem_eraseIdx hp), h⟩
theorem del_c {o W : World} {X : Nat} {l : List UInt8} {L : List Pk} (i : Nat) (hi : i < L.length) (hk : ∀ p ∈ L, Kin l p) (hg : NetGo o W X 2 L 1) :
    Calls Try.prog 24 #[.pointer (some ⟨X, 0, none⟩), .int .i64 (i : Nat)] W fun e w' => ∃ (A : Option Addr) (c : Nat) (L' : List Pk), e = .returned (.tuple #[.agg #[.int .i64 0, .int .i64 1, .slice A l.length c], .bool true]) ∧ L'.length = L.length - 1 ∧ (∀ p ∈ L', Kin l p) ∧ NetGo o w' X 2 L' 1 ∧ Sl w' w'.heap.size (.slice A l.length c) l.length (bs l) := by
  refine (deliver_go hg (Below.refl _ _) hi).mono ?_
  have hp := hk _ (List.getElem_mem hi)
  generalize L[i] = p at *
  obtain ⟨fr, to, d, l'⟩ := p
  obtain ⟨h1, h2, h3⟩ := hp
  simp only at h1 h2 h3
  subst h1; subst h2; subst h3
  rintro e w' ⟨rfl, h, hd, _⟩
  obtain ⟨A, c, hv, _⟩ := own_form hd.1
  simp only at hv
  subst hv
  exact ⟨A, c, _, rfl, List.length_eraseIdx_of_lt hi, fun p hp => hk p (List.mem_of_mem_eraseIdx hp), h, hd.sl⟩
set_option maxRecDepth 100000 in
set_option maxHeartbeats 4000000 in
theorem walk (v : Value) (l : List UInt8) (C D : Int) (w : World) (hv : Sl w w.heap.size v l.length (bs l)) (hC1 : -9223372036854775808 ≤ C) (hC2 : C ≤ 9223372036854775807) (hD1 : -9223372036854775808 ≤ D) (hD2 : D ≤ 9223372036854775807) :
    Calls Try.prog 7 #[v, .int .i64 C, .int .i64 D] w fun e w' => e = .returned (.bool true) ∧ Below w.heap.size w w' := by
  obtain ⟨A0, c0, rfl, hc1, hc2⟩ := hv.form
  by_cases hok : l.length ≤ 200 ∧ 0 ≤ C ∧ C ≤ 40 ∧ 0 ≤ D ∧ D ≤ 40
  · obtain ⟨hl, h1, h2, h3, h4⟩ := hok
    obtain ⟨c, rfl⟩ : ∃ c : Nat, C = c := ⟨C.toNat, by omega⟩
    obtain ⟨d, rfl⟩ : ∃ d : Nat, D = d := ⟨D.toNat, by omega⟩
    have hlx : (l.length : Int) ≤ 200 := by omega
    have hc40 : c ≤ 40 := by omega
    have hd40 : d ≤ 40 := by omega
    clear hC1 hC2 hD1 hD2
    have hnew : ∀ W, Below w.heap.size w W → Calls Try.prog 11 #[.int .i64 2] W fun e w' => e = .returned (.tuple #[.pointer (some ⟨W.heap.size, 0, none⟩), .int .i64 0]) ∧ NetGo w w' W.heap.size 2 [] 0 := fun W hW => new_go w 2 (by omega) (by omega) W hW
    have hsend : ∀ W X, NetGo w W X 2 [] 0 → Calls Try.prog 20 #[.pointer (some ⟨X, 0, none⟩), .int .i64 0, .int .i64 1, .slice A0 l.length c0] W fun e w' => ∃ L : List Pk, e = .returned (.int .i64 0) ∧ L.length = 1 ∧ (∀ p ∈ L, Kin l p) ∧ NetGo w w' X 2 L 1 := by
      intro W X hg
      refine (send_go hg (Below.refl _ _) (fr := 0) (to := 1) (by omega) (by omega) (by omega) (by omega) (l := l) (by omega) (by simp) (by omega) (hv.now hg.bl)).mono ?_
      rintro e w' ⟨d', rfl, h, _⟩
      exact ⟨_, rfl, rfl, fun p hp => (List.mem_singleton.1 hp) ▸ ⟨rfl, rfl, rfl⟩, h⟩
    go_enter Try.func7, Try.ntmps7
    go_wp2_with (first
      | (go_at_call 9; refine (known_any _).mono ?_; rintro e w1 ⟨rfl, hb1⟩)
      | (go_at_call 11; with_reducible refine (hnew _ hb1).mono ?_; rintro e w2 ⟨rfl, hg2⟩)
      | (go_at_call 20; with_reducible refine (hsend _ _ hg2).mono ?_; rintro e w3 ⟨L3, rfl, hL3, hk3, hg3⟩; have HL3 := Lib.hid hL3; clear hL3))
    clear hnew hsend
    generalize w1.heap.size = X at *
    go_loopw [9] (fun i wr => ∃ (L : List Pk) (k : Nat), k ≤ c ∧ i = .int .i64 k ∧ Hid (L.length = k + 1) ∧ (∀ p ∈ L, Kin l p) ∧ NetGo w wr X 2 L 1) (fun i _ => c - (intOf i).toNat)
    case atStart => exact ⟨L3, 0, by omega, rfl, Lib.hid HL3.out, hk3, hg3⟩
    case round =>
      obtain ⟨L, k, hk, rfl, HL, hkin, hg⟩ := hrel
      have hL := HL.out
      by_cases hlt : k < c
      · have hlx : (k : Int) < (c : Int) := by omega
        have hcp := copy_c (k / 2) (by omega) (by omega) hkin hg
        rw [show ((k / 2 : Nat) : Int) = (k : Int) / 2 by omega] at hcp
        clear hL
        go_wp2_with (go_at_call 21; with_reducible refine hcp.mono ?_; rintro e w4 ⟨L4, rfl, hL4, hk4, hg4⟩; have HL4 := Lib.hid hL4; clear hL4)
        have hL := HL.out
        have hL4 := HL4.out
        exact ⟨⟨L4, k + 1, by omega, by go_num, Lib.hid (by omega), hk4, hg4⟩, by simp [intOf]; omega⟩
      · obtain rfl : k = c := by omega
        clear hL
        go_wp2_with fail
        go_loopw [10, 11] (fun n i wr => ∃ (L : List Pk) (m j : Nat), j ≤ d ∧ i = .int .i64 j ∧ n = .int .i64 m ∧ m ≤ 41 ∧ Hid (L.length = m) ∧ (∀ p ∈ L, Kin l p) ∧ NetGo w wr X 2 L 1) (fun _ i _ => d - (intOf i).toNat)
        case atStart => exact ⟨L, k + 1, 0, by omega, rfl, by go_num, by omega, HL, hkin, hg⟩
        case round =>
          clear HL hkin hg L hk3 HL3 hg3 L3 hg2 hb1
          obtain ⟨L, m, j, hj, rfl, rfl, hm, HL, hkin, hg⟩ := hrel
          have hL := HL.out
          by_cases hlt2 : j < d
          · have hlx : (j : Int) < (d : Int) := by omega
            rcases Nat.eq_zero_or_pos m with rfl | hm0
            · have hdn := dropno_go hg (i := 0) (by omega)
              clear hL
              go_wp2_with (go_at_call 23; with_reducible refine hdn.mono ?_; rintro e w4 ⟨rfl, hb4⟩; have hg4 := hg.below hb4)
              exact ⟨⟨L, 0, j + 1, by omega, by go_num, rfl, by omega, HL, hkin, hg4⟩, by simp [intOf]; omega⟩
            · have hdn := drop_c (by omega) hkin hg
              have hmx : 0 < (m : Int) := by omega
              clear hL
              go_wp2_with (go_at_call 23; with_reducible refine hdn.mono ?_; rintro e w4 ⟨L4, rfl, hL4, hk4, hg4⟩; have HL4 := Lib.hid hL4; clear hL4)
              have hL := HL.out
              have hL4 := HL4.out
              exact ⟨⟨L4, m - 1, j + 1, by omega, by go_num, by go_num, by omega, Lib.hid (by omega), hk4, hg4⟩, by simp [intOf]; omega⟩
          · obtain rfl : j = d := by omega
            clear hL
            go_wp2_with fail
            go_loopw [12] (fun i wr => ∃ (L : List Pk) (q : Nat), q ≤ m ∧ i = .int .i64 q ∧ Hid (L.length = m - q) ∧ (∀ p ∈ L, Kin l p) ∧ NetGo w wr X 2 L 1) (fun i _ => m - (intOf i).toNat)
            case atStart => exact ⟨L, 0, by omega, rfl, HL, hkin, hg⟩
            case round =>
              clear HL hkin hg L
              obtain ⟨L, q, hq, rfl, HL, hkin, hg⟩ := hrel
              have hL := HL.out
              by_cases hlt3 : q < m
              · have hlx : (q : Int) < (m : Int) := by omega
                have hdn := del_c (m - 1 - q) (by omega) hkin hg
                rw [show ((m - 1 - q : Nat) : Int) = (m : Int) - 1 - q by omega] at hdn
                clear hL
                go_wp2_with (go_at_call 24; with_reducible refine hdn.mono ?_; rintro e w4 ⟨A4, c4, L4, rfl, hL4, hk4, hg4, hs4⟩; have HL4 := Lib.hid hL4; clear hL4; have hstr := fun o => bytes_str (P := Try.prog) (w4.alloc o) 33 9 5 Try.underlying33 Try.underlying5 Try.underlying9 _ _ l l.length (hs4.alloc (Nat.le_refl _) o); have hstb := fun o => bytes_str (P := Try.prog) (w4.alloc o) 33 9 5 Try.underlying33 Try.underlying5 Try.underlying9 _ _ l l.length ((hv.now hg4.bl).alloc (Nat.le_refl _) o))
                have hL := HL.out
                have hL4 := HL4.out
                exact ⟨⟨L4, q + 1, by omega, by go_num, Lib.hid (by omega), hk4, hg4.below ((Below.refl _ _).alloc (Nat.le_refl _) _)⟩, by simp [intOf]; omega⟩
              · obtain rfl : q = m := by omega
                have h0 : (L.length : Int) = 0 := by omega
                have hw := waiting_go hg
                have hse := sent_go hg
                have hcp := copyno_go hg (i := 0) (by omega)
                rw [h0] at hw
                have hbl := hg.bl
                clear hL h0
                go_wp2_with (first
                  | (go_at_call 14; with_reducible refine hw.mono ?_; rintro e w' ⟨rfl, rfl⟩)
                  | (go_at_call 21; with_reducible refine hcp.mono ?_; rintro e w' ⟨rfl, rfl⟩)
                  | (go_at_call 15; with_reducible refine hse.mono ?_; rintro e w' ⟨rfl, rfl⟩))
                go_ret
                exact ⟨rfl, hbl⟩
  · have hcases : (200 < (l.length : Int)) ∨ ((l.length : Int) ≤ 200 ∧ C < 0) ∨ ((l.length : Int) ≤ 200 ∧ 0 ≤ C ∧ 40 < C) ∨ ((l.length : Int) ≤ 200 ∧ 0 ≤ C ∧ C ≤ 40 ∧ D < 0) ∨ ((l.length : Int) ≤ 200 ∧ 0 ≤ C ∧ C ≤ 40 ∧ 0 ≤ D ∧ 40 < D) := by omega
    clear hok hC1 hC2 hD1 hD2 hv
    rcases hcases with h1 | ⟨h1, h2⟩ | ⟨h1, h2, h3⟩ | ⟨h1, h2, h3, h4⟩ | ⟨h1, h2, h3, h4, h5⟩
    all_goals
      go_enter Try.func7, Try.ntmps7
      go_wp2_with (go_at_call 9; refine (known_any _).mono ?_; rintro e w1 ⟨rfl, hb1⟩)
    all_goals go_ret
    all_goals exact ⟨rfl, hb1⟩
set_option maxRecDepth 100000 in
theorem lifted (os : Os) (started : os.Started) (H : Type) (enc : TypeId × Value → H) :
    ReturnsInHanded {} Try.checked os 7 .any (Rows.netCopiesSpec.pre6 enc Try.prog Try.f7 Rows.netCopiesRow.domain false) (Rows.netCopiesSpec.post enc Try.prog Try.f7 false true false false) := by
  refine returnsInHanded_of_change (C := Try.checked) own started (by kernel_rfl) Try.func7
    (ChangeSpec.witness6 (enc := enc) (C := Try.checked) false ⟨#[], #[.slice none 0 0, .int .i64 0, .int .i64 0], []⟩ 8 (by kernel_rfl) (by kernel_rfl) (by kernel_rfl) (by kernel_rfl)) ?_
  intro W base args ds gs before hval0 hW hcnd _
  have hval : ∀ (j : Nat) t v, Try.f7.params[j]? = some t → args[j]? = some v → Value.okWide Try.prog W .any base t v := hval0
  have hW' := hW
  obtain ⟨p, q, hA0, hV, rfl, hfz, hnd⟩ := hW
  have hA : DataW.TrodAll enc Try.prog W 0 (fun _ => true) true Try.f7.params.toList args.toList ds p := hA0
  rw [Try.params7] at hA hval
  obtain ⟨v0, vs0, d0, ds0, p0, q0, hargs, rfl, rfl, h0, r0⟩ := trodAll_cons hA
  obtain ⟨v1, vs1, d1, ds1, p1, q1, rfl, rfl, rfl, h1, r1⟩ := trodAll_cons r0
  obtain ⟨v2, vs2, d2, ds2, p2, q2, rfl, rfl, rfl, h2, r2⟩ := trodAll_cons r1
  obtain ⟨rfl, rfl, rfl⟩ := trodAll_nil r2
  obtain rfl : args = #[v0, v1, v2] := by cases args; simp_all
  obtain ⟨rfl, rfl⟩ := trodVars_none hV
  obtain ⟨l0, s0, e0⟩ := open_bytes Try.underlying33 Try.underlying5 (by kernel_rfl) (hval 0 33 v0 rfl rfl) h0
  obtain ⟨a1, rfl, _, _, w1⟩ := open_int Try.underlying3 (hval 1 3 v1 rfl rfl) h1
  have b1 := bounds_i64 w1
  obtain ⟨a2, rfl, _, _, w2⟩ := open_int Try.underlying3 (hval 2 3 v2 rfl rfl) h2
  have b2 := bounds_i64 w2
  refine (walk v0 l0 a1 a2 W s0 b1.1 b1.2 b2.1 b2.2).mono fun e W' ⟨he, hb⟩ => ?_
  subst he
  exact ⟨_, rfl, law_post laidOut (by kernel_rfl) rfl (by kernel_rfl) Try.underlying4 rfl rfl rfl hW' hb⟩

theorem proved : Rows.NetCopiesSaid :=
  OpenClaim.holds_of_wide 7 Try.f7 rfl rfl rfl rfl rfl rfl rfl ⟨rfl, rfl, rfl, rfl, rfl⟩ rfl rfl rfl rfl rfl (by kernel_rfl) Try.func7 (by kernel_rfl)
    (of_decide_eq_true (by kernel_rfl)) (by unfold Func.isWrapper; first | (rw [if_pos (by decide +kernel)]; kernel_rfl) | (rw [if_neg (by decide +kernel)]; exact ⟨rfl, rfl⟩))
    (fun os started H enc _ => lifted os started H enc)
end Copies
end Go.Proofs.Ytmlimmcaidkoeaa
