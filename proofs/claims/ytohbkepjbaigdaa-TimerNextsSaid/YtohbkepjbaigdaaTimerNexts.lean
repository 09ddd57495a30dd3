/- TimerNexts: for all bytes the statement's function tells true and turns nothing that was there. No condition. -/
import Derived.Test.YtohbkepjbaigdaaTmP
import Derived.LoopTactic
namespace Go.Proofs.Ytohbkepjbaigdaa
open Go.ChangeShapes Go.WideShapes Go.ChangeAt Go.RowKit Go.Lib
set_option linter.unusedVariables false
namespace Nexts
set_option maxRecDepth 100000 in
set_option maxHeartbeats 1000000 in
theorem walk (v : Value) (l : List UInt8) (w : World) (hv : Sl w w.heap.size v l.length (bs l)) :
    Calls Try.prog 7 #[v] w fun e w' => e = .returned (.bool true) ∧ Below w.heap.size w w' := by
  obtain ⟨A, c, rfl, hc1, hc2⟩ := hv.form
  by_cases hll : 30 < l.length
  · have hlx : (30 : Int) < (l.length : Int) := by omega
    clear hv
    go_enter Try.func7, Try.ntmps7
    go_wp2_with (go_at_call 8; refine (known_any _).mono ?_; rintro e w1 ⟨rfl, hb1⟩)
    go_ret
    exact ⟨rfl, hb1⟩
  · have hlx : ¬ (30 : Int) < (l.length : Int) := by omega
    go_enter Try.func7, Try.ntmps7
    go_wp2_with (first
      | (go_at_call 8; refine (known_any _).mono ?_; rintro e w1 ⟨rfl, hb1⟩)
      | (go_at_call 9; (with_reducible refine (new_s hb1).mono ?_); rintro e w2 ⟨rfl, hs2, hb2⟩))
    have hv1 := hv.now hb1
    go_loopw [4] (fun i wr => ∃ (k : Nat) (S : List One), k ≤ l.length ∧ i = .int .i64 k ∧ Hid (Laid l k S) ∧ TmS w wr w1.heap.size S 0) (fun i _ => l.length - (intOf i).toNat)
    case atStart => exact ⟨0, [], by omega, rfl, Lib.hid (Laid.zero l), hs2⟩
    case round =>
      clear hs2
      obtain ⟨k, S, hk, rfl, HL, hs⟩ := hrel
      by_cases hkl : k < l.length
      · have hkx : (k : Int) < (l.length : Int) := by omega
        obtain ⟨b, off, rfl, _, hat⟩ := (hv.below hs.bl).at_ (by omega)
        have hcl : wr.cell? ⟨b, off + k, none⟩ = some (.int .u8 ((l[k]).toNat : Int)) := hat _ _ (bs_get hkl)
        have hset := HL.out.set (by omega) hkl hs
        have hx := (l[k]).toNat_lt
        clear hat
        generalize (l[k]).toNat = x at *
        go_wp2_with (go_at_call 10; (with_reducible refine hset.mono ?_); rintro e w3 ⟨rfl, S3, HL3, hs3⟩)
        exact ⟨⟨k + 1, S3, by omega, by simp, HL3, hs3⟩, by simp [intOf]; omega⟩
      · obtain rfl : k = l.length := by omega
        have hall : ∀ x ∈ S, x.2 ≤ 256 := fun x hx => by
          obtain ⟨i, hi, _, rfl⟩ := (HL.out.mem x).1 hx
          have := (l[i]).toNat_lt
          simp only
          omega
        have HA : Hid (S.length = l.length ∧ ∀ x ∈ S, x.2 ≤ 256) := Lib.hid ⟨HL.out.len, hall⟩
        clear hall HL hkl hk
        go_wp2
        go_loopw [5, 6] (fun off i wr => ∃ (j f n : Nat) (S' : List One), i = .int .i64 j ∧ off = .int .i64 f ∧ j ≤ f ∧ f + S'.length = l.length ∧ n ≤ 256 ∧ Hid (∀ x ∈ S', x.2 ≤ 256) ∧ TmS w wr w1.heap.size S' (n : Int)) (fun off i _ => l.length + 1 - (intOf off).toNat)
        case atStart => exact ⟨0, 0, 0, S, rfl, rfl, by omega, by rw [HA.out.1]; omega, by omega, Lib.hid HA.out.2, hs⟩
        case round =>
          clear hs HA
          obtain ⟨j, f, n, S', rfl, rfl, hjf, hfl, hn, HS, hs⟩ := hrel
          have hjx : (j : Int) < 300 := by omega
          have hlen := len_s hs
          by_cases hS : S' = []
          · subst hS
            have hnx := next_no_s hs
            have hbl := hs.bl
            have hfx : f = l.length := by simpa using hfl
            subst hfx
            clear hfl
            go_wp2_with (first
              | (go_at_call 22; (with_reducible refine hlen.mono ?_); rintro e w4 ⟨rfl, rfl⟩)
              | (go_at_call 19; (with_reducible refine hnx.mono ?_); rintro e w5 ⟨rfl, rfl⟩))
            go_ret
            exact ⟨rfl, hbl⟩
          · have hpos : 0 < S'.length := List.length_pos_iff.2 hS
            have hposx : (0 : Int) < (S'.length : Int) := by omega
            obtain ⟨m, hm1, hm2, hnx⟩ := next_ok_s hs hS
            have hm3 : (n : Int) < m ∧ m ≤ 256 := by
              obtain ⟨x, hx, rfl⟩ := hm1
              exact ⟨(hs.fine.due x hx).1, HS.out x hx⟩
            obtain ⟨d, hd⟩ : ∃ d : Nat, m = (n : Int) + 1 + (d : Int) := ⟨(m - n - 1).toNat, by omega⟩
            subst hd
            have hdx : (n : Int) + 1 + (d : Int) - (n : Int) = 1 + (d : Int) := by omega
            rw [hdx] at hnx
            have HM1 := Lib.hid hm1
            have HM2 := Lib.hid hm2
            have hd1 : ¬ (1 + (d : Int)) < 1 := by omega
            clear hm1 hm2 hS hdx
            go_wp2_with (first
              | (go_at_call 22; (with_reducible refine hlen.mono ?_); rintro e w4 ⟨rfl, rfl⟩)
              | (go_at_call 19; (with_reducible refine hnx.mono ?_); rintro e w5 ⟨rfl, hb5⟩))
            have hs5 := hs.below hb5
            clear hs hlen hnx
            go_loopw [9] (fun i wr => ∃ q : Nat, q ≤ d ∧ i = .int .i64 (1 + (q : Int)) ∧ TmS w wr w1.heap.size S' ((n : Int) + (q : Int))) (fun i _ => d + 2 - (intOf i).toNat)
            case atStart => exact ⟨0, by omega, rfl, by simpa using hs5⟩
            case round =>
              clear hs5
              obtain ⟨q, hq, rfl, hs⟩ := hrel
              by_cases hqd : q < d
              · have hqx : 1 + (q : Int) < 1 + (d : Int) := by omega
                have ht := tick_none hs (by omega) (fun x hx => by have := HM2.out x hx; omega)
                go_wp2_with (go_at_call 15; (with_reducible refine ht.mono ?_); rintro e w6 ⟨A6, c6, rfl, hs6⟩)
                have eq1 : (n : Int) + (q : Int) + 1 = (n : Int) + ((q + 1 : Nat) : Int) := by omega
                rw [eq1] at hs6
                exact ⟨⟨q + 1, by omega, by simp only [Value.int.injEq, true_and]; omega, hs6⟩, by simp [intOf]; omega⟩
              · obtain rfl : d = q := by omega
                have hqx : ¬ 1 + (d : Int) < 1 + (d : Int) := by omega
                have ht := ticked hs (by omega)
                have e1 : (n : Int) + (d : Int) + 1 = (n : Int) + 1 + (d : Int) := by omega
                rw [e1] at ht
                have hnz : Hid (∀ I : List Int, (∀ i, i ∈ I ↔ (i, (n : Int) + 1 + (d : Int)) ∈ S') → 0 < I.length) := Lib.hid fun I hI => by
                  obtain ⟨x, hx, hxe⟩ := HM1.out
                  have : x.1 ∈ I := (hI x.1).2 (by rw [← hxe]; exact hx)
                  exact List.length_pos_of_mem this
                clear e1
                go_wp2_with (go_at_call 15; (with_reducible refine ht.mono ?_); rintro e w6 ⟨A6, c6, I, rfl, HI, ho6, hI6, hs6, _⟩; have hI0 := hnz.out I HI.out.2.1; have hI0x : ¬ (I.length : Int) = 0 := by omega)
                have hln := HI.out.2.2
                have e2 : (n : Int) + 1 + (d : Int) = ((n + 1 + d : Nat) : Int) := by omega
                rw [e2] at hs6 hln
                exact ⟨⟨j + 1, f + I.length, n + 1 + d, gone S' ((n + 1 + d : Nat) : Int), by simp, by simp, by omega, by omega, by omega, Lib.hid fun x hx => HS.out x (mem_gone.1 hx).1, hs6⟩, by simp [intOf]; omega⟩
set_option maxRecDepth 100000 in
theorem lifted (os : Os) (started : os.Started) (H : Type) (enc : TypeId × Value → H) :
    ReturnsInHanded {} Try.checked os 7 .any (Rows.timerNextsSpec.pre6 enc Try.prog Try.f7 Rows.timerNextsRow.domain false) (Rows.timerNextsSpec.post enc Try.prog Try.f7 false true false false) := by
  refine returnsInHanded_of_change (C := Try.checked) own started (by kernel_rfl) Try.func7
    (ChangeSpec.witness6 (enc := enc) (C := Try.checked) false ⟨#[], #[.slice none 0 0], []⟩ 8 (by kernel_rfl) (by kernel_rfl) (by kernel_rfl) (by kernel_rfl)) ?_
  intro W base args ds gs before hval0 hW hcnd _
  have hval : ∀ (j : Nat) t v, Try.f7.params[j]? = some t → args[j]? = some v → Value.okWide Try.prog W .any base t v := hval0
  have hW' := hW
  obtain ⟨p, q, hA0, hV, rfl, hfz, hnd⟩ := hW
  have hA : DataW.TrodAll enc Try.prog W 0 (fun _ => true) true Try.f7.params.toList args.toList ds p := hA0
  rw [Try.params7] at hA hval
  obtain ⟨v0, vs0, d0, ds0, p0, q0, hargs, rfl, rfl, h0, r0⟩ := trodAll_cons hA
  obtain ⟨rfl, rfl, rfl⟩ := trodAll_nil r0
  obtain rfl : args = #[v0] := by cases args; simp_all
  obtain ⟨rfl, rfl⟩ := trodVars_none hV
  obtain ⟨l0, s0, e0⟩ := open_bytes Try.underlying44 Try.underlying5 (by kernel_rfl) (hval 0 44 v0 rfl rfl) h0
  refine (walk v0 l0 W s0).mono fun e W' ⟨he, hb⟩ => ?_
  subst he
  exact ⟨_, rfl, law_post laidOut (by kernel_rfl) rfl (by kernel_rfl) Try.underlying4 rfl rfl rfl hW' hb⟩

theorem proved : Rows.TimerNextsSaid :=
  OpenClaim.holds_of_wide 7 Try.f7 rfl rfl rfl rfl rfl rfl rfl ⟨rfl, rfl, rfl, rfl, rfl⟩ rfl rfl rfl rfl rfl (by kernel_rfl) Try.func7 (by kernel_rfl)
    (of_decide_eq_true (by kernel_rfl)) (by unfold Func.isWrapper; first | (rw [if_pos (by decide +kernel)]; kernel_rfl) | (rw [if_neg (by decide +kernel)]; exact ⟨rfl, rfl⟩))
    (fun os started H enc _ => lifted os started H enc)
end Nexts
end Go.Proofs.Ytohbkepjbaigdaa
