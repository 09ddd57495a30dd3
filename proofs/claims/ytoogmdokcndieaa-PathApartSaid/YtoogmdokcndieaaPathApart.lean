/- PathApart: for all commands the statement's function tells true and turns nothing that was there. No condition. -/
import Derived.Test.YtoogmdokcndieaaActC
import Derived.Test.YtoogmdokcndieaaMp5
import Derived.BigQuiet
import Derived.Deep.QuietTactic
namespace Go.Proofs.Ytoogmdokcndieaa
open Go.ChangeShapes Go.WideShapes Go.ChangeAt Go.RowKit Go.Lib
set_option linter.unusedVariables false
set_option linter.unusedSimpArgs false
set_option maxRecDepth 100000
namespace Nw
/-- All wait that may be sent. -/
def Fit (its : List It) : Prop := ∀ (i : Nat) (x : It), its[i]? = some x → x.due = true ∧ CmOk x.c ∧ x.d.length ≤ 1024
theorem Fit.nil : Fit [] := fun i x h => by simp at h
theorem Fit.snoc {its : List It} (h : Fit its) {y : It} (h1 : y.due = true) (h2 : CmOk y.c) (h3 : y.d.length ≤ 1024) : Fit (its ++ [y]) := fun i x hx => by
  by_cases hi : i < its.length
  · rw [List.getElem?_append_left hi] at hx
    exact h i x hx
  · have hl := (List.getElem?_eq_some_iff.1 hx).1
    rw [List.length_append, List.length_singleton] at hl
    rw [List.getElem?_append_right (by omega), show i - its.length = 0 by omega] at hx
    obtain rfl : y = x := Option.some.inj hx
    exact ⟨h1, h2, h3⟩
/-- Submit of a command that was handed in. -/
theorem submit_act {O : Nat → Prop} {X Y host : Nat} {its : List It} {S : List One} {w0 w : World} (h : Pt w O X Y host its S) (hn : its.length ≤ 3) (hO : ∀ k, w.heap.size ≤ k → O k) (hw : Below w0.heap.size w0 w) (hOB : ∀ k, O k → w0.heap.size ≤ k) (hf : Fit its) (a : CmdA) (ha : ActOk w0 w0.heap.size a) (hk : 1 ≤ a.kind ∧ a.kind ≤ 18) (hd : a.datal.length ≤ 1024) (k : Nat) (hl : its.length = k) : Calls Try.prog 6 #[.pointer (some ⟨X, 0, none⟩), .agg #[.int .i64 a.kind, .int .i64 a.at_, .int .i64 a.n, a.data, .int .u64 (a.key : Nat), .int .u64 (a.new : Nat), .int .i64 a.typ, .bool a.force]] w fun e' w' => e' = .returned (.tuple #[.int .u64 ((k : Int) + 1), .int .i64 0]) ∧ ∃ its' S', Pt w' O X Y host its' S' ∧ its'.length = k + 1 ∧ Fit its' ∧ Eff O w w' := by
  subst hl
  refine (submit_any h hn ⟨a.kind, a.at_, a.n, a.key, a.new, a.typ, a.force⟩ hk a.data a.datal w0.heap.size hw.size hOB (ha.data.below hw) hd).mono ?_
  rintro e' w' ⟨q1, v, S', q2, q3⟩
  have hkey := ha.key
  have hnew := ha.new
  exact ⟨q1, _, S', q2.more fun k _ hk => hk.elim id (hO k), by simp, hf.snoc rfl ⟨by show a.key < _; omega, by show a.new < _; omega⟩ hd, q3⟩
set_option maxHeartbeats 4000000 in
theorem walk (va : Value) (la : List CmdA) (vb : Value) (lb : List CmdA) (w : World) (ha : Acts w w.heap.size va la) (hb : Acts w w.heap.size vb lb) : Calls Try.prog 3 #[va, vb] w fun e w' => e = .returned (.bool true) ∧ Below w.heap.size w w' := by
  obtain ⟨Aa, ca, rfl, ha1, ha2⟩ := ha.form
  obtain ⟨Ab, cb, rfl, hb1, hb2⟩ := hb.form
  rcases Nat.lt_or_ge 4 la.length with hla | hla
  · have hlx : (4 : Int) < (la.length : Int) := by omega
    go_enter Try.func3, Try.ntmps3
    go_wp2_with (go_at_call 4; (with_reducible refine (known_any w).mono ?_); rintro e' w1 ⟨rfl, b1⟩)
    go_ret
    exact ⟨rfl, b1⟩
  rcases Nat.lt_or_ge 4 lb.length with hlb | hlb
  · have hlx : ¬ (4 : Int) < (la.length : Int) := by omega
    have hly : (4 : Int) < (lb.length : Int) := by omega
    go_enter Try.func3, Try.ntmps3
    go_wp2_with (go_at_call 4; (with_reducible refine (known_any w).mono ?_); rintro e' w1 ⟨rfl, b1⟩)
    go_ret
    exact ⟨rfl, b1⟩
  have hlx : ¬ (4 : Int) < (la.length : Int) := by omega
  have hly : ¬ (4 : Int) < (lb.length : Int) := by omega
  have hlxx : (la.length : Int) ≤ 4 := by omega
  have hlyy : (lb.length : Int) ≤ 4 := by omega
  have n0 : ∀ W, Calls Try.prog 5 #[.int .i64 0] W fun e' w' => ∃ X Y, e' = .returned (.tuple #[.pointer (some ⟨X, 0, none⟩), .int .i64 0]) ∧ Pt w' (fun k => W.heap.size ≤ k) X Y 0 [] [] ∧ Below W.heap.size W w' := fun W => pt_new W 0 (by omega)
  have n1 : ∀ W, Calls Try.prog 5 #[.int .i64 1] W fun e' w' => ∃ X Y, e' = .returned (.tuple #[.pointer (some ⟨X, 0, none⟩), .int .i64 0]) ∧ Pt w' (fun k => W.heap.size ≤ k) X Y 1 [] [] ∧ Below W.heap.size W w' := fun W => pt_new W 1 (by omega)
  go_enter Try.func3, Try.ntmps3
  go_wp2_with (first
    | (go_at_call 4; (with_reducible refine (known_any w).mono ?_); rintro e' w1 ⟨rfl, b1⟩; have n1w := n0 w1; have tk := Lib.hid True.intro)
    | (go_at_call 5; (with_reducible refine n1w.mono ?_); rintro e' w2 ⟨X, Y, rfl, p2, b2⟩; have n2w := n1 w2)
    | (go_at_call 5; (with_reducible refine n2w.mono ?_); rintro e' w3 ⟨Z, U, rfl, p3, b3⟩))
  clear n0 n1 n1w n2w
  have OAw : ∀ k, ((w1.heap.size ≤ k ∧ k < w2.heap.size) ∨ w3.heap.size ≤ k) → w.heap.size ≤ k := fun k hk => by have := b1.size; have := b2.size; have := b3.size; omega
  obtain ⟨OA, hOA⟩ : ∃ OA : Nat → Prop, ∀ k, OA k ↔ (w1.heap.size ≤ k ∧ k < w2.heap.size) ∨ w3.heap.size ≤ k := ⟨_, fun _ => Iff.rfl⟩
  have pA : Pt w3 OA X Y 0 [] [] := (p2.more (O' := OA) fun k hk h => (hOA k).2 (.inl ⟨h, hk⟩)).below b3
  have hOOA : ∀ k, w3.heap.size ≤ k → OA k := fun k hk => (hOA k).2 (.inr hk)
  have hOAw : ∀ k, OA k → w.heap.size ≤ k := fun k hk => OAw k ((hOA k).1 hk)
  have bw3 : Below w.heap.size w w3 := b1.trans ((b2.trans (b3.mono b2.size)).mono b1.size)
  -- GEN
  go_wp2
  go_loopw [9] (fun i wr => ∃ (k : Nat) (its : List It) (S : List One), i = .int .i64 k ∧ k ≤ la.length ∧ its.length = k ∧ Fit its ∧ Pt wr OA X Y 0 its S ∧ Eff OA w3 wr) (fun i _ => la.length - (intOf i).toNat)
  case atStart => exact ⟨0, [], [], rfl, Nat.zero_le _, rfl, Fit.nil, pA, Eff.refl _ _⟩
  case round =>
    obtain ⟨k, its, S, rfl, hkk, hilk, hfitk, hPk, hEk⟩ := hrel
    by_cases hkl : k < la.length
    · have hkx : (k : Int) < (la.length : Int) := by omega
      have bwr : Below w.heap.size w wr := hEk.below bw3 bw3.size fun q _ hq => hOAw q hq
      have hact := ha.ok _ (List.getElem_mem hkl)
      obtain ⟨gb, off, rfl, hgb, q0, q1, q2, q3, q4, q5, q6, q7⟩ := (ha.below bwr).at_ hkl
      have hsub := fun (hn : its.length ≤ 3) => submit_act hPk hn (fun q hq => hOOA q (Nat.le_trans hEk.size hq)) bwr hOAw hfitk _ hact
      generalize la[k] = a at *
      obtain ⟨kd, at_, nn, dv, dl, key, nw, ty, fo⟩ := a
      have hsl : Sl w w.heap.size dv dl.length (bs dl) := hact.data
      obtain ⟨Ad, cd, rfl, _, _⟩ := hsl.form
      have wr1 : IntKind.u64.wrap ((k : Int) + 1) = (k : Int) + 1 := by
        show ((k : Int) + 1) % 18446744073709551616 = _
        omega
      clear hact
      rcases Nat.lt_or_ge 1024 dl.length with h1 | h1
      · have h1x : (1024 : Int) < (dl.length : Int) := by omega
        clear hsub
        go_wp2
        go_ret
        exact ⟨rfl, bwr⟩
      have h1x : ¬ (1024 : Int) < (dl.length : Int) := by omega
      by_cases h2 : kd < 1
      · clear hsub
        go_wp2
        go_ret
        exact ⟨rfl, bwr⟩
      by_cases h3 : 18 < kd
      · clear hsub
        go_wp2
        go_ret
        exact ⟨rfl, bwr⟩
      have c1 := hsub (by omega) ⟨by show 1 ≤ kd; omega, by show kd ≤ 18; omega⟩ (by show dl.length ≤ 1024; omega) k hilk
      clear hsub
      go_wp2_with (go_at_call 6; (with_reducible refine c1.mono ?_); rintro e' w8 ⟨rfl, its8, S8, p8, l8, f8', E8⟩)
      exact ⟨⟨k + 1, its8, S8, by simp, by omega, l8, f8', p8, hEk.trans E8 fun q _ hq => hq⟩, by simp [intOf]; omega⟩
    · obtain rfl : k = la.length := by omega
      obtain ⟨w4, hw4⟩ : ∃ w4, wr = w4 := ⟨_, rfl⟩
      rw [hw4] at hPk hEk ⊢
      clear hw4
      have bw4 : Below w.heap.size w w4 := hEk.below bw3 bw3.size fun q _ hq => hOAw q hq
      obtain ⟨OB, hOB⟩ : ∃ OB : Nat → Prop, ∀ k, OB k ↔ (w2.heap.size ≤ k ∧ k < w3.heap.size) ∨ w4.heap.size ≤ k := ⟨_, fun _ => Iff.rfl⟩
      obtain ⟨OC, hOC⟩ : ∃ OC : Nat → Prop, ∀ k, OC k ↔ OA k ∧ k < w4.heap.size := ⟨_, fun _ => Iff.rfl⟩
      have hdis : ∀ k, OC k → ¬ OB k := fun k h1 h2 => by
        have e1 := (hOC k).1 h1
        have e2 := (hOA k).1 e1.1
        have e3 := (hOB k).1 h2
        have := b2.size; have := b3.size
        omega
      have pB : Pt w4 OB Z U 1 [] [] := ((p3.more (O' := fun k => w2.heap.size ≤ k ∧ k < w3.heap.size) fun k hk h => ⟨h, hk⟩).eff hEk fun k hk h1 h2 => by
        have e2 := (hOA k).1 h2
        omega).more fun k _ h => (hOB k).2 (.inl h)
      have pA4 : Pt w4 OC X Y 0 its S := hPk.more fun k hk h => (hOC k).2 ⟨h, hk⟩
      have hOOB : ∀ k, w4.heap.size ≤ k → OB k := fun k hk => (hOB k).2 (.inr hk)
      have hOBw : ∀ k, OB k → w.heap.size ≤ k := fun k hk => by
        have e3 := (hOB k).1 hk
        have := b1.size; have := b2.size; have := bw4.size
        omega
      clear hPk hEk
      go_wp2
      go_loopw [12] (fun i wr => ∃ (k : Nat) (its : List It) (S : List One), i = .int .i64 k ∧ k ≤ lb.length ∧ its.length = k ∧ Fit its ∧ Pt wr OB Z U 1 its S ∧ Eff OB w4 wr) (fun i _ => lb.length - (intOf i).toNat)
      case atStart => exact ⟨0, [], [], rfl, Nat.zero_le _, rfl, Fit.nil, pB, Eff.refl _ _⟩
      case round =>
        obtain ⟨j, itt, SS, rfl, hkj, hilj, hfitj, hPj, hEj⟩ := hrel
        by_cases hkl : j < lb.length
        · have hkx : (j : Int) < (lb.length : Int) := by omega
          have bwr : Below w.heap.size w wr := hEj.below bw4 bw4.size fun q _ hq => hOBw q hq
          have hact := hb.ok _ (List.getElem_mem hkl)
          obtain ⟨gb, off, rfl, hgb, q0, q1, q2, q3, q4, q5, q6, q7⟩ := (hb.below bwr).at_ hkl
          have hsub := fun (hn : itt.length ≤ 3) => submit_act hPj hn (fun q hq => hOOB q (Nat.le_trans hEj.size hq)) bwr hOBw hfitj _ hact
          generalize lb[j] = a at *
          obtain ⟨kd, at_, nn, dv, dl, key, nw, ty, fo⟩ := a
          have hsl : Sl w w.heap.size dv dl.length (bs dl) := hact.data
          obtain ⟨Ad, cd, rfl, _, _⟩ := hsl.form
          have wr1 : IntKind.u64.wrap ((j : Int) + 1) = (j : Int) + 1 := by
            show ((j : Int) + 1) % 18446744073709551616 = _
            omega
          clear hact
          rcases Nat.lt_or_ge 1024 dl.length with h1 | h1
          · have h1x : (1024 : Int) < (dl.length : Int) := by omega
            clear hsub
            go_wp2
            go_ret
            exact ⟨rfl, bwr⟩
          have h1x : ¬ (1024 : Int) < (dl.length : Int) := by omega
          by_cases h2 : kd < 1
          · clear hsub
            go_wp2
            go_ret
            exact ⟨rfl, bwr⟩
          by_cases h3 : 18 < kd
          · clear hsub
            go_wp2
            go_ret
            exact ⟨rfl, bwr⟩
          have c1 := hsub (by omega) ⟨by show 1 ≤ kd; omega, by show kd ≤ 18; omega⟩ (by show dl.length ≤ 1024; omega) j hilj
          clear hsub
          go_wp2_with (go_at_call 6; (with_reducible refine c1.mono ?_); rintro e' w8 ⟨rfl, its8, S8, p8, l8, f8', E8⟩)
          exact ⟨⟨j + 1, its8, S8, by simp, by omega, l8, f8', p8, hEj.trans E8 fun q _ hq => hq⟩, by simp [intOf]; omega⟩
        · obtain rfl : j = lb.length := by omega
          obtain ⟨w5, hw5⟩ : ∃ w5, wr = w5 := ⟨_, rfl⟩
          rw [hw5] at hPj hEj ⊢
          clear hw5
          have bw5 : Below w.heap.size w w5 := hEj.below bw4 bw4.size fun q _ hq => hOBw q hq
          have p5A : Pt w5 OC X Y 0 its S := pA4.eff hEj fun k _ h1 h2 => hdis k h1 h2
          have cOut := out_any p5A (by omega) (by omega) hfitk
          rw [hilk] at cOut
          go_wp2_with (go_at_call 7; (with_reducible refine cOut.mono ?_); rintro e' w6 ⟨v6, us, its6, rfl, o6, pk6, p6, l6, E6⟩; obtain ⟨A6, c6, rfl, _, _⟩ := own_form o6)
          have p6B : Pt w6 OB Z U 1 itt SS := hPj.eff E6 fun k _ h1 h2 => hdis k h2 h1
          have bw6 : Below w.heap.size w w6 := E6.below bw5 bw5.size fun q _ hq => hOAw q ((hOC q).1 hq).1
          clear cOut hPj hEj hfitj
          go_loopw [16] (fun i wr => ∃ k : Nat, i = .int .i64 k ∧ k ≤ la.length ∧ Below w6.heap.size w6 wr) (fun i _ => la.length - (intOf i).toNat)
          case atStart => exact ⟨0, rfl, Nat.zero_le _, Below.refl _ _⟩
          case round =>
            obtain ⟨m, rfl, hm, hB6⟩ := hrel
            by_cases hml : m < la.length
            · have hmx : (m : Int) < (la.length : Int) := by omega
              obtain ⟨x, hx⟩ : ∃ x, its[m]? = some x := ⟨_, List.getElem?_eq_getElem (by omega)⟩
              obtain ⟨u, hu⟩ : ∃ u, us[m]? = some u := ⟨_, List.getElem?_eq_getElem (by have := pk6.len; omega)⟩
              have q1 := pk6.is m x u hx hu
              have q2 := rowP_at us m u hu
              obtain ⟨g6, rfl⟩ : ∃ g, A6 = some ⟨g, 0, none⟩ := by
                rcases o6.2 with ⟨hv, h1⟩ | ⟨g, cap, cur, hv, _⟩
                · omega
                · simp only [Value.slice.injEq] at hv
                  exact ⟨g, hv.1⟩
              have r0 : ∀ W, Below w6.heap.size w6 W → W.cell? ⟨g6, m * 2, none⟩ = some (.int .i64 0) ∧ W.cell? ⟨g6, m * 2 + 1, none⟩ = some u := fun W hW => ⟨(hW.cell (p := ⟨g6, m * 2, none⟩) (own_tag o6 g6 rfl).2.1).trans (own_cells o6 _ _ q2.1), (hW.cell (p := ⟨g6, m * 2 + 1, none⟩) (own_tag o6 g6 rfl).2.1).trans (own_cells o6 _ _ q2.2)⟩
              obtain ⟨Au, cu, rfl, _, _⟩ := own_form q1
              have hRl : (reqS 0 x.id 1 x.c x.d).length ≤ 1000000 := by
                have := (hfitk m x hx).2.2
                unfold reqS
                rw [List.length_append, List.length_append, be_len, be_len, orderS_len]; omega
              have hpl : (pkS 0 x).length ≤ 1000000 := by
                have := (hfitk m x hx).2.2
                unfold pkS Crc.sealS reqS
                rw [List.length_append, List.length_append, List.length_append, be_len, be_len, orderS_len, Crc.le4_len]; omega
              have cOp : ∀ W, Below w6.heap.size w6 W → Calls Try.prog 8 #[.slice Au (pkS 0 x).length cu] W fun e w' => ∃ v', e = .returned (.tuple #[v', .int .i64 0]) ∧ v'.oneCell' = true ∧ Below W.heap.size W w' := fun W hW => open_pk _ _ W hRl (Sl.of_own (owns_below q1 hW)) hpl
              have cIn : ∀ W, Below w6.heap.size w6 W → Calls Try.prog 9 #[.pointer (some ⟨Z, 0, none⟩), .int .i64 0, .slice Au (pkS 0 x).length cu] W fun e' w' => e' = .returned (.tuple #[]) ∧ Below W.heap.size W w' := fun W hW => in_req Z 0 0 x.id 1 x.c x.d (by have := (hfitk m x hx).2.2; omega) _ (Sl.of_own (owns_below q1 hW)) hpl hRl
              generalize (pkS 0 x).length = L at *
              have r1 := r0 wr hB6
              have r2 := r1.2
              have c1 := cOp wr hB6
              clear q1 q2 hRl
              have hLx : ¬ (0 : Int) ≠ 0 := by simp
              go_wp2_with (go_at_call 8; (with_reducible refine c1.mono ?_); rintro e' w7 ⟨v7, rfl, ho7, b7⟩)
              have B7 := hB6.trans (b7.mono hB6.size)
              apply calm_tail 11 [.is _, .is _, .is _, .is _, .is _, .is _, .is _, .is _, .is _, .is _, .is _] [[], [], [], [1, 2], [3], [4], [], [], [6, 7], [8], [9]] (by kernel_rfl) (by kernel_rfl) (by kernel_rfl) rfl
              intro f a1 ha1
              simp only [List.take_succ_cons, List.take_zero, putL, Act.put, List.setIfInBounds_toArray, List.set_cons_succ, List.set_cons_zero] at ha1
              subst ha1
              refine ⟨?_, ?_⟩
              · refine AllCalm.cons (fun W hB hd => ?_) ?_
                · go_wp2_with (fail)
                  exact CalmQ.mk rfl _ rfl (Below.refl _ _) rfl
                refine AllCalm.cons (fun W hB hd => ?_) ?_
                · go_wp2_with (fail)
                  exact CalmQ.mk rfl _ rfl (Below.refl _ _) rfl
                refine AllCalm.cons (fun W hB hd => ?_) ?_
                · go_wp2_with (fail)
                  exact CalmQ.mk rfl _ rfl (Below.refl _ _) rfl
                refine AllCalm.cons (fun W hB hd => ?_) ?_
                · obtain ⟨h1, h2, -⟩ := hd
                  have h1 : f 1 = _ := h1
                  have h2 : f 2 = _ := h2
                  rw [h1, h2]
                  go_wp2_with (fail)
                  exact CalmQ.mk rfl _ rfl (Below.refl _ _) rfl
                refine AllCalm.cons (fun W hB hd => ?_) ?_
                · obtain ⟨h3, -⟩ := hd
                  have h3 : f 3 = _ := h3
                  rw [h3]
                  go_wp2_with (fail)
                  exact CalmQ.mk rfl _ rfl (Below.refl _ _) rfl
                refine AllCalm.cons (fun W hB hd => ?_) ?_
                · obtain ⟨h4, -⟩ := hd
                  have h4 : f 4 = _ := h4
                  rw [h4]
                  have k0 := (r0 W (B7.trans (hB.mono B7.size))).1
                  go_wp2_with (fail)
                  exact CalmQ.mk rfl _ rfl (Below.refl _ _) rfl
                refine AllCalm.cons (fun W hB hd => ?_) ?_
                · go_wp2_with (fail)
                  exact CalmQ.mk rfl _ rfl (Below.refl _ _) rfl
                refine AllCalm.cons (fun W hB hd => ?_) ?_
                · go_wp2_with (fail)
                  exact CalmQ.mk rfl _ rfl (Below.refl _ _) rfl
                refine AllCalm.cons (fun W hB hd => ?_) ?_
                · obtain ⟨h6, h7, -⟩ := hd
                  have h6 : f 6 = _ := h6
                  have h7 : f 7 = _ := h7
                  rw [h6, h7]
                  go_wp2_with (fail)
                  exact CalmQ.mk rfl _ rfl (Below.refl _ _) rfl
                refine AllCalm.cons (fun W hB hd => ?_) ?_
                · obtain ⟨h8, -⟩ := hd
                  have h8 : f 8 = _ := h8
                  rw [h8]
                  go_wp2_with (fail)
                  exact CalmQ.mk rfl _ rfl (Below.refl _ _) rfl
                refine AllCalm.cons (fun W hB hd => ?_) ?_
                · obtain ⟨h9, -⟩ := hd
                  have h9 : f 9 = _ := h9
                  rw [h9]
                  have k0 := (r0 W (B7.trans (hB.mono B7.size))).2
                  go_wp2_with (fail)
                  exact CalmQ.mk rfl _ rfl (Below.refl _ _) rfl
                exact AllCalm.nil
              · intro W hB hT
                obtain ⟨h0, h1, h2, h3, h4, h5, h6, h7, h8, h9, h10, -⟩ := hT
                have h0 : f 0 = _ := h0
                have h1 : f 1 = _ := h1
                have h2 : f 2 = _ := h2
                have h3 : f 3 = _ := h3
                have h4 : f 4 = _ := h4
                have h5 : f 5 = _ := h5
                have h6 : f 6 = _ := h6
                have h7 : f 7 = _ := h7
                have h8 : f 8 = _ := h8
                have h9 : f 9 = _ := h9
                have h10 : f 10 = _ := h10
                rw [h0, h1, h2, h3, h4, h5, h6, h7, h8, h9, h10]
                clear h0 h1 h2 h3 h4 h5 h6 h7 h8 h9 h10
                simp only [List.drop_succ_cons, List.drop_zero]
                have B8 := B7.trans (hB.mono B7.size)
                have c9 := cIn _ B8
                go_wp2_with (go_at_call 9; (with_reducible refine c9.mono ?_); rintro e' w9 ⟨rfl, b9⟩)
                exact ⟨⟨m + 1, by simp, by omega, B8.trans (b9.mono B8.size)⟩, by simp [intOf]; omega⟩
            · obtain rfl : m = la.length := by omega
              have p7A := p6.below hB6
              have p7B := p6B.below hB6
              have cA : Calls Try.prog 10 #[.pointer (some ⟨X, 0, none⟩)] wr fun e' w' => ∃ A c, e' = .returned (.slice A la.length c) ∧ Below wr.heap.size wr w' := (waiting_any p7A (by omega)).mono fun e' w' ⟨v, q1, q2, q3⟩ => by
                rw [l6] at q2
                obtain ⟨A, c, rfl, _, _⟩ := own_form q2
                exact ⟨A, c, q1, q3⟩
              have cB : ∀ W, Below wr.heap.size wr W → Calls Try.prog 10 #[.pointer (some ⟨Z, 0, none⟩)] W fun e' w' => ∃ A c, e' = .returned (.slice A lb.length c) ∧ Below W.heap.size W w' := fun W hW => (waiting_any (p7B.below hW) (by omega)).mono fun e' w' ⟨v, q1, q2, q3⟩ => by
                rw [hilj] at q2
                obtain ⟨A, c, rfl, _, _⟩ := own_form q2
                exact ⟨A, c, q1, q3⟩
              have cD : ∀ W, Below wr.heap.size wr W → Calls Try.prog 11 #[.pointer (some ⟨Z, 0, none⟩)] W fun e' w' => e' = .returned (.slice none 0 0) ∧ Eff OB W w' := fun W hW => (done_any (p7B.below hW)).mono fun e' w' ⟨q1, _, q3⟩ => ⟨q1, q3⟩
              clear p7A p7B hfitk pk6 p6
              go_wp2_with (first
                | (go_at_call 10; (with_reducible refine cA.mono ?_); rintro e' wa ⟨A9, c9, rfl, ba⟩; have cBw := cB _ ba)
                | (go_at_call 10; (with_reducible refine cBw.mono ?_); rintro e' wb ⟨A10, c10, rfl, bb⟩; have bab := ba.trans (bb.mono ba.size); have cDw := cD _ bab)
                | (go_at_call 11; (with_reducible refine cDw.mono ?_); rintro e' wc ⟨rfl, Ec⟩))
              go_ret
              have bwb := bw6.trans ((hB6.trans (bab.mono hB6.size)).mono bw6.size)
              exact ⟨rfl, Ec.below bwb bwb.size fun q _ hq => hOBw q hq⟩
set_option maxRecDepth 100000 in
theorem lifted (os : Os) (started : os.Started) (H : Type) (enc : TypeId × Value → H) :
    ReturnsInHanded {} Try.checked os 3 .any (Rows.pathApartSpec.pre6 enc Try.prog Try.f3 Rows.pathApartRow.domain false) (Rows.pathApartSpec.post enc Try.prog Try.f3 false true false false) := by
  refine returnsInHanded_of_change (C := Try.checked) own started (by kernel_rfl) Try.func3
    (ChangeSpec.witness6 (enc := enc) (C := Try.checked) false ⟨#[], #[.slice none 0 0, .slice none 0 0], []⟩ 8 (by kernel_rfl) (by kernel_rfl) (by kernel_rfl) (by kernel_rfl)) ?_
  intro W base args ds gs before hval0 hW hcnd _
  have hval : ∀ (j : Nat) t v, Try.f3.params[j]? = some t → args[j]? = some v → Value.okWide Try.prog W .any base t v := hval0
  have hW' := hW
  obtain ⟨p, q, hA0, hV, rfl, hfz, hnd⟩ := hW
  have hA : DataW.TrodAll enc Try.prog W 0 (fun _ => true) true Try.f3.params.toList args.toList ds p := hA0
  rw [Try.params3] at hA hval
  obtain ⟨v0, vs0, d0, ds0, p0, q0, hargs, rfl, rfl, h0, r0⟩ := trodAll_cons hA
  obtain ⟨v1, vs1, d1, ds1, p1, q1, rfl, rfl, rfl, h1, r1⟩ := trodAll_cons r0
  obtain ⟨rfl, rfl, rfl⟩ := trodAll_nil r1
  obtain rfl : args = #[v0, v1] := by cases args; simp_all
  obtain ⟨rfl, rfl⟩ := trodVars_none hV
  obtain ⟨acs0, s0⟩ := open_acts (hval 0 22 v0 rfl rfl) h0
  obtain ⟨acs1, s1⟩ := open_acts (hval 1 22 v1 rfl rfl) h1
  refine (walk v0 acs0 v1 acs1 W s0 s1).mono fun e W' ⟨he, hb⟩ => ?_
  subst he
  exact ⟨_, rfl, law_post laidOut (by kernel_rfl) rfl (by kernel_rfl) Try.underlying4 rfl rfl rfl hW' hb⟩

theorem proved : Rows.PathApartSaid :=
  OpenClaim.holds_of_wide 3 Try.f3 rfl rfl rfl rfl rfl rfl rfl ⟨rfl, rfl, rfl, rfl, rfl⟩ rfl rfl rfl rfl rfl (by kernel_rfl) Try.func3 (by kernel_rfl)
    (of_decide_eq_true (by kernel_rfl)) (by unfold Func.isWrapper; first | (rw [if_pos (by decide +kernel)]; kernel_rfl) | (rw [if_neg (by decide +kernel)]; exact ⟨rfl, rfl⟩))
    (fun os started H enc _ => lifted os started H enc)
end Nw
end Go.Proofs.Ytoogmdokcndieaa
