/- BitsRuns: for all bytes the statement's function tells true and turns nothing that was there. No condition. -/
import Derived.Test.YtleolacplgpigaaBt9
import Derived.Test.YtleolacplgpigaaCalmI
import Derived.LoopTactic
import Derived.BigQuiet
import Derived.IntWalk
import Derived.Deep.QuietTactic
namespace Go.Proofs.Ytleolacplgpigaa
open Go.ChangeShapes Go.WideShapes Go.ChangeAt Go.RowKit Go.Lib
set_option linter.unusedVariables false
namespace Runs
theorem own : ownKnob Try.prog.godebug = none := by kernel_rfl
theorem laidOut : laidOutB Try.prog = true := by kernel_rfl
/-- L's bits are those of the first k rows. -/
def Upto (R : List (Nat × Nat)) (k : Nat) (L : List UInt8) : Prop := ∀ j, bit L j = true ↔ ∃ r ∈ R.take k, r.1 ≤ j ∧ j < r.1 + r.2
def sumTo (R : List (Nat × Nat)) (k : Nat) : Nat := ((R.take k).map (·.2)).sum
theorem sum_step {R : List (Nat × Nat)} {k : Nat} (h : k < R.length) : sumTo R (k + 1) = sumTo R k + R[k].2 := by
  unfold sumTo
  rw [List.take_add_one, List.getElem?_eq_getElem h, List.map_append, List.sum_append]
  simp
theorem sum_all (R : List (Nat × Nat)) : sumTo R R.length = (R.map (·.2)).sum := by unfold sumTo; rw [List.take_length]
theorem sum_le {l : List UInt8} {t : Nat} {R : List (Nat × Nat)} (h : RunsOf l t R) (k : Nat) : sumTo R k ≤ cnt l t := by
  rw [h.sum]
  unfold sumTo
  conv => rhs; rw [← List.take_append_drop k R]
  rw [List.map_append, List.sum_append]
  omega
theorem upto_zero (R : List (Nat × Nat)) (n : Nat) : Upto R 0 (List.replicate n 0) := by
  intro j
  rw [List.take_zero]
  constructor
  · intro h
    unfold bit at h
    have : ((List.replicate n (0 : UInt8)).getD (j / 8) 0) = 0 := by
      rw [List.getD_eq_getElem?_getD, List.getElem?_replicate]
      split <;> rfl
    rw [this] at h
    simp at h
  · rintro ⟨r, hr, _⟩
    cases hr
theorem upto_step {R : List (Nat × Nat)} {k : Nat} {L L' : List UInt8} (h : k < R.length) (hu : Upto R k L) (hb : ∀ j, bit L' j = if R[k].1 ≤ j ∧ j < R[k].1 + R[k].2 then true else bit L j) : Upto R (k + 1) L' := by
  intro j
  rw [hb, List.take_add_one, List.getElem?_eq_getElem h]
  by_cases hj : R[k].1 ≤ j ∧ j < R[k].1 + R[k].2
  · rw [if_pos hj]
    exact ⟨fun _ => ⟨R[k], List.mem_append_right _ (by simp), hj⟩, fun _ => rfl⟩
  · rw [if_neg hj, hu j]
    constructor
    · rintro ⟨r, hr, h1⟩
      exact ⟨r, List.mem_append_left _ hr, h1⟩
    · rintro ⟨r, hr, h1⟩
      rw [List.mem_append] at hr
      rcases hr with hr | hr
      · exact ⟨r, hr, h1⟩
      · simp at hr
        subst hr
        exact absurd h1 hj
theorem apart_get {R : List (Nat × Nat)} (h : R.Pairwise fun a b => a.1 + a.2 < b.1) {i j : Nat} (hij : i < j) (hj : j < R.length) : (R[i]'(by omega)).1 + (R[i]'(by omega)).2 < (R[j]).1 := List.pairwise_iff_getElem.1 h i j (by omega) hj hij
/-- In the row that comes next none is set yet. -/
theorem upto_free {R : List (Nat × Nat)} {k : Nat} {L : List UInt8} (hap : R.Pairwise fun a b => a.1 + a.2 < b.1) (h : k < R.length) (hu : Upto R k L) : ∀ j, R[k].1 ≤ j → j < R[k].1 + R[k].2 → bit L j = false := by
  intro j h1 h2
  rcases hb : bit L j with _ | _
  · rfl
  · obtain ⟨r, hr, h3, h4⟩ := (hu j).1 hb
    obtain ⟨i, hi, rfl⟩ := List.mem_iff_getElem.1 hr
    rw [List.length_take] at hi
    rw [List.getElem_take] at h3 h4
    have := apart_get hap (show i < k by omega) h
    omega
theorem upto_all {l L : List UInt8} {R : List (Nat × Nat)} (hlen : L.length = l.length) (hu : Upto R R.length L) (hb : ∀ j, bit l j = true ↔ ∃ r ∈ R, r.1 ≤ j ∧ j < r.1 + r.2) : L = l := by
  refine rows_same hlen fun j => ?_
  have h1 := hu j
  rw [List.take_length, ← hb j] at h1
  rcases h2 : bit L j with _ | _ <;> rcases h3 : bit l j with _ | _
  · rfl
  · rw [h2, h3] at h1; simp at h1
  · rw [h2, h3] at h1; simp at h1
  · rfl
theorem pflat_at (R : List (Nat × Nat)) {k : Nat} (h : k < R.length) : (pflat R)[2 * k]? = some (.int .i64 (R[k].1 : Nat)) ∧ (pflat R)[2 * k + 1]? = some (.int .i64 (R[k].2 : Nat)) := by
  induction R generalizing k with
  | nil => simp at h
  | cons r R ih =>
    cases k with
    | zero => exact ⟨rfl, rfl⟩
    | succ k =>
      have h' : k < R.length := by simpa using h
      have := ih h'
      rw [show 2 * (k + 1) = 2 * k + 2 by omega, show 2 * k + 2 + 1 = 2 * k + 1 + 2 by omega]
      exact this
/-- What is laid for a row's pair. -/
theorem pair_cells {w : World} {B : Nat} {A : Option Addr} {c : Nat} {R : List (Nat × Nat)} (h : w.ownsRow B 28 2 (.slice A R.length c) R.length (pflat R)) {k : Nat} (hk : k < R.length) : ∃ g, A = some ⟨g, 0, none⟩ ∧ ∀ W, Below w.heap.size w W → W.cell? ⟨g, k * 2, none⟩ = some (.int .i64 (R[k].1 : Nat)) ∧ W.cell? ⟨g, k * 2 + 1, none⟩ = some (.int .i64 (R[k].2 : Nat)) := by
  obtain ⟨g, c', e, hg, hl⟩ := own_some h (by omega)
  injection e with e1 e2 e3
  subst e1
  refine ⟨g, rfl, fun W hW => ?_⟩
  have ho := owns_below h hW
  have hp := pflat_at R hk
  rw [Nat.mul_comm] at hp
  exact ⟨by rw [ho.cellAt _ (by omega)]; exact hp.1, by rw [ho.cellAt _ (by omega)]; exact hp.2⟩
set_option maxRecDepth 100000 in
set_option maxHeartbeats 1000000 in
theorem walk (v : Value) (l : List UInt8) (w : World) (hv : Sl w w.heap.size v l.length (bs l)) :
    Calls Try.prog 3 #[v] w fun e w' => e = .returned (.bool true) ∧ Below w.heap.size w w' := by
  obtain ⟨A, c, rfl, hc1, hc2⟩ := hv.form
  by_cases hll : 60 < l.length
  · have hlx : (60 : Int) < (l.length : Int) := by omega
    clear hv
    go_enter Try.func3, Try.ntmps3
    go_wp2_with (go_at_call 4; refine (known_any _).mono ?_; rintro e w1 ⟨rfl, hb1⟩)
    go_ret
    exact ⟨rfl, hb1⟩
  · have hlx : ¬ (60 : Int) < (l.length : Int) := by omega
    have cNew : ∀ W, 0 < l.length → Calls Try.prog 6 #[.int .i64 (8 * (l.length : Int))] W fun e w' => ∃ g c, e = .returned (.slice (some ⟨g, 0, none⟩) l.length c) ∧ W.heap.size ≤ g ∧ w'.ownsRow W.heap.size 5 1 (.slice (some ⟨g, 0, none⟩) l.length c) l.length (bs (List.replicate l.length 0)) ∧ Below W.heap.size W w' := by
      intro W h0
      have h := new_any (8 * l.length) (by omega) (by omega) W
      rw [show (8 * l.length + 7) / 8 = l.length by omega, show ((8 * l.length : Nat) : Int) = 8 * (l.length : Int) by omega] at h
      refine h.mono ?_
      rintro e w' ⟨v, rfl, ho, hb⟩
      obtain ⟨g, c, rfl, hg, _⟩ := own_some ho h0
      exact ⟨g, c, rfl, hg, ho, hb⟩
    have cRuns : ∀ W, Below w.heap.size w W → Calls Try.prog 5 #[.slice A l.length c] W fun e w' => ∃ A1 c1 R t, e = .returned (.slice A1 R.length c1) ∧ Hid (RunsOf l t R ∧ cnt l (8 * l.length) = (R.map (·.2)).sum ∧ ∀ j, bit l j = true ↔ ∃ r ∈ R, r.1 ≤ j ∧ j < r.1 + r.2) ∧ w'.ownsRow W.heap.size 28 2 (.slice A1 R.length c1) R.length (pflat R) ∧ R.length ≤ 8000 ∧ Below W.heap.size W w' := by
      intro W hW
      refine (runs_any _ l W (by omega) (hv.now hW)).mono ?_
      rintro e w' ⟨u, R, t, rfl, hR, hz, ho, hl8, hb⟩
      obtain ⟨A1, c1, rfl⟩ := formOf ho
      exact ⟨A1, c1, R, t, rfl, Lib.hid ⟨hR, hR.done hz⟩, ho, hl8, hb⟩
    have cCount : ∀ W, Below w.heap.size w W → Calls Try.prog 8 #[.slice A l.length c] W fun e w' => e = .returned (.int .i64 (cnt l (8 * l.length) : Nat)) ∧ W = w' :=
      fun W hW => count_any _ l W (by omega) (hv.now hW)
    by_cases h0 : l.length = 0
    · obtain rfl : l = [] := List.eq_nil_of_length_eq_zero h0
      have hn0 := new_no 0 (by omega)
      clear hlx
      have k1 : ∀ W : World, (convert 25 9 (.slice none 0 0)).run Try.prog W = .ok (.string ⟨([] : List UInt8).toArray⟩) W := fun W =>
        bytes_str _ _ _ _ Try.underlying25 Try.underlying5 Try.underlying9 W.heap.size _ [] _ Sl.nil_
      have k2 : ∀ W : World, Below w.heap.size w W → (convert 22 9 (.slice A 0 c)).run Try.prog W = .ok (.string ⟨([] : List UInt8).toArray⟩) W := fun W hW =>
        bytes_str _ _ _ _ Try.underlying22 Try.underlying5 Try.underlying9 _ _ [] _ (hv.now hW)
      have hR0 : ∀ R t, RunsOf [] t R → R.length = 0 := by
        intro R t h
        cases R with
        | nil => rfl
        | cons r R =>
          have h1 := h.each r (by simp)
          have h2 := h.le
          simp at h2
          omega
      have cR : ∀ W, Below w.heap.size w W → Calls Try.prog 5 #[.slice A 0 c] W fun e w' => ∃ A1 c1, e = .returned (.slice A1 0 c1) ∧ Below W.heap.size W w' := by
        intro W hW
        refine (cRuns W hW).mono ?_
        rintro e w' ⟨A1, c1, R, t, rfl, HR, ho, h8, hb⟩
        have := hR0 R t HR.out.1
        rw [this]
        exact ⟨A1, c1, rfl, hb⟩
      have cC : ∀ W, Below w.heap.size w W → Calls Try.prog 8 #[.slice A 0 c] W fun e w' => e = .returned (.int .i64 0) ∧ W = w' := cCount
      clear cRuns hR0 cNew h0 cCount
      go_enter Try.func3, Try.ntmps3
      go_wp2_with (first
        | (go_at_call 4; refine (known_any _).mono ?_; rintro e w1 ⟨rfl, hb1⟩)
        | (go_at_call 5; (with_reducible refine (cR _ hb1).mono ?_); rintro e w2 ⟨A2, c2, rfl, hb2⟩; have hb02 := hb1.trans (hb2.mono hb1.size); have k3 := k2 _ hb02; have k4 := k1 w2)
        | (go_at_call 6; (with_reducible refine (hn0 _).mono ?_); rintro e w3 ⟨rfl, rfl⟩))
      go_loopw [5, 6] (fun n i wr => n = .int .i64 0 ∧ i = .int .i64 0 ∧ wr = w2) (fun _ i _ => 0)
      case atStart => exact ⟨rfl, rfl, rfl⟩
      case round =>
        obtain ⟨rfl, rfl, rfl⟩ := hrel
        go_wp2_with (first
          | (go_at_call 8; (with_reducible refine (cC _ hb02).mono ?_); rintro e w4 ⟨rfl, rfl⟩))
        go_ret
        exact ⟨rfl, hb02⟩
    · have h0x : (0 : Int) < (l.length : Int) := by omega
      go_enter Try.func3, Try.ntmps3
      go_wp2_with (first
        | (go_at_call 4; refine (known_any _).mono ?_; rintro e w1 ⟨rfl, hb1⟩)
        | (go_at_call 5; (with_reducible refine (cRuns _ hb1).mono ?_); rintro e w2 ⟨A2, c2, R, t, rfl, HR, hoR, hR8, hb2⟩; have hb02 := hb1.trans (hb2.mono hb1.size))
        | (go_at_call 6; (with_reducible refine (cNew _ (by omega)).mono ?_); rintro e w3 ⟨gx, cx, rfl, hgx, hox, hb3⟩; have hb03 := hb02.trans (hb3.mono hb02.size)))
      have hRx : (R.length : Int) ≤ 8000 := by omega
      go_loopw [5, 6] (fun n i wr => ∃ (k : Nat) (L : List UInt8), k ≤ R.length ∧ i = .int .i64 k ∧ n = .int .i64 (sumTo R k : Nat) ∧ Hid (L.length = l.length ∧ Upto R k L) ∧ wr.ownsRow w2.heap.size 5 1 (.slice (some ⟨gx, 0, none⟩) l.length cx) l.length (bs L) ∧ Below w2.heap.size w2 wr) (fun _ i _ => R.length - (intOf i).toNat)
      case atStart => exact ⟨0, List.replicate l.length 0, by omega, rfl, rfl, Lib.hid ⟨by simp, upto_zero R _⟩, hox, hb3⟩
      case round =>
        clear hox hb3 hb03
        obtain ⟨k, L, hk, rfl, rfl, HL, hox, hb⟩ := hrel
        by_cases hkR : k < R.length
        · have hkx : (k : Int) < (R.length : Int) := by omega
          obtain ⟨gR, eR, hcR0⟩ := pair_cells hoR hkR
          have hcR := fun W (hW : Below wr.heap.size wr W) => hcR0 W (hb.trans (hW.mono hb.size))
          clear hcR0
          have hrow := HR.out.1.each R[k] (List.getElem_mem hkR)
          have hle := HR.out.1.le
          have hsl := sum_le HR.out.1 (k + 1)
          rw [sum_step hkR] at hsl
          have hcl := cnt_le l t
          have hfree := upto_free HR.out.1.apart hkR HL.out.2
          have hset : ∀ W, Below wr.heap.size wr W → Calls Try.prog 7 #[.slice (some ⟨gx, 0, none⟩) l.length cx, .int .i64 (R[k].1 : Nat), .int .i64 (R[k].2 : Nat)] W fun e w' => e = .returned (.int .i64 (R[k].2 : Nat)) ∧ ∃ L' : List UInt8, Hid (L'.length = l.length ∧ Upto R (k + 1) L') ∧ w'.ownsRow w2.heap.size 5 1 (.slice (some ⟨gx, 0, none⟩) l.length cx) l.length (bs L') ∧ Below w2.heap.size w2 w' := by
            intro W hW
            have hs := set_any w2.heap.size gx cx L R[k].1 R[k].2 w2 W (by have := HL.out.1; omega) (Nat.le_trans hb.size hW.size) (by have := HL.out.1; omega) (by have := HL.out.1; omega) (by rw [HL.out.1]; exact owns_below hox hW) hgx (hb.trans (hW.mono hb.size))
            rw [tn_all hfree, HL.out.1] at hs
            refine hs.mono ?_
            rintro e w' ⟨rfl, L', h1, h2, h3, h4⟩
            exact ⟨rfl, L', Lib.hid ⟨h1, upto_step hkR HL.out.2 h2⟩, h3, h4⟩
          have HSS := Lib.hid (sum_step hkR)
          subst eR
          have hSb : ((sumTo R k : Nat) : Int) + (R[k].2 : Int) ≤ 480 := by omega
          by_cases hk0 : k = 0
          · subst hk0
            generalize R[0].1 = F at *
            generalize R[0].2 = N at *
            generalize sumTo R 0 = S at *
            have hNx : ¬ (N : Int) < 1 := by omega
            have hNy : (N : Int) ≤ 480 := by omega
            clear hcl hsl hfree
            go_wp2
            apply calm_region [.is _, .is _, .is _, .is _, .is _, .is _, .is _, .is _, .is _, .is _, .is _, .is _, .is _, .is _, .is _, .is _, .is _, .is _, .is _, .is _, .is _, .is _, .is _, .is _, .is _, .is _, .is _, .is _, .is _, .is _, .is _] [[], [], [0, 1], [2], [3], [4], [5], [6], [7, 6], [8, 6, 6], [9], [9], [10, 11, 9], [12, 9], [13, 9], [9], [9], [16, 9], [15, 17, 9], [18, 9], [19, 9], [9], [9], [22, 9], [21, 23, 9], [24, 9], [25, 9], [20, 26, 9], [14, 27, 9], [9, 28, 6], [6, 29]] (by kernel_rfl) (by kernel_rfl) (by kernel_rfl) rfl
            intro f a1 ha1
            simp only [putL, Act.put, List.setIfInBounds_toArray, List.set_cons_succ, List.set_cons_zero] at ha1
            subst ha1
            refine ⟨?_, ?_⟩
            · refine AllCalm.cons (fun W hB hd => ?_) ?_
              · go_wp2_with (fail)
                exact CalmQ.mk rfl _ rfl (Below.refl _ _) rfl
              refine AllCalm.cons (fun W hB hd => ?_) ?_
              · go_wp2_with (fail)
                exact CalmQ.mk rfl _ rfl (Below.refl _ _) rfl
              refine AllCalm.cons (fun W hB hd => ?_) ?_
              · obtain ⟨h0, h1, -⟩ := hd
                have h0 : f 0 = _ := h0
                have h1 : f 1 = _ := h1
                rw [h0, h1]
                go_wp2_with (fail)
                exact CalmQ.mk rfl _ rfl (Below.refl _ _) rfl
              refine AllCalm.cons (fun W hB hd => ?_) ?_
              · obtain ⟨h2, -⟩ := hd
                have h2 : f 2 = _ := h2
                rw [h2]
                go_wp2_with (fail)
                exact CalmQ.mk rfl _ rfl (Below.refl _ _) rfl
              refine AllCalm.cons (fun W hB hd => ?_) ?_
              · obtain ⟨h3, -⟩ := hd
                have h3 : f 3 = _ := h3
                rw [h3]
                have kx := (hcR W hB).2
                go_wp2_with (fail)
                exact CalmQ.mk rfl _ rfl (Below.refl _ _) rfl
              refine AllCalm.cons (fun W hB hd => ?_) ?_
              · obtain ⟨h4, -⟩ := hd
                have h4 : f 4 = _ := h4
                rw [h4]
                go_wp2_with (fail)
                exact CalmQ.mk rfl _ rfl (Below.refl _ _) rfl
              refine AllCalm.cons (fun W hB hd => ?_) ?_
              · obtain ⟨h5, -⟩ := hd
                have h5 : f 5 = _ := h5
                rw [h5]
                go_wp2_with (fail)
                exact CalmQ.mk rfl _ rfl (Below.refl _ _) rfl
              refine AllCalm.cons (fun W hB hd => ?_) ?_
              · obtain ⟨h6, -⟩ := hd
                have h6 : f 6 = _ := h6
                rw [h6]
                go_wp2_with (fail)
                exact CalmQ.mk rfl _ rfl (Below.refl _ _) rfl
              refine AllCalm.cons (fun W hB hd => ?_) ?_
              · obtain ⟨h7, h6, -⟩ := hd
                have h7 : f 7 = _ := h7
                have h6 : f 6 = _ := h6
                rw [h7, h6]
                go_wp2_with (fail)
                exact CalmQ.mk rfl _ rfl (Below.refl _ _) rfl
              refine AllCalm.cons (fun W hB hd => ?_) ?_
              · obtain ⟨h8, h6, -, -⟩ := hd
                have h8 : f 8 = _ := h8
                have h6 : f 6 = _ := h6
                rw [h8, h6]
                go_wp2_with (fail)
                exact CalmQ.mk rfl _ rfl (Below.refl _ _) rfl
              refine AllCalm.cons (fun W hB hd => ?_) ?_
              · obtain ⟨h9, -⟩ := hd
                have h9 : f 9 = _ := h9
                rw [h9]
                go_wp2_with (fail)
                exact CalmQ.mk rfl _ rfl (Below.refl _ _) rfl
              refine AllCalm.cons (fun W hB hd => ?_) ?_
              · obtain ⟨h9, -⟩ := hd
                have h9 : f 9 = _ := h9
                rw [h9]
                go_wp2_with (fail)
                exact CalmQ.mk rfl _ rfl (Below.refl _ _) rfl
              refine AllCalm.cons (fun W hB hd => ?_) ?_
              · obtain ⟨h10, h11, h9, -⟩ := hd
                have h10 : f 10 = _ := h10
                have h11 : f 11 = _ := h11
                have h9 : f 9 = _ := h9
                rw [h10, h11, h9]
                go_wp2_with (fail)
                exact CalmQ.mk rfl _ rfl (Below.refl _ _) rfl
              refine AllCalm.cons (fun W hB hd => ?_) ?_
              · obtain ⟨h12, h9, -⟩ := hd
                have h12 : f 12 = _ := h12
                have h9 : f 9 = _ := h9
                rw [h12, h9]
                go_wp2_with (fail)
                exact CalmQ.mk rfl _ rfl (Below.refl _ _) rfl
              refine AllCalm.cons (fun W hB hd => ?_) ?_
              · obtain ⟨h13, h9, -⟩ := hd
                have h13 : f 13 = _ := h13
                have h9 : f 9 = _ := h9
                rw [h13, h9]
                go_wp2_with (fail)
                exact CalmQ.mk rfl _ rfl (Below.refl _ _) rfl
              refine AllCalm.cons (fun W hB hd => ?_) ?_
              · obtain ⟨h9, -⟩ := hd
                have h9 : f 9 = _ := h9
                rw [h9]
                go_wp2_with (fail)
                exact CalmQ.mk rfl _ rfl (Below.refl _ _) rfl
              refine AllCalm.cons (fun W hB hd => ?_) ?_
              · obtain ⟨h9, -⟩ := hd
                have h9 : f 9 = _ := h9
                rw [h9]
                go_wp2_with (fail)
                exact CalmQ.mk rfl _ rfl (Below.refl _ _) rfl
              refine AllCalm.cons (fun W hB hd => ?_) ?_
              · obtain ⟨h16, h9, -⟩ := hd
                have h16 : f 16 = _ := h16
                have h9 : f 9 = _ := h9
                rw [h16, h9]
                go_wp2_with (fail)
                exact CalmQ.mk rfl _ rfl (Below.refl _ _) rfl
              refine AllCalm.cons (fun W hB hd => ?_) ?_
              · obtain ⟨h15, h17, h9, -⟩ := hd
                have h15 : f 15 = _ := h15
                have h17 : f 17 = _ := h17
                have h9 : f 9 = _ := h9
                rw [h15, h17, h9]
                go_wp2_with (fail)
                exact CalmQ.mk rfl _ rfl (Below.refl _ _) rfl
              refine AllCalm.cons (fun W hB hd => ?_) ?_
              · obtain ⟨h18, h9, -⟩ := hd
                have h18 : f 18 = _ := h18
                have h9 : f 9 = _ := h9
                rw [h18, h9]
                go_wp2_with (fail)
                exact CalmQ.mk rfl _ rfl (Below.refl _ _) rfl
              refine AllCalm.cons (fun W hB hd => ?_) ?_
              · obtain ⟨h19, h9, -⟩ := hd
                have h19 : f 19 = _ := h19
                have h9 : f 9 = _ := h9
                rw [h19, h9]
                go_wp2_with (fail)
                exact CalmQ.mk rfl _ rfl (Below.refl _ _) rfl
              refine AllCalm.cons (fun W hB hd => ?_) ?_
              · obtain ⟨h9, -⟩ := hd
                have h9 : f 9 = _ := h9
                rw [h9]
                go_wp2_with (fail)
                exact CalmQ.mk rfl _ rfl (Below.refl _ _) rfl
              refine AllCalm.cons (fun W hB hd => ?_) ?_
              · obtain ⟨h9, -⟩ := hd
                have h9 : f 9 = _ := h9
                rw [h9]
                go_wp2_with (fail)
                exact CalmQ.mk rfl _ rfl (Below.refl _ _) rfl
              refine AllCalm.cons (fun W hB hd => ?_) ?_
              · obtain ⟨h22, h9, -⟩ := hd
                have h22 : f 22 = _ := h22
                have h9 : f 9 = _ := h9
                rw [h22, h9]
                go_wp2_with (fail)
                exact CalmQ.mk rfl _ rfl (Below.refl _ _) rfl
              refine AllCalm.cons (fun W hB hd => ?_) ?_
              · obtain ⟨h21, h23, h9, -⟩ := hd
                have h21 : f 21 = _ := h21
                have h23 : f 23 = _ := h23
                have h9 : f 9 = _ := h9
                rw [h21, h23, h9]
                go_wp2_with (fail)
                exact CalmQ.mk rfl _ rfl (Below.refl _ _) rfl
              refine AllCalm.cons (fun W hB hd => ?_) ?_
              · obtain ⟨h24, h9, -⟩ := hd
                have h24 : f 24 = _ := h24
                have h9 : f 9 = _ := h9
                rw [h24, h9]
                go_wp2_with (fail)
                exact CalmQ.mk rfl _ rfl (Below.refl _ _) rfl
              refine AllCalm.cons (fun W hB hd => ?_) ?_
              · obtain ⟨h25, h9, -⟩ := hd
                have h25 : f 25 = _ := h25
                have h9 : f 9 = _ := h9
                rw [h25, h9]
                go_wp2_with (fail)
                exact CalmQ.mk rfl _ rfl (Below.refl _ _) rfl
              refine AllCalm.cons (fun W hB hd => ?_) ?_
              · obtain ⟨h20, h26, h9, -⟩ := hd
                have h20 : f 20 = _ := h20
                have h26 : f 26 = _ := h26
                have h9 : f 9 = _ := h9
                rw [h20, h26, h9]
                go_wp2_with (fail)
                exact CalmQ.mk rfl _ rfl (Below.refl _ _) rfl
              refine AllCalm.cons (fun W hB hd => ?_) ?_
              · obtain ⟨h14, h27, h9, -⟩ := hd
                have h14 : f 14 = _ := h14
                have h27 : f 27 = _ := h27
                have h9 : f 9 = _ := h9
                rw [h14, h27, h9]
                go_wp2_with (fail)
                exact CalmQ.mk rfl _ rfl (Below.refl _ _) rfl
              refine AllCalm.cons (fun W hB hd => ?_) ?_
              · obtain ⟨h9, h28, h6, -⟩ := hd
                have h9 : f 9 = _ := h9
                have h28 : f 28 = _ := h28
                have h6 : f 6 = _ := h6
                rw [h9, h28, h6]
                go_wp2_with (fail)
                exact CalmQ.mk rfl _ rfl (Below.refl _ _) rfl
              refine AllCalm.cons (fun W hB hd => ?_) ?_
              · obtain ⟨h6, h29, -⟩ := hd
                have h6 : f 6 = _ := h6
                have h29 : f 29 = _ := h29
                rw [h6, h29]
                go_wp2_with (fail)
                exact CalmQ.mk rfl _ rfl (Below.refl _ _) rfl
              exact AllCalm.nil
            · intro W hB hT
              obtain ⟨h0, h1, h2, h3, h4, h5, h6, h7, h8, h9, h10, h11, h12, h13, h14, h15, h16, h17, h18, h19, h20, h21, h22, h23, h24, h25, h26, h27, h28, h29, h30, -⟩ := hT
              have h0 : f 0 = _ := h0
              have h1 : f 1 = _ := h1
              have h2 : f 2 = _ := h2
              have h3 : f 3 = _ := h3
              have h4 : f 4 = _ := h4
              have h5 : f 5 = _ := h5
              have h6 : f 6 = _ := h6
              have h7 : f 7 = _ := h7
              have h8 : f 8 = _ := h8
              have h9 : f 9 = _ := h9
              have h10 : f 10 = _ := h10
              have h11 : f 11 = _ := h11
              have h12 : f 12 = _ := h12
              have h13 : f 13 = _ := h13
              have h14 : f 14 = _ := h14
              have h15 : f 15 = _ := h15
              have h16 : f 16 = _ := h16
              have h17 : f 17 = _ := h17
              have h18 : f 18 = _ := h18
              have h19 : f 19 = _ := h19
              have h20 : f 20 = _ := h20
              have h21 : f 21 = _ := h21
              have h22 : f 22 = _ := h22
              have h23 : f 23 = _ := h23
              have h24 : f 24 = _ := h24
              have h25 : f 25 = _ := h25
              have h26 : f 26 = _ := h26
              have h27 : f 27 = _ := h27
              have h28 : f 28 = _ := h28
              have h29 : f 29 = _ := h29
              have h30 : f 30 = _ := h30
              rw [h0, h1, h2, h3, h4, h5, h6, h7, h8, h9, h10, h11, h12, h13, h14, h15, h16, h17, h18, h19, h20, h21, h22, h23, h24, h25, h26, h27, h28, h29, h30]
              clear h0 h1 h2 h3 h4 h5 h6 h7 h8 h9 h10 h11 h12 h13 h14 h15 h16 h17 h18 h19 h20 h21 h22 h23 h24 h25 h26 h27 h28 h29 h30
              skip
              have hcR2 := fun V (hV : Below W.heap.size W V) => hcR V (hB.trans (hV.mono hB.size))
              have hset2 := fun V (hV : Below W.heap.size W V) => hset V (hB.trans (hV.mono hB.size))
              clear hB hcR hset hox hb
              generalize W = Wo at *
              have hdr : Below Wo.heap.size Wo Wo.drew := (Below.refl _ _).drew
              go_wp2
              refine wp_region_any (by kernel_rfl) ?_
              change wpAny _ _ _ _ _ _ _ (World.drew _)
              refine wpAny_take (i := 0) (oi := { dst := some 55, op := Op.move (Operand.tmp 5), type := 3, pos := "law.go:87", after := #[], guard := none }) (v := (.int .i64 (S : Nat))) rfl (by kernel_rfl) (by kernel_rfl) (by kernel_rfl) (fun _ _ _ h => h) (Or.inl ⟨by rfl, by intro w; go_simp⟩) ?_
              try dsimp only [Act.put]
              try simp only [List.setIfInBounds_toArray, List.set_cons_succ, List.set_cons_zero]
              apply calm_tailI 12 [0] [.is (.int .i64 (S : Nat)), .is _, .is _, .is _, .is _, .is _, .is _, .is _, .is _, .is _, .is _, .is _] [[], [], [], [], [2, 3], [4], [5], [], [], [7, 8], [9], [10]] (by kernel_rfl) (by kernel_rfl) rfl (by decide) (by intro i hi o ho; obtain rfl := List.mem_singleton.1 hi; obtain rfl := Option.some.inj ho; exact rfl)
              intro f a1 ha1
              simp only [List.take_succ_cons, List.take_zero, putL, Act.put, List.setIfInBounds_toArray, List.set_cons_succ, List.set_cons_zero] at ha1
              subst ha1
              refine ⟨?_, ?_⟩
              · refine AllCalm.cons (fun W hB hd => ?_) ?_
                · go_wp2_with (fail)
                  exact CalmQ.mk rfl _ rfl (Below.refl _ _) rfl
                refine AllCalm.cons (fun W hB hd => ?_) ?_
                · go_wp2_with (fail)
                  exact CalmQ.mk rfl _ rfl (Below.refl _ _) rfl
                refine AllCalm.cons (fun W hB hd => ?_) ?_
                · go_wp2_with (fail)
                  exact CalmQ.mk rfl _ rfl (Below.refl _ _) rfl
                refine AllCalm.cons (fun W hB hd => ?_) ?_
                · go_wp2_with (fail)
                  exact CalmQ.mk rfl _ rfl (Below.refl _ _) rfl
                refine AllCalm.cons (fun W hB hd => ?_) ?_
                · obtain ⟨h2, h3, -⟩ := hd
                  have h2 : f 2 = _ := h2
                  have h3 : f 3 = _ := h3
                  rw [h2, h3]
                  go_wp2_with (fail)
                  exact CalmQ.mk rfl _ rfl (Below.refl _ _) rfl
                refine AllCalm.cons (fun W hB hd => ?_) ?_
                · obtain ⟨h4, -⟩ := hd
                  have h4 : f 4 = _ := h4
                  rw [h4]
                  go_wp2_with (fail)
                  exact CalmQ.mk rfl _ rfl (Below.refl _ _) rfl
                refine AllCalm.cons (fun W hB hd => ?_) ?_
                · obtain ⟨h5, -⟩ := hd
                  have h5 : f 5 = _ := h5
                  rw [h5]
                  have kx := (hcR2 W (hdr.trans (hB.mono hdr.size))).1
                  go_wp2_with (fail)
                  exact CalmQ.mk rfl _ rfl (Below.refl _ _) rfl
                refine AllCalm.cons (fun W hB hd => ?_) ?_
                · go_wp2_with (fail)
                  exact CalmQ.mk rfl _ rfl (Below.refl _ _) rfl
                refine AllCalm.cons (fun W hB hd => ?_) ?_
                · go_wp2_with (fail)
                  exact CalmQ.mk rfl _ rfl (Below.refl _ _) rfl
                refine AllCalm.cons (fun W hB hd => ?_) ?_
                · obtain ⟨h7, h8, -⟩ := hd
                  have h7 : f 7 = _ := h7
                  have h8 : f 8 = _ := h8
                  rw [h7, h8]
                  go_wp2_with (fail)
                  exact CalmQ.mk rfl _ rfl (Below.refl _ _) rfl
                refine AllCalm.cons (fun W hB hd => ?_) ?_
                · obtain ⟨h9, -⟩ := hd
                  have h9 : f 9 = _ := h9
                  rw [h9]
                  go_wp2_with (fail)
                  exact CalmQ.mk rfl _ rfl (Below.refl _ _) rfl
                refine AllCalm.cons (fun W hB hd => ?_) ?_
                · obtain ⟨h10, -⟩ := hd
                  have h10 : f 10 = _ := h10
                  rw [h10]
                  have kx := (hcR2 W (hdr.trans (hB.mono hdr.size))).2
                  go_wp2_with (fail)
                  exact CalmQ.mk rfl _ rfl (Below.refl _ _) rfl
                exact AllCalm.nil
              · intro W hB hT
                obtain ⟨h0, h1, h2, h3, h4, h5, h6, h7, h8, h9, h10, h11, -⟩ := hT
                have h0 : f 0 = _ := h0
                have h1 : f 1 = _ := h1
                have h2 : f 2 = _ := h2
                have h3 : f 3 = _ := h3
                have h4 : f 4 = _ := h4
                have h5 : f 5 = _ := h5
                have h6 : f 6 = _ := h6
                have h7 : f 7 = _ := h7
                have h8 : f 8 = _ := h8
                have h9 : f 9 = _ := h9
                have h10 : f 10 = _ := h10
                have h11 : f 11 = _ := h11
                rw [h0, h1, h2, h3, h4, h5, h6, h7, h8, h9, h10, h11]
                clear h0 h1 h2 h3 h4 h5 h6 h7 h8 h9 h10 h11
                simp only [List.drop_succ_cons, List.drop_zero]
                have hs := hset2 W (hdr.trans (hB.mono hdr.size))
                clear hcR2 hset2 hB
                go_wp2_with (go_at_call 7; (with_reducible refine hs.mono ?_); rintro e w6 ⟨rfl, L6, HL6, ho6, hb6⟩)
                exact ⟨⟨1, L6, by omega, by simp, by rw [HSS.out]; simp, HL6, ho6, hb6⟩, by simp [intOf]; omega⟩
          · obtain ⟨gR', eR', hcP0⟩ := pair_cells hoR (k := k - 1) (by omega)
            injection eR' with eR'
            injection eR' with eR'
            subst eR'
            have hcP := fun W (hW : Below wr.heap.size wr W) => hcP0 W (hb.trans (hW.mono hb.size))
            have hap := apart_get HR.out.1.apart (show k - 1 < k by omega) hkR
            clear hcP0
            generalize R[k].1 = F at *
            generalize R[k].2 = N at *
            generalize R[k - 1].1 = F1 at *
            generalize R[k - 1].2 = N1 at *
            generalize sumTo R k = S at *
            have hk1 : (k : Int) - 1 = ((k - 1 : Nat) : Int) := by omega
            have hk2 : k - 1 < R.length := by omega
            generalize k - 1 = K1 at *
            have hk3 : (K1 : Int) < (R.length : Int) := by omega
            have hkp : (0 : Int) < (k : Int) := by omega
            have hap1 : ¬ (F : Int) ≤ (F1 : Int) + (N1 : Int) := by omega
            have hNx : ¬ (N : Int) < 1 := by omega
            have hNy : (N : Int) ≤ 480 := by omega
            have hFy : (F1 : Int) + (N1 : Int) ≤ 480 := by omega
            clear hcl hsl hfree
            go_wp2
            apply calm_region [.is _, .is _, .is _, .is _, .is _, .is _, .is _, .is _, .is _, .is _, .is _, .is _, .is _, .is _, .is _, .is _, .is _, .is _, .is _, .is _, .is _, .is _, .is _, .is _, .is _, .is _, .is _, .is _, .is _, .is _, .is _] [[], [], [0, 1], [2], [3], [4], [5], [6], [7, 6], [8, 6, 6], [9], [9], [10, 11, 9], [12, 9], [13, 9], [9], [9], [16, 9], [15, 17, 9], [18, 9], [19, 9], [9], [9], [22, 9], [21, 23, 9], [24, 9], [25, 9], [20, 26, 9], [14, 27, 9], [9, 28, 6], [6, 29]] (by kernel_rfl) (by kernel_rfl) (by kernel_rfl) rfl
            intro f a1 ha1
            simp only [putL, Act.put, List.setIfInBounds_toArray, List.set_cons_succ, List.set_cons_zero] at ha1
            subst ha1
            refine ⟨?_, ?_⟩
            · refine AllCalm.cons (fun W hB hd => ?_) ?_
              · go_wp2_with (fail)
                exact CalmQ.mk rfl _ rfl (Below.refl _ _) rfl
              refine AllCalm.cons (fun W hB hd => ?_) ?_
              · go_wp2_with (fail)
                exact CalmQ.mk rfl _ rfl (Below.refl _ _) rfl
              refine AllCalm.cons (fun W hB hd => ?_) ?_
              · obtain ⟨h0, h1, -⟩ := hd
                have h0 : f 0 = _ := h0
                have h1 : f 1 = _ := h1
                rw [h0, h1]
                go_wp2_with (fail)
                exact CalmQ.mk rfl _ rfl (Below.refl _ _) rfl
              refine AllCalm.cons (fun W hB hd => ?_) ?_
              · obtain ⟨h2, -⟩ := hd
                have h2 : f 2 = _ := h2
                rw [h2]
                go_wp2_with (fail)
                exact CalmQ.mk rfl _ rfl (Below.refl _ _) rfl
              refine AllCalm.cons (fun W hB hd => ?_) ?_
              · obtain ⟨h3, -⟩ := hd
                have h3 : f 3 = _ := h3
                rw [h3]
                have kx := (hcR W hB).2
                go_wp2_with (fail)
                exact CalmQ.mk rfl _ rfl (Below.refl _ _) rfl
              refine AllCalm.cons (fun W hB hd => ?_) ?_
              · obtain ⟨h4, -⟩ := hd
                have h4 : f 4 = _ := h4
                rw [h4]
                go_wp2_with (fail)
                exact CalmQ.mk rfl _ rfl (Below.refl _ _) rfl
              refine AllCalm.cons (fun W hB hd => ?_) ?_
              · obtain ⟨h5, -⟩ := hd
                have h5 : f 5 = _ := h5
                rw [h5]
                go_wp2_with (fail)
                exact CalmQ.mk rfl _ rfl (Below.refl _ _) rfl
              refine AllCalm.cons (fun W hB hd => ?_) ?_
              · obtain ⟨h6, -⟩ := hd
                have h6 : f 6 = _ := h6
                rw [h6]
                go_wp2_with (fail)
                exact CalmQ.mk rfl _ rfl (Below.refl _ _) rfl
              refine AllCalm.cons (fun W hB hd => ?_) ?_
              · obtain ⟨h7, h6, -⟩ := hd
                have h7 : f 7 = _ := h7
                have h6 : f 6 = _ := h6
                rw [h7, h6]
                go_wp2_with (fail)
                exact CalmQ.mk rfl _ rfl (Below.refl _ _) rfl
              refine AllCalm.cons (fun W hB hd => ?_) ?_
              · obtain ⟨h8, h6, -, -⟩ := hd
                have h8 : f 8 = _ := h8
                have h6 : f 6 = _ := h6
                rw [h8, h6]
                go_wp2_with (fail)
                exact CalmQ.mk rfl _ rfl (Below.refl _ _) rfl
              refine AllCalm.cons (fun W hB hd => ?_) ?_
              · obtain ⟨h9, -⟩ := hd
                have h9 : f 9 = _ := h9
                rw [h9]
                go_wp2_with (fail)
                exact CalmQ.mk rfl _ rfl (Below.refl _ _) rfl
              refine AllCalm.cons (fun W hB hd => ?_) ?_
              · obtain ⟨h9, -⟩ := hd
                have h9 : f 9 = _ := h9
                rw [h9]
                go_wp2_with (fail)
                exact CalmQ.mk rfl _ rfl (Below.refl _ _) rfl
              refine AllCalm.cons (fun W hB hd => ?_) ?_
              · obtain ⟨h10, h11, h9, -⟩ := hd
                have h10 : f 10 = _ := h10
                have h11 : f 11 = _ := h11
                have h9 : f 9 = _ := h9
                rw [h10, h11, h9]
                go_wp2_with (fail)
                exact CalmQ.mk rfl _ rfl (Below.refl _ _) rfl
              refine AllCalm.cons (fun W hB hd => ?_) ?_
              · obtain ⟨h12, h9, -⟩ := hd
                have h12 : f 12 = _ := h12
                have h9 : f 9 = _ := h9
                rw [h12, h9]
                go_wp2_with (fail)
                exact CalmQ.mk rfl _ rfl (Below.refl _ _) rfl
              refine AllCalm.cons (fun W hB hd => ?_) ?_
              · obtain ⟨h13, h9, -⟩ := hd
                have h13 : f 13 = _ := h13
                have h9 : f 9 = _ := h9
                rw [h13, h9]
                have kx := (hcR W hB).1
                go_wp2_with (fail)
                exact CalmQ.mk rfl _ rfl (Below.refl _ _) rfl
              refine AllCalm.cons (fun W hB hd => ?_) ?_
              · obtain ⟨h9, -⟩ := hd
                have h9 : f 9 = _ := h9
                rw [h9]
                go_wp2_with (fail)
                exact CalmQ.mk rfl _ rfl (Below.refl _ _) rfl
              refine AllCalm.cons (fun W hB hd => ?_) ?_
              · obtain ⟨h9, -⟩ := hd
                have h9 : f 9 = _ := h9
                rw [h9]
                go_wp2_with (fail)
                exact CalmQ.mk rfl _ rfl (Below.refl _ _) rfl
              refine AllCalm.cons (fun W hB hd => ?_) ?_
              · obtain ⟨h16, h9, -⟩ := hd
                have h16 : f 16 = _ := h16
                have h9 : f 9 = _ := h9
                rw [h16, h9]
                go_wp2_with (fail)
                exact CalmQ.mk rfl _ rfl (Below.refl _ _) rfl
              refine AllCalm.cons (fun W hB hd => ?_) ?_
              · obtain ⟨h15, h17, h9, -⟩ := hd
                have h15 : f 15 = _ := h15
                have h17 : f 17 = _ := h17
                have h9 : f 9 = _ := h9
                rw [h15, h17, h9]
                go_wp2_with (fail)
                exact CalmQ.mk rfl _ rfl (Below.refl _ _) rfl
              refine AllCalm.cons (fun W hB hd => ?_) ?_
              · obtain ⟨h18, h9, -⟩ := hd
                have h18 : f 18 = _ := h18
                have h9 : f 9 = _ := h9
                rw [h18, h9]
                go_wp2_with (fail)
                exact CalmQ.mk rfl _ rfl (Below.refl _ _) rfl
              refine AllCalm.cons (fun W hB hd => ?_) ?_
              · obtain ⟨h19, h9, -⟩ := hd
                have h19 : f 19 = _ := h19
                have h9 : f 9 = _ := h9
                rw [h19, h9]
                have kx := (hcP W hB).1
                go_wp2_with (fail)
                exact CalmQ.mk rfl _ rfl (Below.refl _ _) rfl
              refine AllCalm.cons (fun W hB hd => ?_) ?_
              · obtain ⟨h9, -⟩ := hd
                have h9 : f 9 = _ := h9
                rw [h9]
                go_wp2_with (fail)
                exact CalmQ.mk rfl _ rfl (Below.refl _ _) rfl
              refine AllCalm.cons (fun W hB hd => ?_) ?_
              · obtain ⟨h9, -⟩ := hd
                have h9 : f 9 = _ := h9
                rw [h9]
                go_wp2_with (fail)
                exact CalmQ.mk rfl _ rfl (Below.refl _ _) rfl
              refine AllCalm.cons (fun W hB hd => ?_) ?_
              · obtain ⟨h22, h9, -⟩ := hd
                have h22 : f 22 = _ := h22
                have h9 : f 9 = _ := h9
                rw [h22, h9]
                go_wp2_with (fail)
                exact CalmQ.mk rfl _ rfl (Below.refl _ _) rfl
              refine AllCalm.cons (fun W hB hd => ?_) ?_
              · obtain ⟨h21, h23, h9, -⟩ := hd
                have h21 : f 21 = _ := h21
                have h23 : f 23 = _ := h23
                have h9 : f 9 = _ := h9
                rw [h21, h23, h9]
                go_wp2_with (fail)
                exact CalmQ.mk rfl _ rfl (Below.refl _ _) rfl
              refine AllCalm.cons (fun W hB hd => ?_) ?_
              · obtain ⟨h24, h9, -⟩ := hd
                have h24 : f 24 = _ := h24
                have h9 : f 9 = _ := h9
                rw [h24, h9]
                go_wp2_with (fail)
                exact CalmQ.mk rfl _ rfl (Below.refl _ _) rfl
              refine AllCalm.cons (fun W hB hd => ?_) ?_
              · obtain ⟨h25, h9, -⟩ := hd
                have h25 : f 25 = _ := h25
                have h9 : f 9 = _ := h9
                rw [h25, h9]
                have kx := (hcP W hB).2
                go_wp2_with (fail)
                exact CalmQ.mk rfl _ rfl (Below.refl _ _) rfl
              refine AllCalm.cons (fun W hB hd => ?_) ?_
              · obtain ⟨h20, h26, h9, -⟩ := hd
                have h20 : f 20 = _ := h20
                have h26 : f 26 = _ := h26
                have h9 : f 9 = _ := h9
                rw [h20, h26, h9]
                go_wp2_with (fail)
                exact CalmQ.mk rfl _ rfl (Below.refl _ _) rfl
              refine AllCalm.cons (fun W hB hd => ?_) ?_
              · obtain ⟨h14, h27, h9, -⟩ := hd
                have h14 : f 14 = _ := h14
                have h27 : f 27 = _ := h27
                have h9 : f 9 = _ := h9
                rw [h14, h27, h9]
                go_wp2_with (fail)
                exact CalmQ.mk rfl _ rfl (Below.refl _ _) rfl
              refine AllCalm.cons (fun W hB hd => ?_) ?_
              · obtain ⟨h9, h28, h6, -⟩ := hd
                have h9 : f 9 = _ := h9
                have h28 : f 28 = _ := h28
                have h6 : f 6 = _ := h6
                rw [h9, h28, h6]
                go_wp2_with (fail)
                exact CalmQ.mk rfl _ rfl (Below.refl _ _) rfl
              refine AllCalm.cons (fun W hB hd => ?_) ?_
              · obtain ⟨h6, h29, -⟩ := hd
                have h6 : f 6 = _ := h6
                have h29 : f 29 = _ := h29
                rw [h6, h29]
                go_wp2_with (fail)
                exact CalmQ.mk rfl _ rfl (Below.refl _ _) rfl
              exact AllCalm.nil
            · intro W hB hT
              obtain ⟨h0, h1, h2, h3, h4, h5, h6, h7, h8, h9, h10, h11, h12, h13, h14, h15, h16, h17, h18, h19, h20, h21, h22, h23, h24, h25, h26, h27, h28, h29, h30, -⟩ := hT
              have h0 : f 0 = _ := h0
              have h1 : f 1 = _ := h1
              have h2 : f 2 = _ := h2
              have h3 : f 3 = _ := h3
              have h4 : f 4 = _ := h4
              have h5 : f 5 = _ := h5
              have h6 : f 6 = _ := h6
              have h7 : f 7 = _ := h7
              have h8 : f 8 = _ := h8
              have h9 : f 9 = _ := h9
              have h10 : f 10 = _ := h10
              have h11 : f 11 = _ := h11
              have h12 : f 12 = _ := h12
              have h13 : f 13 = _ := h13
              have h14 : f 14 = _ := h14
              have h15 : f 15 = _ := h15
              have h16 : f 16 = _ := h16
              have h17 : f 17 = _ := h17
              have h18 : f 18 = _ := h18
              have h19 : f 19 = _ := h19
              have h20 : f 20 = _ := h20
              have h21 : f 21 = _ := h21
              have h22 : f 22 = _ := h22
              have h23 : f 23 = _ := h23
              have h24 : f 24 = _ := h24
              have h25 : f 25 = _ := h25
              have h26 : f 26 = _ := h26
              have h27 : f 27 = _ := h27
              have h28 : f 28 = _ := h28
              have h29 : f 29 = _ := h29
              have h30 : f 30 = _ := h30
              rw [h0, h1, h2, h3, h4, h5, h6, h7, h8, h9, h10, h11, h12, h13, h14, h15, h16, h17, h18, h19, h20, h21, h22, h23, h24, h25, h26, h27, h28, h29, h30]
              clear h0 h1 h2 h3 h4 h5 h6 h7 h8 h9 h10 h11 h12 h13 h14 h15 h16 h17 h18 h19 h20 h21 h22 h23 h24 h25 h26 h27 h28 h29 h30
              skip
              clear hcP
              have hcR2 := fun V (hV : Below W.heap.size W V) => hcR V (hB.trans (hV.mono hB.size))
              have hset2 := fun V (hV : Below W.heap.size W V) => hset V (hB.trans (hV.mono hB.size))
              clear hB hcR hset hox hb
              generalize W = Wo at *
              have hdr : Below Wo.heap.size Wo Wo.drew := (Below.refl _ _).drew
              go_wp2
              refine wp_region_any (by kernel_rfl) ?_
              change wpAny _ _ _ _ _ _ _ (World.drew _)
              refine wpAny_take (i := 0) (oi := { dst := some 55, op := Op.move (Operand.tmp 5), type := 3, pos := "law.go:87", after := #[], guard := none }) (v := (.int .i64 (S : Nat))) rfl (by kernel_rfl) (by kernel_rfl) (by kernel_rfl) (fun _ _ _ h => h) (Or.inl ⟨by rfl, by intro w; go_simp⟩) ?_
              try dsimp only [Act.put]
              try simp only [List.setIfInBounds_toArray, List.set_cons_succ, List.set_cons_zero]
              apply calm_tailI 12 [0] [.is (.int .i64 (S : Nat)), .is _, .is _, .is _, .is _, .is _, .is _, .is _, .is _, .is _, .is _, .is _] [[], [], [], [], [2, 3], [4], [5], [], [], [7, 8], [9], [10]] (by kernel_rfl) (by kernel_rfl) rfl (by decide) (by intro i hi o ho; obtain rfl := List.mem_singleton.1 hi; obtain rfl := Option.some.inj ho; exact rfl)
              intro f a1 ha1
              simp only [List.take_succ_cons, List.take_zero, putL, Act.put, List.setIfInBounds_toArray, List.set_cons_succ, List.set_cons_zero] at ha1
              subst ha1
              refine ⟨?_, ?_⟩
              · refine AllCalm.cons (fun W hB hd => ?_) ?_
                · go_wp2_with (fail)
                  exact CalmQ.mk rfl _ rfl (Below.refl _ _) rfl
                refine AllCalm.cons (fun W hB hd => ?_) ?_
                · go_wp2_with (fail)
                  exact CalmQ.mk rfl _ rfl (Below.refl _ _) rfl
                refine AllCalm.cons (fun W hB hd => ?_) ?_
                · go_wp2_with (fail)
                  exact CalmQ.mk rfl _ rfl (Below.refl _ _) rfl
                refine AllCalm.cons (fun W hB hd => ?_) ?_
                · go_wp2_with (fail)
                  exact CalmQ.mk rfl _ rfl (Below.refl _ _) rfl
                refine AllCalm.cons (fun W hB hd => ?_) ?_
                · obtain ⟨h2, h3, -⟩ := hd
                  have h2 : f 2 = _ := h2
                  have h3 : f 3 = _ := h3
                  rw [h2, h3]
                  go_wp2_with (fail)
                  exact CalmQ.mk rfl _ rfl (Below.refl _ _) rfl
                refine AllCalm.cons (fun W hB hd => ?_) ?_
                · obtain ⟨h4, -⟩ := hd
                  have h4 : f 4 = _ := h4
                  rw [h4]
                  go_wp2_with (fail)
                  exact CalmQ.mk rfl _ rfl (Below.refl _ _) rfl
                refine AllCalm.cons (fun W hB hd => ?_) ?_
                · obtain ⟨h5, -⟩ := hd
                  have h5 : f 5 = _ := h5
                  rw [h5]
                  have kx := (hcR2 W (hdr.trans (hB.mono hdr.size))).1
                  go_wp2_with (fail)
                  exact CalmQ.mk rfl _ rfl (Below.refl _ _) rfl
                refine AllCalm.cons (fun W hB hd => ?_) ?_
                · go_wp2_with (fail)
                  exact CalmQ.mk rfl _ rfl (Below.refl _ _) rfl
                refine AllCalm.cons (fun W hB hd => ?_) ?_
                · go_wp2_with (fail)
                  exact CalmQ.mk rfl _ rfl (Below.refl _ _) rfl
                refine AllCalm.cons (fun W hB hd => ?_) ?_
                · obtain ⟨h7, h8, -⟩ := hd
                  have h7 : f 7 = _ := h7
                  have h8 : f 8 = _ := h8
                  rw [h7, h8]
                  go_wp2_with (fail)
                  exact CalmQ.mk rfl _ rfl (Below.refl _ _) rfl
                refine AllCalm.cons (fun W hB hd => ?_) ?_
                · obtain ⟨h9, -⟩ := hd
                  have h9 : f 9 = _ := h9
                  rw [h9]
                  go_wp2_with (fail)
                  exact CalmQ.mk rfl _ rfl (Below.refl _ _) rfl
                refine AllCalm.cons (fun W hB hd => ?_) ?_
                · obtain ⟨h10, -⟩ := hd
                  have h10 : f 10 = _ := h10
                  rw [h10]
                  have kx := (hcR2 W (hdr.trans (hB.mono hdr.size))).2
                  go_wp2_with (fail)
                  exact CalmQ.mk rfl _ rfl (Below.refl _ _) rfl
                exact AllCalm.nil
              · intro W hB hT
                obtain ⟨h0, h1, h2, h3, h4, h5, h6, h7, h8, h9, h10, h11, -⟩ := hT
                have h0 : f 0 = _ := h0
                have h1 : f 1 = _ := h1
                have h2 : f 2 = _ := h2
                have h3 : f 3 = _ := h3
                have h4 : f 4 = _ := h4
                have h5 : f 5 = _ := h5
                have h6 : f 6 = _ := h6
                have h7 : f 7 = _ := h7
                have h8 : f 8 = _ := h8
                have h9 : f 9 = _ := h9
                have h10 : f 10 = _ := h10
                have h11 : f 11 = _ := h11
                rw [h0, h1, h2, h3, h4, h5, h6, h7, h8, h9, h10, h11]
                clear h0 h1 h2 h3 h4 h5 h6 h7 h8 h9 h10 h11
                simp only [List.drop_succ_cons, List.drop_zero]
                have hs := hset2 W (hdr.trans (hB.mono hdr.size))
                clear hcR2 hset2 hB
                go_wp2_with (go_at_call 7; (with_reducible refine hs.mono ?_); rintro e w6 ⟨rfl, L6, HL6, ho6, hb6⟩)
                exact ⟨⟨k + 1, L6, by omega, by simp, by rw [HSS.out]; simp, HL6, ho6, hb6⟩, by simp [intOf]; omega⟩
        · obtain rfl : k = R.length := by omega
          have hcc := cCount wr (hb02.trans (hb.mono hb02.size))
          obtain rfl := upto_all HL.out.1 HL.out.2 HR.out.2.2
          have hs := sum_all R
          rw [← HR.out.2.1] at hs
          rw [hs]
          have k1 : (convert 25 9 (.slice (some ⟨gx, 0, none⟩) L.length cx)).run Try.prog wr = .ok (.string ⟨L.toArray⟩) wr :=
            bytes_str _ _ _ _ Try.underlying25 Try.underlying5 Try.underlying9 _ _ L _ (Sl.of_own hox)
          have k2 : (convert 22 9 (.slice A L.length c)).run Try.prog wr = .ok (.string ⟨L.toArray⟩) wr :=
            bytes_str _ _ _ _ Try.underlying22 Try.underlying5 Try.underlying9 _ _ L _ (hv.now (hb02.trans (hb.mono hb02.size)))
          clear hs
          go_wp2_with (go_at_call 8; (with_reducible refine hcc.mono ?_); rintro e w6 ⟨rfl, rfl⟩)
          go_ret
          exact ⟨rfl, hb02.trans (hb.mono hb02.size)⟩
set_option maxRecDepth 100000 in
theorem lifted (os : Os) (started : os.Started) (H : Type) (enc : TypeId × Value → H) :
    ReturnsInHanded {} Try.checked os 3 .any (Rows.bitsRunsSpec.pre6 enc Try.prog Try.f3 Rows.bitsRunsRow.domain false) (Rows.bitsRunsSpec.post enc Try.prog Try.f3 false true false false) := by
  refine returnsInHanded_of_change (C := Try.checked) own started (by kernel_rfl) Try.func3
    (ChangeSpec.witness6 (enc := enc) (C := Try.checked) false ⟨#[], #[.slice none 0 0], []⟩ 8 (by kernel_rfl) (by kernel_rfl) (by kernel_rfl) (by kernel_rfl)) ?_
  intro W base args ds gs before hval0 hW hcnd _
  have hval : ∀ (j : Nat) t v, Try.f3.params[j]? = some t → args[j]? = some v → Value.okWide Try.prog W .any base t v := hval0
  have hW' := hW
  obtain ⟨p, q, hA0, hV, rfl, hfz, hnd⟩ := hW
  have hA : DataW.TrodAll enc Try.prog W 0 (fun _ => true) true Try.f3.params.toList args.toList ds p := hA0
  rw [Try.params3] at hA hval
  obtain ⟨v0, vs0, d0, ds0, p0, q0, hargs, rfl, rfl, h0, r0⟩ := trodAll_cons hA
  obtain ⟨rfl, rfl, rfl⟩ := trodAll_nil r0
  obtain rfl : args = #[v0] := by cases args; simp_all
  obtain ⟨rfl, rfl⟩ := trodVars_none hV
  obtain ⟨l0, s0, e0⟩ := open_bytes Try.underlying22 Try.underlying5 (by kernel_rfl) (hval 0 22 v0 rfl rfl) h0
  refine (walk v0 l0 W s0).mono fun e W' ⟨he, hb⟩ => ?_
  subst he
  exact ⟨_, rfl, law_post laidOut (by kernel_rfl) rfl (by kernel_rfl) Try.underlying4 rfl rfl rfl hW' hb⟩

theorem proved : Rows.BitsRunsSaid :=
  OpenClaim.holds_of_wide 3 Try.f3 rfl rfl rfl rfl rfl rfl rfl ⟨rfl, rfl, rfl, rfl, rfl⟩ rfl rfl rfl rfl rfl (by kernel_rfl) Try.func3 (by kernel_rfl)
    (of_decide_eq_true (by kernel_rfl)) (by unfold Func.isWrapper; first | (rw [if_pos (by decide +kernel)]; kernel_rfl) | (rw [if_neg (by decide +kernel)]; exact ⟨rfl, rfl⟩))
    (fun os started H enc _ => lifted os started H enc)
end Runs
end Go.Proofs.Ytleolacplgpigaa
