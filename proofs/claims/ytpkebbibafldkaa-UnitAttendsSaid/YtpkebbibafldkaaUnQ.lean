/- UnQ: the texts UnH, UnI, UnJ, UnL, UnN, UnO, UnP in one. -/
import Derived.Test.YtpkebbibafldkaaUnG
import Derived.Lib.BufferWrite
/- Package lu: notice of a host that waits for none. -/
namespace Go.Proofs.Ytpkebbibafldkaa
open Go.ChangeShapes Go.WideShapes Go.ChangeAt Go.RowKit Go.Lib
set_option linter.unusedVariables false
set_option linter.unusedSimpArgs false
set_option maxRecDepth 100000
namespace Un
open Rv
section
variable {w w' : World} {B Z X g h Y N : Nat} {D M : List UInt8} {t : RT} {hs : List Value}
theorem info_int : (Try.prog.info? 3).map (fun i => (i.zero, i.size, i.bytes)) = some (some (.int .i64 0), 1, 8) := by kernel_rfl
set_option maxHeartbeats 4000000 in
theorem notice_new (hu : UnM w B Z X g h Y N D M t hs) (H : Nat) (hH : H < 8) (hw : hs[3 * H]? = some (.slice none 0 0)) (code : Int) : Calls Try.prog 31 #[.pointer (some ⟨Z, 0, none⟩), .int .i64 (H : Nat), .int .i64 code] w fun e w' => ∃ G p, e = .returned (.tuple #[]) ∧ UnM w' B Z X g h Y N D M t (hs.set (3 * H) (.slice (some ⟨G, 0, none⟩) 1 p)) ∧ w'.ownsRow w.heap.size 3 1 (.slice (some ⟨G, 0, none⟩) 1 p) 1 [.int .i64 code] ∧ Eff (fun q => q = Z) w w' := by
  obtain ⟨ik, hik, hkz0, hkz1, hkz2⟩ := info_parts info_int
  have hZl := hu.mem.lt
  have k0 : w.cell? ⟨Z, 2 + H * 3, none⟩ = some (.slice none 0 0) := by rw [Nat.mul_comm H 3, hu.ch]; exact hw
  have hix : (H : Int) < 8 := by omega
  have HH := Lib.hid hH
  have HW := Lib.hid hw
  clear hH hw
  have b1 : Below w.heap.size w (w.alloc (.cells #[.int .i64 code] 3)) := (Below.refl _ w).alloc (Nat.le_refl _) _
  have hc1 : ∀ j u, ([.int .i64 code] : List Value)[j]? = some u → (w.alloc (.cells #[.int .i64 code] 3)).cell? ((⟨w.heap.size, 0, none⟩ : Addr).add j) = some u := fun j u hj => by
    have hb : (w.alloc (.cells #[.int .i64 code] 3)).heap[w.heap.size]? = some (.cells #[.int .i64 code] 3 (0, 0)) := heap_alloc_new w _
    rw [Addr.add_mid, Nat.zero_add, cell_of_row _ _ j _ 3 (0, 0) hb]
    simpa using hj
  have sz1 := b1.size
  have one1 : ∀ u ∈ ([.int .i64 code] : List Value), u.oneCell' = true := by simp [Value.oneCell']
  go_enter Try.func31, Try.ntmps31
  go_step3
  go_wp2_with (fail)
  go_step3
  go_wp2_with (fail)
  go_loopw [7] (fun x wr => x = .int .i64 0 ∧ w = wr) (fun _ _ => 0)
  case atStart => exact ⟨rfl, rfl⟩
  case round =>
    obtain ⟨rfl, rfl⟩ := hrel
    go_wp2_with (first
      | (at_builtin; (refine wpList_append_at _ rfl (.tmp 27) (.tmp 29) 41 rfl w.heap.size 3 ik _ 1 8 Try.underlying41 hik hkz0 hkz1 hkz2 rfl (by decide) (.slice none 0 0) 0 [] rfl (World.ownsRow_nil _ _ _ _) ⟨w.heap.size, 0, none⟩ 1 1 [.int .i64 code] rfl rfl hc1 one1 (by decide) (by decide) sz1 ?_); intro v3 w19 ho3 hg3 hat3; have b19 := b1.trans (((Below.refl _ _).grown hg3 (Nat.le_refl _) (fun k hk => (by cases hk))).mono sz1); have u19 := hu.below b19; have f19 := u19.mem.free (2 + H * 3); have x19 := (b19.cell (p := ⟨Z, 2 + H * 3, none⟩) hZl).trans k0; obtain ⟨G3, p3, rfl⟩ := own_at0 ho3 (by decide)))
    have hm : Mem (w19.setCell ⟨Z, 2 + H * 3, none⟩ (.slice (some ⟨G3, 0, none⟩) 1 p3)) Z 63 (unRow X Y (hs.set (3 * H) (.slice (some ⟨G3, 0, none⟩) 1 p3))) := by
      rw [← unRow_set, show 3 * H + 2 = 2 + H * 3 by omega]
      exact u19.mem.put (2 + H * 3) _
    have he := Eff.setCell (S := fun q => q = Z) (Eff.refl (fun q => q = Z) w19) (p := ⟨Z, 2 + H * 3, none⟩) rfl (.slice (some ⟨G3, 0, none⟩) 1 p3)
    have uF := u19.hosts hm (by rw [List.length_set]; exact hu.len) he
    have oF := owns_eff ho3 he fun q hq e => by
      have := (own_tag ho3 q hq).1
      omega
    rw [Exit.noGoto_normal]
    exact bodyPost_end (v := .tuple #[]) (by simp [results, Try.results31, go_sem]) rfl ⟨G3, p3, rfl, uF, oF, (Eff.of (S := fun q => q = Z) b19).trans he fun _ _ h => h⟩
end
end Un
end Go.Proofs.Ytpkebbibafldkaa
/- Package lu: the attention of a host that waits for one. -/
namespace Go.Proofs.Ytpkebbibafldkaa
open Go.ChangeShapes Go.WideShapes Go.ChangeAt Go.RowKit Go.Lib
set_option linter.unusedVariables false
set_option linter.unusedSimpArgs false
set_option maxRecDepth 100000
namespace Un
open Rv
section
variable {w w' : World} {B Z X g h Y N : Nat} {D M : List UInt8} {t : RT} {hs : List Value}
theorem put_wait (hu : UnM w B Z X g h Y N D M t hs) (H : Nat) (v : Value) : UnM (w.setCell ⟨Z, 2 + H * 3, none⟩ v) B Z X g h Y N D M t (hs.set (3 * H) v) ∧ Eff (fun q => q = Z) w (w.setCell ⟨Z, 2 + H * 3, none⟩ v) := by
  have he := Eff.setCell (S := fun q => q = Z) (Eff.refl (fun q => q = Z) w) (p := ⟨Z, 2 + H * 3, none⟩) rfl v
  have hm : Mem (w.setCell ⟨Z, 2 + H * 3, none⟩ v) Z 63 (unRow X Y (hs.set (3 * H) v)) := by
    rw [← unRow_set, show 3 * H + 2 = 2 + H * 3 by omega]
    exact hu.mem.put (2 + H * 3) _
  exact ⟨hu.hosts hm (by rw [List.length_set]; exact hu.len) he, he⟩
set_option maxHeartbeats 4000000 in
theorem att_one (hu : UnM w B Z X g h Y N D M t hs) (H : Nat) (hH : H < 8) {G p : Nat} (hw : hs[3 * H]? = some (.slice (some ⟨G, 0, none⟩) 1 p)) (code : Int) (hp : 1 ≤ p) (hp2 : p ≤ maxLen) (hG : w.cell? ⟨G, 0, none⟩ = some (.int .i64 code)) : Calls Try.prog 25 #[.pointer (some ⟨Z, 0, none⟩), .int .i64 (H : Nat)] w fun e w' => e = .returned (.tuple #[.int .i64 code, .bool true]) ∧ (∃ A c, c ≤ maxLen ∧ UnM w' B Z X g h Y N D M t (hs.set (3 * H) (.slice A 0 c))) ∧ Eff (fun q => q = Z) w w' := by
  have x0 : w.cell? ⟨Z, 2 + H * 3, none⟩ = some (.slice (some ⟨G, 0, none⟩) 1 p) := by rw [hu.ch, Nat.mul_comm]; exact hw
  have hx : (H : Int) < 8 := by omega
  have f0 := hu.mem.free (2 + H * 3)
  have hpx : (1 : Int) ≤ (p : Nat) := by omega
  have HP2 := Lib.hid hp2
  clear hp2
  go_enter Try.func25, Try.ntmps25
  go_wp2
  all_goals
    go_ret2
    exact ⟨rfl, ⟨_, _, (by have := HP2.out; omega), (put_wait hu H _).1⟩, (put_wait hu H _).2⟩
end
end Un
end Go.Proofs.Ytpkebbibafldkaa
/- Package lu: Pending. -/
namespace Go.Proofs.Ytpkebbibafldkaa
open Go.ChangeShapes Go.WideShapes Go.ChangeAt Go.RowKit Go.Lib
set_option linter.unusedVariables false
set_option linter.unusedSimpArgs false
set_option maxRecDepth 100000
namespace Un
open Rv
def zints (zs : List Int) : List Value := zs.map (Value.int .i64)
set_option maxHeartbeats 2000000 in
theorem iclone_any (v : Value) (zs : List Int) (w : World) (hv : Sl w w.heap.size v zs.length (zints zs)) (hl : zs.length ≤ 1000000) : Calls Try.prog 36 #[v] w fun e w' => ∃ v', e = .returned v' ∧ w'.ownsRow w.heap.size 3 1 v' zs.length (zints zs) ∧ Below w.heap.size w w' := by
  obtain ⟨A, c, rfl, hc1, hc2⟩ := hv.form
  obtain ⟨i2, hi2, hq0, hq1, hq2⟩ := info_parts info_int
  have q33 : ∀ (w : World) (a : Option Addr) (n c : Nat), (binOp .eql 41 (.slice a n c) (.slice none 0 0)).run Try.prog w = .ok (.bool a.isNone) w := fun w a n c => Lib.run_eql_slice_nil w _ _ a n c 0 0 Try.underlying41
  cases A with
  | none =>
    have h0 : zs.length = 0 := by
      rcases Nat.eq_zero_or_pos zs.length with h | h
      · exact h
      · obtain ⟨b, off, e, _⟩ := hv.at_ h
        cases e
    have hz : zs = [] := List.eq_nil_of_length_eq_zero h0
    subst hz
    clear hv h0
    go_enter Try.func36, Try.ntmps36
    go_wp2
    go_ret
    exact ⟨_, rfl, World.ownsRow_nil _ _ _ _, Below.refl _ w⟩
  | some ad =>
    have hB := (Below.refl _ w).alloc (Nat.le_refl _) (.cells #[] 3)
    have ho := own_empty w w.heap.size 3 1 (Nat.le_refl _)
    have hnews : ∀ j u, (zints zs)[j]? = some u → (w.alloc (.cells #[] 3)).cell? (ad.add j) = some u := fun j u hj => by
      have hjl : j < zs.length := by
        have := (List.getElem?_eq_some_iff.1 hj).1
        simpa [zints] using this
      obtain ⟨b, off, e, hb, hcell⟩ := hv.at_ (by omega)
      injection e with e
      subst e
      rw [add_plain]
      exact (hB.cell (p := ⟨b, off + j, none⟩) hb).trans (hcell j u hj)
    have h1 : ∀ u ∈ zints zs, u.oneCell' = true := by
      intro u hu
      simp only [zints, List.mem_map] at hu
      obtain ⟨z, _, rfl⟩ := hu
      rfl
    have hzl : (zints zs).length = zs.length * 1 := by simp [zints]
    generalize zs.length = n at *
    go_enter Try.func36, Try.ntmps36
    go_wp2_with (refine wpList_append_at _ rfl (.tmp 5) (.tmp 6) 41 rfl w.heap.size 3 i2 _ 1 8 Try.underlying41 hi2 hq0 hq1 hq2 rfl (by decide) (.slice (some ⟨w.heap.size, 0, none⟩) 0 0) 0 [] rfl ho ad n c (zints zs) rfl hzl hnews h1 (by unfold maxLen; omega) (by omega) hB.size ?_; intro v5 w5 ho5 hg5 hk5)
    go_ret
    have ho6 : w5.ownsRow w.heap.size 3 1 v5 n (zints zs) := by simpa using ho5
    exact ⟨v5, rfl, ho6, hB.grown hg5 hB.size fun k hk => (own_tag ho k hk).1⟩
section
variable {w w' : World} {B Z X g h Y N : Nat} {D M : List UInt8} {t : RT} {hs : List Value}
set_option maxHeartbeats 4000000 in
theorem pending_any (hu : UnM w B Z X g h Y N D M t hs) (H : Nat) (hH : H < 8) {A : Option Addr} {c : Nat} (zs : List Int) (hw : hs[3 * H]? = some (.slice A zs.length c)) (hv : Sl w w.heap.size (.slice A zs.length c) zs.length (zints zs)) (hl : zs.length ≤ 1000000) : Calls Try.prog 13 #[.pointer (some ⟨Z, 0, none⟩), .int .i64 (H : Nat)] w fun e w' => ∃ v', e = .returned v' ∧ w'.ownsRow w.heap.size 3 1 v' zs.length (zints zs) ∧ Below w.heap.size w w' := by
  have x0 : w.cell? ⟨Z, 2 + H * 3, none⟩ = some (.slice A zs.length c) := by rw [hu.ch, Nat.mul_comm]; exact hw
  have hx : (H : Int) < 8 := by omega
  have cH : ∀ W, Calls Try.prog 22 #[.int .i64 (H : Nat)] W fun e w' => e = .returned (.bool true) ∧ W = w' := fun W => by
    have q := isHost_any (H : Nat) W
    rw [decide_eq_true (by omega)] at q
    exact q
  have cC := iclone_any _ zs w hv hl
  clear hv hw
  go_enter Try.func13, Try.ntmps13
  go_wp2_with (first
    | (go_at_call 22; (with_reducible refine (cH _).mono ?_); rintro e' w3 ⟨rfl, rfl⟩)
    | (go_at_call 36; (with_reducible refine cC.mono ?_); rintro e' w4 ⟨v4, rfl, o4, b4⟩))
  go_ret
  exact ⟨v4, rfl, o4, b4⟩
end
end Un
end Go.Proofs.Ytpkebbibafldkaa
/- Package lu: Do of a reset. -/
namespace Go.Proofs.Ytpkebbibafldkaa
open Go.ChangeShapes Go.WideShapes Go.ChangeAt Go.RowKit Go.Lib
set_option linter.unusedVariables false
set_option linter.unusedSimpArgs false
set_option maxRecDepth 100000
namespace Un
open Rv
/-- The first i hosts wait for a reset, the others for nothing. -/
structure Ntc (w : World) (b : Nat) (hs : List Value) (i : Nat) : Prop where
  has : ∀ H, H < i → ∃ G p, hs[3 * H]? = some (.slice (some ⟨G, 0, none⟩) 1 p) ∧ w.ownsRow b 3 1 (.slice (some ⟨G, 0, none⟩) 1 p) 1 [.int .i64 10499]
  not : ∀ H, i ≤ H → H < 8 → hs[3 * H]? = some (.slice none 0 0)
section
variable {w w' : World} {B Z X g h Y N : Nat} {D M : List UInt8} {t : RT} {hs : List Value}
theorem Ntc.step {b i G p : Nat} (k : Ntc w b hs i) (hl : hs.length = 24) (hi : i < 8) (he : Eff (fun q => q = Z) w w') (hZ : Z < b) (ho : w'.ownsRow b 3 1 (.slice (some ⟨G, 0, none⟩) 1 p) 1 [.int .i64 10499]) : Ntc w' b (hs.set (3 * i) (.slice (some ⟨G, 0, none⟩) 1 p)) (i + 1) := by
  refine ⟨fun H hH => ?_, fun H h1 h2 => ?_⟩
  · by_cases e : i = H
    · subst e
      exact ⟨G, p, List.getElem?_set_self (by omega), ho⟩
    · obtain ⟨G', p', h1, h2⟩ := k.has H (by omega)
      refine ⟨G', p', by rw [List.getElem?_set_ne (by omega)]; exact h1, owns_eff h2 he fun q hq e => ?_⟩
      have := (own_tag h2 q hq).1
      omega
  · rw [List.getElem?_set_ne (by omega)]
    exact k.not H (by omega) h2
theorem Ntc.below {b i : Nat} (k : Ntc w b hs i) (hb : Below w.heap.size w w') : Ntc w' b hs i := ⟨fun H hH => by
  obtain ⟨G, p, h1, h2⟩ := k.has H hH
  exact ⟨G, p, h1, owns_below h2 hb⟩, k.not⟩
theorem Ntc.box {b i G T : Nat} (k : Ntc w b hs i) (hT : Tag w G T) (h4 : T ≠ 3) (he : Eff (fun q => q = G) w w') : Ntc w' b hs i := ⟨fun H hH => by
  obtain ⟨G, p, h1, h2⟩ := k.has H hH
  exact ⟨G, p, h1, owns_eff h2 he fun q hq e => (own_tag h2 q hq).2.2.ne hT h4.symm e⟩, k.not⟩
set_option maxHeartbeats 4000000 in
theorem do_reset (hu : UnM w B Z X g h Y N D M t hs) (H : Nat) (hH : H < 8) (hw : ∀ H, H < 8 → hs[3 * H]? = some (.slice none 0 0)) (ht : t.holder = -1) (a n : Int) (v : Value) (hv1 : v.oneCell' = true) (ck cn ct : Int) (cf : Bool) : Calls Try.prog 10 #[.pointer (some ⟨Z, 0, none⟩), .int .i64 (H : Nat), .agg #[.int .i64 18, .int .i64 a, .int .i64 n, v, .int .u64 ck, .int .u64 cn, .int .i64 ct, .bool cf]] w fun e w' => ∃ v hs', e = .returned v ∧ UnM w' B Z X g h Y N D M t hs' ∧ Ntc w' w.heap.size hs' 8 ∧ Eff (fun q => q = Z) w w' := by
  obtain ⟨w2, e2, mc, mr, b2⟩ : ∃ w2, w2 = (w.alloc (.cells #[.int .i64 18, .int .i64 a, .int .i64 n, v, .int .u64 ck, .int .u64 cn, .int .i64 ct, .bool cf] 25)).alloc (.cells #[.int .i64 0, .int .i64 0, .int .i64 0, .slice none 0 0, .int .i64 0] 36) ∧ Mem w2 w.heap.size 25 #[.int .i64 18, .int .i64 a, .int .i64 n, v, .int .u64 ck, .int .u64 cn, .int .i64 ct, .bool cf] ∧ Mem w2 (w.heap.size + 1) 36 #[.int .i64 0, .int .i64 0, .int .i64 0, .slice none 0 0, .int .i64 0] ∧ Below w.heap.size w w2 := ⟨_, rfl, by
    have m0 := Mem.new w 25 #[.int .i64 18, .int .i64 a, .int .i64 n, v, .int .u64 ck, .int .u64 cn, .int .i64 ct, .bool cf]
    exact m0.below ((Below.refl _ _).alloc (Nat.le_refl _) _) m0.lt, by
    have m1 := Mem.new (w.alloc (.cells #[.int .i64 18, .int .i64 a, .int .i64 n, v, .int .u64 ck, .int .u64 cn, .int .i64 ct, .bool cf] 25)) 36 #[.int .i64 0, .int .i64 0, .int .i64 0, .slice none 0 0, .int .i64 0]
    rw [World.size_alloc] at m1
    exact m1, ((Below.refl _ w).alloc (Nat.le_refl _) _).alloc (by rw [World.size_alloc]; omega) _⟩
  have hu2 := hu.below b2
  have cH : ∀ W, Calls Try.prog 22 #[.int .i64 (H : Nat)] W fun e w' => e = .returned (.bool true) ∧ W = w' := fun W => by
    have q := isHost_any (H : Nat) W
    rw [decide_eq_true (by omega)] at q
    exact q
  have cK : ∀ W, Calls Try.prog 23 #[.int .i64 18] W fun e w' => e = .returned (.bool true) ∧ W = w' := fun W => isKind_any 18 W
  have cA := att_none hu2 H hH (hw H hH)
  have cL : ∀ W, Below w2.heap.size w2 W → Calls Try.prog 27 #[.pointer (some ⟨Y, 0, none⟩), .int .i64 (H : Nat), .int .i64 18] W fun e w' => e = .returned (.bool true) ∧ W = w' := fun W hW => allows_free (hu2.below hW).tab ht _ _
  have k0 := mc.cell 0
  have hw' := hw
  clear hH hw ht
  go_enter Try.func10, Try.ntmps10
  go_upto_region 1 with (fail)
  rw [← e2]
  clear e2
  go_upto_region 7 with (first
    | (go_at_call 22; (with_reducible refine (cH _).mono ?_); rintro e' w3 ⟨rfl, rfl⟩)
    | (go_at_call 23; (with_reducible refine (cK _).mono ?_); rintro e' w3 ⟨rfl, rfl⟩)
    | (go_at_call 25; (with_reducible refine cA.mono ?_); rintro e' w3 ⟨rfl, rfl⟩))
  apply calm_region [.is _, .is _, .is _, .is _, .is _, .is _, .is _, .is _, .is _] [[], [0], [1], [2], [], [], [5], [3, 4, 6], [7]] (by kernel_rfl) (by kernel_rfl) (by kernel_rfl) rfl
  intro f a1 ha1
  simp only [putL, Act.put, List.setIfInBounds_toArray, List.set_cons_succ, List.set_cons_zero] at ha1
  subst ha1
  refine ⟨?_, ?_⟩
  · refine AllCalm.cons (fun W hB hd => ?_) ?_
    · go_wp2_with (fail)
      exact CalmQ.mk rfl _ rfl (Below.refl _ _) rfl
    refine AllCalm.cons (fun W hB hd => ?_) ?_
    · obtain ⟨h0, -⟩ := hd
      have h0 : f 0 = _ := h0
      rw [h0]
      go_wp2_with (fail)
      exact CalmQ.mk rfl _ rfl (Below.refl _ _) rfl
    refine AllCalm.cons (fun W hB hd => ?_) ?_
    · obtain ⟨h1, -⟩ := hd
      have h1 : f 1 = _ := h1
      rw [h1]
      go_wp2_with (fail)
      exact CalmQ.mk rfl _ rfl (Below.refl _ _) rfl
    refine AllCalm.cons (fun W hB hd => ?_) ?_
    · obtain ⟨h2, -⟩ := hd
      have h2 : f 2 = _ := h2
      rw [h2]
      have q0 := (hu2.below hB).c1
      go_wp2_with (fail)
      exact CalmQ.mk rfl _ rfl (Below.refl _ _) rfl
    refine AllCalm.cons (fun W hB hd => ?_) ?_
    · go_wp2_with (fail)
      exact CalmQ.mk rfl _ rfl (Below.refl _ _) rfl
    refine AllCalm.cons (fun W hB hd => ?_) ?_
    · go_wp2_with (fail)
      exact CalmQ.mk rfl _ rfl (Below.refl _ _) rfl
    refine AllCalm.cons (fun W hB hd => ?_) ?_
    · obtain ⟨h5, -⟩ := hd
      have h5 : f 5 = _ := h5
      rw [h5]
      have q0 := (mc.below hB mc.lt).cell 0
      go_wp2_with (fail)
      exact CalmQ.mk rfl _ rfl (Below.refl _ _) rfl
    refine AllCalm.cons (fun W hB hd => ?_) ?_
    · obtain ⟨h3, h4, h6, -⟩ := hd
      have h3 : f 3 = _ := h3
      have h4 : f 4 = _ := h4
      have h6 : f 6 = _ := h6
      rw [h3, h4, h6]
      have cW := cL W hB
      go_wp2_with ((go_at_call 27; (with_reducible refine cW.mono ?_); rintro e' w3 ⟨rfl, rfl⟩))
      exact CalmQ.mk rfl _ rfl (Below.refl _ _) rfl
    refine AllCalm.cons (fun W hB hd => ?_) ?_
    · obtain ⟨h7, -⟩ := hd
      have h7 : f 7 = _ := h7
      rw [h7]
      go_wp2_with (fail)
      exact CalmQ.mk rfl _ rfl (Below.refl _ _) rfl
    exact AllCalm.nil
  · intro W hB hT
    obtain ⟨h0, h1, h2, h3, h4, h5, h6, h7, h8, -⟩ := hT
    have h0 : f 0 = _ := h0
    have h1 : f 1 = _ := h1
    have h2 : f 2 = _ := h2
    have h3 : f 3 = _ := h3
    have h4 : f 4 = _ := h4
    have h5 : f 5 = _ := h5
    have h6 : f 6 = _ := h6
    have h7 : f 7 = _ := h7
    have h8 : f 8 = _ := h8
    rw [h0, h1, h2, h3, h4, h5, h6, h7, h8]
    clear h0 h1 h2 h3 h4 h5 h6 h7 h8
    have mcW := mc.below hB mc.lt
    have mrW := mr.below hB mr.lt
    have BW := b2.trans (hB.mono b2.size)
    have huW := hu.below BW
    have k0 := mcW.cell 0
    have hZl := hu.mem.lt
    have n0 : Ntc W w.heap.size hs 0 := ⟨fun H h => absurd h (by omega), fun H _ h => hw' H h⟩
    have HN := Lib.hid n0
    clear n0 hw'
    go_wp2
    go_loopw [77] (fun x wr => ∃ (i : Nat) (hs : List Value), x = .int .i64 (i : Nat) ∧ i ≤ 8 ∧ UnM wr B Z X g h Y N D M t hs ∧ Ntc wr w.heap.size hs i ∧ Eff (fun q => q = Z) W wr) (fun x _ => 8 - (intOf x).toNat)
    case atStart => exact ⟨0, hs, rfl, by omega, huW, HN.out, Eff.refl _ _⟩
    case round =>
      obtain ⟨i, hsi, rfl, hi, UI, NI, EI⟩ := hrel
      generalize wr = wo at *
      have sz1 := BW.size
      have sz2 := EI.size
      by_cases hi8 : i < 8
      · have hix : (i : Int) < 8 := by omega
        have cN := notice_new UI i hi8 (NI.not i (Nat.le_refl _) hi8) 10499
        have HI8 := Lib.hid hi8
        have HZl := Lib.hid hZl
        clear hi hi8 hZl
        go_wp2_with (go_at_call 31; (with_reducible refine cN.mono ?_); rintro e' w7 ⟨G, p, rfl, U7, o7, E7⟩)
        have hi9 := HI8.out
        exact ⟨⟨i + 1, _, rfl, hi9, U7, NI.step UI.len hi9 E7 HZl.out (owns_mono o7 (by omega)), EI.trans E7 fun _ _ h => h⟩, by show 8 - ((i : Int) + 1).toNat < 8 - ((i : Int)).toNat; omega⟩
      · obtain rfl : i = 8 := by omega
        have mr8 := mrW.eff EI (by omega)
        have cG := good_any (.slice none 0 0) [] (by decide) wo (Sl.of_own (World.ownsRow_nil wo wo.heap.size 5 1))
        go_wp2_with (first
          | (go_at_call 29; (with_reducible refine cG.mono ?_); rintro e' w9 ⟨A9, c9, rfl, o9, b9⟩; have mr9 := mr8.below b9 mr8.lt)
          | (refine wpList_store_row rfl 36 (.tmp 6) (.tmp 84) rfl (w.heap.size + 1) #[.int .i64 0, .int .i64 0, .int .i64 0, .slice A9 0 c9, .int .i64 0] rfl rfl 36 #[.int .i64 0, .int .i64 0, .int .i64 0, .slice none 0 0, .int .i64 0] mr9 (by kernel_rfl) (by kernel_rfl) (by kernel_rfl) ?_))
        have EF := eff_setRow w9 (w.heap.size + 1) #[.int .i64 0, .int .i64 0, .int .i64 0, .slice A9 0 c9, .int .i64 0]
        exact bodyPost_ret ((results_cell1 (p := 6) (ty := 36) rfl _ _ (w.heap.size + 1) 36 _ (0, 0) _ rfl (mr9.row #[.int .i64 0, .int .i64 0, .int .i64 0, .slice A9 0 c9, .int .i64 0]) Try.underlying36 rfl (by kernel_rfl)).trans rfl) rfl ⟨_, hsi, rfl, UnM.box (UI.below b9) (mem_tag mr9) (by decide) (by decide) (by decide) (by decide) EF, (NI.below b9).box (mem_tag mr9) (by decide) EF, ((((Eff.of (S := fun q => q = Z) BW).trans EI fun _ _ h => h).trans (Eff.of (S := fun q => q = Z) b9) fun _ _ h => h).trans EF fun i hi e => absurd hi (by omega))⟩
end
end Un
end Go.Proofs.Ytpkebbibafldkaa
/- Package lu: Do of a write by a host that waits for one attention: it is told, and the write is not done. -/
namespace Go.Proofs.Ytpkebbibafldkaa
open Go.ChangeShapes Go.WideShapes Go.ChangeAt Go.RowKit Go.Lib
set_option linter.unusedVariables false
set_option linter.unusedSimpArgs false
set_option maxRecDepth 100000
namespace Un
open Rv
section
variable {w w' : World} {B Z X g h Y N : Nat} {D M : List UInt8} {t : RT} {hs : List Value}
set_option maxHeartbeats 4000000 in
theorem do_att (hu : UnM w B Z X g h Y N D M t hs) (H : Nat) (hH : H < 8) {G p : Nat} (hw : hs[3 * H]? = some (.slice (some ⟨G, 0, none⟩) 1 p)) (code : Int) (hp : 1 ≤ p) (hp2 : p ≤ maxLen) (hG : w.cell? ⟨G, 0, none⟩ = some (.int .i64 code)) (hGl : G < w.heap.size) (a n : Int) (v : Value) (ck cn ct : Int) (cf : Bool) : Calls Try.prog 10 #[.pointer (some ⟨Z, 0, none⟩), .int .i64 (H : Nat), .agg #[.int .i64 3, .int .i64 a, .int .i64 n, v, .int .u64 ck, .int .u64 cn, .int .i64 ct, .bool cf]] w fun e w' => e = .returned (.agg #[.int .i64 2, .int .i64 6, .int .i64 code, .slice none 0 0, .int .i64 0]) ∧ (∃ A c, c ≤ maxLen ∧ UnM w' B Z X g h Y N D M t (hs.set (3 * H) (.slice A 0 c))) ∧ Eff (fun q => q = Z) w w' := by
  obtain ⟨w2, e2, mc, mr, b2⟩ : ∃ w2, w2 = (w.alloc (.cells #[.int .i64 3, .int .i64 a, .int .i64 n, v, .int .u64 ck, .int .u64 cn, .int .i64 ct, .bool cf] 25)).alloc (.cells #[.int .i64 0, .int .i64 0, .int .i64 0, .slice none 0 0, .int .i64 0] 36) ∧ Mem w2 w.heap.size 25 #[.int .i64 3, .int .i64 a, .int .i64 n, v, .int .u64 ck, .int .u64 cn, .int .i64 ct, .bool cf] ∧ Mem w2 (w.heap.size + 1) 36 #[.int .i64 0, .int .i64 0, .int .i64 0, .slice none 0 0, .int .i64 0] ∧ Below w.heap.size w w2 := ⟨_, rfl, by
    have m0 := Mem.new w 25 #[.int .i64 3, .int .i64 a, .int .i64 n, v, .int .u64 ck, .int .u64 cn, .int .i64 ct, .bool cf]
    exact m0.below ((Below.refl _ _).alloc (Nat.le_refl _) _) m0.lt, by
    have m1 := Mem.new (w.alloc (.cells #[.int .i64 3, .int .i64 a, .int .i64 n, v, .int .u64 ck, .int .u64 cn, .int .i64 ct, .bool cf] 25)) 36 #[.int .i64 0, .int .i64 0, .int .i64 0, .slice none 0 0, .int .i64 0]
    rw [World.size_alloc] at m1
    exact m1, ((Below.refl _ w).alloc (Nat.le_refl _) _).alloc (by rw [World.size_alloc]; omega) _⟩
  have hu2 := hu.below b2
  have cH : ∀ W, Calls Try.prog 22 #[.int .i64 (H : Nat)] W fun e w' => e = .returned (.bool true) ∧ W = w' := fun W => by
    have q := isHost_any (H : Nat) W
    rw [decide_eq_true (by omega)] at q
    exact q
  have cK : ∀ W, Calls Try.prog 23 #[.int .i64 3] W fun e w' => e = .returned (.bool true) ∧ W = w' := fun W => isKind_any 3 W
  have cA := att_one hu2 H hH hw code hp hp2 ((b2.cell (p := ⟨G, 0, none⟩) hGl).trans hG)
  have cW := fun W => sWrong_any 6 code W
  have hZl := hu.mem.lt
  have k0 := mc.cell 0
  have HZl := Lib.hid hZl
  clear hH hw hp hp2 hG hZl hGl
  go_enter Try.func10, Try.ntmps10
  go_upto_region 1 with (fail)
  rw [← e2]
  clear e2
  have mr3 : ∀ W, Eff (fun q => q = Z) w2 W → Mem W (w.heap.size + 1) 36 #[.int .i64 0, .int .i64 0, .int .i64 0, .slice none 0 0, .int .i64 0] := fun W hW => mr.eff hW (by have := HZl.out; omega)
  go_wp2_with (first
    | (go_at_call 22; (with_reducible refine (cH _).mono ?_); rintro e' w3 ⟨rfl, rfl⟩)
    | (go_at_call 23; (with_reducible refine (cK _).mono ?_); rintro e' w3 ⟨rfl, rfl⟩)
    | (go_at_call 25; (with_reducible refine cA.mono ?_); rintro e' w3 ⟨rfl, ⟨A3, c3, q3, u3⟩, E3⟩; have mr4 := mr3 _ E3; have Q3 := Lib.hid q3; clear q3)
    | (go_at_call 26; (with_reducible refine (cW _).mono ?_); rintro e' w9 ⟨rfl, b9⟩; have mr9 := mr4.below b9 mr4.lt)
    | (refine wpList_store_row rfl 36 (.tmp 6) (.tmp 40) rfl (w.heap.size + 1) #[.int .i64 2, .int .i64 6, .int .i64 code, .slice none 0 0, .int .i64 0] rfl rfl 36 #[.int .i64 0, .int .i64 0, .int .i64 0, .slice none 0 0, .int .i64 0] mr9 (by kernel_rfl) (by kernel_rfl) (by kernel_rfl) ?_))
  have EF := eff_setRow w9 (w.heap.size + 1) #[.int .i64 2, .int .i64 6, .int .i64 code, .slice none 0 0, .int .i64 0]
  exact bodyPost_ret ((results_cell1 (p := 6) (ty := 36) rfl _ _ (w.heap.size + 1) 36 _ (0, 0) _ rfl (mr9.row #[.int .i64 2, .int .i64 6, .int .i64 code, .slice none 0 0, .int .i64 0]) Try.underlying36 rfl (by kernel_rfl)).trans rfl) rfl ⟨rfl, ⟨A3, c3, Q3.out, UnM.box (u3.below b9) (mem_tag mr9) (by decide) (by decide) (by decide) (by decide) EF⟩, ((((Eff.of (S := fun q => q = Z) b2).trans E3 fun _ _ h => h).trans (Eff.of (S := fun q => q = Z) b9) fun _ _ h => h).trans EF fun i hi e => absurd hi (by omega))⟩
end
end Un
end Go.Proofs.Ytpkebbibafldkaa
/- Package sense: Inquiry, its bytes' number. -/
namespace Go.Proofs.Ytpkebbibafldkaa
open Go.ChangeShapes Go.WideShapes Go.ChangeAt Go.RowKit Go.Lib
set_option linter.unusedVariables false
set_option linter.unusedSimpArgs false
set_option maxRecDepth 100000
namespace Un
open Rv
def q1 : List UInt8 := splice (be 0 36) 2 (be 5 1)
def q2 : List UInt8 := splice q1 3 (be 2 1)
def q3 : List UInt8 := splice q2 4 (be 31 1)
set_option maxHeartbeats 2000000 in
theorem inq_any (w : World) : Calls Try.prog 60 #[] w fun e w' => ∃ G l, e = .returned (.slice (some ⟨G, 0, none⟩) 36 36) ∧ l.length = 36 ∧ w'.ownsRow w.heap.size 5 1 (.slice (some ⟨G, 0, none⟩) 36 36) 36 (bs l) ∧ Below w.heap.size w w' := by
  have cb : ∀ W, Calls Try.prog 78 #[.int .i64 36] W _ := fun W => blank_any 36 (by omega) (by omega) W
  obtain ⟨i0, hi, hz0, hz1, hz2⟩ := info_parts (show (Try.prog.info? 5).map (fun i => (i.zero, i.size, i.bytes)) = some (some (.int .u8 0), 1, 1) by kernel_rfl)
  have c1 : ∀ W P G, BufAt W P G 36 (be 0 36) → Calls Try.prog 86 #[.int .i64 2, .int .u64 5, .int .i64 1, .pointer (some ⟨P, 0, none⟩)] W fun e w' => e = .returned (.tuple #[]) ∧ BufAt w' P G 36 q1 ∧ Keeps G W w' := fun W P G h => lay_any P G 36 _ 2 1 2 1 5 rfl rfl W h (by omega) (by omega) (by omega) 5 rfl
  have c2 : ∀ W P G, BufAt W P G 36 q1 → Calls Try.prog 86 #[.int .i64 3, .int .u64 2, .int .i64 1, .pointer (some ⟨P, 0, none⟩)] W fun e w' => e = .returned (.tuple #[]) ∧ BufAt w' P G 36 q2 ∧ Keeps G W w' := fun W P G h => lay_any P G 36 _ 3 1 3 1 2 rfl rfl W h (by omega) (by omega) (by omega) 2 rfl
  have c3 : ∀ W P G, BufAt W P G 36 q2 → Calls Try.prog 86 #[.int .i64 4, .int .u64 31, .int .i64 1, .pointer (some ⟨P, 0, none⟩)] W fun e w' => e = .returned (.tuple #[]) ∧ BufAt w' P G 36 q3 ∧ Keeps G W w' := fun W P G h => lay_any P G 36 _ 4 1 4 1 31 rfl rfl W h (by omega) (by omega) (by omega) 31 rfl
  have cp : ∀ W P G, BufAt W P G 36 q3 → ∀ ty, (Builtin.copy_ #[22, 9] ty #[.slice (some ⟨G, 8, none⟩) 28 28, .string ⟨#[71, 69, 77, 69, 76, 32, 32, 32, 84, 87, 73, 78, 32, 68, 73, 83, 75, 32, 32, 32, 32, 32, 32, 32, 48, 48, 48, 49]⟩]).run Try.prog W = .ok (goInt 28) (W.setRow G ((bs q3).take 8 ++ Lib.byteCells (⟨#[71, 69, 77, 69, 76, 32, 32, 32, 84, 87, 73, 78, 32, 68, 73, 83, 75, 32, 32, 32, 32, 32, 32, 32, 48, 48, 48, 49]⟩ : ByteArray).data.toList ++ (bs q3).drop 36).toArray) := fun W P G h ty =>
    Lib.run_copy_row_string W 22 9 ty 5 G 8 28 28 ⟨#[71, 69, 77, 69, 76, 32, 32, 32, 84, 87, 73, 78, 32, 68, 73, 83, 75, 32, 32, 32, 32, 32, 32, 32, 48, 48, 48, 49]⟩ (bs q3).toArray 5 Try.underlying22 (by rw [hi]; simp [hz1]) h.g (by decide) (by decide +kernel)
  go_enter Try.func60, Try.ntmps60
  go_wp2_with (first
    | (go_at_call 78; with_reducible refine (cb _).mono ?_; rintro e w1 ⟨P, G, rfl, hbf, hG, hP, hb1⟩)
    | (go_at_call 86; with_reducible refine (c1 _ _ _ hbf).mono ?_; rintro e v1 ⟨rfl, hbf1, hk1⟩; have hkc1 := hk1)
    | (go_at_call 86; with_reducible refine (c2 _ _ _ hbf1).mono ?_; rintro e v2 ⟨rfl, hbf2, hk2⟩; have hkc2 := hkc1.trans hk2)
    | (go_at_call 86; with_reducible refine (c3 _ _ _ hbf2).mono ?_; rintro e v3 ⟨rfl, hbf3, hk3⟩; have hkc3 := hkc2.trans hk3; have hcp := cp _ _ _ hbf3))
  have hrow := setRow_heap v3 G _ ((bs q3).take 8 ++ Lib.byteCells (⟨#[71, 69, 77, 69, 76, 32, 32, 32, 84, 87, 73, 78, 32, 68, 73, 83, 75, 32, 32, 32, 32, 32, 32, 32, 48, 48, 48, 49]⟩ : ByteArray).data.toList ++ (bs q3).drop 36).toArray _ _ hbf3.g
  have hend : Below w.heap.size w (v3.setRow G ((bs q3).take 8 ++ Lib.byteCells (⟨#[71, 69, 77, 69, 76, 32, 32, 32, 84, 87, 73, 78, 32, 68, 73, 83, 75, 32, 32, 32, 32, 32, 32, 32, 48, 48, 48, 49]⟩ : ByteArray).data.toList ++ (bs q3).drop 36).toArray) := hb1.trans ((hkc3.setRow _).below hG hb1.size)
  rw [List.append_assoc] at hrow hend
  go_ret
  refine ⟨G, q3.take 8 ++ ([71, 69, 77, 69, 76, 32, 32, 32, 84, 87, 73, 78, 32, 68, 73, 83, 75, 32, 32, 32, 32, 32, 32, 32, 48, 48, 48, 49] ++ q3.drop 36), rfl, by decide +kernel, ?_, hend⟩
  exact ⟨rfl, .inr ⟨G, 36, _, rfl, hG, hrow, by decide +kernel, by unfold maxLen; omega, by decide +kernel, by kernel_rfl⟩⟩
end Un
end Go.Proofs.Ytpkebbibafldkaa
/- Package lu: what an inquiry is told. -/
namespace Go.Proofs.Ytpkebbibafldkaa
open Go.ChangeShapes Go.WideShapes Go.ChangeAt Go.RowKit Go.Lib
set_option linter.unusedVariables false
set_option linter.unusedSimpArgs false
set_option maxRecDepth 100000
namespace Un
open Rv
set_option maxHeartbeats 4000000 in
theorem told_inq (Z : Nat) (H : Int) (w : World) : Calls Try.prog 30 #[.pointer (some ⟨Z, 0, none⟩), .int .i64 H, .int .i64 8] w fun e w' => ∃ G l, e = .returned (.slice (some ⟨G, 0, none⟩) 36 36) ∧ l.length = 36 ∧ w'.ownsRow w.heap.size 5 1 (.slice (some ⟨G, 0, none⟩) 36 36) 36 (bs l) ∧ Below w.heap.size w w' := by
  have cI := inq_any w
  go_enter Try.func30, Try.ntmps30
  go_wp2_with (go_at_call 60; (with_reducible refine cI.mono ?_); rintro e' w1 ⟨G, l, rfl, hl, o1, b1⟩)
  go_ret
  exact ⟨G, l, rfl, hl, o1, b1⟩
section
variable {w w' : World} {B Z X g h Y N : Nat} {D M : List UInt8} {t : RT} {hs : List Value}
set_option maxHeartbeats 4000000 in
theorem do_inq (hu : UnM w B Z X g h Y N D M t hs) (H : Nat) (hH : H < 8) (ht : t.holder = -1) (a n : Int) (v : Value) (hv1 : v.oneCell' = true) (ck cn ct : Int) (cf : Bool) : Calls Try.prog 10 #[.pointer (some ⟨Z, 0, none⟩), .int .i64 (H : Nat), .agg #[.int .i64 8, .int .i64 a, .int .i64 n, v, .int .u64 ck, .int .u64 cn, .int .i64 ct, .bool cf]] w fun e w' => ∃ A c, e = .returned (.agg #[.int .i64 0, .int .i64 0, .int .i64 0, .slice A 36 c, .int .i64 0]) ∧ Below w.heap.size w w' := by
  obtain ⟨w2, e2, mc, mr, b2⟩ : ∃ w2, w2 = (w.alloc (.cells #[.int .i64 8, .int .i64 a, .int .i64 n, v, .int .u64 ck, .int .u64 cn, .int .i64 ct, .bool cf] 25)).alloc (.cells #[.int .i64 0, .int .i64 0, .int .i64 0, .slice none 0 0, .int .i64 0] 36) ∧ Mem w2 w.heap.size 25 #[.int .i64 8, .int .i64 a, .int .i64 n, v, .int .u64 ck, .int .u64 cn, .int .i64 ct, .bool cf] ∧ Mem w2 (w.heap.size + 1) 36 #[.int .i64 0, .int .i64 0, .int .i64 0, .slice none 0 0, .int .i64 0] ∧ Below w.heap.size w w2 := ⟨_, rfl, by
    have m0 := Mem.new w 25 #[.int .i64 8, .int .i64 a, .int .i64 n, v, .int .u64 ck, .int .u64 cn, .int .i64 ct, .bool cf]
    exact m0.below ((Below.refl _ _).alloc (Nat.le_refl _) _) m0.lt, by
    have m1 := Mem.new (w.alloc (.cells #[.int .i64 8, .int .i64 a, .int .i64 n, v, .int .u64 ck, .int .u64 cn, .int .i64 ct, .bool cf] 25)) 36 #[.int .i64 0, .int .i64 0, .int .i64 0, .slice none 0 0, .int .i64 0]
    rw [World.size_alloc] at m1
    exact m1, ((Below.refl _ w).alloc (Nat.le_refl _) _).alloc (by rw [World.size_alloc]; omega) _⟩
  have hu2 := hu.below b2
  have cH : ∀ W, Calls Try.prog 22 #[.int .i64 (H : Nat)] W fun e w' => e = .returned (.bool true) ∧ W = w' := fun W => by
    have q := isHost_any (H : Nat) W
    rw [decide_eq_true (by omega)] at q
    exact q
  have cK : ∀ W, Calls Try.prog 23 #[.int .i64 8] W fun e w' => e = .returned (.bool true) ∧ W = w' := fun W => isKind_any 8 W
  have cL : ∀ W, Below w2.heap.size w2 W → Calls Try.prog 27 #[.pointer (some ⟨Y, 0, none⟩), .int .i64 (H : Nat), .int .i64 8] W fun e w' => e = .returned (.bool true) ∧ W = w' := fun W hW => allows_free (hu2.below hW).tab ht _ _
  have k0 := mc.cell 0
  clear hH ht
  go_enter Try.func10, Try.ntmps10
  go_upto_region 1 with (fail)
  rw [← e2]
  clear e2
  go_upto_region 7 with (first
    | (go_at_call 22; (with_reducible refine (cH _).mono ?_); rintro e' w3 ⟨rfl, rfl⟩)
    | (go_at_call 23; (with_reducible refine (cK _).mono ?_); rintro e' w3 ⟨rfl, rfl⟩))
  apply calm_region [.is _, .is _, .is _, .is _, .is _, .is _, .is _, .is _, .is _] [[], [0], [1], [2], [], [], [5], [3, 4, 6], [7]] (by kernel_rfl) (by kernel_rfl) (by kernel_rfl) rfl
  intro f a1 ha1
  simp only [putL, Act.put, List.setIfInBounds_toArray, List.set_cons_succ, List.set_cons_zero] at ha1
  subst ha1
  refine ⟨?_, ?_⟩
  · refine AllCalm.cons (fun W hB hd => ?_) ?_
    · go_wp2_with (fail)
      exact CalmQ.mk rfl _ rfl (Below.refl _ _) rfl
    refine AllCalm.cons (fun W hB hd => ?_) ?_
    · obtain ⟨h0, -⟩ := hd
      have h0 : f 0 = _ := h0
      rw [h0]
      go_wp2_with (fail)
      exact CalmQ.mk rfl _ rfl (Below.refl _ _) rfl
    refine AllCalm.cons (fun W hB hd => ?_) ?_
    · obtain ⟨h1, -⟩ := hd
      have h1 : f 1 = _ := h1
      rw [h1]
      go_wp2_with (fail)
      exact CalmQ.mk rfl _ rfl (Below.refl _ _) rfl
    refine AllCalm.cons (fun W hB hd => ?_) ?_
    · obtain ⟨h2, -⟩ := hd
      have h2 : f 2 = _ := h2
      rw [h2]
      have q0 := (hu2.below hB).c1
      go_wp2_with (fail)
      exact CalmQ.mk rfl _ rfl (Below.refl _ _) rfl
    refine AllCalm.cons (fun W hB hd => ?_) ?_
    · go_wp2_with (fail)
      exact CalmQ.mk rfl _ rfl (Below.refl _ _) rfl
    refine AllCalm.cons (fun W hB hd => ?_) ?_
    · go_wp2_with (fail)
      exact CalmQ.mk rfl _ rfl (Below.refl _ _) rfl
    refine AllCalm.cons (fun W hB hd => ?_) ?_
    · obtain ⟨h5, -⟩ := hd
      have h5 : f 5 = _ := h5
      rw [h5]
      have q0 := (mc.below hB mc.lt).cell 0
      go_wp2_with (fail)
      exact CalmQ.mk rfl _ rfl (Below.refl _ _) rfl
    refine AllCalm.cons (fun W hB hd => ?_) ?_
    · obtain ⟨h3, h4, h6, -⟩ := hd
      have h3 : f 3 = _ := h3
      have h4 : f 4 = _ := h4
      have h6 : f 6 = _ := h6
      rw [h3, h4, h6]
      have cW := cL W hB
      go_wp2_with ((go_at_call 27; (with_reducible refine cW.mono ?_); rintro e' w3 ⟨rfl, rfl⟩))
      exact CalmQ.mk rfl _ rfl (Below.refl _ _) rfl
    refine AllCalm.cons (fun W hB hd => ?_) ?_
    · obtain ⟨h7, -⟩ := hd
      have h7 : f 7 = _ := h7
      rw [h7]
      go_wp2_with (fail)
      exact CalmQ.mk rfl _ rfl (Below.refl _ _) rfl
    exact AllCalm.nil
  · intro W hB hT
    obtain ⟨h0, h1, h2, h3, h4, h5, h6, h7, h8, -⟩ := hT
    have h0 : f 0 = _ := h0
    have h1 : f 1 = _ := h1
    have h2 : f 2 = _ := h2
    have h3 : f 3 = _ := h3
    have h4 : f 4 = _ := h4
    have h5 : f 5 = _ := h5
    have h6 : f 6 = _ := h6
    have h7 : f 7 = _ := h7
    have h8 : f 8 = _ := h8
    rw [h0, h1, h2, h3, h4, h5, h6, h7, h8]
    clear h0 h1 h2 h3 h4 h5 h6 h7 h8
    have mcW := mc.below hB mc.lt
    have mrW := mr.below hB mr.lt
    have BW := b2.trans (hB.mono b2.size)
    have huW := hu.below BW
    have k0 := mcW.cell 0
    have cT := told_inq Z (H : Nat) W
    have cG : ∀ W2 G l, l.length = 36 → W2.ownsRow W.heap.size 5 1 (.slice (some ⟨G, 0, none⟩) 36 36) 36 (bs l) → Calls Try.prog 29 #[.slice (some ⟨G, 0, none⟩) 36 36] W2 fun e w' => ∃ A c, e = .returned (.agg #[.int .i64 0, .int .i64 0, .int .i64 0, .slice A 36 c, .int .i64 0]) ∧ Below W2.heap.size W2 w' := fun W2 G l hl ho => by
      have q := good_any (.slice (some ⟨G, 0, none⟩) 36 36) l (by omega) W2 (by rw [hl]; exact Sl.of_own ho)
      rw [hl] at q
      exact q.mono fun e w' ⟨A, c, q1, _, q3⟩ => ⟨A, c, q1, q3⟩
    go_wp2_with (first
      | (go_at_call 30; (with_reducible refine cT.mono ?_); rintro e' w8 ⟨G8, l8, rfl, hl8, o8, b8⟩; have cG8 := cG _ _ _ hl8 o8; have mr8 := mrW.below b8 mrW.lt)
      | (go_at_call 29; (with_reducible refine cG8.mono ?_); rintro e' w9 ⟨A9, c9, rfl, b9⟩; have mr9 := mr8.below b9 mr8.lt)
      | (refine wpList_store_row rfl 36 (.tmp 6) (.tmp 74) rfl (w.heap.size + 1) #[.int .i64 0, .int .i64 0, .int .i64 0, .slice A9 36 c9, .int .i64 0] rfl rfl 36 #[.int .i64 0, .int .i64 0, .int .i64 0, .slice none 0 0, .int .i64 0] mr9 (by kernel_rfl) (by kernel_rfl) (by kernel_rfl) ?_))
    have B9 := BW.trans ((b8.trans (b9.mono b8.size)).mono BW.size)
    exact bodyPost_ret ((results_cell1 (p := 6) (ty := 36) rfl _ _ (w.heap.size + 1) 36 _ (0, 0) _ rfl (mr9.row #[.int .i64 0, .int .i64 0, .int .i64 0, .slice A9 36 c9, .int .i64 0]) Try.underlying36 rfl (by kernel_rfl)).trans rfl) rfl ⟨A9, c9, rfl, below_setRow B9 (by omega) _⟩
end
end Un
end Go.Proofs.Ytpkebbibafldkaa
