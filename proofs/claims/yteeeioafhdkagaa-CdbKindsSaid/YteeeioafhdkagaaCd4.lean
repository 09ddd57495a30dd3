/- Package cdb: Encode of no kind, kindOf, put: contracts. -/
import Derived.Test.YteeeioafhdkagaaCd3
namespace Go.Proofs.Yteeeioafhdkagaa
open Go.ChangeShapes Go.WideShapes Go.ChangeAt Go.RowKit
set_option linter.unusedVariables false
theorem Encode_no (k a n t : Int) (f : Bool) (hk : (hdS k).2.2.2 = false) (w : World) :
    Calls Try.prog 12 #[cmdV k a n t f] w fun e w' => e = .returned (.tuple #[.slice none 0 0, .int .i64 1]) ∧ Below w.heap.size w w' := by
  have hh := head_any k
  obtain ⟨⟨op, sec, part, ok⟩, hhd⟩ : ∃ x, hdS k = x := ⟨_, rfl⟩
  rw [hhd] at hk hh
  obtain rfl : ok = false := hk
  clear hhd
  unfold cmdV
  go_enter Try.func12, Try.ntmps12
  go_wp2_with (go_at_call 28; with_reducible refine (hh _).mono ?_; rintro e w1 ⟨rfl, rfl⟩; unfold hdV)
  exact bodyPost_ret (v := .tuple #[.slice none 0 0, .int .i64 1]) (by simp [results, Try.results12, go_sem]) rfl ⟨rfl, (Below.refl _ _).alloc (Nat.le_refl _) _⟩
def mtS (x y k : Nat) : Bool := (hdS k).1 == x && (!(hdS k).2.2.1 || (hdS k).2.1 == y)
def kfrom (x y : Nat) : Nat → Nat → Nat
  | 0, _ => 0
  | f + 1, k => if mtS x y k then k else kfrom x y f (k + 1)
/-- The kind that two bytes name. -/
def kindS (x y : Nat) : Nat := kfrom x y 17 1
set_option maxHeartbeats 1000000 in
theorem kindOf_any (x y : Nat) (w : World) : Calls Try.prog 33 #[.int .u8 (x : Nat), .int .u8 (y : Nat)] w fun e w' => e = .returned (.int .i64 (kindS x y : Nat)) ∧ w = w' := by
  obtain ⟨r, hr⟩ : ∃ r, r = kindS x y := ⟨_, rfl⟩
  rw [← hr]
  have h0 : kfrom x y 17 1 = r := hr.symm
  clear hr
  have H0 := Lib.hid h0
  clear h0
  go_enter Try.func33, Try.ntmps33
  go_wp2
  go_loopw [5] (fun i wr => ∃ k : Nat, 1 ≤ k ∧ k ≤ 18 ∧ i = .int .i64 k ∧ kfrom x y (18 - k) k = r ∧ w = wr) (fun i _ => 18 - (intOf i).toNat)
  case atStart => exact ⟨1, by omega, by omega, rfl, H0.out, rfl⟩
  case round =>
    obtain ⟨k, hk1, hk2, rfl, hkf, rfl⟩ := hrel
    by_cases hlt : k ≤ 17
    · have hltZ : (k : Int) ≤ 17 := by omega
      have hh := head_any k w
      have hm : mtS x y k = ((hdS k).1 == x && (!(hdS k).2.2.1 || (hdS k).2.1 == y)) := rfl
      obtain ⟨⟨op, sec, part, ok⟩, hhd⟩ : ∃ z, hdS k = z := ⟨_, rfl⟩
      rw [hhd] at hh hm
      dsimp only at hm
      rw [show 18 - k = (17 - k) + 1 by omega] at hkf
      have hkf2 : (if mtS x y k then k else kfrom x y (17 - k) (k + 1)) = r := hkf
      rw [hm] at hkf2
      have HK := Lib.hid hkf2
      clear hkf hkf2 hm hhd
      by_cases h1 : op = x
      · have h1' : ((op : Int) == x) = true := by rw [beq_iff_eq]; omega
        cases part
        · go_wp2_with (go_at_call 28; with_reducible refine hh.mono ?_; rintro e w1 ⟨rfl, rfl⟩; unfold hdV)
          have hrk : k = r := by have := HK.out; simpa [h1] using this
          subst hrk
          go_ret
          exact ⟨rfl, rfl⟩
        · by_cases h2 : sec = y
          · have h2' : ((sec : Int) == y) = true := by rw [beq_iff_eq]; omega
            go_wp2_with (go_at_call 28; with_reducible refine hh.mono ?_; rintro e w1 ⟨rfl, rfl⟩; unfold hdV)
            have hrk : k = r := by have := HK.out; simpa [h1, h2] using this
            subst hrk
            go_ret
            exact ⟨rfl, rfl⟩
          · have h2' : ((sec : Int) == y) = false := by rw [beq_eq_false_iff_ne]; omega
            go_wp2_with (go_at_call 28; with_reducible refine hh.mono ?_; rintro e w1 ⟨rfl, rfl⟩; unfold hdV)
            refine ⟨⟨k + 1, by omega, by omega, by go_num, ?_, by first | rfl | trivial⟩, by simp [intOf]; omega⟩
            have := HK.out
            rw [show 18 - (k + 1) = 17 - k by omega]
            simpa [h1, h2] using this
      · have h1' : ((op : Int) == x) = false := by rw [beq_eq_false_iff_ne]; omega
        go_wp2_with (go_at_call 28; with_reducible refine hh.mono ?_; rintro e w1 ⟨rfl, rfl⟩; unfold hdV)
        refine ⟨⟨k + 1, by omega, by omega, by go_num, ?_, by first | rfl | trivial⟩, by simp [intOf]; omega⟩
        have := HK.out
        rw [show 18 - (k + 1) = 17 - k by omega]
        simpa [h1] using this
    · obtain rfl : k = 18 := by omega
      have hr0 : r = 0 := hkf.symm
      subst hr0
      go_wp2
      go_ret
      exact ⟨rfl, rfl⟩
def putOk (what v : Nat) : Prop := (what = 0 → v = 0 ∨ v = 8) ∧ (what = 1 → v ≤ 4611686018427387904)
theorem CmdAt.frozen {w : World} {B : Nat} {k a n t : Int} {f : Bool} (h : CmdAt w B k a n t f) (j : Nat) : w.frozen? ⟨B, j, none⟩ = false := frozen_of_row w B j _ _ h
theorem CmdAt.alloc {w : World} {B : Nat} {k a n t : Int} {f : Bool} (h : CmdAt w B k a n t f) (o : Obj) : CmdAt (w.alloc o) B k a n t f := (Below.heap_alloc w o B (Array.getElem?_eq_some_iff.1 h).1).trans h
theorem CmdAt.set {w : World} {B : Nat} {k a n t : Int} {f : Bool} (h : CmdAt w B k a n t f) :
    (∀ u : Int, CmdAt (w.setCell ⟨B, 1, none⟩ (.int .i64 u)) B k u n t f) ∧ (∀ u : Int, CmdAt (w.setCell ⟨B, 2, none⟩ (.int .i64 u)) B k a u t f) ∧ (∀ u : Int, CmdAt (w.setCell ⟨B, 6, none⟩ (.int .i64 u)) B k a n u f) ∧ (∀ u : Bool, CmdAt (w.setCell ⟨B, 7, none⟩ (.bool u)) B k a n t u) :=
  ⟨fun u => heap_setCell_same w B 1 _ _ _ h, fun u => heap_setCell_same w B 2 _ _ _ h, fun u => heap_setCell_same w B 6 _ _ _ h, fun u => heap_setCell_same w B 7 _ _ _ h⟩
set_option maxHeartbeats 1000000 in
theorem cput_any (B : Nat) (k a n t : Int) (f : Bool) (what at_ m v : Nat) (hw : what ≤ 3) (hok : putOk what v) (hv : v < 9223372036854775808) (w : World) (hc : CmdAt w B k a n t f) :
    Calls Try.prog 35 #[.pointer (some ⟨B, 0, none⟩), .agg #[.int .i64 what, .int .i64 at_, .int .i64 m], .int .u64 v] w fun e w' => e = .returned (.bool true) ∧ CmdAt w' B k (if what = 1 then (v : Int) else a) (if what = 2 then (v : Int) else n) (if what = 3 then (v : Int) else t) (if what = 0 then v == 8 else f) ∧ Keeps B w w' := by
  have hBw : B < w.heap.size := (Array.getElem?_eq_some_iff.1 hc).1
  have hs := hc.set
  have f1 := fun o => (hc.alloc o).frozen 1
  have f2 := fun o => (hc.alloc o).frozen 2
  have f6 := fun o => (hc.alloc o).frozen 6
  have f7 := fun o => (hc.alloc o).frozen 7
  have k1 := fun o => (hc.alloc o).cells.2.1
  have k2 := fun o => (hc.alloc o).cells.2.2.1
  have k6 := fun o => (hc.alloc o).cells.2.2.2.2.2.2.1
  have k7 := fun o => (hc.alloc o).cells.2.2.2.2.2.2.2
  have hwv : IntKind.i64.wrap (v : Int) = v := IntWalk.i64_in _ (by omega)
  obtain ⟨ho0, ho1⟩ := hok
  have HS := Lib.hid hs
  have hw4 : what = 0 ∨ what = 1 ∨ what = 2 ∨ what = 3 := by omega
  have hne : ¬ B = w.heap.size := by omega
  clear hc hs
  rcases hw4 with rfl | rfl | rfl | rfl
  · rcases ho0 rfl with rfl | rfl
    · go_enter Try.func35, Try.ntmps35
      go_wp2
      go_ret
      exact ⟨rfl, (HS.out.2.2.2 _).alloc _, ((Keeps.refl B w).setCell (p := ⟨B, 7, none⟩) _).trans (Keeps.of ((Below.refl _ _).alloc (Nat.le_refl _) _))⟩
    · go_enter Try.func35, Try.ntmps35
      go_wp2
      go_ret
      exact ⟨rfl, (HS.out.2.2.2 _).alloc _, ((Keeps.refl B w).setCell (p := ⟨B, 7, none⟩) _).trans (Keeps.of ((Below.refl _ _).alloc (Nat.le_refl _) _))⟩
  · have hle : (v : Int) ≤ 4611686018427387904 := by have := ho1 rfl; omega
    go_enter Try.func35, Try.ntmps35
    go_wp2
    go_ret
    exact ⟨rfl, (HS.out.1 _).alloc _, ((Keeps.refl B w).setCell (p := ⟨B, 1, none⟩) _).trans (Keeps.of ((Below.refl _ _).alloc (Nat.le_refl _) _))⟩
  · go_enter Try.func35, Try.ntmps35
    go_wp2
    go_ret
    exact ⟨rfl, (HS.out.2.1 _).alloc _, ((Keeps.refl B w).setCell (p := ⟨B, 2, none⟩) _).trans (Keeps.of ((Below.refl _ _).alloc (Nat.le_refl _) _))⟩
  · go_enter Try.func35, Try.ntmps35
    go_wp2
    go_ret
    exact ⟨rfl, (HS.out.2.2.1 _).alloc _, ((Keeps.refl B w).setCell (p := ⟨B, 6, none⟩) _).trans (Keeps.of ((Below.refl _ _).alloc (Nat.le_refl _) _))⟩
end Go.Proofs.Yteeeioafhdkagaa
