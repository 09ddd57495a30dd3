/- Package lu: the unit in memory; New; what waits for nobody; small functions. -/
import Derived.Test.YtflodljccloobaaUSp4
import Derived.Test.YtflodljccloobaaRv2
import Derived.Test.YtflodljccloobaaSn2
namespace Go.Proofs.Ytflodljccloobaa
open Go.ChangeShapes Go.WideShapes Go.ChangeAt Go.RowKit Go.Lib
set_option linter.unusedVariables false
set_option linter.unusedSimpArgs false
set_option maxRecDepth 100000
namespace Un
open Rv
theorem info_u8 : (Try.prog.info? 5).map (fun i => (i.zero, i.size, i.bytes)) = some (some (.int .u8 0), 1, 1) := by kernel_rfl
theorem eff_setRow (W : World) (g : Nat) (cs : Array Value) : Eff (fun k => k = g) W (W.setRow g cs) := by
  have h := (Keeps.refl g W).setRow cs
  exact ⟨h.os, h.tape, h.output, h.size, fun k hk hn => h.block k hk hn⟩
/-- A unit's cells. -/
def unRow (X Y : Nat) (hs : List Value) : Array Value := (.pointer (some ⟨X, 0, none⟩) :: .pointer (some ⟨Y, 0, none⟩) :: hs).toArray
/-- The unit in block Z: blocks X (g, h), table Y; hs: its hosts' cells. -/
structure UnM (w : World) (B Z X g h Y N : Nat) (D M : List UInt8) (t : RT) (hs : List Value) : Prop where
  mem : Mem w Z 72 (unRow X Y hs)
  len : hs.length = 24
  sp : SpInv w B X g h N D M
  tab : TabM w Y t
  bZ : B ≤ Z
  bY : B ≤ Y
section
variable {w w' : World} {B Z X g h Y N : Nat} {D D' M M' : List UInt8} {t t' : RT} {hs : List Value}
theorem UnM.below (hu : UnM w B Z X g h Y N D M t hs) (hb : Below w.heap.size w w') : UnM w' B Z X g h Y N D M t hs :=
  ⟨hu.mem.below hb hu.mem.lt, hu.len, hu.sp.below hb, hu.tab.below hb, hu.bZ, hu.bY⟩
theorem UnM.c0 (hu : UnM w B Z X g h Y N D M t hs) : w.cell? ⟨Z, 0, none⟩ = some (.pointer (some ⟨X, 0, none⟩)) := hu.mem.cell 0
theorem UnM.c1 (hu : UnM w B Z X g h Y N D M t hs) : w.cell? ⟨Z, 1, none⟩ = some (.pointer (some ⟨Y, 0, none⟩)) := hu.mem.cell 1
theorem UnM.ch (hu : UnM w B Z X g h Y N D M t hs) (i : Nat) : w.cell? ⟨Z, 2 + i, none⟩ = hs[i]? := by
  rw [hu.mem.cell, Nat.add_comm 2 i]
  unfold unRow
  rw [List.getElem?_toArray]
  rfl
/-- The blocks go on, all else stays. -/
theorem UnM.sp' (hu : UnM w B Z X g h Y N D M t hs) (hn : SpInv w' B X g h N D' M') (he : Eff (SpS g h) w w') : UnM w' B Z X g h Y N D' M' t hs := by
  have hd := mem_tag hu.sp.data
  have hm := mem_tag hu.sp.map
  refine ⟨hu.mem.eff he fun hk => ?_, hu.len, hn, ⟨hu.tab.mem.eff he fun hk => ?_, hu.tab.len⟩, hu.bZ, hu.bY⟩
  · exact hk.elim (fun e => (mem_tag hu.mem).ne hd (by decide) e) fun e => (mem_tag hu.mem).ne hm (by decide) e
  · exact hk.elim (fun e => (mem_tag hu.tab.mem).ne hd (by decide) e) fun e => (mem_tag hu.tab.mem).ne hm (by decide) e
theorem isHost_any (i : Int) (w : World) : Calls Try.prog 17 #[.int .i64 i] w fun e w' => e = .returned (.bool (decide (0 ≤ i ∧ i < 8))) ∧ w = w' := by
  by_cases h0 : 0 ≤ i
  · by_cases h8 : i < 8
    · rw [decide_eq_true ⟨h0, h8⟩]
      go_enter Try.func17, Try.ntmps17
      go_wp2
      go_ret
      exact ⟨rfl, rfl⟩
    · rw [decide_eq_false fun h => h8 h.2]
      have h9 : ¬ i < 8 := h8
      go_enter Try.func17, Try.ntmps17
      go_wp2
      go_ret
      simp
  · rw [decide_eq_false fun h => h0 h.1]
    have h9 : ¬ 0 ≤ i := h0
    go_enter Try.func17, Try.ntmps17
    go_wp2
    go_ret
    simp
theorem isKind_any (i : Int) (w : World) : Calls Try.prog 18 #[.int .i64 i] w fun e w' => e = .returned (.bool (decide (1 ≤ i ∧ i ≤ 18))) ∧ w = w' := by
  by_cases h0 : 1 ≤ i
  · by_cases h8 : i ≤ 18
    · rw [decide_eq_true ⟨h0, h8⟩]
      go_enter Try.func18, Try.ntmps18
      go_wp2
      go_ret
      exact ⟨rfl, rfl⟩
    · rw [decide_eq_false fun h => h8 h.2]
      have h9 : ¬ i ≤ 18 := h8
      go_enter Try.func18, Try.ntmps18
      go_wp2
      go_ret
      simp
  · rw [decide_eq_false fun h => h0 h.1]
    have h9 : ¬ 1 ≤ i := h0
    go_enter Try.func18, Try.ntmps18
    go_wp2
    go_ret
    simp
/-- A reply of numbers alone. -/
def rp (s k c i : Int) : Value := .agg #[.int .i64 s, .int .i64 k, .int .i64 c, .slice none 0 0, .int .i64 i]
theorem illegal_any (c : Int) (w : World) : Calls Try.prog 19 #[.int .i64 c] w fun e w' => e = .returned (rp 2 5 c 0) ∧ Below w.heap.size w w' := by
  have cw := fun W => sWrong_any 5 c W
  have b0 := (Below.refl _ w).alloc (Nat.le_refl _) (.cells #[.int .i64 0, .int .i64 0, .int .i64 0, .slice none 0 0, .int .i64 0] 31)
  have m0 := Mem.new w 31 #[.int .i64 0, .int .i64 0, .int .i64 0, .slice none 0 0, .int .i64 0]
  go_enter Try.func19, Try.ntmps19
  go_wp2_with (first
    | (go_at_call 21; (with_reducible refine (cw _).mono ?_); rintro e w1 ⟨rfl, b1⟩; have m1 := m0.below b1 m0.lt)
    | (refine wpList_store_row rfl 31 (.tmp 2) (.tmp 4) rfl w.heap.size #[.int .i64 2, .int .i64 5, .int .i64 c, .slice none 0 0, .int .i64 0] rfl rfl 31 #[.int .i64 0, .int .i64 0, .int .i64 0, .slice none 0 0, .int .i64 0] m1 (by kernel_rfl) (by kernel_rfl) (by kernel_rfl) ?_))
  have bW := b0.trans (b1.mono b0.size)
  refine bodyPost_ret ((results_cell1 (p := 2) (ty := 31) rfl _ _ w.heap.size 31 _ (0, 0) _ rfl (m1.row #[.int .i64 2, .int .i64 5, .int .i64 c, .slice none 0 0, .int .i64 0]) Try.underlying31 rfl (by kernel_rfl)).trans rfl) rfl ⟨rfl, below_setRow bW (Nat.le_refl _) _⟩
theorem good_any (v : Value) (l : List UInt8) (hl : l.length ≤ 100000) (w : World) (hv : Sl w w.heap.size v l.length (bs l)) : Calls Try.prog 24 #[v] w fun e w' => ∃ A c, e = .returned (.agg #[.int .i64 0, .int .i64 0, .int .i64 0, .slice A l.length c, .int .i64 0]) ∧ w'.ownsRow w.heap.size 5 1 (.slice A l.length c) l.length (bs l) ∧ Below w.heap.size w w' := by
  obtain ⟨i0, hi, hz0, hz1, hz2⟩ := info_parts info_u8
  obtain ⟨A, c, rfl, _, _⟩ := hv.form
  have b0 := (Below.refl _ w).alloc (Nat.le_refl _) (.cells #[.int .i64 0, .int .i64 0, .int .i64 0, .slice none 0 0, .int .i64 0] 31)
  have m0 := Mem.new w 31 #[.int .i64 0, .int .i64 0, .int .i64 0, .slice none 0 0, .int .i64 0]
  obtain ⟨w1, e1, m1, b1⟩ : ∃ w1, w1 = w.alloc (.cells #[.int .i64 0, .int .i64 0, .int .i64 0, .slice none 0 0, .int .i64 0] 31) ∧ Mem w1 w.heap.size 31 #[.int .i64 0, .int .i64 0, .int .i64 0, .slice none 0 0, .int .i64 0] ∧ Below w.heap.size w w1 := ⟨_, rfl, m0, b0⟩
  have hv1 := hv.now b1
  clear m0 b0
  go_enter Try.func24, Try.ntmps24
  go_upto_region 1 with (fail)
  rw [← e1]
  clear e1
  go_wp2_with (first
    | (at_builtin; (refine wpList_append_sl _ rfl (.const (.slice none 0 0)) (.tmp 3) _ rfl w1.heap.size 5 i0 _ Try.underlying23 hi hz0 hz1 (by omega) rfl (.slice none 0 0) 0 [] rfl (World.ownsRow_nil _ _ _ _) w1.heap.size (.slice A l.length c) l.length (bs l) rfl hv1 bs_one (by omega) (Nat.le_refl _) ?_); intro v6 w6 ho6 hg6 hat6; have b6 := (Below.refl _ w1).grown hg6 (Nat.le_refl _) (fun k hk => (by cases hk)); have m6 := m1.below b6 m1.lt; have ho6' : w6.ownsRow w1.heap.size 5 1 v6 l.length (bs l) := (by simpa using ho6); clear ho6; obtain ⟨A6, c6, rfl, _, _⟩ := own_form ho6')
    | (refine wpList_store_row rfl 31 (.tmp 2) (.tmp 5) rfl w.heap.size #[.int .i64 0, .int .i64 0, .int .i64 0, .slice A6 l.length c6, .int .i64 0] rfl rfl 31 #[.int .i64 0, .int .i64 0, .int .i64 0, .slice none 0 0, .int .i64 0] m6 (by kernel_rfl) (by kernel_rfl) (by kernel_rfl) ?_))
  have bW := b1.trans (b6.mono b1.size)
  have o6 := owns_eff ho6' (eff_setRow w6 w.heap.size #[.int .i64 0, .int .i64 0, .int .i64 0, .slice A6 l.length c6, .int .i64 0]) fun k hk e => (own_tag ho6' k hk).2.2.ne (mem_tag m6) (by decide) e
  refine bodyPost_ret ((results_cell1 (p := 2) (ty := 31) rfl _ _ w.heap.size 31 _ (0, 0) _ rfl (m6.row #[.int .i64 0, .int .i64 0, .int .i64 0, .slice A6 l.length c6, .int .i64 0]) Try.underlying31 rfl (by kernel_rfl)).trans rfl) rfl ⟨A6, c6, rfl, owns_mono o6 b1.size, below_setRow bW (Nat.le_refl _) _⟩
theorem allows_free (ht : TabM w Y t) (hh : t.holder = -1) (host kind : Int) : Calls Try.prog 22 #[.pointer (some ⟨Y, 0, none⟩), .int .i64 host, .int .i64 kind] w fun e w' => e = .returned (.bool true) ∧ w = w' := by
  have x8 := ht.c8
  rw [hh] at x8
  go_enter Try.func22, Try.ntmps22
  go_wp2
  go_ret
  exact ⟨rfl, rfl⟩
theorem att_none (hu : UnM w B Z X g h Y N D M t hs) (H : Nat) (hH : H < 8) {A : Option Addr} {c : Nat} (hw : hs[3 * H]? = some (.slice A 0 c)) : Calls Try.prog 20 #[.pointer (some ⟨Z, 0, none⟩), .int .i64 (H : Nat)] w fun e w' => e = .returned (.tuple #[.int .i64 0, .bool false]) ∧ w = w' := by
  have x0 : w.cell? ⟨Z, 2 + H * 3, none⟩ = some (.slice A 0 c) := by rw [hu.ch, Nat.mul_comm]; exact hw
  have hx : (H : Int) < 8 := by omega
  go_enter Try.func20, Try.ntmps20
  go_wp2
  go_ret2
  exact ⟨rfl, rfl⟩
end
end Un
end Go.Proofs.Ytflodljccloobaa
