/- Package cdb: Decode: contracts (bytes that are a command; too few). -/
import Derived.Test.YteeeioafhdkagaaCd4
namespace Go.Proofs.Yteeeioafhdkagaa
open Go.ChangeShapes Go.WideShapes Go.ChangeAt Go.RowKit
set_option linter.unusedVariables false
def putB (what v : Nat) : Bool := if what = 0 then (v == 0 || v == 8) else if what = 1 then decide (v ≤ 4611686018427387904) else true
theorem putB_ok {what v : Nat} (h : putB what v = true) : putOk what v := by
  unfold putB at h
  refine ⟨fun h0 => ?_, fun h1 => ?_⟩
  · rw [if_pos h0] at h; simpa using h
  · rw [if_neg (by omega), if_pos h1] at h; simpa using h
def putC (what v : Nat) (c : Nat × Nat × Nat × Bool) : Nat × Nat × Nat × Bool := (if what = 1 then v else c.1, if what = 2 then v else c.2.1, if what = 3 then v else c.2.2.1, if what = 0 then v == 8 else c.2.2.2)
/-- What bytes tell, from place i on. -/
def decGo (b : List UInt8) (L : List (Nat × Nat × Nat)) : Nat → Nat → (Nat × Nat × Nat × Bool) → Option (Nat × Nat × Nat × Bool)
  | 0, i, c => if 16 ≤ i then some c else none
  | fu + 1, i, c => if 16 ≤ i then some c else
    match L.find? (fun x => x.2.1 == i) with
    | some x => if putB x.1 (beVal ((b.drop x.2.1).take x.2.2)) = true then decGo b L fu (i + x.2.2) (putC x.1 (beVal ((b.drop x.2.1).take x.2.2)) c) else none
    | none => if b.getD i 0 = 0 then decGo b L fu (i + 1) c else none
theorem decGo_end {b : List UInt8} {L : List (Nat × Nat × Nat)} {fu i : Nat} {c r : Nat × Nat × Nat × Bool} (h : decGo b L fu i c = some r) (hi : 16 ≤ i) : c = r := by
  cases fu with
  | zero => unfold decGo at h; rw [if_pos hi] at h; exact Option.some.inj h
  | succ fu => unfold decGo at h; rw [if_pos hi] at h; exact Option.some.inj h
theorem decGo_field {b : List UInt8} {L : List (Nat × Nat × Nat)} {fu i : Nat} {c r : Nat × Nat × Nat × Bool} (h : decGo b L fu i c = some r) (hi : i < 16) {x : Nat × Nat × Nat} (hx : L.find? (fun x => x.2.1 == i) = some x) :
    putB x.1 (beVal ((b.drop x.2.1).take x.2.2)) = true ∧ ∃ fu', decGo b L fu' (i + x.2.2) (putC x.1 (beVal ((b.drop x.2.1).take x.2.2)) c) = some r := by
  cases fu with
  | zero => unfold decGo at h; rw [if_neg (by omega)] at h; cases h
  | succ fu =>
    unfold decGo at h
    rw [if_neg (by omega), hx] at h
    dsimp only at h
    split at h
    · exact ⟨by assumption, fu, h⟩
    · cases h
theorem decGo_zero {b : List UInt8} {L : List (Nat × Nat × Nat)} {fu i : Nat} {c r : Nat × Nat × Nat × Bool} (h : decGo b L fu i c = some r) (hi : i < 16) (hx : L.find? (fun x => x.2.1 == i) = none) :
    b.getD i 0 = 0 ∧ ∃ fu', decGo b L fu' (i + 1) c = some r := by
  cases fu with
  | zero => unfold decGo at h; rw [if_neg (by omega)] at h; cases h
  | succ fu =>
    unfold decGo at h
    rw [if_neg (by omega), hx] at h
    dsimp only at h
    split at h
    · exact ⟨by assumption, fu, h⟩
    · cases h
theorem find_some {L : List (Nat × Nat × Nat)} {i q : Nat} (h : q < L.length) (hq : ∀ p (hp : p < L.length), p < q → L[p].2.1 ≠ i) (he : L[q].2.1 = i) : L.find? (fun x => x.2.1 == i) = some L[q] := by
  rw [List.find?_eq_some_iff_getElem]
  refine ⟨by simpa using he, q, h, rfl, fun p hp => ?_⟩
  have := hq p (by omega) hp
  simpa using this
theorem find_none {L : List (Nat × Nat × Nat)} {i : Nat} (hq : ∀ p (hp : p < L.length), L[p].2.1 ≠ i) : L.find? (fun x => x.2.1 == i) = none := by
  rw [List.find?_eq_none]
  intro x hx
  obtain ⟨p, hp, rfl⟩ := List.getElem_of_mem hx
  simpa using hq p hp
theorem flS_fit (k : Int) : ∀ x ∈ flS k, x.1 ≤ 3 ∧ (x.1 ≠ 1 → x.2.2 ≤ 4) ∧ 1 ≤ x.2.1 ∧ 1 ≤ x.2.2 ∧ x.2.2 ≤ 8 ∧ x.2.1 + x.2.2 ≤ 16 := by
  unfold flS
  repeat (first | (split; · simp) | simp)
theorem flS_len (k : Int) : (flS k).length ≤ 3 := by
  unfold flS
  repeat (first | (split; · simp) | simp)
/-- An empty reply that lies in a block. -/
def ReplyAt (w : World) (B : Nat) : Prop := w.heap[B]? = some (.cells #[.int .i64 0, .int .i64 0, .int .i64 0, .slice none 0 0, .int .i64 0] 35 (0, 0))
theorem ReplyAt.frozen {w : World} {B : Nat} (h : ReplyAt w B) (j : Nat) : w.frozen? ⟨B, j, none⟩ = false := frozen_of_row w B j _ _ h
theorem ReplyAt.cells {w : World} {B : Nat} (h : ReplyAt w B) : w.cell? ⟨B, 0, none⟩ = some (.int .i64 0) ∧ w.cell? ⟨B, 1, none⟩ = some (.int .i64 0) ∧ w.cell? ⟨B, 2, none⟩ = some (.int .i64 0) ∧ w.cell? ⟨B, 3, none⟩ = some (.slice none 0 0) ∧ w.cell? ⟨B, 4, none⟩ = some (.int .i64 0) :=
  ⟨cell_of_row w B 0 _ _ (0, 0) h, cell_of_row w B 1 _ _ (0, 0) h, cell_of_row w B 2 _ _ (0, 0) h, cell_of_row w B 3 _ _ (0, 0) h, cell_of_row w B 4 _ _ (0, 0) h⟩
/-- A command and an empty reply laid into two blocks. -/
def storeCR (w : World) (R : Nat) (k a n t : Int) (f : Bool) : World :=
  (((((((((((((w.setCell ⟨R, 0, none⟩ (.int .i64 k)).setCell ⟨R, 1, none⟩ (.int .i64 a)).setCell ⟨R, 2, none⟩ (.int .i64 n)).setCell ⟨R, 3, none⟩ (.slice none 0 0)).setCell ⟨R, 4, none⟩ (.int .u64 0)).setCell ⟨R, 5, none⟩ (.int .u64 0)).setCell ⟨R, 6, none⟩ (.int .i64 t)).setCell ⟨R, 7, none⟩ (.bool f)).setCell
    ⟨R + 1, 0, none⟩ (.int .i64 0)).setCell ⟨R + 1, 1, none⟩ (.int .i64 0)).setCell ⟨R + 1, 2, none⟩ (.int .i64 0)).setCell ⟨R + 1, 3, none⟩ (.slice none 0 0)).setCell ⟨R + 1, 4, none⟩ (.int .i64 0))
theorem storeCR_is {w : World} {R : Nat} (k a n t : Int) (f : Bool) (h1 : CmdAt w R 0 0 0 0 false) (h2 : ReplyAt w (R + 1)) : CmdAt (storeCR w R k a n t f) R k a n t f ∧ ReplyAt (storeCR w R k a n t f) (R + 1) ∧ (∀ u, Below R u w → Below R u (storeCR w R k a n t f)) := by
  have ho : ∀ (u : World) (j : Nat) (x : Value) (i : Nat), i ≠ R + 1 → (u.setCell ⟨R + 1, j, none⟩ x).heap[i]? = u.heap[i]? := fun u j x i hi => Below.heap_setCell u ⟨R + 1, j, none⟩ x i hi
  have ho' : ∀ (u : World) (j : Nat) (x : Value) (i : Nat), i ≠ R → (u.setCell ⟨R, j, none⟩ x).heap[i]? = u.heap[i]? := fun u j x i hi => Below.heap_setCell u ⟨R, j, none⟩ x i hi
  refine ⟨?_, ?_, fun u h => ?_⟩
  · unfold CmdAt storeCR
    rw [ho _ _ _ _ (by omega), ho _ _ _ _ (by omega), ho _ _ _ _ (by omega), ho _ _ _ _ (by omega), ho _ _ _ _ (by omega)]
    have a0 := heap_setCell_same w R 0 _ _ (.int .i64 k) h1
    have a1 := heap_setCell_same _ R 1 _ _ (.int .i64 a) a0
    have a2 := heap_setCell_same _ R 2 _ _ (.int .i64 n) a1
    have a3 := heap_setCell_same _ R 3 _ _ (.slice none 0 0) a2
    have a4 := heap_setCell_same _ R 4 _ _ (.int .u64 0) a3
    have a5 := heap_setCell_same _ R 5 _ _ (.int .u64 0) a4
    have a6 := heap_setCell_same _ R 6 _ _ (.int .i64 t) a5
    have a7 := heap_setCell_same _ R 7 _ _ (.bool f) a6
    rw [a7]
    simp
  · unfold ReplyAt storeCR
    generalize hW : (((((((w.setCell ⟨R, 0, none⟩ (.int .i64 k)).setCell ⟨R, 1, none⟩ (.int .i64 a)).setCell ⟨R, 2, none⟩ (.int .i64 n)).setCell ⟨R, 3, none⟩ (.slice none 0 0)).setCell ⟨R, 4, none⟩ (.int .u64 0)).setCell ⟨R, 5, none⟩ (.int .u64 0)).setCell ⟨R, 6, none⟩ (.int .i64 t)).setCell ⟨R, 7, none⟩ (.bool f) = W
    have h3 : W.heap[R + 1]? = some (.cells #[.int .i64 0, .int .i64 0, .int .i64 0, .slice none 0 0, .int .i64 0] 35 (0, 0)) := by
      rw [← hW, ho' _ _ _ _ (by omega), ho' _ _ _ _ (by omega), ho' _ _ _ _ (by omega), ho' _ _ _ _ (by omega), ho' _ _ _ _ (by omega), ho' _ _ _ _ (by omega), ho' _ _ _ _ (by omega), ho' _ _ _ _ (by omega)]
      exact h2
    have a0 := heap_setCell_same W (R + 1) 0 _ _ (.int .i64 0) h3
    have a1 := heap_setCell_same _ (R + 1) 1 _ _ (.int .i64 0) a0
    have a2 := heap_setCell_same _ (R + 1) 2 _ _ (.int .i64 0) a1
    have a3 := heap_setCell_same _ (R + 1) 3 _ _ (.slice none 0 0) a2
    have a4 := heap_setCell_same _ (R + 1) 4 _ _ (.int .i64 0) a3
    rw [a4]
    simp
  · unfold storeCR
    exact (((((((((((((h.setCell (p := ⟨R, 0, none⟩) (Nat.le_refl _) _).setCell (p := ⟨R, 1, none⟩) (Nat.le_refl _) _).setCell (p := ⟨R, 2, none⟩) (Nat.le_refl _) _).setCell (p := ⟨R, 3, none⟩) (Nat.le_refl _) _).setCell (p := ⟨R, 4, none⟩) (Nat.le_refl _) _).setCell (p := ⟨R, 5, none⟩) (Nat.le_refl _) _).setCell (p := ⟨R, 6, none⟩) (Nat.le_refl _) _).setCell (p := ⟨R, 7, none⟩) (Nat.le_refl _) _).setCell
      (p := ⟨R + 1, 0, none⟩) (Nat.le_succ _) _).setCell (p := ⟨R + 1, 1, none⟩) (Nat.le_succ _) _).setCell (p := ⟨R + 1, 2, none⟩) (Nat.le_succ _) _).setCell (p := ⟨R + 1, 3, none⟩) (Nat.le_succ _) _).setCell (p := ⟨R + 1, 4, none⟩) (Nat.le_succ _) _)
theorem wrong_at (c : Int) (w : World) : Calls Try.prog 32 #[.int .i64 c] w fun e w' => e = .returned (.agg #[.int .i64 2, .int .i64 5, .int .i64 c, .slice none 0 0, .int .i64 0]) ∧ w' = w.alloc (.cells #[.int .i64 2, .int .i64 5, .int .i64 c, .slice none 0 0, .int .i64 0] 35) := by
  go_enter Try.func32, Try.ntmps32
  go_wp2
  exact bodyPost_ret (v := .agg #[.int .i64 2, .int .i64 5, .int .i64 c, .slice none 0 0, .int .i64 0]) (by simp [results, Try.results32, go_sem]) rfl ⟨rfl, rfl⟩
theorem Decode_short (v : Value) (b : List UInt8) (w : World) (hv : Sl w w.heap.size v b.length (bs b)) (hb : b.length < 16) :
    Calls Try.prog 13 #[v] w fun e w' => e = .returned (.tuple #[cmdV 0 0 0 0 false, .agg #[.int .i64 2, .int .i64 5, .int .i64 8192, .slice none 0 0, .int .i64 0], .bool false]) ∧ Below w.heap.size w w' := by
  obtain ⟨A, c, rfl, hc1, hc2⟩ := hv.form
  have hw := wrong_at 8192
  have h16 : (b.length : Int) < 16 := by omega
  go_enter Try.func13, Try.ntmps13
  go_wp2
  go_step3
  go_wp2_with (go_at_call 32; with_reducible refine (hw _).mono ?_; rintro e w1 ⟨rfl, rfl⟩)
  rw [Exit.noGoto_ret]
  refine bodyPost_ret (v := .tuple #[cmdV 0 0 0 0 false, .agg #[.int .i64 2, .int .i64 5, .int .i64 8192, .slice none 0 0, .int .i64 0], .bool false]) ?_ rfl ⟨rfl, (((Below.refl _ _).alloc (Nat.le_refl _) _).alloc (by simp) _).alloc (by simp; omega) _⟩
  simp [results, Try.results13, asAddr, cmdV, go_sem]
set_option maxHeartbeats 4000000 in
theorem Decode_ok (v : Value) (b : List UInt8) (k a n t : Nat) (f : Bool) (w : World) (hv : Sl w w.heap.size v 16 (bs b)) (hb : b.length = 16) (hk : kindS (b.getD 0 0).toNat (b.getD 1 0).toNat = k) (hk0 : k ≠ 0)
    (hd : ∃ fu, decGo b (flS k) fu (if (hdS k).2.2.1 then 2 else 1) (0, 0, 0, false) = some (a, n, t, f)) :
    Calls Try.prog 13 #[v] w fun e w' => e = .returned (.tuple #[cmdV k a n t f, .agg #[.int .i64 0, .int .i64 0, .int .i64 0, .slice none 0 0, .int .i64 0], .bool true]) ∧ Below w.heap.size w w' := by
  obtain ⟨A, c, rfl, hc1, hc2⟩ := hv.form
  unfold maxLen at hc2
  obtain ⟨bA, oA, rfl, hbA, hcA⟩ := hv.at_ (by omega)
  have hby : ∀ i, i < 16 → w.cell? ⟨bA, oA + i, none⟩ = some (.int .u8 ((b.getD i 0).toNat : Int)) := by
    intro i hi
    have h1 : i < b.length := by omega
    have e2 : b.getD i 0 = b[i] := by simp [List.getD, h1]
    rw [e2]
    exact hcA i _ (bs_get h1)
  have hb0 := hby 0 (by omega)
  have hb1 := hby 1 (by omega)
  rw [Nat.add_zero] at hb0
  have hko := kindOf_any (b.getD 0 0).toNat (b.getD 1 0).toNat
  rw [hk] at hko
  generalize (b.getD 0 0).toNat = x0 at *
  generalize (b.getD 1 0).toNat = x1 at *
  have hfd := fields_any (k : Int)
  have hh := head_any (k : Int)
  have hfit := flS_fit (k : Int)
  have hflen := flS_len (k : Int)
  obtain ⟨⟨op, sec, part, ok⟩, hhd⟩ : ∃ x, hdS (k : Int) = x := ⟨_, rfl⟩
  rw [hhd] at hd hh
  dsimp only at hd
  generalize flS (k : Int) = L at *
  have hk0' : ((k : Int) == 0) = false := by rw [beq_eq_false_iff_ne]; omega
  clear hhd hcA hk
  obtain ⟨fu0, hd⟩ := hd
  cases part
  · rw [if_neg (by decide)] at hd
    go_enter Try.func13, Try.ntmps13
    go_wp2
    have h1 : CmdAt ((w.alloc (.cells #[.int .i64 0, .int .i64 0, .int .i64 0, .slice none 0 0, .int .u64 0, .int .u64 0, .int .i64 0, .bool false] 27)).alloc (.cells #[.int .i64 0, .int .i64 0, .int .i64 0, .slice none 0 0, .int .i64 0] 35)) w.heap.size 0 0 0 0 false := CmdAt.alloc (heap_alloc_new w _) _
    have h2 : ReplyAt ((w.alloc (.cells #[.int .i64 0, .int .i64 0, .int .i64 0, .slice none 0 0, .int .u64 0, .int .u64 0, .int .i64 0, .bool false] 27)).alloc (.cells #[.int .i64 0, .int .i64 0, .int .i64 0, .slice none 0 0, .int .i64 0] 35)) (w.heap.size + 1) := by
      have h := heap_alloc_new (w.alloc (.cells #[.int .i64 0, .int .i64 0, .int .i64 0, .slice none 0 0, .int .u64 0, .int .u64 0, .int .i64 0, .bool false] 27)) (.cells #[.int .i64 0, .int .i64 0, .int .i64 0, .slice none 0 0, .int .i64 0] 35)
      rw [show (w.alloc (.cells #[.int .i64 0, .int .i64 0, .int .i64 0, .slice none 0 0, .int .u64 0, .int .u64 0, .int .i64 0, .bool false] 27)).heap.size = w.heap.size + 1 by simp] at h
      exact h
    have h3 : Below w.heap.size w ((w.alloc (.cells #[.int .i64 0, .int .i64 0, .int .i64 0, .slice none 0 0, .int .u64 0, .int .u64 0, .int .i64 0, .bool false] 27)).alloc (.cells #[.int .i64 0, .int .i64 0, .int .i64 0, .slice none 0 0, .int .i64 0] 35)) := ((Below.refl _ _).alloc (Nat.le_refl _) _).alloc (by simp) _
    generalize (w.alloc (.cells #[.int .i64 0, .int .i64 0, .int .i64 0, .slice none 0 0, .int .u64 0, .int .u64 0, .int .i64 0, .bool false] 27)).alloc (.cells #[.int .i64 0, .int .i64 0, .int .i64 0, .slice none 0 0, .int .i64 0] 35) = w2 at *
    have q0 := (h3.cell (p := ⟨bA, oA, none⟩) hbA).trans hb0
    have q1 := (h3.cell (p := ⟨bA, oA + 1, none⟩) hbA).trans hb1
    have hcap : (1 : Int) < c := by omega
    go_step3
    go_wp2_with fail
    go_quiet (exact Calls.quiet_of_same ((hko _).mono fun _ _ h => ⟨h.1, h.2.symm⟩))
    have h1 : CmdAt (w2.drewN nq) w.heap.size 0 0 0 0 false := h1
    have h2 : ReplyAt (w2.drewN nq) (w.heap.size + 1) := h2
    have h3 := below_drewN h3 nq
    generalize w2.drewN nq = w3 at *
    have hR2 : w.heap.size + 1 < w3.heap.size := (Array.getElem?_eq_some_iff.1 h2).1
    have hal : Below w3.heap.size w3 (w3.alloc (.cells #[.int .i64 (k : Nat), .int .i64 0, .int .i64 0, .slice none 0 0, .int .u64 0, .int .u64 0, .int .i64 0, .bool false] 27)) := (Below.refl _ _).alloc (Nat.le_refl _) _
    have hcm : CmdAt (w3.alloc (.cells #[.int .i64 (k : Nat), .int .i64 0, .int .i64 0, .slice none 0 0, .int .u64 0, .int .u64 0, .int .i64 0, .bool false] 27)) w3.heap.size k 0 0 0 false := heap_alloc_new w3 _
    have hsz : w3.heap.size < (w3.alloc (.cells #[.int .i64 (k : Nat), .int .i64 0, .int .i64 0, .slice none 0 0, .int .u64 0, .int .u64 0, .int .i64 0, .bool false] 27)).heap.size := by simp
    have HSZ := Lib.hid hsz
    clear hsz
    go_wp2_with (first
      | (go_at_call 29; with_reducible refine (hfd _).mono ?_; rintro e w4 ⟨vf, rfl, hfs, hfr, hb4⟩; obtain ⟨Af, cf, rfl, hc3, hc4⟩ := hfs.form
         have hcm4 : CmdAt w4 w3.heap.size k 0 0 0 false := (hb4.block _ HSZ.out).trans hcm
         have hb34 := hal.trans (hb4.mono hal.size))
      | (go_at_call 28; with_reducible refine (hh _).mono ?_; rintro e w5 ⟨rfl, rfl⟩; unfold hdV))
    have g1 : CmdAt w4 w.heap.size 0 0 0 0 false := (hb34.block _ (by omega)).trans h1
    have g2 : ReplyAt w4 (w.heap.size + 1) := (hb34.block _ (by omega)).trans h2
    have hB4 : Below w.heap.size w w4 := h3.trans (hb34.mono (by omega))
    have hfr' : ∀ A' n' c', (Value.slice Af L.length cf) = .slice (some A') n' c' → A'.block ≠ w3.heap.size := by
      intro A' n' c' h
      have h5 := hfr A' n' c' h
      have h6 := HSZ.out
      omega
    have hby4 : ∀ i, i < 16 → w4.cell? ⟨bA, oA + i, none⟩ = some (.int .u8 ((b.getD i 0).toNat : Int)) := fun i hi => (hB4.cell (p := ⟨bA, oA + i, none⟩) hbA).trans (hby i hi)
    have hv4 := hv.below hB4
    have hBs : w3.heap.size < w4.heap.size := (Array.getElem?_eq_some_iff.1 hcm4).1
    clear hby hv hfr HSZ hcm hal h1 h2 h3 hb4 hb34 q0 q1 hb0 hb1 hfd hh hko hcap
    generalize w3.heap.size = B6 at *
    go_step3
    go_wp2
    go_loopw [13] (fun i wr => ∃ (j : Nat) (cc : Nat × Nat × Nat × Bool) (fu : Nat), i = .int .i64 j ∧ j ≤ 16 ∧ decGo b L fu j cc = some (a, n, t, f) ∧ CmdAt wr B6 k cc.1 cc.2.1 cc.2.2.1 cc.2.2.2 ∧ Keeps B6 w4 wr) (fun i _ => 16 - (intOf i).toNat)
    case atStart => exact ⟨1, (0, 0, 0, false), fu0, rfl, by omega, hd, hcm4, Keeps.refl _ _⟩
    case round =>
      obtain ⟨j, ⟨a1, n1, t1, f1⟩, fu, rfl, hj, hgo, hcr, hkp⟩ := hrel
      dsimp only at hcr
      generalize wr = wo at *
      by_cases hlt : j < 16
      · have hltZ : (j : Int) < 16 := by omega
        have hBr : B6 < wo.heap.size := (Array.getElem?_eq_some_iff.1 hcr).1
        go_wp2_with fail
        go_loopw [13, 51] (fun iv i wi => ∃ q : Nat, iv = .int .i64 (j : Nat) ∧ i = .int .i64 q ∧ q ≤ L.length ∧ (∀ p (hp : p < L.length), p < q → L[p].2.1 ≠ j) ∧ Below wo.heap.size wo wi) (fun _ i _ => L.length - (intOf i).toNat)
        case atStart => exact ⟨0, rfl, rfl, Nat.zero_le _, fun p _ h => by omega, Below.refl _ _⟩
        case round =>
          obtain ⟨q, rfl, rfl, hq, hno, hbi⟩ := hrel
          have hci : CmdAt wr B6 k a1 n1 t1 f1 := (hbi.block _ hBr).trans hcr
          have hki : Keeps B6 w4 wr := hkp.trans (Keeps.of hbi)
          by_cases hql : q < L.length
          · have hqZ : (q : Int) < L.length := by omega
            obtain ⟨bf, rfl, hbf, hcell⟩ := hfs.at_ (by omega)
            have hbfne : bf ≠ B6 := hfr' _ _ _ rfl
            obtain ⟨hx0, hx1, hx2⟩ := hcell q hql
            have hy0 := (hki.cell (p := ⟨bf, q * 3, none⟩) hbf hbfne).trans hx0
            have hy1 := (hki.cell (p := ⟨bf, q * 3 + 1, none⟩) hbf hbfne).trans hx1
            have hy2 := (hki.cell (p := ⟨bf, q * 3 + 2, none⟩) hbf hbfne).trans hx2
            have hfx := hfit _ (List.getElem_mem hql)
            have hfs1 := fun h => find_some (i := j) hql hno h
            have hno1 : L[q].2.1 ≠ j → ∀ p (hp : p < L.length), p < q + 1 → L[p].2.1 ≠ j := by
              intro h p hp h2
              rcases Nat.lt_or_ge p q with h3 | h3
              · exact hno p hp h3
              · obtain rfl : p = q := by omega
                exact h
            generalize L[q] = x at *
            obtain ⟨what, at_, m⟩ := x
            dsimp only at hx0 hx1 hx2 hy0 hy1 hy2 hfx hfs1 hno1
            clear hcell hx0 hx1 hx2
            by_cases hat : at_ = j
            · subst hat
              obtain ⟨hpb, fu', hgo'⟩ := decGo_field hgo hlt (hfs1 rfl)
              dsimp only at hpb hgo'
              have hbe8 : beVal ((b.drop at_).take m) < 9223372036854775808 := by
                by_cases hw1 : what = 1
                · have := (putB_ok hpb).2 hw1; omega
                · have h4 := hfx.2.1 hw1
                  have h5 := beVal_lt' m ((b.drop at_).take m) (by rw [List.length_take, List.length_drop]; omega)
                  have h6 : 256 ^ m ≤ 256 ^ 4 := Nat.pow_le_pow_right (by omega) h4
                  omega
              have hvw : Sl wr wr.heap.size (.slice (some ⟨bA, oA, none⟩) 16 c) b.length (bs b) := by
                rw [hb]
                exact (hv4.keep (w' := wr) (fun b' o h => hki.cell (p := ⟨b', o, none⟩) (Nat.lt_of_lt_of_le h hB4.size) (by show b' ≠ B6; omega))).more (Nat.le_trans hB4.size hki.size)
              have hgt := fun W (hW : Below wr.heap.size wr W) => get_b _ b (at_ : Nat) (m : Nat) at_ m rfl rfl W (hvw.now hW) (by rw [hb]; omega) (by omega) (by omega) (by rw [hb]; omega)
              have hgt1 := fun o => hgt (wr.alloc o) ((Below.refl _ _).alloc (Nat.le_refl _) o)
              have hpt := fun o => cput_any B6 k a1 n1 t1 f1 what at_ m _ (by omega) (putB_ok hpb) hbe8 (wr.alloc o) (hci.alloc o)
              have hBwr : B6 < wr.heap.size := (Array.getElem?_eq_some_iff.1 hci).1
              have HG := Lib.hid hgo'
              have HKI := Lib.hid hki
              generalize beVal ((b.drop at_).take m) = V at *
              have hwm : IntKind.i64.wrap ((at_ : Int) + m) = (at_ : Int) + m := IntWalk.i64_in _ (by omega)
              clear hgt hfs1 hno1 hno hby4 hcr hgo hgo' hci hki hpb
              go_wp2_with (first
                | (go_at_call 34; with_reducible refine (hgt1 _).mono ?_; rintro e w5 ⟨rfl, rfl⟩)
                | (go_at_call 35; with_reducible refine (hpt _).mono ?_; rintro e w6 ⟨rfl, hc6, hk6⟩
                   have hbx := (hk6.cell (p := ⟨wr.heap.size, 2, none⟩) (by simp) (by show wr.heap.size ≠ B6; omega)).trans (cell_of_row _ _ 2 _ _ (0, 0) (heap_alloc_new wr _))
                   have hbx : w6.cell? ⟨wr.heap.size, 2, none⟩ = some (.int .i64 (m : Nat)) := hbx))
              refine ⟨⟨at_ + m, putC what V (a1, n1, t1, f1), fu', by go_num, by omega, HG.out, ?_, HKI.out.trans ((Keeps.of ((Below.refl _ _).alloc (Nat.le_refl _) _)).trans hk6)⟩, by simp [intOf]; omega⟩
              have e1 : (if what = 1 then (V : Int) else (a1 : Int)) = ((if what = 1 then V else a1 : Nat) : Int) := by split <;> rfl
              have e2 : (if what = 2 then (V : Int) else (n1 : Int)) = ((if what = 2 then V else n1 : Nat) : Int) := by split <;> rfl
              have e3 : (if what = 3 then (V : Int) else (t1 : Int)) = ((if what = 3 then V else t1 : Nat) : Int) := by split <;> rfl
              rw [e1, e2, e3] at hc6
              exact hc6
            · have hatZ : ¬ (at_ : Int) = j := by omega
              have hno2 := hno1 hat
              clear hfs1 hno1 hno
              go_wp2_with fail
              refine ⟨⟨q + 1, rfl, by go_num, by omega, hno2, hbi.alloc hbi.size _⟩, by simp [intOf]; omega⟩
          · obtain rfl : q = L.length := by omega
            have hfn := find_none (L := L) (i := j) (fun p hp => hno p hp hp)
            obtain ⟨hz, fu', hgo'⟩ := decGo_zero hgo hlt hfn
            have hbz := (hki.cell (p := ⟨bA, oA + j, none⟩) (Nat.lt_of_lt_of_le hbA hB4.size) (by show bA ≠ B6; omega)).trans (hby4 j hlt)
            rw [hz] at hbz
            have hbz : wr.cell? ⟨bA, oA + j, none⟩ = some (.int .u8 0) := hbz
            have hcZ : (j : Int) < c := by omega
            clear hno hfn hby4
            go_wp2_with fail
            exact ⟨⟨j + 1, (a1, n1, t1, f1), fu', by go_num, by omega, hgo', hci, hki⟩, by simp [intOf]; omega⟩
      · obtain rfl : j = 16 := by omega
        have he := decGo_end hgo (Nat.le_refl _)
        obtain ⟨rfl, rfl, rfl, rfl⟩ : a1 = a ∧ n1 = n ∧ t1 = t ∧ f1 = f := by simpa using he
        obtain ⟨k0, k1, k2, k3, k4, k5, k6, k7⟩ := hcr.cells
        have d1 : CmdAt wo w.heap.size 0 0 0 0 false := (hkp.block _ (by omega) (by omega)).trans g1
        have d2 : ReplyAt wo (w.heap.size + 1) := (hkp.block _ (by omega) (by omega)).trans g2
        obtain ⟨r0, r1, r2, r3, r4, r5, r6, r7⟩ := d1.cells
        obtain ⟨s0, s1, s2, s3, s4⟩ := d2.cells
        have fr1 := d1.frozen
        have fr2 := d2.frozen
        have hn1 : ¬ w.heap.size = B6 := by omega
        have hn2 : ¬ w.heap.size + 1 = B6 := by omega
        have hbe : Below w.heap.size w wo := hB4.trans (hkp.below (by omega) (by omega))
        have HST := Lib.hid (storeCR_is k a1 n1 t1 f1 d1 d2)
        clear hcr d1 d2 g1 g2 hby4 hv4 hfs hfit hfr' hcm4 hgo he
        go_wp2_with fail
        rw [Exit.noGoto_ret]
        change bodyPost _ _ _ _ _ (storeCR wo w.heap.size k a1 n1 t1 f1)
        obtain ⟨e1, e2, e3⟩ := HST.out
        have e3 := e3 _ hbe
        clear HST r0 r1 r2 r3 r4 r5 r6 r7 s0 s1 s2 s3 s4 fr1 fr2 k0 k1 k2 k3 k4 k5 k6 k7
        generalize storeCR wo w.heap.size k a1 n1 t1 f1 = W at *
        obtain ⟨r0, r1, r2, r3, r4, r5, r6, r7⟩ := e1.cells
        obtain ⟨s0, s1, s2, s3, s4⟩ := e2.cells
        refine bodyPost_ret (v := .tuple #[cmdV k a1 n1 t1 f1, .agg #[.int .i64 0, .int .i64 0, .int .i64 0, .slice none 0 0, .int .i64 0], .bool true]) ?_ rfl ⟨rfl, e3⟩
        simp [results, Try.results13, asAddr, cmdV, go_sem, r0, r1, r2, r3, r4, r5, r6, r7, s0, s1, s2, s3, s4]
  · rw [if_pos rfl] at hd
    go_enter Try.func13, Try.ntmps13
    go_wp2
    have h1 : CmdAt ((w.alloc (.cells #[.int .i64 0, .int .i64 0, .int .i64 0, .slice none 0 0, .int .u64 0, .int .u64 0, .int .i64 0, .bool false] 27)).alloc (.cells #[.int .i64 0, .int .i64 0, .int .i64 0, .slice none 0 0, .int .i64 0] 35)) w.heap.size 0 0 0 0 false := CmdAt.alloc (heap_alloc_new w _) _
    have h2 : ReplyAt ((w.alloc (.cells #[.int .i64 0, .int .i64 0, .int .i64 0, .slice none 0 0, .int .u64 0, .int .u64 0, .int .i64 0, .bool false] 27)).alloc (.cells #[.int .i64 0, .int .i64 0, .int .i64 0, .slice none 0 0, .int .i64 0] 35)) (w.heap.size + 1) := by
      have h := heap_alloc_new (w.alloc (.cells #[.int .i64 0, .int .i64 0, .int .i64 0, .slice none 0 0, .int .u64 0, .int .u64 0, .int .i64 0, .bool false] 27)) (.cells #[.int .i64 0, .int .i64 0, .int .i64 0, .slice none 0 0, .int .i64 0] 35)
      rw [show (w.alloc (.cells #[.int .i64 0, .int .i64 0, .int .i64 0, .slice none 0 0, .int .u64 0, .int .u64 0, .int .i64 0, .bool false] 27)).heap.size = w.heap.size + 1 by simp] at h
      exact h
    have h3 : Below w.heap.size w ((w.alloc (.cells #[.int .i64 0, .int .i64 0, .int .i64 0, .slice none 0 0, .int .u64 0, .int .u64 0, .int .i64 0, .bool false] 27)).alloc (.cells #[.int .i64 0, .int .i64 0, .int .i64 0, .slice none 0 0, .int .i64 0] 35)) := ((Below.refl _ _).alloc (Nat.le_refl _) _).alloc (by simp) _
    generalize (w.alloc (.cells #[.int .i64 0, .int .i64 0, .int .i64 0, .slice none 0 0, .int .u64 0, .int .u64 0, .int .i64 0, .bool false] 27)).alloc (.cells #[.int .i64 0, .int .i64 0, .int .i64 0, .slice none 0 0, .int .i64 0] 35) = w2 at *
    have q0 := (h3.cell (p := ⟨bA, oA, none⟩) hbA).trans hb0
    have q1 := (h3.cell (p := ⟨bA, oA + 1, none⟩) hbA).trans hb1
    have hcap : (1 : Int) < c := by omega
    go_step3
    go_wp2_with fail
    go_quiet (exact Calls.quiet_of_same ((hko _).mono fun _ _ h => ⟨h.1, h.2.symm⟩))
    have h1 : CmdAt (w2.drewN nq) w.heap.size 0 0 0 0 false := h1
    have h2 : ReplyAt (w2.drewN nq) (w.heap.size + 1) := h2
    have h3 := below_drewN h3 nq
    generalize w2.drewN nq = w3 at *
    have hR2 : w.heap.size + 1 < w3.heap.size := (Array.getElem?_eq_some_iff.1 h2).1
    have hal : Below w3.heap.size w3 (w3.alloc (.cells #[.int .i64 (k : Nat), .int .i64 0, .int .i64 0, .slice none 0 0, .int .u64 0, .int .u64 0, .int .i64 0, .bool false] 27)) := (Below.refl _ _).alloc (Nat.le_refl _) _
    have hcm : CmdAt (w3.alloc (.cells #[.int .i64 (k : Nat), .int .i64 0, .int .i64 0, .slice none 0 0, .int .u64 0, .int .u64 0, .int .i64 0, .bool false] 27)) w3.heap.size k 0 0 0 false := heap_alloc_new w3 _
    have hsz : w3.heap.size < (w3.alloc (.cells #[.int .i64 (k : Nat), .int .i64 0, .int .i64 0, .slice none 0 0, .int .u64 0, .int .u64 0, .int .i64 0, .bool false] 27)).heap.size := by simp
    have HSZ := Lib.hid hsz
    clear hsz
    go_wp2_with (first
      | (go_at_call 29; with_reducible refine (hfd _).mono ?_; rintro e w4 ⟨vf, rfl, hfs, hfr, hb4⟩; obtain ⟨Af, cf, rfl, hc3, hc4⟩ := hfs.form
         have hcm4 : CmdAt w4 w3.heap.size k 0 0 0 false := (hb4.block _ HSZ.out).trans hcm
         have hb34 := hal.trans (hb4.mono hal.size))
      | (go_at_call 28; with_reducible refine (hh _).mono ?_; rintro e w5 ⟨rfl, rfl⟩; unfold hdV))
    have g1 : CmdAt w4 w.heap.size 0 0 0 0 false := (hb34.block _ (by omega)).trans h1
    have g2 : ReplyAt w4 (w.heap.size + 1) := (hb34.block _ (by omega)).trans h2
    have hB4 : Below w.heap.size w w4 := h3.trans (hb34.mono (by omega))
    have hfr' : ∀ A' n' c', (Value.slice Af L.length cf) = .slice (some A') n' c' → A'.block ≠ w3.heap.size := by
      intro A' n' c' h
      have h5 := hfr A' n' c' h
      have h6 := HSZ.out
      omega
    have hby4 : ∀ i, i < 16 → w4.cell? ⟨bA, oA + i, none⟩ = some (.int .u8 ((b.getD i 0).toNat : Int)) := fun i hi => (hB4.cell (p := ⟨bA, oA + i, none⟩) hbA).trans (hby i hi)
    have hv4 := hv.below hB4
    have hBs : w3.heap.size < w4.heap.size := (Array.getElem?_eq_some_iff.1 hcm4).1
    clear hby hv hfr HSZ hcm hal h1 h2 h3 hb4 hb34 q0 q1 hb0 hb1 hfd hh hko hcap
    generalize w3.heap.size = B6 at *
    go_step3
    go_wp2
    go_loopw [13] (fun i wr => ∃ (j : Nat) (cc : Nat × Nat × Nat × Bool) (fu : Nat), i = .int .i64 j ∧ j ≤ 16 ∧ decGo b L fu j cc = some (a, n, t, f) ∧ CmdAt wr B6 k cc.1 cc.2.1 cc.2.2.1 cc.2.2.2 ∧ Keeps B6 w4 wr) (fun i _ => 16 - (intOf i).toNat)
    case atStart => exact ⟨2, (0, 0, 0, false), fu0, rfl, by omega, hd, hcm4, Keeps.refl _ _⟩
    case round =>
      obtain ⟨j, ⟨a1, n1, t1, f1⟩, fu, rfl, hj, hgo, hcr, hkp⟩ := hrel
      dsimp only at hcr
      generalize wr = wo at *
      by_cases hlt : j < 16
      · have hltZ : (j : Int) < 16 := by omega
        have hBr : B6 < wo.heap.size := (Array.getElem?_eq_some_iff.1 hcr).1
        go_wp2_with fail
        go_loopw [13, 51] (fun iv i wi => ∃ q : Nat, iv = .int .i64 (j : Nat) ∧ i = .int .i64 q ∧ q ≤ L.length ∧ (∀ p (hp : p < L.length), p < q → L[p].2.1 ≠ j) ∧ Below wo.heap.size wo wi) (fun _ i _ => L.length - (intOf i).toNat)
        case atStart => exact ⟨0, rfl, rfl, Nat.zero_le _, fun p _ h => by omega, Below.refl _ _⟩
        case round =>
          obtain ⟨q, rfl, rfl, hq, hno, hbi⟩ := hrel
          have hci : CmdAt wr B6 k a1 n1 t1 f1 := (hbi.block _ hBr).trans hcr
          have hki : Keeps B6 w4 wr := hkp.trans (Keeps.of hbi)
          by_cases hql : q < L.length
          · have hqZ : (q : Int) < L.length := by omega
            obtain ⟨bf, rfl, hbf, hcell⟩ := hfs.at_ (by omega)
            have hbfne : bf ≠ B6 := hfr' _ _ _ rfl
            obtain ⟨hx0, hx1, hx2⟩ := hcell q hql
            have hy0 := (hki.cell (p := ⟨bf, q * 3, none⟩) hbf hbfne).trans hx0
            have hy1 := (hki.cell (p := ⟨bf, q * 3 + 1, none⟩) hbf hbfne).trans hx1
            have hy2 := (hki.cell (p := ⟨bf, q * 3 + 2, none⟩) hbf hbfne).trans hx2
            have hfx := hfit _ (List.getElem_mem hql)
            have hfs1 := fun h => find_some (i := j) hql hno h
            have hno1 : L[q].2.1 ≠ j → ∀ p (hp : p < L.length), p < q + 1 → L[p].2.1 ≠ j := by
              intro h p hp h2
              rcases Nat.lt_or_ge p q with h3 | h3
              · exact hno p hp h3
              · obtain rfl : p = q := by omega
                exact h
            generalize L[q] = x at *
            obtain ⟨what, at_, m⟩ := x
            dsimp only at hx0 hx1 hx2 hy0 hy1 hy2 hfx hfs1 hno1
            clear hcell hx0 hx1 hx2
            by_cases hat : at_ = j
            · subst hat
              obtain ⟨hpb, fu', hgo'⟩ := decGo_field hgo hlt (hfs1 rfl)
              dsimp only at hpb hgo'
              have hbe8 : beVal ((b.drop at_).take m) < 9223372036854775808 := by
                by_cases hw1 : what = 1
                · have := (putB_ok hpb).2 hw1; omega
                · have h4 := hfx.2.1 hw1
                  have h5 := beVal_lt' m ((b.drop at_).take m) (by rw [List.length_take, List.length_drop]; omega)
                  have h6 : 256 ^ m ≤ 256 ^ 4 := Nat.pow_le_pow_right (by omega) h4
                  omega
              have hvw : Sl wr wr.heap.size (.slice (some ⟨bA, oA, none⟩) 16 c) b.length (bs b) := by
                rw [hb]
                exact (hv4.keep (w' := wr) (fun b' o h => hki.cell (p := ⟨b', o, none⟩) (Nat.lt_of_lt_of_le h hB4.size) (by show b' ≠ B6; omega))).more (Nat.le_trans hB4.size hki.size)
              have hgt := fun W (hW : Below wr.heap.size wr W) => get_b _ b (at_ : Nat) (m : Nat) at_ m rfl rfl W (hvw.now hW) (by rw [hb]; omega) (by omega) (by omega) (by rw [hb]; omega)
              have hgt1 := fun o => hgt (wr.alloc o) ((Below.refl _ _).alloc (Nat.le_refl _) o)
              have hpt := fun o => cput_any B6 k a1 n1 t1 f1 what at_ m _ (by omega) (putB_ok hpb) hbe8 (wr.alloc o) (hci.alloc o)
              have hBwr : B6 < wr.heap.size := (Array.getElem?_eq_some_iff.1 hci).1
              have HG := Lib.hid hgo'
              have HKI := Lib.hid hki
              generalize beVal ((b.drop at_).take m) = V at *
              have hwm : IntKind.i64.wrap ((at_ : Int) + m) = (at_ : Int) + m := IntWalk.i64_in _ (by omega)
              clear hgt hfs1 hno1 hno hby4 hcr hgo hgo' hci hki hpb
              go_wp2_with (first
                | (go_at_call 34; with_reducible refine (hgt1 _).mono ?_; rintro e w5 ⟨rfl, rfl⟩)
                | (go_at_call 35; with_reducible refine (hpt _).mono ?_; rintro e w6 ⟨rfl, hc6, hk6⟩
                   have hbx := (hk6.cell (p := ⟨wr.heap.size, 2, none⟩) (by simp) (by show wr.heap.size ≠ B6; omega)).trans (cell_of_row _ _ 2 _ _ (0, 0) (heap_alloc_new wr _))
                   have hbx : w6.cell? ⟨wr.heap.size, 2, none⟩ = some (.int .i64 (m : Nat)) := hbx))
              refine ⟨⟨at_ + m, putC what V (a1, n1, t1, f1), fu', by go_num, by omega, HG.out, ?_, HKI.out.trans ((Keeps.of ((Below.refl _ _).alloc (Nat.le_refl _) _)).trans hk6)⟩, by simp [intOf]; omega⟩
              have e1 : (if what = 1 then (V : Int) else (a1 : Int)) = ((if what = 1 then V else a1 : Nat) : Int) := by split <;> rfl
              have e2 : (if what = 2 then (V : Int) else (n1 : Int)) = ((if what = 2 then V else n1 : Nat) : Int) := by split <;> rfl
              have e3 : (if what = 3 then (V : Int) else (t1 : Int)) = ((if what = 3 then V else t1 : Nat) : Int) := by split <;> rfl
              rw [e1, e2, e3] at hc6
              exact hc6
            · have hatZ : ¬ (at_ : Int) = j := by omega
              have hno2 := hno1 hat
              clear hfs1 hno1 hno
              go_wp2_with fail
              refine ⟨⟨q + 1, rfl, by go_num, by omega, hno2, hbi.alloc hbi.size _⟩, by simp [intOf]; omega⟩
          · obtain rfl : q = L.length := by omega
            have hfn := find_none (L := L) (i := j) (fun p hp => hno p hp hp)
            obtain ⟨hz, fu', hgo'⟩ := decGo_zero hgo hlt hfn
            have hbz := (hki.cell (p := ⟨bA, oA + j, none⟩) (Nat.lt_of_lt_of_le hbA hB4.size) (by show bA ≠ B6; omega)).trans (hby4 j hlt)
            rw [hz] at hbz
            have hbz : wr.cell? ⟨bA, oA + j, none⟩ = some (.int .u8 0) := hbz
            have hcZ : (j : Int) < c := by omega
            clear hno hfn hby4
            go_wp2_with fail
            exact ⟨⟨j + 1, (a1, n1, t1, f1), fu', by go_num, by omega, hgo', hci, hki⟩, by simp [intOf]; omega⟩
      · obtain rfl : j = 16 := by omega
        have he := decGo_end hgo (Nat.le_refl _)
        obtain ⟨rfl, rfl, rfl, rfl⟩ : a1 = a ∧ n1 = n ∧ t1 = t ∧ f1 = f := by simpa using he
        obtain ⟨k0, k1, k2, k3, k4, k5, k6, k7⟩ := hcr.cells
        have d1 : CmdAt wo w.heap.size 0 0 0 0 false := (hkp.block _ (by omega) (by omega)).trans g1
        have d2 : ReplyAt wo (w.heap.size + 1) := (hkp.block _ (by omega) (by omega)).trans g2
        obtain ⟨r0, r1, r2, r3, r4, r5, r6, r7⟩ := d1.cells
        obtain ⟨s0, s1, s2, s3, s4⟩ := d2.cells
        have fr1 := d1.frozen
        have fr2 := d2.frozen
        have hn1 : ¬ w.heap.size = B6 := by omega
        have hn2 : ¬ w.heap.size + 1 = B6 := by omega
        have hbe : Below w.heap.size w wo := hB4.trans (hkp.below (by omega) (by omega))
        have HST := Lib.hid (storeCR_is k a1 n1 t1 f1 d1 d2)
        clear hcr d1 d2 g1 g2 hby4 hv4 hfs hfit hfr' hcm4 hgo he
        go_wp2_with fail
        rw [Exit.noGoto_ret]
        change bodyPost _ _ _ _ _ (storeCR wo w.heap.size k a1 n1 t1 f1)
        obtain ⟨e1, e2, e3⟩ := HST.out
        have e3 := e3 _ hbe
        clear HST r0 r1 r2 r3 r4 r5 r6 r7 s0 s1 s2 s3 s4 fr1 fr2 k0 k1 k2 k3 k4 k5 k6 k7
        generalize storeCR wo w.heap.size k a1 n1 t1 f1 = W at *
        obtain ⟨r0, r1, r2, r3, r4, r5, r6, r7⟩ := e1.cells
        obtain ⟨s0, s1, s2, s3, s4⟩ := e2.cells
        refine bodyPost_ret (v := .tuple #[cmdV k a1 n1 t1 f1, .agg #[.int .i64 0, .int .i64 0, .int .i64 0, .slice none 0 0, .int .i64 0], .bool true]) ?_ rfl ⟨rfl, e3⟩
        simp [results, Try.results13, asAddr, cmdV, go_sem, r0, r1, r2, r3, r4, r5, r6, r7, s0, s1, s2, s3, s4]
end Go.Proofs.Yteeeioafhdkagaa
