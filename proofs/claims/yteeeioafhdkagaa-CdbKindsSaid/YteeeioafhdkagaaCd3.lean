/- Package cdb: Encode: contract. -/
import Derived.Test.YteeeioafhdkagaaCd2
import Derived.Test.YteeeioafhdkagaaPr
import Derived.Laws.CopyOwn
import Derived.Deep.RegionLaw
import Derived.Test.YteeeioafhdkagaaCalmT
namespace Go.Proofs.Yteeeioafhdkagaa
open Go.ChangeShapes Go.WideShapes Go.ChangeAt Go.RowKit
set_option linter.unusedVariables false
def encAt (k : Int) (a n t : Nat) (f : Bool) (j : Nat) : List UInt8 := ((flS k).take j).foldl (fun L x => splice L x.2.1 (be (valS a n t f x.1) x.2.2)) (UInt8.ofNat (hdS k).1 :: UInt8.ofNat (hdS k).2.1 :: be 0 14)
def encS (k : Int) (a n t : Nat) (f : Bool) : List UInt8 := encAt k a n t f (flS k).length
theorem made_bytes (n : Nat) : (madeCells (Value.int .u8 0).cells (n * 1)).toList = List.replicate n (.int .u8 0) := by rw [Nat.mul_one]; exact toList_madeCells_one _ n
def U8s (y : Nat × Nat × Bool × Bool) : Prop := y.1 < 256 ∧ y.2.1 < 256
theorem ite_u8 {c : Prop} [Decidable c] {a b : Nat × Nat × Bool × Bool} (ha : U8s a) (hb : U8s b) : U8s (if c then a else b) := by split <;> assumption
theorem hdS_lt (k : Int) : U8s (hdS k) := by
  unfold hdS
  repeat (first | refine ite_u8 ⟨by decide, by decide⟩ ?_ | exact ⟨by decide, by decide⟩)
set_option maxHeartbeats 4000000 in
theorem Encode_at (k : Int) (a n t : Nat) (f : Bool) (ha : a < 9223372036854775808) (hn : n < 256) (ht : t ≤ 15) (hk : (hdS k).2.2.2 = true) (w : World) :
    Calls Try.prog 12 #[cmdV k a n t f] w fun e w' => ∃ g, e = .returned (.tuple #[.slice (some ⟨g, 0, none⟩) 16 16, .int .i64 0]) ∧ w.heap.size ≤ g ∧ Sl w' w'.heap.size (.slice (some ⟨g, 0, none⟩) 16 16) 16 (bs (encS k a n t f)) ∧ Below w.heap.size w w' := by
  have hh := head_any k
  have hf := fields_any k
  obtain ⟨⟨op, sec, part, ok⟩, hhd⟩ : ∃ x, hdS k = x := ⟨_, rfl⟩
  rw [hhd] at hk hh
  obtain rfl : ok = true := hk
  obtain ⟨i0, hi, hz0, hz1, hz2⟩ := info_parts (show (Try.prog.info? 5).map (fun i => (i.zero, i.size, i.bytes)) = some (some (.int .u8 0), 1, 1) by kernel_rfl)
  have hop : op < 256 ∧ sec < 256 := by
    have := hdS_lt k
    unfold U8s at this
    rw [hhd] at this
    exact this
  have hfl : ∀ x ∈ flS k, x.1 ≤ 3 ∧ (x.1 = 2 → x.2.2 = 1 ∨ x.2.2 = 4) ∧ 1 ≤ x.2.1 ∧ 1 ≤ x.2.2 ∧ x.2.2 ≤ 8 ∧ x.2.1 + x.2.2 ≤ 16 := by
    unfold flS
    repeat (first | (split; · simp) | simp)
  have hval := fun x (h : x ∈ flS k) => value_any k a n t f x (hfl x h).1 (hfl x h).2.1 ha hn ht
  have hflen : (flS k).length ≤ 3 := by
    unfold flS
    repeat (first | (split; · simp) | simp)
  have hput : ∀ W x, x ∈ flS k → Calls Try.prog 31 #[.slice none 0 0, .int .u64 (valS a n t f x.1 : Nat), .int .i64 (x.2.2 : Nat)] W fun e w' => ∃ v', e = .returned v' ∧ Sl w' w'.heap.size v' x.2.2 (bs (be (valS a n t f x.1) x.2.2)) ∧ Below W.heap.size W w' := by
    intro W x hx
    have h1 := hfl x hx
    have hv : valS a n t f x.1 < 18446744073709551616 := by unfold valS; (repeat' split) <;> omega
    have h := put_b (.slice none 0 0) [] (valS a n t f x.1 : Nat) (x.2.2 : Nat) _ _ rfl rfl W Sl.nil_ hv (by simp) (by omega)
    rw [List.nil_append, be_len] at h
    exact h
  have hst : encAt k a n t f 0 = UInt8.ofNat op :: UInt8.ofNat sec :: be 0 14 := by unfold encAt; rw [hhd]; rfl
  have hsu : ∀ j (h : j < (flS k).length), encAt k a n t f (j + 1) = splice (encAt k a n t f j) (flS k)[j].2.1 (be (valS a n t f (flS k)[j].1) (flS k)[j].2.2) := by
    intro j h
    unfold encAt
    rw [List.take_succ_eq_append_getElem h, List.foldl_append]
    rfl
  have hlen : ∀ j, j ≤ (flS k).length → (encAt k a n t f j).length = 16 := by
    intro j
    induction j with
    | zero => intro _; rw [hst]; simp
    | succ j ih =>
      intro h
      have h1 := hfl _ (List.getElem_mem (show j < (flS k).length by omega))
      rw [hsu j (by omega), length_splice _ _ _ (by rw [ih (by omega), be_len]; omega), ih (by omega)]
  have HE : Hid (encS k a n t f = encAt k a n t f (flS k).length) := Lib.hid rfl
  generalize encS k a n t f = E at *
  generalize encAt k a n t f = EA at *
  generalize flS k = L at *
  obtain ⟨i0, hi, hz0, hz1, hz2⟩ := info_parts (show (Try.prog.info? 5).map (fun i => (i.zero, i.size, i.bytes)) = some (some (.int .u8 0), 1, 1) by kernel_rfl)
  have hval : ∀ x, x ∈ L → ∀ W, Calls Try.prog 30 #[.agg #[.int .i64 k, .int .i64 a, .int .i64 n, .slice none 0 0, .int .u64 0, .int .u64 0, .int .i64 t, .bool f], .agg #[.int .i64 (x.1 : Nat), .int .i64 (x.2.1 : Nat), .int .i64 (x.2.2 : Nat)]] W fun e w' => e = .returned (.tuple #[.int .u64 (valS a n t f x.1 : Nat), .bool true]) ∧ Below W.heap.size W w' := fun x h W => hval x h W
  generalize valS a n t f = V at *
  unfold cmdV
  clear hhd
  go_enter Try.func12, Try.ntmps12
  go_wp2_with (first
    | (go_at_call 28; with_reducible refine (hh _).mono ?_; rintro e w1 ⟨rfl, rfl⟩; unfold hdV
       have hcm : CmdAt (w.alloc (.cells #[.int .i64 k, .int .i64 a, .int .i64 n, .slice none 0 0, .int .u64 0, .int .u64 0, .int .i64 t, .bool f] 27)) w.heap.size k a n t f := heap_alloc_new w _
       have hb1 : Below w.heap.size w (w.alloc (.cells #[.int .i64 k, .int .i64 a, .int .i64 n, .slice none 0 0, .int .u64 0, .int .u64 0, .int .i64 t, .bool f] 27)) := (Below.refl _ _).alloc (Nat.le_refl _) _
       have hz : (w.alloc (.cells #[.int .i64 k, .int .i64 a, .int .i64 n, .slice none 0 0, .int .u64 0, .int .u64 0, .int .i64 t, .bool f] 27)).heap.size = w.heap.size + 1 := by simp
       have HZ := Lib.hid hz
       clear hz
       generalize w.alloc (.cells #[.int .i64 k, .int .i64 a, .int .i64 n, .slice none 0 0, .int .u64 0, .int .u64 0, .int .i64 t, .bool f] 27) = w1 at *)
    | (at_make; go_loud (refine wpList_make_full _ rfl (.const (.int .i64 16)) (.const (.int .i64 16)) 24 rfl w1.heap.size 5 i0 _ 1 Try.underlying24 hi hz0 hz1 .i64 .i64 _ _ 16 rfl rfl rfl rfl (by rw [hz2]; omega) (by unfold maxLen; omega) (Nat.le_refl _) ?_; intro w2 hown2 hg2; replace hown2 : w2.ownsRow w1.heap.size 5 1 (.slice (some ⟨w1.heap.size, 0, none⟩) 16 16) 16 (List.replicate 16 (.int .u8 0)) := (made_bytes 16 ▸ hown2); have hq0 := hown2.frozenAt 0; have hq1 : w2.cell? ⟨w1.heap.size, 0, none⟩ = some (.int .u8 0) := hown2.cellAt 0 (by omega); have hown3 := (hown2.stored 0 (.int .u8 (op : Nat))).1; have hr0 := hown2.frozenAt 1; have hr1 : w2.cell? ⟨w1.heap.size, 1, none⟩ = some (.int .u8 0) := hown2.cellAt 1 (by omega); have hq2 := hown3.frozenAt 1; have hq3 : (w2.setCell ⟨w1.heap.size, 0, none⟩ (.int .u8 (op : Nat))).cell? ⟨w1.heap.size, 1, none⟩ = some (.int .u8 0) := hown3.cellAt 1 (by omega); have hown4 := (hown3.stored 1 (.int .u8 (sec : Nat))).1; have hb2 : Below w1.heap.size w1 ((w2.setCell ⟨w1.heap.size, 0, none⟩ (.int .u8 (op : Nat))).setCell ⟨w1.heap.size, 1, none⟩ (.int .u8 (sec : Nat))) := (((Below.refl _ w1).grown hg2 (Nat.le_refl _) (fun k hk => by cases hk)).setCell (p := ⟨w1.heap.size, 0, none⟩) (Nat.le_refl _) _).setCell (p := ⟨w1.heap.size, 1, none⟩) (Nat.le_refl _) _; have hsz := HZ.out; have hne1 : ¬ w.heap.size = w1.heap.size := (by omega); have hne2 : ¬ w1.heap.size = w.heap.size := (by omega); have hc4 := ((hb2.cell (p := ⟨w.heap.size, 0, none⟩) (by show w.heap.size < w1.heap.size; omega)).trans hcm.cells.1); have hc2 := ((((Below.refl _ w1).grown hg2 (Nat.le_refl _) (fun k hk => by cases hk)).cell (p := ⟨w.heap.size, 0, none⟩) (by show w.heap.size < w1.heap.size; omega)).trans hcm.cells.1); clear hsz))
    | (go_at_call 29; with_reducible refine (hf _).mono ?_; rintro e w3 ⟨vf, rfl, hfs, hfr, hb3⟩; obtain ⟨Af, cf, rfl, hc1, hc2⟩ := hfs.form))
  have hrow4 : w3.ownsRow w1.heap.size 5 1 (.slice (some ⟨w1.heap.size, 0, none⟩) 16 16) 16 (bs (EA 0)) := by
    have e : ((List.replicate 16 (Value.int .u8 0)).set 0 (.int .u8 (op : Nat))).set 1 (.int .u8 (sec : Nat)) = bs (EA 0) := by
      have e1 : ((UInt8.ofNat op).toNat : Int) = op := by rw [UInt8.toNat_ofNat']; omega
      have e2 : ((UInt8.ofNat sec).toNat : Int) = sec := by rw [UInt8.toNat_ofNat']; omega
      have e3 : be 0 14 = List.replicate 14 0 := be_zero 14
      rw [hst, e3]
      simp only [bs, List.map_cons, e1, e2]
      rfl
    rw [e] at hown4
    exact hown4.kept (row := none) ⟨hb3.os, hb3.tape, hb3.output, hb3.size, fun k hk _ => hb3.block k hk⟩ (.inr (by simp [Value.ownBlock]))
  have hrow : w3.heap[w1.heap.size]? = some (.cells (bs (EA 0)).toArray 5 (0, 0)) := by
    obtain ⟨_, h | ⟨g, cap, cur, hv, _, hg, _, _, hcs, htk⟩⟩ := hrow4
    · cases h.1
    · simp only [Value.slice.injEq, Option.some.injEq, Addr.mk.injEq, and_true, true_and] at hv
      obtain ⟨rfl, rfl⟩ := hv
      rw [List.take_of_length_le (by rw [Array.length_toList, hcs]; exact Nat.le_refl _)] at htk
      rw [← htk]
      simpa using hg
  have hsz := HZ.out
  have hcm3 : CmdAt w3 w.heap.size k a n t f := by
    unfold CmdAt at hcm ⊢
    have hlt : w.heap.size < w1.heap.size := by omega
    rw [hb3.block _ (Nat.lt_of_lt_of_le hlt hb2.size), hb2.block _ hlt]
    exact hcm
  have hBa : Below w.heap.size w w3 := (hb1.trans (hb2.mono hb1.size)).trans (hb3.mono (Nat.le_trans hb1.size hb2.size))
  have hG3 : w1.heap.size < w3.heap.size := (Array.getElem?_eq_some_iff.1 hrow).1
  have hB3 : w.heap.size < w1.heap.size := by omega
  have hfr' : ∀ A n' c', (Value.slice Af L.length cf) = .slice (some A) n' c' → A.block ≠ w1.heap.size := by
    intro A n' c' h
    have h1 := hfr A n' c' h
    have h2 : w1.heap.size < ((w2.setCell ⟨w1.heap.size, 0, none⟩ (.int .u8 (op : Nat))).setCell ⟨w1.heap.size, 1, none⟩ (.int .u8 (sec : Nat))).heap.size := by
      obtain ⟨_, h | ⟨g, cap, cur, hv, _, hg, _⟩⟩ := hown4
      · cases h.1
      · simp only [Value.slice.injEq, Option.some.injEq, Addr.mk.injEq, and_true, true_and] at hv
        obtain ⟨rfl, rfl⟩ := hv
        exact (Array.getElem?_eq_some_iff.1 hg).1
    omega
  have HBa := Lib.hid hBa
  generalize hBe : w.heap.size = B0 at *
  have HBE := Lib.hid hBe
  clear hBe
  generalize w1.heap.size = G at *
  clear hrow4 hsz HZ hc4 hc2 hne1 hne2 hb2 hb3 hown4 hq3 hq2 hr1 hr0 hown3 hq1 hq0 hown2 hg2 hb1 hcm hfr hst hBa hh hf
  go_loopw [34] (fun i wr => ∃ j, j ≤ L.length ∧ i = .int .i64 j ∧ wr.heap[G]? = some (.cells (bs (EA j)).toArray 5 (0, 0)) ∧ Keeps G w3 wr) (fun i _ => L.length - (intOf i).toNat)
  case atStart => exact ⟨0, Nat.zero_le _, rfl, hrow, Keeps.refl _ _⟩
  case round =>
    obtain ⟨j, hj, rfl, hrw, hkp⟩ := hrel
    by_cases hlt : j < L.length
    · obtain ⟨x, hx⟩ : ∃ x, x = L[j] := ⟨_, rfl⟩
      have hxm : x ∈ L := by rw [hx]; exact List.getElem_mem _
      have hxf := hfl x hxm
      have hsj := hsu j hlt
      have hle := hlen j hj
      rw [← hx] at hsj
      obtain ⟨b, rfl, hbB, hcell⟩ := hfs.at_ (by omega)
      have hbG : b ≠ G := hfr' _ _ _ rfl
      obtain ⟨hx0, hx1, hx2⟩ := hcell j hlt
      rw [← hx] at hx0 hx1 hx2
      have hy0 := (hkp.cell (p := ⟨b, j * 3, none⟩) hbB hbG).trans hx0
      have hy1 := (hkp.cell (p := ⟨b, j * 3 + 1, none⟩) hbB hbG).trans hx1
      have hy2 := (hkp.cell (p := ⟨b, j * 3 + 2, none⟩) hbB hbG).trans hx2
      have hcmr : CmdAt wr B0 k a n t f := by unfold CmdAt; rw [hkp.block B0 (by omega) (by omega)]; exact hcm3
      obtain ⟨k0, k1, k2, k3, k4, k5, k6, k7⟩ := hcmr.cells
      have hBr : B0 < wr.heap.size := Nat.lt_of_lt_of_le (by omega) hkp.size
      have hq : ∀ o i u, wr.cell? ⟨B0, i, none⟩ = some u → (wr.alloc o).cell? ⟨B0, i, none⟩ = some u := fun o i u h => (((Below.refl wr.heap.size wr).alloc (Nat.le_refl _) o).cell (p := ⟨B0, i, none⟩) hBr).trans h
      have q0 := fun o => hq o 0 _ k0
      have q1 := fun o => hq o 1 _ k1
      have q2 := fun o => hq o 2 _ k2
      have q3 := fun o => hq o 3 _ k3
      have q4 := fun o => hq o 4 _ k4
      have q5 := fun o => hq o 5 _ k5
      have q6 := fun o => hq o 6 _ k6
      have q7 := fun o => hq o 7 _ k7
      clear hq
      have hjZ : (j : Int) < L.length := by omega
      have hvx := hval x hxm
      have hpx := fun W => hput W x hxm
      obtain ⟨what, at_, m⟩ := x
      dsimp only at *
      clear hx0 hx1 hx2 hcell hx hval hput hfl hlen hsu
      go_wp2_with (go_at_call 30; with_reducible refine (hvx _).mono ?_; rintro e w5 ⟨rfl, hb5⟩
                   have hy8 : w5.cell? ⟨wr.heap.size, 1, none⟩ = some (.int .i64 (at_ : Nat)) := (hb5.cell (p := ⟨wr.heap.size, 1, none⟩) (by simp)).trans (cell_of_row _ _ 1 _ _ (0, 0) (heap_alloc_new wr _))
                   have hy9 : w5.cell? ⟨wr.heap.size, 2, none⟩ = some (.int .i64 (m : Nat)) := (hb5.cell (p := ⟨wr.heap.size, 2, none⟩) (by simp)).trans (cell_of_row _ _ 2 _ _ (0, 0) (heap_alloc_new wr _)))
      have hai : (at_ : Int) ≤ 16 := by omega
      have hbw : Below wr.heap.size wr w5 := ((Below.refl _ wr).alloc (Nat.le_refl _) _).trans (hb5.mono (by simp))
      clear q0 q1 q2 q3 q4 q5 q6 q7 k0 k1 k2 k3 k4 k5 k6 k7 hy0 hy1 hy2 hvx hcmr hb5
      have hGr : G < wr.heap.size := (Array.getElem?_eq_some_iff.1 hrw).1
      have hrw5 : w5.heap[G]? = some (.cells (bs (EA j)).toArray 5 (0, 0)) := (hbw.block G hGr).trans hrw
      have hCw : wr.heap.size < w5.heap.size := block_lt_of_cell hy8
      have hm1 : 1 ≤ m := by omega
      have hl6 : (bs (be (V what) m)).length = m := by simp [bs]
      have hl16 : (bs (EA j)).length = 16 := by simp [bs, hle]
      have hai2 : (at_ : Int) < 16 := by omega
      have hsum : at_ + m ≤ 16 := by omega
      clear hle hxf
      have hbw' := hbw
      generalize wr.heap.size = C at hbw hy8 hy9 hCw ⊢
      apply calm_tail 8 [.is _, .is _, .is _, .is _, .is _, .is _, .is _, .sl m (bs (be (V what) m))] [[], [], [1], [0, 2], [], [], [5], [4, 6]] (by kernel_rfl) (by kernel_rfl) (by kernel_rfl) rfl
      intro f a1 ha1
      simp only [List.take_succ_cons, List.take_zero, putL, Act.put, List.setIfInBounds_toArray, List.set_cons_succ, List.set_cons_zero] at ha1
      subst ha1
      refine ⟨?_, ?_⟩
      · refine AllCalm.cons (fun W hB hd => ?_) ?_
        · go_wp2_with (fail)
          exact CalmQ.mk rfl _ rfl (Below.refl _ _) rfl
        refine AllCalm.cons (fun W hB hd => ?_) ?_
        · go_wp2_with (fail)
          exact CalmQ.mk rfl _ rfl (Below.refl _ _) rfl
        refine AllCalm.cons (fun W hB hd => ?_) ?_
        · obtain ⟨h1, -⟩ := hd
          have h1 : f 1 = _ := h1
          rw [h1]
          have q := (hB.cell (p := ⟨C, 1, none⟩) (hCw)).trans hy8
          go_wp2_with (fail)
          exact CalmQ.mk rfl _ rfl (Below.refl _ _) rfl
        refine AllCalm.cons (fun W hB hd => ?_) ?_
        · obtain ⟨h0, h2, -⟩ := hd
          have h0 : f 0 = _ := h0
          have h2 : f 2 = _ := h2
          rw [h0, h2]
          go_wp2_with (fail)
          exact CalmQ.mk rfl _ rfl (Below.refl _ _) rfl
        refine AllCalm.cons (fun W hB hd => ?_) ?_
        · go_wp2_with (fail)
          exact CalmQ.mk rfl _ rfl (Below.refl _ _) rfl
        refine AllCalm.cons (fun W hB hd => ?_) ?_
        · go_wp2_with (fail)
          exact CalmQ.mk rfl _ rfl (Below.refl _ _) rfl
        refine AllCalm.cons (fun W hB hd => ?_) ?_
        · obtain ⟨h5, -⟩ := hd
          have h5 : f 5 = _ := h5
          rw [h5]
          have q := (hB.cell (p := ⟨C, 2, none⟩) (hCw)).trans hy9
          go_wp2_with (fail)
          exact CalmQ.mk rfl _ rfl (Below.refl _ _) rfl
        refine AllCalm.cons (fun W hB hd => ?_) ?_
        · obtain ⟨h4, h6, -⟩ := hd
          have h4 : f 4 = _ := h4
          have h6 : f 6 = _ := h6
          rw [h4, h6]
          go_wp2_with ((go_at_call 31; with_reducible refine (hpx W).mono ?_; rintro e w6 ⟨v6, rfl, hs6, hb6⟩))
          exact CalmQ.mk rfl _ rfl hb6 hs6
        exact AllCalm.nil
      · intro W hB hT
        obtain ⟨h0, h1, h2, h3, h4, h5, h6, h7, -⟩ := hT
        have h0 : f 0 = _ := h0
        have h1 : f 1 = _ := h1
        have h2 : f 2 = _ := h2
        have h3 : f 3 = _ := h3
        have h4 : f 4 = _ := h4
        have h5 : f 5 = _ := h5
        have h6 : f 6 = _ := h6
        have h7 : Sl W W.heap.size (f 7) _ _ := h7
        rw [h0, h1, h2, h3, h4, h5, h6]
        clear h0 h1 h2 h3 h4 h5 h6
        simp only [List.drop_succ_cons, List.drop_zero]
        obtain ⟨A6, c6, e6, _, _⟩ := h7.form
        rw [e6] at h7 ⊢
        obtain ⟨b6, o6, rfl, _, hc6⟩ := h7.at_ (by omega)
        have hg6 : W.heap[G]? = some (.cells (bs (EA j)).toArray 5 (0, 0)) := (hB.block G (Array.getElem?_eq_some_iff.1 hrw5).1).trans hrw5
        have hcp := fun ty => run_copy_row (P := Try.prog) W 24 24 ty 5 G at_ (16 - at_) (16 - at_) ⟨b6, o6, none⟩ m c6 (bs (EA j)).toArray 5 (bs (be (V what) m)) Try.underlying24 (by rw [hi]; simp [hz1]) hg6 (by rw [hl6]; exact (Nat.min_eq_left (by omega)).symm) (fun i u hu => by rw [add_plain]; exact hc6 i u hu) (by rw [hl6]; simp only [List.size_toArray]; rw [hl16]; omega) bs_one
        go_wp2_with fail
        refine ⟨⟨j + 1, by omega, by go_num, ?_, (hkp.trans (Keeps.of (hbw'.trans (hB.mono hbw'.size)))).setRow _⟩, by simp [intOf]; omega⟩
        rw [setRow_heap W G _ _ _ _ hg6, hsj]
        simp [splice, bs, List.map_take, List.map_drop]
    · obtain rfl : j = L.length := by omega
      have hfin : Sl wr wr.heap.size (.slice (some ⟨G, 0, none⟩) 16 16) 16 (bs E) := by
        have hle := hlen _ (Nat.le_refl _)
        rw [HE.out]
        exact Sl.of_own (base := 0) (e := 5) ⟨by simp [bs, hle], .inr ⟨G, 16, _, rfl, Nat.zero_le _, hrw, Nat.le_refl _, by unfold maxLen; omega, by simp [bs, hle], by rw [List.take_of_length_le (by simp [bs, hle])]⟩⟩
      have hend : Below w.heap.size w wr := by
        have h := HBa.out.trans (hkp.below (by omega) (by omega))
        rw [HBE.out]
        exact h
      clear hlen hsu hval hput hfl
      go_wp2_with fail
      exact bodyPost_ret (v := .tuple #[.slice (some ⟨G, 0, none⟩) 16 16, .int .i64 0]) (by simp [results, Try.results12, go_sem]) rfl ⟨G, rfl, by rw [HBE.out]; omega, hfin, hend⟩
theorem Encode_ok (k : Int) (a n t : Nat) (f : Bool) (ha : a < 9223372036854775808) (hn : n < 256) (ht : t ≤ 15) (hk : (hdS k).2.2.2 = true) (w : World) :
    Calls Try.prog 12 #[cmdV k a n t f] w fun e w' => ∃ v, e = .returned (.tuple #[v, .int .i64 0]) ∧ Sl w' w'.heap.size v 16 (bs (encS k a n t f)) ∧ Below w.heap.size w w' := by
  refine (Encode_at k a n t f ha hn ht hk w).mono ?_
  rintro e w' ⟨g, rfl, _, hs, hb⟩
  exact ⟨_, rfl, hs, hb⟩
end Go.Proofs.Yteeeioafhdkagaa
