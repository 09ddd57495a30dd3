/- Package ring: Append: contract. -/
import Derived.Test.YtpfackjnnkjjdaaRr3
import Derived.Test.YtpfackjnnkjjdaaCalmK
namespace Go.Proofs.Ytpfackjnnkjjdaa
open Go.ChangeShapes Go.WideShapes Go.ChangeAt Go.RowKit Go.Lib
set_option linter.unusedVariables false
set_option linter.unusedSimpArgs false
namespace Rg
open Crc Dk
def chunk (l : List UInt8) (i : Nat) : List UInt8 := (l.drop (i * 480)).take 480
theorem chunk_len (l : List UInt8) (i : Nat) : (chunk l i).length = min 480 (l.length - i * 480) := by unfold chunk; rw [List.length_take, List.length_drop]
/-- What Append writes: its first i parts. -/
def apS (S : DS) (T : RS) (l : List UInt8) : Nat → DS
  | 0 => S
  | i + 1 => (apS S T l i).wr (T.sec (T.used + i)) (rgS T.next T.life i (need l.length) (chunk l i))
theorem aps_len (S : DS) (T : RS) (l : List UInt8) (i : Nat) : (apS S T l i).last.length = S.last.length := by
  induction i with
  | zero => rfl
  | succ i ih => exact ih
theorem aps_cnt (S : DS) (T : RS) (l : List UInt8) (i : Nat) : (apS S T l i).wtg = S.wtg + i ∧ (apS S T l i).calls = S.calls + i := by
  induction i with
  | zero => exact ⟨rfl, rfl⟩
  | succ i ih => exact ⟨by show (apS S T l i).wtg + 1 = _; omega, by show (apS S T l i).calls + 1 = _; omega⟩
theorem aps_up {S : DS} (h : S.up) (T : RS) (l : List UInt8) (i : Nat) : (apS S T l i).up := by
  induction i with
  | zero => exact h
  | succ i ih => exact ⟨ih.dead, ih.off, ih.arm⟩
theorem sec_lt {T : RS} {N : Nat} (h : T.Ok N) (i : Nat) : T.sec i < N := by
  have h1 := h.n2
  have h2 := h.fit
  have h3 := Nat.mod_lt (T.place + i) (show T.n > 0 by omega)
  unfold RS.sec
  generalize (T.place + i) % T.n = m at *
  omega
/-- What the row with one more is. -/
def Put1 (R : Nat → Prop) (B n : Nat) (D : List Value) (l : List UInt8) (x : Value) (W : World) : Prop := ∃ u g off d, x = .slice (some ⟨g, off, none⟩) (n + 1) d ∧ RowO W (fun k => R k ∨ B ≤ k) 34 x (n + 1) (D ++ [u]) ∧ W.ownsRow B 5 1 u l.length (bs l)
/-- A record more. -/
def RS.app (T : RS) (l : List UInt8) : RS := { T with recs := T.recs ++ [l], used := T.used + need l.length }
/-- A piece of a slice. -/
theorem sl_piece {w : World} {B n c : Nat} {A : Option Addr} {xs : List Value} (h : Sl w B (.slice A n c) n xs) (a m : Nat) (ham : a + m ≤ n) : Sl w B (sliced A a (a + m) c 1) m ((xs.drop a).take m) := by
  obtain ⟨h0, A', c', hv, h1, h2, h3⟩ := h
  simp only [Value.slice.injEq] at hv
  obtain ⟨rfl, -, rfl⟩ := hv
  have hl : ((xs.drop a).take m).length = m := by rw [List.length_take, List.length_drop]; omega
  refine ⟨hl, _, c - a, by unfold sliced; rw [Nat.add_sub_cancel_left], by omega, by omega, fun hne => ?_⟩
  have hm : 0 < m := by
    rw [← hl]
    exact List.length_pos_iff.2 hne
  have hx : xs ≠ [] := by
    rintro rfl
    simp at hne
  obtain ⟨b, off, rfl, h4, h5⟩ := h3 hx
  refine ⟨b, off + a, ?_, h4, fun j u hu => ?_⟩
  · rw [if_neg (by omega)]
    simp [Addr.add]
  · rw [List.getElem?_take] at hu
    split at hu
    · rw [List.getElem?_drop] at hu
      have := h5 (a + j) u hu
      rwa [← Nat.add_assoc] at this
    · cases hu
section
variable {o w : World} {X Y : Nat} {O R : Nat → Prop} {S : DS} {T : RS} {v : Value} {l : List UInt8}
theorem app_long (w : World) (Y : Nat) (hv : Sl w w.heap.size v l.length (bs l)) (hl : 32768 < l.length) : Calls Try.prog 31 #[.pointer (some ⟨Y, 0, none⟩), v] w fun e w' => e = .returned (.tuple #[.int .u64 0, .int .i64 5]) ∧ w' = w := by
  obtain ⟨A, c, rfl, _, _⟩ := hv.form
  have hlx : (32768 : Int) < (l.length : Int) := by omega
  clear hl hv
  go_enter Try.func31, Try.ntmps31
  go_wp2
  go_ret2
  exact ⟨rfl, rfl⟩
theorem app_full {rv : Value} {D : List Value} {N : Nat} (h : RgM w Y X R T rv D) (hk : T.Ok N) (hN : N ≤ 4096) (hv : Sl w w.heap.size v l.length (bs l)) (hl : l.length ≤ 32768) (hfl : T.n < T.used + need l.length) : Calls Try.prog 31 #[.pointer (some ⟨Y, 0, none⟩), v] w fun e w' => e = .returned (.tuple #[.int .u64 0, .int .i64 7]) ∧ ∃ k, w' = w.drewN k := by
  obtain ⟨A, c, rfl, _, _⟩ := hv.form
  have hlx : (l.length : Int) ≤ 32768 := by omega
  have hrm := room_any h hk hN
  have hnd := need_any l.length (by omega) w
  have hx : (T.n : Int) - (T.used : Int) < (need l.length : Int) := by have := hk.us; omega
  clear hl hv hfl
  go_enter Try.func31, Try.ntmps31
  go_wp2_with (first
    | (go_at_call 56; (with_reducible refine hnd.mono ?_); rintro e w2 ⟨rfl, rfl⟩)
    | (go_at_call 57; (with_reducible refine hrm.mono ?_); rintro e w3 ⟨rfl, k3, rfl⟩))
  go_ret2
  exact ⟨rfl, _, rfl⟩
set_option maxRecDepth 100000 in
set_option maxHeartbeats 2000000 in
theorem app_ok (h : Rng o w X O S Y R T) (hu : S.up) (hN : S.last.length ≤ 4096) (hw : S.wtg ≤ 900000) (hc : S.calls ≤ 1000000000) (hf : T.next ≤ 900000) (hrl : T.recs.length ≤ 4000) (Bd : Nat) (hBd : Bd ≤ w.heap.size) (hv : Sl w Bd v l.length (bs l)) (hvO : ∀ k, k < Bd → v.ownBlock = some k → ¬ O k ∧ ¬ R k) (hl : l.length ≤ 32768) (hro : T.used + need l.length ≤ T.n) :
    Calls Try.prog 31 #[.pointer (some ⟨Y, 0, none⟩), v] w fun e w' => ∃ O' R', e = .returned (.tuple #[.int .u64 (T.next : Nat), .int .i64 0]) ∧ Rng o w' X O' (apS S T l (need l.length)) Y R' (T.app l) ∧ Eff (fun k => O k ∨ R k) w w' ∧ ∀ k, O' k ∨ R' k → O k ∨ R k ∨ w.heap.size ≤ k := by
  obtain ⟨i0, hi, hz0, hz1, hz2⟩ := info_parts (show (Try.prog.info? 5).map (fun i => (i.zero, i.size, i.bytes)) = some (some (.int .u8 0), 1, 1) by kernel_rfl)
  obtain ⟨i1, hi1, hy0, hy1, hy2⟩ := info_parts tb_info
  obtain ⟨rv, D, hM⟩ := h.is
  have hs := h.dsk
  have hok : (T.app l).Ok S.last.length := by
    have hk := h.ok
    refine ⟨hk.n2, hk.fit, hk.pl, hro, ?_, ?_, hk.lf, hk.fs⟩
    · show (T.recs ++ [l]).length ≤ 4096
      rw [List.length_append, List.length_singleton]
      omega
    · intro m hm
      rcases List.mem_append.1 hm with h1 | h1
      · exact hk.long m h1
      · rw [List.mem_singleton.1 h1]; exact hl
  obtain ⟨A, c, rfl, hc1, hc2⟩ := hv.form
  have hlx : (l.length : Int) ≤ 32768 := by omega
  have hrm := room_any hM h.ok hN
  have hnd := need_any l.length (by omega) w
  have hx : ¬ (T.n : Int) - (T.used : Int) < (need l.length : Int) := by have := h.ok.us; omega
  have hnxt := fun k => next_any (show RgM (w.drewN k) Y X R T rv D from hM.below (below_drewN (Below.refl _ _) _)) (by omega)
  have hcount := need_le l.length hl
  have hpos := need_pos l.length
  go_enter Try.func31, Try.ntmps31
  go_wp2_with (first
    | (go_at_call 56; (with_reducible refine hnd.mono ?_); rintro e w2 ⟨rfl, rfl⟩)
    | (go_at_call 57; (with_reducible refine hrm.mono ?_); rintro e w3 ⟨rfl, k3, rfl⟩)
    | (go_at_call 37; (with_reducible refine (hnxt _).mono ?_); rintro e w4 ⟨rfl, k4, rfl⟩))
  have hba : Below w.heap.size w (w.drewN (k3 + k4)) := below_drewN (Below.refl _ _) _
  generalize w.drewN (k3 + k4) = wa at *
  have hsa := hs.below hba
  have hMa := hM.below hba
  obtain ⟨cnt, hcnt⟩ : ∃ cnt, need l.length = cnt := ⟨_, rfl⟩
  have hdef : (l.length = 0 ∧ cnt = 1) ∨ (0 < l.length ∧ (cnt - 1) * 480 < l.length ∧ l.length ≤ cnt * 480) := by
    rw [← hcnt]
    unfold need
    split
    · exact .inl ⟨by assumption, rfl⟩
    · right
      omega
  have hxO : ∀ k, R k → ¬ O k := h.no
  have HCN := Lib.hid hcnt
  rw [hcnt] at hx hcount hpos hro ⊢
  have HC1 := Lib.hid hc1
  have HC2 := Lib.hid hc2
  have HL := Lib.hid hl
  have hcx : (cnt : Int) ≤ 69 := by omega
  have hux : (T.used : Int) ≤ 4096 := by have := h.ok.us; have := h.ok.fit; omega
  have hnxs : T.next < 18446744073709551616 := by omega
  have HNX := Lib.hid hnxs
  have HW := Lib.hid hw
  have HCC := Lib.hid hc
  have HF := Lib.hid hf
  clear hrm hnd hnxt hc1 hc2 hcnt hl hnxs hw hc hf
  go_loopw [8] (fun i wr => ∃ (j : Nat) (O' : Nat → Prop), j ≤ cnt ∧ i = .int .i64 (j : Nat) ∧ Dsk o wr X O' (apS S T l j) ∧ Eff O w wr ∧ ∀ k, O' k → O k ∨ w.heap.size ≤ k) (fun i _ => cnt - (intOf i).toNat)
  case atStart => exact ⟨0, O, Nat.zero_le _, rfl, hsa, Eff.of hba, fun k hk => .inl hk⟩
  case round =>
    obtain ⟨j, O', hj, rfl, hsr, hE, hOO⟩ := hrel
    by_cases hjc : j < cnt
    · have hjx : (j : Int) < (cnt : Int) := by omega
      have hMr := hM.eff hE fun k hk hR hO => hxO k hR hO
      have hvr : Sl wr Bd (.slice A l.length c) l.length (bs l) := sl_eff hv hE hBd fun k hk1 hk hO => (hvO k hk1 hk).1 hO
      obtain ⟨e, m, he1, he2, he3, he4⟩ : ∃ e m : Nat, min (((j : Int) + 1) * 480) (l.length : Int) = (e : Int) ∧ j * 480 + m = e ∧ e ≤ l.length ∧ m = (chunk l j).length := by
        rw [chunk_len]
        by_cases hlt : l.length < (j + 1) * 480
        · exact ⟨l.length, l.length - j * 480, by omega, by omega, by omega, by omega⟩
        · exact ⟨(j + 1) * 480, 480, by omega, by omega, by omega, by omega⟩
      have hsl : ∀ W, (Instr.slice 34 (.slice A l.length c) (some (.int .i64 ((j : Int) * 480))) (some (.int .i64 (e : Nat))) none).run Try.prog W = .ok (sliced A (j * 480) e c 1) W := by
        intro W
        have := HC1.out
        have h1 := run_slice_lh (P := Try.prog) (w := W) 34 A l.length c (by kernel_rfl) .i64 .i64 ((j : Int) * 480) (e : Int) (by omega) (by omega) (by omega)
        rw [h1, show Try.prog.elem 34 = 5 by kernel_rfl, show (sizeOf 5).run Try.prog W = .ok 1 W by simp [sizeOf, typeInfo, hi, hz1]]
        simp only [Result.andThen]
        rw [show ((j : Int) * 480).toNat = j * 480 by omega, show ((e : Nat) : Int).toNat = e by omega]
      have hpc := sl_piece hvr (j * 480) m (by omega)
      rw [he2] at hpc
      have hbc : ((bs l).drop (j * 480)).take m = bs (chunk l j) := by
        have h1 : m = min 480 (l.length - j * 480) := by rw [he4, chunk_len]
        have h2 : m = min 480 ((l.drop (j * 480)).length) := by rw [List.length_drop]; exact h1
        unfold bs chunk
        rw [← List.map_drop, ← List.map_take, h2, ← List.take_eq_take_min]
      rw [hbc] at hpc
      generalize sliced A (j * 480) e c 1 = sv at *
      subst he4
      have hpk := fun W (hW : Below wr.heap.size wr W) => pack_ok T.next T.life j cnt HNX.out (by have := h.ok.lf; omega) hjc (by omega) sv (chunk l j) W ((hpc.more (Nat.le_trans hBd hE.size)).now hW) (by rw [chunk_len]; omega)
      have hpk : ∀ W (hW : Below wr.heap.size wr W), Calls Try.prog 58 #[.int .u64 (T.next : Nat), .int .u32 (T.life : Nat), .int .i64 (j : Nat), .int .i64 (cnt : Nat), sv] W fun e w' => ∃ g c, e = .returned (.tuple #[.slice (some ⟨g, 0, none⟩) 512 c, .int .i64 0]) ∧ w'.ownsRow wr.heap.size 5 1 (.slice (some ⟨g, 0, none⟩) 512 c) 512 (bs (rgS T.next T.life j cnt (chunk l j))) ∧ Below W.heap.size W w' := fun W hW => (hpk W hW).mono fun e w' ⟨v', h1, h2, h3⟩ => by
        rcases h2.2 with ⟨_, hh⟩ | ⟨g, cap, cur, e1, _⟩
        · omega
        · subst e1; exact ⟨g, cap, h1, owns_mono h2 hW.size, h3⟩
      go_wp2
      refine wp_region_any (by kernel_rfl) ?_
      change wpAny _ _ _ _ _ _ _ (World.drew _)
      refine wpAny_take (i := 0) (oi := { dst := some 30, op := Op.move (Operand.tmp 7), type := 32, pos := "ring.go:116", after := #[], guard := none }) (v := (.int .u64 (T.next : Nat))) rfl (by kernel_rfl) (by kernel_rfl) (by kernel_rfl) (fun _ _ _ h => h) (Or.inl ⟨by rfl, by intro w; go_simp⟩) ?_
      try dsimp only [Act.put]
      try simp only [List.setIfInBounds_toArray, List.set_cons_succ, List.set_cons_zero]
      apply calm_tailK 22 [0] [.is (.int .u64 (T.next : Nat)), .is (.pointer (some ⟨Y, 0, none⟩)), .is (.pointer (some ⟨Y, 0, none⟩)), .is (.pointer (some ⟨Y, 3, none⟩)), .is (.int .u32 (T.life : Nat)), .is (.int .i64 (j : Nat)), .is (.int .i64 (cnt : Nat)), .is (.slice A l.length c), .is (.int .i64 (j : Nat)), .is (.int .i64 ((j : Int) * 480)), .is (.int .i64 (j : Nat)), .is (.int .i64 ((j : Int) + 1)), .is (.int .i64 (((j : Int) + 1) * 480)), .is (.slice A l.length c), .is (.int .i64 (l.length : Nat)), .is (.int .i64 (e : Nat)), .is sv, .of (fun x W => ∃ g c, x = .tuple #[.slice (some ⟨g, 0, none⟩) 512 c, .int .i64 0] ∧ W.ownsRow wr.heap.size 5 1 (.slice (some ⟨g, 0, none⟩) 512 c) 512 (bs (rgS T.next T.life j cnt (chunk l j)))) (fun x W W' hb ⟨g, c, hx, ho⟩ => ⟨g, c, hx, owns_below ho hb⟩), .of (fun x W => ∃ g c, x = .tuple #[.slice (some ⟨g, 0, none⟩) 512 c, .int .i64 0] ∧ W.ownsRow wr.heap.size 5 1 (.slice (some ⟨g, 0, none⟩) 512 c) 512 (bs (rgS T.next T.life j cnt (chunk l j)))) (fun x W W' hb ⟨g, c, hx, ho⟩ => ⟨g, c, hx, owns_below ho hb⟩), .of (fun x W => ∃ g c, x = .slice (some ⟨g, 0, none⟩) 512 c ∧ W.ownsRow wr.heap.size 5 1 (.slice (some ⟨g, 0, none⟩) 512 c) 512 (bs (rgS T.next T.life j cnt (chunk l j)))) (fun x W W' hb ⟨g, c, hx, ho⟩ => ⟨g, c, hx, owns_below ho hb⟩), .is (.int .i64 0), .of (fun x W => ∃ g c, x = .slice (some ⟨g, 0, none⟩) 512 c ∧ W.ownsRow wr.heap.size 5 1 (.slice (some ⟨g, 0, none⟩) 512 c) 512 (bs (rgS T.next T.life j cnt (chunk l j)))) (fun x W W' hb ⟨g, c, hx, ho⟩ => ⟨g, c, hx, owns_below ho hb⟩)] [[], [], [1], [2], [3], [], [], [], [], [8], [], [10], [11], [], [13], [12, 14], [7, 9, 15], [0, 4, 5, 6, 16], [17], [18], [18], [19, 17, 0, 1, 2, 3, 4, 5, 6, 7, 8, 9, 10, 11, 12, 13, 14, 15, 16, 17, 18, 19]] (by kernel_rfl) (by kernel_rfl) rfl (by decide) (by intro i hi o ho; obtain rfl := List.mem_singleton.1 hi; obtain rfl := Option.some.inj ho; exact rfl)
      intro f a1 ha1
      simp only [List.take_succ_cons, List.take_zero, putL, Act.put, List.setIfInBounds_toArray, List.set_cons_succ, List.set_cons_zero] at ha1
      subst ha1
      refine ⟨?_, ?_⟩
      · refine AllCalm.cons (fun W hB hd => ?_) ?_
        · go_wp2_with (fail)
          exact CalmQ.mk rfl _ rfl (Below.refl _ _) rfl
        refine AllCalm.cons (fun W hB hd => ?_) ?_
        · go_wp2_with (fail)
          exact CalmQ.mk rfl _ rfl (Below.refl _ _) rfl
        refine AllCalm.cons (fun W hB hd => ?_) ?_
        · obtain ⟨h1, -⟩ := hd
          have h1 : f 1 = _ := h1
          rw [h1]
          go_wp2_with (fail)
          exact CalmQ.mk rfl _ rfl (Below.refl _ _) rfl
        refine AllCalm.cons (fun W hB hd => ?_) ?_
        · obtain ⟨h2, -⟩ := hd
          have h2 : f 2 = _ := h2
          rw [h2]
          go_wp2_with (fail)
          exact CalmQ.mk rfl _ rfl (Below.refl _ _) rfl
        refine AllCalm.cons (fun W hB hd => ?_) ?_
        · obtain ⟨h3, -⟩ := hd
          have h3 : f 3 = _ := h3
          rw [h3]
          have y3 := (hMr.below ((Below.refl _ wr).drew.trans hB)).c3
          go_wp2_with (fail)
          exact CalmQ.mk rfl _ rfl (Below.refl _ _) rfl
        refine AllCalm.cons (fun W hB hd => ?_) ?_
        · go_wp2_with (fail)
          exact CalmQ.mk rfl _ rfl (Below.refl _ _) rfl
        refine AllCalm.cons (fun W hB hd => ?_) ?_
        · go_wp2_with (fail)
          exact CalmQ.mk rfl _ rfl (Below.refl _ _) rfl
        refine AllCalm.cons (fun W hB hd => ?_) ?_
        · go_wp2_with (fail)
          exact CalmQ.mk rfl _ rfl (Below.refl _ _) rfl
        refine AllCalm.cons (fun W hB hd => ?_) ?_
        · go_wp2_with (fail)
          exact CalmQ.mk rfl _ rfl (Below.refl _ _) rfl
        refine AllCalm.cons (fun W hB hd => ?_) ?_
        · obtain ⟨h8, -⟩ := hd
          have h8 : f 8 = _ := h8
          rw [h8]
          go_wp2_with (fail)
          exact CalmQ.mk rfl _ rfl (Below.refl _ _) rfl
        refine AllCalm.cons (fun W hB hd => ?_) ?_
        · go_wp2_with (fail)
          exact CalmQ.mk rfl _ rfl (Below.refl _ _) rfl
        refine AllCalm.cons (fun W hB hd => ?_) ?_
        · obtain ⟨h10, -⟩ := hd
          have h10 : f 10 = _ := h10
          rw [h10]
          go_wp2_with (fail)
          exact CalmQ.mk rfl _ rfl (Below.refl _ _) rfl
        refine AllCalm.cons (fun W hB hd => ?_) ?_
        · obtain ⟨h11, -⟩ := hd
          have h11 : f 11 = _ := h11
          rw [h11]
          go_wp2_with (fail)
          exact CalmQ.mk rfl _ rfl (Below.refl _ _) rfl
        refine AllCalm.cons (fun W hB hd => ?_) ?_
        · go_wp2_with (fail)
          exact CalmQ.mk rfl _ rfl (Below.refl _ _) rfl
        refine AllCalm.cons (fun W hB hd => ?_) ?_
        · obtain ⟨h13, -⟩ := hd
          have h13 : f 13 = _ := h13
          rw [h13]
          go_wp2_with (fail)
          exact CalmQ.mk rfl _ rfl (Below.refl _ _) rfl
        refine AllCalm.cons (fun W hB hd => ?_) ?_
        · obtain ⟨h12, h14, -⟩ := hd
          have h12 : f 12 = _ := h12
          have h14 : f 14 = _ := h14
          rw [h12, h14]
          go_wp2_with (fail)
          exact CalmQ.mk rfl _ rfl (Below.refl _ _) rfl
        refine AllCalm.cons (fun W hB hd => ?_) ?_
        · obtain ⟨h7, h9, h15, -⟩ := hd
          have h7 : f 7 = _ := h7
          have h9 : f 9 = _ := h9
          have h15 : f 15 = _ := h15
          rw [h7, h9, h15]
          go_wp2_with (fail)
          exact CalmQ.mk rfl _ rfl (Below.refl _ _) rfl
        refine AllCalm.cons (fun W hB hd => ?_) ?_
        · obtain ⟨h0, h4, h5, h6, h16, -⟩ := hd
          have h0 : f 0 = _ := h0
          have h4 : f 4 = _ := h4
          have h5 : f 5 = _ := h5
          have h6 : f 6 = _ := h6
          have h16 : f 16 = _ := h16
          rw [h0, h4, h5, h6, h16]
          have hpkW := hpk W ((Below.refl _ wr).drew.trans hB)
          go_wp2_with ((go_at_call 58; (with_reducible refine hpkW.mono ?_); rintro e w2 ⟨g2, cc2, rfl, ho2, hb2⟩))
          exact CalmQ.mk rfl _ rfl hb2 ⟨g2, cc2, rfl, ho2⟩
        refine AllCalm.cons (fun W hB hd => ?_) ?_
        · obtain ⟨h17, -⟩ := hd
          go_wp2_with (fail)
          exact CalmQ.mk rfl _ rfl (Below.refl _ _) h17
        refine AllCalm.cons (fun W hB hd => ?_) ?_
        · obtain ⟨h18, -⟩ := hd
          obtain ⟨g8, c8, e8, o8⟩ := h18; rw [e8]
          go_wp2_with (fail)
          exact CalmQ.mk rfl _ rfl (Below.refl _ _) ⟨g8, c8, rfl, o8⟩
        refine AllCalm.cons (fun W hB hd => ?_) ?_
        · obtain ⟨h18, -⟩ := hd
          obtain ⟨g8, c8, e8, o8⟩ := h18; rw [e8]
          go_wp2_with (fail)
          exact CalmQ.mk rfl _ rfl (Below.refl _ _) rfl
        refine AllCalm.cons (fun W hB hd => ?_) ?_
        · obtain ⟨h19, h17, h0, h1, h2, h3, h4, h5, h6, h7, h8, h9, h10, h11, h12, h13, h14, h15, h16, -, h18, -, -⟩ := hd
          have h0 : f 0 = _ := h0
          have h1 : f 1 = _ := h1
          have h2 : f 2 = _ := h2
          have h3 : f 3 = _ := h3
          have h4 : f 4 = _ := h4
          have h5 : f 5 = _ := h5
          have h6 : f 6 = _ := h6
          have h7 : f 7 = _ := h7
          have h8 : f 8 = _ := h8
          have h9 : f 9 = _ := h9
          have h10 : f 10 = _ := h10
          have h11 : f 11 = _ := h11
          have h12 : f 12 = _ := h12
          have h13 : f 13 = _ := h13
          have h14 : f 14 = _ := h14
          have h15 : f 15 = _ := h15
          have h16 : f 16 = _ := h16
          rw [h0, h1, h2, h3, h4, h5, h6, h7, h8, h9, h10, h11, h12, h13, h14, h15, h16]
          go_wp2_with (fail)
          exact CalmQ.mk rfl _ rfl (Below.refl _ _) h19
        exact AllCalm.nil
      · intro W hB hT
        obtain ⟨h0, h1, h2, h3, h4, h5, h6, h7, h8, h9, h10, h11, h12, h13, h14, h15, h16, h17, h18, h19, h20, h21, -⟩ := hT
        have h0 : f 0 = _ := h0
        have h1 : f 1 = _ := h1
        have h2 : f 2 = _ := h2
        have h3 : f 3 = _ := h3
        have h4 : f 4 = _ := h4
        have h5 : f 5 = _ := h5
        have h6 : f 6 = _ := h6
        have h7 : f 7 = _ := h7
        have h8 : f 8 = _ := h8
        have h9 : f 9 = _ := h9
        have h10 : f 10 = _ := h10
        have h11 : f 11 = _ := h11
        have h12 : f 12 = _ := h12
        have h13 : f 13 = _ := h13
        have h14 : f 14 = _ := h14
        have h15 : f 15 = _ := h15
        have h16 : f 16 = _ := h16
        have h20 : f 20 = _ := h20
        rw [h0, h1, h2, h3, h4, h5, h6, h7, h8, h9, h10, h11, h12, h13, h14, h15, h16, h20]
        clear h0 h1 h2 h3 h4 h5 h6 h7 h8 h9 h10 h11 h12 h13 h14 h15 h16 h20
        simp only [List.drop_succ_cons, List.drop_zero]
        have hz0 := trivial
        obtain ⟨g2, cc2, e21, o2⟩ := h21
        have e21 : f 21 = _ := e21
        rw [e21]
        have hBw : Below wr.heap.size wr W := (Below.refl _ wr).drew.trans hB
        have hMw := hMr.below hBw
        have hsw := hsr.below hBw
        have hOw : ∀ k, k < W.heap.size → R k → ¬ O' k := fun k _ hR hO => (hOO k hO).elim (hxO k hR) fun h => by have := hM.lt k hR; omega
        have hMe := fun W' (he : Eff O' W W') => hMw.eff he hOw
        have hsec := fun W' (he : Eff O' W W') => sector_any (hMe W' he) h.ok hN (T.used + j) (by have := h.ok.us; have := h.ok.fit; omega)
        have hsec : ∀ W' (he : Eff O' W W'), Calls Try.prog 59 #[.pointer (some ⟨Y, 0, none⟩), .int .i64 ((T.used : Int) + (j : Int))] W' fun e w' => e = .returned (.int .i64 (T.sec (T.used + j) : Nat)) ∧ ∃ k, w' = W'.drewN k := hsec
        have hcl := aps_cnt S T l j
        have c1 : ∀ W', Below W.heap.size W W' → Calls Try.prog 21 #[.pointer (some ⟨X, 0, none⟩), .int .i64 (T.sec (T.used + j) : Nat), .slice (some ⟨g2, 0, none⟩) 512 cc2] W' fun e w' => ∃ O2, e = .returned (.int .i64 0) ∧ Dsk o w' X O2 (apS S T l (j + 1)) ∧ Eff O w w' ∧ Eff O' W' w' ∧ ∀ k, O2 k → O k ∨ w.heap.size ≤ k := by
          intro W' hb
          have hgl := own_tag o2 g2 rfl
          have hng : ¬ O' g2 := fun hO => by
            rcases hOO g2 hO with h1 | h1
            · obtain ⟨V, hV⟩ := hs.is
              have := hV.lt g2 h1
              have := hE.size
              omega
            · obtain ⟨V, hV⟩ := hsr.is
              have := hV.lt g2 hO
              omega
          have hln : (rgS T.next T.life j cnt (chunk l j)).length = 512 := rgS_len (by rw [chunk_len]; omega)
          have hws := HW.out
          have hcs := HCC.out
          refine (d_write (hsw.below hb) (aps_up hu T l j) (T.sec (T.used + j)) (by rw [aps_len]; exact sec_lt h.ok _) (by omega) (by omega) _ (rgS T.next T.life j cnt (chunk l j)) W'.heap.size (Nat.le_refl _) (by rw [hln]; exact Sl.of_own (owns_below o2 hb)) (by omega) ?_).mono ?_
          · intro k _ hk hO
            obtain rfl := Option.some.inj hk
            exact hng hO
          · rintro e w' ⟨O2, rfl, h1, h2, h3⟩
            have hbs := hb.size
            have hwws := hBw.size
            have hes := hE.size
            refine ⟨O2, rfl, ?_, ?_, h2, fun k hk => ?_⟩
            · show Dsk o w' X O2 ((apS S T l j).wr (T.sec (T.used + j)) (rgS T.next T.life j (need l.length) (chunk l j)))
              rw [HCN.out]
              exact h1
            · exact ((hE.trans (Eff.of (S := O) (hBw.trans (hb.mono hBw.size))) fun _ _ h => h)).trans h2 fun i hi hO => (hOO i hO).elim id fun h => absurd hi (by omega)
            · rcases h3 k hk with h4 | h4
              · exact hOO k h4
              · exact .inr (by omega)
        have hFr : ∀ (x : Value) (W1 W2 : World), Below W1.heap.size W1 W2 → (x = .int .i64 0 ∧ ∃ O2, Dsk o W1 X O2 (apS S T l (j + 1)) ∧ Eff O w W1 ∧ ∀ k, O2 k → O k ∨ w.heap.size ≤ k) → (x = .int .i64 0 ∧ ∃ O2, Dsk o W2 X O2 (apS S T l (j + 1)) ∧ Eff O w W2 ∧ ∀ k, O2 k → O k ∨ w.heap.size ≤ k) := fun x W1 W2 hb ⟨h1, O2, h2, h3, h4⟩ => ⟨h1, O2, h2.below hb, h3.trans (Eff.of (S := O) hb) fun _ _ h => h, h4⟩
        have HB := Lib.hid hB
        have HO := Lib.hid hOO
        have HM := Lib.hid hMw
        clear hB hBw hMr hsr hvr hpc hpk hsl he1 he2 he3 hbc hM hMa hs hsa hba hdef hOO hsw hMw hcl
        go_wp2
        apply CalmR.calm_tail (R := effR (fun k => O' k)) 14 [.is (.pointer (some ⟨Y, 0, none⟩)), .is (.pointer (some ⟨Y, 0, none⟩)), .is (.pointer (some ⟨Y, 0, none⟩)), .is (.pointer (some ⟨X, 0, none⟩)), .is (.pointer (some ⟨Y, 0, none⟩)), .is (.pointer (some ⟨Y, 0, none⟩)), .is (.pointer (some ⟨Y, 0, none⟩)), .is (.pointer (some ⟨Y, 7, none⟩)), .is (.int .i64 (T.used : Nat)), .is (.int .i64 (j : Nat)), .is (.int .i64 ((T.used : Int) + (j : Int))), .is (.int .i64 (T.sec (T.used + j) : Nat)), .is (.slice (some ⟨g2, 0, none⟩) 512 cc2), .frail (fun x W => x = .int .i64 0 ∧ ∃ O2, Dsk o W X O2 (apS S T l (j + 1)) ∧ Eff O w W ∧ ∀ k, O2 k → O k ∨ w.heap.size ≤ k) (fun x W W' hb hx => hFr x W W' hb hx)] [[], [0], [1], [2], [], [], [5], [6], [7], [], [8, 9], [4, 10], [], [3, 11, 12, 11]] (by kernel_rfl) (by kernel_rfl) (by kernel_rfl) rfl rfl
        intro f a1 ha1
        simp only [List.take_succ_cons, List.take_zero, putL, Act.put, List.setIfInBounds_toArray, List.set_cons_succ, List.set_cons_zero] at ha1
        subst ha1
        refine ⟨?_, ?_⟩
        · refine CalmR.AllCalm.cons (fun W hB hd => ?_) ?_
          · have hB : Eff (fun k => O' k) _ W := hB
            go_wp2_with (fail)
            exact CalmR.CalmQ.mk rfl _ rfl (Below.refl _ _) rfl
          refine CalmR.AllCalm.cons (fun W hB hd => ?_) ?_
          · have hB : Eff (fun k => O' k) _ W := hB
            obtain ⟨h0, -⟩ := hd
            have h0 : f 0 = _ := h0
            rw [h0]
            go_wp2_with (fail)
            exact CalmR.CalmQ.mk rfl _ rfl (Below.refl _ _) rfl
          refine CalmR.AllCalm.cons (fun W hB hd => ?_) ?_
          · have hB : Eff (fun k => O' k) _ W := hB
            obtain ⟨h1, -⟩ := hd
            have h1 : f 1 = _ := h1
            rw [h1]
            go_wp2_with (fail)
            exact CalmR.CalmQ.mk rfl _ rfl (Below.refl _ _) rfl
          refine CalmR.AllCalm.cons (fun W hB hd => ?_) ?_
          · have hB : Eff (fun k => O' k) _ W := hB
            obtain ⟨h2, -⟩ := hd
            have h2 : f 2 = _ := h2
            rw [h2]
            have y0 := (hMe W hB).c0
            go_wp2_with (fail)
            exact CalmR.CalmQ.mk rfl _ rfl (Below.refl _ _) rfl
          refine CalmR.AllCalm.cons (fun W hB hd => ?_) ?_
          · have hB : Eff (fun k => O' k) _ W := hB
            go_wp2_with (fail)
            exact CalmR.CalmQ.mk rfl _ rfl (Below.refl _ _) rfl
          refine CalmR.AllCalm.cons (fun W hB hd => ?_) ?_
          · have hB : Eff (fun k => O' k) _ W := hB
            go_wp2_with (fail)
            exact CalmR.CalmQ.mk rfl _ rfl (Below.refl _ _) rfl
          refine CalmR.AllCalm.cons (fun W hB hd => ?_) ?_
          · have hB : Eff (fun k => O' k) _ W := hB
            obtain ⟨h5, -⟩ := hd
            have h5 : f 5 = _ := h5
            rw [h5]
            go_wp2_with (fail)
            exact CalmR.CalmQ.mk rfl _ rfl (Below.refl _ _) rfl
          refine CalmR.AllCalm.cons (fun W hB hd => ?_) ?_
          · have hB : Eff (fun k => O' k) _ W := hB
            obtain ⟨h6, -⟩ := hd
            have h6 : f 6 = _ := h6
            rw [h6]
            go_wp2_with (fail)
            exact CalmR.CalmQ.mk rfl _ rfl (Below.refl _ _) rfl
          refine CalmR.AllCalm.cons (fun W hB hd => ?_) ?_
          · have hB : Eff (fun k => O' k) _ W := hB
            obtain ⟨h7, -⟩ := hd
            have h7 : f 7 = _ := h7
            rw [h7]
            have y7 := (hMe W hB).c7
            go_wp2_with (fail)
            exact CalmR.CalmQ.mk rfl _ rfl (Below.refl _ _) rfl
          refine CalmR.AllCalm.cons (fun W hB hd => ?_) ?_
          · have hB : Eff (fun k => O' k) _ W := hB
            go_wp2_with (fail)
            exact CalmR.CalmQ.mk rfl _ rfl (Below.refl _ _) rfl
          refine CalmR.AllCalm.cons (fun W hB hd => ?_) ?_
          · have hB : Eff (fun k => O' k) _ W := hB
            obtain ⟨h8, h9, -⟩ := hd
            have h8 : f 8 = _ := h8
            have h9 : f 9 = _ := h9
            rw [h8, h9]
            go_wp2_with (fail)
            exact CalmR.CalmQ.mk rfl _ rfl (Below.refl _ _) rfl
          refine CalmR.AllCalm.cons (fun W hB hd => ?_) ?_
          · have hB : Eff (fun k => O' k) _ W := hB
            obtain ⟨h4, h10, -⟩ := hd
            have h4 : f 4 = _ := h4
            have h10 : f 10 = _ := h10
            rw [h4, h10]
            have hse := hsec W hB
            go_wp2_with ((go_at_call 59; (with_reducible refine hse.mono ?_); rintro e w1 ⟨rfl, k1, rfl⟩))
            exact CalmR.CalmQ.mk rfl _ rfl (below_drewN (Below.refl _ _) _) rfl
          refine CalmR.AllCalm.cons (fun W hB hd => ?_) ?_
          · have hB : Eff (fun k => O' k) _ W := hB
            go_wp2_with (fail)
            exact CalmR.CalmQ.mk rfl _ rfl (Below.refl _ _) rfl
          refine CalmR.AllCalm.cons (fun W hB hd => ?_) ?_
          · have hB : Below _ _ W := hB
            obtain ⟨h3, h11, h12, -, -⟩ := hd
            have h3 : f 3 = _ := h3
            have h11 : f 11 = _ := h11
            have h12 : f 12 = _ := h12
            rw [h3, h11, h12]
            have c1W := c1 W hB
            go_wp2_with ((go_at_call 21; (with_reducible refine c1W.mono ?_); rintro e w3 ⟨O3, rfl, s3, e3, f3, k3⟩))
            exact CalmR.CalmQ.mk rfl _ rfl f3 ⟨rfl, O3, s3, e3, k3⟩
          exact CalmR.AllCalm.nil
        · intro W hB hT
          have hB : Eff (fun k => O' k) _ W := hB
          obtain ⟨h0, h1, h2, h3, h4, h5, h6, h7, h8, h9, h10, h11, h12, h13, -⟩ := hT
          have h0 : f 0 = _ := h0
          have h1 : f 1 = _ := h1
          have h2 : f 2 = _ := h2
          have h3 : f 3 = _ := h3
          have h4 : f 4 = _ := h4
          have h5 : f 5 = _ := h5
          have h6 : f 6 = _ := h6
          have h7 : f 7 = _ := h7
          have h8 : f 8 = _ := h8
          have h9 : f 9 = _ := h9
          have h10 : f 10 = _ := h10
          have h11 : f 11 = _ := h11
          have h12 : f 12 = _ := h12
          rw [h0, h1, h2, h3, h4, h5, h6, h7, h8, h9, h10, h11, h12]
          clear h0 h1 h2 h3 h4 h5 h6 h7 h8 h9 h10 h11 h12
          simp only [List.drop_succ_cons, List.drop_zero]
          obtain ⟨e13, O3, s3, e3, k3⟩ := h13
          have e13 : f 13 = _ := e13
          rw [e13]
          go_wp2
          exact ⟨⟨j + 1, O3, by omega, by go_num, s3, e3, k3⟩, by simp [intOf]; omega⟩
    · obtain rfl : j = cnt := by omega
      have hMr := hM.eff hE fun k hk hR hO => hxO k hR hO
      have hvr : Sl wr Bd (.slice A l.length c) l.length (bs l) := sl_eff hv hE hBd fun k hk1 hk hO => (hvO k hk1 hk).1 hO
      have hEs := hE.size
      obtain ⟨Ar, cr, rfl, _, _⟩ := hMr.row.form
      have hY6 : ∀ W, Eff (fun k => (Value.slice Ar T.recs.length cr).ownBlock = some k) wr W → W.cell? ⟨Y, 6, none⟩ = some (.slice Ar T.recs.length cr) := fun W hW => (hW.cell (p := ⟨Y, 6, none⟩) hMr.mem.lt (fun e => (hMr.row.tag e).ne (mem_tag hMr.mem) (by decide) rfl)).trans hMr.c6
      have hDat : ∀ (u : Value) (W W' : World), Eff (fun k => (Value.slice Ar T.recs.length cr).ownBlock = some k) W W' → W.ownsRow wr.heap.size 5 1 u l.length (bs l) → W'.ownsRow wr.heap.size 5 1 u l.length (bs l) := fun u W W' hb hu => owns_eff hu hb fun k hk hS => by
        have h1 := (own_tag hu k hk).1
        have h2 := hMr.row.lt hS
        omega
      have hLit : ∀ (x : Value) (W W' : World), Eff (fun k => (Value.slice Ar T.recs.length cr).ownBlock = some k) W W' → (∃ g, x = .slice (some ⟨g, 0, none⟩) 1 1 ∧ wr.heap.size ≤ g ∧ ∃ u, Mem W g 34 #[u] ∧ W.ownsRow wr.heap.size 5 1 u l.length (bs l) ∧ u.oneCell' = true) → ∃ g, x = .slice (some ⟨g, 0, none⟩) 1 1 ∧ wr.heap.size ≤ g ∧ ∃ u, Mem W' g 34 #[u] ∧ W'.ownsRow wr.heap.size 5 1 u l.length (bs l) ∧ u.oneCell' = true := by
        rintro x W W' hb ⟨g, h1, h2, u, h3, h4, h5⟩
        refine ⟨g, h1, h2, u, h3.eff hb fun hS => ?_, hDat u W W' hb h4, h5⟩
        have := hMr.row.lt hS
        omega
      have hFr : ∀ (x : Value) (W W' : World), Below W.heap.size W W' → Put1 R wr.heap.size T.recs.length D l x W → Put1 R wr.heap.size T.recs.length D l x W' := by
        rintro x W W' hb ⟨u, g, off, d, h1, h2, h3⟩
        exact ⟨u, g, off, d, h1, h2.below hb, owns_below h3 hb⟩
      have hSl : ∀ W, Eff (fun k => (Value.slice Ar T.recs.length cr).ownBlock = some k) wr W → Sl W Bd (.slice A l.length c) l.length (bs l) := fun W hW => sl_eff hvr hW (Nat.le_trans hBd hEs) fun k hk1 hk hS => (hvO k hk1 hk).2 (hMr.row.own hS)
      have hRow : ∀ W, Below wr.heap.size wr W → RowO W R 34 (.slice Ar T.recs.length cr) T.recs.length D := fun W hW => hMr.row.below hW
      have hlen : l.length ≤ maxLen := by have := HL.out; unfold maxLen; omega
      have HLN := Lib.hid hlen
      clear hlen
      go_wp2
      apply CalmR.calm_tail (R := effR (fun k => (Value.slice Ar T.recs.length cr).ownBlock = some k)) 9 [.is (.pointer (some ⟨Y, 0, none⟩)), .is (.pointer (some ⟨Y, 0, none⟩)), .is (.pointer (some ⟨Y, 0, none⟩)), .is (.pointer (some ⟨Y, 6, none⟩)), .is (.slice Ar T.recs.length cr), .is (.slice A l.length c), .of (fun u W => W.ownsRow wr.heap.size 5 1 u l.length (bs l)) (fun u W W' hb hu => hDat u W W' hb hu), .of (fun x W => ∃ g, x = .slice (some ⟨g, 0, none⟩) 1 1 ∧ wr.heap.size ≤ g ∧ ∃ u, Mem W g 34 #[u] ∧ W.ownsRow wr.heap.size 5 1 u l.length (bs l) ∧ u.oneCell' = true) (fun x W W' hb hx => hLit x W W' hb hx), .frail (fun x W => Put1 R wr.heap.size T.recs.length D l x W) (fun x W W' hb hx => hFr x W W' hb hx)] [[], [], [1], [2], [3], [], [5], [6], [4, 7, 6]] (by kernel_rfl) (by kernel_rfl) (by kernel_rfl) rfl rfl
      intro f a1 ha1
      simp only [List.take_succ_cons, List.take_zero, putL, Act.put, List.setIfInBounds_toArray, List.set_cons_succ, List.set_cons_zero] at ha1
      subst ha1
      refine ⟨?_, ?_⟩
      · refine CalmR.AllCalm.cons (fun W hB hd => ?_) ?_
        · have hB : Eff (fun k => (Value.slice Ar T.recs.length cr).ownBlock = some k) _ W := hB
          go_wp2_with (fail)
          exact CalmR.CalmQ.mk rfl _ rfl (Below.refl _ _) rfl
        refine CalmR.AllCalm.cons (fun W hB hd => ?_) ?_
        · have hB : Eff (fun k => (Value.slice Ar T.recs.length cr).ownBlock = some k) _ W := hB
          go_wp2_with (fail)
          exact CalmR.CalmQ.mk rfl _ rfl (Below.refl _ _) rfl
        refine CalmR.AllCalm.cons (fun W hB hd => ?_) ?_
        · have hB : Eff (fun k => (Value.slice Ar T.recs.length cr).ownBlock = some k) _ W := hB
          obtain ⟨h1, -⟩ := hd
          have h1 : f 1 = _ := h1
          rw [h1]
          go_wp2_with (fail)
          exact CalmR.CalmQ.mk rfl _ rfl (Below.refl _ _) rfl
        refine CalmR.AllCalm.cons (fun W hB hd => ?_) ?_
        · have hB : Eff (fun k => (Value.slice Ar T.recs.length cr).ownBlock = some k) _ W := hB
          obtain ⟨h2, -⟩ := hd
          have h2 : f 2 = _ := h2
          rw [h2]
          go_wp2_with (fail)
          exact CalmR.CalmQ.mk rfl _ rfl (Below.refl _ _) rfl
        refine CalmR.AllCalm.cons (fun W hB hd => ?_) ?_
        · have hB : Eff (fun k => (Value.slice Ar T.recs.length cr).ownBlock = some k) _ W := hB
          obtain ⟨h3, -⟩ := hd
          have h3 : f 3 = _ := h3
          rw [h3]
          have y6 := hY6 W hB
          go_wp2_with (fail)
          exact CalmR.CalmQ.mk rfl _ rfl (Below.refl _ _) rfl
        refine CalmR.AllCalm.cons (fun W hB hd => ?_) ?_
        · have hB : Eff (fun k => (Value.slice Ar T.recs.length cr).ownBlock = some k) _ W := hB
          go_wp2_with (fail)
          exact CalmR.CalmQ.mk rfl _ rfl (Below.refl _ _) rfl
        refine CalmR.AllCalm.cons (fun W hB hd => ?_) ?_
        · have hB : Eff (fun k => (Value.slice Ar T.recs.length cr).ownBlock = some k) _ W := hB
          obtain ⟨h5, -⟩ := hd
          have h5 : f 5 = _ := h5
          rw [h5]
          have hdW := hSl W hB
          go_wp2_with ((at_builtin; (refine wpList_append_sl _ rfl (.const (.slice none 0 0)) (.tmp 75) _ rfl wr.heap.size 5 i0 _ Try.underlying34 hi hz0 hz1 (by omega) rfl (.slice none 0 0) 0 [] rfl (World.ownsRow_nil _ _ _ _) Bd (.slice A l.length c) l.length (bs l) rfl hdW bs_one (by omega) hB.size ?_); intro v6 w6 ho6 hg6 hat6))
          have ho6' : w6.ownsRow wr.heap.size 5 1 v6 l.length (bs l) := (by simpa using ho6); exact CalmR.CalmQ.mk rfl _ rfl ((Below.refl _ W).grown hg6 (Nat.le_refl _) (fun k hk => by cases hk)) ho6'
        refine CalmR.AllCalm.cons (fun W hB hd => ?_) ?_
        · have hB : Eff (fun k => (Value.slice Ar T.recs.length cr).ownBlock = some k) _ W := hB
          obtain ⟨h6, -⟩ := hd
          obtain ⟨A3, c3, e3, _, _⟩ := own_form h6; have h6 : W.ownsRow wr.heap.size 5 1 (f 6) l.length (bs l) := h6; rw [e3] at h6; rw [e3]
          go_wp2_with (fail)
          exact CalmR.CalmQ.mk rfl _ rfl ((Below.refl _ W).alloc (Nat.le_refl _) _) ⟨_, rfl, hB.size, _, Mem.new _ _ _, owns_below h6 ((Below.refl _ _).alloc (Nat.le_refl _) _), rfl⟩
        refine CalmR.AllCalm.cons (fun W hB hd => ?_) ?_
        · have hB : Below _ _ W := hB
          obtain ⟨h4, h7, h6, -⟩ := hd
          have h4 : f 4 = _ := h4
          rw [h4]
          obtain ⟨g14, e14, hg14, u14, hm14, hu14, ho14⟩ := h7; rw [e14]; have hrW := hRow W hB
          go_wp2_with ((at_builtin; (refine wpList_append_ro _ rfl (.tmp 74) (.tmp 77) _ rfl 34 i1 _ 24 Try.underlying43 hi1 hy0 hy1 hy2 rfl (.slice Ar T.recs.length cr) T.recs.length D rfl hrW g14 1 u14 rfl hm14 ho14 (by omega) (by omega) ?_); intro v6 w6 ho6 hg6 hat6 hf6))
          obtain ⟨g9, o9, d9, rfl⟩ := hf6; have hbsz := hB.size; exact CalmR.CalmQ.mk rfl _ rfl hg6 ⟨u14, g9, o9, d9, rfl, ho6.more (fun k hk => hk.imp id fun h => by omega), hDat _ _ _ hg6 hu14⟩
        exact CalmR.AllCalm.nil
      · intro W hB hT
        have hB : Eff (fun k => (Value.slice Ar T.recs.length cr).ownBlock = some k) _ W := hB
        obtain ⟨h0, h1, h2, h3, h4, h5, h6, h7, h8, -⟩ := hT
        have h0 : f 0 = _ := h0
        have h1 : f 1 = _ := h1
        have h2 : f 2 = _ := h2
        have h3 : f 3 = _ := h3
        have h4 : f 4 = _ := h4
        have h5 : f 5 = _ := h5
        rw [h0, h1, h2, h3, h4, h5]
        clear h0 h1 h2 h3 h4 h5
        simp only [List.drop_succ_cons, List.drop_zero]
        obtain ⟨u, g9, o9, d9, e8, ho8, hu8⟩ := h8
        have e8 : f 8 = _ := e8
        have ho8 : RowO W (fun k => R k ∨ wr.heap.size ≤ k) 34 (f 8) (T.recs.length + 1) (D ++ [u]) := ho8
        rw [e8] at ho8 ⊢
        obtain ⟨q1, q2, q3, q4⟩ := hMr.push hB hu8 ho8
        have z7 : (W.setCell ⟨Y, 6, none⟩ (.slice (some ⟨g9, o9, none⟩) (T.recs.length + 1) d9)).cell? ⟨Y, 7, none⟩ = some (.int .i64 (T.used : Nat)) := q1.c7
        have f7 := q1.mem.free 7
        have q7 := q1.setY 7 (.int .i64 ((T.used : Int) + (j : Int))) (T' := { T with recs := T.recs ++ [l], used := T.used + j }) rfl rfl
        have q8 := effOX (i := 7) (u := .int .i64 ((T.used : Int) + (j : Int))) q2 hMr.ry
        go_wp2
        go_ret2
        have hEa : Eff (fun k => O k ∨ R k) w wr := hE.mono fun k _ hk => .inl hk
        have hq8 : ∀ k, OM R wr W k → R k ∨ w.heap.size ≤ k := fun k hk => hk.imp id fun h => by have := hE.size; omega
        have hnewO : ∀ k, k < wr.heap.size → O' k → ¬ R k := fun k _ hO hR => (hOO k hO).elim (hxO k hR) fun h => by have := hM.lt k hR; omega
        have happ : ({ T with recs := T.recs ++ [l], used := T.used + j } : RS) = T.app l := by unfold RS.app; rw [HCN.out]
        refine ⟨O', OM R wr W, rfl, ⟨?_, ⟨.slice (some ⟨g9, o9, none⟩) (T.recs.length + 1) d9, D ++ [u], ?_⟩, ?_, ?_, ?_⟩, ?_, ?_⟩
        · rw [HCN.out]; exact hsr.effN q8 hnewO fun k _ hR => h.from_ k hR
        · exact happ ▸ q7
        · rw [aps_len]; exact hok
        · intro k hk
          rcases hk with hk | hk
          · exact h.from_ k hk
          · have := hsr.bl.size; omega
        · intro k hk hO
          rcases hk with hk | hk
          · exact hnewO k (Nat.lt_of_lt_of_le (hM.lt k hk) hE.size) hO hk
          · obtain ⟨V, hV⟩ := hsr.is
            have := hV.lt k hO
            omega
        · exact hEa.trans (q8.mono (T := fun k => O k ∨ R k) fun k _ hk => .inr hk) fun _ _ h => h
        · intro k hk
          rcases hk with hk | hk
          · rcases hOO k hk with h1 | h1
            · exact .inl h1
            · exact .inr (.inr h1)
          · exact .inr (hq8 k hk)
end
end Rg
end Go.Proofs.Ytpfackjnnkjjdaa
