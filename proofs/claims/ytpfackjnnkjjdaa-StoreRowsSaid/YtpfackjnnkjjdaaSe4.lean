/- Package store: readSnapshot of a snapshot that lies there. -/
import Derived.Test.YtpfackjnnkjjdaaSe3
namespace Go.Proofs.Ytpfackjnnkjjdaa
open Go.ChangeShapes Go.WideShapes Go.ChangeAt Go.RowKit Go.Lib
set_option linter.unusedVariables false
set_option linter.unusedSimpArgs false
set_option maxRecDepth 100000
namespace Se
open Crc Dk Tw
/-- The i-th sector of a snapshot. -/
def chk (l : List UInt8) (i : Nat) : List UInt8 := (l.drop (i * 512)).take 512
theorem chk_len (l : List UInt8) (i : Nat) : (chk l i).length = min 512 (l.length - i * 512) := by unfold chk; rw [List.length_take, List.length_drop]
/-- The snapshot l lies in the place side. -/
def SnapOn (S : DS) (side : Nat) (l : List UInt8) : Prop := ∀ i, i * 512 < l.length → full (S.now (2 + side * 48 + i)) = full (chk l i)
theorem own_take {w : World} {B e N m c : Nat} {A : Option Addr} {xs : List Value} (h : w.ownsRow B e 1 (.slice A N c) N xs) (hm : m ≤ N) : w.ownsRow B e 1 (.slice A m c) m (xs.take m) := by
  obtain ⟨h1, h2⟩ := h
  refine ⟨by rw [List.length_take]; omega, ?_⟩
  rcases h2 with ⟨hv, h0⟩ | ⟨g, cap, cur, hv, hg, hgg, k1, k2, k3, k4⟩
  · simp only [Value.slice.injEq] at hv
    obtain ⟨rfl, _, rfl⟩ := hv
    exact .inl ⟨by rw [show m = 0 by omega], by omega⟩
  · simp only [Value.slice.injEq] at hv
    obtain ⟨rfl, _, rfl⟩ := hv
    refine .inr ⟨g, c, cur, rfl, hg, hgg, by omega, k2, k3, ?_⟩
    rw [← k4, List.take_take, Nat.min_eq_left (by omega), Nat.mul_one]
theorem step_snap {l L : List UInt8} {k : Nat} (h1 : L.length = k * 512) (h2 : L.take l.length = l.take (k * 512)) (hk : k * 512 < l.length) : (L ++ full (chk l k)).length = (k + 1) * 512 ∧ (L ++ full (chk l k)).take l.length = l.take ((k + 1) * 512) := by
  have hc := chk_len l k
  have hf : (full (chk l k)).length = 512 := by unfold full; rw [List.length_append, List.length_replicate]; omega
  refine ⟨by rw [List.length_append, hf]; omega, ?_⟩
  have hL : L = l.take (k * 512) := by rw [← h2, List.take_of_length_le (by omega)]
  have e1 : (full (chk l k)).take (l.length - L.length) = chk l k := by
    unfold full
    rw [List.take_append, hc]
    by_cases hr : 512 ≤ l.length - k * 512
    · rw [List.take_of_length_le (by rw [hc]; omega), show 512 - min 512 (l.length - k * 512) = 0 by omega]
      simp
    · rw [List.take_of_length_le (by rw [hc]; omega), show l.length - L.length - min 512 (l.length - k * 512) = 0 by omega]
      simp
  rw [List.take_append, List.take_of_length_le (by omega), e1, hL, chk, show (k + 1) * 512 = k * 512 + 512 by omega, List.take_add]
section
variable {o w w' : World} {X : Nat} {O : Nat → Prop} {S : DS}
set_option maxHeartbeats 4000000 in
theorem readsnap_any (h : Dsk o w X O S) (hu : S.up) (hl : S.last.length = 610) (hw : S.wtg ≤ 1000) (r : Rt) (hr : r.Ok) (l : List UInt8) (hsz : l.length = r.size) (hsum : moreS 0 l = r.sum) (hon : SnapOn S r.side l) : Calls Try.prog 27 #[.pointer (some ⟨X, 0, none⟩), .agg #[.int .u64 (r.epoch : Nat), .int .u64 (r.base : Nat), .int .u64 (r.first : Nat), .int .i64 (r.place : Nat), .int .u32 (r.life : Nat), .int .i64 (r.side : Nat), .int .i64 (r.size : Nat), .int .u32 (r.sum : Nat)]] w fun e w' => ∃ v, e = .returned (.tuple #[v, .int .i64 0]) ∧ w'.ownsRow w.heap.size 5 1 v l.length (bs l) ∧ Dsk o w' X O S ∧ Below w.heap.size w w' := by
  obtain ⟨i0, hi, hz0, hz1, hz2⟩ := info_parts info_u8
  have hOlt : ∀ q, O q → q < w.heap.size := by
    obtain ⟨V, hV⟩ := h.is
    exact hV.lt
  have hside := hr.side
  have hsize := hr.size
  obtain ⟨w1, e1, mb1, b1⟩ : ∃ w1, w1 = w.alloc (.cells #[.int .u64 (r.epoch : Nat), .int .u64 (r.base : Nat), .int .u64 (r.first : Nat), .int .i64 (r.place : Nat), .int .u32 (r.life : Nat), .int .i64 (r.side : Nat), .int .i64 (r.size : Nat), .int .u32 (r.sum : Nat)] 57) ∧ Mem w1 w.heap.size 57 #[.int .u64 (r.epoch : Nat), .int .u64 (r.base : Nat), .int .u64 (r.first : Nat), .int .i64 (r.place : Nat), .int .u32 (r.life : Nat), .int .i64 (r.side : Nat), .int .i64 (r.size : Nat), .int .u32 (r.sum : Nat)] ∧ Below w.heap.size w w1 := ⟨_, rfl, Mem.new w _ _, (Below.refl _ w).alloc (Nat.le_refl _) _⟩
  have k5 := mb1.cell 5
  have hsx : (r.side : Int) ≤ 1 := by omega
  have hzx : (r.size : Int) ≤ 24576 := by omega
  have HL := Lib.hid hl
  have HS := Lib.hid hsz
  have HM := Lib.hid hsum
  have HO := Lib.hid hon
  have hlx : (l.length : Int) ≤ 24576 := by omega
  clear hl hsz hsum hon
  go_enter Try.func27, Try.ntmps27
  go_upto_region 1 with (fail)
  rw [← e1]
  clear e1
  go_wp2
  go_loopw [6, 7] (fun b n wr => ∃ (k : Nat) (vb : Value) (L : List UInt8), n = .int .i64 ((2 + r.side * 48 + k : Nat) : Int) ∧ vb = b ∧ (k * 512 : Nat) < r.size + 512 ∧ L.length = k * 512 ∧ L.take l.length = l.take (k * 512) ∧ wr.ownsRow w.heap.size 5 1 vb (k * 512) (bs L) ∧ Dsk o wr X O S ∧ Below w.heap.size w wr ∧ Mem wr w.heap.size 57 #[.int .u64 (r.epoch : Nat), .int .u64 (r.base : Nat), .int .u64 (r.first : Nat), .int .i64 (r.place : Nat), .int .u32 (r.life : Nat), .int .i64 (r.side : Nat), .int .i64 (r.size : Nat), .int .u32 (r.sum : Nat)]) (fun _ n _ => 1000 - (intOf n).toNat)
  case atStart => exact ⟨0, _, [], by congr 1, rfl, by omega, rfl, by simp, World.ownsRow_nil _ _ _ _, h.below b1, b1, mb1⟩
  case round =>
    obtain ⟨k, vb, L, rfl, rfl, hk, hL1, hL2, hown, hD, hb, hm⟩ := hrel
    obtain ⟨Ab, cb, rfl, _, _⟩ := own_form hown
    have x6 := hm.cell 6
    by_cases hkl : k * 512 < r.size
    · have hmx : ((k * 512 : Nat) : Int) < (r.size : Int) := by omega
      have c1 := d_read hD hu.dead hu.off (2 + r.side * 48 + k) (by have := HL.out; omega) (by omega)
      have hon := HO.out k (by have := HS.out; omega)
      have hcl := chk_len l k
      have hst := step_snap hL1 hL2 (by have := HS.out; omega)
      have hfl : (full (chk l k)).length = 512 := by unfold full; rw [List.length_append, List.length_replicate]; omega
      have hnow : ((S.wa (2 + r.side * 48 + k)).getLast?.getD (S.la (2 + r.side * 48 + k))) = S.now (2 + r.side * 48 + k) := rfl
      rw [hnow, hon] at c1
      have hnext : ((2 + r.side * 48 + k : Nat) : Int) + 1 = ((2 + r.side * 48 + (k + 1) : Nat) : Int) := by omega
      have hnb : ((2 + r.side * 48 + k : Nat) : Int) ≤ 200 := by omega
      have hn0 : (0 : Int) ≤ ((2 + r.side * 48 + k : Nat) : Int) := by omega
      have HST := Lib.hid hst
      have HNX := Lib.hid hnext
      have hap : k * 512 + 512 ≤ 17592186044416 := by omega
      have hk2 : (k + 1) * 512 = k * 512 + 512 := by omega
      have HK2 := Lib.hid hk2
      have HKL := Lib.hid hkl
      have HNB := Lib.hid hnb
      generalize full (chk l k) = F at *
      obtain ⟨m, hm'⟩ : ∃ m, 2 + r.side * 48 + k = m := ⟨_, rfl⟩
      obtain ⟨kk, hkk⟩ : ∃ kk, k * 512 = kk := ⟨_, rfl⟩
      rw [hm'] at c1 HNX HNB hnb hn0 ⊢
      rw [hkk] at hown hmx hap HK2 ⊢
      have HB := Lib.hid hb
      have HM' := Lib.hid hm
      have HL2 := Lib.hid hL2
      clear hm hb hcl hst hnext hk2 hkl hk hnow hon hm' hkk hL1 hL2 hD
      go_wp2_with (first
        | (go_at_call 50; (with_reducible refine c1.mono ?_); rintro e w2 ⟨g2, rfl, hg2, m2, hD2, b2⟩; have own2 := owns_below hown b2; have s2 : Sl w2 w2.heap.size (.slice (some ⟨g2, 0, none⟩) 512 512) 512 (bs F) := sl_of_row m2 (by rw [bs_len]; exact hfl) (by unfold maxLen; omega); have bb2 := HB.out.trans (b2.mono HB.out.size))
        | (at_builtin; (refine wpList_append_sl _ rfl (.tmp 30) (.tmp 31) _ rfl w.heap.size 5 i0 _ Try.underlying34 hi hz0 hz1 (by omega) rfl (.slice Ab kk cb) kk (bs L) rfl own2 w2.heap.size (.slice (some ⟨g2, 0, none⟩) 512 512) 512 (bs F) rfl s2 bs_one hap bb2.size ?_); intro v6 w6 ho6 hg6 hat6; obtain ⟨A6, c6, rfl, _, _⟩ := own_form ho6))
      have hgr : Eff (fun q => (Value.slice Ab kk cb).ownBlock = some q) w2 w6 := eff_grown hg6
      have hown0 : ∀ q, (Value.slice Ab kk cb).ownBlock = some q → w.heap.size ≤ q ∧ Tag w2 q 5 := fun q hq => ⟨(own_tag own2 q hq).1, (own_tag own2 q hq).2.2⟩
      have hm6 := ((HM'.out.below b2 HM'.out.lt).eff hgr fun e => (hown0 _ e).2.ne (mem_tag (HM'.out.below b2 HM'.out.lt)) (by decide) rfl)
      have hD6 := hD2.effO hgr (fun q _ hO hq => by have := hOlt q hO; have := (hown0 q hq).1; omega) (fun q _ hq => Nat.le_trans h.bl.size (hown0 q hq).1)
      have bw6 : Below w.heap.size w w6 := hgr.below bb2 bb2.size fun q _ hq => (hown0 q hq).1
      refine ⟨⟨k + 1, _, L ++ F, by rw [HNX.out], rfl, by have := HKL.out; omega, HST.out.1, HST.out.2, by rw [HK2.out, bs_app]; exact ho6, hD6, bw6, hm6⟩, ?_⟩
      have := HNB.out
      have := HNX.out
      simp only [intOf]
      omega
    · have hcz : k * 512 ≤ cb := by assumption
      have hfin : L.take l.length = l := by rw [hL2, List.take_of_length_le (by have := HS.out; omega)]
      have hot := own_take hown (m := r.size) (by omega)
      have e9 : (bs L).take r.size = bs l := by rw [← HS.out, ← bs_take, hfin]
      rw [e9] at hot
      have hlr := HS.out
      have hle : (r.size : Int) ≤ (cb : Int) := by omega
      have hz0' : (0 : Int) ≤ (r.size : Int) := by omega
      have hkx : ¬ ((k * 512 : Nat) : Int) < (r.size : Int) := by omega
      obtain ⟨kk, hkk⟩ : ∃ kk, k * 512 = kk := ⟨_, rfl⟩
      rw [hkk] at hkx ⊢
      have csum := fun W (hW : Below wr.heap.size wr W) => sum_any (.slice Ab r.size cb) l W (by have q := Sl.of_own (owns_below hot hW); rw [← HS.out] at q ⊢; exact q)
      rw [HM.out] at csum
      have HLR := Lib.hid hlr
      have HB := Lib.hid hb
      have HD := Lib.hid hD
      clear hk hL1 hL2 hkl hcz hfin e9 hlr hkk hown hb hD
      go_wp2
      apply calm_region [.is _, .is _, .is _, .is _, .is _] [[], [0], [], [2], [1, 3]] (by kernel_rfl) (by kernel_rfl) (by kernel_rfl) rfl
      intro f a1 ha1
      simp only [putL, Act.put, List.setIfInBounds_toArray, List.set_cons_succ, List.set_cons_zero] at ha1
      subst ha1
      refine ⟨?_, ?_⟩
      · refine AllCalm.cons (fun W hB hd => ?_) ?_
        · go_wp2_with (fail)
          exact CalmQ.mk rfl _ rfl (Below.refl _ _) rfl
        refine AllCalm.cons (fun W hB hd => ?_) ?_
        · obtain ⟨h0, -⟩ := hd
          have h0 : f 0 = _ := h0
          rw [h0]
          have cW := csum W hB
          go_wp2_with ((go_at_call 53; (with_reducible refine cW.mono ?_); rintro e' w3 ⟨rfl, hb3⟩))
          exact CalmQ.mk rfl _ rfl hb3 rfl
        refine AllCalm.cons (fun W hB hd => ?_) ?_
        · go_wp2_with (fail)
          exact CalmQ.mk rfl _ rfl (Below.refl _ _) rfl
        refine AllCalm.cons (fun W hB hd => ?_) ?_
        · obtain ⟨h2, -⟩ := hd
          have h2 : f 2 = _ := h2
          rw [h2]
          have k7 := (hm.below hB hm.lt).cell 7
          go_wp2_with (fail)
          exact CalmQ.mk rfl _ rfl (Below.refl _ _) rfl
        refine AllCalm.cons (fun W hB hd => ?_) ?_
        · obtain ⟨h1, h3, -⟩ := hd
          have h1 : f 1 = _ := h1
          have h3 : f 3 = _ := h3
          rw [h1, h3]
          go_wp2_with (fail)
          exact CalmQ.mk rfl _ rfl (Below.refl _ _) rfl
        exact AllCalm.nil
      · intro W hB hT
        obtain ⟨h0, h1, h2, h3, h4, -⟩ := hT
        have h0 : f 0 = _ := h0
        have h1 : f 1 = _ := h1
        have h2 : f 2 = _ := h2
        have h3 : f 3 = _ := h3
        have h4 : f 4 = _ := h4
        rw [h0, h1, h2, h3, h4]
        clear h0 h1 h2 h3 h4
        have hb9 := HB.out.trans (hB.mono HB.out.size)
        have hD9 := HD.out.below hB
        have hot9 := owns_below hot hB
        go_wp2
        rw [HS.out]
        exact bodyPost_ret (v := .tuple #[.slice Ab r.size cb, .int .i64 0]) (by simp [results, Try.results27, go_sem]) rfl ⟨_, rfl, hot9, hD9, hb9⟩
end
end Se
end Go.Proofs.Ytpfackjnnkjjdaa
