/- DiskOrder: for all bytes and all numbers the statement's function tells true and turns nothing that was there. No condition. -/
import Derived.Test.YthjfigfjkjgogaaDkK
import Derived.BigQuiet
import Derived.IntWalk
import Derived.Deep.QuietTactic
namespace Go.Proofs.Ythjfigfjkjgogaa
open Go.ChangeShapes Go.WideShapes Go.ChangeAt Go.RowKit Go.Lib
set_option linter.unusedVariables false
set_option linter.unusedSimpArgs false
namespace Dk
/-- The rows of bytes that the statement keeps beside the disk. -/
structure Arr (o w : World) (G : Nat) (O : Nat → Prop) (vs : List Value) (F : Nat → List UInt8) : Prop where
  mem : Mem w G 38 vs.toArray
  len : vs.length = 8
  row : ∀ (n : Nat) (v : Value), vs[n]? = some v → w.ownsRow o.heap.size 5 1 v (F n).length (bs (F n))
  ap : ∀ (n m : Nat) (v u : Value) (k : Nat), n ≠ m → vs[n]? = some v → vs[m]? = some u → v.ownBlock = some k → u.ownBlock ≠ some k
  noG : ¬ O G
  oG : o.heap.size ≤ G
  noR : ∀ (n : Nat) (v : Value) (k : Nat), vs[n]? = some v → v.ownBlock = some k → ¬ O k
section
variable {o w w' : World} {G : Nat} {O O' : Nat → Prop} {vs : List Value} {F : Nat → List UInt8}
theorem Arr.eff (h : Arr o w G O vs F) (he : Eff O w w') (hO : ∀ k, O' k → O k ∨ w.heap.size ≤ k) : Arr o w' G O' vs F := by
  refine ⟨h.mem.eff he h.noG, h.len, fun n v hv => owns_eff (h.row n v hv) he fun k hk => h.noR n v k hv hk, h.ap, fun hG => ?_, h.oG, fun n v k hv hk hO' => ?_⟩
  · rcases hO G hG with h1 | h1
    · exact h.noG h1
    · have := h.mem.lt
      omega
  · rcases hO k hO' with h1 | h1
    · exact h.noR n v k hv hk h1
    · have := (own_tag (h.row n v hv) k hk).2.1
      omega
theorem Arr.below (h : Arr o w G O vs F) (hb : Below w.heap.size w w') : Arr o w' G O vs F := by
  refine ⟨h.mem.below hb h.mem.lt, h.len, fun n v hv => owns_below (h.row n v hv) hb, h.ap, h.noG, h.oG, h.noR⟩
/-- A byte is put behind a row. -/
theorem Arr.push (h : Arr o w G O vs F) (hO : ∀ k, O k → k < w.heap.size) {W w6 : World} {n : Nat} {v v6 : Value} {x : UInt8} (hb : Below w.heap.size w W) (hos : o.heap.size ≤ w.heap.size) (hv : vs[n]? = some v) (hg : W.grownBy w6 v.ownBlock) (ho : w6.ownsRow o.heap.size 5 1 v6 ((F n).length + 1) (bs (F n) ++ [.int .u8 (x.toNat : Int)])) (hat : v6.ownBlock = v.ownBlock ∨ v6.ownBlock = some W.heap.size) :
    Arr o (w6.setCell ⟨G, n, none⟩ v6) G O (vs.set n v6) (fun m => if m = n then F n ++ [x] else F m) ∧ Eff (fun k => v.ownBlock = some k ∨ k = G) w (w6.setCell ⟨G, n, none⟩ v6) ∧ w6.cell? ⟨G, n, none⟩ = some v ∧ w6.frozen? ⟨G, n, none⟩ = false := by
  have hW := h.below hb
  have he : Eff (fun k => v.ownBlock = some k) W w6 := eff_grown hg
  have hn : n < 8 := by have := (List.getElem?_eq_some_iff.1 hv).1; have := h.len; omega
  have hGn : ¬ v.ownBlock = some G := fun e => (own_tag (hW.row n v hv) G e).2.2.ne (mem_tag hW.mem) (by decide) rfl
  have hm6 := hW.mem.eff he hGn
  have heG := effX G n w6 v6
  have hG6 : ¬ v6.ownBlock = some G := fun e => (own_tag ho G e).2.2.ne (mem_tag hm6) (by decide) rfl
  have hnew : ∀ k, v6.ownBlock = some k → v.ownBlock = some k ∨ w.heap.size ≤ k := by
    intro k hk
    rcases hat with e | e
    · exact .inl (e ▸ hk)
    · rw [hk] at e
      obtain rfl := Option.some.inj e
      exact .inr hb.size
  have hapn : ∀ (m : Nat) (u : Value) (k : Nat), m ≠ n → vs[m]? = some u → v6.ownBlock = some k → u.ownBlock ≠ some k := by
    intro m u k hm hu hk hk'
    rcases hnew k hk with e | e
    · exact h.ap n m v u k (Ne.symm hm) hv hu e hk'
    · have := (own_tag (h.row m u hu) k hk').2.1
      omega
  refine ⟨⟨?_, by rw [List.length_set]; exact h.len, fun m u hu => ?_, ?_, h.noG, h.oG, fun m u k hu hk hOk => ?_⟩, ?_, ?_, hm6.free n⟩
  · have := hm6.put n v6
    rw [List.setIfInBounds_toArray] at this
    exact this
  · rw [List.getElem?_set] at hu
    split at hu
    · rename_i e
      split at hu <;> simp at hu
      subst hu e
      rw [if_pos rfl, List.length_append, bs_app]
      exact owns_eff ho heG fun k hk e => hG6 (e ▸ hk)
    · rename_i e
      rw [if_neg (Ne.symm e)]
      have h1 := owns_eff (hW.row m u hu) he fun k hk e' => h.ap n m v u k e hv hu e' hk
      exact owns_eff h1 heG fun k hk e' => (own_tag h1 k hk).2.2.ne (mem_tag hm6) (by decide) e'
  · intro i j u u' k hne hu hu' hk
    rw [List.getElem?_set] at hu hu'
    split at hu
    · rename_i e
      split at hu <;> simp at hu
      subst hu e
      rw [if_neg hne] at hu'
      exact hapn j u' k (Ne.symm hne) hu' hk
    · rename_i e
      split at hu'
      · rename_i e'
        split at hu' <;> simp at hu'
        subst hu' e'
        intro hk'
        exact hapn i u k (Ne.symm e) hu hk' hk
      · exact h.ap i j u u' k hne hu hu' hk
  · rw [List.getElem?_set] at hu
    split at hu
    · split at hu <;> simp at hu
      subst hu
      rcases hnew k hk with e | e
      · exact h.noR n v k hv e hOk
      · have := hO k hOk
        omega
    · exact h.noR m u k hu hk hOk
  · exact ((Eff.of (S := fun k => v.ownBlock = some k ∨ k = G) hb).trans (he.mono fun k _ hk => Or.inl hk) fun _ _ h => h).setCell (p := ⟨G, n, none⟩) (.inr rfl) v6
  · have hcn := hm6.cell n
    rw [hcn]
    simpa using hv
end
/-- How many sectors below n are touched. -/
def rank (F : Nat → List UInt8) (n : Nat) : Nat := ((List.range n).filter fun m => !(F m).isEmpty).length
theorem rank_next (F : Nat → List UInt8) (n : Nat) : rank F (n + 1) = rank F n + if F n = [] then 0 else 1 := by
  unfold rank
  rw [List.range_succ, List.filter_append, List.length_append]
  by_cases h : F n = []
  · simp [h]
  · have : (F n).isEmpty = false := by cases hh : F n <;> simp_all
    simp [h, this]
theorem rank_le (F : Nat → List UInt8) (n : Nat) : rank F n ≤ n := by
  unfold rank
  have := List.length_filter_le (fun m => !(F m).isEmpty) (List.range n)
  rwa [List.length_range] at this
theorem rank_get (F : Nat → List UInt8) (n N : Nat) (h : n < N) (hF : F n ≠ []) : ((List.range N).filter fun m => !(F m).isEmpty)[rank F n]? = some n := by
  have hs : List.range N = List.range n ++ (List.range (N - n)).map (n + ·) := by
    have := List.range_add (n := n) (m := N - n)
    rw [show n + (N - n) = N by omega] at this
    exact this
  rw [hs, List.filter_append]
  rw [List.getElem?_append_right (by unfold rank; omega), show rank F n - ((List.range n).filter fun m => !(F m).isEmpty).length = 0 by unfold rank; omega]
  obtain ⟨d, hd⟩ : ∃ d, N - n = d + 1 := ⟨N - n - 1, by omega⟩
  rw [hd, List.range_succ_eq_map]
  have : (F n).isEmpty = false := by cases hh : F n <;> simp_all
  simp [this]
/-- What was written: to each sector its bytes, one a Write. -/
structure Wrs (S : DS) (F : Nat → List UInt8) (k : Nat) : Prop where
  up : S.up
  len : S.last.length = 8
  wtg : S.wtg = k
  calls : S.calls = k
  wa : ∀ n, n < 8 → S.wa n = (F n).map fun b => [b]
  la : ∀ n, S.la n = []
  few : ∀ n, n < 8 → (F n).length ≤ k
theorem Wrs.new : Wrs (DS.new 8) (fun _ => []) 0 := ⟨⟨rfl, rfl, rfl⟩, by simp [DS.new], rfl, rfl, fun n _ => new_wa 8 n, new_la 8, fun _ _ => Nat.le_refl _⟩
theorem Wrs.next {S : DS} {F : Nat → List UInt8} {k : Nat} (h : Wrs S F k) (hF : Fine S) (n : Nat) (hn : n < 8) (x : UInt8) : Wrs (S.wr n [x]) (fun m => if m = n then F n ++ [x] else F m) (k + 1) := by
  have hw := wr_wa hF (n := n) (by rw [h.len]; exact hn) [x]
  refine ⟨⟨h.up.dead, h.up.off, h.up.arm⟩, h.len, by show S.wtg + 1 = _; rw [h.wtg], by show S.calls + 1 = _; rw [h.calls], fun m hm => ?_, h.la, fun m hm => ?_⟩
  · rw [hw m]
    by_cases e : m = n
    · rw [if_pos e]
      simp only [e, if_true]
      rw [h.wa n hn, List.map_append]
      rfl
    · rw [if_neg e]
      simp only [e, if_false]
      exact h.wa m hm
  · have h1 := h.few m hm
    have h2 := h.few n hn
    by_cases e : m = n
    · simp only [e, if_true, List.length_append, List.length_singleton]; omega
    · simp only [e, if_false]; omega
/-- What a crash leaves of a sector. -/
theorem Wrs.left_ {S : DS} {F : Nat → List UInt8} {k : Nat} (h : Wrs S F k) (hF : Fine S) (zs : List Int) (n : Nat) (hn : n < 8) : (S.crashed zs).la n = match pick zs (rank F n) (F n).length with | 0 => [] | p + 1 => [((F n)[p]?).getD 0] := by
  have hwt := hF.toGood.wat hF.lens
  have hsorted : sorted S.tch = (List.range 8).filter fun m => !(F m).isEmpty := by
    have hp : ((List.range 8).filter fun m => !(F m).isEmpty).Perm (sorted S.tch) := by
      refine List.Perm.trans ?_ (sorted_perm S.tch).symm
      rw [List.perm_ext_iff_of_nodup (List.nodup_range.filter _) hF.nodup]
      intro m
      rw [List.mem_filter, List.mem_range, hwt m]
      constructor
      · rintro ⟨hm, he⟩
        rw [h.wa m hm]
        cases hh : F m <;> simp_all
      · intro hm
        have hm8 : m < 8 := by
          have := hF.inT m ((hwt m).2 hm)
          rw [h.len] at this
          exact this
        rw [h.wa m hm8] at hm
        refine ⟨hm8, ?_⟩
        cases hh : F m <;> simp_all
    exact (hp.eq_of_pairwise (fun a b _ _ h1 h2 => Nat.le_antisymm h1 h2) ((List.pairwise_le_range).filter _) (sorted_pair S.tch)).symm
  show (fell S.last S.wts (sorted S.tch) zs S.tch.length)[n]?.getD [] = _
  rw [← sorted_len]
  by_cases h0 : F n = []
  · have hno : n ∉ sorted S.tch := by rw [hsorted, List.mem_filter]; simp [h0]
    rw [fell_no _ (Nat.le_refl _) (by rw [List.take_length]; exact hno)]
    have := pick_le zs (rank F n) (F n).length
    rw [h0, List.length_nil] at this ⊢
    rw [show pick zs (rank F n) 0 = 0 by omega]
    exact h.la n
  · have hm : (sorted S.tch)[rank F n]? = some n := by rw [hsorted]; exact rank_get F n 8 hn h0
    have hW : S.wts[n]? = some (S.wa n) := by unfold DS.wa; rw [List.getElem?_eq_getElem (by have := hF.lens; have := h.len; omega)]; rfl
    rw [fell_at ((sorted_perm S.tch).nodup_iff.2 hF.nodup) (by rw [h.len]; exact hn) hm hW _ (Nat.le_refl _) (List.getElem?_eq_some_iff.1 hm).1]
    rw [h.wa n hn, List.length_map]
    have hp := pick_le zs (rank F n) (F n).length
    cases hq : pick zs (rank F n) (F n).length with
    | zero => exact h.la n
    | succ p =>
      show ((F n).map _)[p]?.getD [] = _
      simp only [List.getElem?_map, List.getElem?_eq_getElem (show p < (F n).length by omega)]
      rfl

/-- The byte that a sector begins with. -/
def wb (F : Nat → List UInt8) (zs : List Int) (n : Nat) : UInt8 := match pick zs (rank F n) (F n).length with | 0 => 0 | p + 1 => ((F n)[p]?).getD 0
/-- What is there behind the crash. -/
structure Aft8 (S : DS) (F : Nat → List UInt8) (zs : List Int) : Prop where
  dead : S.dead = false
  off : S.off = false
  len : S.last.length = 8
  wtg : S.wtg = 0
  wa : ∀ n, S.wa n = []
  head : ∀ n, n < 8 → (full (S.la n))[0]? = some (wb F zs n)
theorem Wrs.after {S : DS} {F : Nat → List UInt8} {k : Nat} (h : Wrs S F k) (hF : Fine S) (zs : List Int) : Aft8 { S.crashed zs with off := false, arm := 0, picks := [] } F zs := by
  refine ⟨h.up.dead, rfl, by show (Dk.fell _ _ _ _ _).length = 8; rw [fell_len]; exact h.len, rfl, fun n => crashed_wa hF zs n, fun n hn => ?_⟩
  show (full ((S.crashed zs).la n))[0]? = _
  rw [h.left_ hF zs n hn]
  unfold wb
  split
  · decide +kernel
  · unfold full
    rw [List.getElem?_append_left (by simp)]
    rfl
theorem and7_fin : ∀ x : Fin 256, wrap64 (bits BinOp.and IntKind.u8 (x.val : Int) 7) = ((x.val % 8 : Nat) : Int) := by decide +kernel
theorem and7 (x : UInt8) : wrap64 (bits BinOp.and IntKind.u8 (x.toNat : Int) 7) = ((x.toNat % 8 : Nat) : Int) := and7_fin ⟨x.toNat, x.toNat_lt⟩
set_option maxRecDepth 100000 in
set_option maxHeartbeats 8000000 in
theorem walk_yes (v0 : Value) (l0 : List UInt8) (v2 : Value) (zs : List Int) (w : World) (h0 : Sl w w.heap.size v0 l0.length (bs l0)) (h2 : Sl w w.heap.size v2 zs.length (zints zs)) (hz : ∀ z ∈ zs, -9223372036854775808 ≤ z ∧ z ≤ 9223372036854775807) (g1 : l0.length ≤ 30) (g3 : zs.length ≤ 20) :
    Calls Try.prog 4 #[v0, v2] w fun e w' => e = .returned (.bool true) ∧ Below w.heap.size w w' := by
  obtain ⟨i0, hi, hz0, hz1, hz2⟩ := info_parts (show (Try.prog.info? 5).map (fun i => (i.zero, i.size, i.bytes)) = some (some (.int .u8 0), 1, 1) by kernel_rfl)
  obtain ⟨A0, c0, rfl, _, _⟩ := h0.form
  obtain ⟨A2, c2, rfl, _, _⟩ := h2.form
  have g1x : ¬ (30 : Int) < (l0.length : Int) := by omega
  have g3x : ¬ (20 : Int) < (zs.length : Int) := by omega
  have g2y : (l0.length : Int) ≤ 30 := by omega
  have cNew : ∀ W, Below w.heap.size w W → Calls Try.prog 6 #[.int .i64 8] W fun e w' => ∃ X O, e = .returned (.tuple #[.pointer (some ⟨X, 0, none⟩), .int .i64 0]) ∧ Dsk w w' X O (DS.new 8) := fun W hW => (d_new (o := w) 8 (by omega) (by omega) hW).mono fun e w' ⟨X, O, h1, h2, _⟩ => ⟨X, O, h1, h2⟩
  go_enter Try.func4, Try.ntmps4
  go_wp2_with (first
    | (go_at_call 5; refine (known_any _).mono ?_; rintro e w1 ⟨rfl, hb1⟩)
    | (go_at_call 6; (with_reducible refine (cNew _ hb1).mono ?_); rintro e w2 ⟨X, O2, rfl, s2⟩))
  have s3 := s2.below ((Below.refl _ w2).alloc (Nat.le_refl _) (.cells #[.slice none 0 0, .slice none 0 0, .slice none 0 0, .slice none 0 0, .slice none 0 0, .slice none 0 0, .slice none 0 0, .slice none 0 0] 38))
  have a3 : Arr w (w2.alloc (.cells #[.slice none 0 0, .slice none 0 0, .slice none 0 0, .slice none 0 0, .slice none 0 0, .slice none 0 0, .slice none 0 0, .slice none 0 0] 38)) w2.heap.size O2 (List.replicate 8 (.slice none 0 0)) (fun _ => []) := by
    have hv : ∀ (n : Nat) (v : Value), (List.replicate 8 (Value.slice none 0 0))[n]? = some v → v = .slice none 0 0 := fun n v hv => List.eq_of_mem_replicate (List.mem_of_getElem? hv)
    obtain ⟨V, hV⟩ := s2.is
    refine ⟨Mem.new w2 _ _, by simp, fun n v h => (by rw [hv n v h]; exact World.ownsRow_nil _ _ _ _), fun n m v u k _ h _ hk => (by rw [hv n v h] at hk; cases hk), fun h => absurd (hV.lt _ h) (Nat.lt_irrefl _), s2.bl.size, fun n v k h hk => (by rw [hv n v h] at hk; cases hk)⟩
  have hG : w2.heap.size < (w2.alloc (.cells #[.slice none 0 0, .slice none 0 0, .slice none 0 0, .slice none 0 0, .slice none 0 0, .slice none 0 0, .slice none 0 0, .slice none 0 0] 38)).heap.size := by simp
  generalize (w2.alloc (.cells #[.slice none 0 0, .slice none 0 0, .slice none 0 0, .slice none 0 0, .slice none 0 0, .slice none 0 0, .slice none 0 0, .slice none 0 0] 38)) = w3 at *
  generalize w2.heap.size = G at *
  go_loopw [8] (fun i wr => ∃ j : Nat, j ≤ l0.length ∧ i = .int .i64 j ∧ ∃ O S vs F, Dsk w wr X O S ∧ Wrs S F j ∧ Arr w wr G O vs F) (fun i _ => l0.length - (intOf i).toNat)
  case atStart => exact ⟨0, by omega, rfl, _, _, _, _, s3, Wrs.new, a3⟩
  case round =>
    obtain ⟨j, hj, rfl, O6, S6, vs6, F6, s6, t6, a6⟩ := hrel
    by_cases hjl : j < l0.length
    · obtain ⟨b1, o1, rfl, hb, hc⟩ := (h0.below s6.bl).at_ (by omega)
      have y1 := hc j _ (bs_get hjl)
      clear hc
      have hjx : (j : Int) < (l0.length : Int) := by omega
      obtain ⟨n, hn⟩ : ∃ n, (l0[j]).toNat % 8 = n := ⟨_, rfl⟩
      have hn8 : n < 8 := by omega
      obtain ⟨V6, hV6⟩ := s6.is
      have x1 : ((UInt8.ofNat (j + 1)).toNat : Int) = (j : Int) + 1 := by simp; omega
      have cW : Calls Try.prog 7 #[.pointer (some ⟨X, 0, none⟩), .int .i64 (n : Nat), .slice (some ⟨wr.heap.size, 0, none⟩) 1 1] (wr.alloc (.cells #[.int .u8 ((j : Int) + 1)] 5)) fun e w' => ∃ O', e = .returned (.int .i64 0) ∧ Dsk w w' X O' (S6.wr n [UInt8.ofNat (j + 1)]) ∧ Arr w w' G O' vs6 F6 := by
        have hb1 : Below wr.heap.size wr (wr.alloc (.cells #[.int .u8 ((j : Int) + 1)] 5)) := (Below.refl _ wr).alloc (Nat.le_refl _) _
        have hsl : Sl (wr.alloc (.cells #[.int .u8 ((j : Int) + 1)] 5)) (wr.alloc (.cells #[.int .u8 ((j : Int) + 1)] 5)).heap.size (.slice (some ⟨wr.heap.size, 0, none⟩) 1 1) 1 (bs [UInt8.ofNat (j + 1)]) := by
          have := Sl.fresh wr #[.int .u8 ((j : Int) + 1)] 5 (n := 1) rfl (by unfold maxLen; omega)
          rw [← x1] at this ⊢
          exact this
        refine (d_write (s6.below hb1) t6.up n (by rw [t6.len]; exact hn8) (by rw [t6.wtg]; omega) (by rw [t6.calls]; omega) _ [UInt8.ofNat (j + 1)] _ (Nat.le_refl _) hsl (show 1 ≤ 512 by omega) ?_).mono ?_
        · intro k _ hk hO
          obtain rfl := Option.some.inj hk
          exact absurd (hV6.lt _ hO) (Nat.lt_irrefl _)
        · rintro e w' ⟨O', rfl, h3, h4, h5⟩
          exact ⟨O', rfl, h3, (a6.below hb1).eff h4 h5⟩
      have ht := t6.next s6.fine n hn8 (UInt8.ofNat (j + 1))
      have hnx : (n : Int) < 8 := by omega
      obtain ⟨vn, hvn⟩ : ∃ v, vs6[n]? = some v := ⟨_, List.getElem?_eq_getElem (by have := a6.len; omega)⟩
      have hF6 : (F6 n).length ≤ 30 := by have := t6.few n hn8; omega
      obtain ⟨An, cn, rfl, _, _⟩ := own_form (a6.row n vn hvn)
      have hpush := fun (w7 : World) (O7 : Nat → Prop) (s7 : Dsk w w7 X O7 (S6.wr n [UInt8.ofNat (j + 1)])) (a7 : Arr w w7 G O7 vs6 F6) => (⟨a7.mem.cell n |>.trans (by simpa using hvn), fun o => owns_below (a7.row n _ hvn) ((Below.refl _ w7).alloc (Nat.le_refl _) o), fun o => (Lib.cell?_alloc_some o (a7.mem.cell n |>.trans (by simpa using hvn)))⟩ : w7.cell? ⟨G, n, none⟩ = some (.slice An (F6 n).length cn) ∧ (∀ o, (w7.alloc o).ownsRow w.heap.size 5 1 (.slice An (F6 n).length cn) (F6 n).length (bs (F6 n))) ∧ ∀ o, (w7.alloc o).cell? ⟨G, n, none⟩ = some (.slice An (F6 n).length cn))
      have hfin : ∀ (w7 w8 : World) (O7 : Nat → Prop) (v8 : Value), Dsk w w7 X O7 (S6.wr n [UInt8.ofNat (j + 1)]) → Arr w w7 G O7 vs6 F6 → (w7.alloc (.cells #[.int .u8 ((j : Int) + 1)] 5)).grownBy w8 (Value.slice An (F6 n).length cn).ownBlock → w8.ownsRow w.heap.size 5 1 v8 ((F6 n).length + 1) (bs (F6 n) ++ [.int .u8 ((j : Int) + 1)]) → (v8.ownBlock = (Value.slice An (F6 n).length cn).ownBlock ∨ v8.ownBlock = some (w7.alloc (.cells #[.int .u8 ((j : Int) + 1)] 5)).heap.size) → w8.cell? ⟨G, n, none⟩ = some (.slice An (F6 n).length cn) ∧ w8.frozen? ⟨G, n, none⟩ = false ∧ Dsk w (w8.setCell ⟨G, n, none⟩ v8) X O7 (S6.wr n [UInt8.ofNat (j + 1)]) ∧ Arr w (w8.setCell ⟨G, n, none⟩ v8) G O7 (vs6.set n v8) (fun m => if m = n then F6 n ++ [UInt8.ofNat (j + 1)] else F6 m) := by
        intro w7 w8 O7 v8 s7 a7 hg ho hat
        obtain ⟨V7, hV7⟩ := s7.is
        obtain ⟨p1, p2, p3, p4⟩ := a7.push (x := UInt8.ofNat (j + 1)) (fun k hk => hV7.lt k hk) ((Below.refl _ w7).alloc (Nat.le_refl _) (.cells #[.int .u8 ((j : Int) + 1)] 5)) s7.bl.size hvn hg (by rw [x1]; exact ho) hat
        have hsafe : ∀ k, k < w7.heap.size → O7 k → ¬ ((Value.slice An (F6 n).length cn).ownBlock = some k ∨ k = G) := by
          rintro k _ hk (h | rfl)
          · exact a7.noR n _ k hvn h hk
          · exact a7.noG hk
        exact ⟨p3, p4, ⟨⟨V7, hV7.effO p2 hsafe⟩, s7.fine, s7.from_, p2.below s7.bl s7.bl.size fun k hk h => by
          rcases h with h | rfl
          · exact (own_tag (a7.row n _ hvn) k h).1
          · exact a7.oG⟩, p1⟩
      clear hV6
      have hand := and7 l0[j]
      rw [hn] at hand
      generalize l0[j] = x at *
      have HN := Lib.hid hn
      clear hn
      have hF7 : ∀ m : Nat, m ≤ 30 → (m + 1) * 1 ≤ 140737488355328 := fun m h => by omega
      have hF8 : ∀ m : Nat, m ≤ 30 → m + 1 ≤ maxLen := fun m h => by unfold maxLen; omega
      go_wp2_with (first
        | (go_at_call 7; (with_reducible refine cW.mono ?_); rintro e w7 ⟨O7, rfl, s7, a7⟩; obtain ⟨y7, r7, q7⟩ := hpush w7 O7 s7 a7)
        | (at_builtin; (refine wpList_append_at _ rfl (.tmp 52) (.tmp 56) _ rfl w.heap.size 5 i0 _ 1 1 Try.underlying22 hi hz0 hz1 hz2 rfl (by decide) (.slice An (F6 n).length cn) (F6 n).length (bs (F6 n)) rfl (r7 _) ⟨w7.heap.size, 0, none⟩ 1 1 [.int .u8 ((j : Int) + 1)] rfl rfl (cells_one (Mem.new w7 _ _)) (by simp [Value.oneCell']) (hF8 _ hF6) (hF7 _ hF6) (by simp; exact Nat.le_succ_of_le s7.bl.size) ?_); intro v8 w8 ho8 hg8 hat8; obtain ⟨A8, c8, e8, _, _⟩ := own_form ho8; subst e8; obtain ⟨p1, p2, p3, p4⟩ := hfin w7 w8 O7 _ s7 a7 hg8 ho8 hat8))
      exact ⟨⟨j + 1, by omega, by go_num, _, _, _, _, p3, ht, p4⟩, by simp [intOf]; omega⟩
    · obtain rfl : j = l0.length := by omega
      have hwt := d_waiting s6
      rw [t6.wtg] at hwt
      have hcr := d_crash s6 t6.up.off (by rw [t6.wtg]; omega) _ zs hz (h2.below s6.bl)
      have hon := fun W hs => d_on (w := W) (o := w) (X := X) (O := O6) (S := S6.crashed zs) hs
      have haf := t6.after s6.fine zs
      go_wp2_with (first
        | (go_at_call 13; (with_reducible refine hwt.mono ?_); rintro e w7 ⟨rfl, rfl⟩)
        | (go_at_call 9; (with_reducible refine hcr.mono ?_); rintro e w7 ⟨rfl, s7, e7⟩; have a7 := a6.eff e7 (fun k hk => Or.inl hk))
        | (go_at_call 10; (with_reducible refine (hon _ s7).mono ?_); rintro e w8 ⟨rfl, s8, e8⟩; have a8 := a7.eff e8 (fun k hk => Or.inl hk)))
      generalize ({ S6.crashed zs with off := false, arm := 0, picks := [] } : DS) = S8 at *
      have hfew : ∀ m, m < 8 → (F6 m).length ≤ 30 := fun m hm => by have := t6.few m hm; omega
      have cRd : ∀ m, m < 8 → ∀ W, Dsk w W X O6 S8 → Calls Try.prog 11 #[.pointer (some ⟨X, 0, none⟩), .int .i64 (m : Nat)] W fun e w' => ∃ g, e = .returned (.tuple #[.slice (some ⟨g, 0, none⟩) 512 512, .int .i64 0]) ∧ w'.cell? ⟨g, 0, none⟩ = some (.int .u8 ((wb F6 zs m).toNat : Int)) ∧ Dsk w w' X O6 S8 ∧ Below W.heap.size W w' := by
        intro m hm W hs
        refine (d_read hs haf.dead haf.off m (by rw [haf.len]; exact hm) (by rw [haf.wtg]; omega)).mono ?_
        rintro e w' ⟨g, h1, _, h3, h4, h5⟩
        refine ⟨g, h1, ?_, h4, h5⟩
        rw [h3.cell 0, List.getElem?_toArray, haf.wa]
        show (bs (full (S8.la m)))[0]? = _
        unfold bs
        rw [List.getElem?_map, haf.head m hm]
        rfl
      clear hwt hcr hon haf s6 t6 a6 s7 a7 s3 a3
      go_loopw [10, 11] (fun k n wr => ∃ m : Nat, m ≤ 8 ∧ n = .int .i64 m ∧ k = .int .i64 (rank F6 m) ∧ Dsk w wr X O6 S8 ∧ Arr w wr G O6 vs6 F6) (fun _ n _ => 8 - (intOf n).toNat)
      case atStart => exact ⟨0, by omega, rfl, by simp [rank], s8, a8⟩
      case round =>
        obtain ⟨m, hm, rfl, rfl, s9, a9⟩ := hrel
        by_cases hm8 : m < 8
        · have cRm := cRd m hm8
          have hrn := rank_next F6 m
          have hmx : (m : Int) < 8 := by omega
          obtain ⟨vm, hvm⟩ : ∃ v, vs6[m]? = some v := ⟨_, List.getElem?_eq_getElem (by have := a9.len; omega)⟩
          have hrow := a9.row m vm hvm
          have hfm := hfew m hm8
          have ycell : wr.cell? ⟨G, m, none⟩ = some vm := (a9.mem.cell m).trans (by simpa using hvm)
          have ym0 : ∀ W, Below wr.heap.size wr W → W.cell? ⟨G, m, none⟩ = some vm := fun W hW => (hW.cell (p := ⟨G, m, none⟩) a9.mem.lt).trans ycell
          have hwbd : wb F6 zs m = match pick zs (rank F6 m) (F6 m).length with | 0 => 0 | p + 1 => ((F6 m)[p]?).getD 0 := rfl
          generalize wb F6 zs m = want at *
          by_cases h0 : F6 m = []
          · rw [if_pos h0] at hrn
            have hw0 : want = 0 := by
              have := pick_le zs (rank F6 m) (F6 m).length
              rw [h0, List.length_nil] at this hwbd
              rw [hwbd, show pick zs (rank F6 m) 0 = 0 by omega]
            subst hw0
            obtain ⟨Am, cm, rfl, _, _⟩ := own_form hrow
            have hl0 : (F6 m).length = 0 := by rw [h0]; rfl
            rw [hl0] at ycell
            have cr := cRm wr s9
            have HN := Lib.hid hrn
            clear hrn hwbd cRd cRm h0 hl0 ym0
            generalize rank F6 m = r at *
            go_wp2_with (go_at_call 11; (with_reducible refine cr.mono ?_); rintro e w10 ⟨g10, rfl, y10, s10, b10⟩)
            exact ⟨⟨m + 1, by omega, by go_num, by rw [HN.out]; rfl, s10, a9.below b10⟩, by simp [intOf]; omega⟩
          · rw [if_neg h0] at hrn
            have hpos : 0 < (F6 m).length := List.length_pos_iff.2 h0
            rcases hrow.2 with ⟨_, hh⟩ | ⟨gm, cm, cur, rfl, _, hgm, hg1, hg2, _⟩
            · omega
            have hby := own_cells hrow
            have hgml := (Array.getElem?_eq_some_iff.1 hgm).1
            have HN := Lib.hid hrn
            have hlen0 : (0 : Int) < ((F6 m).length : Int) := by omega
            by_cases hrz : rank F6 m < zs.length
            · obtain ⟨bp, op, rfl, hbp, hpc⟩ := (h2.below s9.bl).at_ (by omega)
              have yz0 := hpc (rank F6 m) _ (zints_get hrz)
              obtain ⟨z, hzj⟩ : ∃ z, zs[rank F6 m] = z := ⟨_, rfl⟩
              rw [hzj] at yz0
              have hzb := hz z (hzj ▸ List.getElem_mem hrz)
              have yz : ∀ W, Below wr.heap.size wr W → W.cell? ⟨bp, op + rank F6 m, none⟩ = some (.int .i64 z) := fun W hW => (hW.cell (p := ⟨bp, op + rank F6 m, none⟩) (World.block_lt_of_cell? wr _ yz0)).trans yz0
              obtain ⟨rr, hr0⟩ : ∃ r, z.tmod (((F6 m).length : Int) + 1) = r := ⟨_, rfl⟩
              obtain ⟨hrb, hr1, hr2⟩ := pick_tmod (k := (F6 m).length) (show zs[rank F6 m]? = some z by rw [List.getElem?_eq_getElem hrz, hzj]) hr0
              have hpl := pick_le zs (rank F6 m) (F6 m).length
              have hzb1 := hzb.1
              have hzb2 := hzb.2
              have ym := ym0
              have hbyt : ∀ W (q : Nat), Below wr.heap.size wr W → pick zs (rank F6 m) (F6 m).length = q + 1 → q < (F6 m).length ∧ W.cell? ⟨gm, q, none⟩ = some (.int .u8 (want.toNat : Int)) := by
                intro W q hW hq
                have hql : q < (F6 m).length := by omega
                have h9 := hby q _ (bs_get hql)
                rw [hq] at hwbd
                have hwq : want = (F6 m)[q] := by rw [hwbd]; simp only [List.getElem?_eq_getElem hql]; rfl
                exact ⟨hql, ((hW.cell (p := ⟨gm, q, none⟩) hgml).trans h9).trans (by rw [hwq])⟩
              have hzero : pick zs (rank F6 m) (F6 m).length = 0 → want = 0 := fun h => by rw [h] at hwbd; exact hwbd
              have hrx : (rank F6 m : Int) < (zs.length : Int) := by omega
              clear hpc hby hwbd cRd hrn h0 hz hzj
              have HR0 := Lib.hid hr0
              have cRd := cRm
              clear hr0 cRm
              generalize hkm : (F6 m).length = km at *
              have hkm30 : km ≤ 30 := hfm
              generalize rank F6 m = r at *
              generalize pick zs r km = pk at *
              have hkx : (km : Int) ≤ 30 := by omega
              have hkne : ¬ (km : Int) + 1 = 0 := by omega
              have HR1 := Lib.hid hr1
              have HR2 := Lib.hid hr2
              clear hr1 hr2 hkm
              have hrr1 := hrb.1
              have hrr2 := hrb.2
              clear hrb
              rcases Int.lt_trichotomy rr 0 with hr3 | hr3 | hr3
              · have hq0 := HR2.out hr3
                obtain ⟨q, hq⟩ : ∃ q, pk = q + 1 := ⟨pk - 1, by omega⟩
                have e7 : rr + (km : Int) + 1 - 1 = (q : Int) := by omega
                have hE0 : 0 < rr + (km : Int) + 1 := by omega
                have HB := fun W hW => hbyt W q hW hq
                have hqx : (q : Int) < (km : Int) := by have := (HB wr (Below.refl _ _)).1; omega
                have hrn : rr < 0 := hr3
                clear hq0 hbyt hzero
                have HQ := Lib.hid hq
                have HE7 := Lib.hid e7
                clear hq e7
                go_wp2
                apply calm_tail 10 [.is (.slice (some ⟨bp, op, none⟩) zs.length c2), .is (.int .i64 (r : Nat)), .is (.pointer (some ⟨bp, op + r, none⟩)), .is (.int .i64 z), .is (.int .i64 (m : Nat)), .is (.pointer (some ⟨G, m, none⟩)), .is (.slice (some ⟨gm, 0, none⟩) km cm), .is (.int .i64 (km : Nat)), .is (.int .i64 ((km : Int) + 1)), .is (.int .i64 rr)] [[], [], [0, 1], [2], [], [4], [5], [6], [7], [3, 8]] (by kernel_rfl) (by kernel_rfl) (by kernel_rfl) rfl
                intro f a1 ha1
                simp only [List.take_succ_cons, List.take_zero, putL, Act.put, List.setIfInBounds_toArray, List.set_cons_succ, List.set_cons_zero] at ha1
                subst ha1
                refine ⟨?_, ?_⟩
                · refine AllCalm.cons (fun W hB hd => ?_) ?_
                  · go_wp2_with (fail)
                    exact CalmQ.mk rfl _ rfl (Below.refl _ _) rfl
                  refine AllCalm.cons (fun W hB hd => ?_) ?_
                  · go_wp2_with (fail)
                    exact CalmQ.mk rfl _ rfl (Below.refl _ _) rfl
                  refine AllCalm.cons (fun W hB hd => ?_) ?_
                  · obtain ⟨h0, h1, -⟩ := hd
                    have h0 : f 0 = _ := h0
                    have h1 : f 1 = _ := h1
                    rw [h0, h1]
                    go_wp2_with (fail)
                    exact CalmQ.mk rfl _ rfl (Below.refl _ _) rfl
                  refine AllCalm.cons (fun W hB hd => ?_) ?_
                  · obtain ⟨h2, -⟩ := hd
                    have h2 : f 2 = _ := h2
                    rw [h2]
                    have y := yz W hB
                    go_wp2_with (fail)
                    exact CalmQ.mk rfl _ rfl (Below.refl _ _) rfl
                  refine AllCalm.cons (fun W hB hd => ?_) ?_
                  · go_wp2_with (fail)
                    exact CalmQ.mk rfl _ rfl (Below.refl _ _) rfl
                  refine AllCalm.cons (fun W hB hd => ?_) ?_
                  · obtain ⟨h4, -⟩ := hd
                    have h4 : f 4 = _ := h4
                    rw [h4]
                    go_wp2_with (fail)
                    exact CalmQ.mk rfl _ rfl (Below.refl _ _) rfl
                  refine AllCalm.cons (fun W hB hd => ?_) ?_
                  · obtain ⟨h5, -⟩ := hd
                    have h5 : f 5 = _ := h5
                    rw [h5]
                    have y := ym W hB
                    go_wp2_with (fail)
                    exact CalmQ.mk rfl _ rfl (Below.refl _ _) rfl
                  refine AllCalm.cons (fun W hB hd => ?_) ?_
                  · obtain ⟨h6, -⟩ := hd
                    have h6 : f 6 = _ := h6
                    rw [h6]
                    go_wp2_with (fail)
                    exact CalmQ.mk rfl _ rfl (Below.refl _ _) rfl
                  refine AllCalm.cons (fun W hB hd => ?_) ?_
                  · obtain ⟨h7, -⟩ := hd
                    have h7 : f 7 = _ := h7
                    rw [h7]
                    go_wp2_with (fail)
                    exact CalmQ.mk rfl _ rfl (Below.refl _ _) rfl
                  refine AllCalm.cons (fun W hB hd => ?_) ?_
                  · obtain ⟨h3, h8, -⟩ := hd
                    have h3 : f 3 = _ := h3
                    have h8 : f 8 = _ := h8
                    rw [h3, h8]
                    have hq := HR0.out
                    go_wp2_with (fail)
                    exact CalmQ.mk rfl _ rfl (Below.refl _ _) rfl
                  exact AllCalm.nil
                · intro W hB hT
                  obtain ⟨h0, h1, h2, h3, h4, h5, h6, h7, h8, h9, -⟩ := hT
                  have h0 : f 0 = _ := h0
                  have h1 : f 1 = _ := h1
                  have h2 : f 2 = _ := h2
                  have h3 : f 3 = _ := h3
                  have h4 : f 4 = _ := h4
                  have h5 : f 5 = _ := h5
                  have h6 : f 6 = _ := h6
                  have h7 : f 7 = _ := h7
                  have h8 : f 8 = _ := h8
                  have h9 : f 9 = _ := h9
                  rw [h0, h1, h2, h3, h4, h5, h6, h7, h8, h9]
                  clear h0 h1 h2 h3 h4 h5 h6 h7 h8 h9
                  simp only [List.drop_succ_cons, List.drop_zero]
                  have hsW := s9.below hB
                  have haW := a9.below hB
                  have yW := ym W hB
                  have cr := cRd W hsW
                  obtain ⟨_, yq⟩ := HB W hB
                  have e7 := HE7.out
                  go_wp2_with (go_at_call 11; (with_reducible refine cr.mono ?_); rintro e w10 ⟨g10, rfl, y10, s10, b10⟩)
                  exact ⟨⟨m + 1, by omega, by go_num, by rw [HN.out]; go_num, s10, haW.below b10⟩, by simp [intOf]; omega⟩
              · have hq0 := HR1.out (by omega)
                have hw0 : want = 0 := hzero (by omega)
                subst hw0
                subst hr3
                clear hq0 hbyt hzero
                go_wp2
                apply calm_tail 10 [.is (.slice (some ⟨bp, op, none⟩) zs.length c2), .is (.int .i64 (r : Nat)), .is (.pointer (some ⟨bp, op + r, none⟩)), .is (.int .i64 z), .is (.int .i64 (m : Nat)), .is (.pointer (some ⟨G, m, none⟩)), .is (.slice (some ⟨gm, 0, none⟩) km cm), .is (.int .i64 (km : Nat)), .is (.int .i64 ((km : Int) + 1)), .is (.int .i64 0)] [[], [], [0, 1], [2], [], [4], [5], [6], [7], [3, 8]] (by kernel_rfl) (by kernel_rfl) (by kernel_rfl) rfl
                intro f a1 ha1
                simp only [List.take_succ_cons, List.take_zero, putL, Act.put, List.setIfInBounds_toArray, List.set_cons_succ, List.set_cons_zero] at ha1
                subst ha1
                refine ⟨?_, ?_⟩
                · refine AllCalm.cons (fun W hB hd => ?_) ?_
                  · go_wp2_with (fail)
                    exact CalmQ.mk rfl _ rfl (Below.refl _ _) rfl
                  refine AllCalm.cons (fun W hB hd => ?_) ?_
                  · go_wp2_with (fail)
                    exact CalmQ.mk rfl _ rfl (Below.refl _ _) rfl
                  refine AllCalm.cons (fun W hB hd => ?_) ?_
                  · obtain ⟨h0, h1, -⟩ := hd
                    have h0 : f 0 = _ := h0
                    have h1 : f 1 = _ := h1
                    rw [h0, h1]
                    go_wp2_with (fail)
                    exact CalmQ.mk rfl _ rfl (Below.refl _ _) rfl
                  refine AllCalm.cons (fun W hB hd => ?_) ?_
                  · obtain ⟨h2, -⟩ := hd
                    have h2 : f 2 = _ := h2
                    rw [h2]
                    have y := yz W hB
                    go_wp2_with (fail)
                    exact CalmQ.mk rfl _ rfl (Below.refl _ _) rfl
                  refine AllCalm.cons (fun W hB hd => ?_) ?_
                  · go_wp2_with (fail)
                    exact CalmQ.mk rfl _ rfl (Below.refl _ _) rfl
                  refine AllCalm.cons (fun W hB hd => ?_) ?_
                  · obtain ⟨h4, -⟩ := hd
                    have h4 : f 4 = _ := h4
                    rw [h4]
                    go_wp2_with (fail)
                    exact CalmQ.mk rfl _ rfl (Below.refl _ _) rfl
                  refine AllCalm.cons (fun W hB hd => ?_) ?_
                  · obtain ⟨h5, -⟩ := hd
                    have h5 : f 5 = _ := h5
                    rw [h5]
                    have y := ym W hB
                    go_wp2_with (fail)
                    exact CalmQ.mk rfl _ rfl (Below.refl _ _) rfl
                  refine AllCalm.cons (fun W hB hd => ?_) ?_
                  · obtain ⟨h6, -⟩ := hd
                    have h6 : f 6 = _ := h6
                    rw [h6]
                    go_wp2_with (fail)
                    exact CalmQ.mk rfl _ rfl (Below.refl _ _) rfl
                  refine AllCalm.cons (fun W hB hd => ?_) ?_
                  · obtain ⟨h7, -⟩ := hd
                    have h7 : f 7 = _ := h7
                    rw [h7]
                    go_wp2_with (fail)
                    exact CalmQ.mk rfl _ rfl (Below.refl _ _) rfl
                  refine AllCalm.cons (fun W hB hd => ?_) ?_
                  · obtain ⟨h3, h8, -⟩ := hd
                    have h3 : f 3 = _ := h3
                    have h8 : f 8 = _ := h8
                    rw [h3, h8]
                    have hq := HR0.out
                    go_wp2_with (fail)
                    exact CalmQ.mk rfl _ rfl (Below.refl _ _) rfl
                  exact AllCalm.nil
                · intro W hB hT
                  obtain ⟨h0, h1, h2, h3, h4, h5, h6, h7, h8, h9, -⟩ := hT
                  have h0 : f 0 = _ := h0
                  have h1 : f 1 = _ := h1
                  have h2 : f 2 = _ := h2
                  have h3 : f 3 = _ := h3
                  have h4 : f 4 = _ := h4
                  have h5 : f 5 = _ := h5
                  have h6 : f 6 = _ := h6
                  have h7 : f 7 = _ := h7
                  have h8 : f 8 = _ := h8
                  have h9 : f 9 = _ := h9
                  rw [h0, h1, h2, h3, h4, h5, h6, h7, h8, h9]
                  clear h0 h1 h2 h3 h4 h5 h6 h7 h8 h9
                  simp only [List.drop_succ_cons, List.drop_zero]
                  have hsW := s9.below hB
                  have haW := a9.below hB
                  have yW := ym W hB
                  have cr := cRd W hsW
                  go_wp2_with (go_at_call 11; (with_reducible refine cr.mono ?_); rintro e w10 ⟨g10, rfl, y10, s10, b10⟩)
                  exact ⟨⟨m + 1, by omega, by go_num, by rw [HN.out]; go_num, s10, haW.below b10⟩, by simp [intOf]; omega⟩
              · have hq0 := HR1.out (by omega)
                obtain ⟨q, hq⟩ : ∃ q, pk = q + 1 := ⟨pk - 1, by omega⟩
                have e7 : rr - 1 = (q : Int) := by omega
                have HB := fun W hW => hbyt W q hW hq
                have hqx : (q : Int) < (km : Int) := by have := (HB wr (Below.refl _ _)).1; omega
                have hrn : ¬ rr < 0 := by omega
                clear hq0 hbyt hzero
                have HQ := Lib.hid hq
                have HE7 := Lib.hid e7
                clear hq e7
                go_wp2
                apply calm_tail 10 [.is (.slice (some ⟨bp, op, none⟩) zs.length c2), .is (.int .i64 (r : Nat)), .is (.pointer (some ⟨bp, op + r, none⟩)), .is (.int .i64 z), .is (.int .i64 (m : Nat)), .is (.pointer (some ⟨G, m, none⟩)), .is (.slice (some ⟨gm, 0, none⟩) km cm), .is (.int .i64 (km : Nat)), .is (.int .i64 ((km : Int) + 1)), .is (.int .i64 rr)] [[], [], [0, 1], [2], [], [4], [5], [6], [7], [3, 8]] (by kernel_rfl) (by kernel_rfl) (by kernel_rfl) rfl
                intro f a1 ha1
                simp only [List.take_succ_cons, List.take_zero, putL, Act.put, List.setIfInBounds_toArray, List.set_cons_succ, List.set_cons_zero] at ha1
                subst ha1
                refine ⟨?_, ?_⟩
                · refine AllCalm.cons (fun W hB hd => ?_) ?_
                  · go_wp2_with (fail)
                    exact CalmQ.mk rfl _ rfl (Below.refl _ _) rfl
                  refine AllCalm.cons (fun W hB hd => ?_) ?_
                  · go_wp2_with (fail)
                    exact CalmQ.mk rfl _ rfl (Below.refl _ _) rfl
                  refine AllCalm.cons (fun W hB hd => ?_) ?_
                  · obtain ⟨h0, h1, -⟩ := hd
                    have h0 : f 0 = _ := h0
                    have h1 : f 1 = _ := h1
                    rw [h0, h1]
                    go_wp2_with (fail)
                    exact CalmQ.mk rfl _ rfl (Below.refl _ _) rfl
                  refine AllCalm.cons (fun W hB hd => ?_) ?_
                  · obtain ⟨h2, -⟩ := hd
                    have h2 : f 2 = _ := h2
                    rw [h2]
                    have y := yz W hB
                    go_wp2_with (fail)
                    exact CalmQ.mk rfl _ rfl (Below.refl _ _) rfl
                  refine AllCalm.cons (fun W hB hd => ?_) ?_
                  · go_wp2_with (fail)
                    exact CalmQ.mk rfl _ rfl (Below.refl _ _) rfl
                  refine AllCalm.cons (fun W hB hd => ?_) ?_
                  · obtain ⟨h4, -⟩ := hd
                    have h4 : f 4 = _ := h4
                    rw [h4]
                    go_wp2_with (fail)
                    exact CalmQ.mk rfl _ rfl (Below.refl _ _) rfl
                  refine AllCalm.cons (fun W hB hd => ?_) ?_
                  · obtain ⟨h5, -⟩ := hd
                    have h5 : f 5 = _ := h5
                    rw [h5]
                    have y := ym W hB
                    go_wp2_with (fail)
                    exact CalmQ.mk rfl _ rfl (Below.refl _ _) rfl
                  refine AllCalm.cons (fun W hB hd => ?_) ?_
                  · obtain ⟨h6, -⟩ := hd
                    have h6 : f 6 = _ := h6
                    rw [h6]
                    go_wp2_with (fail)
                    exact CalmQ.mk rfl _ rfl (Below.refl _ _) rfl
                  refine AllCalm.cons (fun W hB hd => ?_) ?_
                  · obtain ⟨h7, -⟩ := hd
                    have h7 : f 7 = _ := h7
                    rw [h7]
                    go_wp2_with (fail)
                    exact CalmQ.mk rfl _ rfl (Below.refl _ _) rfl
                  refine AllCalm.cons (fun W hB hd => ?_) ?_
                  · obtain ⟨h3, h8, -⟩ := hd
                    have h3 : f 3 = _ := h3
                    have h8 : f 8 = _ := h8
                    rw [h3, h8]
                    have hq := HR0.out
                    go_wp2_with (fail)
                    exact CalmQ.mk rfl _ rfl (Below.refl _ _) rfl
                  exact AllCalm.nil
                · intro W hB hT
                  obtain ⟨h0, h1, h2, h3, h4, h5, h6, h7, h8, h9, -⟩ := hT
                  have h0 : f 0 = _ := h0
                  have h1 : f 1 = _ := h1
                  have h2 : f 2 = _ := h2
                  have h3 : f 3 = _ := h3
                  have h4 : f 4 = _ := h4
                  have h5 : f 5 = _ := h5
                  have h6 : f 6 = _ := h6
                  have h7 : f 7 = _ := h7
                  have h8 : f 8 = _ := h8
                  have h9 : f 9 = _ := h9
                  rw [h0, h1, h2, h3, h4, h5, h6, h7, h8, h9]
                  clear h0 h1 h2 h3 h4 h5 h6 h7 h8 h9
                  simp only [List.drop_succ_cons, List.drop_zero]
                  have hsW := s9.below hB
                  have haW := a9.below hB
                  have yW := ym W hB
                  have cr := cRd W hsW
                  obtain ⟨_, yq⟩ := HB W hB
                  have e7 := HE7.out
                  go_wp2_with (go_at_call 11; (with_reducible refine cr.mono ?_); rintro e w10 ⟨g10, rfl, y10, s10, b10⟩)
                  exact ⟨⟨m + 1, by omega, by go_num, by rw [HN.out]; go_num, s10, haW.below b10⟩, by simp [intOf]; omega⟩
            · have hp0 : pick zs (rank F6 m) (F6 m).length = 0 := by unfold pick; rw [List.getElem?_eq_none (by omega)]
              rw [hp0] at hwbd
              have hw0 : want = 0 := hwbd
              subst hw0
              have hrx : ¬ (rank F6 m : Int) < (zs.length : Int) := by omega
              have hr8 : (rank F6 m : Int) ≤ 8 := by have := rank_le F6 m; omega
              have cr := cRm wr s9
              clear cRm cRd hrn hp0 hwbd h0 ym0 hby hz
              generalize (F6 m).length = km at *
              generalize rank F6 m = r at *
              go_wp2_with (go_at_call 11; (with_reducible refine cr.mono ?_); rintro e w10 ⟨g10, rfl, y10, s10, b10⟩)
              exact ⟨⟨m + 1, by omega, by go_num, by rw [HN.out]; go_num, s10, a9.below b10⟩, by simp [intOf]; omega⟩
        · obtain rfl : m = 8 := by omega
          go_wp2
          go_ret
          exact ⟨rfl, s9.bl⟩

set_option maxRecDepth 100000 in
theorem walk_no (v0 : Value) (l0 : List UInt8) (v2 : Value) (zs : List Int) (w : World) (h0 : Sl w w.heap.size v0 l0.length (bs l0)) (h2 : Sl w w.heap.size v2 zs.length (zints zs)) (hno : 30 < l0.length ∨ 20 < zs.length) :
    Calls Try.prog 4 #[v0, v2] w fun e w' => e = .returned (.bool true) ∧ Below w.heap.size w w' := by
  obtain ⟨A0, c0, rfl, _, _⟩ := h0.form
  obtain ⟨A2, c2, rfl, _, _⟩ := h2.form
  by_cases g1 : 30 < l0.length
  · have g1x : (30 : Int) < (l0.length : Int) := by omega
    go_enter Try.func4, Try.ntmps4
    go_wp2_with (go_at_call 5; refine (known_any _).mono ?_; rintro e w1 ⟨rfl, hb1⟩)
    go_ret
    exact ⟨rfl, hb1⟩
  have g1x : ¬ (30 : Int) < (l0.length : Int) := by omega
  have g3x : (20 : Int) < (zs.length : Int) := by omega
  go_enter Try.func4, Try.ntmps4
  go_wp2_with (go_at_call 5; refine (known_any _).mono ?_; rintro e w1 ⟨rfl, hb1⟩)
  go_ret
  exact ⟨rfl, hb1⟩
theorem walk (v0 : Value) (l0 : List UInt8) (v2 : Value) (zs : List Int) (w : World) (h0 : Sl w w.heap.size v0 l0.length (bs l0)) (h2 : Sl w w.heap.size v2 zs.length (zs.map (Value.int .i64))) (hw : ∀ n ∈ zs, (Lit.int .i64 n).wf = true) :
    Calls Try.prog 4 #[v0, v2] w fun e w' => e = .returned (.bool true) ∧ Below w.heap.size w w' := by
  by_cases hno : 30 < l0.length ∨ 20 < zs.length
  · exact walk_no v0 l0 v2 zs w h0 h2 hno
  · exact walk_yes v0 l0 v2 zs w h0 h2 (fun z hz => bounds_i64 (hw z hz)) (by omega) (by omega)
set_option maxRecDepth 100000 in
theorem lifted (os : Os) (started : os.Started) (H : Type) (enc : TypeId × Value → H) :
    ReturnsInHanded {} Try.checked os 4 .any (Rows.diskOrderSpec.pre6 enc Try.prog Try.f4 Rows.diskOrderRow.domain false) (Rows.diskOrderSpec.post enc Try.prog Try.f4 false true false false) := by
  refine returnsInHanded_of_change (C := Try.checked) own started (by kernel_rfl) Try.func4
    (ChangeSpec.witness6 (enc := enc) (C := Try.checked) false ⟨#[], #[.slice none 0 0, .slice none 0 0], []⟩ 8 (by kernel_rfl) (by kernel_rfl) (by kernel_rfl) (by kernel_rfl)) ?_
  intro W base args ds gs before hval0 hW hcnd _
  have hval : ∀ (j : Nat) t v, Try.f4.params[j]? = some t → args[j]? = some v → Value.okWide Try.prog W .any base t v := hval0
  have hW' := hW
  obtain ⟨p, q, hA0, hV, rfl, hfz, hnd⟩ := hW
  have hA : DataW.TrodAll enc Try.prog W 0 (fun _ => true) true Try.f4.params.toList args.toList ds p := hA0
  rw [Try.params4] at hA hval
  obtain ⟨v0, vs0, d0, ds0, p0, q0, hargs, rfl, rfl, h0, r0⟩ := trodAll_cons hA
  obtain ⟨v1, vs1, d1, ds1, p1, q1, rfl, rfl, rfl, h1, r1⟩ := trodAll_cons r0
  obtain ⟨rfl, rfl, rfl⟩ := trodAll_nil r1
  obtain rfl : args = #[v0, v1] := by cases args; simp_all
  obtain ⟨rfl, rfl⟩ := trodVars_none hV
  obtain ⟨l0, s0, e0⟩ := open_bytes Try.underlying22 Try.underlying5 (by kernel_rfl) (hval 0 22 v0 rfl rfl) h0
  obtain ⟨z1, s1, w1, e1⟩ := open_sl Try.underlying24 Try.underlying3 (by kernel_rfl) (hval 1 24 v1 rfl rfl) h1
  refine (walk v0 l0 v1 z1 W s0 s1 w1).mono fun e W' ⟨he, hb⟩ => ?_
  subst he
  exact ⟨_, rfl, law_post laidOut (by kernel_rfl) rfl (by kernel_rfl) Try.underlying4 rfl rfl rfl hW' hb⟩

theorem proved : Rows.DiskOrderSaid :=
  OpenClaim.holds_of_wide 4 Try.f4 rfl rfl rfl rfl rfl rfl rfl ⟨rfl, rfl, rfl, rfl, rfl⟩ rfl rfl rfl rfl rfl (by kernel_rfl) Try.func4 (by kernel_rfl)
    (of_decide_eq_true (by kernel_rfl)) (by unfold Func.isWrapper; first | (rw [if_pos (by decide +kernel)]; kernel_rfl) | (rw [if_neg (by decide +kernel)]; exact ⟨rfl, rfl⟩))
    (fun os started H enc _ => lifted os started H enc)
end Dk
end Go.Proofs.Ythjfigfjkjgogaa
