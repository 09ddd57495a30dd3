/- Package store: a store in memory; put. -/
import Derived.Test.YtpfackjnnkjjdaaSe4
import Derived.Test.YtpfackjnnkjjdaaTnF
import Derived.Deep.MidRow
namespace Go.Proofs.Ytpfackjnnkjjdaa
open Go.ChangeShapes Go.WideShapes Go.ChangeAt Go.RowKit Go.Lib
set_option linter.unusedVariables false
set_option linter.unusedSimpArgs false
set_option maxRecDepth 100000
namespace Se
open Crc Dk Tw
/-- A store's cells. -/
def stRow (X Yt : Nat) (r : Rt) (sv jp : Value) : Array Value := #[.pointer (some ⟨X, 0, none⟩), .pointer (some ⟨Yt, 0, none⟩), .int .u64 (r.epoch : Nat), .int .u64 (r.base : Nat), .int .u64 (r.first : Nat), .int .i64 (r.place : Nat), .int .u32 (r.life : Nat), .int .i64 (r.side : Nat), .int .i64 (r.size : Nat), .int .u32 (r.sum : Nat), sv, jp]
/-- A store made since o but for its journal: disk, twin, its own cells, its snapshot; G: the journal's blocks, which are none of these. -/
structure StM (o w : World) (X : Nat) (O : Nat → Prop) (S : DS) (Yt n Z : Nat) (r rz : Rt) (l : List UInt8) (jp : Value) (G : Nat → Prop) : Prop where
  dsk : Dsk o w X O S
  tw : ∃ v, TwM o.heap.size w O Yt X 0 n v (rootB r) ∧ ∀ k, v.ownBlock = some k → ¬ G k
  mem : ∃ sv, Mem w Z 66 (stRow X Yt rz sv jp) ∧ w.ownsRow o.heap.size 5 1 sv l.length (bs l) ∧ ∀ k, sv.ownBlock = some k → ¬ O k ∧ ¬ G k
  from_ : o.heap.size ≤ Z
  noZ : ¬ O Z
  gY : ¬ G Yt
  gZ : ¬ G Z
  gO : ∀ k, G k → ¬ O k
  glt : ∀ k, G k → k < w.heap.size
section
variable {o w w' : World} {X Yt n Z : Nat} {O G : Nat → Prop} {S : DS} {r rz r' : Rt} {l : List UInt8} {jp : Value}
theorem StM.below (h : StM o w X O S Yt n Z r rz l jp G) (hb : Below w.heap.size w w') : StM o w' X O S Yt n Z r rz l jp G := by
  obtain ⟨h1, ⟨v, h2, h2'⟩, ⟨sv, h3, h4, h5⟩, h6, h7, h8, h9, h10, h11⟩ := h
  exact ⟨h1.below hb, ⟨v, h2.below hb, h2'⟩, ⟨sv, h3.below hb h3.lt, owns_below h4 hb, h5⟩, h6, h7, h8, h9, h10, fun k hk => Nat.lt_of_lt_of_le (h11 k hk) hb.size⟩
theorem StM.oLt (h : StM o w X O S Yt n Z r rz l jp G) : ∀ q, O q → q < w.heap.size := by
  obtain ⟨V, hV⟩ := h.dsk.is
  exact hV.lt
def putAll (cs : Array Value) : Nat → List Value → Array Value
  | _, [] => cs
  | o, v :: r => putAll (cs.setIfInBounds o v) (o + 1) r
theorem mem_setCells {g t : Nat} (vs : List Value) : ∀ (o : Nat) (w : World) (cs : Array Value), Mem w g t cs → Mem (w.setCells g o vs) g t (putAll cs o vs) := by
  induction vs with
  | nil => exact fun o w cs h => h
  | cons v r ih => exact fun o w cs h => ih (o + 1) _ _ (h.put o v)
theorem eff_setCells {g : Nat} (vs : List Value) : ∀ (o : Nat) (w : World), Eff (fun k => k = g) w (w.setCells g o vs) := by
  induction vs with
  | nil => exact fun o w => Eff.refl _ w
  | cons v r ih => exact fun o w => (Eff.setCell (S := fun k => k = g) (Eff.refl _ w) (p := ⟨g, o, none⟩) rfl v).trans (ih (o + 1) _) fun _ _ h => h
/-- Another root in the store's cells. -/
theorem st_root {w : World} {Z X Yt : Nat} {r r' : Rt} {sv jp : Value} (hm : Mem w Z 66 (stRow X Yt r sv jp)) : Mem (w.setCells Z 2 [.int .u64 (r'.epoch : Nat), .int .u64 (r'.base : Nat), .int .u64 (r'.first : Nat), .int .i64 (r'.place : Nat), .int .u32 (r'.life : Nat), .int .i64 (r'.side : Nat), .int .i64 (r'.size : Nat), .int .u32 (r'.sum : Nat)]) Z 66 (stRow X Yt r' sv jp) ∧ Eff (fun k => k = Z) w (w.setCells Z 2 [.int .u64 (r'.epoch : Nat), .int .u64 (r'.base : Nat), .int .u64 (r'.first : Nat), .int .i64 (r'.place : Nat), .int .u32 (r'.life : Nat), .int .i64 (r'.side : Nat), .int .i64 (r'.size : Nat), .int .u32 (r'.sum : Nat)]) ∧ w.there Z 2 8 := by
  refine ⟨?_, eff_setCells _ _ _, ?_⟩
  · have e : putAll (stRow X Yt r sv jp) 2 [.int .u64 (r'.epoch : Nat), .int .u64 (r'.base : Nat), .int .u64 (r'.first : Nat), .int .i64 (r'.place : Nat), .int .u32 (r'.life : Nat), .int .i64 (r'.side : Nat), .int .i64 (r'.size : Nat), .int .u32 (r'.sum : Nat)] = stRow X Yt r' sv jp := by simp [putAll, stRow]
    rw [← e]
    exact mem_setCells _ _ _ _ hm
  · intro j hj
    refine ⟨?_, hm.free _⟩
    rw [hm.cell]
    have : j = 0 ∨ j = 1 ∨ j = 2 ∨ j = 3 ∨ j = 4 ∨ j = 5 ∨ j = 6 ∨ j = 7 := by omega
    rcases this with rfl | rfl | rfl | rfl | rfl | rfl | rfl | rfl <;> rfl
set_option maxHeartbeats 4000000 in
theorem put_any' (h : StM o w X O S Yt n Z r rz l jp G) (hu : S.up) (hl : S.last.length = 610) (hw : S.wtg ≤ 1000) (hc : S.calls ≤ 1000000) (hn : n ≤ 1000000) (hr : r'.Ok) : Calls Try.prog 28 #[.pointer (some ⟨Z, 0, none⟩), .agg #[.int .u64 (r'.epoch : Nat), .int .u64 (r'.base : Nat), .int .u64 (r'.first : Nat), .int .i64 (r'.place : Nat), .int .u32 (r'.life : Nat), .int .i64 (r'.side : Nat), .int .i64 (r'.size : Nat), .int .u32 (r'.sum : Nat)]] w fun e w' => ∃ O', e = .returned (.int .i64 0) ∧ StM o w' X O' (Tw.putS S 0 (n + 1) (rootB r')) Yt (n + 1) Z r' r' l jp G ∧ Eff (fun k => O k ∨ k = Yt ∨ k = Z) w w' ∧ ∀ k, O' k → O k ∨ w.heap.size ≤ k := by
  have hOlt := h.oLt
  obtain ⟨hdsk, ⟨tv, htw, htG⟩, ⟨sv, hm, hsv, hsOG⟩, hfrom, hnoZ, hgY, hgZ, hgO, hglt⟩ := h
  have hsO := fun k hk => (hsOG k hk).1
  obtain ⟨w1, e1, mb1, b1⟩ : ∃ w1, w1 = w.alloc (.cells #[.int .u64 (r'.epoch : Nat), .int .u64 (r'.base : Nat), .int .u64 (r'.first : Nat), .int .i64 (r'.place : Nat), .int .u32 (r'.life : Nat), .int .i64 (r'.side : Nat), .int .i64 (r'.size : Nat), .int .u32 (r'.sum : Nat)] 57) ∧ Mem w1 w.heap.size 57 #[.int .u64 (r'.epoch : Nat), .int .u64 (r'.base : Nat), .int .u64 (r'.first : Nat), .int .i64 (r'.place : Nat), .int .u32 (r'.life : Nat), .int .i64 (r'.side : Nat), .int .i64 (r'.size : Nat), .int .u32 (r'.sum : Nat)] ∧ Below w.heap.size w w1 := ⟨_, rfl, Mem.new w _ _, (Below.refl _ w).alloc (Nat.le_refl _) _⟩
  have m1 := hm.below b1 hm.lt
  have ce : ∀ W, Calls Try.prog 23 #[.agg #[.int .u64 (r'.epoch : Nat), .int .u64 (r'.base : Nat), .int .u64 (r'.first : Nat), .int .i64 (r'.place : Nat), .int .u32 (r'.life : Nat), .int .i64 (r'.side : Nat), .int .i64 (r'.size : Nat), .int .u32 (r'.sum : Nat)]] W fun e w' => ∃ v, e = .returned v ∧ w'.ownsRow W.heap.size 5 1 v 37 (bs (rootB r')) ∧ Below W.heap.size W w' := fun W => encode_any r' hr
  have cp : ∀ W v, Below w.heap.size w W → W.ownsRow w.heap.size 5 1 v 37 (bs (rootB r')) → Calls Try.prog 54 #[.pointer (some ⟨Yt, 0, none⟩), v] W fun e w' => ∃ O' v', e = .returned (.int .i64 0) ∧ Dsk o w' X O' (Tw.putS S 0 (n + 1) (rootB r')) ∧ TwM o.heap.size w' O' Yt X 0 (n + 1) v' (rootB r') ∧ Eff (fun k => O k ∨ k = Yt) W w' ∧ (∀ k, O' k → O k ∨ W.heap.size ≤ k) ∧ ∀ k, v'.ownBlock = some k → W.heap.size ≤ k := fun W v hW hv => put_okf (hdsk.below hW) hu (by omega) (by omega) (by omega) (htw.below hW) (Nat.le_refl _) (by omega) v (rootB r') (by rw [rootB_len]; exact Sl.of_own hv) (fun k hk => by
    have h1 := (own_tag hv k hk)
    have h2 := htw.mem.lt
    exact ⟨by omega, fun hO => by have := hOlt k hO; omega⟩) (by rw [rootB_len]; decide)
  clear hu hl hw hc hn hr
  go_enter Try.func28, Try.ntmps28
  go_upto_region 1 with (fail)
  rw [← e1]
  clear e1
  apply calm_tail 6 [.is _, .is _, .is _, .is _, .is _, .of (fun v W => ∃ A c, v = .slice A 37 c ∧ W.ownsRow w.heap.size 5 1 v 37 (bs (rootB r'))) (fun v W W' hb ⟨A, c, h0, h1⟩ => ⟨A, c, h0, owns_below h1 hb⟩)] [[], [0], [1], [2], [], [4]] (by kernel_rfl) (by kernel_rfl) (by kernel_rfl) rfl
  intro f a1 ha1
  simp only [List.take_succ_cons, List.take_zero, putL, Act.put, List.setIfInBounds_toArray, List.set_cons_succ, List.set_cons_zero] at ha1
  subst ha1
  refine ⟨?_, ?_⟩
  · refine AllCalm.cons (fun W hB hd => ?_) ?_
    · go_wp2_with (fail)
      exact CalmQ.mk rfl _ rfl (Below.refl _ _) rfl
    refine AllCalm.cons (fun W hB hd => ?_) ?_
    · obtain ⟨h0, -⟩ := hd
      have h0 : f 0 = _ := h0
      rw [h0]
      go_wp2_with (fail)
      exact CalmQ.mk rfl _ rfl (Below.refl _ _) rfl
    refine AllCalm.cons (fun W hB hd => ?_) ?_
    · obtain ⟨h1, -⟩ := hd
      have h1 : f 1 = _ := h1
      rw [h1]
      go_wp2_with (fail)
      exact CalmQ.mk rfl _ rfl (Below.refl _ _) rfl
    refine AllCalm.cons (fun W hB hd => ?_) ?_
    · obtain ⟨h2, -⟩ := hd
      have h2 : f 2 = _ := h2
      rw [h2]
      have k1 : W.cell? ⟨Z, 1, none⟩ = some (.pointer (some ⟨Yt, 0, none⟩)) := (m1.below hB m1.lt).cell 1
      go_wp2_with (fail)
      exact CalmQ.mk rfl _ rfl (Below.refl _ _) rfl
    refine AllCalm.cons (fun W hB hd => ?_) ?_
    · have kb := mb1.below hB mb1.lt; have k0 := kb.cell 0; have k1 := kb.cell 1; have k2 := kb.cell 2; have k3 := kb.cell 3; have k4 := kb.cell 4; have k5 := kb.cell 5; have k6 := kb.cell 6; have k7 := kb.cell 7
      go_wp2_with (fail)
      exact CalmQ.mk rfl _ rfl (Below.refl _ _) rfl
    refine AllCalm.cons (fun W hB hd => ?_) ?_
    · obtain ⟨h4, -⟩ := hd
      have h4 : f 4 = _ := h4
      rw [h4]
      have cW := ce W
      go_wp2_with ((go_at_call 23; (with_reducible refine cW.mono ?_); rintro e' w3 ⟨v3, rfl, ho3, hb3⟩; obtain ⟨A3, c3, rfl, _, _⟩ := own_form ho3))
      exact CalmQ.mk rfl _ rfl hb3 ⟨A3, c3, rfl, owns_mono ho3 (Nat.le_trans b1.size hB.size)⟩
    exact AllCalm.nil
  · intro W hB hT
    obtain ⟨h0, h1, h2, h3, h4, h5, -⟩ := hT
    have h0 : f 0 = _ := h0
    have h1 : f 1 = _ := h1
    have h2 : f 2 = _ := h2
    have h3 : f 3 = _ := h3
    have h4 : f 4 = _ := h4
    rw [h0, h1, h2, h3, h4]
    clear h0 h1 h2 h3 h4
    simp only [List.drop_succ_cons, List.drop_zero]
    obtain ⟨A5, c5, e5, o5⟩ := h5
    rw [e5] at o5 ⊢
    have bW := b1.trans (hB.mono b1.size)
    have cpW := cp W _ bW o5
    have mbW := mb1.below hB mb1.lt
    have mW := m1.below hB m1.lt
    have hlt1 := hm.lt
    go_wp2_with (first
      | (go_at_call 54; (with_reducible refine cpW.mono ?_); rintro e' w9 ⟨O9, v9, rfl, d9, t9, E9, ho9, fr9⟩; have mb9 := mbW.eff E9 (fun e => e.elim (fun hO => (by have := hOlt _ hO; omega)) (fun e => (by have := htw.mem.lt; omega))); have m9 := mW.eff E9 (fun e => e.elim hnoZ (fun e => (mem_tag hm).ne (mem_tag htw.mem) (by decide) e)); have k20 := st_root (r' := r') m9)
      | (refine wpList_load_row rfl 57 (.tmp 3) rfl w.heap.size rfl 57 #[.int .u64 (r'.epoch : Nat), .int .u64 (r'.base : Nat), .int .u64 (r'.first : Nat), .int .i64 (r'.place : Nat), .int .u32 (r'.life : Nat), .int .i64 (r'.side : Nat), .int .i64 (r'.size : Nat), .int .u32 (r'.sum : Nat)] (0, 0) _ mb9 Try.underlying57 rfl (by kernel_rfl) ?_)
      | (refine wpList_store_mid rfl 57 (.tmp 19) (.tmp 17) rfl Z 2 #[.int .u64 (r'.epoch : Nat), .int .u64 (r'.base : Nat), .int .u64 (r'.first : Nat), .int .i64 (r'.place : Nat), .int .u32 (r'.life : Nat), .int .i64 (r'.side : Nat), .int .i64 (r'.size : Nat), .int .u32 (r'.sum : Nat)] rfl rfl k20.2.2 (by kernel_rfl) (by kernel_rfl) ?_))
    obtain ⟨mF, EF, -⟩ := k20
    have hZ9 : ¬ O9 Z := fun h => (ho9 Z h).elim hnoZ fun h => by have := bW.size; omega
    have hs9 := owns_eff (owns_below hsv bW) E9 fun k hk e => e.elim (hsO k hk) fun e => (own_tag hsv k hk).2.2.ne (mem_tag htw.mem) (by decide) e
    have dF := d9.effO EF (fun q _ hO hq => hZ9 (hq ▸ hO)) (fun q _ hq => hq ▸ hfrom)
    have sF := owns_eff hs9 EF fun k hk e => (own_tag hs9 k hk).2.2.ne (mem_tag m9) (by decide) e
    have tF : TwM o.heap.size (w9.setCells Z 2 [.int .u64 (r'.epoch : Nat), .int .u64 (r'.base : Nat), .int .u64 (r'.first : Nat), .int .i64 (r'.place : Nat), .int .u32 (r'.life : Nat), .int .i64 (r'.side : Nat), .int .i64 (r'.size : Nat), .int .u32 (r'.sum : Nat)]) O9 Yt X 0 (n + 1) v9 (rootB r') := ⟨t9.mem.eff EF fun e => (mem_tag t9.mem).ne (mem_tag m9) (by decide) e, owns_eff t9.row EF fun k hk e => (own_tag t9.row k hk).2.2.ne (mem_tag m9) (by decide) e, t9.from_, t9.noY, t9.noV, t9.fit, t9.few⟩
    have eF : Eff (fun k => O k ∨ k = Yt ∨ k = Z) w (w9.setCells Z 2 [.int .u64 (r'.epoch : Nat), .int .u64 (r'.base : Nat), .int .u64 (r'.first : Nat), .int .i64 (r'.place : Nat), .int .u32 (r'.life : Nat), .int .i64 (r'.side : Nat), .int .i64 (r'.size : Nat), .int .u32 (r'.sum : Nat)]) := ((Eff.of (S := fun k => O k ∨ k = Yt ∨ k = Z) bW).trans E9 fun k _ h => h.elim .inl fun h => .inr (.inl h)).trans EF fun k _ h => .inr (.inr h)
    exact bodyPost_ret (v := .int .i64 0) (by simp [results, Try.results28, go_sem]) rfl ⟨O9, rfl, ⟨dF, ⟨v9, tF, fun k hk hG => by have := fr9 k hk; have := hglt k hG; have := bW.size; omega⟩, ⟨sv, mF, sF, fun k hk => ⟨fun hO => (ho9 k hO).elim (hsO k hk) fun h => by have := (own_tag hsv k hk).2.1; have := bW.size; omega, (hsOG k hk).2⟩⟩, hfrom, hZ9, hgY, hgZ, fun k hG hO => (ho9 k hO).elim (hgO k hG) fun h => by have := hglt k hG; have := bW.size; omega, fun k hG => Nat.lt_of_lt_of_le (hglt k hG) eF.size⟩, eF, fun k hk => (ho9 k hk).imp id fun h => Nat.le_trans bW.size h⟩
end
end Se
end Go.Proofs.Ytpfackjnnkjjdaa
