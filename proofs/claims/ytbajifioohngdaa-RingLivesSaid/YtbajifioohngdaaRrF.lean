/- RingFull: a ring, and the list of what its records need. -/
import Derived.Test.YtbajifioohngdaaRrK
namespace Go.Proofs.Ytbajifioohngdaa
open Go.ChangeShapes Go.WideShapes Go.ChangeAt Go.RowKit Go.Lib
set_option linter.unusedVariables false
set_option linter.unusedSimpArgs false
theorem RowO.self {w : World} {O : Nat → Prop} {e n : Nat} {v : Value} {xs : List Value} (h : RowO w O e v n xs) : RowO w (fun k => v.ownBlock = some k) e v n xs := by
  refine ⟨h.1, h.2.imp id ?_⟩
  rintro ⟨g, off, c, cs, rfl, h1, h2, h3⟩
  exact ⟨g, off, c, cs, rfl, h1, rfl, h3⟩
namespace Rg
open Crc Dk
theorem Rng.effM {o w w' : World} {X Y : Nat} {O R : Nat → Prop} {S : DS} {T : RS} {Q : Nat → Prop} (h : Rng o w X O S Y R T) (he : Eff Q w w') (hQ : ∀ k, k < w.heap.size → O k ∨ R k → ¬ Q k) (hb : ∀ k, k < w.heap.size → Q k → o.heap.size ≤ k) : Rng o w' X O S Y R T := by
  obtain ⟨rv, D, hM⟩ := h.is
  exact ⟨h.dsk.effN he (fun k hk hO => hQ k hk (.inl hO)) hb, ⟨rv, D, hM.eff he fun k hk hR => hQ k hk (.inr hR)⟩, h.ok, h.from_, h.no⟩
theorem Rng.all_lt {o w : World} {X Y : Nat} {O R : Nat → Prop} {S : DS} {T : RS} (h : Rng o w X O S Y R T) : ∀ k, O k ∨ R k → k < w.heap.size := by
  obtain ⟨rv, D, hM⟩ := h.is
  obtain ⟨V, hV⟩ := h.dsk.is
  exact fun k hk => hk.elim (hV.lt k) (hM.lt k)
def sumN (L : List Nat) : Nat := L.foldr (· + ·) 0
def needs (T : RS) : List Nat := T.recs.map fun l => need l.length
/-- A ring whose records need what the list L says; at most j were appended. -/
structure Fl (w W : World) (s X Y j : Nat) (T : RS) (A : Option Addr) (c : Nat) (L : List Nat) : Prop where
  ex : ∃ O R S, Rng w W X O S Y R T ∧ S.up ∧ S.last.length = s ∧ S.wtg ≤ 70 * j ∧ S.calls ≤ 70 * j ∧ ∀ k, (Value.slice A L.length c).ownBlock = some k → ¬ O k ∧ ¬ R k ∧ w.heap.size ≤ k
  row : RowO W (fun k => (Value.slice A L.length c).ownBlock = some k) 3 (.slice A L.length c) L.length (ints L)
  n : T.n = s
  nx : T.next ≤ 1 + j
  sum : T.used = sumN (needs T)
  life : T.life = 1
section
variable {w W W' : World} {s X Y j : Nat} {T : RS} {A : Option Addr} {c : Nat} {L : List Nat}
theorem sumN_app (a b : List Nat) : sumN (a ++ b) = sumN a + sumN b := by
  unfold sumN
  induction a with
  | nil => simp
  | cons x a ih => simp [ih]; omega
theorem Fl.below (h : Fl w W s X Y j T A c L) (hb : Below W.heap.size W W') : Fl w W' s X Y j T A c L := by
  obtain ⟨O, R, S, h1, h2, h3, h4, h5, h7⟩ := h.ex
  exact ⟨⟨O, R, S, h1.below hb, h2, h3, h4, h5, h7⟩, h.row.below hb, h.n, h.nx, h.sum, h.life⟩
theorem Fl.bl (h : Fl w W s X Y j T A c L) : Below w.heap.size w W := by
  obtain ⟨O, R, S, h1, _⟩ := h.ex
  exact h1.dsk.bl
theorem Fl.more (h : Fl w W s X Y j T A c L) : Fl w W s X Y (j + 1) T A c L := by
  obtain ⟨O, R, S, h1, h2, h3, h4, h5, h7⟩ := h.ex
  exact ⟨⟨O, R, S, h1, h2, h3, by omega, by omega, h7⟩, h.row, h.n, by have := h.nx; omega, h.sum, h.life⟩
/-- The first one is gone from the list. -/
theorem Fl.tail {g off n : Nat} (h : Fl w W s X Y j T (some ⟨g, off, none⟩) c (n :: L)) (d : Nat) (hd : d + 1 = c) (off' : Nat) (ho : off' = off + 1 ∨ d = 0 ∧ off' = off) : Fl w W s X Y j T (some ⟨g, off', none⟩) d L := by
  obtain ⟨O, R, S, h1, h2, h3, h4, h5, h7⟩ := h.ex
  exact ⟨⟨O, R, S, h1, h2, h3, h4, h5, h7⟩, h.row.tail (by simp) L.length d rfl hd off' ho, h.n, h.nx, h.sum, h.life⟩
/-- One more in the list. -/
theorem Fl.push {k g off d : Nat} (h : Fl w W s X Y j T A c L) (he : Eff (fun q => (Value.slice A L.length c).ownBlock = some q) W W') (hr : RowO W' (fun q => (Value.slice A L.length c).ownBlock = some q ∨ W.heap.size ≤ q) 3 (.slice (some ⟨g, off, none⟩) (L.length + 1) d) (L.length + 1) (ints L ++ [.int .i64 (k : Nat)])) : Fl w W' s X Y j T (some ⟨g, off, none⟩) d (L ++ [k]) := by
  obtain ⟨O, R, S, h1, h2, h3, h4, h5, h7⟩ := h.ex
  have hl : (L ++ [k]).length = L.length + 1 := by simp
  have hi : ints (L ++ [k]) = ints L ++ [.int .i64 (k : Nat)] := by simp [ints]
  have hlt := h1.all_lt
  refine ⟨⟨O, R, S, h1.effM he (fun q _ hq e => ?_) (fun q _ e => (h7 q e).2.2), h2, h3, h4, h5, fun q hq => ?_⟩, by rw [hl, hi]; exact hr.self, h.n, h.nx, h.sum, h.life⟩
  · exact hq.elim (h7 q e).1 (h7 q e).2.1
  · have hq2 : (Value.slice A L.length c).ownBlock = some q ∨ W.heap.size ≤ q := hr.own hq
    rcases hq2 with hq2 | hq2
    · exact h7 q hq2
    · have := h1.dsk.bl.size
      exact ⟨fun hO => by have := hlt q (.inl hO); omega, fun hR => by have := hlt q (.inr hR); omega, by omega⟩
def zs (n : Nat) : List UInt8 := List.replicate n 0
theorem fl_ok (h : Fl w W s X Y j T A c L) : T.Ok s := by
  obtain ⟨O, R, S, h1, _, h3, _⟩ := h.ex
  exact h3 ▸ h1.ok
theorem fl_room (h : Fl w W s X Y j T A c L) (hs : s ≤ 20) : Calls Try.prog 14 #[.pointer (some ⟨Y, 0, none⟩)] W fun e w' => e = .returned (.int .i64 ((s : Int) - (T.used : Int))) ∧ ∃ k, w' = W.drewN k := by
  obtain ⟨O, R, S, h1, _⟩ := h.ex
  obtain ⟨rv, D, hM⟩ := h1.is
  have := room_any hM (fl_ok h) (by omega)
  rw [h.n] at this
  exact this
theorem fl_first (h : Fl w W s X Y j T A c L) : Calls Try.prog 12 #[.pointer (some ⟨Y, 0, none⟩)] W fun e w' => e = .returned (.tuple #[.int .u64 (T.first : Nat), .int .i64 (T.place : Nat)]) ∧ ∃ k, w' = W.drewN k := by
  obtain ⟨O, R, S, h1, _⟩ := h.ex
  obtain ⟨rv, D, hM⟩ := h1.is
  exact first_any hM
theorem fl_trim (h : Fl w W s X Y j T A c L) (hs : s ≤ 20) (hj : j ≤ 100) (l : List UInt8) (M : List (List UInt8)) (hl : T.recs = l :: M) : Calls Try.prog 13 #[.pointer (some ⟨Y, 0, none⟩), .int .u64 ((T.first : Int) + 1)] W fun e w' => e = .returned (.int .i64 0) ∧ Fl w w' s X Y j (T.cut l M) A c L := by
  obtain ⟨O, R, S, h1, h2, h3, h4, h5, h7⟩ := h.ex
  have h6 := h.row
  obtain ⟨rv, D, hM⟩ := h1.is
  have hk := fl_ok h
  have hsum := h.sum
  have hnd : needs T = need l.length :: M.map (fun l => need l.length) := by unfold needs; rw [hl]; rfl
  have hss : sumN (needs T) = need l.length + sumN (M.map fun l => need l.length) := by rw [hnd]; rfl
  have hnx := h.nx
  have hlen : T.recs.length = M.length + 1 := by rw [hl]; rfl
  have hne : T.next = T.first + (M.length + 1) := by unfold RS.next; rw [hlen]
  refine (trim_one hM hk (by omega) l M hl (by omega) (by omega)).mono ?_
  rintro e w' ⟨rfl, ⟨rv', D', hM'⟩, he⟩
  have hfr := h1.from_
  have hpl : (T.place + need l.length) % T.n < T.n := Nat.mod_lt _ (by have := hk.n2; omega)
  refine ⟨rfl, ⟨⟨O, R, S, ⟨h1.dsk.effN he (fun k _ hO hR => h1.no k hR hO) fun k _ hR => hfr k hR, ⟨rv', D', hM'⟩, ⟨h1.ok.n2, h1.ok.fit, hpl, ?_, ?_, fun m hm => hk.long m (by rw [hl]; exact List.mem_cons_of_mem _ hm), h1.ok.lf, ?_⟩, hfr, h1.no⟩, h2, h3, h4, h5, h7⟩, h6.eff he fun k hk' hR => (h7 k hk').2.1 hR, h.n, ?_, ?_, h.life⟩⟩
  · show T.used - need l.length ≤ T.n
    have := hk.us
    omega
  · show M.length ≤ 4096
    have := hk.few
    omega
  · show T.first + 1 ≤ 1000000
    omega
  · show T.first + 1 + M.length ≤ 1 + j
    omega
  · show T.used - need l.length = sumN (M.map fun l => need l.length)
    omega
theorem fl_app {W0 : World} (h : Fl w W0 s X Y j T A c L) (hb : Below W0.heap.size W0 W) (hs : s ≤ 20) (hj : j ≤ 100) (n g : Nat) (hn : n ≤ 3000) (hm : Mem W g 5 (bs (zs n)).toArray) (hg : W0.heap.size ≤ g) (hro : T.used + need n ≤ s) :
    Calls Try.prog 11 #[.pointer (some ⟨Y, 0, none⟩), .slice (some ⟨g, 0, none⟩) n n] W fun e w' => e = .returned (.tuple #[.int .u64 (T.next : Nat), .int .i64 0]) ∧ Fl w w' s X Y (j + 1) (T.app (zs n)) A c L := by
  obtain ⟨O, R, S, h1, h2, h3, h4, h5, h7⟩ := h.ex
  have h6 := h.row
  have hz : (zs n).length = n := by simp [zs]
  have hnx := h.nx
  have hrl : T.recs.length ≤ 1 + j := by unfold RS.next at hnx; omega
  have hnd := need_le n (by omega)
  have hTn := h.n
  have hlt0 := h1.all_lt
  have hg' : ¬ O g ∧ ¬ R g := ⟨fun hO => by have := hlt0 g (.inl hO); omega, fun hR => by have := hlt0 g (.inr hR); omega⟩
  have h1 := h1.below hb
  have h6 := h6.below hb
  refine (app_ok h1 h2 (by omega) (by omega) (by omega) (by omega) (by omega) W.heap.size (Nat.le_refl _) (v := .slice (some ⟨g, 0, none⟩) n n) (l := zs n) (by rw [hz]; exact sl_of_row hm (by rw [bs_len, hz]) (by unfold maxLen; omega)) (fun k _ hk => by obtain rfl := Option.some.inj hk; exact hg') (by rw [hz]; omega) (by rw [hz]; omega)).mono ?_
  rintro e w' ⟨O', R', h8, h9, h10, h11⟩
  have hlt := h1.all_lt
  have hcn := aps_cnt S T (zs n) (need (zs n).length)
  rw [hz] at hcn h9
  refine ⟨h8, ⟨⟨O', R', _, h9, aps_up h2 _ _ _, by rw [aps_len]; exact h3, by omega, by omega, fun k hk => ?_⟩, h6.eff h10 fun k hk hOR => ?_, h.n, ?_, ?_, h.life⟩⟩
  · have h12 := h7 k hk
    have h13 := h6.lt hk
    refine ⟨fun hO => ?_, fun hR => ?_, h12.2.2⟩
    · rcases h11 k (.inl hO) with h14 | h14 | h14
      · exact h12.1 h14
      · exact h12.2.1 h14
      · omega
    · rcases h11 k (.inr hR) with h14 | h14 | h14
      · exact h12.1 h14
      · exact h12.2.1 h14
      · omega
  · have := h7 k hk
    exact hOR.elim this.1 this.2.1
  · show T.first + (T.recs ++ [zs n]).length ≤ 1 + (j + 1)
    unfold RS.next at hnx
    rw [List.length_append, List.length_singleton]
    omega
  · show T.used + need (zs n).length = sumN ((T.recs ++ [zs n]).map fun l => need l.length)
    rw [List.map_append, sumN_app, h.sum, List.map_singleton]
    rfl
theorem fl_full (h : Fl w W s X Y j T A c L) (hs : s ≤ 20) (n g : Nat) (hn : n ≤ 3000) (hm : Mem W g 5 (bs (zs n)).toArray) (hro : s < T.used + need n) :
    Calls Try.prog 11 #[.pointer (some ⟨Y, 0, none⟩), .slice (some ⟨g, 0, none⟩) n n] W fun e w' => e = .returned (.tuple #[.int .u64 0, .int .i64 7]) ∧ ∃ k, w' = W.drewN k := by
  obtain ⟨O, R, S, h1, _⟩ := h.ex
  obtain ⟨rv, D, hM⟩ := h1.is
  have hz : (zs n).length = n := by simp [zs]
  exact app_full hM (fl_ok h) (by omega) (v := .slice (some ⟨g, 0, none⟩) n n) (l := zs n) (by rw [hz]; exact sl_of_row hm (by rw [bs_len, hz]) (by unfold maxLen; omega)) (by omega) (by rw [hz, h.n]; exact hro)
/-- An Append, whether there is room or not. -/
theorem fl_any {W0 : World} (h : Fl w W0 s X Y j T A c L) (hb : Below W0.heap.size W0 W) (hs : s ≤ 20) (hj : j ≤ 100) (n g : Nat) (hn : n ≤ 3000) (hm : Mem W g 5 (bs (zs n)).toArray) (hg : W0.heap.size ≤ g) :
    Calls Try.prog 11 #[.pointer (some ⟨Y, 0, none⟩), .slice (some ⟨g, 0, none⟩) n n] W fun e w' => ∃ x r : Int, e = .returned (.tuple #[.int .u64 x, .int .i64 r]) ∧ ((r = 7 ∧ s < T.used + need n ∧ Fl w w' s X Y j T A c L) ∨ (r = 0 ∧ T.used + need n ≤ s ∧ Fl w w' s X Y (j + 1) (T.app (zs n)) A c L)) := by
  by_cases hf : T.used + need n ≤ s
  · refine (fl_app h hb hs hj n g hn hm hg hf).mono ?_
    rintro e w' ⟨h1, h2⟩
    exact ⟨_, _, h1, .inr ⟨rfl, hf, h2⟩⟩
  · refine (fl_full (h.below hb) hs n g hn hm (by omega)).mono ?_
    rintro e w' ⟨h1, k, rfl⟩
    exact ⟨_, _, h1, .inl ⟨rfl, by omega, (h.below hb).below (below_drewN (Below.refl _ _) _)⟩⟩
theorem needs_app (n : Nat) : needs (T.app (zs n)) = needs T ++ [need n] := by
  show (T.recs ++ [zs n]).map _ = _
  rw [List.map_append, List.map_singleton]
  simp [zs, needs]
/-- A ring on a blank disk. -/
theorem Fl.start {O R : Nat → Prop} (h : Rng w W X O (DS.new s) Y R (RS.new 0 s 1 1 0)) : Fl w W s X Y 0 (RS.new 0 s 1 1 0) none 0 [] :=
  ⟨⟨O, R, DS.new s, h, ⟨rfl, rfl, rfl⟩, by simp [DS.new], Nat.le_refl _, Nat.le_refl _, fun _ h => by cases h⟩, RowO.nil_ _ _ _, rfl, Nat.le_refl _, rfl, rfl⟩
end
end Rg
end Go.Proofs.Ytbajifioohngdaa
