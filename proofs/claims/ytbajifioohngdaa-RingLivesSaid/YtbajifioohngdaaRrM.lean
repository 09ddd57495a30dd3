/- RingLives: the ring in its lives. -/
import Derived.Test.YtbajifioohngdaaRrL
namespace Go.Proofs.Ytbajifioohngdaa
open Go.ChangeShapes Go.WideShapes Go.ChangeAt Go.RowKit Go.Lib
set_option linter.unusedVariables false
set_option linter.unusedSimpArgs false
namespace Rg
open Crc Dk
theorem one_cell_slice (A : Option Addr) (n c : Nat) : (Value.slice A n c).oneCell' = true := rfl
/-- The ring of life f that has the records L, one sector each. -/
def tL (f : Nat) (L : List (List UInt8)) : RS := { vT f with recs := L, used := L.length }
theorem tL_app (f : Nat) (L : List (List UInt8)) (l : List UInt8) (h : l.length ≤ 480) : (tL f L).app l = tL f (L ++ [l]) := by
  show ({ vT f with recs := L ++ [l], used := L.length + need l.length } : RS) = { vT f with recs := L ++ [l], used := (L ++ [l]).length }
  rw [need_one h, List.length_append]
  rfl
theorem tL_got (f : Nat) (Ls : List (Nat × List UInt8)) (h : ∀ p ∈ Ls, p.2.length ≤ 480) : (vT f).got Ls Ls.length = tL f (Ls.map (·.2)) := by
  show ({ vT f with recs := (Ls.take Ls.length).map (·.2), used := usedTo Ls Ls.length } : RS) = { vT f with recs := Ls.map (·.2), used := (Ls.map (·.2)).length }
  rw [List.take_length, used_ones Ls h _ (Nat.le_refl _), List.length_map]
/-- A ring, its disk and a row beside them, made since w. -/
structure Bd (w W : World) (X Y f : Nat) (S : DS) (L : List (List UInt8)) (t : Nat) (v : Value) (n : Nat) (xs : List Value) : Prop where
  ex : ∃ O R, Rng w W X O S Y R (tL f L) ∧ ∀ q, v.ownBlock = some q → ¬ O q ∧ ¬ R q
  row : W.ownsRow w.heap.size t 1 v n xs
section
variable {w W W' : World} {X Y f t n : Nat} {S : DS} {L : List (List UInt8)} {v : Value} {xs : List Value}
theorem Bd.below (h : Bd w W X Y f S L t v n xs) (hb : Below W.heap.size W W') : Bd w W' X Y f S L t v n xs := by
  obtain ⟨O, R, h1, h2⟩ := h.ex
  exact ⟨⟨O, R, h1.below hb, h2⟩, owns_below h.row hb⟩
theorem Bd.bl (h : Bd w W X Y f S L t v n xs) : Below w.heap.size w W := by
  obtain ⟨O, R, h1, h2⟩ := h.ex
  exact h1.dsk.bl
/-- One more in the row. -/
theorem Bd.push {v' : Value} {m : Nat} {ys : List Value} {W1 : World} (h : Bd w W X Y f S L t v n xs) (hb : Below W.heap.size W W1) (hg : W1.grownBy W' v.ownBlock) (hr : W'.ownsRow w.heap.size t 1 v' m ys) (hat : v'.ownBlock = v.ownBlock ∨ v'.ownBlock = some W1.heap.size) : Bd w W' X Y f S L t v' m ys := by
  obtain ⟨O, R, h1, h2⟩ := h.ex
  have hlt := h1.all_lt
  have hb2 := hb.size
  refine ⟨⟨O, R, (h1.below hb).effM (eff_grown hg) (fun k _ hk e => hk.elim (h2 k e).1 (h2 k e).2) (fun k _ e => (own_tag h.row k e).1), fun q hq => ?_⟩, hr⟩
  rcases hat with e | e
  · exact h2 q (e ▸ hq)
  · rw [hq] at e
    obtain rfl := Option.some.inj e
    exact ⟨fun hO => by have := hlt _ (.inl hO); omega, fun hR => by have := hlt _ (.inr hR); omega⟩
/-- One more in the ring. -/
theorem Bd.app {pv : Value} {l : List UInt8} (h : Bd w W X Y f S L t v n xs) (hu : S.up) (hlen : S.last.length = 12) (hw : S.wtg ≤ 100) (hc : S.calls ≤ 1000) (hL : L.length < 12) (hd : Sl w w.heap.size pv l.length (bs l)) (hl : l.length ≤ 480) :
    Calls Try.prog 11 #[.pointer (some ⟨Y, 0, none⟩), pv] W fun e w' => ∃ x : Int, e = .returned (.tuple #[.int .u64 x, .int .i64 0]) ∧ Bd w w' X Y f (apS S (tL f L) l 1) (L ++ [l]) t v n xs := by
  obtain ⟨O, R, h1, h2⟩ := h.ex
  obtain ⟨V, hV⟩ := h1.dsk.is
  have hbl := h1.dsk.bl
  have hnx : (tL f L).next = 1 + L.length := rfl
  have hrl : (tL f L).recs.length = L.length := rfl
  have hlt := h1.all_lt
  refine (app_ok h1 hu (by omega) (by omega) (by omega) (by omega) (by omega) w.heap.size hbl.size (v := pv) (l := l) (hd.below hbl) (fun k hk _ => ⟨fun hO => by have := h1.dsk.from_ k hO; omega, fun hR => by have := h1.from_ k hR; omega⟩) (by omega) (by rw [need_one hl]; show L.length + 1 ≤ 12; omega)).mono ?_
  rintro e w' ⟨O', R', h3, h4, h5, h6⟩
  rw [need_one hl, tL_app f L l hl] at h4
  refine ⟨_, h3, ⟨O', R', h4, fun q hq => ?_⟩, owns_eff h.row h5 fun q hq hS => hS.elim (h2 q hq).1 (h2 q hq).2⟩
  have h7 := own_tag h.row q hq
  refine ⟨fun hO => ?_, fun hR => ?_⟩
  · rcases h6 q (.inl hO) with h8 | h8 | h8
    · exact (h2 q hq).1 h8
    · exact (h2 q hq).2 h8
    · omega
  · rcases h6 q (.inr hR) with h8 | h8 | h8
    · exact (h2 q hq).1 h8
    · exact (h2 q hq).2 h8
    · omega
/-- A disk and a row beside it, made since w. -/
structure Bk (w W : World) (X : Nat) (S : DS) (t : Nat) (v : Value) (n : Nat) (xs : List Value) : Prop where
  ex : ∃ O, Dsk w W X O S ∧ ∀ q, v.ownBlock = some q → ¬ O q
  row : W.ownsRow w.heap.size t 1 v n xs
theorem Bd.disk (h : Bd w W X Y f S L t v n xs) : Bk w W X S t v n xs := by
  obtain ⟨O, R, h1, h2⟩ := h.ex
  exact ⟨⟨O, h1.dsk, fun q hq => (h2 q hq).1⟩, h.row⟩
theorem Bk.below (h : Bk w W X S t v n xs) (hb : Below W.heap.size W W') : Bk w W' X S t v n xs := by
  obtain ⟨O, h1, h2⟩ := h.ex
  exact ⟨⟨O, h1.below hb, h2⟩, owns_below h.row hb⟩
theorem Bk.bl (h : Bk w W X S t v n xs) : Below w.heap.size w W := by
  obtain ⟨O, h1, h2⟩ := h.ex
  exact h1.bl
theorem Bk.crash (h : Bk w W X S t v n xs) (hof : S.off = false) (hw : S.wtg ≤ 100) (pv : Value) (zs : List Int) (hz : ∀ z ∈ zs, -9223372036854775808 ≤ z ∧ z ≤ 9223372036854775807) (hp : Sl W W.heap.size pv zs.length (zints zs)) (hpo : pv.ownBlock = v.ownBlock ∨ pv.ownBlock = none) :
    Calls Try.prog 15 #[.pointer (some ⟨X, 0, none⟩), pv] W fun e w' => e = .returned (.tuple #[]) ∧ Bk w w' X (S.crashed zs) t v n xs := by
  obtain ⟨O, h1, h2⟩ := h.ex
  refine (d_crashN h1 hof (by omega) pv zs hz hp fun k hk => ?_).mono ?_
  · rcases hpo with e | e
    · exact h2 k (e ▸ hk)
    · rw [e] at hk; cases hk
  · rintro e w' ⟨rfl, h3, h4⟩
    exact ⟨rfl, ⟨O, h3, h2⟩, owns_eff h.row h4 fun q hq hO => h2 q hq hO⟩
theorem Bk.on (h : Bk w W X S t v n xs) : Calls Try.prog 16 #[.pointer (some ⟨X, 0, none⟩)] W fun e w' => e = .returned (.tuple #[]) ∧ Bk w w' X (vOn S) t v n xs := by
  obtain ⟨O, h1, h2⟩ := h.ex
  refine (d_on h1).mono ?_
  rintro e w' ⟨rfl, h3, h4⟩
  exact ⟨rfl, ⟨O, h3, h2⟩, owns_eff h.row h4 fun q hq hO => h2 q hq hO⟩
theorem Bk.opens (h : Bk w W X S t v n xs) (hdd : S.dead = false) (hof : S.off = false) (hw : S.wtg ≤ 100) (hlen : S.last.length = 12) (f : Nat) (hf : f ≤ 3) (Ls : List (Nat × List UInt8)) (hs : ∀ p ∈ Ls, p.2.length ≤ 480) (hL : Lay S (vT f) Ls) :
    Calls Try.prog 8 #[.pointer (some ⟨X, 0, none⟩), .int .i64 0, .int .i64 12, .int .u64 1, .int .i64 0, .int .u32 (f : Nat)] W fun e w' => ∃ Y v' D, e = .returned (.tuple #[.pointer (some ⟨Y, 0, none⟩), v', .int .i64 0]) ∧ Bd w w' X Y f S (Ls.map (·.2)) t v n xs ∧ LRow w' W.heap.size v' (Ls.map (·.2)) D ∧ Below W.heap.size W w' := by
  obtain ⟨O, h1, h2⟩ := h.ex
  refine (open_any (Ls := Ls) h1 hdd hof (by omega) (by omega) 0 12 f 1 0 (vT_ok f _ hf hlen) (by decide) hL).mono ?_
  rintro e w' ⟨Y, v', R, D, h3, h4, h5, h6, _, h7⟩
  have h8 : Rng w w' X O S Y R (tL f (Ls.map (·.2))) := tL_got f Ls hs ▸ h4
  refine ⟨Y, v', D, h3, ⟨⟨O, R, h8, fun q hq => ⟨h2 q hq, fun hR => ?_⟩⟩, owns_below h.row h7⟩, h6, h7⟩
  have := h5 q hR
  have := (own_tag h.row q hq).2.1
  omega
theorem Bd.flush (h : Bd w W X Y f S L t v n xs) (hu : S.up) (hw : S.wtg ≤ 100) (hc : S.calls ≤ 1000) : Calls Try.prog 17 #[.pointer (some ⟨Y, 0, none⟩)] W fun e w' => e = .returned (.int .i64 0) ∧ Bk w w' X S.flushed t v n xs := by
  obtain ⟨O, R, h1, h2⟩ := h.ex
  refine (rflush_any h1 hu (by omega) (by omega)).mono ?_
  rintro e w' ⟨rfl, h3, h4⟩
  exact ⟨rfl, ⟨O, h3.dsk, fun q hq => (h2 q hq).1⟩, owns_eff h.row h4 fun q hq hO => (h2 q hq).1 hO⟩
end
theorem cut_exists (F : List (List UInt8)) (K : Nat) : ∃ n, Cut F K n := by
  have key : ∀ d m, m + d = F.length → (∀ i, i < m → kb K i = 1) → ∃ n, Cut F K n := by
    intro d
    induction d with
    | zero => exact fun m h1 h2 => ⟨m, by omega, h2, .inl (by omega)⟩
    | succ d ih =>
      intro m h1 h2
      by_cases hk : kb K m = 1
      · refine ih (m + 1) (by omega) fun i hi => ?_
        by_cases e : i = m
        · rw [e]; exact hk
        · exact h2 i (by omega)
      · exact ⟨m, by omega, h2, .inr hk⟩
  exact key F.length 0 (by omega) fun i hi => by omega
end Rg
end Go.Proofs.Ytbajifioohngdaa
