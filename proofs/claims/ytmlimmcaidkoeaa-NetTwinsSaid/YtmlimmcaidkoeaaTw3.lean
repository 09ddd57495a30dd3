/- Two nets and the document's two, apart: an act on the one leaves the other; the acts of an argument. -/
import Derived.Test.YtmlimmcaidkoeaaDo3
import Derived.Test.YtmlimmcaidkoeaaTw2
namespace Go.Proofs.Ytmlimmcaidkoeaa
open Go.ChangeShapes Go.WideShapes Go.ChangeAt Go.RowKit Go.Lib
set_option linter.unusedVariables false
def Two (w : World) (B X R T U h : Nat) (v u v2 u2 : Value) (L L2 : List Pk) (s s2 : Nat) : Prop :=
  NetInv w B X v h L s ∧ RefInv w B R u h (L.map Pk.ab) s ∧ NetInv w B T v2 h L2 s2 ∧ RefInv w B U u2 h (L2.map Pk.ab) s2 ∧ X ≠ T ∧ R ≠ U ∧ ∀ k, v.ownBlock = some k → v2.ownBlock ≠ some k
theorem Two.swap {w : World} {B X R T U h s s2 : Nat} {v u v2 u2 : Value} {L L2 : List Pk} (t : Two w B X R T U h v u v2 u2 L L2 s s2) : Two w B T U X R h v2 u2 v u L2 L s2 s :=
  ⟨t.2.2.1, t.2.2.2.1, t.1, t.2.1, t.2.2.2.2.1.symm, t.2.2.2.2.2.1.symm, fun k h1 h2 => t.2.2.2.2.2.2 k h2 h1⟩
theorem Two.below {w w' : World} {B X R T U h s s2 : Nat} {v u v2 u2 : Value} {L L2 : List Pk} (t : Two w B X R T U h v u v2 u2 L L2 s s2) (hb : Below w.heap.size w w') : Two w' B X R T U h v u v2 u2 L L2 s s2 :=
  ⟨t.1.below hb, t.2.1.below hb, t.2.2.1.below hb, t.2.2.2.1.below hb, t.2.2.2.2⟩
theorem two_post {w w' : World} {B X R T U h s s2 : Nat} {v u v2 u2 : Value} {L L2 : List Pk} (t : Two w B X R T U h v u v2 u2 L L2 s s2) (hd : DoPost w w' B X v R h s) :
    ∃ v' u' L' s', Two w' B X R T U h v' u' v2 u2 L' L2 s' s2 ∧ s' ≤ s + 1 := by
  obtain ⟨hn, hr, hn2, hr2, hXT, hRU, hap⟩ := t
  obtain ⟨v', u', L', s', h1, h2, h3, h4, h5⟩ := hd
  have tX := mem_tag hn.mem
  have tR := mem_tag hr.mem
  have tT := mem_tag hn2.mem
  have tU := mem_tag hr2.mem
  refine ⟨v', u', L', s', ⟨h1, h2, hn2.eff h3 ?_ ?_ ?_, hr2.eff h3 ?_ ?_, hXT, hRU, ?_⟩, h5⟩
  · rintro ((e | e) | e)
    · exact hXT e.symm
    · exact (own_tag hn.row T e).2.2.ne tT (by decide) rfl
    · exact (e ▸ tT).ne tR (by decide) rfl
  · rintro k hk ((e | e) | e)
    · exact (own_tag hn2.row k hk).2.2.ne tX (by decide) e
    · exact hap k e hk
    · exact (own_tag hn2.row k hk).2.2.ne tR (by decide) e
  · rintro k hk (e | e)
    · exact hn.nodata k e
    · exact e ▸ tR.not (by decide)
  · rintro ((e | e) | e)
    · exact tU.ne tX (by decide) e
    · exact (own_tag hn.row U e).2.2.ne tU (by decide) rfl
    · exact hRU e.symm
  · rintro k (e | e)
    · rcases (hn.ns k e).2.2 with h | h
      · exact h.not (by decide)
      · exact h.not (by decide)
    · exact e ▸ tR.not (by decide)
  · intro k hk hk2
    rcases h4 k hk with h | h
    · exact hap k h hk2
    · have := (own_tag hn2.row k hk2).2.1
      omega
theorem do_two {o w : World} {X R T U h s s2 : Nat} {v u v2 u2 : Value} {L L2 : List Pk} (a : Act9) (hb : Below o.heap.size o w) (t : Two w o.heap.size X R T U h v u v2 u2 L L2 s s2) (hd : Sl o o.heap.size a.d a.l.length (bs a.l)) (hs : s < 4611686018427387904) :
    Calls Try.prog 13 #[.pointer (some ⟨X, 0, none⟩), .pointer (some ⟨R, 0, none⟩), .agg #[.int .i64 a.op, .int .i64 a.fr, .int .i64 a.to, .int .i64 a.n, a.d]] w fun e w' => e = .returned (.bool true) ∧ Below o.heap.size o w' ∧ ∃ v' u' L' s', Two w' o.heap.size X R T U h v' u' v2 u2 L' L2 s' s2 ∧ s' ≤ s + 1 := by
  refine (do_any o.heap.size X R h s u v L a w hb.size t.1 t.2.1 (hd.below hb) hs).mono ?_
  rintro e w' ⟨rfl, hp⟩
  refine ⟨rfl, ?_, two_post t hp⟩
  obtain ⟨v', u', L', s', h1, h2, h3, h4, h5⟩ := hp
  refine h3.below hb hb.size fun k hk hs => ?_
  rcases hs with hs | rfl
  · exact (t.1.ns k hs).2.1
  · exact t.2.1.base
theorem do_go1 {o w : World} {X R h s : Nat} {u v : Value} {L : List Pk} (a : Act9) (hb : Below o.heap.size o w) (hn : NetInv w o.heap.size X v h L s) (hr : RefInv w o.heap.size R u h (L.map Pk.ab) s) (hd : Sl o o.heap.size a.d a.l.length (bs a.l)) (hs : s < 4611686018427387904) :
    Calls Try.prog 13 #[.pointer (some ⟨X, 0, none⟩), .pointer (some ⟨R, 0, none⟩), .agg #[.int .i64 a.op, .int .i64 a.fr, .int .i64 a.to, .int .i64 a.n, a.d]] w fun e w' => e = .returned (.bool true) ∧ Below o.heap.size o w' ∧ ∃ v' u' L' s', NetInv w' o.heap.size X v' h L' s' ∧ RefInv w' o.heap.size R u' h (L'.map Pk.ab) s' ∧ s' ≤ s + 1 := by
  refine (do_any o.heap.size X R h s u v L a w hb.size hn hr (hd.below hb) hs).mono ?_
  rintro e w' ⟨rfl, v', u', L', s', h1, h2, h3, h4, h5⟩
  refine ⟨rfl, h3.below hb hb.size fun k hk hs => ?_, v', u', L', s', h1, h2, h5⟩
  rcases hs with hs | rfl
  · exact (hn.ns k hs).2.1
  · exact hr.base
theorem few_go1 (v : Value) (acs : List Act9) (o w : World) (hb : Below o.heap.size o w) (hv : Acts o o.heap.size v acs) :
    Calls Try.prog 10 #[v] w fun e w' => e = .returned (.bool (fewB acs)) ∧ w = w' := by
  refine few_any v acs w ?_
  obtain ⟨A, c, e, h1, h2, h3, h4⟩ := hv.below hb
  refine ⟨A, c, e, h1, h2, fun a ha => ⟨(h3 a ha).op, (h3 a ha).fr, (h3 a ha).to, (h3 a ha).n, (h3 a ha).sl.more hb.size⟩, fun hne => ?_⟩
  obtain ⟨b, off, e5, hlt, hc⟩ := h4 hne
  exact ⟨b, off, e5, Nat.lt_of_lt_of_le hlt hb.size, hc⟩
/-- The act at place k of an argument: its cells in every world that grew, and what it does. -/
theorem Acts.doing {o : World} {A : Option Addr} {c : Nat} {acs : List Act9} (hv : Acts o o.heap.size (.slice A acs.length c) acs) {k : Nat} (hlt : k < acs.length) :
    ∃ b f, A = some ⟨b, f, none⟩ ∧ ∃ op fr to n Ad cd ll, (∀ W, Below o.heap.size o W → W.cell? ⟨b, f + k * 5, none⟩ = some (.int .i64 op) ∧ W.cell? ⟨b, f + k * 5 + 1, none⟩ = some (.int .i64 fr) ∧ W.cell? ⟨b, f + k * 5 + 2, none⟩ = some (.int .i64 to) ∧ W.cell? ⟨b, f + k * 5 + 3, none⟩ = some (.int .i64 n) ∧ W.cell? ⟨b, f + k * 5 + 4, none⟩ = some (.slice Ad ll cd)) ∧
      (∀ W X R h s u v L, Below o.heap.size o W → NetInv W o.heap.size X v h L s → RefInv W o.heap.size R u h (L.map Pk.ab) s → s < 4611686018427387904 → Calls Try.prog 13 #[.pointer (some ⟨X, 0, none⟩), .pointer (some ⟨R, 0, none⟩), .agg #[.int .i64 op, .int .i64 fr, .int .i64 to, .int .i64 n, .slice Ad ll cd]] W fun e w' => e = .returned (.bool true) ∧ Below o.heap.size o w' ∧ ∃ v' u' L' s', NetInv w' o.heap.size X v' h L' s' ∧ RefInv w' o.heap.size R u' h (L'.map Pk.ab) s' ∧ s' ≤ s + 1) ∧
      (∀ W X R T U h s s2 v u v2 u2 L L2, Below o.heap.size o W → Two W o.heap.size X R T U h v u v2 u2 L L2 s s2 → s < 4611686018427387904 → Calls Try.prog 13 #[.pointer (some ⟨X, 0, none⟩), .pointer (some ⟨R, 0, none⟩), .agg #[.int .i64 op, .int .i64 fr, .int .i64 to, .int .i64 n, .slice Ad ll cd]] W fun e w' => e = .returned (.bool true) ∧ Below o.heap.size o w' ∧ ∃ v' u' L' s', Two w' o.heap.size X R T U h v' u' v2 u2 L' L2 s' s2 ∧ s' ≤ s + 1) := by
  obtain ⟨b, f, rfl, hb0, x0, x1, x2, x3, x4⟩ := hv.at_ hlt
  have hok := (hv.ok _ (List.getElem_mem hlt)).sl
  have hd1 := fun W X R h s u v L hb hn hr hs => do_go1 (o := o) (w := W) (X := X) (R := R) (h := h) (s := s) (u := u) (v := v) (L := L) acs[k] hb hn hr hok hs
  have hd2 := fun W X R T U h s s2 v u v2 u2 L L2 hb t hs => do_two (o := o) (w := W) (X := X) (R := R) (T := T) (U := U) (h := h) (s := s) (s2 := s2) (v := v) (u := u) (v2 := v2) (u2 := u2) (L := L) (L2 := L2) acs[k] hb t hok hs
  generalize acs[k] = a at *
  obtain ⟨op, fr, to, n, d, l⟩ := a
  simp only at x0 x1 x2 x3 x4 hd1 hd2 hok
  obtain ⟨Ad, cd, rfl, _⟩ := hok.form
  exact ⟨b, f, rfl, op, fr, to, n, Ad, cd, l.length, fun W hW => ⟨(hW.cell (p := ⟨b, f + k * 5, none⟩) hb0).trans x0, (hW.cell (p := ⟨b, f + k * 5 + 1, none⟩) hb0).trans x1, (hW.cell (p := ⟨b, f + k * 5 + 2, none⟩) hb0).trans x2, (hW.cell (p := ⟨b, f + k * 5 + 3, none⟩) hb0).trans x3, (hW.cell (p := ⟨b, f + k * 5 + 4, none⟩) hb0).trans x4⟩, hd1, hd2⟩
end Go.Proofs.Ytmlimmcaidkoeaa
