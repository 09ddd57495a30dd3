/- The timers and the document's, beside each other: each operation on both. -/
import Derived.Test.YtohbkepjbaigdaaTr5
namespace Go.Proofs.Ytohbkepjbaigdaa
open Go.ChangeShapes Go.WideShapes Go.ChangeAt Go.RowKit Go.Lib
set_option linter.unusedVariables false
/-- But for the blocks of both all that was there is as it was. -/
def Kp (w w' : World) : Prop := ∀ k, k < w.heap.size → (∃ t, Tag w k t ∧ t ≠ 50 ∧ t ≠ 54 ∧ t ≠ 29 ∧ t ≠ 56) → w'.heap[k]? = w.heap[k]?
theorem Kp.of {w w' : World} (h : Below w.heap.size w w') : Kp w w' := fun k hk _ => h.block k hk
theorem Fr.kp {w w' : World} (h : Fr w w') : Kp w w' := fun k hk ⟨t, h1, h2, h3, _, _⟩ => h k hk ⟨t, h1, h2, h3⟩
theorem Mem.kp {w w' : World} {g t : Nat} {cs : Array Value} (h : Mem w g t cs) (hk : Kp w w') (h1 : t ≠ 50 ∧ t ≠ 54 ∧ t ≠ 29 ∧ t ≠ 56) : Mem w' g t cs := (hk g h.lt ⟨t, mem_tag h, h1⟩).trans h
theorem owns_same {w w' : World} {base e sz : Nat} {v : Value} {n : Nat} {xs : List Value} (h : w.ownsRow base e sz v n xs) (hS : ∀ k, v.ownBlock = some k → w'.heap[k]? = w.heap[k]?) : w'.ownsRow base e sz v n xs := by
  refine ⟨h.1, ?_⟩
  rcases h.2 with hn | ⟨g, cap, cur, rfl, hg, hgg, rest⟩
  · exact .inl hn
  · refine .inr ⟨g, cap, cur, rfl, hg, ?_, rest⟩
    rw [hS g rfl]
    exact hgg
/-- The document's timers made since the world o, in block R. -/
def RfS (o w : World) (R : Nat) (L : List One) (now : Int) : Prop := ∃ u, RInv w o.heap.size R u L now ∧ Below o.heap.size o w
section
variable {o w w' : World} {X R : Nat} {S L : List One} {now n2 : Int}
theorem RfS.bl (h : RfS o w R L now) : Below o.heap.size o w := h.choose_spec.2
theorem RfS.below (h : RfS o w R L now) (hb : Below w.heap.size w w') : RfS o w' R L now := by
  obtain ⟨u, h1, h2⟩ := h
  exact ⟨u, h1.below hb, h2.trans (hb.mono h2.size)⟩
theorem RfS.fr (h : RfS o w R L now) (hf : Fr w w') (hb : Below o.heap.size o w') : RfS o w' R L now := by
  obtain ⟨u, h1, h2⟩ := h
  refine ⟨u, ⟨h1.base, (hf R h1.mem.lt ⟨_, mem_tag h1.mem, by decide, by decide⟩).trans h1.mem, owns_same h1.row fun k hk => ?_⟩, hb⟩
  have ht := own_tag h1.row k hk
  exact hf k ht.2.1 ⟨_, ht.2.2, by decide, by decide⟩
theorem RInv.tags {B : Nat} {u : Value} (h : RInv w B R u L now) : ∀ k, TS R u k → k < w.heap.size ∧ B ≤ k ∧ (Tag w k 29 ∨ Tag w k 56) := by
  rintro k (rfl | hk)
  · exact ⟨h.mem.lt, h.base, .inl (mem_tag h.mem)⟩
  · have := own_tag h.row k hk
    exact ⟨this.2.1, this.1, .inr this.2.2⟩
/-- A step of the document's timers leaves the others as they were. -/
theorem RStep.both {u : Value} {L' : List One} {n' : Int} (hs : RStep w w' o.heap.size R u L' n') (h1 : RInv w o.heap.size R u L now) (h2 : TmS o w X S n2) : RfS o w' R L' n' ∧ TmS o w' X S n2 ∧ Kp w w' := by
  obtain ⟨u', q1, q2, q3⟩ := hs
  obtain ⟨v, H, t1, t2, t3⟩ := h2
  have hb : Below o.heap.size o w' := q2.below t2 t2.size fun k _ hk => (h1.tags k hk).2.1
  have hno : ∀ k, TS X v k → ¬ TS R u k := by
    intro k a b
    rcases (t1.ns k a).2.2 with c | c <;> rcases (h1.tags k b).2.2 with d | d
    · exact c.ne d (by decide) rfl
    · exact c.ne d (by decide) rfl
    · exact c.ne d (by decide) rfl
    · exact c.ne d (by decide) rfl
  refine ⟨⟨u', q1, hb⟩, ⟨v, H, t1.eff q2 (hno X (.inl rfl)) (fun k hk => hno k (.inr hk)), hb, t3⟩, ?_⟩
  rintro k hk ⟨t, ht, _, _, a, b⟩
  refine q2.block k hk fun hT => ?_
  rcases (h1.tags k hT).2.2 with c | c
  · exact ht.ne c a rfl
  · exact ht.ne c b rfl
/-- Both, and what each tells is the other's. -/
structure Both (o w : World) (X R : Nat) (S L : List One) (now : Int) : Prop where
  tm : TmS o w X S now
  rf : RfS o w R L now
  rl : Rl S now L
theorem Both.below (h : Both o w X R S L now) (hb : Below w.heap.size w w') : Both o w' X R S L now := ⟨h.tm.below hb, h.rf.below hb, h.rl⟩
theorem Both.few (h : Both o w X R S L now) : L.length ≤ 256 ∧ ∀ x ∈ L, 1 ≤ x.2 ∧ x.2 ≤ 1073741824 := h.rl.fine h.tm.fine
theorem Both.set (h : Both o w X R S L now) (id after : Int) : ∃ c : Int, Calls Try.prog 10 #[.pointer (some ⟨X, 0, none⟩), .int .i64 id, .int .i64 after] w fun e w' => e = .returned (.int .i64 c) ∧ Kp w w' ∧
    Calls Try.prog 11 #[.pointer (some ⟨R, 0, none⟩), .int .i64 id, .int .i64 after] w' fun e w2 => e = .returned (.int .i64 c) ∧ Kp w' w2 ∧ ∃ S' L', Both o w2 X R S' L' now := by
  refine ⟨setC S id after, (set_s h.tm id after).mono ?_⟩
  rintro e w' ⟨rfl, ht, hf⟩
  refine ⟨rfl, hf.kp, ?_⟩
  have hr := h.rf.fr hf ht.bl
  have hrh := rhas_iff h.rl.sorted id
  have hmem := h.rl.ids id
  have hlen := h.rl.len
  have hfew := h.few.1
  have hnd := h.tm.fine.nodup
  obtain ⟨u, q1, q2⟩ := hr
  by_cases h1 : after < 1 ∨ 1073741824 < after
  · have e1 : setC S id after = 1 := by unfold setC; rw [if_pos h1]
    have e2 : setS S id after now = S := by unfold setS; rw [e1]; rfl
    rw [e2] at ht
    rw [e1]
    refine (rset_bad id after h1 _ w').mono ?_
    rintro e w2 ⟨rfl, rfl⟩
    exact ⟨rfl, Kp.of (Below.refl _ _), S, L, ht, ⟨u, q1, q2⟩, h.rl⟩
  · by_cases hi : id ∈ ids S
    · have e1 : setC S id after = 0 := by unfold setC; rw [if_neg h1, if_neg (fun h => h.1 hi)]
      have e2 : setS S id after now = (id, now + after) :: rm S id := by unfold setS; rw [e1]; rfl
      have hh : rhas L id = true := by rw [hrh]; exact decide_eq_true (hmem.2 hi)
      have e3 : rput L id after = L.set (rk L id) (id, after) := if_pos hh
      rw [e2] at ht
      rw [e1]
      refine (rset_old o.heap.size R u L now id after w' (by omega) q1 (by omega) (by omega) hh).mono ?_
      rintro e w2 ⟨rfl, hs⟩
      obtain ⟨r1, r2, r3⟩ := hs.both q1 ht
      rw [← e3] at r1
      exact ⟨rfl, r3, _, _, r2, r1, h.rl.put hnd id after⟩
    · have hh : rhas L id = false := by rw [hrh]; exact decide_eq_false fun hm => hi (hmem.1 hm)
      by_cases hl : 256 ≤ S.length
      · have e1 : setC S id after = 7 := by unfold setC; rw [if_neg h1, if_pos ⟨hi, hl⟩]
        have e2 : setS S id after now = S := by unfold setS; rw [e1]; rfl
        rw [e2] at ht
        rw [e1]
        refine (rset_full o.heap.size R u L now id after w' (by omega) q1 (by omega) (by omega) hh (by omega)).mono ?_
        rintro e w2 ⟨rfl, hb⟩
        exact ⟨rfl, Kp.of hb, S, L, ht.below hb, ⟨u, q1.below hb, q2.trans (hb.mono q2.size)⟩, h.rl⟩
      · have e1 : setC S id after = 0 := by unfold setC; rw [if_neg h1, if_neg (fun h => hl h.2)]
        have e2 : setS S id after now = (id, now + after) :: rm S id := by unfold setS; rw [e1]; rfl
        have e3 : rput L id after = L.take (rk L id) ++ (id, after) :: L.drop (rk L id) := if_neg (by rw [hh]; simp)
        rw [e2] at ht
        rw [e1]
        refine (rset_new o.heap.size R u L now id after w' q2.size q1 (by omega) (by omega) hh (by omega)).mono ?_
        rintro e w2 ⟨rfl, hs⟩
        obtain ⟨r1, r2, r3⟩ := hs.both q1 ht
        rw [← e3] at r1
        exact ⟨rfl, r3, _, _, r2, r1, h.rl.put hnd id after⟩
theorem Both.stop (h : Both o w X R S L now) (id : Int) : ∃ b : Bool, Calls Try.prog 12 #[.pointer (some ⟨X, 0, none⟩), .int .i64 id] w fun e w' => e = .returned (.bool b) ∧ Kp w w' ∧
    Calls Try.prog 13 #[.pointer (some ⟨R, 0, none⟩), .int .i64 id] w' fun e w2 => e = .returned (.bool b) ∧ Kp w' w2 ∧ ∃ S' L', Both o w2 X R S' L' now := by
  refine ⟨decide (id ∈ ids S), (stop_s h.tm id).mono ?_⟩
  rintro e w' ⟨rfl, ht, hf⟩
  refine ⟨rfl, hf.kp, ?_⟩
  have hr := h.rf.fr hf ht.bl
  have hrh := rhas_iff h.rl.sorted id
  have hmem := h.rl.ids id
  have hfew := h.few.1
  have hnd := h.tm.fine.nodup
  obtain ⟨u, q1, q2⟩ := hr
  by_cases hi : id ∈ ids S
  · have hh : rhas L id = true := by rw [hrh]; exact decide_eq_true (hmem.2 hi)
    rw [decide_eq_true hi]
    refine (rstop_ok o.heap.size R u L now id w' (by omega) q2.size q1 hh).mono ?_
    rintro e w2 ⟨rfl, hs⟩
    obtain ⟨r1, r2, r3⟩ := hs.both q1 ht
    exact ⟨rfl, r3, _, _, r2, r1, h.rl.stop hnd id hi⟩
  · have hh : rhas L id = false := by rw [hrh]; exact decide_eq_false fun hm => hi (hmem.1 hm)
    rw [decide_eq_false hi]
    rw [rm_no hi] at ht
    refine (rstop_no o.heap.size R u L now id w' (by omega) q1 hh).mono ?_
    rintro e w2 ⟨rfl, hb⟩
    exact ⟨rfl, Kp.of hb, S, L, ht.below hb, ⟨u, q1.below hb, q2.trans (hb.mono q2.size)⟩, h.rl⟩
theorem Both.tick (h : Both o w X R S L now) (hn9 : now < 1000000) : Calls Try.prog 15 #[.pointer (some ⟨X, 0, none⟩)] w fun e w' => ∃ A1 c1 I, e = .returned (.slice A1 I.length c1) ∧ Kp w w' ∧ I.length ≤ 256 ∧ w'.ownsRow w.heap.size 3 1 (.slice A1 I.length c1) I.length (ints I) ∧
    Calls Try.prog 16 #[.pointer (some ⟨R, 0, none⟩)] w' fun e w2 => ∃ A2 c2, e = .returned (.slice A2 I.length c2) ∧ Kp w' w2 ∧ w2.ownsRow w'.heap.size 3 1 (.slice A2 I.length c2) I.length (ints I) ∧ w2.ownsRow w.heap.size 3 1 (.slice A1 I.length c1) I.length (ints I) ∧ ∃ S' L', Both o w2 X R S' L' (now + 1) := by
  refine (ticked h.tm hn9).mono ?_
  rintro e w' ⟨A1, c1, I, rfl, HI, ho, hI6, ht, hf⟩
  refine ⟨A1, c1, I, rfl, hf.kp, hI6, ho, ?_⟩
  have hr := h.rf.fr hf ht.bl
  have hfew := h.few
  have hlow := h.tm.fine.low
  obtain ⟨u, q1, q2⟩ := hr
  have hoffs := h.rl.offs HI.out.1 HI.out.2.1
  refine (rtick_any o.heap.size R u L now w' hfew.1 q2.size q1 hlow (by omega) hfew.2).mono ?_
  rintro e w2 ⟨A2, c2, rfl, ho2, hs⟩
  obtain ⟨r1, r2, r3⟩ := hs.both q1 ht
  rw [hoffs] at ho2 ⊢
  refine ⟨A2, c2, rfl, r3, ho2, owns_same ho fun k hk => ?_, _, _, r2, r1, h.rl.tick (by rw [hoffs]; exact HI.out.2.2)⟩
  have hk2 := own_tag ho k hk
  exact r3 k hk2.2.1 ⟨_, hk2.2.2, by decide, by decide, by decide, by decide⟩
theorem Both.left (h : Both o w X R S L now) (id : Int) : ∃ (n : Int) (b : Bool), (∀ W, Below w.heap.size w W → Calls Try.prog 17 #[.pointer (some ⟨X, 0, none⟩), .int .i64 id] W fun e w' => e = .returned (.tuple #[.int .i64 n, .bool b]) ∧ Below W.heap.size W w') ∧
    (∀ W, Below w.heap.size w W → Calls Try.prog 18 #[.pointer (some ⟨R, 0, none⟩), .int .i64 id] W fun e w' => e = .returned (.tuple #[.int .i64 n, .bool b]) ∧ Below W.heap.size W w') := by
  have hrh := rhas_iff h.rl.sorted id
  have hmem := h.rl.ids id
  have hfew := h.few.1
  obtain ⟨u, q1, q2⟩ := h.rf
  by_cases hi : id ∈ ids S
  · have hh : rhas L id = true := by rw [hrh]; exact decide_eq_true (hmem.2 hi)
    refine ⟨(pl L (rk L id)).2, true, fun W hW => ?_, fun W hW => rleft_ok _ R u L now id W (by omega) (q1.below hW) hh⟩
    have hx := h.rl.left hh
    have := left_ok_s (h.tm.below hW) _ hx
    simp only at this
    rwa [show now + (pl L (rk L id)).2 - now = (pl L (rk L id)).2 by omega] at this
  · have hh : rhas L id = false := by rw [hrh]; exact decide_eq_false fun hm => hi (hmem.1 hm)
    exact ⟨0, false, fun W hW => left_no_s (h.tm.below hW) id hi, fun W hW => rleft_no _ R u L now id W (by omega) (q1.below hW) hh⟩
theorem Both.next (h : Both o w X R S L now) : ∃ (n : Int) (b : Bool), (∀ W, Below w.heap.size w W → Calls Try.prog 19 #[.pointer (some ⟨X, 0, none⟩)] W fun e w' => e = .returned (.tuple #[.int .i64 n, .bool b]) ∧ Below W.heap.size W w') ∧
    (∀ W, Below w.heap.size w W → Calls Try.prog 20 #[.pointer (some ⟨R, 0, none⟩)] W fun e w' => e = .returned (.tuple #[.int .i64 n, .bool b]) ∧ Below W.heap.size W w') := by
  have hfew := h.few.1
  have hlen := h.rl.len
  by_cases h0 : S = []
  · subst h0
    obtain rfl : L = [] := List.eq_nil_of_length_eq_zero (by simpa using hlen.symm)
    obtain ⟨u, q1, q2⟩ := h.rf
    refine ⟨0, false, fun W hW => (next_no_s (h.tm.below hW)).mono ?_, fun W hW => (rnext_no _ R u now W (q1.below hW)).mono ?_⟩
    · rintro e w' ⟨rfl, rfl⟩
      exact ⟨rfl, Below.refl _ _⟩
    · rintro e w' ⟨rfl, rfl⟩
      exact ⟨rfl, Below.refl _ _⟩
  · have hpos : 0 < L.length := by rw [← hlen]; exact List.length_pos_iff.2 h0
    obtain ⟨m, hm1, hm2, _⟩ := next_ok_s h.tm h0
    refine ⟨m - now, true, fun W hW => ?_, fun W hW => ?_⟩
    · obtain ⟨m', k1, k2, k3⟩ := next_ok_s (h.tm.below hW) h0
      obtain rfl : m' = m := by
        obtain ⟨x, hx, rfl⟩ := hm1
        obtain ⟨y, hy, rfl⟩ := k1
        have := hm2 y hy
        have := k2 x hx
        omega
      exact k3
    · obtain ⟨u, q1, q2⟩ := h.rf
      refine (rnext_ok _ R u L now W hfew hpos (q1.below hW)).mono ?_
      rintro e w' ⟨m', rfl, ⟨x, hx, rfl⟩, k2, rfl⟩
      refine ⟨?_, Below.refl _ _⟩
      have e : x.2 = m - now := by
        obtain ⟨y, hy, rfl⟩ := hm1
        have h1 := k2 (y.1, y.2 - now) ((h.rl.mem y.1 y.2).1 hy)
        have h2 := hm2 (x.1, now + x.2) ((h.rl.mem _ _).2 (by rw [show now + x.2 - now = x.2 by omega]; exact hx))
        simp only at h1 h2
        omega
      rw [e]
end
end Go.Proofs.Ytohbkepjbaigdaa
