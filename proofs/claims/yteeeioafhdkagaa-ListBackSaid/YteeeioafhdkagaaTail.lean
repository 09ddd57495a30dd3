/- A region that draws its order, whose first operations are quiet in a class of worlds and come ahead of all the others: they are walked once, in the order of the text; what is left may come in any order. No program is named here. -/
import Derived.Deep.Quiet
import Derived.RegionTactic
namespace Go.Proofs.Yteeeioafhdkagaa.Tail
open Go
section
variable {P : Program} {ops : Array Oper} {md : Region.Mode} {C : World → Prop}

/-- The first operations in any order, then T, with all of the first k listed. -/
def wpAnyT (P : Program) (md : Region.Mode) (ops : Array Oper) (C : World → Prop) (k : Nat) (T : Array Bool → Act → Prop) : Nat → Array Bool → Act → Prop
  | 0, listed, a => (∀ j, j < k → listed.getD j false = true) ∧ T listed a
  | fuel + 1, listed, a => Region.ready md ops listed ≠ [] ∧ ∀ i ∈ Region.ready md ops listed, qOp P ops C i (wpAnyT P md ops C k T fuel (listed.setIfInBounds i true)) a

/-- What is listed has all that it waits for listed. -/
def Down (md : Region.Mode) (ops : Array Oper) (listed : Array Bool) : Prop :=
  listed.size = ops.size ∧ ∀ (i : Nat) (o : Oper), ops[i]? = some o → listed.getD i false = true → ∀ e ∈ o.after, Region.binds md e = true → listed.getD e.on false = true
theorem Down.set {listed : Array Bool} {i : Nat} (h : Down md ops listed) (hi : i ∈ Region.ready md ops listed) : Down md ops (listed.setIfInBounds i true) := by
  refine ⟨by simp [h.1], fun j o ho hl e he hb => ?_⟩
  by_cases hij : i = j
  · subst hij
    obtain ⟨_, o', ho', hall⟩ := mem_ready.1 hi
    obtain rfl : o' = o := Option.some.inj (ho'.symm.trans ho)
    exact getD_set_true (hall e he hb)
  · rw [getD_set_ne false hij] at hl
    exact getD_set_true (h.2 j o ho hl e he hb)

/-- Each of the first k but the last is waited for by a later one of them; each other one waits for the last of the first k, or for another one ahead of it. -/
def sepB (md : Region.Mode) (ops : Array Oper) (k : Nat) : Bool :=
  (List.range ops.size).all fun i =>
    if i < k then i + 1 == k || (List.range k).any fun j => decide (i < j) && match ops[j]? with | some o => o.after.any fun e => Region.binds md e && e.on == i | none => false
    else match ops[i]? with | some o => o.after.any fun e => Region.binds md e && decide (k ≤ e.on + 1) && decide (e.on < i) | none => false

theorem sep_late {k : Nat} (hs : sepB md ops k = true) (hk : 0 < k) {listed : Array Bool} (hD : Down md ops listed) :
    ∀ (n i : Nat), i ≤ n → k ≤ i → ∀ o, ops[i]? = some o → (∀ e ∈ o.after, Region.binds md e = true → listed.getD e.on false = true) → listed.getD (k - 1) false = true := by
  intro n
  induction n with
  | zero => intro i h1 h2; omega
  | succ n ih =>
    intro i h1 h2 o ho hall
    have hlt : i < ops.size := (Array.getElem?_eq_some_iff.1 ho).1
    have h := List.all_eq_true.1 hs i (List.mem_range.2 hlt)
    rw [if_neg (by omega), ho] at h
    obtain ⟨e, he, hb⟩ := Array.any_eq_true'.1 h
    simp only [Bool.and_eq_true, decide_eq_true_eq] at hb
    obtain ⟨⟨hb1, hb2⟩, hb3⟩ := hb
    have hl := hall e he hb1
    by_cases hek : e.on = k - 1
    · rw [← hek]; exact hl
    · have hon : e.on < ops.size := by omega
      exact ih e.on (by omega) (by omega) _ (Array.getElem?_eq_getElem hon) (fun e' he' hb' => hD.2 e.on _ (Array.getElem?_eq_getElem hon) hl e' he' hb')
theorem sep_early {k : Nat} (hs : sepB md ops k = true) (hk : k ≤ ops.size) {listed : Array Bool} (hD : Down md ops listed) (h0 : listed.getD (k - 1) false = true) :
    ∀ (n j : Nat), j < k → k - 1 - j ≤ n → listed.getD j false = true := by
  intro n
  induction n with
  | zero => intro j h1 h2; rw [show j = k - 1 by omega]; exact h0
  | succ n ih =>
    intro j h1 h2
    by_cases hj : j + 1 = k
    · rw [show j = k - 1 by omega]; exact h0
    · have h := List.all_eq_true.1 hs j (List.mem_range.2 (by omega))
      rw [if_pos h1] at h
      simp only [Bool.or_eq_true, beq_iff_eq, hj, false_or, List.any_eq_true, List.mem_range, Bool.and_eq_true, decide_eq_true_eq] at h
      obtain ⟨m, hm, hjm, hx⟩ := h
      have hon : m < ops.size := by omega
      rw [Array.getElem?_eq_getElem hon] at hx
      obtain ⟨e, he, hb⟩ := Array.any_eq_true'.1 hx
      simp only [Bool.and_eq_true, beq_iff_eq] at hb
      rw [← hb.2]
      exact hD.2 m _ (Array.getElem?_eq_getElem hon) (ih m hm (by omega)) e he hb.1

theorem wpAny_of_T {Q' : Exit → Act → World → Prop} {T : Array Bool → Act → Prop} {k m : Nat} (hT : ∀ listed a w, C w → T listed a → wpAny P md ops Q' m listed a w) :
    ∀ (fuel : Nat) (listed : Array Bool) (a : Act) (w : World), C w → wpAnyT P md ops C k T fuel listed a → wpAny P md ops Q' (fuel + m) listed a w
  | 0, _, _, _, hw, h => by rw [Nat.zero_add]; exact hT _ _ _ hw h.2
  | fuel + 1, _, _, _, hw, h => by
    rw [show fuel + 1 + m = (fuel + m) + 1 by omega]
    exact ⟨fun h0 => absurd h0 h.1, fun i hi => wpOp_of_qOp hw (fun a' w' hw' => wpAny_of_T hT fuel _ a' w' hw') (h.2 i hi)⟩

theorem wpAnyT_first {T : Array Bool → Act → Prop} {k i : Nat} {oi : Oper} {v : Value} (hik : i < k) (hk : k ≤ ops.size) (hs : sepB md ops k = true) (hi : ops[i]? = some oi) (hsel : ∀ (j : Nat) (o : Oper) cs b, ops[j]? = some o → o.op ≠ .select cs b) :
    ∀ (fuel : Nat) (listed : Array Bool) (a : Act), Down md ops listed →
      (∀ j oj, ops[j]? = some oj → j ≠ i → listed.getD j true = false → (∀ e ∈ oj.after, Region.binds md e = true → e.on ≠ i) → oi.apart ops oj = true) →
      i ∈ Region.ready md ops listed → YieldsIn P ops C oi v a →
      wpAnyT P md ops C k T fuel (listed.setIfInBounds i true) (a.put oi.dst v) → wpAnyT P md ops C k T (fuel + 1) listed a := by
  intro fuel
  induction fuel with
  | zero =>
    intro listed a hD _ hr hy H
    refine ⟨fun h => (by rw [h] at hr; cases hr), fun j hj => ?_⟩
    by_cases hji : j = i
    · subst hji; exact hy.qOp hi H
    · exfalso
      obtain ⟨hjun, oj, hoj, hall⟩ := mem_ready.1 hj
      have hjs : j < ops.size := (Array.getElem?_eq_some_iff.1 hoj).1
      by_cases hjk : j < k
      · have h1 := H.1 j hjk
        rw [getD_set_ne false (Ne.symm hji)] at h1
        have hlt : j < listed.size := by rw [hD.1]; exact hjs
        simp [hlt] at h1 hjun
        rw [hjun] at h1
        cases h1
      · have h1 := sep_late hs (by omega) hD j j (Nat.le_refl _) (by omega) oj hoj hall
        have h2 := sep_early hs hk hD h1 k i hik (by omega)
        have h3 := (mem_ready.1 hr).1
        have hlt : i < listed.size := by rw [hD.1]; exact (Array.getElem?_eq_some_iff.1 hi).1
        simp [hlt] at h2 h3
        rw [h3] at h2
        cases h2
  | succ fuel ih =>
    intro listed a hD hfree hr hy H
    refine ⟨fun h => (by rw [h] at hr; cases hr), fun j hj => ?_⟩
    by_cases hji : j = i
    · subst hji; exact hy.qOp hi H
    · have h1 := H.2 j (ready_mono hj hji)
      obtain ⟨hjun, oj, hoj, hall⟩ := mem_ready.1 hj
      have hnot : ∀ e ∈ oj.after, Region.binds md e = true → e.on ≠ i := fun e he hb heq => by
        have h1 := hall e he hb
        have h0 := (mem_ready.1 hr).1
        have hlt : i < listed.size := by rw [hD.1]; exact (Array.getElem?_eq_some_iff.1 hi).1
        rw [heq] at h1
        simp [hlt] at h0 h1
        rw [h0] at h1
        cases h1
      have h2 := qOp_put hoj (hfree j oj hoj hji hjun hnot) (fun cs b => hsel i oi cs b hi) (fun cs b => hsel j oj cs b hoj) hy h1
      have hfree' : ∀ m om, ops[m]? = some om → m ≠ i → (listed.setIfInBounds j true).getD m true = false →
          (∀ e ∈ om.after, Region.binds md e = true → e.on ≠ i) → oi.apart ops om = true := fun m om hm hmi hun hno => by
        refine hfree m om hm hmi ?_ hno
        by_cases hjm : j = m
        · subst hjm; exact hjun
        · rw [getD_set_ne true hjm] at hun; exact hun
      refine qOp_mono (fun a' h3 => ih (listed.setIfInBounds j true) a' (hD.set hj) hfree' (ready_mono hr (Ne.symm hji)) h3.1 ?_) h2
      rw [Array.setIfInBounds_comm _ _ hji]
      exact h3.2

/-- The first operations one by one: each may come up, and is apart from all that does not wait for it; behind them, L is listed. -/
def preB (md : Region.Mode) (ops : Array Oper) (L : Array Bool) (k : Nat) : Nat → Nat → Array Bool → Bool
  | 0, _, listed => (listed == L) && (List.range k).all fun j => listed.getD j false
  | n + 1, i, listed => (Region.ready md ops listed).contains i && Region.free md ops listed i && preB md ops L k n (i + 1) (listed.setIfInBounds i true)

theorem wpAnyT_lex {R : Act → Prop} {L : Array Bool} {k : Nat} (hk : k ≤ ops.size) (hsel : Region.noSelect ops = true) (hs : sepB md ops k = true) : ∀ (l : List Oper) (i : Nat) (listed : Array Bool) (a : Act),
    (∀ j, j < l.length → l[j]? = ops[i + j]?) → i + l.length ≤ k → Down md ops listed → preB md ops L k l.length i listed = true → wpQuiet P ops C R l a → wpAnyT P md ops C k (fun listed a => listed = L ∧ R a) l.length listed a
  | [], _, _, _, _, _, _, hB, h => by
    simp only [List.length_nil, preB, Bool.and_eq_true, beq_iff_eq, List.all_eq_true, List.mem_range] at hB
    exact ⟨hB.2, hB.1, h⟩
  | o :: l, i, listed, a, hl, hik, hD, hB, h => by
    have h0 : ops[i]? = some o := by simpa using (hl 0 (by simp)).symm
    simp only [List.length_cons, preB, Bool.and_eq_true] at hB
    obtain ⟨⟨hr, hf⟩, hB'⟩ := hB
    have hr' : i ∈ Region.ready md ops listed := by simpa using hr
    have hst : qOp P ops C i (wpQuiet P ops C R l) a := by unfold qOp; simp only [h0]; exact h
    obtain ⟨v, hy, hK⟩ := yieldsIn_of_qOp h0 hst
    simp only [List.length_cons] at hik
    exact wpAnyT_first (by omega) hk hs h0 (Region.noSelect_spec hsel) l.length listed a hD (Region.free_spec h0 hf) hr' hy
      (wpAnyT_lex hk hsel hs l (i + 1) _ _ (fun j hj => by have := hl (j + 1) (by simpa using hj); simpa [Nat.add_assoc, Nat.add_comm 1 j] using this) (by omega) (hD.set hr') hB' hK)

/-- The region: the first k by one quiet walk, the others in any order. -/
theorem region_tail {id : Nat} {Q : Exit → Act → World → Prop} {R : Act → Prop} {a : Act} {w : World} {l l1 : List Oper} (k : Nat) (L : Array Bool) (h1 : l.take k = l1) (hm : P.follows .mixedOrders = true)
    (hB : (decide (k ≤ l.length) && Region.noSelect l.toArray && sepB .any l.toArray k && preB .any l.toArray L k k 0 (Array.replicate l.length false)) = true) (hC : C { w with drawn := w.drawn + 1 })
    (hq : wpQuiet P l.toArray C R l1 a) (ht : ∀ a' w', C w' → R a' → wpAny P .any l.toArray Q (l.length - k) L a' w') : (Code.region id l.toArray true).wp P Q a w := by
  subst h1
  simp only [Bool.and_eq_true, decide_eq_true_eq] at hB
  obtain ⟨⟨⟨hk, hsel⟩, hs⟩, hp⟩ := hB
  refine wp_region_any hm ?_
  have hlen : (l.take k).length = k := by simp; omega
  have hD : Down .any l.toArray (Array.replicate l.length false) := ⟨by simp, fun i o ho hl => by
    have hlt : i < l.length := by simpa using (Array.getElem?_eq_some_iff.1 ho).1
    simp [hlt] at hl⟩
  have hT := wpAnyT_lex (P := P) (C := C) (R := R) (L := L) (k := k) (md := .any) (ops := l.toArray) (by simpa using hk) hsel hs (l.take k) 0 (Array.replicate l.length false) a
    (fun j hj => by rw [hlen] at hj; simp [hj]) (by omega) hD (by rw [hlen]; exact hp) hq
  rw [hlen] at hT
  have h := wpAny_of_T (Q' := Q) (m := l.length - k) (fun listed a' w' hw' hh => by obtain ⟨rfl, hR⟩ := hh; exact ht a' w' hw' hR) k _ a _ hC hT
  rw [show k + (l.length - k) = l.toArray.size by simp; omega] at h
  simpa using h
/-- The same, what is left as the walk's end. -/
theorem region_tail_on {id : Nat} {Q : Exit → Act → World → Prop} {a : Act} {w : World} {l l1 : List Oper} (k : Nat) (L : Array Bool) (h1 : l.take k = l1) (hm : P.follows .mixedOrders = true)
    (hB : (decide (k ≤ l.length) && Region.noSelect l.toArray && sepB .any l.toArray k && preB .any l.toArray L k k 0 (Array.replicate l.length false)) = true) (hC : C { w with drawn := w.drawn + 1 })
    (hq : wpQuiet P l.toArray C (fun a' => ∀ w', C w' → wpAny P .any l.toArray Q (l.length - k) L a' w') l1 a) : (Code.region id l.toArray true).wp P Q a w :=
  region_tail k L h1 hm hB hC hq fun _ w' hw' hR => hR w' hw'
end
end Go.Proofs.Yteeeioafhdkagaa.Tail
