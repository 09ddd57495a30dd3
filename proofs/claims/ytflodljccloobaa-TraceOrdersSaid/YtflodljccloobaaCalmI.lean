/- As calm_tail, where some operations that wait for none, and for which the last ones do not all wait, have been taken first. No program is named here. -/
import Derived.Test.YtflodljccloobaaCalmT
namespace Go.Proofs.Ytflodljccloobaa
set_option linter.unusedVariables false
open Go Go.RowKit
section
variable {P : Program}
/-- Each of the first n is waited for by a later one, up to number n; each one behind number n waits for the one ahead of it. -/
def tailIB (L : List Oper) (n : Nat) (I : List Nat) : Bool :=
  ((List.range n).all fun j => I.contains j || (List.range (n + 1)).any fun m => decide (j < m) && (match L[m]? with | some o => waitsB o j | none => false)) &&
  ((List.range L.length).all fun k => decide (k ≤ n) || (match L[k]? with | some o => waitsB o (k - 1) | none => true))
theorem tail_walkI {I : List Nat} {L : List Oper} {Q : Exit → Act → World → Prop} {n : Nat} (hdown : downB L 0 = true) (ht : tailIB L n I = true) :
    ∀ (r : List Oper) (k fuel : Nat) (listed : Array Bool) (a : Act) (W : World), L.drop k = r → n ≤ k → listed.size = L.length → (∀ i, i < k → i < L.length → listed.getD i false = true) → (∀ i, k ≤ i → i < L.length → listed.getD i false = false) → r.length ≤ fuel → wpList P L.toArray Q r a W → wpAny P .any L.toArray Q fuel listed a W := by
  have hchain : ∀ k o, n < k → L[k]? = some o → waitsB o (k - 1) = true := by
    intro k o hk ho
    unfold tailIB at ht
    rw [Bool.and_eq_true] at ht
    have := List.all_eq_true.1 ht.2 k (List.mem_range.2 (List.getElem?_eq_some_iff.1 ho).1)
    rw [ho, Bool.or_eq_true] at this
    rcases this with h | h
    · have := of_decide_eq_true h; omega
    · exact h
  intro r
  induction r with
  | nil =>
    intro k fuel listed a W hr hk hs hl hun hf h
    have hlen : L.length ≤ k := List.drop_eq_nil_iff.1 hr
    refine wpAny_done ?_ h fuel
    cases hR : Region.ready .any L.toArray listed with
    | nil => rfl
    | cons i is =>
      exfalso
      obtain ⟨o, ho, h1, _⟩ := of_mem_ready (md := .any) (i := i) hs (by rw [hR]; exact List.mem_cons_self ..)
      have hi := (List.getElem?_eq_some_iff.1 ho).1
      rw [hl i (by omega) hi] at h1
      cases h1
  | cons o r ih =>
    intro k fuel listed a W hr hk hs hl hun hf h
    have hkl : k < L.length := by
      rcases Nat.lt_or_ge k L.length with h1 | h1
      · exact h1
      · rw [List.drop_of_length_le h1] at hr; cases hr
    have hdr := List.drop_eq_getElem_cons hkl
    rw [hdr] at hr
    obtain ⟨ho, hr2⟩ := List.cons.inj hr
    have hok : L[k]? = some o := by rw [List.getElem?_eq_getElem hkl, ho]
    cases fuel with
    | zero => simp at hf
    | succ fuel =>
      have hin : k ∈ Region.ready .any L.toArray listed := mem_ready_of hs hok (hun k (Nat.le_refl _) hkl) (fun e he _ => by
        have := down_at hdown hok e he
        exact hl e.on (by omega) (by omega))
      refine ⟨fun h0 => (by rw [h0] at hin; cases hin), fun i hi => ?_⟩
      obtain ⟨o', ho', h1, h2⟩ := of_mem_ready (md := .any) hs hi
      have hil := (List.getElem?_eq_some_iff.1 ho').1
      have hik : i = k := by
        rcases Nat.lt_trichotomy i k with h3 | h3 | h3
        · rw [hl i h3 hil] at h1; cases h1
        · exact h3
        · exfalso
          obtain ⟨e, he, hb, hon⟩ := waits_on (hchain i o' (by omega) ho')
          have := h2 e he hb
          rw [hon, hun (i - 1) (by omega) (by omega)] at this
          cases this
      subst hik
      have hw : wpOp P L.toArray Q i (wpList P L.toArray Q r) a W := by
        unfold wpOp
        rw [show L.toArray[i]? = some o by simpa using hok]
        unfold wpList at h
        exact h
      refine wpOp_mono (fun a' w' h' => ih (i + 1) fuel _ a' w' hr2 (by omega) (by simp [hs]) (fun j hj hjl => ?_) (fun j hj hjl => ?_) (by simpa using hf) h') hw
      · by_cases hji : j = i
        · subst hji; exact getD_set_same (by omega) _
        · rw [getD_set_other hji]; exact hl j (by omega) hjl
      · rw [getD_set_other (by omega)]; exact hun j (by omega) hjl
theorem wpAny_calm_tailI {I : List Nat} {L : List Oper} {n : Nat} {Ts : List Tell} {a : Act} {w : World} {Q : Exit → Act → World → Prop} (hn : n ≤ L.length) (hd : distinctB (L.take n) = true) (hdown : downB L 0 = true) (htl : tailIB L n I = true) (hlt : ∀ (i : Nat) (o : Oper), (L.take n)[i]? = some o → ∃ t, o.dst = some t ∧ t < a.tmps.size)
    (D : List (List Nat)) (hD : (L.take n).map (depsOf .any) = D)
    (hO : ∀ f, AllCalm P L.toArray Ts f (putL f (L.take n) 0 a) w (L.take n) D 0)
    (hQ : ∀ f W, Below w.heap.size w W → (∀ i, i < n → (nthT Ts i).holds (f i) W) → wpList P L.toArray Q (L.drop n) (putL f (L.take n) 0 a) W) :
    ∀ (fuel : Nat) (listed : Array Bool) (f : Nat → Value) (W : World), listed.size = L.length → allB listed n + (L.length - n) ≤ fuel → Below w.heap.size w W → (∀ i, i < n → listed.getD i false = true → (nthT Ts i).holds (f i) W) →
      (∀ i, n ≤ i → i < L.length → listed.getD i false = false) → (∀ i o, L[i]? = some o → listed.getD i false = true → ∀ e ∈ o.after, Region.binds .any e = true → listed.getD e.on false = true) → (∀ i, i ∈ I → listed.getD i false = true) →
      wpAny P .any L.toArray Q fuel listed (putL f (L.take n) 0 a) W := by
  have hsz : ∀ f, (putL f (L.take n) 0 a).tmps.size = a.tmps.size := by
    intro f
    have : ∀ (os : List Oper) (k : Nat) (b : Act), (putL f os k b).tmps.size = b.tmps.size := by
      intro os
      induction os with
      | nil => intro k b; rfl
      | cons o os ih =>
        intro k b
        unfold putL
        rw [ih]
        cases o.dst <;> simp [Act.put]
    exact this _ 0 a
  have htn : (L.take n).length = n := by rw [List.length_take]; omega
  have hget : ∀ i, i < n → (L.take n)[i]? = L[i]? := fun i hi => by rw [List.getElem?_take, if_pos hi]
  have hwait : ∀ j, j < n → j ∉ I → ∃ m o, j < m ∧ m ≤ n ∧ L[m]? = some o ∧ waitsB o j = true := by
    intro j hj hjI
    unfold tailIB at htl
    rw [Bool.and_eq_true] at htl
    have h1 := List.all_eq_true.1 htl.1 j (List.mem_range.2 hj)
    rw [Bool.or_eq_true] at h1
    have h1 := h1.resolve_left (fun hc => hjI (by simpa using hc))
    obtain ⟨m, hm, h2⟩ := List.any_eq_true.1 h1
    rw [Bool.and_eq_true] at h2
    have h3 := of_decide_eq_true h2.1
    have h4 := List.mem_range.1 hm
    cases hL : L[m]? with
    | none => rw [hL] at h2; cases h2.2
    | some o => rw [hL] at h2; exact ⟨m, o, h3, by omega, hL, h2.2⟩
  -- all of the first n are listed: the tail
  have hphase : ∀ (fuel : Nat) (listed : Array Bool) (f : Nat → Value) (W : World), listed.size = L.length → L.length - n ≤ fuel → Below w.heap.size w W → (∀ i, i < n → listed.getD i false = true → (nthT Ts i).holds (f i) W) →
      (∀ i, n ≤ i → i < L.length → listed.getD i false = false) → (∀ i, i < n → listed.getD i false = true) → wpAny P .any L.toArray Q fuel listed (putL f (L.take n) 0 a) W := by
    intro fuel listed f W hs hf hB hT hun hall
    exact tail_walkI hdown htl (L.drop n) n fuel listed _ W rfl (Nat.le_refl _) hs (fun i hi _ => hall i hi) hun (by rw [List.length_drop]; exact hf) (hQ f W hB fun i hi => hT i hi (hall i hi))
  intro fuel
  induction fuel with
  | zero =>
    intro listed f W hs hc hB hT hun hdn hI
    refine hphase 0 listed f W hs (by omega) hB hT hun fun i hi => ?_
    by_cases hl : listed.getD i false = true
    · exact hl
    exfalso
    simp only [Bool.not_eq_true] at hl
    have hm : i ∈ (List.range n).filter fun i => !listed.getD i true := by
      rw [List.mem_filter]
      exact ⟨List.mem_range.2 hi, by rw [getD_tf (by omega), hl]; rfl⟩
    have := List.length_pos_of_mem hm
    unfold allB at hc
    omega
  | succ fuel ih =>
    intro listed f W hs hc hB hT hun hdn hI
    by_cases hall : ∀ i, i < n → listed.getD i false = true
    · exact hphase _ listed f W hs (by omega) hB hT hun hall
    have hex : ∃ j, j < n ∧ listed.getD j false = false := by
      apply Classical.byContradiction
      intro h
      apply hall
      intro i hi
      by_cases hl : listed.getD i false = true
      · exact hl
      · exact absurd ⟨i, hi, by simpa using hl⟩ h
    -- nothing of the tail can come up yet
    have htop : ∀ d j, n - j ≤ d → j < n → listed.getD j false = false → ∀ o, L[n]? = some o → (∀ e ∈ o.after, Region.binds .any e = true → listed.getD e.on false = true) → False := by
      intro d
      induction d with
      | zero => intro j h1 h2; omega
      | succ d ihd =>
        intro j h1 h2 h3 o ho hdeps
        obtain ⟨m, om, hm1, hm2, hm3, hm4⟩ := hwait j h2 (fun hjI => by rw [hI j hjI] at h3; cases h3)
        obtain ⟨e, he, hb, hon⟩ := waits_on hm4
        by_cases hmn : m = n
        · subst hmn
          rw [ho] at hm3
          obtain rfl := Option.some.inj hm3
          have := hdeps e he hb
          rw [hon, h3] at this
          cases this
        · by_cases hml : listed.getD m false = true
          · have := hdn m om hm3 hml e he hb
            rw [hon, h3] at this
            cases this
          · exact ihd m (by omega) (by omega) (by simpa using hml) o ho hdeps
    obtain ⟨j0, hj0, hj0u⟩ := hex
    -- something is ready
    have hsome : ∀ d i, i ≤ d → i < n → listed.getD i false = false → Region.ready .any L.toArray listed ≠ [] := by
      intro d
      induction d using Nat.strongRecOn with
      | ind d ihd =>
        intro i hid hi hu
        have hok : L[i]? = some L[i] := by simp [show i < L.length by omega]
        by_cases hdeps : ∀ e ∈ L[i].after, Region.binds .any e = true → listed.getD e.on false = true
        · have := mem_ready_of (md := .any) hs hok hu hdeps
          intro h0
          rw [h0] at this
          cases this
        · have : ∃ e, e ∈ L[i].after ∧ listed.getD e.on false = false := by
            apply Classical.byContradiction
            intro h
            apply hdeps
            intro e he _
            by_cases hl : listed.getD e.on false = true
            · exact hl
            · exact absurd ⟨e, he, by simpa using hl⟩ h
          obtain ⟨e, he, heu⟩ := this
          have h3 := down_at hdown hok e he
          exact ihd e.on (by omega) e.on (Nat.le_refl _) (by omega) heu
    refine ⟨fun hr => absurd hr (hsome j0 j0 (Nat.le_refl _) hj0 hj0u), fun i hi => ?_⟩
    obtain ⟨o, ho, hiu, hdeps⟩ := of_mem_ready (md := .any) hs hi
    have hil := (List.getElem?_eq_some_iff.1 ho).1
    have hin : i < n := by
      rcases Nat.lt_or_ge i n with h1 | h1
      · exact h1
      · exfalso
        by_cases hin : i = n
        · subst hin
          exact htop i j0 (by omega) hj0 hj0u o ho hdeps
        · have hchain : waitsB o (i - 1) = true := by
            unfold tailIB at htl
            rw [Bool.and_eq_true] at htl
            have := List.all_eq_true.1 htl.2 i (List.mem_range.2 hil)
            rw [ho, Bool.or_eq_true] at this
            rcases this with h | h
            · have := of_decide_eq_true h; omega
            · exact h
          obtain ⟨e, he, hb, hon⟩ := waits_on hchain
          have := hdeps e he hb
          rw [hon, hun (i - 1) (by omega) (by omega)] at this
          cases this
    have ho2 : (L.take n)[i]? = some o := by rw [hget i hin]; exact ho
    have hdd : ∀ j ∈ depsOf .any o, (nthT Ts j).holds (f j) W := by
      intro j hj
      unfold depsOf at hj
      obtain ⟨e, he, rfl⟩ := List.mem_map.1 hj
      rw [List.mem_filter] at he
      have he' : e ∈ o.after := by simpa using he.1
      have h6 := down_at hdown ho e he'
      exact hT e.on (by omega) (hdeps e he' he.2)
    have h7 := calm_at (i := i) (hO f) hD ho2 W hB hdd
    rw [Nat.zero_add] at h7
    obtain ⟨t0, hdst, ht0⟩ := hlt i o ho2
    refine wpOp_of_alone (by simpa using ho) (fun t ht => by rw [hsz]; rw [hdst] at ht; cases ht; exact ht0) h7 fun v W' hb hv => ?_
    rw [putL_upd (L.take n) 0 i a o hd ho2, Nat.zero_add]
    refine ih _ _ W' (by simp [hs]) ?_ (hB.trans (hb.mono hB.size)) ?_ ?_ ?_ ?_
    · have hlist : (List.range n).filter (fun k => !(listed.setIfInBounds i true).getD k true) = ((List.range n).filter fun k => !listed.getD k true).filter fun k => k != i := by
        rw [List.filter_filter]
        apply List.filter_congr
        intro k hk
        by_cases hki : k = i
        · subst hki
          rw [getD_set_same (by omega)]
          simp
        · rw [getD_set_other hki]
          simp [hki]
      have hmem : i ∈ (List.range n).filter fun k => !listed.getD k true := by
        rw [List.mem_filter]
        exact ⟨List.mem_range.2 hin, by rw [getD_tf (by omega), hiu]; rfl⟩
      unfold allB at hc ⊢
      rw [hlist]
      have hlt := List.length_filter_lt_length_iff_exists (p := fun k => k != i) (l := (List.range n).filter fun k => !listed.getD k true)
      have := hlt.2 ⟨i, hmem, by simp⟩
      omega
    · intro k hk hkl
      unfold updF
      by_cases hki : k = i
      · subst hki
        rw [if_pos rfl]
        rcases hv with hv | hv
        · exact hv
        · rw [hdst] at hv; cases hv
      · rw [if_neg hki]
        rw [getD_set_other hki] at hkl
        exact Tell.stays hb (hT k hk hkl)
    · intro k hk hkl
      rw [getD_set_other (by omega)]
      exact hun k hk hkl
    · intro k ok hok hkl e he hbb
      by_cases hki : k = i
      · subst hki
        rw [ho] at hok
        obtain rfl := Option.some.inj hok
        have h1 := down_at hdown ho e he
        rw [getD_set_other (by omega)]
        exact hdeps e he hbb
      · rw [getD_set_other hki] at hkl
        have h1 := hdn k ok hok hkl e he hbb
        by_cases hei : e.on = i
        · rw [hei]; exact getD_set_same (by omega) _
        · rw [getD_set_other hei]; exact h1
    · intro k hk
      by_cases hki : k = i
      · rw [hki]; exact getD_set_same (by omega) _
      · rw [getD_set_other hki]; exact hI k hk
def calmIB (L : List Oper) (n : Nat) (I : List Nat) (s : Nat) : Bool := decide (n ≤ L.length) && distinctB (L.take n) && downB L 0 && tailIB L n I && ((L.take n).all fun o => match o.dst with | none => false | some t => decide (t < s)) && I.all fun i => decide (i < n) && match L[i]? with | some o => o.after.toList.isEmpty | none => false
def listedI (N : Nat) (I : List Nat) : Array Bool := I.foldl (fun l i => l.setIfInBounds i true) (Array.replicate N false)
theorem listedI_size (N : Nat) (I : List Nat) : (listedI N I).size = N := by
  have : ∀ (I : List Nat) (l : Array Bool), (I.foldl (fun l i => l.setIfInBounds i true) l).size = l.size := by
    intro I
    induction I with
    | nil => intro l; rfl
    | cons i I ih => intro l; rw [List.foldl_cons, ih]; simp
  unfold listedI
  rw [this]
  simp
theorem listedI_get (N : Nat) (I : List Nat) (k : Nat) (hk : k < N) : (listedI N I).getD k false = decide (k ∈ I) := by
  have : ∀ (I : List Nat) (l : Array Bool), l.size = N → (I.foldl (fun l i => l.setIfInBounds i true) l).getD k false = (decide (k ∈ I) || l.getD k false) := by
    intro I
    induction I with
    | nil => intro l hl; simp
    | cons i I ih =>
      intro l hl
      rw [List.foldl_cons, ih _ (by simpa using hl)]
      by_cases hki : k = i
      · subst hki
        rw [getD_set_same (listed := l) (by omega) false]
        simp
      · rw [getD_set_other hki]
        simp [hki]
  unfold listedI
  rw [this I _ (by simp)]
  simp [Array.getD]
/-- A region whose operations of number I have been taken, each of which waits for none; all the others behind them wait as in calm_tail. -/
theorem calm_tailI {L : List Oper} {Q : Exit → Act → World → Prop} {a : Act} {w : World} {fuel : Nat} (n : Nat) (I : List Nat) (Ts : List Tell) (D : List (List Nat)) (hB : calmIB L n I a.tmps.size = true) (hD : (L.take n).map (depsOf .any) = D) (hn : Ts.length = n)
    (hfu : allB (listedI L.length I) n + (L.length - n) ≤ fuel) (hT0 : ∀ i ∈ I, ∀ o, L[i]? = some o → (nthT Ts i).holds (match o.dst with | some t => a.tmps.getD t undef | none => undef) w)
    (h : ∀ f a', putL f (L.take n) 0 a = a' → AllCalm P L.toArray Ts f a' w (L.take n) D 0 ∧ (∀ W, Below w.heap.size w W → AllTold Ts f W Ts 0 → wpList P L.toArray Q (L.drop n) a' W)) : wpAny P .any L.toArray Q fuel (listedI L.length I) a w := by
  unfold calmIB at hB
  simp only [Bool.and_eq_true] at hB
  obtain ⟨⟨⟨⟨⟨h0, h1⟩, h2⟩, h3⟩, h4⟩, h5⟩ := hB
  have h0 := of_decide_eq_true h0
  have hI : ∀ i ∈ I, i < n ∧ ∀ o, L[i]? = some o → o.after.toList = [] := by
    intro i hi
    have := List.all_eq_true.1 h5 i hi
    rw [Bool.and_eq_true] at this
    refine ⟨of_decide_eq_true this.1, fun o ho => ?_⟩
    have h6 := this.2
    rw [ho] at h6
    simpa using h6
  have hlt : ∀ (i : Nat) (o : Oper), (L.take n)[i]? = some o → ∃ t, o.dst = some t ∧ t < a.tmps.size := by
    intro i o ho
    have := List.all_eq_true.1 h4 o (List.mem_of_getElem? ho)
    cases hd : o.dst with
    | none => rw [hd] at this; cases this
    | some t => rw [hd] at this; exact ⟨t, rfl, of_decide_eq_true this⟩
  obtain ⟨f0, hf0, hfv⟩ : ∃ f0, putL f0 (L.take n) 0 a = a ∧ ∀ i o, (L.take n)[i]? = some o → f0 i = (match o.dst with | some t => a.tmps.getD t undef | none => undef) := by
    refine ⟨fun k => match (L.take n)[k]? with | some o => (match o.dst with | some t => a.tmps.getD t undef | none => undef) | none => undef, ?_, fun i o ho => by simp only [ho]⟩
    refine putL_own (L.take n) 0 fun j o ho t ht => ?_
    rw [Nat.zero_add]
    simp only [ho, ht]
  have hsz := listedI_size L.length I
  have g2 := wpAny_calm_tailI (P := P) (w := w) (Ts := Ts) (Q := Q) (a := a) (I := I) h0 h1 h2 h3 hlt D hD (fun f => (h f _ rfl).1) (fun f W hW hT => (h f _ rfl).2 W hW (told_of (fun i hi => by rw [Nat.zero_add]) fun i hi => by rw [Nat.zero_add]; exact hT i (by omega)))
    fuel (listedI L.length I) f0 w hsz hfu (Below.refl _ _) (fun i hi hl => by
      rw [listedI_get _ _ _ (by omega)] at hl
      have hiI := of_decide_eq_true hl
      have ho : L[i]? = some L[i] := by simp [show i < L.length by omega]
      have ho2 : (L.take n)[i]? = some L[i] := by rw [List.getElem?_take, if_pos hi]; exact ho
      rw [hfv i _ ho2]
      exact hT0 i hiI _ ho) (fun i hi hil => by
      rw [listedI_get _ _ _ hil, decide_eq_false]
      intro hiI
      have := (hI i hiI).1
      omega) (fun i o ho hl e he hb => by
      exfalso
      have hil := (List.getElem?_eq_some_iff.1 ho).1
      rw [listedI_get _ _ _ hil] at hl
      have := (hI i (of_decide_eq_true hl)).2 o ho
      have he' : e ∈ o.after.toList := by simpa using he
      rw [this] at he'
      cases he') (fun i hi => by
      rw [listedI_get _ _ _ (by have := (hI i hi).1; omega)]
      exact decide_eq_true hi)
  rw [hf0] at g2
  exact g2
end
end Go.Proofs.Ytflodljccloobaa
