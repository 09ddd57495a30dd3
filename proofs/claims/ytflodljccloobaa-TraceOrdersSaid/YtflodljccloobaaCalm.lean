/- A region that draws its order, walked once: what each operation's slot holds is told by a predicate that no later operation undoes, and each operation leans only on those that it waits for. No program is named here. -/
import Derived.Test.YtflodljccloobaaBase
import Derived.Orders
import Derived.RegionTactic
namespace Go.Proofs.Ytflodljccloobaa
set_option linter.unusedVariables false
open Go Go.RowKit
section
variable {P : Program} {ops : Array Oper}
theorem put_same (a : Act) (d : Option Tmp) (u v : Value) : (a.put d u).put d v = a.put d v := by
  cases d with
  | none => rfl
  | some d => simp [Act.put]
theorem put_comm (a : Act) {d e : Option Tmp} (h : d = none ∨ d ≠ e) (u v : Value) : (a.put e u).put d v = (a.put d v).put e u := by
  cases d with
  | none => cases e <;> rfl
  | some d =>
    cases e with
    | none => rfl
    | some e =>
      have hne : d ≠ e := by rcases h with h | h; · cases h
                             · exact fun he => h (by rw [he])
      simp only [Act.put]
      congr 1
      apply Array.ext_getElem?
      intro k
      simp only [Array.getElem?_setIfInBounds, Array.size_setIfInBounds]
      by_cases h1 : d = k
      · by_cases h2 : e = k
        · exact absurd (h1.trans h2.symm) hne
        · simp [h1, h2]
      · by_cases h2 : e = k
        · simp [h1, h2]
        · simp [h1, h2]
/-- The slots of these operations, laid. -/
def putL (f : Nat → Value) : List Oper → Nat → Act → Act
  | [], _, a => a
  | o :: os, k, a => putL f os (k + 1) (a.put o.dst (f k))
def updF (f : Nat → Value) (i : Nat) (v : Value) : Nat → Value := fun j => if j = i then v else f j
def distinctB : List Oper → Bool
  | [] => true
  | o :: os => (match o.dst with | none => true | some d => os.all fun x => x.dst != some d) && distinctB os
theorem distinct_tail {o : Oper} {os : List Oper} (h : distinctB (o :: os) = true) : (∀ x ∈ os, o.dst = none ∨ o.dst ≠ x.dst) ∧ distinctB os = true := by
  unfold distinctB at h
  rw [Bool.and_eq_true] at h
  refine ⟨fun x hx => ?_, h.2⟩
  cases hd : o.dst with
  | none => exact .inl rfl
  | some d =>
    rw [hd] at h
    right
    have := List.all_eq_true.1 h.1 x hx
    intro he
    rw [← he] at this
    simp at this
theorem putL_put {f : Nat → Value} {d : Option Tmp} {v : Value} : ∀ (os : List Oper) (k : Nat) (a : Act), (∀ x ∈ os, d = none ∨ d ≠ x.dst) → (putL f os k a).put d v = putL f os k (a.put d v)
  | [], _, _, _ => rfl
  | o :: os, k, a, h => by
    unfold putL
    rw [putL_put os (k + 1) _ (fun x hx => h x (List.mem_cons_of_mem _ hx)), put_comm a (h o (List.mem_cons_self ..))]
theorem putL_congr {f g : Nat → Value} : ∀ (os : List Oper) (k : Nat) (a : Act), (∀ j, k ≤ j → f j = g j) → putL f os k a = putL g os k a
  | [], _, _, _ => rfl
  | o :: os, k, a, h => by
    unfold putL
    rw [h k (Nat.le_refl _)]
    exact putL_congr os (k + 1) _ fun j hj => h j (by omega)
theorem putL_upd {f : Nat → Value} {v : Value} : ∀ (os : List Oper) (k i : Nat) (a : Act) (o : Oper), distinctB os = true → os[i]? = some o → (putL f os k a).put o.dst v = putL (updF f (k + i) v) os k a
  | [], _, _, _, _, _, h => by simp at h
  | o' :: os, k, 0, a, o, hd, h => by
    obtain rfl : o' = o := by simpa using h
    have h1 := distinct_tail hd
    unfold putL
    rw [putL_put os (k + 1) _ h1.1, put_same]
    have e : updF f (k + 0) v k = v := by simp [updF]
    rw [e]
    refine putL_congr os (k + 1) _ fun j hj => ?_
    unfold updF
    rw [if_neg (by omega)]
  | o' :: os, k, i + 1, a, o, hd, h => by
    have h1 := distinct_tail hd
    unfold putL
    rw [putL_upd os (k + 1) i _ o h1.2 (by simpa using h)]
    have e : updF f (k + (i + 1)) v k = f k := by unfold updF; rw [if_neg (by omega)]
    rw [e, show k + 1 + i = k + (i + 1) by omega]
theorem put_own (a : Act) (d : Option Tmp) (v : Value) (h : ∀ t, d = some t → a.tmps.getD t undef = v) : a.put d v = a := by
  cases d with
  | none => rfl
  | some t =>
    have := h t rfl
    subst this
    obtain ⟨tm, df⟩ := a
    simp only [Act.put]
    congr 1
    apply Array.ext_getElem?
    intro k
    simp only [Array.getElem?_setIfInBounds]
    by_cases hk : t = k
    · subst hk
      by_cases hs : t < tm.size
      · simp [hs]
      · simp [hs]
    · simp [hk]
theorem putL_own {a : Act} {f : Nat → Value} : ∀ (os : List Oper) (k : Nat), (∀ j o, os[j]? = some o → ∀ t, o.dst = some t → a.tmps.getD t undef = f (k + j)) → putL f os k a = a
  | [], _, _ => rfl
  | o :: os, k, h => by
    unfold putL
    rw [put_own a o.dst (f k) (fun t ht => h 0 o (by simp) t ht)]
    exact putL_own os (k + 1) fun j o' ho t ht => by
      have := h (j + 1) o' (by simpa using ho) t ht
      rw [this]
      congr 1
      omega
end

/-- What a slot is told to hold; what was so stays so when only new blocks come. -/
inductive Tell where
  | is (v : Value)
  | any
  | sl (n : Nat) (xs : List Value)
  | of (p : Value → World → Prop) (h : ∀ v W W', Below W.heap.size W W' → p v W → p v W')
def Tell.holds : Tell → Value → World → Prop
  | .is u, v, _ => v = u
  | .any, _, _ => True
  | .sl n xs, v, W => Sl W W.heap.size v n xs
  | .of p _, v, W => p v W
theorem Tell.stays {T : Tell} {v : Value} {W W' : World} (hb : Below W.heap.size W W') (h : T.holds v W) : T.holds v W' := by
  cases T with
  | is u => exact h
  | any => trivial
  | sl n xs => exact Sl.now h hb
  | of p hp => exact hp v W W' hb h
def nthT : List Tell → Nat → Tell
  | [], _ => .any
  | T :: _, 0 => T
  | _ :: Ts, n + 1 => nthT Ts n
def Tells (Ts : List Tell) (f : Nat → Value) (W : World) : List Nat → Prop
  | [] => True
  | j :: js => (nthT Ts j).holds (f j) W ∧ Tells Ts f W js
theorem tells_of {Ts : List Tell} {f : Nat → Value} {W : World} : ∀ {js : List Nat}, (∀ j ∈ js, (nthT Ts j).holds (f j) W) → Tells Ts f W js
  | [], _ => trivial
  | j :: js, h => ⟨h j (List.mem_cons_self ..), tells_of fun x hx => h x (List.mem_cons_of_mem _ hx)⟩
/-- What an operation that is carried out alone has to leave. -/
def CalmQ (a : Act) (W : World) (T : Tell) (d : Option Tmp) (e : Exit) (a' : Act) (W' : World) : Prop :=
  e = .normal ∧ a'.defers = a.defers ∧ Below W.heap.size W W' ∧ T.holds (match d with | some t => a'.tmps.getD t undef | none => undef) W'
theorem CalmQ.mk {a : Act} {W : World} {T : Tell} {d : Option Tmp} {a' : Act} {W' : World} (hd : a'.defers = a.defers) (v : Value) (hv : (match d with | some t => a'.tmps.getD t undef | none => undef) = v) (hb : Below W.heap.size W W') (h : T.holds v W') : CalmQ a W T d .normal a' W' := ⟨rfl, hd, hb, hv ▸ h⟩
def depsOf (md : Region.Mode) (o : Oper) : List Nat := (o.after.toList.filter fun e => Region.binds md e).map (·.on)
/-- Each operation, carried out alone in the frame a' at some time, with what it waits for told. -/
def AllCalm (P : Program) (ops : Array Oper) (Ts : List Tell) (f : Nat → Value) (a' : Act) (w : World) : List Oper → List (List Nat) → Nat → Prop
  | o :: os, js :: D, k => (∀ W, Below w.heap.size w W → Tells Ts f W js → wpList P ops (CalmQ a' W (nthT Ts k) o.dst) [o] a' W) ∧ AllCalm P ops Ts f a' w os D (k + 1)
  | _, _, _ => True
theorem AllCalm.cons {P : Program} {ops : Array Oper} {Ts : List Tell} {f : Nat → Value} {a' : Act} {w : World} {o : Oper} {os : List Oper} {js : List Nat} {D : List (List Nat)} {k : Nat}
    (h : ∀ W, Below w.heap.size w W → Tells Ts f W js → wpList P ops (CalmQ a' W (nthT Ts k) o.dst) [o] a' W) (hs : AllCalm P ops Ts f a' w os D (k + 1)) : AllCalm P ops Ts f a' w (o :: os) (js :: D) k := ⟨h, hs⟩
theorem AllCalm.nil {P : Program} {ops : Array Oper} {Ts : List Tell} {f : Nat → Value} {a' : Act} {w : World} {D : List (List Nat)} {k : Nat} : AllCalm P ops Ts f a' w [] D k := trivial
def AllTold (Ts : List Tell) (f : Nat → Value) (W : World) : List Tell → Nat → Prop
  | T :: rest, k => T.holds (f k) W ∧ AllTold Ts f W rest (k + 1)
  | [], _ => True
def downB : List Oper → Nat → Bool
  | [], _ => true
  | o :: os, k => (o.after.toList.all fun e => decide (e.on < k)) && downB os (k + 1)
section
variable {P : Program} {ops : Array Oper}
theorem down_at : ∀ {os : List Oper} {k i : Nat} {o : Oper}, downB os k = true → os[i]? = some o → ∀ e ∈ o.after, e.on < k + i
  | [], _, _, _, _, h => by simp at h
  | o' :: os, k, 0, o, hd, h => by
    obtain rfl : o' = o := by simpa using h
    unfold downB at hd
    rw [Bool.and_eq_true] at hd
    intro e he
    have := List.all_eq_true.1 hd.1 e (by simpa using he)
    simpa using this
  | o' :: os, k, i + 1, o, hd, h => by
    unfold downB at hd
    rw [Bool.and_eq_true] at hd
    intro e he
    have := down_at hd.2 (show os[i]? = some o by simpa using h) e he
    omega
theorem calm_at {md : Region.Mode} {Ts : List Tell} {f : Nat → Value} {a' : Act} {w : World} : ∀ {os : List Oper} {D : List (List Nat)} {k i : Nat} {o : Oper}, AllCalm P ops Ts f a' w os D k → os.map (depsOf md) = D → os[i]? = some o →
    ∀ W, Below w.heap.size w W → (∀ j ∈ depsOf md o, (nthT Ts j).holds (f j) W) → wpList P ops (CalmQ a' W (nthT Ts (k + i)) o.dst) [o] a' W
  | [], _, _, _, _, _, _, h => by simp at h
  | o' :: os, [], _, _, _, _, hD, _ => by simp at hD
  | o' :: os, js :: D, k, 0, o, hc, hD, h => by
    obtain rfl : o' = o := by simpa using h
    intro W hB hd
    obtain ⟨h1, h2⟩ := List.cons.inj hD
    refine hc.1 W hB ?_
    rw [← h1]
    exact tells_of hd
  | o' :: os, js :: D, k, i + 1, o, hc, hD, h => by
    intro W hB hd
    have := calm_at hc.2 (List.cons.inj hD).2 (show os[i]? = some o by simpa using h) W hB hd
    rw [show k + 1 + i = k + (i + 1) by omega] at this
    exact this
/-- An operation that is carried out alone: what the order's walk asks of it. -/
theorem wpOp_of_alone {i : Nat} {o : Oper} {a : Act} {W : World} {T : Tell} {K : Act → World → Prop} {Q : Exit → Act → World → Prop} (ho : ops[i]? = some o)
    (hlt : ∀ t, o.dst = some t → t < a.tmps.size) (h : wpList P ops (CalmQ a W T o.dst) [o] a W) (hK : ∀ v W', Below W.heap.size W W' → T.holds v W' ∨ o.dst = none → K (a.put o.dst v) W') : wpOp P ops Q i K a W := by
  have key : ∀ v W', CalmQ a W T o.dst .normal (a.put o.dst v) W' → K (a.put o.dst v) W' := by
    rintro v W' ⟨_, _, hb, ht⟩
    refine hK v W' hb ?_
    cases hd : o.dst with
    | none => exact .inr rfl
    | some t =>
      left
      rw [hd] at ht
      have h1 := hlt t hd
      simpa [Act.put, h1] using ht
  have nolet : ¬ LetsOut (CalmQ a W T o.dst) := by
    rintro ⟨a', w', h, _⟩
    cases h
  unfold wpOp
  rw [ho]
  unfold wpList at h
  dsimp only
  split
  · rename_i hw
    rw [if_pos hw] at h
    rcases h with h | ⟨_, h⟩
    · left
      unfold Oper.wp at *
      generalize (execOp a.eval o).run P W = r at *
      cases r with
      | ok n w' =>
        cases n <;> simp only [Oper.upon, wpList] at h ⊢
        case value v => exact key _ _ h
        case skip => exact key _ _ h
        case defer d =>
          exfalso
          obtain ⟨_, h2, _⟩ := h
          have h3 : ({ a with defers := d :: a.defers } : Act).defers = a.defers := by
            cases hd : o.dst with
            | none => rw [hd] at h2; exact h2
            | some t => rw [hd] at h2; exact h2
          exact absurd (congrArg List.length h3) (by simp)
        case enter f args =>
          refine h.mono fun e w'' he => ?_
          cases e with
          | returned v => exact key _ _ he
          | panicked ch => exact absurd he.1 (by simp)
          | outgrown => exact absurd he nolet
        case row r args => exact Rows.mono h fun v w'' he => key _ _ he
      | halt x w' =>
        cases x <;> simp only [Oper.upon] at h
        exact absurd h.1 (by simp)
    · exact absurd h nolet
  · rename_i hw
    rw [if_neg hw] at h
    exact key _ _ h
def allB (listed : Array Bool) (n : Nat) : Nat := ((List.range n).filter fun i => !listed.getD i true).length
theorem wpAny_calm {md : Region.Mode} {l : List Oper} {Ts : List Tell} {a : Act} {w : World} {Q : Exit → Act → World → Prop} (hd : distinctB l = true) (hdown : downB l 0 = true) (hlt : ∀ (i : Nat) (o : Oper), l[i]? = some o → ∀ t, o.dst = some t → t < a.tmps.size)
    (D : List (List Nat)) (hD : l.map (depsOf md) = D)
    (hnone : ∀ (i : Nat) (o : Oper), l[i]? = some o → o.dst = none → nthT Ts i = .any)
    (hO : ∀ f, AllCalm P l.toArray Ts f (putL f l 0 a) w l D 0)
    (hQ : ∀ f W, Below w.heap.size w W → (∀ i, i < l.length → (nthT Ts i).holds (f i) W) → Q .normal (putL f l 0 a) W) :
    ∀ (fuel : Nat) (listed : Array Bool) (f : Nat → Value) (W : World), listed.size = l.length → allB listed l.length ≤ fuel → Below w.heap.size w W → (∀ i, i < l.length → listed.getD i false = true → (nthT Ts i).holds (f i) W) →
      wpAny P md l.toArray Q fuel listed (putL f l 0 a) W := by
  have hsz : ∀ f, (putL f l 0 a).tmps.size = a.tmps.size := by
    intro f
    have : ∀ (os : List Oper) (k : Nat) (b : Act), (putL f os k b).tmps.size = b.tmps.size := by
      intro os
      induction os with
      | nil => intro k b; rfl
      | cons o os ih =>
        intro k b
        unfold putL
        rw [ih]
        cases o.dst <;> simp [Act.put]
    exact this l 0 a
  -- nothing is ready: all is listed
  have hend : ∀ (listed : Array Bool), listed.size = l.length → Region.ready md l.toArray listed = [] → ∀ n i, i ≤ n → i < l.length → listed.getD i false = true := by
    intro listed hs hr n
    induction n using Nat.strongRecOn with
    | ind n ih =>
      intro i hin hi
      by_cases hl : listed.getD i false = true
      · exact hl
      exfalso
      have hmem : i ∈ Region.ready md l.toArray listed := by
        unfold Region.ready
        rw [List.mem_filter]
        refine ⟨List.mem_range.2 (by simpa using hi), ?_⟩
        have h1 : listed.getD i true = listed.getD i false := by
          have : i < listed.size := by omega
          simp [Array.getD, this]
        have h2 : l.toArray[i]? = some l[i] := by simp [hi]
        rw [h1, h2]
        simp only [Bool.not_eq_true] at hl
        rw [hl]
        simp only [Bool.not_false, Option.map_some, Option.getD_some, Bool.true_and]
        rw [Array.all_eq_true']
        intro e he
        have h3 := down_at hdown (show l[i]? = some l[i] by simp [hi]) e he
        rw [Bool.or_eq_true]
        right
        exact ih e.on (by omega) e.on (Nat.le_refl _) (by omega)
      rw [hr] at hmem
      cases hmem
  intro fuel
  induction fuel with
  | zero =>
    intro listed f W hs hc hB hT
    have hall : ∀ i, i < l.length → listed.getD i false = true := by
      intro i hi
      by_cases hl : listed.getD i false = true
      · exact hl
      exfalso
      have h1 : listed.getD i true = listed.getD i false := by
        have : i < listed.size := by omega
        simp [Array.getD, this]
      simp only [Bool.not_eq_true] at hl
      have hm : i ∈ (List.range l.length).filter fun i => !listed.getD i true := by
        rw [List.mem_filter]
        exact ⟨List.mem_range.2 hi, by rw [h1, hl]; rfl⟩
      have := List.length_pos_of_mem hm
      unfold allB at hc
      omega
    refine ⟨?_, hQ f W hB fun i hi => hT i hi (hall i hi)⟩
    unfold Region.ready
    rw [List.filter_eq_nil_iff]
    intro i hi
    have hi' : i < l.length := by simpa using List.mem_range.1 hi
    have h1 : listed.getD i true = listed.getD i false := by
      have : i < listed.size := by omega
      simp [Array.getD, this]
    rw [h1, hall i hi']
    simp
  | succ fuel ih =>
    intro listed f W hs hc hB hT
    refine ⟨fun hr => hQ f W hB fun i hi => hT i hi (hend listed hs hr i i (Nat.le_refl _) hi), fun i hi => ?_⟩
    unfold Region.ready at hi
    rw [List.mem_filter] at hi
    obtain ⟨hi1, hi2⟩ := hi
    have hi' : i < l.length := by simpa using List.mem_range.1 hi1
    have h2 : l.toArray[i]? = some l[i] := by simp [hi']
    have h2' : l[i]? = some l[i] := by simp [hi']
    rw [h2] at hi2
    simp only [Option.map_some, Option.getD_some, Bool.and_eq_true, Bool.not_eq_true'] at hi2
    obtain ⟨hi3, hi4⟩ := hi2
    rw [Array.all_eq_true'] at hi4
    have hdeps : ∀ j ∈ depsOf md l[i], (nthT Ts j).holds (f j) W := by
      intro j hj
      unfold depsOf at hj
      obtain ⟨e, he, rfl⟩ := List.mem_map.1 hj
      rw [List.mem_filter] at he
      have he' : e ∈ l[i].after := by simpa using he.1
      have h5 := hi4 e he'
      rw [he.2] at h5
      simp only [Bool.not_true, Bool.false_or] at h5
      have h6 := down_at hdown h2' e he'
      exact hT e.on (by omega) h5
    have h7 := calm_at (i := i) (hO f) hD h2' W hB hdeps
    rw [Nat.zero_add] at h7
    refine wpOp_of_alone h2 (fun t ht => by rw [hsz]; exact hlt i _ h2' t ht) h7 fun v W' hb hv => ?_
    rw [putL_upd l 0 i a l[i] hd h2', Nat.zero_add]
    refine ih _ _ W' (by simp [hs]) ?_ (hB.trans (hb.mono hB.size)) ?_
    · have hlist : (List.range l.length).filter (fun k => !(listed.setIfInBounds i true).getD k true) = ((List.range l.length).filter fun k => !listed.getD k true).filter fun k => k != i := by
        rw [List.filter_filter]
        apply List.filter_congr
        intro k hk
        have hk' : k < l.length := List.mem_range.1 hk
        by_cases hki : k = i
        · subst hki
          simp [Array.getD, hs, hk']
        · have : (listed.setIfInBounds i true).getD k true = listed.getD k true := by
            have hk2 : k < listed.size := by omega
            simp only [Array.getD, Array.size_setIfInBounds, hk2, dif_pos]
            rw [Array.getInternal_eq_getElem, Array.getInternal_eq_getElem, Array.getElem_setIfInBounds]
            rw [if_neg (fun h => hki h.symm)]
          rw [this]
          simp [hki]
      have hmem : i ∈ (List.range l.length).filter fun k => !listed.getD k true := by
        rw [List.mem_filter]
        exact ⟨List.mem_range.2 hi', by rw [hi3]; rfl⟩
      unfold allB at hc ⊢
      rw [hlist]
      have hlt := List.length_filter_lt_length_iff_exists (p := fun k => k != i) (l := (List.range l.length).filter fun k => !listed.getD k true)
      have := hlt.2 ⟨i, hmem, by simp⟩
      omega
    · intro k hk hkl
      unfold updF
      by_cases hki : k = i
      · subst hki
        rw [if_pos rfl]
        rcases hv with hv | hv
        · exact hv
        · rw [hnone k _ h2' hv]; trivial
      · rw [if_neg hki]
        refine Tell.stays hb (hT k hk ?_)
        have hk2 : k < listed.size := by omega
        simp only [Array.getD, Array.size_setIfInBounds, hk2, dif_pos] at hkl ⊢
        rw [Array.getInternal_eq_getElem, Array.getElem_setIfInBounds, if_neg (fun h => hki h.symm)] at hkl
        rw [Array.getInternal_eq_getElem]
        exact hkl
theorem told_of {Ts : List Tell} {f : Nat → Value} {W : World} : ∀ {rest : List Tell} {k : Nat}, (∀ i, i < rest.length → nthT Ts (k + i) = nthT rest i) → (∀ i, i < rest.length → (nthT Ts (k + i)).holds (f (k + i)) W) → AllTold Ts f W rest k
  | [], _, _, _ => trivial
  | T :: rest, k, h1, h2 => by
    refine ⟨?_, told_of (fun i hi => ?_) (fun i hi => ?_)⟩
    · have a1 := h1 0 (by simp)
      have a2 := h2 0 (by simp)
      rw [a1] at a2
      exact a2
    · have := h1 (i + 1) (by simp; omega)
      rw [show k + 1 + i = k + (i + 1) by omega]
      exact this
    · have := h2 (i + 1) (by simp; omega)
      rw [show k + 1 + i = k + (i + 1) by omega]
      exact this
def calmB (l : List Oper) (n : Nat) : Bool := distinctB l && downB l 0 && l.all fun o => match o.dst with | none => false | some t => decide (t < n)
/-- A region that draws its order: each operation once, and what follows once. -/
theorem calm_region {id : Nat} {l : List Oper} {Q : Exit → Act → World → Prop} {a : Act} {w : World} (Ts : List Tell) (D : List (List Nat)) (hm : P.follows .mixedOrders = true) (hB : calmB l a.tmps.size = true) (hD : l.map (depsOf .any) = D) (hn : Ts.length = l.length)
    (h : ∀ f a', putL f l 0 a = a' → AllCalm P l.toArray Ts f a' w l D 0 ∧ (∀ W, Below w.heap.size w W → AllTold Ts f W Ts 0 → Q .normal a' W)) : (Code.region id l.toArray true).wp P Q a w := by
  unfold calmB at hB
  rw [Bool.and_eq_true, Bool.and_eq_true] at hB
  obtain ⟨⟨h1, h2⟩, h3⟩ := hB
  have hlt : ∀ (i : Nat) (o : Oper), l[i]? = some o → ∃ t, o.dst = some t ∧ t < a.tmps.size := by
    intro i o ho
    have := List.all_eq_true.1 h3 o (List.mem_of_getElem? ho)
    cases hd : o.dst with
    | none => rw [hd] at this; cases this
    | some t => rw [hd] at this; exact ⟨t, rfl, of_decide_eq_true this⟩
  refine wp_region_any hm ?_
  obtain ⟨f0, h0⟩ : ∃ f0, putL f0 l 0 a = a := by
    refine ⟨fun k => match l[k]? with | some o => (match o.dst with | some t => a.tmps.getD t undef | none => undef) | none => undef, ?_⟩
    refine putL_own l 0 fun j o ho t ht => ?_
    rw [Nat.zero_add]
    simp only [ho, ht]
  have key := wpAny_calm (P := P) (md := .any) (w := w) (Ts := Ts) (Q := Q) (a := a) h1 h2 (fun i o ho t ht => by
      obtain ⟨t', e1, e2⟩ := hlt i o ho
      rw [ht] at e1
      cases e1
      exact e2) D hD (fun i o ho hd => by
      obtain ⟨t', e1, e2⟩ := hlt i o ho
      rw [hd] at e1
      cases e1) (fun f => (h f _ rfl).1) (fun f W hW hT => (h f _ rfl).2 W hW (told_of (fun i hi => by rw [Nat.zero_add]) fun i hi => by rw [Nat.zero_add]; exact hT i (by omega)))
  rw [show l.toArray.size = l.length from rfl]
  have g1 : allB (Array.replicate l.length false) l.length ≤ l.length := by
    unfold allB
    have := List.length_filter_le (fun i => !(Array.replicate l.length false).getD i true) (List.range l.length)
    simpa using this
  have g2 := key l.length (Array.replicate l.length false) f0 { w with drawn := w.drawn + 1 } (by simp) g1 (Below.refl _ _).drew (fun i hi hl => by exfalso; simp [Array.getD, hi] at hl)
  rw [h0] at g2
  exact g2
end
end Go.Proofs.Ytflodljccloobaa
