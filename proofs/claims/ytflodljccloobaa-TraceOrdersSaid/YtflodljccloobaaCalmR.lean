/- A region that draws its order and ends in operations that wait for all the others, over any relation of worlds that goes on (such as: but for these blocks nothing turned). No program is named here. -/
import Derived.Test.YtflodljccloobaaCalmT
namespace Go.Proofs.Ytflodljccloobaa
namespace CalmR
set_option linter.unusedVariables false
open Go Go.RowKit
/-- How the world goes on. -/
structure Rel where
  r : World → World → Prop
  refl : ∀ w, r w w
  trans : ∀ {a b c}, r a b → r b c → r a c
  drew : ∀ w, r w { w with drawn := w.drawn + 1 }
  /-- the finer one: what all operations but one keep to -/
  r0 : World → World → Prop
  fine : ∀ {a b}, r0 a b → r a b
  trans0 : ∀ {a b c}, r0 a b → r0 b c → r0 a c
  drew0 : ∀ w, r0 w { w with drawn := w.drawn + 1 }
section
variable {P : Program} {ops : Array Oper}
/-- What a slot is told to hold; what was so stays so when only new blocks come. -/
inductive Tell (R : Rel) where
  | is (v : Value)
  | any
  | of (p : Value → World → Prop) (h : ∀ v W W', R.r W W' → p v W → p v W')
  | frail (p : Value → World → Prop) (h : ∀ v W W', R.r0 W W' → p v W → p v W')
/-- How an operation that is told so may turn the world: one alone (frail) as R says, the others finer. -/
def Tell.rel {R : Rel} : Tell R → World → World → Prop
  | .frail _ _ => R.r
  | _ => R.r0
/-- What has come to pass before such an operation. -/
def Tell.pre {R : Rel} : Tell R → World → World → Prop
  | .frail _ _ => R.r0
  | _ => R.r
def Tell.soft {R : Rel} : Tell R → Bool
  | .frail _ _ => true
  | _ => false
theorem Tell.rel_r {R : Rel} {T : Tell R} {W W' : World} (h : T.rel W W') : R.r W W' := by
  cases T with
  | frail p hp => exact h
  | _ => exact R.fine h
def Tell.holds {R : Rel} : Tell R → Value → World → Prop
  | .is u, v, _ => v = u
  | .any, _, _ => True
  | .of p _, v, W => p v W
  | .frail p _, v, W => p v W
theorem Tell.stays {R : Rel} {T U : Tell R} {v : Value} {W W' : World} (hb : U.rel W W') (hTU : T.soft = false ∨ U.soft = false) (h : T.holds v W) : T.holds v W' := by
  cases T with
  | is u => exact h
  | any => trivial
  | of p hp => exact hp v W W' (Tell.rel_r hb) h
  | frail p hp =>
    cases U with
    | frail q hq => rcases hTU with h | h <;> cases h
    | _ => exact hp v W W' hb h
theorem Tell.pre_of {R : Rel} {T : Tell R} {w W : World} (h : R.r w W) (h0 : T.soft = true → R.r0 w W) : T.pre w W := by
  cases T with
  | frail p hp => exact h0 rfl
  | _ => exact h
theorem Tell.rel_0 {R : Rel} {T : Tell R} {W W' : World} (h : T.rel W W') (hs : T.soft = false) : R.r0 W W' := by
  cases T with
  | frail p hp => cases hs
  | _ => exact h
def nthT {R : Rel} : List (Tell R) → Nat → Tell R
  | [], _ => .any
  | T :: _, 0 => T
  | _ :: Ts, n + 1 => nthT Ts n
def softs {R : Rel} : List (Tell R) → Nat
  | [] => 0
  | T :: Ts => (if T.soft then 1 else 0) + softs Ts
theorem softs_zero {R : Rel} : ∀ {Ts : List (Tell R)} {i : Nat}, softs Ts = 0 → (nthT Ts i).soft = false
  | [], _, _ => rfl
  | T :: Ts, 0, h => by
    unfold softs at h
    show T.soft = false
    cases hs : T.soft with
    | false => rfl
    | true => rw [hs, if_pos rfl] at h; omega
  | T :: Ts, i + 1, h => softs_zero (Ts := Ts) (by unfold softs at h; omega)
theorem softs_one {R : Rel} : ∀ {Ts : List (Tell R)}, softs Ts ≤ 1 → ∀ i k, i ≠ k → (nthT Ts i).soft = false ∨ (nthT Ts k).soft = false
  | [], _, _, _, _ => .inl rfl
  | T :: Ts, h, 0, 0, hne => absurd rfl hne
  | T :: Ts, h, 0, k + 1, _ => by
    unfold softs at h
    cases hs : T.soft with
    | false => exact .inl hs
    | true => rw [hs] at h; exact .inr (softs_zero (Ts := Ts) (by rw [if_pos rfl] at h; omega))
  | T :: Ts, h, i + 1, 0, _ => by
    unfold softs at h
    cases hs : T.soft with
    | false => exact .inr hs
    | true => rw [hs] at h; exact .inl (softs_zero (Ts := Ts) (by rw [if_pos rfl] at h; omega))
  | T :: Ts, h, i + 1, k + 1, hne => softs_one (Ts := Ts) (by unfold softs at h; omega) i k (by omega)
def Tells {R : Rel} (Ts : List (Tell R)) (f : Nat → Value) (W : World) : List Nat → Prop
  | [] => True
  | j :: js => (nthT Ts j).holds (f j) W ∧ Tells Ts f W js
theorem tells_of {R : Rel} {Ts : List (Tell R)} {f : Nat → Value} {W : World} : ∀ {js : List Nat}, (∀ j ∈ js, (nthT Ts j).holds (f j) W) → Tells Ts f W js
  | [], _ => trivial
  | j :: js, h => ⟨h j (List.mem_cons_self ..), tells_of fun x hx => h x (List.mem_cons_of_mem _ hx)⟩
/-- What an operation that is carried out alone has to leave. -/
def CalmQ {R : Rel} (a : Act) (W : World) (T : Tell R) (d : Option Tmp) (e : Exit) (a' : Act) (W' : World) : Prop :=
  e = .normal ∧ a'.defers = a.defers ∧ T.rel W W' ∧ T.holds (match d with | some t => a'.tmps.getD t undef | none => undef) W'
theorem CalmQ.mk {R : Rel} {a : Act} {W : World} {T : Tell R} {d : Option Tmp} {a' : Act} {W' : World} (hd : a'.defers = a.defers) (v : Value) (hv : (match d with | some t => a'.tmps.getD t undef | none => undef) = v) (hb : T.rel W W') (h : T.holds v W') : CalmQ a W T d .normal a' W' := ⟨rfl, hd, hb, hv ▸ h⟩
/-- Each operation, carried out alone in the frame a' at some time, with what it waits for told. -/
def AllCalm {R : Rel} (P : Program) (ops : Array Oper) (Ts : List (Tell R)) (f : Nat → Value) (a' : Act) (w : World) : List Oper → List (List Nat) → Nat → Prop
  | o :: os, js :: D, k => (∀ W, (nthT Ts k).pre w W → Tells Ts f W js → wpList P ops (CalmQ a' W (nthT Ts k) o.dst) [o] a' W) ∧ AllCalm P ops Ts f a' w os D (k + 1)
  | _, _, _ => True
theorem AllCalm.cons {R : Rel} {P : Program} {ops : Array Oper} {Ts : List (Tell R)} {f : Nat → Value} {a' : Act} {w : World} {o : Oper} {os : List Oper} {js : List Nat} {D : List (List Nat)} {k : Nat}
    (h : ∀ W, (nthT Ts k).pre w W → Tells Ts f W js → wpList P ops (CalmQ a' W (nthT Ts k) o.dst) [o] a' W) (hs : AllCalm P ops Ts f a' w os D (k + 1)) : AllCalm P ops Ts f a' w (o :: os) (js :: D) k := ⟨h, hs⟩
theorem AllCalm.nil {R : Rel} {P : Program} {ops : Array Oper} {Ts : List (Tell R)} {f : Nat → Value} {a' : Act} {w : World} {D : List (List Nat)} {k : Nat} : AllCalm P ops Ts f a' w [] D k := trivial
def AllTold {R : Rel} (Ts : List (Tell R)) (f : Nat → Value) (W : World) : List (Tell R) → Nat → Prop
  | T :: rest, k => T.holds (f k) W ∧ AllTold Ts f W rest (k + 1)
  | [], _ => True
section
variable {P : Program} {ops : Array Oper}
theorem calm_at {R : Rel} {md : Region.Mode} {Ts : List (Tell R)} {f : Nat → Value} {a' : Act} {w : World} : ∀ {os : List Oper} {D : List (List Nat)} {k i : Nat} {o : Oper}, AllCalm P ops Ts f a' w os D k → os.map (depsOf md) = D → os[i]? = some o →
    ∀ W, (nthT Ts (k + i)).pre w W → (∀ j ∈ depsOf md o, (nthT Ts j).holds (f j) W) → wpList P ops (CalmQ a' W (nthT Ts (k + i)) o.dst) [o] a' W
  | [], _, _, _, _, _, _, h => by simp at h
  | o' :: os, [], _, _, _, _, hD, _ => by simp at hD
  | o' :: os, js :: D, k, 0, o, hc, hD, h => by
    obtain rfl : o' = o := by simpa using h
    intro W hB hd
    obtain ⟨h1, h2⟩ := List.cons.inj hD
    refine hc.1 W hB ?_
    rw [← h1]
    exact tells_of hd
  | o' :: os, js :: D, k, i + 1, o, hc, hD, h => by
    intro W hB hd
    rw [show k + (i + 1) = k + 1 + i by omega] at hB
    have := calm_at hc.2 (List.cons.inj hD).2 (show os[i]? = some o by simpa using h) W hB hd
    rw [show k + 1 + i = k + (i + 1) by omega] at this
    exact this
/-- An operation that is carried out alone: what the order's walk asks of it. -/
theorem wpOp_of_alone {R : Rel} {i : Nat} {o : Oper} {a : Act} {W : World} {T : Tell R} {K : Act → World → Prop} {Q : Exit → Act → World → Prop} (ho : ops[i]? = some o)
    (hlt : ∀ t, o.dst = some t → t < a.tmps.size) (h : wpList P ops (CalmQ a W T o.dst) [o] a W) (hK : ∀ v W', T.rel W W' → T.holds v W' ∨ o.dst = none → K (a.put o.dst v) W') : wpOp P ops Q i K a W := by
  have key : ∀ v W', CalmQ a W T o.dst .normal (a.put o.dst v) W' → K (a.put o.dst v) W' := by
    rintro v W' ⟨_, _, hb, ht⟩
    refine hK v W' hb ?_
    cases hd : o.dst with
    | none => exact .inr rfl
    | some t =>
      left
      rw [hd] at ht
      have h1 := hlt t hd
      simpa [Act.put, h1] using ht
  have nolet : ¬ LetsOut (CalmQ a W T o.dst) := by
    rintro ⟨a', w', h, _⟩
    cases h
  unfold wpOp
  rw [ho]
  unfold wpList at h
  dsimp only
  split
  · rename_i hw
    rw [if_pos hw] at h
    rcases h with h | ⟨_, h⟩
    · left
      unfold Oper.wp at *
      generalize (execOp a.eval o).run P W = r at *
      cases r with
      | ok n w' =>
        cases n <;> simp only [Oper.upon, wpList] at h ⊢
        case value v => exact key _ _ h
        case skip => exact key _ _ h
        case defer d =>
          exfalso
          obtain ⟨_, h2, _⟩ := h
          have h3 : ({ a with defers := d :: a.defers } : Act).defers = a.defers := by
            cases hd : o.dst with
            | none => rw [hd] at h2; exact h2
            | some t => rw [hd] at h2; exact h2
          exact absurd (congrArg List.length h3) (by simp)
        case enter f args =>
          refine h.mono fun e w'' he => ?_
          cases e with
          | returned v => exact key _ _ he
          | panicked ch => exact absurd he.1 (by simp)
          | outgrown => exact absurd he nolet
        case row r args => exact Rows.mono h fun v w'' he => key _ _ he
      | halt x w' =>
        cases x <;> simp only [Oper.upon] at h
        exact absurd h.1 (by simp)
    · exact absurd h nolet
  · rename_i hw
    rw [if_neg hw] at h
    exact key _ _ h
theorem told_of {R : Rel} {Ts : List (Tell R)} {f : Nat → Value} {W : World} : ∀ {rest : List (Tell R)} {k : Nat}, (∀ i, i < rest.length → nthT Ts (k + i) = nthT rest i) → (∀ i, i < rest.length → (nthT Ts (k + i)).holds (f (k + i)) W) → AllTold Ts f W rest k
  | [], _, _, _ => trivial
  | T :: rest, k, h1, h2 => by
    refine ⟨?_, told_of (fun i hi => ?_) (fun i hi => ?_)⟩
    · have a1 := h1 0 (by simp)
      have a2 := h2 0 (by simp)
      rw [a1] at a2
      exact a2
    · have := h1 (i + 1) (by simp; omega)
      rw [show k + 1 + i = k + (i + 1) by omega]
      exact this
    · have := h2 (i + 1) (by simp; omega)
      rw [show k + 1 + i = k + (i + 1) by omega]
      exact this
end

section
variable {P : Program}
/-- The world so far; as long as the frail one is to come, finer. -/
def Reach {R : Rel} (Ts : List (Tell R)) (n : Nat) (w : World) (listed : Array Bool) (W : World) : Prop := R.r w W ∧ ((∀ i, i < n → listed.getD i false = true → (nthT Ts i).soft = false) → R.r0 w W)
theorem wpAny_calm_tail {R : Rel} {L : List Oper} {n : Nat} {Ts : List (Tell R)} {a : Act} {w : World} {Q : Exit → Act → World → Prop} (hF : ∀ i k, i ≠ k → (nthT Ts i).soft = false ∨ (nthT Ts k).soft = false) (hn : n ≤ L.length) (hd : distinctB (L.take n) = true) (hdown : downB L 0 = true) (htl : tailB L n = true) (hlt : ∀ (i : Nat) (o : Oper), (L.take n)[i]? = some o → ∃ t, o.dst = some t ∧ t < a.tmps.size)
    (D : List (List Nat)) (hD : (L.take n).map (depsOf .any) = D)
    (hO : ∀ f, AllCalm P L.toArray Ts f (putL f (L.take n) 0 a) w (L.take n) D 0)
    (hQ : ∀ f W, R.r w W → (∀ i, i < n → (nthT Ts i).holds (f i) W) → wpList P L.toArray Q (L.drop n) (putL f (L.take n) 0 a) W) :
    ∀ (fuel : Nat) (listed : Array Bool) (f : Nat → Value) (W : World), listed.size = L.length → allB listed n + (L.length - n) ≤ fuel → Reach Ts n w listed W → (∀ i, i < n → listed.getD i false = true → (nthT Ts i).holds (f i) W) →
      (∀ i, n ≤ i → i < L.length → listed.getD i false = false) → (∀ i o, L[i]? = some o → listed.getD i false = true → ∀ e ∈ o.after, Region.binds .any e = true → listed.getD e.on false = true) →
      wpAny P .any L.toArray Q fuel listed (putL f (L.take n) 0 a) W := by
  have hsz : ∀ f, (putL f (L.take n) 0 a).tmps.size = a.tmps.size := by
    intro f
    have : ∀ (os : List Oper) (k : Nat) (b : Act), (putL f os k b).tmps.size = b.tmps.size := by
      intro os
      induction os with
      | nil => intro k b; rfl
      | cons o os ih =>
        intro k b
        unfold putL
        rw [ih]
        cases o.dst <;> simp [Act.put]
    exact this _ 0 a
  have htn : (L.take n).length = n := by rw [List.length_take]; omega
  have hget : ∀ i, i < n → (L.take n)[i]? = L[i]? := fun i hi => by rw [List.getElem?_take, if_pos hi]
  have hwait : ∀ j, j < n → ∃ m o, j < m ∧ m ≤ n ∧ L[m]? = some o ∧ waitsB o j = true := by
    intro j hj
    unfold tailB at htl
    rw [Bool.and_eq_true] at htl
    have h1 := List.all_eq_true.1 htl.1 j (List.mem_range.2 hj)
    obtain ⟨m, hm, h2⟩ := List.any_eq_true.1 h1
    rw [Bool.and_eq_true] at h2
    have h3 := of_decide_eq_true h2.1
    have h4 := List.mem_range.1 hm
    cases hL : L[m]? with
    | none => rw [hL] at h2; cases h2.2
    | some o => rw [hL] at h2; exact ⟨m, o, h3, by omega, hL, h2.2⟩
  -- all of the first n are listed: the tail
  have hphase : ∀ (fuel : Nat) (listed : Array Bool) (f : Nat → Value) (W : World), listed.size = L.length → L.length - n ≤ fuel → Reach Ts n w listed W → (∀ i, i < n → listed.getD i false = true → (nthT Ts i).holds (f i) W) →
      (∀ i, n ≤ i → i < L.length → listed.getD i false = false) → (∀ i, i < n → listed.getD i false = true) → wpAny P .any L.toArray Q fuel listed (putL f (L.take n) 0 a) W := by
    intro fuel listed f W hs hf hB hT hun hall
    exact tail_walk hdown htl (L.drop n) n fuel listed _ W rfl (Nat.le_refl _) hs (fun i hi _ => hall i hi) hun (by rw [List.length_drop]; exact hf) (hQ f W hB.1 fun i hi => hT i hi (hall i hi))
  intro fuel
  induction fuel with
  | zero =>
    intro listed f W hs hc hB hT hun hdn
    refine hphase 0 listed f W hs (by omega) hB hT hun fun i hi => ?_
    by_cases hl : listed.getD i false = true
    · exact hl
    exfalso
    simp only [Bool.not_eq_true] at hl
    have hm : i ∈ (List.range n).filter fun i => !listed.getD i true := by
      rw [List.mem_filter]
      exact ⟨List.mem_range.2 hi, by rw [getD_tf (by omega), hl]; rfl⟩
    have := List.length_pos_of_mem hm
    unfold allB at hc
    omega
  | succ fuel ih =>
    intro listed f W hs hc hB hT hun hdn
    by_cases hall : ∀ i, i < n → listed.getD i false = true
    · exact hphase _ listed f W hs (by omega) hB hT hun hall
    have hex : ∃ j, j < n ∧ listed.getD j false = false := by
      apply Classical.byContradiction
      intro h
      apply hall
      intro i hi
      by_cases hl : listed.getD i false = true
      · exact hl
      · exact absurd ⟨i, hi, by simpa using hl⟩ h
    -- nothing of the tail can come up yet
    have htop : ∀ d j, n - j ≤ d → j < n → listed.getD j false = false → ∀ o, L[n]? = some o → (∀ e ∈ o.after, Region.binds .any e = true → listed.getD e.on false = true) → False := by
      intro d
      induction d with
      | zero => intro j h1 h2; omega
      | succ d ihd =>
        intro j h1 h2 h3 o ho hdeps
        obtain ⟨m, om, hm1, hm2, hm3, hm4⟩ := hwait j h2
        obtain ⟨e, he, hb, hon⟩ := waits_on hm4
        by_cases hmn : m = n
        · subst hmn
          rw [ho] at hm3
          obtain rfl := Option.some.inj hm3
          have := hdeps e he hb
          rw [hon, h3] at this
          cases this
        · by_cases hml : listed.getD m false = true
          · have := hdn m om hm3 hml e he hb
            rw [hon, h3] at this
            cases this
          · exact ihd m (by omega) (by omega) (by simpa using hml) o ho hdeps
    obtain ⟨j0, hj0, hj0u⟩ := hex
    -- something is ready
    have hsome : ∀ d i, i ≤ d → i < n → listed.getD i false = false → Region.ready .any L.toArray listed ≠ [] := by
      intro d
      induction d using Nat.strongRecOn with
      | ind d ihd =>
        intro i hid hi hu
        have hok : L[i]? = some L[i] := by simp [show i < L.length by omega]
        by_cases hdeps : ∀ e ∈ L[i].after, Region.binds .any e = true → listed.getD e.on false = true
        · have := mem_ready_of (md := .any) hs hok hu hdeps
          intro h0
          rw [h0] at this
          cases this
        · have : ∃ e, e ∈ L[i].after ∧ listed.getD e.on false = false := by
            apply Classical.byContradiction
            intro h
            apply hdeps
            intro e he _
            by_cases hl : listed.getD e.on false = true
            · exact hl
            · exact absurd ⟨e, he, by simpa using hl⟩ h
          obtain ⟨e, he, heu⟩ := this
          have h3 := down_at hdown hok e he
          exact ihd e.on (by omega) e.on (Nat.le_refl _) (by omega) heu
    refine ⟨fun hr => absurd hr (hsome j0 j0 (Nat.le_refl _) hj0 hj0u), fun i hi => ?_⟩
    obtain ⟨o, ho, hiu, hdeps⟩ := of_mem_ready (md := .any) hs hi
    have hil := (List.getElem?_eq_some_iff.1 ho).1
    have hin : i < n := by
      rcases Nat.lt_or_ge i n with h1 | h1
      · exact h1
      · exfalso
        by_cases hin : i = n
        · subst hin
          exact htop i j0 (by omega) hj0 hj0u o ho hdeps
        · have hchain : waitsB o (i - 1) = true := by
            unfold tailB at htl
            rw [Bool.and_eq_true] at htl
            have := List.all_eq_true.1 htl.2 i (List.mem_range.2 hil)
            rw [ho, Bool.or_eq_true] at this
            rcases this with h | h
            · have := of_decide_eq_true h; omega
            · exact h
          obtain ⟨e, he, hb, hon⟩ := waits_on hchain
          have := hdeps e he hb
          rw [hon, hun (i - 1) (by omega) (by omega)] at this
          cases this
    have ho2 : (L.take n)[i]? = some o := by rw [hget i hin]; exact ho
    have hdd : ∀ j ∈ depsOf .any o, (nthT Ts j).holds (f j) W := by
      intro j hj
      unfold depsOf at hj
      obtain ⟨e, he, rfl⟩ := List.mem_map.1 hj
      rw [List.mem_filter] at he
      have he' : e ∈ o.after := by simpa using he.1
      have h6 := down_at hdown ho e he'
      exact hT e.on (by omega) (hdeps e he' he.2)
    have hpre : (nthT Ts (0 + i)).pre w W := by
      rw [Nat.zero_add]
      refine Tell.pre_of hB.1 fun hs1 => hB.2 fun k hk hkl => ?_
      by_cases hki : k = i
      · subst hki
        rw [hiu] at hkl
        cases hkl
      · rcases hF k i hki with h | h
        · exact h
        · rw [h] at hs1; cases hs1
    have h7 := calm_at (i := i) (hO f) hD ho2 W hpre hdd
    rw [Nat.zero_add] at h7
    obtain ⟨t0, hdst, ht0⟩ := hlt i o ho2
    refine wpOp_of_alone (by simpa using ho) (fun t ht => by rw [hsz]; rw [hdst] at ht; cases ht; exact ht0) h7 fun v W' hb hv => ?_
    rw [putL_upd (L.take n) 0 i a o hd ho2, Nat.zero_add]
    refine ih _ _ W' (by simp [hs]) ?_ ⟨R.trans hB.1 (Tell.rel_r hb), fun hall => R.trans0 (hB.2 fun k hk hkl => by
        by_cases hki : k = i
        · subst hki
          rw [hiu] at hkl
          cases hkl
        · exact hall k hk (by rw [getD_set_other hki]; exact hkl)) (Tell.rel_0 hb (hall i (by omega) (by rw [getD_set_same (by omega)])))⟩ ?_ ?_ ?_
    · have hlist : (List.range n).filter (fun k => !(listed.setIfInBounds i true).getD k true) = ((List.range n).filter fun k => !listed.getD k true).filter fun k => k != i := by
        rw [List.filter_filter]
        apply List.filter_congr
        intro k hk
        by_cases hki : k = i
        · subst hki
          rw [getD_set_same (by omega)]
          simp
        · rw [getD_set_other hki]
          simp [hki]
      have hmem : i ∈ (List.range n).filter fun k => !listed.getD k true := by
        rw [List.mem_filter]
        exact ⟨List.mem_range.2 hin, by rw [getD_tf (by omega), hiu]; rfl⟩
      unfold allB at hc ⊢
      rw [hlist]
      have hlt := List.length_filter_lt_length_iff_exists (p := fun k => k != i) (l := (List.range n).filter fun k => !listed.getD k true)
      have := hlt.2 ⟨i, hmem, by simp⟩
      omega
    · intro k hk hkl
      unfold updF
      by_cases hki : k = i
      · subst hki
        rw [if_pos rfl]
        rcases hv with hv | hv
        · exact hv
        · rw [hdst] at hv; cases hv
      · rw [if_neg hki]
        rw [getD_set_other hki] at hkl
        exact Tell.stays hb (hF k i hki) (hT k hk hkl)
    · intro k hk hkl
      rw [getD_set_other (by omega)]
      exact hun k hk hkl
    · intro k ok hok hkl e he hbb
      by_cases hki : k = i
      · subst hki
        rw [ho] at hok
        obtain rfl := Option.some.inj hok
        have h1 := down_at hdown ho e he
        rw [getD_set_other (by omega)]
        exact hdeps e he hbb
      · rw [getD_set_other hki] at hkl
        have h1 := hdn k ok hok hkl e he hbb
        by_cases hei : e.on = i
        · rw [hei]; exact getD_set_same (by omega) _
        · rw [getD_set_other hei]; exact h1
/-- A region that draws its order and whose last operations wait for all the others. -/
theorem calm_tail {R : Rel} {id : Nat} {L : List Oper} {Q : Exit → Act → World → Prop} {a : Act} {w : World} (n : Nat) (Ts : List (Tell R)) (D : List (List Nat)) (hm : P.follows .mixedOrders = true) (hB : calmTB L n a.tmps.size = true) (hD : (L.take n).map (depsOf .any) = D) (hn : Ts.length = n) (hsf : Nat.ble (softs Ts) 1 = true)
    (h : ∀ f a', putL f (L.take n) 0 a = a' → AllCalm P L.toArray Ts f a' w (L.take n) D 0 ∧ (∀ W, R.r w W → AllTold Ts f W Ts 0 → wpList P L.toArray Q (L.drop n) a' W)) : (Code.region id L.toArray true).wp P Q a w := by
  unfold calmTB at hB
  simp only [Bool.and_eq_true] at hB
  obtain ⟨⟨⟨⟨h0, h1⟩, h2⟩, h3⟩, h4⟩ := hB
  have h0 := of_decide_eq_true h0
  have hlt : ∀ (i : Nat) (o : Oper), (L.take n)[i]? = some o → ∃ t, o.dst = some t ∧ t < a.tmps.size := by
    intro i o ho
    have := List.all_eq_true.1 h4 o (List.mem_of_getElem? ho)
    cases hd : o.dst with
    | none => rw [hd] at this; cases this
    | some t => rw [hd] at this; exact ⟨t, rfl, of_decide_eq_true this⟩
  refine wp_region_any hm ?_
  obtain ⟨f0, hf0⟩ : ∃ f0, putL f0 (L.take n) 0 a = a := by
    refine ⟨fun k => match (L.take n)[k]? with | some o => (match o.dst with | some t => a.tmps.getD t undef | none => undef) | none => undef, ?_⟩
    refine putL_own (L.take n) 0 fun j o ho t ht => ?_
    rw [Nat.zero_add]
    simp only [ho, ht]
  have g1 : allB (Array.replicate L.length false) n + (L.length - n) ≤ L.length := by
    unfold allB
    have := List.length_filter_le (fun i => !(Array.replicate L.length false).getD i true) (List.range n)
    rw [List.length_range] at this
    omega
  have g2 := wpAny_calm_tail (P := P) (w := w) (Ts := Ts) (Q := Q) (a := a) (softs_one (Nat.le_of_ble_eq_true hsf)) h0 h1 h2 h3 hlt D hD (fun f => (h f _ rfl).1) (fun f W hW hT => (h f _ rfl).2 W hW (told_of (fun i hi => by rw [Nat.zero_add]) fun i hi => by rw [Nat.zero_add]; exact hT i (by omega)))
    L.length (Array.replicate L.length false) f0 { w with drawn := w.drawn + 1 } (by simp) g1 ⟨R.drew _, fun _ => R.drew0 _⟩ (fun i hi hl => by exfalso; simp [Array.getD] at hl) (fun i _ _ => by simp [Array.getD]) (fun i o ho hl => by exfalso; simp [Array.getD] at hl)
  rw [hf0] at g2
  exact g2
end
end
end CalmR
end Go.Proofs.Ytflodljccloobaa
