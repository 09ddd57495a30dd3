/- Pairs there and back: plain facts for TextRows. -/
import Derived.Test.YtikehhcbjmcfdaaDoorTxtC
import Derived.Test.YtikehhcbjmcfdaaDoorTxtF
namespace Go.Proofs.YtikehhcbjmcfdaaDoor
open Go.ChangeShapes Go.WideShapes Go.ChangeAt Go.RowKit
set_option linter.unusedVariables false
theorem index_past (c : UInt8) (t : List UInt8) : ∀ s : List UInt8, c ∉ s → Lib.index (s ++ c :: t) [c] = s.length := by
  intro s
  induction s with
  | nil => intro _; rw [List.nil_append, Lib.index]; simp [List.isPrefixOf]
  | cons a s ih =>
    intro h
    have h1 : ¬ a = c := fun e => h (by rw [e]; exact List.mem_cons_self ..)
    have hp : ([c] : List UInt8).isPrefixOf (a :: (s ++ c :: t)) = false := by simp [List.isPrefixOf]; exact fun e => h1 e.symm
    rw [List.cons_append, Lib.index, hp, ih (fun e => h (List.mem_cons_of_mem _ e))]
    have : ((s.length : Int) == -1) = false := by rw [beq_eq_false_iff_ne]; omega
    rw [this]
    simp
theorem cut_at (c : UInt8) (s t : List UInt8) (h : c ∉ s) : Lib.cut (s ++ c :: t) [c] = (s, t, true) := by
  unfold Lib.cut
  rw [index_past c t s h, if_pos (by omega)]
  simp
/-- A pair that comes back: no parting sign where it may not be. -/
def plainP (p : ByteArray × ByteArray) : Prop := (0 : UInt8) ∉ p.1.data.toList ∧ (61 : UInt8) ∉ p.1.data.toList ∧ (0 : UInt8) ∉ p.2.data.toList
theorem encS_cons (p : ByteArray × ByteArray) (l : List (ByteArray × ByteArray)) : encS (p :: l) = encP p ++ encS l := by simp [encS]
theorem encS_app (a b : List (ByteArray × ByteArray)) : encS (a ++ b) = encS a ++ encS b := by simp [encS]
theorem dec_enc : ∀ (l : List (ByteArray × ByteArray)), (∀ p ∈ l, plainP p) → decD (encS l) = some l := by
  intro l
  induction l with
  | nil => intro _; rfl
  | cons p l ih =>
    intro h
    obtain ⟨h1, h2, h3⟩ := h p (List.mem_cons_self ..)
    have e : encS (p :: l) = (p.1.data.toList ++ 61 :: p.2.data.toList) ++ 0 :: encS l := by rw [encS_cons, encP]; simp
    have hn : (0 : UInt8) ∉ p.1.data.toList ++ 61 :: p.2.data.toList := by
      rw [List.mem_append, List.mem_cons]
      rintro (h | h | h)
      · exact h1 h
      · exact absurd h (by decide)
      · exact h3 h
    rw [e, decD_step (by simp), cut_at 0 _ _ hn]
    show (if (true && (Lib.cut (p.1.data.toList ++ 61 :: p.2.data.toList) [61]).2.2) = true then _ else none) = _
    rw [cut_at 61 _ _ h2, if_pos (by rfl), ih (fun q hq => h q (List.mem_cons_of_mem _ hq))]
    rfl
theorem right_of : ∀ (l : List (ByteArray × ByteArray)) (seen : List (List UInt8)), (∀ p ∈ l, keyS p.1.data.toList = true ∧ valueS p.2.data.toList = true) → (l.map (·.1.data.toList)).Nodup → (∀ p ∈ l, p.1.data.toList ∉ seen) → rightS l seen = true := by
  intro l
  induction l with
  | nil => intro _ _ _ _; rfl
  | cons p l ih =>
    intro seen h1 h2 h3
    obtain ⟨a, b⟩ := h1 p (List.mem_cons_self ..)
    rw [List.map_cons, List.nodup_cons] at h2
    have hc : seen.contains p.1.data.toList = false := by
      rw [Bool.eq_false_iff]
      intro e
      exact h3 p (List.mem_cons_self ..) (List.contains_iff_mem.1 e)
    rw [rightS, a, b, hc, ih _ (fun q hq => h1 q (List.mem_cons_of_mem _ hq)) h2.2 (fun q hq e => by
      rcases List.mem_cons.1 e with e | e
      · exact h2.1 (by rw [← e]; exact List.mem_map_of_mem hq)
      · exact h3 q (List.mem_cons_of_mem _ hq) e)]
    rfl
theorem not_right : ∀ (l : List (ByteArray × ByteArray)) (q : ByteArray × ByteArray) (seen : List (List UInt8)), (q.1.data.toList ∈ seen ∨ ∃ p ∈ l, p.1.data.toList = q.1.data.toList) → rightS (l ++ [q]) seen = false := by
  intro l
  induction l with
  | nil =>
    intro q seen h
    rcases h with h | ⟨p, hp, _⟩
    · rw [List.nil_append, rightS, List.contains_iff_mem.2 h]
      simp
    · cases hp
  | cons p l ih =>
    intro q seen h
    rw [List.cons_append, rightS, ih q (p.1.data.toList :: seen) ?_]
    · simp
    · rcases h with h | ⟨r, hr, e⟩
      · exact .inl (List.mem_cons_of_mem _ h)
      · rcases List.mem_cons.1 hr with rfl | hr
        · exact .inl (by rw [← e]; exact List.mem_cons_self ..)
        · exact .inr ⟨r, hr, e⟩
theorem index_none {c : UInt8} : ∀ {l : List UInt8}, c ∉ l → Lib.indexByte l c = -1 := by
  intro l
  induction l with
  | nil => intro _; rfl
  | cons a l ih =>
    intro h
    have h1 : (a == c) = false := by
      rw [beq_eq_false_iff_ne]
      exact fun e => h (by rw [e]; exact List.mem_cons_self ..)
    rw [Lib.indexByte, h1, ih (fun e => h (List.mem_cons_of_mem _ e))]
    rfl
theorem valueS_of {v : List UInt8} (h1 : v.length ≤ 100) (h2 : (0 : UInt8) ∉ v) : valueS v = true := by
  unfold valueS
  rw [index_none h2, decide_eq_true (by omega : (v.length : Int) ≤ 255)]
  rfl
/-- The key with number i. -/
def keyB (i : Nat) : ByteArray := ⟨#[107]⟩ ++ ⟨(decS i).toArray⟩
theorem keyB_data (i : Nat) : (keyB i).data.toList = 107 :: decS i := by unfold keyB; simp
theorem keyB_plain (i : Nat) : (0 : UInt8) ∉ (keyB i).data.toList ∧ (61 : UInt8) ∉ (keyB i).data.toList := by
  rw [keyB_data]
  have h0 : (0 : UInt8).toNat = 0 := rfl
  have h61 : (61 : UInt8).toNat = 61 := rfl
  constructor
  · intro h
    rcases List.mem_cons.1 h with h | h
    · exact absurd h (by decide)
    · have := decS_sign i _ h; omega
  · intro h
    rcases List.mem_cons.1 h with h | h
    · exact absurd h (by decide)
    · have := decS_sign i _ h; omega
theorem keyB_len {i : Nat} (h : i < 100) : (keyB i).size ≤ 3 := by
  have h1 : (keyB i).data.toList.length = (keyB i).size := by simp
  rw [← h1, keyB_data, List.length_cons]
  have := decS_le 1 i (by omega)
  omega
theorem keySign_digit {c : UInt8} (h : 48 ≤ c.toNat ∧ c.toNat ≤ 57) : keySign c = true := by
  unfold keySign
  rw [decide_eq_true (p := (48 : Int) ≤ c.toNat ∧ (c.toNat : Int) ≤ 57) (by omega)]
  simp
theorem keyB_key {i : Nat} (h : i < 100) : keyS (keyB i).data.toList = true := by
  have h2 := decS_le 1 i (by omega)
  unfold keyS
  rw [keyB_data, List.all_cons, List.length_cons]
  rw [decide_eq_true (by omega), decide_eq_true (by omega), List.all_eq_true.2 (fun c hc => keySign_digit (decS_sign i c hc))]
  decide
theorem keyB_inj {i j : Nat} (hi : i ≤ 999999999) (hj : j ≤ 999999999) (h : (keyB i).data.toList = (keyB j).data.toList) : i = j := by
  rw [keyB_data, keyB_data] at h
  have h1 := numS_dec hi
  rw [(List.cons.inj h).2, numS_dec hj] at h1
  have := congrArg Prod.fst h1
  simp at this
  omega
/-- The first k of the pairs. -/
def psTo (l : List ByteArray) (k : Nat) : List (ByteArray × ByteArray) := (List.range k).map fun i => (keyB i, l.getD i ⟨#[]⟩)
theorem psTo_len (l : List ByteArray) (k : Nat) : (psTo l k).length = k := by simp [psTo]
theorem psTo_succ (l : List ByteArray) (k : Nat) : psTo l (k + 1) = psTo l k ++ [(keyB k, l.getD k ⟨#[]⟩)] := by simp [psTo, List.range_succ]
theorem psTo_get {l : List ByteArray} {n i : Nat} (h : i < n) : (psTo l n)[i]? = some (keyB i, l.getD i ⟨#[]⟩) := by simp [psTo, h]
theorem psTo_nodup (l : List ByteArray) {n : Nat} (h : n ≤ 100) : ((psTo l n).map (·.1.data.toList)).Nodup := by
  rw [psTo, List.map_map, List.Nodup, List.pairwise_map]
  refine List.Pairwise.imp_of_mem ?_ List.nodup_range
  intro a b ha hb hne e
  rw [List.mem_range] at ha hb
  exact hne (keyB_inj (by omega) (by omega) e)
/-- Values that may be. -/
def okV (l : List ByteArray) : Prop := ∀ v ∈ l, v.size ≤ 100 ∧ (0 : UInt8) ∉ v.data.toList
theorem psTo_mem {l : List ByteArray} (hl : okV l) {n : Nat} (hn : n ≤ l.length) {p : ByteArray × ByteArray} (hp : p ∈ psTo l n) : ∃ i, i < n ∧ p.1 = keyB i ∧ p.2.size ≤ 100 ∧ (0 : UInt8) ∉ p.2.data.toList := by
  unfold psTo at hp
  obtain ⟨i, hi, rfl⟩ := List.mem_map.1 hp
  rw [List.mem_range] at hi
  refine ⟨i, hi, rfl, ?_⟩
  have e : l.getD i ⟨#[]⟩ = l[i] := by simp [List.getD, List.getElem?_eq_getElem (by omega : i < l.length)]
  show (l.getD i ⟨#[]⟩).size ≤ 100 ∧ _ ∉ (l.getD i ⟨#[]⟩).data.toList
  rw [e]
  exact hl _ (List.getElem_mem _)
theorem psTo_right {l : List ByteArray} (hl : okV l) (hn : l.length ≤ 30) : rightS (psTo l l.length) [] = true := by
  refine right_of _ _ (fun p hp => ?_) (psTo_nodup l (by omega)) (fun p _ h => by cases h)
  obtain ⟨i, hi, h1, h2, h3⟩ := psTo_mem hl (Nat.le_refl _) hp
  rw [h1]
  refine ⟨keyB_key (by omega), valueS_of ?_ h3⟩
  have : p.2.data.toList.length = p.2.size := by simp
  omega
theorem psTo_plain {l : List ByteArray} (hl : okV l) : ∀ p ∈ psTo l l.length, plainP p := by
  intro p hp
  obtain ⟨i, hi, h1, h2, h3⟩ := psTo_mem hl (Nat.le_refl _) hp
  refine ⟨?_, ?_, h3⟩
  · rw [h1]; exact (keyB_plain i).1
  · rw [h1]; exact (keyB_plain i).2
theorem enc_bound : ∀ (l : List (ByteArray × ByteArray)), (∀ p ∈ l, p.1.size ≤ 3 ∧ p.2.size ≤ 100) → (encS l).length ≤ 105 * l.length := by
  intro l
  induction l with
  | nil => intro _; simp [encS]
  | cons q l ih =>
    intro h
    have h1 := h q (List.mem_cons_self ..)
    have h2 := ih fun p hp => h p (List.mem_cons_of_mem _ hp)
    rw [encS_cons, List.length_append, encP_len, List.length_cons]
    omega
theorem psTo_bound {l : List ByteArray} (hl : okV l) (hn : l.length ≤ 30) : (encS (psTo l l.length)).length ≤ 3150 := by
  have h := enc_bound (psTo l l.length) fun p hp => by
    obtain ⟨i, hi, h1, h2, _⟩ := psTo_mem hl (Nat.le_refl _) hp
    rw [h1]
    exact ⟨keyB_len (by omega), h2⟩
  rw [psTo_len] at h
  omega
theorem psTo_enc {l : List ByteArray} (hl : okV l) (hn : l.length ≤ 30) : encE (psTo l l.length) = 0 ∧ encB (psTo l l.length) = encS (psTo l l.length) := by
  have h1 := psTo_bound hl hn
  have h0 : encE (psTo l l.length) = 0 := by unfold encE; rw [if_pos (psTo_right hl hn), if_pos (by omega)]
  exact ⟨h0, by unfold encB; rw [if_pos h0]⟩
theorem psTo_dec {l : List ByteArray} (hl : okV l) (hn : l.length ≤ 30) : decE (encS (psTo l l.length)) = 0 ∧ decP (encS (psTo l l.length)) = psTo l l.length := by
  have h1 := psTo_bound hl hn
  have hd := dec_enc _ (psTo_plain hl)
  have h0 : decE (encS (psTo l l.length)) = 0 := by
    unfold decE
    rw [if_neg (by omega), hd]
    show (if rightS (psTo l l.length) [] = true then 0 else 2) = 0
    rw [if_pos (psTo_right hl hn)]
  exact ⟨h0, by unfold decP; rw [if_pos h0, hd]; rfl⟩
/-- One key twice: neither bytes nor pairs. -/
theorem twice_enc {l : List ByteArray} (k : Nat) (hk : k < l.length) : encE (psTo l l.length ++ [(keyB k, l.getD k ⟨#[]⟩)]) = 1 := by
  unfold encE
  rw [not_right _ _ _ (.inr ⟨_, List.mem_of_getElem? (psTo_get hk), rfl⟩)]
  rfl
theorem twice_dec {l : List ByteArray} (hl : okV l) (hn : l.length ≤ 30) (k : Nat) (hk : k < l.length) : decE (encS (psTo l l.length) ++ ((keyB k).data.toList ++ [61, 0])) = 2 := by
  have h1 := psTo_bound hl hn
  have h2 := keyB_len (i := k) (by omega)
  have hz : (keyB k).data.toList.length = (keyB k).size := by simp
  have e : encS (psTo l l.length) ++ ((keyB k).data.toList ++ [61, 0]) = encS (psTo l l.length ++ [(keyB k, ⟨#[]⟩)]) := by
    rw [encS_app]
    simp [encS, encP]
  have hd : decD (encS (psTo l l.length ++ [(keyB k, ⟨#[]⟩)])) = some (psTo l l.length ++ [(keyB k, ⟨#[]⟩)]) := dec_enc _ fun p hp => by
    rcases List.mem_append.1 hp with h | h
    · exact psTo_plain hl p h
    · obtain rfl : p = (keyB k, ⟨#[]⟩) := by simpa using h
      exact ⟨(keyB_plain k).1, (keyB_plain k).2, by simp⟩
  unfold decE
  rw [if_neg (by rw [List.length_append, List.length_append, hz]; simp; omega), e, hd]
  show (if rightS (psTo l l.length ++ [(keyB k, ⟨#[]⟩)]) [] = true then 0 else 2) = 2
  rw [not_right (psTo l l.length) (keyB k, ⟨#[]⟩) [] (.inr ⟨(keyB k, l.getD k ⟨#[]⟩), List.mem_of_getElem? (psTo_get hk), rfl⟩)]
  rfl
theorem psTo_find {l : List ByteArray} (k : Nat) (hk : k < l.length) (hn : l.length ≤ 30) : findS (psTo l l.length) (keyB k) = (l.getD k ⟨#[]⟩, true) := by
  have hlk : k < (psTo l l.length).length := by rw [psTo_len]; exact hk
  have e : (psTo l l.length).findIdx (fun p => p.1 == keyB k) = k := by
    rw [List.findIdx_eq hlk]
    have g : ∀ j (h : j < (psTo l l.length).length), (psTo l l.length)[j].1 = keyB j := by
      intro j h
      have := psTo_get (l := l) (n := l.length) (i := j) (by rw [psTo_len] at h; exact h)
      rw [List.getElem?_eq_getElem h] at this
      rw [Option.some.inj this]
    refine ⟨by rw [g k hlk, beq_toListBytes]; simp, fun j hj => ?_⟩
    rw [g j (by omega), beq_toListBytes, ByteArray.toList_eq, ByteArray.toList_eq, beq_eq_false_iff_ne]
    exact fun e => absurd (keyB_inj (by omega) (by omega) e) (by omega)
  unfold findS
  rw [e, psTo_get hk]
end Go.Proofs.YtikehhcbjmcfdaaDoor
