/- Package text: lists parted by commas; Choose: contract. -/
import Derived.Test.YtikehhcbjmcfdaaDoorTxtV
import Derived.Lib.SplitLaws
namespace Go.Proofs.YtikehhcbjmcfdaaDoor
open Go.ChangeShapes Go.WideShapes Go.ChangeAt Go.RowKit
set_option linter.unusedVariables false
/-- A list's pieces, parted by commas. -/
def pieces : List UInt8 → List (List UInt8)
  | [] => [[]]
  | c :: l => if c = 44 then [] :: pieces l else match pieces l with
    | [] => [[c]]
    | p :: ps => (c :: p) :: ps
theorem pieces_cons (c : UInt8) (l : List UInt8) : pieces (c :: l) = if c = 44 then [] :: pieces l else match pieces l with
    | [] => [[c]]
    | p :: ps => (c :: p) :: ps := by rw [pieces]
theorem index_ne (c : UInt8) (l : List UInt8) (h : ¬ c = 44) : Lib.index (c :: l) [44] = if Lib.index l [44] == -1 then -1 else Lib.index l [44] + 1 := by
  have hp : ([44] : List UInt8).isPrefixOf (c :: l) = false := by simp [List.isPrefixOf]; exact fun e => h e.symm
  rw [Lib.index, hp]
  simp
theorem split_pieces : ∀ (l : List UInt8), Lib.split l [44] = pieces l := by
  intro l
  induction l with
  | nil => rfl
  | cons c l ih =>
    unfold Lib.split at ih ⊢
    unfold pieces
    by_cases h : c = 44
    · subst h
      rw [if_pos rfl, Lib.count_cons_eq, Nat.add_comm, Lib.splitK]
      have hix : Lib.index ((44 : UInt8) :: l) [44] = 0 := by rw [Lib.index]; simp [List.isPrefixOf]
      rw [hix, if_neg (by decide), ← ih]
      simp
    · rw [if_neg h, Lib.count_cons_ne c 44 l h, ← ih]
      have hix := index_ne c l h
      by_cases hm : Lib.index l [44] = -1
      · rw [Lib.count_miss hm]
        rfl
      · have hge := Lib.index_ge l [44]
        obtain ⟨j, hj⟩ : ∃ j : Nat, Lib.index l [44] = j := ⟨(Lib.index l [44]).toNat, by omega⟩
        have hct := Lib.count_hit (by simp) hj
        have hix' : Lib.index (c :: l) [44] = ((j + 1 : Nat) : Int) := by rw [hix, if_neg (fun e => hm (beq_iff_eq.1 e)), hj]; omega
        rw [hct, Nat.add_comm, Lib.splitK, Lib.splitK, hix', hj, if_neg (fun e => by have := beq_iff_eq.1 e; omega), if_neg (fun e => by have := beq_iff_eq.1 e; omega)]
        simp
theorem pieces_ne (l : List UInt8) : pieces l ≠ [] := by
  cases l with
  | nil => simp [pieces]
  | cons c l =>
    unfold pieces
    split
    · simp
    · split <;> simp
theorem pieces_app (s t : List UInt8) : pieces (s ++ 44 :: t) = pieces s ++ pieces t := by
  induction s with
  | nil => simp [pieces]
  | cons c s ih =>
    rw [List.cons_append, pieces_cons, pieces_cons, ih]
    by_cases h : c = 44
    · rw [if_pos h, if_pos h]; rfl
    · rw [if_neg h, if_neg h]
      cases hp : pieces s with
      | nil => exact absurd hp (pieces_ne s)
      | cons p ps => rfl
theorem pieces_one {l : List UInt8} (h : (44 : UInt8) ∉ l) : pieces l = [l] := by
  induction l with
  | nil => rfl
  | cons c l ih =>
    unfold pieces
    rw [if_neg (fun e => h (by rw [e]; exact List.mem_cons_self ..)), ih (fun e => h (List.mem_cons_of_mem _ e))]
theorem pieces_free : ∀ (l p : List UInt8), p ∈ pieces l → (44 : UInt8) ∉ p := by
  intro l
  induction l with
  | nil => intro p hp; obtain rfl : p = [] := by simpa [pieces] using hp
           simp
  | cons c l ih =>
    intro p hp
    unfold pieces at hp
    by_cases h : c = 44
    · rw [if_pos h] at hp
      rcases List.mem_cons.1 hp with rfl | hp
      · simp
      · exact ih p hp
    · rw [if_neg h] at hp
      cases hq : pieces l with
      | nil => exact absurd hq (pieces_ne l)
      | cons q qs =>
        rw [hq] at hp ih
        rcases List.mem_cons.1 hp with rfl | hp
        · intro e
          rcases List.mem_cons.1 e with e | e
          · exact h e.symm
          · exact ih q (List.mem_cons_self ..) e
        · exact ih p (List.mem_cons_of_mem _ hp)
/-- What Choose tells. -/
def chooseS (a b : List UInt8) : List UInt8 × Bool := match (pieces a).find? (fun p => (pieces b).contains p) with
  | some p => (p, true)
  | none => ([], false)
theorem find_at {l : List (List UInt8)} {f : List UInt8 → Bool} {k : Nat} {p : List UInt8} (hp : l[k]? = some p) (hf : f p = true) (hno : ∀ i q, l[i]? = some q → i < k → f q = false) : l.find? f = some p := by
  induction l generalizing k with
  | nil => simp at hp
  | cons a l ih =>
    cases k with
    | zero => obtain rfl : a = p := by simpa using hp
              rw [List.find?_cons, hf]
    | succ k =>
      have h0 := hno 0 a rfl (by omega)
      rw [List.find?_cons, h0]
      exact ih (by simpa using hp) (fun i q hi hk => hno (i + 1) q (by simpa using hi) (by omega))
theorem find_no {l : List (List UInt8)} {f : List UInt8 → Bool} (hno : ∀ (i : Nat) q, l[i]? = some q → f q = false) : l.find? f = none := by
  rw [List.find?_eq_none]
  intro x hx
  obtain ⟨i, hi, rfl⟩ := List.getElem_of_mem hx
  rw [hno i _ (List.getElem?_eq_getElem hi)]
  simp
/-- The strings of a split, as they lie. -/
theorem split_sl (s : ByteArray) (w : World) (hs : s.size < 4294967281) :
    ∃ l : List ByteArray, l.map (·.data.toList) = pieces s.data.toList ∧ Lib.countB s ⟨#[44]⟩ + 1 = l.length ∧ l.length ≤ 4294967282 ∧ l = Lib.splitB ⟨#[44]⟩ 0 (Lib.countB s ⟨#[44]⟩) s := by
  refine ⟨_, ?_, ?_, ?_, rfl⟩
  · rw [Lib.splitB_data]
    exact split_pieces _
  · rw [Lib.splitB_all ⟨#[44]⟩ (by decide) 0 _ s rfl]
  · rw [Lib.splitB_all ⟨#[44]⟩ (by decide) 0 _ s rfl]
    have := Lib.countB_le ⟨#[44]⟩ (by decide) s.size s (Nat.le_refl _)
    omega
theorem str_get {l : List ByteArray} {i : Nat} (h : i < l.length) : (l.map Value.string)[i]? = some (.string l[i]) := by simp [h]
theorem ret_ch {a b : List UInt8} {s : List UInt8} {t : Bool} (h : chooseS a b = (s, t)) : Ending.returned (.tuple #[.string ⟨s.toArray⟩, .bool t]) = .returned (.tuple #[.string ⟨(chooseS a b).1.toArray⟩, .bool (chooseS a b).2]) := by rw [h]
set_option maxHeartbeats 2000000 in
theorem ofLists_any (a b : ByteArray) (m : Int) (w : World) (ha : a.size < 4294967281) (hb : b.size < 4294967281) (hm : w.cell? ⟨0, 0, none⟩ = some (.int .i64 m)) (hm0 : 0 < w.heap.size) :
    Calls Tryd.prog 34 #[.string a, .string b] w fun e w' => e = .returned (.tuple #[.string ⟨(chooseS a.data.toList b.data.toList).1.toArray⟩, .bool (chooseS a.data.toList b.data.toList).2]) ∧ Below w.heap.size w w' := by
  obtain ⟨la, hla, hna, hka, hea⟩ := split_sl a w ha
  obtain ⟨lb, hlb, hnb, hkb, heb⟩ := split_sl b w hb
  have hsb : Calls Tryd.prog 43 #[.string b, .string ⟨#[44]⟩] w fun e w' => e = .returned (.slice (some ⟨w.heap.size, 0, none⟩) lb.length lb.length) ∧ w.alloc (.cells (lb.map Value.string).toArray 9) = w' := by
    have h := Go.Proofs.Tryd.strings_Split b ⟨#[44]⟩ m w hb hm (by decide)
    rw [hnb, ← heb] at h
    exact h.mono fun e w' ⟨h1, h2⟩ => ⟨h1, h2.symm⟩
  have hsa : Calls Tryd.prog 43 #[.string a, .string ⟨#[44]⟩] (w.alloc (.cells (lb.map Value.string).toArray 9)) fun e w' => e = .returned (.slice (some ⟨w.heap.size + 1, 0, none⟩) la.length la.length) ∧ (w.alloc (.cells (lb.map Value.string).toArray 9)).alloc (.cells (la.map Value.string).toArray 9) = w' := by
    have h := Go.Proofs.Tryd.strings_Split a ⟨#[44]⟩ m (w.alloc (.cells (lb.map Value.string).toArray 9)) ha ((World.cell?_alloc_lt w _ _ hm0).trans hm) (by decide)
    rw [hna, ← hea, show (w.alloc (.cells (lb.map Value.string).toArray 9)).heap.size = w.heap.size + 1 by simp] at h
    exact h.mono fun e w' ⟨h1, h2⟩ => ⟨h1, h2.symm⟩
  have sb1 := Sl.fresh w (lb.map Value.string).toArray 9 (n := lb.length) (by simp) (by unfold maxLen; omega)
  have sa1 := Sl.fresh (w.alloc (.cells (lb.map Value.string).toArray 9)) (la.map Value.string).toArray 9 (n := la.length) (by simp) (by unfold maxLen; omega)
  have hb2 : Below w.heap.size w ((w.alloc (.cells (lb.map Value.string).toArray 9)).alloc (.cells (la.map Value.string).toArray 9)) := ((Below.refl _ _).alloc (Nat.le_refl _) _).alloc (by simp) _
  have sb2 := (sb1.alloc (Nat.le_refl _) (.cells (la.map Value.string).toArray 9)).more (by simp : _ ≤ ((w.alloc (.cells (lb.map Value.string).toArray 9)).alloc (.cells (la.map Value.string).toArray 9)).heap.size)
  rw [show (lb.map Value.string).toArray.toList = lb.map Value.string by simp] at sb2
  rw [show (la.map Value.string).toArray.toList = la.map Value.string by simp, show (w.alloc (.cells (lb.map Value.string).toArray 9)).heap.size = w.heap.size + 1 by simp] at sa1
  generalize hw2 : (w.alloc (.cells (lb.map Value.string).toArray 9)).alloc (.cells (la.map Value.string).toArray 9) = w2 at *
  clear hea heb hna hnb sb1
  generalize hw1 : w.alloc (.cells (lb.map Value.string).toArray 9) = w1 at *
  have HA := Lib.hid hla
  have HB := Lib.hid hlb
  clear hla hlb
  go_enter Tryd.func34, Tryd.ntmps34
  go_wp2_with (first
    | (go_at_call 43; with_reducible refine hsb.mono ?_; rintro e w' ⟨rfl, rfl⟩)
    | (go_at_call 43; with_reducible refine hsa.mono ?_; rintro e w' ⟨rfl, rfl⟩))
  clear hsa hsb
  go_loopw [16] (fun i wr => w2 = wr ∧ ∃ k : Nat, k ≤ la.length ∧ i = .int .i64 k ∧ ∀ i q, (pieces a.data.toList)[i]? = some q → i < k → (pieces b.data.toList).contains q = false) (fun i _ => la.length - (intOf i).toNat)
  case atStart => exact ⟨rfl, 0, Nat.zero_le _, rfl, fun i q _ h => by omega⟩
  case round =>
    obtain ⟨rfl, k, hk, rfl, hno⟩ := hrel
    have HN := Lib.hid hno
    clear hno
    by_cases hlt : k < la.length
    · obtain ⟨b1, off1, e1, hb1, hc1⟩ := sa1.at_ (by omega)
      have hx : w2.cell? ⟨w.heap.size + 1, k, none⟩ = some (.string la[k]) := by
        injection e1 with e1
        injection e1 with e2 e3
        subst e2; subst e3
        have := hc1 _ _ (str_get hlt)
        rw [Nat.zero_add] at this
        exact this
      clear hc1
      clear e1 hb1
      obtain ⟨x, hxe⟩ : ∃ x, x = la[k] := ⟨_, rfl⟩
      have hpa : (pieces a.data.toList)[k]? = some x.data.toList := by rw [← HA.out, hxe]; simp [hlt]
      rw [← hxe] at hx
      have HP := Lib.hid hpa
      clear hpa hxe
      go_wp2
      go_loopw [22] (fun i wr => w2 = wr ∧ ∃ j : Nat, j ≤ lb.length ∧ i = .int .i64 j ∧ ∀ i q, (pieces b.data.toList)[i]? = some q → i < j → (q == x.data.toList) = false) (fun i _ => lb.length - (intOf i).toNat)
      case atStart => exact ⟨rfl, 0, Nat.zero_le _, rfl, fun i q _ h => by omega⟩
      case round =>
        obtain ⟨rfl, j, hj, rfl, hnj⟩ := hrel
        by_cases hjl : j < lb.length
        · obtain ⟨b2, off2, e2, hb2', hc2⟩ := sb2.at_ (by omega)
          have hy : w2.cell? ⟨w.heap.size, j, none⟩ = some (.string lb[j]) := by
            injection e2 with e2
            injection e2 with e3 e4
            subst e3; subst e4
            have := hc2 _ _ (str_get hjl)
            rw [Nat.zero_add] at this
            exact this
          clear hc2 e2 hb2'
          obtain ⟨y, hye⟩ : ∃ y, y = lb[j] := ⟨_, rfl⟩
          have hpb : (pieces b.data.toList)[j]? = some y.data.toList := by rw [← HB.out, hye]; simp [hjl]
          rw [← hye] at hy
          have HPB := Lib.hid hpb
          have HNJ := Lib.hid hnj
          clear hpb hye hnj
          go_wp2
          · rename_i h
            have hxy : x.data.toList = y.data.toList := by
              rw [ByteArray.toList_eq, ByteArray.toList_eq] at h
              exact beq_iff_eq.1 h
            have hS : chooseS a.data.toList b.data.toList = (x.data.toList, true) := by
              unfold chooseS
              rw [find_at HP.out (by
                rw [List.contains_iff_mem, hxy]
                exact List.mem_of_getElem? HPB.out) HN.out]
            have hxx : (⟨x.data.toList.toArray⟩ : ByteArray) = x := rfl
            exact bodyPost_ret (v := .tuple #[.string x, .bool true]) (by simp [results, Tryd.results34, go_sem]) rfl ⟨ret_ch hS, hb2⟩
          · rename_i h
            refine ⟨⟨trivial, j + 1, by omega, by go_num, fun i q hq hi => ?_⟩, by simp [intOf]; omega⟩
            rcases Nat.lt_or_ge i j with h1 | h1
            · exact HNJ.out i q hq h1
            · obtain rfl : i = j := by omega
              rw [HPB.out] at hq
              obtain rfl := Option.some.inj hq
              rw [ByteArray.toList_eq, ByteArray.toList_eq] at h
              rw [beq_eq_false_iff_ne] at h ⊢
              exact fun e => h e.symm
        · obtain rfl : j = lb.length := by omega
          have HNJ := Lib.hid hnj
          clear hnj
          go_wp2
          refine ⟨⟨trivial, k + 1, by omega, by go_num, fun i q hq hi => ?_⟩, by simp [intOf]; omega⟩
          rcases Nat.lt_or_ge i k with h1 | h1
          · exact HN.out i q hq h1
          · obtain rfl : i = k := by omega
            rw [HP.out] at hq
            obtain rfl := Option.some.inj hq
            rw [Bool.eq_false_iff]
            intro hc
            rw [List.contains_iff_mem] at hc
            obtain ⟨j, hj1, hj2⟩ := List.getElem_of_mem hc
            have hjl : j < lb.length := by rw [← HB.out, List.length_map] at hj1; exact hj1
            have := HNJ.out j _ (List.getElem?_eq_getElem hj1) hjl
            rw [hj2] at this
            simp at this
    · obtain rfl : k = la.length := by omega
      go_wp2
      have hS : chooseS a.data.toList b.data.toList = ([], false) := by
        unfold chooseS
        rw [find_no (fun i q hq => HN.out i q hq (by
          have h1 := (List.getElem?_eq_some_iff.1 hq).1
          rw [← HA.out, List.length_map] at h1
          exact h1))]
      exact bodyPost_ret (v := .tuple #[.string ⟨#[]⟩, .bool false]) (by simp [results, Tryd.results34, go_sem]) rfl ⟨ret_ch hS, hb2⟩
theorem Choose_any (a b : ByteArray) (m : Int) (w : World) (ha : a.size < 4294967281) (hb : b.size < 4294967281) (hm : w.cell? ⟨0, 0, none⟩ = some (.int .i64 m)) (hm0 : 0 < w.heap.size) :
    Calls Tryd.prog 11 #[.string a, .string b] w fun e w' => e = .returned (.tuple #[.string ⟨(chooseS a.data.toList b.data.toList).1.toArray⟩, .bool (chooseS a.data.toList b.data.toList).2]) ∧ Below w.heap.size w w' := by
  have h : ∀ W, Below w.heap.size w W → Calls Tryd.prog 34 #[.string a, .string b] W fun e w' => e = .returned (.tuple #[.string ⟨(chooseS a.data.toList b.data.toList).1.toArray⟩, .bool (chooseS a.data.toList b.data.toList).2]) ∧ Below W.heap.size W w' :=
    fun W hW => ofLists_any a b m W ha hb ((hW.cell (p := ⟨0, 0, none⟩) hm0).trans hm) (Nat.lt_of_lt_of_le hm0 hW.size)
  generalize (⟨(chooseS a.data.toList b.data.toList).1.toArray⟩ : ByteArray) = u at *
  generalize (chooseS a.data.toList b.data.toList).2 = p at *
  have hix := table_at3
  go_enter Tryd.func11, Tryd.ntmps11
  go_wp2_with (first
    | (go_at_call 19; refine (results_any _).mono ?_; rintro e w1 ⟨rfl, hb1⟩; unfold tableV)
    | (go_at_call 34; refine (h _ hb1).mono ?_; rintro e w2 ⟨rfl, hb2⟩))
  exact bodyPost_ret (v := .tuple #[.string u, .bool p]) (by simp [results, Tryd.results11, go_sem]) rfl ⟨rfl, hb1.trans (hb2.mono hb1.size)⟩
end Go.Proofs.YtikehhcbjmcfdaaDoor
