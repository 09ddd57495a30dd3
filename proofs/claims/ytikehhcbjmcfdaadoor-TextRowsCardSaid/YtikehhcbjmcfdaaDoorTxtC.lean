/- Package text: Decode: contract. -/
import Derived.Test.YtikehhcbjmcfdaaDoorTxtE
import Derived.Test.YtikehhcbjmcfdaaDoorShelf
namespace Go.Proofs.YtikehhcbjmcfdaaDoor
open Go.ChangeShapes Go.WideShapes Go.ChangeAt Go.RowKit
set_option linter.unusedVariables false
/-- Pairs as cells. -/
def pcells (l : List (ByteArray × ByteArray)) : List Value := (l.map fun p => [Value.string p.1, Value.string p.2]).flatten
theorem pcells_app (a b : List (ByteArray × ByteArray)) : pcells (a ++ b) = pcells a ++ pcells b := by simp [pcells]
theorem pcells_get : ∀ (l : List (ByteArray × ByteArray)) (j : Nat) (p : ByteArray × ByteArray), l[j]? = some p → (pcells l)[j * 2]? = some (.string p.1) ∧ (pcells l)[j * 2 + 1]? = some (.string p.2) := by
  intro l
  induction l with
  | nil => intro j p h; simp at h
  | cons q l ih =>
    intro j p h
    have e : pcells (q :: l) = Value.string q.1 :: Value.string q.2 :: pcells l := by simp [pcells]
    rw [e]
    cases j with
    | zero => simp at h; subst h; exact ⟨rfl, rfl⟩
    | succ j =>
      have h' : l[j]? = some p := by simpa using h
      have := ih j p h'
      rw [show (j + 1) * 2 = j * 2 + 2 by omega, show j * 2 + 2 + 1 = j * 2 + 1 + 2 by omega]
      exact this
theorem Pr.of_own {w : World} {base e : Nat} {v : Value} {l : List (ByteArray × ByteArray)} (h : w.ownsRow base e 2 v l.length (pcells l)) (hs : ∀ p ∈ l, p.1.size ≤ maxLen ∧ p.2.size ≤ maxLen) : Pr w w.heap.size v l := by
  rcases h.2 with ⟨hv, hn⟩ | ⟨g, cap, cur, rfl, hb, hg, hn, hm, hc, ht⟩
  · obtain rfl : l = [] := List.eq_nil_of_length_eq_zero hn
    exact ⟨none, 0, hv, Nat.le_refl _, by simp, hs, fun h => absurd rfl h⟩
  · refine ⟨_, cap, rfl, hn, hm, hs, fun _ => ⟨g, 0, rfl, (Array.getElem?_eq_some_iff.1 hg).1, fun j p hp => ?_⟩⟩
    obtain ⟨h1, h2⟩ := pcells_get l j p hp
    have hc1 := h.cells (g := g) rfl _ _ h1
    have hc2 := h.cells (g := g) rfl _ _ h2
    rw [add_plain] at hc1 hc2
    exact ⟨hc1, hc2⟩
/-- What bytes say, where at most n pairs are looked at. -/
def decF : Nat → List UInt8 → Option (List (ByteArray × ByteArray))
  | 0, r => if r = [] then some [] else none
  | n + 1, r => if r = [] then some [] else
      if (Lib.cut r [0]).2.2 && (Lib.cut (Lib.cut r [0]).1 [61]).2.2 then
        (decF n (Lib.cut r [0]).2.1).map fun t => (⟨(Lib.cut (Lib.cut r [0]).1 [61]).1.toArray⟩, ⟨(Lib.cut (Lib.cut r [0]).1 [61]).2.1.toArray⟩) :: t
      else none
theorem cut_len1 (s sep : List UInt8) : (Lib.cut s sep).1.length ≤ s.length := by unfold Lib.cut; split <;> simp <;> omega
theorem cut_len2 (s sep : List UInt8) : (Lib.cut s sep).2.1.length ≤ s.length := by unfold Lib.cut; split <;> simp
theorem cut_behind (s : List UInt8) (c : UInt8) (h : (Lib.cut s [c]).2.2 = true) : (Lib.cut s [c]).2.1.length + 1 ≤ s.length := by
  unfold Lib.cut at h ⊢
  split at h
  · rename_i h1
    have := Lib.index_room s [c] h1
    rw [if_pos h1]
    simp at this ⊢
    omega
  · cases h
theorem decF_fix : ∀ (n m : Nat) (r : List UInt8), r.length ≤ n → r.length ≤ m → decF n r = decF m r := by
  intro n
  induction n with
  | zero =>
    intro m r h1 h2
    obtain rfl : r = [] := List.eq_nil_of_length_eq_zero (by omega)
    cases m <;> simp [decF]
  | succ n ih =>
    intro m r h1 h2
    by_cases hr : r = []
    · subst hr; cases m <;> simp [decF]
    · have hl : r.length ≠ 0 := fun e => hr (List.eq_nil_of_length_eq_zero e)
      cases m with
      | zero => omega
      | succ m =>
        unfold decF
        rw [if_neg hr, if_neg hr]
        by_cases hc : ((Lib.cut r [0]).2.2 && (Lib.cut (Lib.cut r [0]).1 [61]).2.2) = true
        · have hb := cut_behind r 0 (by simp at hc; exact hc.1)
          rw [if_pos hc, if_pos hc, ih m _ (by omega) (by omega)]
        · rw [if_neg hc, if_neg hc]
def decD (r : List UInt8) : Option (List (ByteArray × ByteArray)) := decF r.length r
theorem decD_nil : decD [] = some [] := rfl
theorem decD_step {r : List UInt8} (hr : r ≠ []) : decD r = if (Lib.cut r [0]).2.2 && (Lib.cut (Lib.cut r [0]).1 [61]).2.2 then
        (decD (Lib.cut r [0]).2.1).map fun t => (⟨(Lib.cut (Lib.cut r [0]).1 [61]).1.toArray⟩, ⟨(Lib.cut (Lib.cut r [0]).1 [61]).2.1.toArray⟩) :: t
      else none := by
  have hl : r.length ≠ 0 := fun e => hr (List.eq_nil_of_length_eq_zero e)
  obtain ⟨n, hn⟩ : ∃ n, r.length = n + 1 := ⟨r.length - 1, by omega⟩
  rw [show decD r = decF (n + 1) r by unfold decD; rw [hn], decF, if_neg hr]
  by_cases hc : ((Lib.cut r [0]).2.2 && (Lib.cut (Lib.cut r [0]).1 [61]).2.2) = true
  · have hb := cut_behind r 0 (by simp at hc; exact hc.1)
    rw [if_pos hc, if_pos hc, decF_fix n _ _ (by omega) (Nat.le_refl _)]
    rfl
  · rw [if_neg hc, if_neg hc]
/-- What Decode tells: its error, its pairs. -/
def decE (r : List UInt8) : Nat := if 4096 < r.length then 5 else match decD r with
  | none => 2
  | some ps => if rightS ps [] then 0 else 2
def decP (r : List UInt8) : List (ByteArray × ByteArray) := if decE r = 0 then (decD r).getD [] else []
theorem cells_new2 (w : World) (t : TypeId) (a b : Value) : ∀ (j : Nat) (u : Value), [a, b][j]? = some u → (w.alloc (.cells #[a, b] t)).cell? ((⟨w.heap.size, 0, none⟩ : Addr).add j) = some u := by
  intro j u hu
  rw [add_plain, Nat.zero_add]
  exact (cell_of_row _ _ j #[a, b] t (0, 0) (heap_alloc_new w _)).trans (by simpa using hu)
theorem cells_new2D (w : World) (k : Nat) (t : TypeId) (a b : Value) : ∀ (j : Nat) (u : Value), [a, b][j]? = some u → ((w.drewN k).alloc (.cells #[a, b] t)).cell? ((⟨w.heap.size, 0, none⟩ : Addr).add j) = some u := cells_new2 (w.drewN k) t a b
theorem own_drewN {w : World} {base e size n : Nat} {v : Value} {xs : List Value} (h : w.ownsRow base e size v n xs) (k : Nat) : (w.drewN k).ownsRow base e size v n xs := h
theorem cell_drewN (w : World) (n : Nat) (a : Addr) : (w.drewN n).cell? a = w.cell? a := rfl
def strOf : Value → Nat
  | .string s => s.size
  | _ => 0
theorem Pr.nil_ (w : World) (B : Nat) : Pr w B (.slice none 0 0) [] := ⟨none, 0, rfl, Nat.le_refl _, by simp, by simp, fun h => absurd rfl h⟩
set_option maxHeartbeats 2000000 in
theorem Decode_any (v : Value) (r : List UInt8) (m : Int) (w : World) (hv : Sl w w.heap.size v r.length (bs r)) (hm : w.cell? ⟨0, 0, none⟩ = some (.int .i64 m)) (hm0 : 0 < w.heap.size) :
    Calls Tryd.prog 14 #[v] w fun e w' => ∃ v' c, e = .returned (.tuple #[v', .int .i64 c]) ∧ c = (decE r : Int) ∧ Pr w' w'.heap.size v' (decP r) ∧ Below w.heap.size w w' := by
  obtain ⟨A, c, rfl, hc1, hc2⟩ := hv.form
  unfold maxLen at hc2
  obtain ⟨i0, hi, hz0, hz1, hz2⟩ := info_parts (show (Tryd.prog.info? 34).map (fun i => (i.zero, i.size, i.bytes)) = some (some (.agg #[.string ⟨#[]⟩, .string ⟨#[]⟩]), 2, 32) by kernel_rfl)
  have k0 := bytes_str w 35 9 5 Tryd.underlying35 Tryd.underlying5 Tryd.underlying9 w.heap.size _ r _ hv
  by_cases h4 : 4096 < r.length
  · have hE : Hid (decE r = 5) := Lib.hid (by unfold decE; rw [if_pos h4])
    have hP : Hid (decP r = []) := Lib.hid (by unfold decP; rw [hE.out]; rfl)
    go_enter Tryd.func14, Tryd.ntmps14
    go_wp2
    exact bodyPost_ret (v := .tuple #[.slice none 0 0, .int .i64 5]) (by simp [results, Tryd.results14, go_sem]) rfl ⟨_, _, rfl, by rw [hE.out]; rfl, by rw [hP.out]; exact Pr.nil_ _ _, Below.refl _ _⟩
  · have hE : Hid (decE r = match decD r with
      | none => 2
      | some ps => if rightS ps [] then 0 else 2) := Lib.hid (by unfold decE; rw [if_neg h4])
    go_enter Tryd.func14, Tryd.ntmps14
    go_wp2
    go_loopw [4, 5] (fun v sv wr => ∃ (s : ByteArray) (acc : List (ByteArray × ByteArray)), sv = .string s ∧ acc.length + s.size ≤ 4096 ∧ wr.ownsRow w.heap.size 34 2 v acc.length (pcells acc) ∧ (∀ p ∈ acc, p.1.size ≤ 4096 ∧ p.2.size ≤ 4096) ∧ decD r = (decD s.data.toList).map (fun t => acc ++ t) ∧ Below w.heap.size w wr) (fun _ sv _ => strOf sv)
    case atStart => exact ⟨⟨r.toArray⟩, [], rfl, by simp [ByteArray.size]; omega, World.ownsRow_nil _ _ _ _, by simp, by simp, Below.refl _ _⟩
    case round =>
      obtain ⟨s, acc, rfl, hlen, hown, hss, hr, hb⟩ := hrel
      have hmr : wr.cell? ⟨0, 0, none⟩ = some (.int .i64 m) := (hb.cell (p := ⟨0, 0, none⟩) hm0).trans hm
      have hpr := Pr.of_own hown (fun p hp => ⟨by have := (hss p hp).1; unfold maxLen; omega, by have := (hss p hp).2; unfold maxLen; omega⟩)
      obtain ⟨A1, c1, rfl, hc3, hc4⟩ := hpr.form
      by_cases hs0 : s.size = 0
      · obtain rfl : s = ⟨#[]⟩ := by
          obtain ⟨d⟩ := s
          have h0 : d.size = 0 := hs0
          congr 1
          exact Array.eq_empty_of_size_eq_zero h0
        have hrD : decD r = some acc := by rw [hr]; show (decD []).map _ = _; rw [decD_nil]; simp
        clear hr
        have hrc := right_any _ acc wr hpr
        by_cases hR : rightS acc [] = true
        · rw [hR] at hrc
          go_wp2_with (go_at_call 22; refine hrc.mono ?_; rintro e w0 ⟨rfl, hb0⟩)
          have hdE : decE r = 0 := by
            rw [hE.out, hrD]
            show (if rightS acc [] = true then 0 else 2) = 0
            rw [if_pos hR]
          have hdP : decP r = acc := by unfold decP; rw [if_pos hdE, hrD]; rfl
          exact bodyPost_ret (v := .tuple #[.slice A1 acc.length c1, .int .i64 0]) (by simp [results, Tryd.results14, go_sem]) rfl ⟨_, _, rfl, by rw [hdE]; rfl, by rw [hdP]; exact hpr.now hb0, hb.trans (hb0.mono hb.size)⟩
        · rw [Bool.not_eq_true] at hR
          rw [hR] at hrc
          go_wp2_with (go_at_call 22; refine hrc.mono ?_; rintro e w0 ⟨rfl, hb0⟩)
          have hdE : decE r = 2 := by
            rw [hE.out, hrD]
            show (if rightS acc [] = true then 0 else 2) = 2
            rw [hR]
            rfl
          have hdP : decP r = [] := by unfold decP; rw [if_neg (by omega)]
          exact bodyPost_ret (v := .tuple #[.slice none 0 0, .int .i64 2]) (by simp [results, Tryd.results14, go_sem]) rfl ⟨_, _, rfl, by rw [hdE]; rfl, by rw [hdP]; exact Pr.nil_ _ _, hb.trans (hb0.mono hb.size)⟩
      · obtain ⟨one, hone⟩ : ∃ one : ByteArray, one = ⟨(Lib.cut s.data.toList [0]).1.toArray⟩ := ⟨_, rfl⟩
        obtain ⟨behind, hbeh⟩ : ∃ x : ByteArray, x = ⟨(Lib.cut s.data.toList [0]).2.1.toArray⟩ := ⟨_, rfl⟩
        obtain ⟨ended, hend⟩ : ∃ t, t = (Lib.cut s.data.toList [0]).2.2 := ⟨_, rfl⟩
        obtain ⟨key, hkey⟩ : ∃ x : ByteArray, x = ⟨(Lib.cut one.data.toList [61]).1.toArray⟩ := ⟨_, rfl⟩
        obtain ⟨val, hval⟩ : ∃ x : ByteArray, x = ⟨(Lib.cut one.data.toList [61]).2.1.toArray⟩ := ⟨_, rfl⟩
        obtain ⟨parted, hpar⟩ : ∃ t, t = (Lib.cut one.data.toList [61]).2.2 := ⟨_, rfl⟩
        have hz (x : ByteArray) : x.data.toList.length = x.size := by simp
        have l1 : one.size ≤ s.size := by rw [← hz, ← hz, hone]; exact cut_len1 _ _
        have l2 : ended = true → behind.size + 1 ≤ s.size := fun h => by rw [← hz, ← hz, hbeh]; exact cut_behind _ _ (hend.symm.trans h)
        have l3 : key.size ≤ one.size := by rw [← hz, ← hz, hkey]; exact cut_len1 _ _
        have l4 : val.size ≤ one.size := by rw [← hz, ← hz, hval]; exact cut_len2 _ _
        have hst : decD s.data.toList = if ended && parted then (decD behind.data.toList).map fun t => (key, val) :: t else none := by
          rw [decD_step (fun e => hs0 (by rw [← hz, e]; rfl)), hend, hpar, hkey, hval, hbeh, hone]
        have hc1 : ∀ W : World, W.cell? ⟨0, 0, none⟩ = some (.int .i64 m) → Calls Tryd.prog 23 #[.string s, .string ⟨#[0]⟩] W fun e w' => e = .returned (.tuple #[.string one, .string behind, .bool ended]) ∧ ∃ n, w' = W.drewN n := fun W hW => by
          have h := Go.Proofs.Tryd.strings_Cut s ⟨#[0]⟩ m W (by omega) hW
          rw [show (ByteArray.mk #[0]).data.toList = [0] from rfl, ← hone, ← hbeh, ← hend] at h
          exact h
        have hc2 : ∀ W : World, W.cell? ⟨0, 0, none⟩ = some (.int .i64 m) → Calls Tryd.prog 23 #[.string one, .string ⟨#[61]⟩] W fun e w' => e = .returned (.tuple #[.string key, .string val, .bool parted]) ∧ ∃ n, w' = W.drewN n := fun W hW => by
          have h := Go.Proofs.Tryd.strings_Cut one ⟨#[61]⟩ m W (by omega) hW
          rw [show (ByteArray.mk #[61]).data.toList = [61] from rfl, ← hkey, ← hval, ← hpar] at h
          exact h
        have HR := Lib.hid hr
        have HST := Lib.hid hst
        clear hone hbeh hend hkey hval hpar hz hr hst
        have hne : s.toList.isEmpty = false := by
          rw [ByteArray.toList_eq, List.isEmpty_eq_false_iff]
          intro e
          apply hs0
          have : s.data.toList.length = s.size := by simp
          rw [← this, e]
          rfl
        by_cases hp : (ended && parted) = true
        · obtain ⟨rfl, rfl⟩ : ended = true ∧ parted = true := by simpa using hp
          clear hp
          have l2' := l2 rfl
          clear l2
          go_wp2_with (first
            | (go_at_call 23; with_reducible refine (hc1 _ hmr).mono ?_; rintro e w' ⟨rfl, n1, rfl⟩; have hmr1 := (cell_drewN wr n1 ⟨0, 0, none⟩).trans hmr)
            | (go_at_call 23; with_reducible refine (hc2 _ hmr1).mono ?_; rintro e w' ⟨rfl, n2, rfl⟩; have ho2 := own_drewN hown (n1 + n2); have hb2 := below_drewN hb (n1 + n2); have hz2' := hb.size; have hnw := cells_new2D wr (n1 + n2) 34 (.string key) (.string val); have hz3 : w.heap.size ≤ ((wr.drewN (n1 + n2)).alloc (.cells #[.string key, .string val] 34)).heap.size := by have := (hb2.alloc hb2.size (.cells #[.string key, .string val] 34)).size; exact this)
            | (at_builtin; with_reducible refine wpList_append_own _ rfl (.tmp 37) (.tmp 41) _ rfl w.heap.size 34 i0 _ 2 32 Tryd.underlying32 hi hz0 hz1 hz2 rfl (by decide) (.slice A1 acc.length c1) acc.length (pcells acc) rfl (ho2.alloc _) ⟨wr.heap.size, 0, none⟩ 1 1 [.string key, .string val] rfl rfl hnw (by simp [Value.oneCell']) (by unfold maxLen; omega) (by omega) hz3 ?_; intro v3 w3 ho3 hg3 _))
          have hb3 : Below w.heap.size w w3 := below_own (hb2.alloc hb2.size _) hg3 hz3 (fun k hk => (hown.lt k hk).1)
          refine ⟨⟨behind, acc ++ [(key, val)], rfl, by rw [List.length_append, List.length_singleton]; omega, ?_, ?_, ?_, hb3⟩, ?_⟩
          · rw [pcells_app, List.length_append]
            exact ho3
          · intro p hp
            rcases List.mem_append.1 hp with h | h
            · exact hss p h
            · obtain rfl : p = (key, val) := by simpa using h
              exact ⟨by show key.size ≤ 4096; omega, by show val.size ≤ 4096; omega⟩
          · rw [HR.out, HST.out, show (true && true) = true from rfl, if_pos (rfl : true = true), Option.map_map]
            congr 1
            funext t
            simp
          · show behind.size < s.size
            omega
        · have hn : decD r = none := by rw [HR.out, HST.out, if_neg hp]; rfl
          have hdE : decE r = 2 := by rw [hE.out, hn]
          have hdP : decP r = [] := by unfold decP; rw [if_neg (by omega)]
          have HE := Lib.hid hdE
          have HP := Lib.hid hdP
          clear hdE hdP hn l2
          cases ended <;> cases parted
          case true.true => exact absurd rfl hp
          all_goals clear hp
          all_goals go_wp2_with (first
            | (go_at_call 23; with_reducible refine (hc1 _ hmr).mono ?_; rintro e w' ⟨rfl, n1, rfl⟩; have hmr1 := (cell_drewN wr n1 ⟨0, 0, none⟩).trans hmr)
            | (go_at_call 23; with_reducible refine (hc2 _ hmr1).mono ?_; rintro e w' ⟨rfl, n2, rfl⟩; have hb2 := below_drewN hb (n1 + n2)))
          all_goals exact bodyPost_ret (v := .tuple #[.slice none 0 0, .int .i64 2]) (by simp [results, Tryd.results14, go_sem]) rfl ⟨_, _, rfl, by rw [HE.out]; rfl, by rw [HP.out]; exact Pr.nil_ _ _, hb2⟩
end Go.Proofs.YtikehhcbjmcfdaaDoor
