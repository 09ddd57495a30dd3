/- TextSides: for any two strings the statement's function tells true and turns nothing that was there. No condition. -/
import Derived.Test.YtikehhcbjmcfdaaDoorTxtK
import Derived.Test.YtikehhcbjmcfdaaDoorTxtO
import Derived.Test.YtikehhcbjmcfdaaDoorTxtT
import Derived.Test.YtikehhcbjmcfdaaDoorCards
import Derived.Test.YtikehhcbjmcfdaaDoorTie
import Derived.Deep.DeepHandedRow
import Derived.Lay
import Derived.ChangeMaps5
namespace Go.Proofs.YtikehhcbjmcfdaaDoor
open Go.ChangeShapes Go.WideShapes Go.ChangeAt Go.RowKit
set_option linter.unusedVariables false
namespace TextSides
theorem pieces_len : ∀ (l p : List UInt8), p ∈ pieces l → p.length ≤ l.length := by
  intro l
  induction l with
  | nil => intro p hp; obtain rfl : p = [] := by simpa [pieces] using hp
           simp
  | cons c l ih =>
    intro p hp
    rw [pieces_cons] at hp
    by_cases h : c = 44
    · rw [if_pos h] at hp
      rcases List.mem_cons.1 hp with rfl | hp
      · simp
      · have := ih p hp; rw [List.length_cons]; omega
    · rw [if_neg h] at hp
      cases hq : pieces l with
      | nil => exact absurd hq (pieces_ne l)
      | cons q qs =>
        rw [hq] at hp ih
        rcases List.mem_cons.1 hp with rfl | hp
        · have := ih q (List.mem_cons_self ..)
          rw [List.length_cons, List.length_cons]; omega
        · have := ih p (List.mem_cons_of_mem _ hp); rw [List.length_cons]; omega
theorem choose_has (a b : List UInt8) : (chooseS a b).2 = (pieces a).any fun p => (pieces b).contains p := by
  unfold chooseS
  cases hf : (pieces a).find? fun p => (pieces b).contains p with
  | none =>
    symm
    rw [List.any_eq_false]
    intro x hx
    have := (List.find?_eq_none.1 hf) x hx
    simpa using this
  | some p =>
    symm
    exact List.any_eq_true.2 ⟨p, List.mem_of_find?_eq_some hf, List.find?_some hf⟩
theorem choose_comm (a b : List UInt8) : (chooseS b a).2 = (chooseS a b).2 := by
  rw [choose_has, choose_has, Bool.eq_iff_iff, List.any_eq_true, List.any_eq_true]
  constructor
  · rintro ⟨p, h1, h2⟩
    exact ⟨p, List.contains_iff_mem.1 h2, List.contains_iff_mem.2 h1⟩
  · rintro ⟨p, h1, h2⟩
    exact ⟨p, List.contains_iff_mem.1 h2, List.contains_iff_mem.2 h1⟩
theorem choose_in {a b : List UInt8} (h : (chooseS a b).2 = true) : (chooseS a b).1 ∈ pieces a ∧ (chooseS a b).1 ∈ pieces b := by
  unfold chooseS at h ⊢
  cases hf : (pieces a).find? fun p => (pieces b).contains p with
  | none => rw [hf] at h; cases h
  | some p => exact ⟨List.mem_of_find?_eq_some hf, List.contains_iff_mem.1 (List.find?_some hf)⟩
theorem choose_out {a b : List UInt8} (h : (chooseS a b).2 = false) : (chooseS a b).1 = [] := by
  unfold chooseS at h ⊢
  cases hf : (pieces a).find? fun p => (pieces b).contains p with
  | none => rfl
  | some p => rw [hf] at h; cases h
theorem choose_len (a b : List UInt8) : (chooseS a b).1.length ≤ a.length := by
  cases h : (chooseS a b).2 with
  | true => exact pieces_len _ _ (choose_in h).1
  | false => rw [choose_out h]; simp
theorem choose_of {c l : List UInt8} (h1 : (44 : UInt8) ∉ c) (h2 : c ∈ pieces l) : chooseS c l = (c, true) := by
  unfold chooseS
  rw [pieces_one h1, List.find?_cons, List.contains_iff_mem.2 h2]
set_option maxHeartbeats 8000000 in
set_option maxRecDepth 100000 in
theorem walk0 (a b : ByteArray) (m : Int) (w : World) (hsa : a.size ≤ maxLen) (hsb : b.size ≤ maxLen) (hm : w.cell? ⟨0, 0, none⟩ = some (.int .i64 m)) (hm0 : 0 < w.heap.size) (ht : Tab w) :
    Calls Tryd.prog 3 #[.string a, .string b] w fun e w' => e = .returned (.bool true) ∧ Below w.heap.size w w' := by
  have hK := known_any m w hm hm0
  by_cases hr : 400 < (a.size : Int) ∨ 400 < (b.size : Int)
  · by_cases h1 : 400 < (a.size : Int)
    · clear hr
      unfold maxLen at hsa hsb
      go_enter Tryd.func3, Tryd.ntmps3
      go_wp2_with (go_at_call 7; refine hK.mono ?_; rintro e w1 ⟨rfl, hb1⟩)
      all_goals go_ret
      all_goals exact ⟨rfl, hb1⟩
    · have h2 : 400 < (b.size : Int) := by omega
      clear hr
      unfold maxLen at hsa hsb
      go_enter Tryd.func3, Tryd.ntmps3
      go_wp2_with (go_at_call 7; refine hK.mono ?_; rintro e w1 ⟨rfl, hb1⟩)
      all_goals go_ret
      all_goals exact ⟨rfl, hb1⟩
  · have h1 : (a.size : Int) ≤ 400 := by omega
    have h2 : (b.size : Int) ≤ 400 := by omega
    clear hr
    have hx := numS_bd a.data.toList
    have hy := numS_bd b.data.toList
    have hz (x : ByteArray) : x.data.toList.length = x.size := by simp
    have hI : ∀ v : Int, 0 ≤ v → v ≤ 999999999 → ∀ W, Below w.heap.size w W → ∀ V, Below W.heap.size W V → Calls Tryd.prog 41 #[.int .i64 v] V fun e w' => e = .returned (.string ⟨(decS v.toNat).toArray⟩) ∧ Below V.heap.size V w' :=
      fun v h0 h1 W hW V hV => Itoa_any v h0 h1 V (ht.below (hW.trans (hV.mono hW.size)))
    have hL1 : ∀ W, Below w.heap.size w W → Calls Tryd.prog 8 #[.string a, .string b] W fun e w' => e = .returned (.tuple #[.string (if bothN a b then ⟨(decS (min (numS a.data.toList).1 (numS b.data.toList).1).toNat).toArray⟩ else ⟨#[]⟩), .bool (bothN a b)]) ∧ Below w.heap.size w w' :=
      fun W hW => (Lesser_any a b _ W hsa hsb (fun _ => hI _ (by omega) (by omega) W hW)).mono fun e w' ⟨h1, h2⟩ => ⟨h1, hW.trans (h2.mono hW.size)⟩
    have hG : ∀ W, Below w.heap.size w W → Calls Tryd.prog 9 #[.string a, .string b] W fun e w' => e = .returned (.tuple #[.string (if bothN a b then ⟨(decS (max (numS a.data.toList).1 (numS b.data.toList).1).toNat).toArray⟩ else ⟨#[]⟩), .bool (bothN a b)]) ∧ Below w.heap.size w w' :=
      fun W hW => (Greater_any a b _ W hsa hsb (fun _ => hI _ (by omega) (by omega) W hW)).mono fun e w' ⟨h1, h2⟩ => ⟨h1, hW.trans (h2.mono hW.size)⟩
    have hL2 : ∀ W, Below w.heap.size w W → Calls Tryd.prog 8 #[.string b, .string a] W fun e w' => e = .returned (.tuple #[.string (if bothN a b then ⟨(decS (min (numS a.data.toList).1 (numS b.data.toList).1).toNat).toArray⟩ else ⟨#[]⟩), .bool (bothN a b)]) ∧ Below w.heap.size w w' :=
      fun W hW => by
        have h := Lesser_any b a _ W hsb hsa (fun _ => hI _ (by omega) (by omega) W hW)
        rw [show bothN b a = bothN a b by unfold bothN; rw [Bool.and_comm], Int.min_comm] at h
        exact h.mono fun e w' ⟨h1, h2⟩ => ⟨h1, hW.trans (h2.mono hW.size)⟩
    have hC : ∀ (p q : ByteArray), p.size ≤ 400 → q.size ≤ 400 → ∀ W, Below w.heap.size w W → Calls Tryd.prog 11 #[.string p, .string q] W fun e w' => e = .returned (.tuple #[.string ⟨(chooseS p.data.toList q.data.toList).1.toArray⟩, .bool (chooseS p.data.toList q.data.toList).2]) ∧ Below w.heap.size w w' :=
      fun p q hp hq W hW => (Choose_any p q m W (by omega) (by omega) ((hW.cell (p := ⟨0, 0, none⟩) hm0).trans hm) (Nat.lt_of_lt_of_le hm0 hW.size)).mono fun e w' ⟨h1, h2⟩ => ⟨h1, hW.trans (h2.mono hW.size)⟩
    have hN : ∀ (s : ByteArray), s.size ≤ maxLen → ∀ W, Calls Tryd.prog 10 #[.string s] W fun e w' => e = .returned (.tuple #[.int .i64 (numS s.data.toList).1, .bool (numS s.data.toList).2]) ∧ W = w' := fun s hs W => Number_any s W hs
    have hCab := hC a b (by omega) (by omega)
    have hCba := hC b a (by omega) (by omega)
    rw [choose_comm a.data.toList b.data.toList] at hCba
    obtain ⟨c, hc⟩ : ∃ c : ByteArray, c = ⟨(chooseS a.data.toList b.data.toList).1.toArray⟩ := ⟨_, rfl⟩
    have hcs : c.size ≤ 400 := by
      have h1 := choose_len a.data.toList b.data.toList
      rw [← hz, hc]
      show (chooseS a.data.toList b.data.toList).1.length ≤ 400
      have := hz a
      omega
    have hcd : c.data.toList = (chooseS a.data.toList b.data.toList).1 := by rw [hc]
    have hCca := hC c a hcs (by omega)
    have hCcb := hC c b hcs (by omega)
    rw [← hc] at hCab
    have hself : (chooseS a.data.toList b.data.toList).2 = true → chooseS c.data.toList a.data.toList = (c.data.toList, true) ∧ chooseS c.data.toList b.data.toList = (c.data.toList, true) := by
      intro h
      obtain ⟨i1, i2⟩ := choose_in h
      rw [← hcd] at i1 i2
      exact ⟨choose_of (pieces_free _ _ i1) i1, choose_of (pieces_free _ _ i1) i2⟩
    clear hC hc hcd
    have hNa := hN a hsa
    have hNb := hN b hsb
    have hNl : ∀ v : Int, 0 ≤ v → v ≤ 999999999 → ∀ W, Calls Tryd.prog 10 #[.string ⟨(decS v.toNat).toArray⟩] W fun e w' => e = .returned (.tuple #[.int .i64 v, .bool true]) ∧ W = w' := by
      intro v h0 h1 W
      have hl := decS_le 8 v.toNat (by omega)
      have h := hN ⟨(decS v.toNat).toArray⟩ (by rw [← hz]; show (decS v.toNat).length ≤ maxLen; unfold maxLen; omega) W
      rw [show (ByteArray.mk (decS v.toNat).toArray).data.toList = decS v.toNat from rfl, numS_dec (by omega), Int.toNat_of_nonneg h0] at h
      exact h
    clear hN hI
    generalize (numS a.data.toList).1 = x at *
    generalize (numS b.data.toList).1 = y at *
    generalize (numS a.data.toList).2 = pa at *
    generalize (numS b.data.toList).2 = pb at *
    generalize bothN a b = ok at *
    have hmin := hNl (min x y) (by omega) (by omega)
    have hmax := hNl (max x y) (by omega) (by omega)
    clear hNl
    generalize (⟨(decS (min x y).toNat).toArray⟩ : ByteArray) = tl at *
    generalize (⟨(decS (max x y).toNat).toArray⟩ : ByteArray) = tg at *
    generalize (⟨(chooseS b.data.toList a.data.toList).1.toArray⟩ : ByteArray) = c2 at *
    generalize (chooseS a.data.toList b.data.toList).2 = has at *
    have hle : ¬ (max x y < min x y) := by omega
    have hsum : min x y + max x y = x + y := by omega
    have hx3 : 0 ≤ min x y ∧ min x y ≤ 999999999 := by omega
    have hx4 : 0 ≤ max x y ∧ max x y ≤ 999999999 := by omega
    generalize min x y = z1 at *
    generalize max x y = z2 at *
    unfold maxLen at hsa hsb
    clear hm hm0 ht hz
    cases has
    · clear hself
      generalize (⟨(chooseS c.data.toList a.data.toList).1.toArray⟩ : ByteArray) = q1 at *
      generalize (chooseS c.data.toList a.data.toList).2 = o1 at *
      generalize (⟨(chooseS c.data.toList b.data.toList).1.toArray⟩ : ByteArray) = q2 at *
      generalize (chooseS c.data.toList b.data.toList).2 = o2 at *
      cases ok
      all_goals
        go_enter Tryd.func3, Tryd.ntmps3
        go_wp2_with (first
          | (go_at_call 7; refine hK.mono ?_; rintro e w1 ⟨rfl, hb1⟩)
          | (go_at_call 8; with_reducible refine (hL1 _ hb1).mono ?_; rintro e w2 ⟨rfl, hb2⟩)
          | (go_at_call 9; with_reducible refine (hG _ hb2).mono ?_; rintro e w3 ⟨rfl, hb3⟩)
          | (go_at_call 8; with_reducible refine (hL2 _ hb3).mono ?_; rintro e w4 ⟨rfl, hb4⟩)
          | (go_at_call 10; with_reducible refine (hNa _).mono ?_; rintro e w' ⟨rfl, rfl⟩)
          | (go_at_call 10; with_reducible refine (hNb _).mono ?_; rintro e w' ⟨rfl, rfl⟩)
          | (go_at_call 10; with_reducible refine (hmin _).mono ?_; rintro e w' ⟨rfl, rfl⟩)
          | (go_at_call 10; with_reducible refine (hmax _).mono ?_; rintro e w' ⟨rfl, rfl⟩)
          | (go_at_call 11; with_reducible refine (hCab _ hb4).mono ?_; rintro e w5 ⟨rfl, hb5⟩)
          | (go_at_call 11; with_reducible refine (hCba _ hb5).mono ?_; rintro e w6 ⟨rfl, hb6⟩)
          | (go_at_call 11; with_reducible refine (hCca _ hb6).mono ?_; rintro e w7 ⟨rfl, hb7⟩)
          | (go_at_call 11; with_reducible refine (hCcb _ hb7).mono ?_; rintro e w8 ⟨rfl, hb8⟩))
      all_goals go_ret
      all_goals exact ⟨rfl, hb8⟩
    · obtain ⟨e1, e2⟩ := hself rfl
      rw [e1] at hCca
      rw [e2] at hCcb
      clear hself e1 e2
      rw [show (⟨c.data.toList.toArray⟩ : ByteArray) = c from rfl] at hCca hCcb
      cases ok
      all_goals
        go_enter Tryd.func3, Tryd.ntmps3
        go_wp2_with (first
          | (go_at_call 7; refine hK.mono ?_; rintro e w1 ⟨rfl, hb1⟩)
          | (go_at_call 8; with_reducible refine (hL1 _ hb1).mono ?_; rintro e w2 ⟨rfl, hb2⟩)
          | (go_at_call 9; with_reducible refine (hG _ hb2).mono ?_; rintro e w3 ⟨rfl, hb3⟩)
          | (go_at_call 8; with_reducible refine (hL2 _ hb3).mono ?_; rintro e w4 ⟨rfl, hb4⟩)
          | (go_at_call 10; with_reducible refine (hNa _).mono ?_; rintro e w' ⟨rfl, rfl⟩)
          | (go_at_call 10; with_reducible refine (hNb _).mono ?_; rintro e w' ⟨rfl, rfl⟩)
          | (go_at_call 10; with_reducible refine (hmin _).mono ?_; rintro e w' ⟨rfl, rfl⟩)
          | (go_at_call 10; with_reducible refine (hmax _).mono ?_; rintro e w' ⟨rfl, rfl⟩)
          | (go_at_call 11; with_reducible refine (hCab _ hb4).mono ?_; rintro e w5 ⟨rfl, hb5⟩)
          | (go_at_call 11; with_reducible refine (hCba _ hb5).mono ?_; rintro e w6 ⟨rfl, hb6⟩)
          | (go_at_call 11; with_reducible refine (hCca _ hb6).mono ?_; rintro e w7 ⟨rfl, hb7⟩)
          | (go_at_call 11; with_reducible refine (hCcb _ hb7).mono ?_; rintro e w8 ⟨rfl, hb8⟩))
      all_goals go_ret
      all_goals exact ⟨rfl, hb8⟩
theorem walk (a b : ByteArray) (W : World) (hsh : W.ShapedOpen Tryd.prog) (hL : laidMetH Tryd.prog Rows.textSidesRow.laid W) (hsa : a.size ≤ maxLen) (hsb : b.size ≤ maxLen) :
    Calls Tryd.prog 3 #[.string a, .string b] W fun e w' => e = .returned (.bool true) ∧ Below W.heap.size W w' := by
  obtain ⟨m, hm⟩ := max_len hsh
  rw [MakeChecks.laidMetH_plain _ _ _ (by kernel_rfl)] at hL
  exact walk0 a b m W hsa hsb hm (cell_block hm) (tab_of (by simp [Rows.textSidesRow]) hL)
theorem reads (os : Os) {H : Type} (enc : TypeId × Value → H) : ∃ places, DataW.whole enc Tryd.prog ((World.laidAll Tryd.prog os Rows.textSidesRow.laid).forCall (fun _ _ => 0) ⟨#[], #[.string ⟨#[]⟩, .string ⟨#[]⟩], []⟩).memory Tryd.f3.params.toList Rows.textSidesSpec.vars false (#[.string ⟨#[]⟩, .string ⟨#[]⟩] : Array Value).toList 8 = some ([.lit (.string []), .lit (.string [])], [], places) :=
  ⟨[], by kernel_rfl⟩
set_option maxRecDepth 100000 in
theorem lifted (os : Os) (started : os.Started) (H : Type) (enc : TypeId × Value → H) (F : Stop.Interp) :
    ReturnsInHanded {} Tryd.checked os 3 .any ((OpenSpec.ofChange Rows.textSidesSpec).preRow enc Tryd.prog Tryd.f3 Rows.textSidesRow.domain false Rows.textSidesRow.laid) (((OpenSpec.ofChange Rows.textSidesSpec).at F).post enc Tryd.prog Tryd.f3 false true false false) := by
  obtain ⟨places, hx⟩ := reads os enc
  have hok : Input.okWideB Tryd.checked.prog ((World.laidAll Tryd.prog os Rows.textSidesRow.laid).forCall (fun _ _ => 0) ⟨#[], #[.string ⟨#[]⟩, .string ⟨#[]⟩], []⟩) 3 ⟨#[], #[.string ⟨#[]⟩, .string ⟨#[]⟩], []⟩ = true := by kernel_rfl
  refine returnsInHanded_of_row (C := Tryd.checked) (s := OpenSpec.ofChange Rows.textSidesSpec) own started (by kernel_rfl) Tryd.func3
    ⟨World.laidAll Tryd.prog os Rows.textSidesRow.laid, fun _ _ => 0, ⟨#[], #[.string ⟨#[]⟩, .string ⟨#[]⟩], []⟩, World.laidAll_os _ _ _, World.shaped_of_ZipB (by kernel_rfl) (by kernel_rfl), (Input.okWide_of_okWideB (base := 0) hok).1, (Input.okWide_of_okWideB hok).2,
      OpenSpec.preRow_of_cond 8 hx (by kernel_rfl) (fun k hk => by cases hk) (by kernel_rfl) (by rw [MakeChecks.laidMetH_plain _ _ _ (by kernel_rfl)]; exact laidMet_laidAll _ (by kernel_rfl) (by kernel_rfl)),
      by simp only [Assume.holds]; exact ⟨by simp, by simp, fun _ => Modest.zero, by simp, by simp⟩⟩ ?_
  intro W base args ds gs before hval0 hW _ _ _ hL hsh _
  have hval : ∀ (j : Nat) t v, Tryd.f3.params[j]? = some t → args[j]? = some v → Value.okWide Tryd.prog W .any base t v := hval0
  have hW' := hW
  obtain ⟨p, q, hA0, hV, rfl, hfz, hnd⟩ := hW
  have hA : DataW.TrodAll enc Tryd.prog W 0 (fun _ => true) true Tryd.f3.params.toList args.toList ds p := hA0
  rw [Tryd.params3] at hA hval
  obtain ⟨v0, vs0, d0, ds0, p0, q0, hargs, rfl, rfl, h0, r0⟩ := trodAll_cons hA
  obtain ⟨v1, vs1, d1, ds1, p1, q1, rfl, rfl, rfl, h1, r1⟩ := trodAll_cons r0
  obtain ⟨rfl, rfl, rfl⟩ := trodAll_nil r1
  obtain rfl : args = #[v0, v1] := by cases args; simp_all
  obtain ⟨rfl, rfl⟩ := trodVars_none hV
  obtain ⟨a0, rfl, _, _, s0⟩ := Go.ChangeMaps.open_string Tryd.underlying9 (hval 0 9 v0 rfl rfl) h0
  obtain ⟨a1, rfl, _, _, s1⟩ := Go.ChangeMaps.open_string Tryd.underlying9 (hval 1 9 v1 rfl rfl) h1
  refine (walk a0 a1 W hsh hL s0 s1).mono fun e W' ⟨he, hb⟩ => ?_
  subst he
  exact ⟨_, rfl, law_post laidOut (by kernel_rfl) rfl (by kernel_rfl) Tryd.underlying4 rfl rfl rfl hW' hb⟩

theorem said : Rows.TextSidesSaid :=
  OpenClaim.holds_of_cond 3 Tryd.f3 rfl rfl rfl rfl rfl rfl rfl ⟨rfl, rfl, rfl, rfl, rfl⟩ rfl rfl rfl rfl rfl (by kernel_rfl) Tryd.func3 (by kernel_rfl)
    (of_decide_eq_true (by kernel_rfl)) (by unfold Func.isWrapper; first | (rw [if_pos (by decide +kernel)]; kernel_rfl) | (rw [if_neg (by decide +kernel)]; exact ⟨rfl, rfl⟩))
    (fun os started H enc _ F => by rw [OpenClaim.pre_eq_preRow]; exact lifted os started H enc F)
theorem proved : Rows.TextSidesCardSaid :=
  Claim7.holds_tied_plain_at .later [] _ _ _ _ said (fun _ h => by cases h) (by kernel_rfl) (fun _ h => by cases h) textSides_row_tie rfl ⟨rfl, rfl⟩ (by kernel_rfl) rfl
    (fun f fn hf hfn => by
      obtain rfl : f = 3 := Option.some.inj ((show Tryd.prog.funcNamed "gemel/gemellaw3.TextSides" = some 3 by kernel_rfl).symm.trans hf) |>.symm
      obtain rfl : fn = Tryd.f3 := (Option.some.inj (Tryd.func3.symm.trans hfn)).symm
      refine ⟨by kernel_rfl, fun j t ht => ?_⟩
      rw [Tryd.params3] at ht
      have hmem : t ∈ [9, 9] := by simpa using Array.mem_of_getElem? ht
      have hall : ([9, 9].all fun u => !Tryd.prog.wantsStandIn u) = true := by kernel_rfl
      exact (show Tryd.prog.wantsStandIn t = false by simpa using List.all_eq_true.1 hall t hmem))
    (by kernel_rfl)
end TextSides
end Go.Proofs.YtikehhcbjmcfdaaDoor
