/- TextChoices: for any two lists of bytes the statement's function tells true and turns nothing that was there. No condition. -/
import Derived.Test.YtikehhcbjmcfdaaDoorTxtK
import Derived.Test.YtikehhcbjmcfdaaDoorTxtL
import Derived.Test.YtikehhcbjmcfdaaDoorTxtO
import Derived.Test.YtikehhcbjmcfdaaDoorTxtW
import Derived.Test.YtikehhcbjmcfdaaDoorCards
import Derived.Test.YtikehhcbjmcfdaaDoorTie
import Derived.Deep.DeepHandedRow
import Derived.Deep.QuietTactic
import Derived.Lay
namespace Go.Proofs.YtikehhcbjmcfdaaDoor
open Go.ChangeShapes Go.WideShapes Go.ChangeAt Go.RowKit
set_option linter.unusedVariables false
namespace TextChoices
theorem letC_nat (c : UInt8) : (letC c).toNat = 97 + c.toNat % 6 := by
  have h0 : (letC c).toNat = (97 + c.toNat % 6) % 256 := UInt8.toNat_ofNat'
  omega
theorem letC_eq (c d : UInt8) : letC c = letC d ↔ c.toNat % 6 = d.toNat % 6 := by
  rw [← UInt8.toNat_inj, letC_nat, letC_nat]
  omega
theorem letC_free (c : UInt8) : (44 : UInt8) ∉ [letC c] := by
  intro h
  have h1 : 44 = letC c := by simpa using h
  have := letC_nat c
  rw [← h1] at this
  have h44 : (44 : UInt8).toNat = 44 := rfl
  omega
theorem list_pieces (l : List UInt8) : ∀ k, 1 ≤ k → k ≤ l.length → pieces (listTo l k) = (l.take k).map (fun c => [letC c]) := by
  intro k
  induction k with
  | zero => intro h; omega
  | succ k ih =>
    intro _ hk
    rw [listTo, List.getElem?_eq_getElem (by omega), List.take_succ_eq_append_getElem (by omega), List.map_append]
    by_cases h0 : k = 0
    · subst h0
      rw [if_pos rfl]
      exact pieces_one (letC_free _)
    · rw [if_neg h0, List.append_assoc]
      show pieces (listTo l k ++ 44 :: [letC l[k]]) = _
      rw [pieces_app, ih (by omega) (by omega), pieces_one (letC_free _)]
      rfl
theorem list_pieces' (l : List UInt8) (h : 1 ≤ l.length) : pieces (listTo l l.length) = l.map (fun c => [letC c]) := by
  have := list_pieces l l.length h (Nat.le_refl _)
  rwa [List.take_length] at this
/-- Does the other list have that letter? -/
def hasL (b : List UInt8) (c : UInt8) : Bool := b.any fun d => c.toNat % 6 == d.toNat % 6
theorem hasL_is (b : List UInt8) (c : UInt8) : (b.map (fun c => [letC c])).contains [letC c] = hasL b c := by
  rw [Bool.eq_iff_iff, List.contains_iff_mem, List.mem_map]
  unfold hasL
  rw [List.any_eq_true]
  constructor
  · rintro ⟨d, hd, e⟩
    refine ⟨d, hd, ?_⟩
    have e1 : letC d = letC c := by simpa using e
    rw [beq_iff_eq]
    exact ((letC_eq d c).1 e1).symm
  · rintro ⟨d, hd, e⟩
    rw [beq_iff_eq] at e
    exact ⟨d, hd, by rw [(letC_eq d c).2 e.symm]⟩
theorem choose_hit {a b : List UInt8} {k : Nat} (ha : 1 ≤ a.length) (hb : 1 ≤ b.length) (hk : k < a.length) (hh : hasL b a[k] = true) (hno : ∀ i (h : i < a.length), i < k → hasL b a[i] = false) :
    chooseS (listTo a a.length) (listTo b b.length) = ([letC a[k]], true) := by
  unfold chooseS
  rw [list_pieces' a ha, list_pieces' b hb]
  rw [find_at (k := k) (p := [letC a[k]]) (by simp [hk]) (by rw [hasL_is]; exact hh) (fun i q hq hi => by
    have hi' : i < a.length := by omega
    rw [List.getElem?_map, List.getElem?_eq_getElem hi'] at hq
    obtain rfl := Option.some.inj hq
    rw [hasL_is]
    exact hno i hi' hi)]
theorem choose_miss {a b : List UInt8} (ha : 1 ≤ a.length) (hb : 1 ≤ b.length) (hno : ∀ i (h : i < a.length), hasL b a[i] = false) :
    chooseS (listTo a a.length) (listTo b b.length) = ([], false) := by
  unfold chooseS
  rw [list_pieces' a ha, list_pieces' b hb]
  rw [find_no (fun i q hq => by
    have hi' : i < a.length := by have := (List.getElem?_eq_some_iff.1 hq).1; rwa [List.length_map] at this
    rw [List.getElem?_map, List.getElem?_eq_getElem hi'] at hq
    obtain rfl := Option.some.inj hq
    rw [hasL_is]
    exact hno i hi')]
theorem hasL_snoc (b : List UInt8) (c : UInt8) {j : Nat} (h : j < b.length) : hasL (b.take (j + 1)) c = (hasL (b.take j) c || c.toNat % 6 == b[j].toNat % 6) := by
  unfold hasL
  rw [List.take_succ_eq_append_getElem h, List.any_append]
  simp
theorem mod_is (x y : Nat) : (((x : Int) % 6) == ((y : Int) % 6)) = (x % 6 == y % 6) := by
  rw [Bool.eq_iff_iff, beq_iff_eq, beq_iff_eq]
  omega
set_option maxHeartbeats 8000000 in
set_option maxRecDepth 100000 in
theorem walk0 (v u : Value) (a b : List UInt8) (m : Int) (w : World) (hv : Sl w w.heap.size v a.length (bs a)) (hu : Sl w w.heap.size u b.length (bs b)) (hm : w.cell? ⟨0, 0, none⟩ = some (.int .i64 m)) (hm0 : 0 < w.heap.size) :
    Calls Tryd.prog 6 #[v, u] w fun e w' => e = .returned (.bool true) ∧ Below w.heap.size w w' := by
  have hK := known_any m w hm hm0
  obtain ⟨A, c, rfl, hc1, hc2⟩ := hv.form
  obtain ⟨A', c', rfl, hc1', hc2'⟩ := hu.form
  unfold maxLen at hc2 hc2'
  have short : (a = [] ∨ b = [] ∨ 20 < a.length ∨ 20 < b.length) → Calls Tryd.prog 6 #[.slice A a.length c, .slice A' b.length c'] w fun e w' => e = .returned (.bool true) ∧ Below w.heap.size w w' := by
    intro hs
    by_cases h1 : a = []
    · subst h1
      go_enter Tryd.func6, Tryd.ntmps6
      go_wp2_with (go_at_call 7; refine hK.mono ?_; rintro e w1 ⟨rfl, hb1⟩)
      all_goals go_ret
      all_goals exact ⟨rfl, hb1⟩
    have z1 : ((a.length : Int) == 0) = false := by simp [h1]
    by_cases h2 : b = []
    · subst h2
      clear hs
      go_enter Tryd.func6, Tryd.ntmps6
      go_wp2_with (go_at_call 7; refine hK.mono ?_; rintro e w1 ⟨rfl, hb1⟩)
      all_goals go_ret
      all_goals exact ⟨rfl, hb1⟩
    have z2 : ((b.length : Int) == 0) = false := by simp [h2]
    have hs' : 20 < (a.length : Int) ∨ 20 < (b.length : Int) := by
      rcases hs with h | h | h | h
      · exact absurd h h1
      · exact absurd h h2
      · left; omega
      · right; omega
    clear hs
    by_cases h3 : 20 < (a.length : Int)
    · clear hs'
      go_enter Tryd.func6, Tryd.ntmps6
      go_wp2_with (go_at_call 7; refine hK.mono ?_; rintro e w1 ⟨rfl, hb1⟩)
      all_goals go_ret
      all_goals exact ⟨rfl, hb1⟩
    · have h4 : 20 < (b.length : Int) := by omega
      clear hs'
      go_enter Tryd.func6, Tryd.ntmps6
      go_wp2_with (go_at_call 7; refine hK.mono ?_; rintro e w1 ⟨rfl, hb1⟩)
      all_goals go_ret
      all_goals exact ⟨rfl, hb1⟩
  by_cases hr : a = [] ∨ b = [] ∨ 20 < a.length ∨ 20 < b.length
  · exact short hr
  · clear short
    obtain ⟨hae, hbe, ha2, hb2'⟩ : a ≠ [] ∧ b ≠ [] ∧ a.length ≤ 20 ∧ b.length ≤ 20 := ⟨fun e => hr (.inl e), fun e => hr (.inr (.inl e)), by omega, by omega⟩
    clear hr
    have z1 : ((a.length : Int) == 0) = false := by simp [hae]
    have z2 : ((b.length : Int) == 0) = false := by simp [hbe]
    have ha1 : 1 ≤ a.length := List.length_pos_iff.2 hae
    have hb1' : 1 ≤ b.length := List.length_pos_iff.2 hbe
    have y1 : (a.length : Int) ≤ 20 := by omega
    have y2 : (b.length : Int) ≤ 20 := by omega
    have hla : ∀ W, Below w.heap.size w W → Calls Tryd.prog 16 #[.slice A a.length c] W fun e w' => e = .returned (.string ⟨(listTo a a.length).toArray⟩) ∧ Below W.heap.size W w' := fun W hW => list_any _ a W ((hv.below hW).more hW.size) ha2
    have hlb : ∀ W, Below w.heap.size w W → Calls Tryd.prog 16 #[.slice A' b.length c'] W fun e w' => e = .returned (.string ⟨(listTo b b.length).toArray⟩) ∧ Below W.heap.size W w' := fun W hW => list_any _ b W ((hu.below hW).more hW.size) hb2'
    have hch : ∀ W, Below w.heap.size w W → Calls Tryd.prog 11 #[.string ⟨(listTo a a.length).toArray⟩, .string ⟨(listTo b b.length).toArray⟩] W fun e w' => e = .returned (.tuple #[.string ⟨(chooseS (listTo a a.length) (listTo b b.length)).1.toArray⟩, .bool (chooseS (listTo a a.length) (listTo b b.length)).2]) ∧ Below W.heap.size W w' := fun W hW => by
      have l1 := listTo_len a a.length
      have l2 := listTo_len b b.length
      have h := Choose_any ⟨(listTo a a.length).toArray⟩ ⟨(listTo b b.length).toArray⟩ m W (by show (listTo a a.length).toArray.size < _; rw [List.size_toArray]; omega) (by show (listTo b b.length).toArray.size < _; rw [List.size_toArray]; omega) ((hW.cell (p := ⟨0, 0, none⟩) hm0).trans hm) (Nat.lt_of_lt_of_le hm0 hW.size)
      exact h
    generalize hsa : (⟨(listTo a a.length).toArray⟩ : ByteArray) = sa at *
    generalize hsb : (⟨(listTo b b.length).toArray⟩ : ByteArray) = sb at *
    clear hsa hsb
    obtain ⟨bk, off, rfl, hbk, hcell⟩ := hv.at_ (by omega)
    obtain ⟨bk', off', rfl, hbk', hcell'⟩ := hu.at_ (by omega)
    go_enter Tryd.func6, Tryd.ntmps6
    go_wp2_with (first
      | (go_at_call 7; refine hK.mono ?_; rintro e w1 ⟨rfl, hb1⟩)
      | (go_at_call 16; with_reducible refine (hla _ hb1).mono ?_; rintro e w2 ⟨rfl, hb2⟩; have hbw2 := hb1.trans (hb2.mono hb1.size))
      | (go_at_call 16; with_reducible refine (hlb _ hbw2).mono ?_; rintro e w3 ⟨rfl, hb3⟩; have hbw3 := hbw2.trans (hb3.mono hbw2.size)))
    clear hK hla hlb
    go_loopw [7, 8, 9] (fun want ok i wr => ∃ k : Nat, k ≤ a.length ∧ i = .int .i64 k ∧ Below w.heap.size w wr ∧
      ((ok = .bool false ∧ want = .string ⟨#[]⟩ ∧ ∀ i (h : i < a.length), i < k → hasL b a[i] = false) ∨
       (ok = .bool true ∧ ∃ (q : Nat) (hq : q < a.length), q + 1 = k ∧ want = .string ⟨#[letC a[q]]⟩ ∧ hasL b a[q] = true ∧ ∀ i (h : i < a.length), i < q → hasL b a[i] = false))) (fun _ _ i _ => a.length - (intOf i).toNat)
    case atStart => exact ⟨0, Nat.zero_le _, rfl, hbw3, .inl ⟨rfl, rfl, fun i _ h => by omega⟩⟩
    case round =>
      obtain ⟨k, hk, rfl, hb, hor⟩ := hrel
      rcases hor with ⟨rfl, rfl, hno⟩ | ⟨rfl, q, hq, rfl, rfl, hh, hno⟩
      · by_cases hlt : k < a.length
        · have NO := Lib.hid hno
          clear hno
          go_wp2_with fail
          go_loopw [7, 8, 10] (fun want ok i wr => ∃ j : Nat, j ≤ b.length ∧ i = .int .i64 j ∧ Below w.heap.size w wr ∧
            ((ok = .bool false ∧ want = .string ⟨#[]⟩ ∧ hasL (b.take j) a[k] = false) ∨ (ok = .bool true ∧ want = .string ⟨#[letC a[k]]⟩ ∧ hasL (b.take j) a[k] = true))) (fun _ _ i _ => b.length - (intOf i).toNat)
          case atStart => exact ⟨0, Nat.zero_le _, rfl, hb, .inl ⟨rfl, rfl, rfl⟩⟩
          case round =>
            obtain ⟨j, hj, rfl, hbj, hor⟩ := hrel
            by_cases hjl : j < b.length
            · have x1 : wr.cell? ⟨bk, off + k, none⟩ = some (.int .u8 ((a[k]).toNat : Int)) := (hbj.cell (p := ⟨bk, off + k, none⟩) hbk).trans (hcell _ _ (bs_get hlt))
              have x2 : wr.cell? ⟨bk', off' + j, none⟩ = some (.int .u8 ((b[j]).toNat : Int)) := (hbj.cell (p := ⟨bk', off' + j, none⟩) hbk').trans (hcell' _ _ (bs_get hjl))
              have hkl : (k : Int) < a.length := by omega
              have hjl' : (j : Int) < b.length := by omega
              have HOR := Lib.hid hor
              clear hor
              go_wp2
              go_region
              all_goals (go_wp2_with (go_at_call 17; refine (lletter_any _ _).mono ?_; rintro e w5 ⟨rfl, hb5⟩))
              · rename_i h
                rw [mod_is] at h
                refine ⟨⟨j + 1, by omega, by go_num, hbj.drew.trans (hb5.mono hbj.size), .inr ⟨rfl, rfl, ?_⟩⟩, by simp [intOf]; omega⟩
                rw [hasL_snoc b _ hjl, h, Bool.or_true]
              · rename_i h
                rw [mod_is] at h
                refine ⟨⟨j + 1, by omega, by go_num, hbj.drew, ?_⟩, by simp [intOf]; omega⟩
                rw [hasL_snoc b _ hjl, h, Bool.or_false]
                exact HOR.out
            · obtain rfl : j = b.length := by omega
              rw [List.take_length] at hor
              rcases hor with ⟨rfl, rfl, hh⟩ | ⟨rfl, rfl, hh⟩
              · go_wp2
                refine ⟨⟨k + 1, by omega, by go_num, hbj, .inl ⟨rfl, rfl, fun i h hi => ?_⟩⟩, by simp [intOf]; omega⟩
                rcases Nat.lt_or_ge i k with h1 | h1
                · exact NO.out i h h1
                · obtain rfl : i = k := by omega
                  exact hh
              · go_wp2
                refine ⟨⟨k + 1, by omega, by go_num, hbj, .inr ⟨rfl, k, hlt, rfl, rfl, hh, NO.out⟩⟩, by simp [intOf]; omega⟩
        · obtain rfl : k = a.length := by omega
          rw [choose_miss ha1 hb1' (fun i h => hno i h h)] at hch
          clear hno
          go_wp2_with (go_at_call 11; refine (hch _ hb).mono ?_; rintro e w5 ⟨rfl, hb5⟩)
          go_ret
          exact ⟨rfl, hb.trans (hb5.mono hb.size)⟩
      · rw [choose_hit ha1 hb1' hq hh hno] at hch
        clear hh hno
        go_wp2_with (go_at_call 11; refine (hch _ hb).mono ?_; rintro e w5 ⟨rfl, hb5⟩)
        all_goals go_ret
        all_goals exact ⟨rfl, hb.trans (hb5.mono hb.size)⟩
theorem walk (v : Value) (a : List UInt8) (u : Value) (b : List UInt8) (W : World) (hsh : W.ShapedOpen Tryd.prog) (_ : laidMetH Tryd.prog Rows.textChoicesRow.laid W) (hv : Sl W W.heap.size v a.length (bs a)) (hu : Sl W W.heap.size u b.length (bs b)) :
    Calls Tryd.prog 6 #[v, u] W fun e w' => e = .returned (.bool true) ∧ Below W.heap.size W w' := by
  obtain ⟨m, hm⟩ := max_len hsh
  exact walk0 v u a b m W hv hu hm (cell_block hm)
theorem reads (os : Os) {H : Type} (enc : TypeId × Value → H) : ∃ places, DataW.whole enc Tryd.prog ((World.laidAll Tryd.prog os Rows.textChoicesRow.laid).forCall (fun _ _ => 0) ⟨#[], #[.slice none 0 0, .slice none 0 0], []⟩).memory Tryd.f6.params.toList Rows.textChoicesSpec.vars false (#[.slice none 0 0, .slice none 0 0] : Array Value).toList 8 = some ([.nil, .nil], [], places) :=
  ⟨[], by kernel_rfl⟩
set_option maxRecDepth 100000 in
theorem lifted (os : Os) (started : os.Started) (H : Type) (enc : TypeId × Value → H) (F : Stop.Interp) :
    ReturnsInHanded {} Tryd.checked os 6 .any ((OpenSpec.ofChange Rows.textChoicesSpec).preRow enc Tryd.prog Tryd.f6 Rows.textChoicesRow.domain false Rows.textChoicesRow.laid) (((OpenSpec.ofChange Rows.textChoicesSpec).at F).post enc Tryd.prog Tryd.f6 false true false false) := by
  obtain ⟨places, hx⟩ := reads os enc
  have hok : Input.okWideB Tryd.checked.prog ((World.laidAll Tryd.prog os Rows.textChoicesRow.laid).forCall (fun _ _ => 0) ⟨#[], #[.slice none 0 0, .slice none 0 0], []⟩) 6 ⟨#[], #[.slice none 0 0, .slice none 0 0], []⟩ = true := by kernel_rfl
  refine returnsInHanded_of_row (C := Tryd.checked) (s := OpenSpec.ofChange Rows.textChoicesSpec) own started (by kernel_rfl) Tryd.func6
    ⟨World.laidAll Tryd.prog os Rows.textChoicesRow.laid, fun _ _ => 0, ⟨#[], #[.slice none 0 0, .slice none 0 0], []⟩, World.laidAll_os _ _ _, World.shaped_of_ZipB (by kernel_rfl) (by kernel_rfl), (Input.okWide_of_okWideB (base := 0) hok).1, (Input.okWide_of_okWideB hok).2,
      OpenSpec.preRow_of_cond 8 hx (by kernel_rfl) (fun k hk => by cases hk) (by kernel_rfl) (by rw [MakeChecks.laidMetH_plain _ _ _ (by kernel_rfl)]; exact laidMet_laidAll _ (by kernel_rfl) (by kernel_rfl)),
      by simp only [Assume.holds]; exact ⟨by simp, by simp, fun _ => Modest.zero, by simp, by simp⟩⟩ ?_
  intro W base args ds gs before hval0 hW _ _ _ hL hsh _
  have hval : ∀ (j : Nat) t v, Tryd.f6.params[j]? = some t → args[j]? = some v → Value.okWide Tryd.prog W .any base t v := hval0
  have hW' := hW
  obtain ⟨p, q, hA0, hV, rfl, hfz, hnd⟩ := hW
  have hA : DataW.TrodAll enc Tryd.prog W 0 (fun _ => true) true Tryd.f6.params.toList args.toList ds p := hA0
  rw [Tryd.params6] at hA hval
  obtain ⟨v0, vs0, d0, ds0, p0, q0, hargs, rfl, rfl, h0, r0⟩ := trodAll_cons hA
  obtain ⟨v1, vs1, d1, ds1, p1, q1, rfl, rfl, rfl, h1, r1⟩ := trodAll_cons r0
  obtain ⟨rfl, rfl, rfl⟩ := trodAll_nil r1
  obtain rfl : args = #[v0, v1] := by cases args; simp_all
  obtain ⟨rfl, rfl⟩ := trodVars_none hV
  obtain ⟨l0, s0, e0⟩ := open_bytes Tryd.underlying35 Tryd.underlying5 (by kernel_rfl) (hval 0 35 v0 rfl rfl) h0
  obtain ⟨l1, s1, e1⟩ := open_bytes Tryd.underlying35 Tryd.underlying5 (by kernel_rfl) (hval 1 35 v1 rfl rfl) h1
  refine (walk v0 l0 v1 l1 W hsh hL s0 s1).mono fun e W' ⟨he, hb⟩ => ?_
  subst he
  exact ⟨_, rfl, law_post laidOut (by kernel_rfl) rfl (by kernel_rfl) Tryd.underlying4 rfl rfl rfl hW' hb⟩

theorem said : Rows.TextChoicesSaid :=
  OpenClaim.holds_of_cond 6 Tryd.f6 rfl rfl rfl rfl rfl rfl rfl ⟨rfl, rfl, rfl, rfl, rfl⟩ rfl rfl rfl rfl rfl (by kernel_rfl) Tryd.func6 (by kernel_rfl)
    (of_decide_eq_true (by kernel_rfl)) (by unfold Func.isWrapper; first | (rw [if_pos (by decide +kernel)]; kernel_rfl) | (rw [if_neg (by decide +kernel)]; exact ⟨rfl, rfl⟩))
    (fun os started H enc _ F => by rw [OpenClaim.pre_eq_preRow]; exact lifted os started H enc F)
theorem proved : Rows.TextChoicesCardSaid :=
  Claim7.holds_tied_plain_at .later [] _ _ _ _ said (fun _ h => by cases h) (by kernel_rfl) (fun _ h => by cases h) textChoices_row_tie rfl ⟨rfl, rfl⟩ (by kernel_rfl) rfl
    (fun f fn hf hfn => by
      obtain rfl : f = 6 := Option.some.inj ((show Tryd.prog.funcNamed "gemel/gemellaw3.TextChoices" = some 6 by kernel_rfl).symm.trans hf) |>.symm
      obtain rfl : fn = Tryd.f6 := (Option.some.inj (Tryd.func6.symm.trans hfn)).symm
      refine ⟨by kernel_rfl, fun j t ht => ?_⟩
      rw [Tryd.params6] at ht
      have hmem : t ∈ [35, 35] := by simpa using Array.mem_of_getElem? ht
      have hall : ([35, 35].all fun u => !Tryd.prog.wantsStandIn u) = true := by kernel_rfl
      exact (show Tryd.prog.wantsStandIn t = false by simpa using List.all_eq_true.1 hall t hmem))
    (by kernel_rfl)
end TextChoices
end Go.Proofs.YtikehhcbjmcfdaaDoor
