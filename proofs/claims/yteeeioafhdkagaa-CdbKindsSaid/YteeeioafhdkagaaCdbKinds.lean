/- CdbKinds: for any fields the statement's function tells true and turns nothing that was there. No condition. -/
import Derived.Test.YteeeioafhdkagaaCdK
import Derived.Test.YteeeioafhdkagaaCalm
namespace Go.Proofs.Yteeeioafhdkagaa
open Go.ChangeShapes Go.WideShapes Go.ChangeAt Go.RowKit
set_option linter.unusedVariables false
namespace Kinds
theorem laidOut : laidOutB Try.prog = true := by kernel_rfl
theorem own : ownKnob Try.prog.godebug = none := by kernel_rfl
theorem and_u8k (y : Nat) (h : y < 256) : bits .and .u8 (y : Int) 15 = ((y % 16 : Nat) : Int) := by
  have h1 : (BitVec.ofInt 8 (y : Int)).toNat = y := by
    rw [BitVec.ofInt_natCast, BitVec.toNat_ofNat]; exact Nat.mod_eq_of_lt h
  show IntKind.u8.wrap ((BitVec.ofInt 8 (y : Int) &&& BitVec.ofInt 8 15).toNat : Int) = _
  rw [BitVec.toNat_and, h1, show (BitVec.ofInt 8 15).toNat = 2 ^ 4 - 1 from rfl, Nat.and_two_pow_sub_one_eq_mod]
  rw [IntKind.wrap_u8]
  omega
theorem known_kind (k : Nat) (h1 : 1 ≤ k) (h2 : k ≤ 17) : (hdS k).2.2.2 = true := by
  have hk : k = 1 ∨ k = 2 ∨ k = 3 ∨ k = 4 ∨ k = 5 ∨ k = 6 ∨ k = 7 ∨ k = 8 ∨ k = 9 ∨ k = 10 ∨ k = 11 ∨ k = 12 ∨ k = 13 ∨ k = 14 ∨ k = 15 ∨ k = 16 ∨ k = 17 := by omega
  rcases hk with rfl | rfl | rfl | rfl | rfl | rfl | rfl | rfl | rfl | rfl | rfl | rfl | rfl | rfl | rfl | rfl | rfl <;> rfl
def strE (E : Nat → List UInt8) (k : Nat) : List Value := (List.range k).map fun i => .string ⟨(E (i + 1)).toArray⟩
theorem strE_succ (E : Nat → List UInt8) (k : Nat) : strE E (k + 1) = strE E k ++ [.string ⟨(E (k + 1)).toArray⟩] := by simp [strE, List.range_succ]
theorem strE_at (E : Nat → List UInt8) (k i : Nat) (h : i < k) : (strE E k)[i]? = some (.string ⟨(E (i + 1)).toArray⟩) := by simp [strE, h]
theorem strE_one (E : Nat → List UInt8) (k : Nat) : ∀ u ∈ strE E k, u.oneCell' = true := by
  intro u hu
  unfold strE at hu
  obtain ⟨i, _, rfl⟩ := List.mem_map.1 hu
  rfl
theorem own_below {a b : World} {base : Nat} {e : TypeId} {v : Value} {n : Nat} {xs : List Value} (h : a.ownsRow base e 1 v n xs) (hb : Below a.heap.size a b) : b.ownsRow base e 1 v n xs := by
  obtain ⟨hl, hc | ⟨g, cap, cur, rfl, hbs, hg, hn, hm, hs, ht⟩⟩ := h
  · obtain ⟨rfl, rfl⟩ := hc
    exact ⟨hl, .inl ⟨rfl, rfl⟩⟩
  · exact ⟨hl, .inr ⟨g, cap, cur, rfl, hbs, (hb.block g (Array.getElem?_eq_some_iff.1 hg).1).trans hg, hn, hm, hs, ht⟩⟩
theorem sl_grown {a b : World} {g c n : Nat} {xs : List Value} {row : Option Nat} (h : Sl a a.heap.size (.slice (some ⟨g, 0, none⟩) n c) n xs) (hg : a.grownBy b row) (hne : row ≠ some g) : Sl b b.heap.size (.slice (some ⟨g, 0, none⟩) n c) n xs := by
  obtain ⟨hl, A, c', e, h1, h2, h3⟩ := h
  injection e with e1 e2 e3
  subst e1; subst e3
  refine ⟨hl, _, _, rfl, h1, h2, fun hx => ?_⟩
  obtain ⟨b', off, ea, hlt, hc⟩ := h3 hx
  cases ea
  exact ⟨g, 0, rfl, Nat.lt_of_lt_of_le hlt hg.size, fun j u hu => (World.cell?_of_block (w := a) (hg.block g hlt (fun h => hne h.symm))).trans (hc j u hu)⟩
theorem cells_new1 (w : World) (t : TypeId) (a : Value) : ∀ (j : Nat) (u : Value), [a][j]? = some u → (w.alloc (.cells #[a] t)).cell? ((⟨w.heap.size, 0, none⟩ : Addr).add j) = some u := by
  intro j u hu
  rw [add_plain, Nat.zero_add]
  exact (cell_of_row _ _ j #[a] t (0, 0) (heap_alloc_new w _)).trans (by simpa using hu)
set_option maxHeartbeats 4000000 in
theorem walk (G N Y : Int) (f : Bool) (w : World) (hg1 : 0 ≤ G) (hg2 : G ≤ 4294967295) (hn1 : 0 ≤ N) (hn2 : N ≤ 255) (hy1 : 0 ≤ Y) (hy2 : Y ≤ 255) :
    Calls Try.prog 4 #[.int .u32 G, .int .u8 N, .int .u8 Y, .bool f] w fun e w' => e = .returned (.bool true) ∧ Below w.heap.size w w' := by
  obtain ⟨a, rfl⟩ : ∃ a : Nat, G = a := ⟨G.toNat, by omega⟩
  obtain ⟨n, rfl⟩ : ∃ n : Nat, N = n := ⟨N.toNat, by omega⟩
  obtain ⟨y, rfl⟩ : ∃ y : Nat, Y = y := ⟨Y.toNat, by omega⟩
  have hand := and_u8k y (by omega)
  have ht : y % 16 ≤ 15 := by omega
  generalize y % 16 = t at *
  have hwa : IntKind.i64.wrap (a : Int) = a := IntWalk.i64_in _ (by omega)
  have hwn : IntKind.i64.wrap (n : Int) = n := IntWalk.i64_in _ (by omega)
  have hwt : IntKind.i64.wrap (t : Int) = t := IntWalk.i64_in _ (by omega)
  have hT := fun k h1 h2 => tells_any k h1 h2 a n t f (by omega)
  have cE : ∀ k : Nat, 1 ≤ k → k ≤ 17 → ∀ W, Calls Try.prog 12 #[.agg #[.int .i64 k, .int .i64 a, .int .i64 n, .slice none 0 0, .int .u64 0, .int .u64 0, .int .i64 t, .bool f]] W fun e w' => ∃ g, e = .returned (.tuple #[.slice (some ⟨g, 0, none⟩) 16 16, .int .i64 0]) ∧ W.heap.size ≤ g ∧ Sl w' w'.heap.size (.slice (some ⟨g, 0, none⟩) 16 16) 16 (bs (encS k a n t f)) ∧ Below W.heap.size W w' := by
    intro k h1 h2 W
    exact Encode_at k a n t f (by omega) (by omega) ht (known_kind k h1 h2) W
  generalize hEE : (fun k : Nat => encS k a n t f) = E at *
  have hE : ∀ k : Nat, encS k a n t f = E k := fun k => by rw [← hEE]
  simp only [hE] at hT cE
  have cD : ∀ k : Nat, 1 ≤ k → k ≤ 17 → ∀ W v, Sl W W.heap.size v 16 (bs (E k)) → Calls Try.prog 13 #[v] W fun e w' => ∃ (a' n' t' : Nat) (f' : Bool), e = .returned (.tuple #[.agg #[.int .i64 k, .int .i64 a', .int .i64 n', .slice none 0 0, .int .u64 0, .int .u64 0, .int .i64 t', .bool f'], .agg #[.int .i64 0, .int .i64 0, .int .i64 0, .slice none 0 0, .int .i64 0], .bool true]) ∧ Below W.heap.size W w' := by
    intro k h1 h2 W v hs
    obtain ⟨e1, e2, e3⟩ := hT k h1 h2
    obtain ⟨⟨a', n', t', f'⟩, e4⟩ := Option.isSome_iff_exists.1 e3
    refine Calls.mono (Decode_ok v (E k) k a' n' t' f' W hs e1 e2 (by omega) ⟨16, e4⟩) ?_
    rintro e w' ⟨rfl, hb⟩
    exact ⟨a', n', t', f', rfl, hb⟩
  have hdis : ∀ i k, 1 ≤ i → i ≤ 17 → 1 ≤ k → k ≤ 17 → i ≠ k → (E i == E k) = false := by
    intro i k h1 h2 h3 h4 hne
    rw [beq_eq_false_iff_ne]
    intro he
    have e1 := (hT i h1 h2).2.1
    have e2 := (hT k h3 h4).2.1
    rw [he] at e1
    exact hne (e1.symm.trans e2)
  have n18 : ∀ W, Calls Try.prog 12 #[.agg #[.int .i64 18, .int .i64 0, .int .i64 0, .slice none 0 0, .int .u64 0, .int .u64 0, .int .i64 0, .bool false]] W fun e w' => e = .returned (.tuple #[.slice none 0 0, .int .i64 1]) ∧ Below W.heap.size W w' := fun W => Encode_no 18 0 0 0 false rfl W
  have n0 : ∀ W, Calls Try.prog 12 #[.agg #[.int .i64 0, .int .i64 0, .int .i64 0, .slice none 0 0, .int .u64 0, .int .u64 0, .int .i64 0, .bool false]] W fun e w' => e = .returned (.tuple #[.slice none 0 0, .int .i64 1]) ∧ Below W.heap.size W w' := fun W => Encode_no 0 0 0 0 false rfl W
  obtain ⟨i0, hi, hz0, hz1, hz2⟩ := info_parts (show (Try.prog.info? 9).map (fun i => (i.zero, i.size, i.bytes)) = some (some (.string .empty), 1, 16) by kernel_rfl)
  clear hT hE hEE
  go_enter Try.func4, Try.ntmps4
  go_wp2_with (go_at_call 9; with_reducible refine (known4_any _).mono ?_; rintro e w1 ⟨rfl, hb1⟩)
  go_loopw [9, 10] (fun lv i wr => ∃ k : Nat, k ≤ 17 ∧ i = .int .i64 (k + 1) ∧ wr.ownsRow w.heap.size 9 1 lv k (strE E k) ∧ Below w.heap.size w wr) (fun _ i _ => 18 - (intOf i).toNat)
  case atStart => exact ⟨0, by omega, rfl, World.ownsRow_nil _ _ _ _, hb1⟩
  case round =>
    obtain ⟨k, hk, rfl, hown, hbr⟩ := hrel
    by_cases hlt : k < 17
    · have hltZ : (k : Int) + 1 ≤ 17 := by omega
      have cE' : ∀ W, Calls Try.prog 12 #[.agg #[.int .i64 ((k : Int) + 1), .int .i64 a, .int .i64 n, .slice none 0 0, .int .u64 0, .int .u64 0, .int .i64 t, .bool f]] W _ := cE (k + 1) (by omega) (by omega)
      have cD' := cD (k + 1) (by omega) (by omega)
      have hdk := fun i (h : i < k) => hdis (i + 1) (k + 1) (by omega) (by omega) (by omega) (by omega) (by omega)
      generalize hEk : E (k + 1) = Ek at *
      clear cE cD hdis
      go_wp2_with (go_at_call 12; with_reducible refine (cE' _).mono ?_; rintro e w2 ⟨gb, rfl, hgb, hs2, hb2⟩)
      have hbr2 := hbr.trans (hb2.mono hbr.size)
      have hown2 := own_below hown hb2
      have hlvb := fun g h => (hown.lt g h).2
      have hsl := Sl.of_own hown2
      obtain ⟨Al, cl, rfl, hc1, hc2⟩ := hsl.form
      unfold maxLen at hc2
      clear hown hbr hb2
      go_loopw [13] (fun i wi => ∃ q : Nat, q ≤ k ∧ i = .int .i64 q ∧ Below w2.heap.size w2 wi) (fun i _ => k - (intOf i).toNat)
      case atStart => exact ⟨0, Nat.zero_le _, rfl, Below.refl _ _⟩
      case round =>
        obtain ⟨q, hq, rfl, hbi⟩ := hrel
        have kv : ∀ W, Below w2.heap.size w2 W → (convert 24 9 (.slice (some ⟨gb, 0, none⟩) 16 16)).run Try.prog W = .ok (.string ⟨Ek.toArray⟩) W := fun W hW =>
          bytes_str _ _ _ _ Try.underlying24 Try.underlying5 Try.underlying9 _ _ Ek _ (hs2.now hW)
        by_cases hql : q < k
        · have hqZ : (q : Int) < k := by omega
          obtain ⟨bl, ol, rfl, hbl, hcl⟩ := hsl.at_ (by omega)
          have x1 := (hbi.cell (p := ⟨bl, ol + q, none⟩) hbl).trans (hcl q _ (strE_at E k q hql))
          have hdq := hdk q hql
          have hblr : bl < wr.heap.size := Nat.lt_of_lt_of_le hbl hbi.size
          have hqc : (q : Int) < cl := by omega
          clear hcl hdk
          generalize E (q + 1) = Eq at *
          go_wp2_with fail
          apply calm_region [.is _, .is _, .is _, .is _, .is _, .is _, .is _] [[], [], [0, 1], [2], [], [4], [3, 5]] (by kernel_rfl) (by kernel_rfl) (by kernel_rfl) rfl
          intro f a1 ha1
          simp only [putL, Act.put, List.setIfInBounds_toArray, List.set_cons_succ, List.set_cons_zero] at ha1
          subst ha1
          refine ⟨?_, ?_⟩
          · refine AllCalm.cons (fun W hB hd => ?_) ?_
            · go_wp2_with (fail)
              exact CalmQ.mk rfl _ rfl (Below.refl _ _) rfl
            refine AllCalm.cons (fun W hB hd => ?_) ?_
            · go_wp2_with (fail)
              exact CalmQ.mk rfl _ rfl (Below.refl _ _) rfl
            refine AllCalm.cons (fun W hB hd => ?_) ?_
            · obtain ⟨h0, h1, -⟩ := hd
              have h0 : f 0 = _ := h0
              have h1 : f 1 = _ := h1
              rw [h0, h1]
              go_wp2_with (fail)
              exact CalmQ.mk rfl _ rfl (Below.refl _ _) rfl
            refine AllCalm.cons (fun W hB hd => ?_) ?_
            · obtain ⟨h2, -⟩ := hd
              have h2 : f 2 = _ := h2
              rw [h2]
              have y1 := (hB.cell (p := ⟨bl, ol + q, none⟩) hblr).trans x1
              go_wp2_with (fail)
              exact CalmQ.mk rfl _ rfl (Below.refl _ _) rfl
            refine AllCalm.cons (fun W hB hd => ?_) ?_
            · go_wp2_with (fail)
              exact CalmQ.mk rfl _ rfl (Below.refl _ _) rfl
            refine AllCalm.cons (fun W hB hd => ?_) ?_
            · obtain ⟨h4, -⟩ := hd
              have h4 : f 4 = _ := h4
              rw [h4]
              have kx := kv W (hbi.trans (hB.mono hbi.size))
              go_wp2_with (fail)
              exact CalmQ.mk rfl _ rfl (Below.refl _ _) rfl
            refine AllCalm.cons (fun W hB hd => ?_) ?_
            · obtain ⟨h3, h5, -⟩ := hd
              have h3 : f 3 = _ := h3
              have h5 : f 5 = _ := h5
              rw [h3, h5]
              go_wp2_with (fail)
              exact CalmQ.mk rfl _ rfl (Below.refl _ _) rfl
            exact AllCalm.nil
          · intro W hB hT
            obtain ⟨h0, h1, h2, h3, h4, h5, h6, -⟩ := hT
            have h0 : f 0 = _ := h0
            have h1 : f 1 = _ := h1
            have h2 : f 2 = _ := h2
            have h3 : f 3 = _ := h3
            have h4 : f 4 = _ := h4
            have h5 : f 5 = _ := h5
            have h6 : f 6 = _ := h6
            rw [h0, h1, h2, h3, h4, h5, h6]
            clear h0 h1 h2 h3 h4 h5 h6
            go_wp2_with fail
            refine ⟨⟨q + 1, by omega, by go_num, hbi.trans (hB.mono hbi.size)⟩, by simp [intOf]; omega⟩
        · obtain rfl : q = k := by omega
          have kx := kv wr hbi
          have hown3 := own_below hown2 hbi
          have hs3 := hs2.now hbi
          have hbr3 := hbr2.trans (hbi.mono hbr2.size)
          have hal : w.heap.size ≤ (wr.alloc (.cells #[.string ⟨Ek.toArray⟩] 9)).heap.size := (hbr3.alloc hbr3.size _).size
          have hnw := cells_new1 wr 9 (.string ⟨Ek.toArray⟩)
          have hqZ : ¬ (q : Int) < q := by omega
          have hstr := strE_succ E q
          rw [hEk] at hstr
          clear hdk hsl kv
          go_wp2_with (first
            | (at_builtin; (with_reducible refine wpList_append_own _ rfl (.tmp 61) (.tmp 64) _ rfl w.heap.size 9 i0 _ 1 16 Try.underlying30 hi hz0 hz1 hz2 rfl (by decide) (.slice Al q cl) q (strE E q) rfl (hown3.alloc _) ⟨wr.heap.size, 0, none⟩ 1 1 [.string ⟨Ek.toArray⟩] rfl rfl hnw (by simp [Value.oneCell']) (by unfold maxLen; omega) (by omega) hal ?_; intro v1 w3 ho1 hg1 _; have hb3 := below_own (hbr3.alloc hbr3.size _) hg1 hal (fun k hk => (hown3.lt k hk).1); have hs4 := sl_grown (hs3.now ((Below.refl _ _).alloc (Nat.le_refl _) _)) hg1 (fun h => absurd (Nat.lt_of_lt_of_le (hlvb _ h) hgb) (Nat.lt_irrefl _))))
            | (go_at_call 13; with_reducible refine (cD' _ _ hs4).mono ?_; rintro e w4 ⟨a', n', t', f', rfl, hb4⟩))
          have hend := (hb3.trans (hb4.mono hb3.size))
          have hown4 := own_below ho1 hb4
          have hA := (hend.alloc hend.size (.cells #[.int .i64 ((q : Int) + 1), .int .i64 a', .int .i64 n', .slice none 0 0, .int .u64 0, .int .u64 0, .int .i64 t', .bool f'] 27)).alloc (Nat.le_trans hend.size (by simp)) (.cells #[.int .i64 0, .int .i64 0, .int .i64 0, .slice none 0 0, .int .i64 0] 35)
          refine ⟨⟨q + 1, by omega, by go_num, ?_, hA⟩, by simp [intOf]; omega⟩
          rw [hstr]
          exact (hown4.alloc _).alloc _
    · obtain rfl : k = 17 := by omega
      go_wp2_with (first
        | (go_at_call 12; with_reducible refine (n18 _).mono ?_; rintro e w2 ⟨rfl, hb2⟩; have hb12 := hbr.trans (hb2.mono hbr.size))
        | (go_at_call 12; with_reducible refine (n0 _).mono ?_; rintro e w3 ⟨rfl, hb3⟩))
      go_ret
      exact ⟨rfl, hb12.trans (hb3.mono hb12.size)⟩
set_option maxRecDepth 100000 in
theorem lifted (os : Os) (started : os.Started) (H : Type) (enc : TypeId × Value → H) :
    ReturnsInHanded {} Try.checked os 4 .any (Rows.cdbKindsSpec.pre6 enc Try.prog Try.f4 Rows.cdbKindsRow.domain false) (Rows.cdbKindsSpec.post enc Try.prog Try.f4 false true false false) := by
  refine returnsInHanded_of_change (C := Try.checked) own started (by kernel_rfl) Try.func4
    (ChangeSpec.witness6 (enc := enc) (C := Try.checked) false ⟨#[], #[.int .u32 0, .int .u8 0, .int .u8 0, .bool false], []⟩ 8 (by kernel_rfl) (by kernel_rfl) (by kernel_rfl) (by kernel_rfl)) ?_
  intro W base args ds gs before hval0 hW hcnd _
  have hval : ∀ (j : Nat) t v, Try.f4.params[j]? = some t → args[j]? = some v → Value.okWide Try.prog W .any base t v := hval0
  have hW' := hW
  obtain ⟨p, q, hA0, hV, rfl, hfz, hnd⟩ := hW
  have hA : DataW.TrodAll enc Try.prog W 0 (fun _ => true) true Try.f4.params.toList args.toList ds p := hA0
  rw [Try.params4] at hA hval
  obtain ⟨v0, vs0, d0, ds0, p0, q0, hargs, rfl, rfl, h0, r0⟩ := trodAll_cons hA
  obtain ⟨v1, vs1, d1, ds1, p1, q1, rfl, rfl, rfl, h1, r1⟩ := trodAll_cons r0
  obtain ⟨v2, vs2, d2, ds2, p2, q2, rfl, rfl, rfl, h2, r2⟩ := trodAll_cons r1
  obtain ⟨v3, vs3, d3, ds3, p3, q3, rfl, rfl, rfl, h3, r3⟩ := trodAll_cons r2
  obtain ⟨rfl, rfl, rfl⟩ := trodAll_nil r3
  obtain rfl : args = #[v0, v1, v2, v3] := by cases args; simp_all
  obtain ⟨rfl, rfl⟩ := trodVars_none hV
  obtain ⟨a0, rfl, _, _, w0⟩ := open_int Try.underlying29 (hval 0 29 v0 rfl rfl) h0
  have b0 := bounds_u32 w0
  obtain ⟨a1, rfl, _, _, w1⟩ := open_int Try.underlying5 (hval 1 5 v1 rfl rfl) h1
  have b1 := bounds_u8 w1
  obtain ⟨a2, rfl, _, _, w2⟩ := open_int Try.underlying5 (hval 2 5 v2 rfl rfl) h2
  have b2 := bounds_u8 w2
  obtain ⟨a3, rfl, _, _⟩ := open_bool Try.underlying4 (hval 3 4 v3 rfl rfl) h3
  refine (walk a0 a1 a2 a3 W b0.1 b0.2 b1.1 b1.2 b2.1 b2.2).mono fun e W' ⟨he, hb⟩ => ?_
  subst he
  exact ⟨_, rfl, law_post laidOut (by kernel_rfl) rfl (by kernel_rfl) Try.underlying4 rfl rfl rfl hW' hb⟩

theorem proved : Rows.CdbKindsSaid :=
  OpenClaim.holds_of_wide 4 Try.f4 rfl rfl rfl rfl rfl rfl rfl ⟨rfl, rfl, rfl, rfl, rfl⟩ rfl rfl rfl rfl rfl (by kernel_rfl) Try.func4 (by kernel_rfl)
    (of_decide_eq_true (by kernel_rfl)) (by unfold Func.isWrapper; first | (rw [if_pos (by decide +kernel)]; kernel_rfl) | (rw [if_neg (by decide +kernel)]; exact ⟨rfl, rfl⟩))
    (fun os started H enc _ => lifted os started H enc)
end Kinds
end Go.Proofs.Yteeeioafhdkagaa
