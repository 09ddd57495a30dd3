/- The document's timers: what lies in memory; at, Left: contracts. -/
import Derived.Test.YtohbkepjbaigdaaTmP
namespace Go.Proofs.Ytohbkepjbaigdaa
open Go.ChangeShapes Go.WideShapes Go.ChangeAt Go.RowKit Go.Lib
set_option linter.unusedVariables false
theorem own_empty (W : World) (B t n : Nat) (hB : B ≤ W.heap.size) : (W.alloc (.cells #[] t)).ownsRow B t n (.slice (some ⟨W.heap.size, 0, none⟩) 0 0) 0 [] :=
  ⟨by simp, .inr ⟨W.heap.size, 0, #[], rfl, hB, heap_alloc_new W _, Nat.le_refl _, by unfold maxLen; omega, by simp, by simp⟩⟩
/-- The cells of a row, from a place on. -/
theorem own_cells {w : World} {B e sz n c g : Nat} {xs : List Value} (ho : w.ownsRow B e sz (.slice (some ⟨g, 0, none⟩) n c) n xs) : ∀ k u, xs[k]? = some u → w.cell? ⟨g, k, none⟩ = some u := by
  intro k u hk
  rcases ho.2 with ⟨hv, h0⟩ | ⟨g', cap, cur, hv, hBg, hg, hnc, hcm, hcs, htk⟩
  · cases hv
  simp only [Value.slice.injEq, Option.some.injEq, Addr.mk.injEq, and_true, true_and] at hv
  obtain ⟨rfl, rfl⟩ := hv
  have hkl := (List.getElem?_eq_some_iff.1 hk).1
  rw [ho.1] at hkl
  rw [cell_of_row w g k cur _ _ hg, ← hk, ← htk, List.getElem?_take, if_pos hkl, Array.getElem?_toList]
section
variable {P : Program} (w : World)
/-- append onto a row of the call's own, the other slice empty, maybe nil, or not. -/
theorem wp_append_any {o : Oper} {a : Act} {K : Act → World → Prop} {Q : Exit → Act → World → Prop} (s x : Operand) (t : TypeId)
    (ho : o.op = .call { callee := .builtin .append, args := #[s, x], argTypes := #[t, t] })
    (base : Nat) (e : TypeId) (i : TypeInfo) (z : Value) (size bytes : Nat) (ht : P.underlying t = some (.slice e)) (hi : P.info? e = some i) (hz : i.zero = some z)
    (hsize : i.size = size) (hby : i.bytes = bytes) (hzs : z.cells.size = size) (hsz : 0 < size)
    (v : Value) (n : Nat) (xs : List Value) (hs : a.eval s = v) (hown : w.ownsRow base e size v n xs)
    (A : Option Addr) (m c : Nat) (news : List Value) (hx : a.eval x = .slice A m c) (hl : news.length = m * size) (hnews : ∀ ad, A = some ad → ∀ j u, news[j]? = some u → w.cell? (ad.add j) = some u) (hnil : A = none → m = 0) (h1 : ∀ u ∈ news, u.oneCell' = true)
    (h63 : n + m ≤ maxLen) (hbytes : (n + m) * bytes ≤ 140737488355328) (hbase : base ≤ w.heap.size)
    (h : ∀ v' w', w'.ownsRow base e size v' (n + m) (xs ++ news) → w.grownBy w' v.ownBlock → (v'.ownBlock = v.ownBlock ∨ v'.ownBlock = some w.heap.size) → K (a.put o.dst v') w') : o.wp P a w K Q := by
  cases A with
  | some ad => exact wp_append_at w s x t ho base e i z size bytes ht hi hz hsize hby hzs hsz v n xs hs hown ad m c news hx hl (hnews ad rfl) h1 h63 hbytes hbase h
  | none =>
    obtain rfl := hnil rfl
    obtain rfl : news = [] := List.eq_nil_of_length_eq_zero (by omega)
    have hrun : (Builtin.append_ #[t, t] o.type #[v, .slice none 0 c]).run P w = .ok v w := by
      rcases hown.2 with ⟨rfl, _⟩ | ⟨g, cap, cur, rfl, _, _, hnc, _⟩
      · simp [Builtin.append_, run_underlying ht, sizeOf, typeInfo, hi, Builtin.lenOf, Builtin.firstCells]
      · simp [Builtin.append_, run_underlying ht, sizeOf, typeInfo, hi, Builtin.lenOf, Builtin.firstCells, hnc, storeCells]
    unfold Oper.wp execOp
    simp only [ho, resolve, invoke, builtin, Sem.run_bind, Sem.run_pure, Result.andThen_ok, List.map_toArray, List.map_cons, List.map_nil, hs, hx, hrun]
    exact h v w (by simpa using hown) ⟨rfl, rfl, rfl, Nat.le_refl _, fun _ _ _ => rfl⟩ (.inl rfl)
end
theorem rcell_any {w : World} {B n c : Nat} {A : Option Addr} {xs : List Value} {e sz : Nat} (ho : w.ownsRow B e sz (.slice A n c) n xs) : (∀ ad, A = some ad → ∀ j u, xs[j]? = some u → w.cell? (ad.add j) = some u) ∧ (A = none → n = 0) := by
  constructor
  · rintro ad rfl j u hu
    rcases ho.2 with ⟨hv, h0⟩ | ⟨g, cap, cur, hv, hBg, hg, hnc, hcm, hcs, htk⟩
    · cases hv
    · have hv2 := hv
      simp only [Value.slice.injEq, Option.some.injEq] at hv2
      obtain ⟨rfl, _, rfl⟩ := hv2
      rw [add_plain, Nat.zero_add]
      exact own_cells ho j u hu
  · rintro rfl
    rcases ho.2 with ⟨hv, h0⟩ | ⟨g, cap, cur, hv, hBg, hg, hnc, hcm, hcs, htk⟩
    · exact h0
    · cases hv
section
variable {P : Program} (w : World)
/-- append onto an empty row without room: nothing old turns. -/
theorem wpList_append_empty {ops : Array Oper} {rest : List Oper} {o : Oper} {a : Act} {Q : Exit → Act → World → Prop} (hgd : o.guard = none) (s x : Operand) (t : TypeId)
    (ho : o.op = .call { callee := .builtin .append, args := #[s, x], argTypes := #[t, t] })
    (base : Nat) (e : TypeId) (i : TypeInfo) (z : Value) (size bytes : Nat) (ht : P.underlying t = some (.slice e)) (hi : P.info? e = some i) (hz : i.zero = some z)
    (hsize : i.size = size) (hby : i.bytes = bytes) (hzs : z.cells.size = size) (hsz : 0 < size)
    (g : Nat) (hs : a.eval s = .slice (some ⟨g, 0, none⟩) 0 0) (hg : w.heap[g]? = some (.cells #[] e (0, 0))) (hbg : base ≤ g)
    (A : Option Addr) (m c : Nat) (news : List Value) (hx : a.eval x = .slice A m c) (hl : news.length = m * size) (hnews : ∀ ad, A = some ad → ∀ j u, news[j]? = some u → w.cell? (ad.add j) = some u) (hnil : A = none → m = 0) (h1 : ∀ u ∈ news, u.oneCell' = true)
    (h63 : m ≤ maxLen) (hbytes : m * bytes ≤ 140737488355328) (hbase : base ≤ w.heap.size)
    (h : ∀ v' w', w'.ownsRow base e size v' m news → Below w.heap.size w w' → wpList P ops Q rest (a.put o.dst v') w') : wpList P ops Q (o :: rest) a w := by
  have hown : w.ownsRow base e size (.slice (some ⟨g, 0, none⟩) 0 0) 0 [] := ⟨by simp, .inr ⟨g, 0, #[], rfl, hbg, hg, Nat.le_refl _, by unfold maxLen; omega, by simp, by simp⟩⟩
  have key : ∃ v' w', (Builtin.append_ #[t, t] o.type #[.slice (some ⟨g, 0, none⟩) 0 0, .slice A m c]).run P w = .ok v' w' ∧ w'.ownsRow base e size v' m news ∧ Below w.heap.size w w' := by
    rcases Nat.eq_zero_or_pos m with rfl | hm
    · obtain rfl : news = [] := List.eq_nil_of_length_eq_zero (by omega)
      refine ⟨_, w, ?_, hown, Below.refl _ _⟩
      cases A <;> simp [Builtin.append_, run_underlying ht, sizeOf, typeInfo, hi, Builtin.lenOf, Builtin.firstCells, loadCells, loadCellsFrom, storeCells]
    · cases A with
      | none => have := hnil rfl; omega
      | some ad =>
        subst hsize
        subst hby
        have hr1 := run_append_grow (P := P) w t o.type e i z ht hi hz ⟨g, 0, none⟩ 0 0 [] (by simp) (by simp) ad m c news hl (hnews ad rfl) (by omega) (by simp only [maxLen] at h63; omega) (growslice_fits (by omega) (by simpa using hbytes))
        obtain ⟨v', w', hr2, ho2, _⟩ := run_append_own_at (P := P) w base t o.type e i z i.size i.bytes ht hi hz rfl rfl hzs hsz _ 0 [] hown ad m c news hl (hnews ad rfl) h1 (by simpa using h63) (by simpa using hbytes) hbase
        rw [hr1] at hr2
        injection hr2 with e1 e2
        subst e1; subst e2
        refine ⟨_, _, hr1, ?_, ((Below.refl _ _).drew).alloc (Nat.le_refl _) _⟩
        simpa using ho2
  obtain ⟨v', w', hr, h2, h3⟩ := key
  refine wpList_plain hgd fun K hK => ?_
  unfold Oper.wp execOp
  simp only [ho, resolve, invoke, builtin, Sem.run_bind, Sem.run_pure, Result.andThen_ok, List.map_toArray, List.map_cons, List.map_nil, hs, hx, hr]
  exact hK _ _ (h v' w' h2 h3)
end
/-- The document's timers in block R, those that are set in u's row. -/
structure RInv (w : World) (B R : Nat) (u : Value) (L : List One) (now : Int) : Prop where
  base : B ≤ R
  mem : Mem w R 29 #[u, .int .i64 now]
  row : w.ownsRow B 56 2 u L.length (tflat L)
section
variable {w w' : World} {B R : Nat} {u : Value} {L : List One} {now : Int}
theorem RInv.below (hn : RInv w B R u L now) (hb : Below w.heap.size w w') : RInv w' B R u L now := ⟨hn.base, hn.mem.below hb hn.mem.lt, owns_below hn.row hb⟩
theorem RInv.eff {S : Nat → Prop} (hn : RInv w B R u L now) (hb : Eff S w w') (h1 : ¬ S R) (h2 : ∀ k, u.ownBlock = some k → ¬ S k) : RInv w' B R u L now := ⟨hn.base, hn.mem.eff hb h1, owns_eff hn.row hb h2⟩
theorem RInv.apart (hn : RInv w B R u L now) : u.ownBlock ≠ some R := fun hk => (own_tag hn.row R hk).2.2.ne (mem_tag hn.mem) (by decide) rfl
theorem RInv.parts (hn : RInv w B R u L now) : ∃ A c, u = .slice A L.length c ∧ L.length ≤ c ∧ c ≤ maxLen := own_form hn.row
theorem RInv.at_ {A : Option Addr} {c : Nat} (hn : RInv w B R (.slice A L.length c) L now) {i : Nat} (hi : i < L.length) : ∃ g, A = some ⟨g, 0, none⟩ ∧ B ≤ g ∧ g ≠ R := by
  rcases hn.row.2 with ⟨hv, h0⟩ | ⟨g, cap, cur, hv, hBg, hg, hnc, hcm, hcs, htk⟩
  · omega
  · simp only [Value.slice.injEq] at hv
    obtain ⟨rfl, _, rfl⟩ := hv
    refine ⟨g, rfl, hBg, ?_⟩
    rintro rfl
    exact hn.apart rfl
theorem RInv.cells {g c : Nat} (hn : RInv w B R (.slice (some ⟨g, 0, none⟩) L.length c) L now) {i : Nat} (hi : i < L.length) : w.cell? ⟨g, i * 2, none⟩ = some (.int .i64 (pl L i).1) ∧ w.cell? ⟨g, i * 2 + 1, none⟩ = some (.int .i64 (pl L i).2) := by
  have h := tflat_at L i hi
  exact ⟨by rw [hn.row.cellAt _ (by omega)]; exact h.1, by rw [hn.row.cellAt _ (by omega)]; exact h.2⟩
end
theorem tmr_info : (Try.prog.info? 56).map (fun i => (i.zero, i.size, i.bytes)) = some (some (.agg #[.int .i64 0, .int .i64 0]), 2, 16) := by kernel_rfl
/-- An id's place, or where it would be. -/
def rk (L : List One) (id : Int) : Nat := L.findIdx (fun x => decide (id ≤ x.1))
theorem rk_le (L : List One) (id : Int) : rk L id ≤ L.length := List.findIdx_le_length
theorem rk_is {L : List One} {id : Int} (h : rk L id < L.length) : id ≤ (pl L (rk L id)).1 := by
  have := List.findIdx_getElem (xs := L) (p := fun x : One => decide (id ≤ x.1)) (w := h)
  rw [pl_in h]
  exact of_decide_eq_true this
theorem rk_not {L : List One} {id : Int} {j : Nat} (h : j < rk L id) : (pl L j).1 < id := by
  have h2 := List.not_of_lt_findIdx (xs := L) (p := fun x : One => decide (id ≤ x.1)) h
  rw [pl_in (Nat.lt_of_lt_of_le h (rk_le L id))]
  have := of_decide_eq_false h2
  omega
/-- Is the id there? -/
def rhas (L : List One) (id : Int) : Bool := decide (rk L id < L.length ∧ (pl L (rk L id)).1 = id)
set_option maxRecDepth 100000 in
set_option maxHeartbeats 1000000 in
theorem at_any (B R : Nat) (u : Value) (L : List One) (now id : Int) (w : World) (hl : L.length ≤ 1000) (hn : RInv w B R u L now) :
    Calls Try.prog 26 #[.pointer (some ⟨R, 0, none⟩), .int .i64 id] w fun e w' => e = .returned (.tuple #[.int .i64 (rk L id : Nat), .bool (rhas L id)]) ∧ Below w.heap.size w w' := by
  obtain ⟨A, c, rfl, hc1, hc2⟩ := hn.parts
  have hlx : (L.length : Int) ≤ 1000 := by omega
  have hrk := rk_le L id
  have hnot := fun j => rk_not (L := L) (id := id) (j := j)
  have his := rk_is (L := L) (id := id)
  have hx0 := hn.mem.cell 0
  unfold rhas
  generalize rk L id = m at *
  go_enter Try.func26, Try.ntmps26
  go_wp2
  go_loopw [6] (fun i wr => ∃ k : Nat, k ≤ m ∧ i = .int .i64 k ∧ w = wr) (fun i _ => m - (intOf i).toNat)
  case atStart => exact ⟨0, by omega, rfl, rfl⟩
  case round =>
    obtain ⟨k, hk, rfl, rfl⟩ := hrel
    by_cases hkm : k < m
    · have hkx : (k : Int) < (L.length : Int) := by omega
      obtain ⟨g, rfl, hBg, hgX⟩ := hn.at_ (i := k) (by omega)
      have hq1 := (hn.cells (i := k) (by omega)).1
      have hlt := hnot k hkm
      clear hnot his
      generalize (pl L k).1 = p at *
      go_wp2
      exact ⟨⟨k + 1, by omega, by simp, by trivial⟩, by simp [intOf]; omega⟩
    · obtain rfl : k = m := by omega
      have hF : ∀ W, Below w.heap.size w W → W.cell? ⟨R, 0, none⟩ = some (.slice A L.length c) := fun W hW => (hn.below hW).mem.cell 0
      have hdr : Below w.heap.size w w.drew := (Below.refl _ _).drew
      by_cases hkl : k < L.length
      · have hkx : (k : Int) < (L.length : Int) := by omega
        obtain ⟨g, rfl, hBg, hgX⟩ := hn.at_ (i := k) (by omega)
        have hq1 := (hn.cells (i := k) (by omega)).1
        have hge := his hkl
        have hG : ∀ W, Below w.heap.size w W → W.cell? ⟨g, k * 2, none⟩ = some (.int .i64 (pl L k).1) := fun W hW => ((hn.below hW).cells (i := k) (by omega)).1
        clear hnot his
        generalize hpe : (pl L k).1 = p at *
        have HPE := Lib.hid hpe
        clear hpe
        have hlt : ¬ p < id := by omega
        go_wp2
        refine wp_region_any (by kernel_rfl) ?_
        change wpAny _ _ _ _ _ _ _ (World.drew _)
        refine wpAny_take (i := 0) (oi := { dst := some 28, op := Op.move (Operand.tmp 6), type := 3, pos := "ref.go:29", after := #[], guard := none }) (v := (.int .i64 (k : Nat))) rfl (by kernel_rfl) (by kernel_rfl) (by kernel_rfl) (fun _ _ _ h => h) (Or.inl ⟨by rfl, by intro w; go_simp⟩) ?_
        try dsimp only [Act.put]
        try simp only [List.setIfInBounds_toArray, List.set_cons_succ, List.set_cons_zero]
        apply calm_tailK 21 [0] [.is (.int .i64 (k : Nat)), .is _, .is _, .is _, .is _, .is _, .is _, .is _, .is _, .is _, .is _, .is _, .is _, .is _, .is _, .is _, .is _, .is _, .is _, .is _, .is _] [[], [], [], [2], [3], [4], [5], [1, 6], [7], [8], [9, 8], [10, 8], [11, 8], [8], [12, 13, 8], [14, 8], [15, 8], [8], [16, 17, 8], [8, 18], [0, 8, 0]] (by kernel_rfl) (by kernel_rfl) rfl (by decide) (by intro i hi o ho; obtain rfl := List.mem_singleton.1 hi; obtain rfl := Option.some.inj ho; exact rfl)
        intro f a1 ha1
        simp only [List.take_succ_cons, List.take_zero, putL, Act.put, List.setIfInBounds_toArray, List.set_cons_succ, List.set_cons_zero] at ha1
        subst ha1
        refine ⟨?_, ?_⟩
        · refine AllCalm.cons (fun W hB hd => ?_) ?_
          · go_wp2_with (fail)
            exact CalmQ.mk rfl _ rfl (Below.refl _ _) rfl
          refine AllCalm.cons (fun W hB hd => ?_) ?_
          · go_wp2_with (fail)
            exact CalmQ.mk rfl _ rfl (Below.refl _ _) rfl
          refine AllCalm.cons (fun W hB hd => ?_) ?_
          · go_wp2_with (fail)
            exact CalmQ.mk rfl _ rfl (Below.refl _ _) rfl
          refine AllCalm.cons (fun W hB hd => ?_) ?_
          · obtain ⟨h2, -⟩ := hd
            have h2 : f 2 = _ := h2
            rw [h2]
            go_wp2_with (fail)
            exact CalmQ.mk rfl _ rfl (Below.refl _ _) rfl
          refine AllCalm.cons (fun W hB hd => ?_) ?_
          · obtain ⟨h3, -⟩ := hd
            have h3 : f 3 = _ := h3
            rw [h3]
            go_wp2_with (fail)
            exact CalmQ.mk rfl _ rfl (Below.refl _ _) rfl
          refine AllCalm.cons (fun W hB hd => ?_) ?_
          · obtain ⟨h4, -⟩ := hd
            have h4 : f 4 = _ := h4
            rw [h4]
            have kx := hF W (hdr.trans (hB.mono hdr.size))
            go_wp2_with (fail)
            exact CalmQ.mk rfl _ rfl (Below.refl _ _) rfl
          refine AllCalm.cons (fun W hB hd => ?_) ?_
          · obtain ⟨h5, -⟩ := hd
            have h5 : f 5 = _ := h5
            rw [h5]
            go_wp2_with (fail)
            exact CalmQ.mk rfl _ rfl (Below.refl _ _) rfl
          refine AllCalm.cons (fun W hB hd => ?_) ?_
          · obtain ⟨h1, h6, -⟩ := hd
            have h1 : f 1 = _ := h1
            have h6 : f 6 = _ := h6
            rw [h1, h6]
            go_wp2_with (fail)
            exact CalmQ.mk rfl _ rfl (Below.refl _ _) rfl
          refine AllCalm.cons (fun W hB hd => ?_) ?_
          · obtain ⟨h7, -⟩ := hd
            have h7 : f 7 = _ := h7
            rw [h7]
            go_wp2_with (fail)
            exact CalmQ.mk rfl _ rfl (Below.refl _ _) rfl
          refine AllCalm.cons (fun W hB hd => ?_) ?_
          · obtain ⟨h8, -⟩ := hd
            have h8 : f 8 = _ := h8
            rw [h8]
            go_wp2_with (fail)
            exact CalmQ.mk rfl _ rfl (Below.refl _ _) rfl
          refine AllCalm.cons (fun W hB hd => ?_) ?_
          · obtain ⟨h9, h8, -⟩ := hd
            have h9 : f 9 = _ := h9
            have h8 : f 8 = _ := h8
            rw [h9, h8]
            go_wp2_with (fail)
            exact CalmQ.mk rfl _ rfl (Below.refl _ _) rfl
          refine AllCalm.cons (fun W hB hd => ?_) ?_
          · obtain ⟨h10, h8, -⟩ := hd
            have h10 : f 10 = _ := h10
            have h8 : f 8 = _ := h8
            rw [h10, h8]
            go_wp2_with (fail)
            exact CalmQ.mk rfl _ rfl (Below.refl _ _) rfl
          refine AllCalm.cons (fun W hB hd => ?_) ?_
          · obtain ⟨h11, h8, -⟩ := hd
            have h11 : f 11 = _ := h11
            have h8 : f 8 = _ := h8
            rw [h11, h8]
            have kx := hF W (hdr.trans (hB.mono hdr.size))
            go_wp2_with (fail)
            exact CalmQ.mk rfl _ rfl (Below.refl _ _) rfl
          refine AllCalm.cons (fun W hB hd => ?_) ?_
          · obtain ⟨h8, -⟩ := hd
            have h8 : f 8 = _ := h8
            rw [h8]
            go_wp2_with (fail)
            exact CalmQ.mk rfl _ rfl (Below.refl _ _) rfl
          refine AllCalm.cons (fun W hB hd => ?_) ?_
          · obtain ⟨h12, h13, h8, -⟩ := hd
            have h12 : f 12 = _ := h12
            have h13 : f 13 = _ := h13
            have h8 : f 8 = _ := h8
            rw [h12, h13, h8]
            go_wp2_with (fail)
            exact CalmQ.mk rfl _ rfl (Below.refl _ _) rfl
          refine AllCalm.cons (fun W hB hd => ?_) ?_
          · obtain ⟨h14, h8, -⟩ := hd
            have h14 : f 14 = _ := h14
            have h8 : f 8 = _ := h8
            rw [h14, h8]
            go_wp2_with (fail)
            exact CalmQ.mk rfl _ rfl (Below.refl _ _) rfl
          refine AllCalm.cons (fun W hB hd => ?_) ?_
          · obtain ⟨h15, h8, -⟩ := hd
            have h15 : f 15 = _ := h15
            have h8 : f 8 = _ := h8
            rw [h15, h8]
            have kx := hG W (hdr.trans (hB.mono hdr.size))
            go_wp2_with (fail)
            exact CalmQ.mk rfl _ rfl (Below.refl _ _) rfl
          refine AllCalm.cons (fun W hB hd => ?_) ?_
          · obtain ⟨h8, -⟩ := hd
            have h8 : f 8 = _ := h8
            rw [h8]
            go_wp2_with (fail)
            exact CalmQ.mk rfl _ rfl (Below.refl _ _) rfl
          refine AllCalm.cons (fun W hB hd => ?_) ?_
          · obtain ⟨h16, h17, h8, -⟩ := hd
            have h16 : f 16 = _ := h16
            have h17 : f 17 = _ := h17
            have h8 : f 8 = _ := h8
            rw [h16, h17, h8]
            go_wp2_with (fail)
            exact CalmQ.mk rfl _ rfl (Below.refl _ _) rfl
          refine AllCalm.cons (fun W hB hd => ?_) ?_
          · obtain ⟨h8, h18, -⟩ := hd
            have h8 : f 8 = _ := h8
            have h18 : f 18 = _ := h18
            rw [h8, h18]
            go_wp2_with (fail)
            exact CalmQ.mk rfl _ rfl (Below.refl _ _) rfl
          refine AllCalm.cons (fun W hB hd => ?_) ?_
          · obtain ⟨h0, h8, -, -⟩ := hd
            have h0 : f 0 = _ := h0
            have h8 : f 8 = _ := h8
            rw [h0, h8]
            go_wp2_with (fail)
            exact CalmQ.mk rfl _ rfl (Below.refl _ _) rfl
          exact AllCalm.nil
        · intro W hB hT
          obtain ⟨h0, h1, h2, h3, h4, h5, h6, h7, h8, h9, h10, h11, h12, h13, h14, h15, h16, h17, h18, h19, h20, -⟩ := hT
          have h0 : f 0 = _ := h0
          have h1 : f 1 = _ := h1
          have h2 : f 2 = _ := h2
          have h3 : f 3 = _ := h3
          have h4 : f 4 = _ := h4
          have h5 : f 5 = _ := h5
          have h6 : f 6 = _ := h6
          have h7 : f 7 = _ := h7
          have h8 : f 8 = _ := h8
          have h9 : f 9 = _ := h9
          have h10 : f 10 = _ := h10
          have h11 : f 11 = _ := h11
          have h12 : f 12 = _ := h12
          have h13 : f 13 = _ := h13
          have h14 : f 14 = _ := h14
          have h15 : f 15 = _ := h15
          have h16 : f 16 = _ := h16
          have h17 : f 17 = _ := h17
          have h18 : f 18 = _ := h18
          have h19 : f 19 = _ := h19
          have h20 : f 20 = _ := h20
          rw [h0, h1, h2, h3, h4, h5, h6, h7, h8, h9, h10, h11, h12, h13, h14, h15, h16, h17, h18, h19, h20]
          clear h0 h1 h2 h3 h4 h5 h6 h7 h8 h9 h10 h11 h12 h13 h14 h15 h16 h17 h18 h19 h20
          simp only [List.drop_succ_cons, List.drop_zero]
          skip
          go_wp2
          go_ret2
          refine ⟨?_, hdr.trans (hB.mono hdr.size)⟩
          have hbd : (p == id) = decide (p = id) := rfl
          simp [hkl, hbd, HPE.out]
      · obtain rfl : k = L.length := by omega
        clear hnot his
        go_wp2
        refine wp_region_any (by kernel_rfl) ?_
        change wpAny _ _ _ _ _ _ _ (World.drew _)
        refine wpAny_take (i := 0) (oi := { dst := some 28, op := Op.move (Operand.tmp 6), type := 3, pos := "ref.go:29", after := #[], guard := none }) (v := (.int .i64 (L.length : Nat))) rfl (by kernel_rfl) (by kernel_rfl) (by kernel_rfl) (fun _ _ _ h => h) (Or.inl ⟨by rfl, by intro w; go_simp⟩) ?_
        try dsimp only [Act.put]
        try simp only [List.setIfInBounds_toArray, List.set_cons_succ, List.set_cons_zero]
        apply calm_tailK 21 [0] [.is (.int .i64 (L.length : Nat)), .is _, .is _, .is _, .is _, .is _, .is _, .is _, .is _, .is _, .is _, .is _, .is _, .is _, .is _, .is _, .is _, .is _, .is _, .is _, .is _] [[], [], [], [2], [3], [4], [5], [1, 6], [7], [8], [9, 8], [10, 8], [11, 8], [8], [12, 13, 8], [14, 8], [15, 8], [8], [16, 17, 8], [8, 18], [0, 8, 0]] (by kernel_rfl) (by kernel_rfl) rfl (by decide) (by intro i hi o ho; obtain rfl := List.mem_singleton.1 hi; obtain rfl := Option.some.inj ho; exact rfl)
        intro f a1 ha1
        simp only [List.take_succ_cons, List.take_zero, putL, Act.put, List.setIfInBounds_toArray, List.set_cons_succ, List.set_cons_zero] at ha1
        subst ha1
        refine ⟨?_, ?_⟩
        · refine AllCalm.cons (fun W hB hd => ?_) ?_
          · go_wp2_with (fail)
            exact CalmQ.mk rfl _ rfl (Below.refl _ _) rfl
          refine AllCalm.cons (fun W hB hd => ?_) ?_
          · go_wp2_with (fail)
            exact CalmQ.mk rfl _ rfl (Below.refl _ _) rfl
          refine AllCalm.cons (fun W hB hd => ?_) ?_
          · go_wp2_with (fail)
            exact CalmQ.mk rfl _ rfl (Below.refl _ _) rfl
          refine AllCalm.cons (fun W hB hd => ?_) ?_
          · obtain ⟨h2, -⟩ := hd
            have h2 : f 2 = _ := h2
            rw [h2]
            go_wp2_with (fail)
            exact CalmQ.mk rfl _ rfl (Below.refl _ _) rfl
          refine AllCalm.cons (fun W hB hd => ?_) ?_
          · obtain ⟨h3, -⟩ := hd
            have h3 : f 3 = _ := h3
            rw [h3]
            go_wp2_with (fail)
            exact CalmQ.mk rfl _ rfl (Below.refl _ _) rfl
          refine AllCalm.cons (fun W hB hd => ?_) ?_
          · obtain ⟨h4, -⟩ := hd
            have h4 : f 4 = _ := h4
            rw [h4]
            have kx := hF W (hdr.trans (hB.mono hdr.size))
            go_wp2_with (fail)
            exact CalmQ.mk rfl _ rfl (Below.refl _ _) rfl
          refine AllCalm.cons (fun W hB hd => ?_) ?_
          · obtain ⟨h5, -⟩ := hd
            have h5 : f 5 = _ := h5
            rw [h5]
            go_wp2_with (fail)
            exact CalmQ.mk rfl _ rfl (Below.refl _ _) rfl
          refine AllCalm.cons (fun W hB hd => ?_) ?_
          · obtain ⟨h1, h6, -⟩ := hd
            have h1 : f 1 = _ := h1
            have h6 : f 6 = _ := h6
            rw [h1, h6]
            go_wp2_with (fail)
            exact CalmQ.mk rfl _ rfl (Below.refl _ _) rfl
          refine AllCalm.cons (fun W hB hd => ?_) ?_
          · obtain ⟨h7, -⟩ := hd
            have h7 : f 7 = _ := h7
            rw [h7]
            go_wp2_with (fail)
            exact CalmQ.mk rfl _ rfl (Below.refl _ _) rfl
          refine AllCalm.cons (fun W hB hd => ?_) ?_
          · obtain ⟨h8, -⟩ := hd
            have h8 : f 8 = _ := h8
            rw [h8]
            go_wp2_with (fail)
            exact CalmQ.mk rfl _ rfl (Below.refl _ _) rfl
          refine AllCalm.cons (fun W hB hd => ?_) ?_
          · obtain ⟨h9, h8, -⟩ := hd
            have h9 : f 9 = _ := h9
            have h8 : f 8 = _ := h8
            rw [h9, h8]
            go_wp2_with (fail)
            exact CalmQ.mk rfl _ rfl (Below.refl _ _) rfl
          refine AllCalm.cons (fun W hB hd => ?_) ?_
          · obtain ⟨h10, h8, -⟩ := hd
            have h10 : f 10 = _ := h10
            have h8 : f 8 = _ := h8
            rw [h10, h8]
            go_wp2_with (fail)
            exact CalmQ.mk rfl _ rfl (Below.refl _ _) rfl
          refine AllCalm.cons (fun W hB hd => ?_) ?_
          · obtain ⟨h11, h8, -⟩ := hd
            have h11 : f 11 = _ := h11
            have h8 : f 8 = _ := h8
            rw [h11, h8]
            go_wp2_with (fail)
            exact CalmQ.mk rfl _ rfl (Below.refl _ _) rfl
          refine AllCalm.cons (fun W hB hd => ?_) ?_
          · obtain ⟨h8, -⟩ := hd
            have h8 : f 8 = _ := h8
            rw [h8]
            go_wp2_with (fail)
            exact CalmQ.mk rfl _ rfl (Below.refl _ _) rfl
          refine AllCalm.cons (fun W hB hd => ?_) ?_
          · obtain ⟨h12, h13, h8, -⟩ := hd
            have h12 : f 12 = _ := h12
            have h13 : f 13 = _ := h13
            have h8 : f 8 = _ := h8
            rw [h12, h13, h8]
            go_wp2_with (fail)
            exact CalmQ.mk rfl _ rfl (Below.refl _ _) rfl
          refine AllCalm.cons (fun W hB hd => ?_) ?_
          · obtain ⟨h14, h8, -⟩ := hd
            have h14 : f 14 = _ := h14
            have h8 : f 8 = _ := h8
            rw [h14, h8]
            go_wp2_with (fail)
            exact CalmQ.mk rfl _ rfl (Below.refl _ _) rfl
          refine AllCalm.cons (fun W hB hd => ?_) ?_
          · obtain ⟨h15, h8, -⟩ := hd
            have h15 : f 15 = _ := h15
            have h8 : f 8 = _ := h8
            rw [h15, h8]
            go_wp2_with (fail)
            exact CalmQ.mk rfl _ rfl (Below.refl _ _) rfl
          refine AllCalm.cons (fun W hB hd => ?_) ?_
          · obtain ⟨h8, -⟩ := hd
            have h8 : f 8 = _ := h8
            rw [h8]
            go_wp2_with (fail)
            exact CalmQ.mk rfl _ rfl (Below.refl _ _) rfl
          refine AllCalm.cons (fun W hB hd => ?_) ?_
          · obtain ⟨h16, h17, h8, -⟩ := hd
            have h16 : f 16 = _ := h16
            have h17 : f 17 = _ := h17
            have h8 : f 8 = _ := h8
            rw [h16, h17, h8]
            go_wp2_with (fail)
            exact CalmQ.mk rfl _ rfl (Below.refl _ _) rfl
          refine AllCalm.cons (fun W hB hd => ?_) ?_
          · obtain ⟨h8, h18, -⟩ := hd
            have h8 : f 8 = _ := h8
            have h18 : f 18 = _ := h18
            rw [h8, h18]
            go_wp2_with (fail)
            exact CalmQ.mk rfl _ rfl (Below.refl _ _) rfl
          refine AllCalm.cons (fun W hB hd => ?_) ?_
          · obtain ⟨h0, h8, -, -⟩ := hd
            have h0 : f 0 = _ := h0
            have h8 : f 8 = _ := h8
            rw [h0, h8]
            go_wp2_with (fail)
            exact CalmQ.mk rfl _ rfl (Below.refl _ _) rfl
          exact AllCalm.nil
        · intro W hB hT
          obtain ⟨h0, h1, h2, h3, h4, h5, h6, h7, h8, h9, h10, h11, h12, h13, h14, h15, h16, h17, h18, h19, h20, -⟩ := hT
          have h0 : f 0 = _ := h0
          have h1 : f 1 = _ := h1
          have h2 : f 2 = _ := h2
          have h3 : f 3 = _ := h3
          have h4 : f 4 = _ := h4
          have h5 : f 5 = _ := h5
          have h6 : f 6 = _ := h6
          have h7 : f 7 = _ := h7
          have h8 : f 8 = _ := h8
          have h9 : f 9 = _ := h9
          have h10 : f 10 = _ := h10
          have h11 : f 11 = _ := h11
          have h12 : f 12 = _ := h12
          have h13 : f 13 = _ := h13
          have h14 : f 14 = _ := h14
          have h15 : f 15 = _ := h15
          have h16 : f 16 = _ := h16
          have h17 : f 17 = _ := h17
          have h18 : f 18 = _ := h18
          have h19 : f 19 = _ := h19
          have h20 : f 20 = _ := h20
          rw [h0, h1, h2, h3, h4, h5, h6, h7, h8, h9, h10, h11, h12, h13, h14, h15, h16, h17, h18, h19, h20]
          clear h0 h1 h2 h3 h4 h5 h6 h7 h8 h9 h10 h11 h12 h13 h14 h15 h16 h17 h18 h19 h20
          simp only [List.drop_succ_cons, List.drop_zero]
          skip
          go_wp2
          go_ret2
          refine ⟨?_, hdr.trans (hB.mono hdr.size)⟩
          simp
theorem rleft_no (B R : Nat) (u : Value) (L : List One) (now id : Int) (w : World) (hl : L.length ≤ 1000) (hn : RInv w B R u L now) (hi : rhas L id = false) :
    Calls Try.prog 18 #[.pointer (some ⟨R, 0, none⟩), .int .i64 id] w fun e w' => e = .returned (.tuple #[.int .i64 0, .bool false]) ∧ Below w.heap.size w w' := by
  have hp := at_any B R u L now id w hl hn
  rw [hi] at hp
  go_enter Try.func18, Try.ntmps18
  go_wp2_with (go_at_call 26; (with_reducible refine hp.mono ?_); rintro e w1 ⟨rfl, hb1⟩)
  go_ret2
  exact ⟨rfl, hb1⟩
theorem rleft_ok (B R : Nat) (u : Value) (L : List One) (now id : Int) (w : World) (hl : L.length ≤ 1000) (hn : RInv w B R u L now) (hi : rhas L id = true) :
    Calls Try.prog 18 #[.pointer (some ⟨R, 0, none⟩), .int .i64 id] w fun e w' => e = .returned (.tuple #[.int .i64 (pl L (rk L id)).2, .bool true]) ∧ Below w.heap.size w w' := by
  have hp := at_any B R u L now id w hl hn
  rw [hi] at hp
  have hlt : rk L id < L.length := (of_decide_eq_true hi).1
  obtain ⟨A, c, rfl, hc1, hc2⟩ := hn.parts
  obtain ⟨g, rfl, hBg, hgX⟩ := hn.at_ hlt
  have hF : ∀ W, Below w.heap.size w W → W.cell? ⟨R, 0, none⟩ = some (.slice (some ⟨g, 0, none⟩) L.length c) ∧ W.cell? ⟨g, rk L id * 2 + 1, none⟩ = some (.int .i64 (pl L (rk L id)).2) := fun W hW => ⟨(hn.below hW).mem.cell 0, ((hn.below hW).cells hlt).2⟩
  have hix : ((rk L id : Nat) : Int) < (L.length : Int) := by omega
  clear hi
  generalize rk L id = m at *
  generalize (pl L m).2 = d at *
  go_enter Try.func18, Try.ntmps18
  go_wp2_with (go_at_call 26; (with_reducible refine hp.mono ?_); rintro e w1 ⟨rfl, hb1⟩; obtain ⟨kx1, kx2⟩ := hF w1 hb1)
  go_ret2
  exact ⟨rfl, hb1⟩
end Go.Proofs.Ytohbkepjbaigdaa
