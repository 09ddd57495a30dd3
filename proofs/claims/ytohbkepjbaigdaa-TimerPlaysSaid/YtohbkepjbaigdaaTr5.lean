/- The document's timers: Next; rows compared; the timers and the document's beside each other. -/
import Derived.Test.YtohbkepjbaigdaaTr4
namespace Go.Proofs.Ytohbkepjbaigdaa
open Go.ChangeShapes Go.WideShapes Go.ChangeAt Go.RowKit Go.Lib
set_option linter.unusedVariables false
theorem rnext_no (B R : Nat) (u : Value) (now : Int) (w : World) (hn : RInv w B R u [] now) :
    Calls Try.prog 20 #[.pointer (some ⟨R, 0, none⟩)] w fun e w' => e = .returned (.tuple #[.int .i64 0, .bool false]) ∧ w = w' := by
  obtain ⟨A, c, rfl, hc1, hc2⟩ := hn.parts
  have x0 : w.cell? ⟨R, 0, none⟩ = some (.slice A 0 c) := hn.mem.cell 0
  go_enter Try.func20, Try.ntmps20
  go_wp2
  go_ret2
  exact ⟨rfl, rfl⟩
set_option maxHeartbeats 1000000 in
theorem rnext_ok (B R : Nat) (u : Value) (L : List One) (now : Int) (w : World) (hl : L.length ≤ 256) (h0 : 0 < L.length) (hn : RInv w B R u L now) :
    Calls Try.prog 20 #[.pointer (some ⟨R, 0, none⟩)] w fun e w' => ∃ m, e = .returned (.tuple #[.int .i64 m, .bool true]) ∧ (∃ x ∈ L, x.2 = m) ∧ (∀ x ∈ L, m ≤ x.2) ∧ w = w' := by
  obtain ⟨A, c, rfl, hc1, hc2⟩ := hn.parts
  obtain ⟨g, rfl, hBg, hgX⟩ := hn.at_ h0
  have hx0 := hn.mem.cell 0
  have hq := (hn.cells h0).2
  have hq0 : w.cell? ⟨g, 1, none⟩ = some (.int .i64 (pl L 0).2) := by simpa using hq
  have h0x : ¬ (L.length : Int) = 0 := by omega
  have h0y : (0 : Int) < (L.length : Int) := by omega
  have hlx : (L.length : Int) ≤ 256 := by omega
  clear hq
  obtain ⟨m0, hm0⟩ : ∃ m0, m0 = (pl L 0).2 := ⟨_, rfl⟩
  rw [← hm0] at hq0
  have HM0 : Hid ((∃ j, j < 1 ∧ (pl L j).2 = m0) ∧ ∀ j, j < 1 → m0 ≤ (pl L j).2) := by
    refine Lib.hid ⟨⟨0, by omega, hm0.symm⟩, fun j hj => ?_⟩
    obtain rfl : j = 0 := by omega
    omega
  clear hm0
  go_enter Try.func20, Try.ntmps20
  go_wp2
  go_loopw [4, 5] (fun n i wr => ∃ (k : Nat) (m : Int), 1 ≤ k ∧ k ≤ L.length ∧ i = .int .i64 k ∧ n = .int .i64 m ∧ Hid ((∃ j, j < k ∧ (pl L j).2 = m) ∧ ∀ j, j < k → m ≤ (pl L j).2) ∧ w = wr) (fun _ i _ => L.length - (intOf i).toNat)
  case atStart => exact ⟨1, m0, by omega, by omega, rfl, rfl, HM0, rfl⟩
  case round =>
    obtain ⟨k, m, hk1, hk, rfl, rfl, HM, rfl⟩ := hrel
    by_cases hkl : k < L.length
    · have hkx : (k : Int) < (L.length : Int) := by omega
      have hq := (hn.cells hkl).2
      obtain ⟨d, hd⟩ : ∃ d, d = (pl L k).2 := ⟨_, rfl⟩
      rw [← hd] at hq
      have HD := Lib.hid hd
      clear hq0 hd
      by_cases hdm : d < m
      · have HM2 : Hid ((∃ j, j < k + 1 ∧ (pl L j).2 = d) ∧ ∀ j, j < k + 1 → d ≤ (pl L j).2) := Lib.hid ⟨⟨k, by omega, HD.out.symm⟩, fun j hj => by
          rcases Nat.lt_or_ge j k with h | h
          · have := HM.out.2 j h
            omega
          · obtain rfl : j = k := by omega
            have := HD.out
            omega⟩
        go_wp2
        exact ⟨⟨k + 1, d, by omega, by omega, by simp, rfl, HM2, by trivial⟩, by simp [intOf]; omega⟩
      · have HM2 : Hid ((∃ j, j < k + 1 ∧ (pl L j).2 = m) ∧ ∀ j, j < k + 1 → m ≤ (pl L j).2) := Lib.hid ⟨by
          obtain ⟨j, h1, h2⟩ := HM.out.1
          exact ⟨j, by omega, h2⟩, fun j hj => by
          rcases Nat.lt_or_ge j k with h | h
          · exact HM.out.2 j h
          · obtain rfl : j = k := by omega
            have := HD.out
            omega⟩
        go_wp2
        exact ⟨⟨k + 1, m, by omega, by omega, by simp, rfl, HM2, by trivial⟩, by simp [intOf]; omega⟩
    · obtain rfl : k = L.length := by omega
      clear hq0
      go_wp2
      go_ret2
      refine ⟨m, rfl, ?_, fun x hx => ?_, rfl⟩
      · obtain ⟨j, h1, h2⟩ := HM.out.1
        exact ⟨pl L j, by rw [pl_in h1]; exact List.getElem_mem h1, h2⟩
      · obtain ⟨j, hj, rfl⟩ := List.mem_iff_getElem.1 hx
        have := HM.out.2 j hj
        rwa [pl_in hj] at this
set_option maxRecDepth 100000 in
set_option maxHeartbeats 1000000 in
theorem ints_same (A1 A2 : Option Addr) (c1 c2 B1 B2 : Nat) (I : List Int) (w : World) (hl : I.length ≤ 1000) (h1 : w.ownsRow B1 3 1 (.slice A1 I.length c1) I.length (ints I)) (h2 : w.ownsRow B2 3 1 (.slice A2 I.length c2) I.length (ints I)) :
    Calls Try.prog 14 #[.slice A1 I.length c1, .slice A2 I.length c2] w fun e w' => e = .returned (.bool true) ∧ Below w.heap.size w w' := by
  have hlx : (I.length : Int) ≤ 1000 := by omega
  go_enter Try.func14, Try.ntmps14
  go_wp2
  go_loopw [5] (fun i wr => ∃ k : Nat, k ≤ I.length ∧ i = .int .i64 k ∧ Below w.heap.size w wr) (fun i _ => I.length - (intOf i).toNat)
  case atStart => exact ⟨0, by omega, rfl, Below.refl _ _⟩
  case round =>
    obtain ⟨k, hk, rfl, hb⟩ := hrel
    by_cases hkl : k < I.length
    · have hkx : (k : Int) < (I.length : Int) := by omega
      obtain ⟨g1, rfl, _, _, _⟩ := ids_at h1 hkl
      obtain ⟨g2, rfl, _, _, _⟩ := ids_at h2 hkl
      have hF : ∀ W, Below wr.heap.size wr W → W.cell? ⟨g1, k, none⟩ = some (.int .i64 I[k]) ∧ W.cell? ⟨g2, k, none⟩ = some (.int .i64 I[k]) := fun W hW => by
        have hb2 := hb.trans (hW.mono hb.size)
        obtain ⟨q1, e1, _, _, x1⟩ := ids_at (owns_below h1 hb2) hkl
        obtain ⟨q2, e2, _, _, x2⟩ := ids_at (owns_below h2 hb2) hkl
        injection e1 with e1
        injection e1 with e1
        injection e2 with e2
        injection e2 with e2
        subst e1
        subst e2
        exact ⟨x1, x2⟩
      generalize I[k] = q at *
      go_wp2
      apply calm_region [.is _, .is _, .is _, .is _, .is _, .is _, .is _, .is _, .is _] [[], [], [0, 1], [2], [], [], [4, 5], [6], [3, 7]] (by kernel_rfl) (by kernel_rfl) (by kernel_rfl) rfl
      intro f a1 ha1
      simp only [putL, Act.put, List.setIfInBounds_toArray, List.set_cons_succ, List.set_cons_zero] at ha1
      subst ha1
      refine ⟨?_, ?_⟩
      · refine AllCalm.cons (fun W hB hd => ?_) ?_
        · go_wp2_with (fail)
          exact CalmQ.mk rfl _ rfl (Below.refl _ _) rfl
        refine AllCalm.cons (fun W hB hd => ?_) ?_
        · go_wp2_with (fail)
          exact CalmQ.mk rfl _ rfl (Below.refl _ _) rfl
        refine AllCalm.cons (fun W hB hd => ?_) ?_
        · obtain ⟨h0, h1, -⟩ := hd
          have h0 : f 0 = _ := h0
          have h1 : f 1 = _ := h1
          rw [h0, h1]
          go_wp2_with (fail)
          exact CalmQ.mk rfl _ rfl (Below.refl _ _) rfl
        refine AllCalm.cons (fun W hB hd => ?_) ?_
        · obtain ⟨h2, -⟩ := hd
          have h2 : f 2 = _ := h2
          rw [h2]
          have kx := (hF W hB).1
          go_wp2_with (fail)
          exact CalmQ.mk rfl _ rfl (Below.refl _ _) rfl
        refine AllCalm.cons (fun W hB hd => ?_) ?_
        · go_wp2_with (fail)
          exact CalmQ.mk rfl _ rfl (Below.refl _ _) rfl
        refine AllCalm.cons (fun W hB hd => ?_) ?_
        · go_wp2_with (fail)
          exact CalmQ.mk rfl _ rfl (Below.refl _ _) rfl
        refine AllCalm.cons (fun W hB hd => ?_) ?_
        · obtain ⟨h4, h5, -⟩ := hd
          have h4 : f 4 = _ := h4
          have h5 : f 5 = _ := h5
          rw [h4, h5]
          go_wp2_with (fail)
          exact CalmQ.mk rfl _ rfl (Below.refl _ _) rfl
        refine AllCalm.cons (fun W hB hd => ?_) ?_
        · obtain ⟨h6, -⟩ := hd
          have h6 : f 6 = _ := h6
          rw [h6]
          have kx := (hF W hB).2
          go_wp2_with (fail)
          exact CalmQ.mk rfl _ rfl (Below.refl _ _) rfl
        refine AllCalm.cons (fun W hB hd => ?_) ?_
        · obtain ⟨h3, h7, -⟩ := hd
          have h3 : f 3 = _ := h3
          have h7 : f 7 = _ := h7
          rw [h3, h7]
          go_wp2_with (fail)
          exact CalmQ.mk rfl _ rfl (Below.refl _ _) rfl
        exact AllCalm.nil
      · intro W hB hT
        obtain ⟨h0, h1, h2, h3, h4, h5, h6, h7, h8, -⟩ := hT
        have h0 : f 0 = _ := h0
        have h1 : f 1 = _ := h1
        have h2 : f 2 = _ := h2
        have h3 : f 3 = _ := h3
        have h4 : f 4 = _ := h4
        have h5 : f 5 = _ := h5
        have h6 : f 6 = _ := h6
        have h7 : f 7 = _ := h7
        have h8 : f 8 = _ := h8
        rw [h0, h1, h2, h3, h4, h5, h6, h7, h8]
        clear h0 h1 h2 h3 h4 h5 h6 h7 h8
        skip
        go_wp2
        exact ⟨⟨k + 1, by omega, by simp, hb.trans (hB.mono hb.size)⟩, by simp [intOf]; omega⟩
    · obtain rfl : k = I.length := by omega
      go_wp2
      go_ret
      exact ⟨rfl, hb⟩
/-- The document's row tells of the same timers. -/
structure Rl (S : List One) (now : Int) (L : List One) : Prop where
  sorted : (ids L).Pairwise (· < ·)
  mem : ∀ i d, (i, d) ∈ S ↔ (i, d - now) ∈ L
  len : S.length = L.length
theorem Rl.ids {S L : List One} {now : Int} (h : Rl S now L) (i : Int) : i ∈ Go.Proofs.Ytohbkepjbaigdaa.ids L ↔ i ∈ Go.Proofs.Ytohbkepjbaigdaa.ids S := by
  unfold Go.Proofs.Ytohbkepjbaigdaa.ids
  rw [List.mem_map, List.mem_map]
  constructor
  · rintro ⟨⟨a, b⟩, hx, rfl⟩
    exact ⟨(a, b + now), (h.mem _ _).2 (by rw [show b + now - now = b by omega]; exact hx), rfl⟩
  · rintro ⟨⟨a, b⟩, hx, rfl⟩
    exact ⟨(a, b - now), (h.mem _ _).1 hx, rfl⟩
theorem ids_get {L : List One} {j : Nat} (h : j < L.length) : (ids L)[j]'(by simpa [ids] using h) = (pl L j).1 := by rw [pl_in h]; simp [ids]
theorem rhas_iff {L : List One} (hs : (ids L).Pairwise (· < ·)) (id : Int) : rhas L id = decide (id ∈ ids L) := by
  unfold rhas
  rw [decide_eq_decide]
  constructor
  · rintro ⟨h1, h2⟩
    exact List.mem_map.2 ⟨pl L (rk L id), by rw [pl_in h1]; exact List.getElem_mem h1, h2⟩
  · intro hm
    obtain ⟨x, hx, rfl⟩ := List.mem_map.1 hm
    obtain ⟨j, hj, rfl⟩ := List.mem_iff_getElem.1 hx
    have hle : rk L (L[j]).1 ≤ j := by
      rcases Nat.lt_or_ge j (rk L (L[j]).1) with h | h
      · have := rk_not h
        rw [pl_in hj] at this
        omega
      · exact h
    have hlt : rk L (L[j]).1 < L.length := by omega
    refine ⟨hlt, ?_⟩
    have hge := rk_is hlt
    rcases Nat.lt_or_ge (rk L (L[j]).1) j with h | h
    · have := List.pairwise_iff_getElem.1 hs (rk L (L[j]).1) j (by simpa [ids] using hlt) (by simpa [ids] using hj) h
      rw [ids_get hlt, ids_get hj, pl_in hj] at this
      omega
    · have e : rk L (L[j]).1 = j := by omega
      rw [e, pl_in hj]
theorem sorted_nodup {I : List Int} (h : I.Pairwise (· < ·)) : I.Nodup := h.imp fun hab => by omega
theorem sorted_eq {I J : List Int} (hI : I.Pairwise (· < ·)) (hJ : J.Pairwise (· < ·)) (h : ∀ i, i ∈ I ↔ i ∈ J) : I = J := by
  induction I generalizing J with
  | nil =>
    cases J with
    | nil => rfl
    | cons b J => exact absurd ((h b).2 (by simp)) (by simp)
  | cons a I ih =>
    cases J with
    | nil => exact absurd ((h a).1 (by simp)) (by simp)
    | cons b J =>
      rw [List.pairwise_cons] at hI hJ
      have hab : a = b := by
        have h1 := (h a).1 (by simp)
        have h2 := (h b).2 (by simp)
        rw [List.mem_cons] at h1 h2
        rcases h1 with e | h1
        · exact e
        · rcases h2 with e | h2
          · exact e.symm
          · have := hJ.1 a h1
            have := hI.1 b h2
            omega
      subst hab
      rw [ih hI.2 hJ.2 fun i => ?_]
      constructor
      · intro hi
        have h1 := (h i).1 (by simp [hi])
        rw [List.mem_cons] at h1
        rcases h1 with e | h1
        · have := hI.1 i hi; omega
        · exact h1
      · intro hi
        have h1 := (h i).2 (by simp [hi])
        rw [List.mem_cons] at h1
        rcases h1 with e | h1
        · have := hJ.1 i hi; omega
        · exact h1
theorem nodup_mem_ne {T : List One} (h : (ids T).Nodup) {x y : One} (hx : x ∈ T) (hy : y ∈ T) (hne : x ≠ y) : x.1 ≠ y.1 := fun e => hne (nodup_one h hx hy e)
theorem rm_len {S : List One} {id : Int} (hnd : (ids S).Nodup) (h : id ∈ ids S) : (rm S id).length + 1 = S.length := by
  induction S with
  | nil => simp [ids] at h
  | cons x S ih =>
    have e : ids (x :: S) = x.1 :: ids S := rfl
    rw [e, List.nodup_cons] at hnd
    by_cases hx : x.1 = id
    · have e2 : rm (x :: S) id = rm S id := by
        unfold rm
        rw [List.filter_cons_of_neg (by simp [hx])]
      rw [e2, rm_no (by rw [← hx]; exact hnd.1)]
      rfl
    · have e2 : rm (x :: S) id = x :: rm S id := by
        unfold rm
        rw [List.filter_cons_of_pos (by simp [hx])]
      rw [e, List.mem_cons] at h
      rw [e2, List.length_cons, List.length_cons, ih hnd.2 (h.resolve_left (Ne.symm hx))]
theorem sorted_lt {L : List One} (hs : (ids L).Pairwise (· < ·)) {i j : Nat} (hij : i < j) (hj : j < L.length) : (pl L i).1 < (pl L j).1 := by
  have := List.pairwise_iff_getElem.1 hs i j (by simp [ids]; omega) (by simpa [ids] using hj) hij
  rwa [ids_get (by omega), ids_get hj] at this
/-- What the document's row becomes when an id is set. -/
def rput (L : List One) (id after : Int) : List One := if rhas L id = true then L.set (rk L id) (id, after) else L.take (rk L id) ++ (id, after) :: L.drop (rk L id)
theorem rput_mem {L : List One} (hs : (ids L).Pairwise (· < ·)) (id after : Int) (x : One) : x ∈ rput L id after ↔ x = (id, after) ∨ (x ∈ L ∧ x.1 ≠ id) := by
  unfold rput
  by_cases hi : rhas L id = true
  · have hlt : rk L id < L.length := (of_decide_eq_true hi).1
    have hid : (pl L (rk L id)).1 = id := (of_decide_eq_true hi).2
    rw [if_pos hi, List.mem_iff_getElem]
    constructor
    · rintro ⟨j, hj, rfl⟩
      rw [List.length_set] at hj
      rw [List.getElem_set]
      by_cases hjm : rk L id = j
      · rw [if_pos hjm]; exact .inl rfl
      · rw [if_neg hjm]
        refine .inr ⟨List.getElem_mem hj, fun e => ?_⟩
        rw [← pl_in hj] at e
        rcases Nat.lt_or_gt_of_ne hjm with h | h
        · have := sorted_lt hs h hj
          omega
        · have := sorted_lt hs h hlt
          omega
    · rintro (rfl | ⟨hx, hne⟩)
      · exact ⟨rk L id, by simpa using hlt, by simp⟩
      · obtain ⟨j, hj, rfl⟩ := List.mem_iff_getElem.1 hx
        refine ⟨j, by simpa using hj, ?_⟩
        rw [List.getElem_set, if_neg]
        rintro rfl
        rw [pl_in hlt] at hid
        exact hne hid
  · have hni : id ∉ ids L := fun h => hi (by rw [rhas_iff hs]; exact decide_eq_true h)
    rw [if_neg hi, List.mem_append, List.mem_cons]
    have hx : x ∈ L ↔ x ∈ L.take (rk L id) ∨ x ∈ L.drop (rk L id) := by
      conv => lhs; rw [← List.take_append_drop (rk L id) L]
      rw [List.mem_append]
    have hne : x ∈ L → x.1 ≠ id := fun h e => hni (List.mem_map.2 ⟨x, h, e⟩)
    constructor
    · rintro (h | h | h)
      · exact .inr ⟨hx.2 (.inl h), hne (hx.2 (.inl h))⟩
      · exact .inl h
      · exact .inr ⟨hx.2 (.inr h), hne (hx.2 (.inr h))⟩
    · rintro (h | ⟨h, _⟩)
      · exact .inr (.inl h)
      · rcases hx.1 h with h | h
        · exact .inl h
        · exact .inr (.inr h)
theorem rput_sorted {L : List One} (hs : (ids L).Pairwise (· < ·)) (id after : Int) : (ids (rput L id after)).Pairwise (· < ·) := by
  unfold rput
  by_cases hi : rhas L id = true
  · have hlt : rk L id < L.length := (of_decide_eq_true hi).1
    have hid : (pl L (rk L id)).1 = id := (of_decide_eq_true hi).2
    rw [if_pos hi]
    have e2 : ids (L.set (rk L id) (id, after)) = ids L := by
      unfold ids
      rw [List.map_set]
      apply List.ext_getElem (by simp)
      intro j h1 h2
      rw [List.getElem_set]
      split
      · rename_i hj
        subst hj
        rw [pl_in hlt] at hid
        simp [hid]
      · rfl
    rw [e2]
    exact hs
  · have hni : id ∉ ids L := fun h => hi (by rw [rhas_iff hs]; exact decide_eq_true h)
    rw [if_neg hi]
    have e : ids (L.take (rk L id) ++ (id, after) :: L.drop (rk L id)) = (ids L).take (rk L id) ++ id :: (ids L).drop (rk L id) := by simp [ids, List.map_take, List.map_drop]
    rw [e, List.pairwise_append, List.pairwise_cons]
    have hle := rk_le L id
    have hA : ∀ a ∈ (ids L).take (rk L id), a < id := by
      intro a ha
      obtain ⟨j, hj, rfl⟩ := List.mem_iff_getElem.1 ha
      rw [List.length_take] at hj
      rw [List.getElem_take, ids_get (by omega)]
      exact rk_not (by omega)
    have hB : ∀ b ∈ (ids L).drop (rk L id), id < b := by
      intro b hb
      obtain ⟨j, hj, rfl⟩ := List.mem_iff_getElem.1 hb
      rw [List.length_drop] at hj
      have hl : (ids L).length = L.length := by simp [ids]
      rw [List.getElem_drop, ids_get (by omega)]
      have hkl : rk L id < L.length := by omega
      have h1 := rk_is hkl
      have h2 : (pl L (rk L id)).1 ≠ id := fun e => hni (List.mem_map.2 ⟨pl L (rk L id), by rw [pl_in hkl]; exact List.getElem_mem hkl, e⟩)
      rcases Nat.eq_zero_or_pos j with rfl | hj0
      · rw [Nat.add_zero]; omega
      · have := sorted_lt hs (show rk L id < rk L id + j by omega) (by omega)
        omega
    refine ⟨hs.sublist (List.take_sublist _ _), ⟨hB, hs.sublist (List.drop_sublist _ _)⟩, fun a ha b hb => ?_⟩
    rcases List.mem_cons.1 hb with rfl | hb
    · exact hA a ha
    · have := hA a ha
      have := hB b hb
      omega
theorem Rl.put {S L : List One} {now : Int} (h : Rl S now L) (hnd : (Go.Proofs.Ytohbkepjbaigdaa.ids S).Nodup) (id after : Int) : Rl ((id, now + after) :: rm S id) now (rput L id after) := by
  refine ⟨rput_sorted h.sorted id after, fun i d => ?_, ?_⟩
  · rw [rput_mem h.sorted, List.mem_cons, mem_rm, ← h.mem]
    simp only [Prod.mk.injEq]
    have e : d = now + after ↔ d - now = after := by omega
    rw [e]
  · have hrh := rhas_iff h.sorted id
    by_cases hi : id ∈ Go.Proofs.Ytohbkepjbaigdaa.ids S
    · have : rhas L id = true := by rw [hrh]; exact decide_eq_true ((h.ids id).2 hi)
      have e : rput L id after = L.set (rk L id) (id, after) := if_pos this
      rw [e, List.length_set, List.length_cons, rm_len hnd hi, h.len]
    · have : ¬ rhas L id = true := by
        rw [hrh, decide_eq_true_eq]
        exact fun hm => hi ((h.ids id).1 hm)
      have e : rput L id after = L.take (rk L id) ++ (id, after) :: L.drop (rk L id) := if_neg this
      rw [e, List.length_cons, rm_no hi, h.len, List.length_append, List.length_cons, List.length_take, List.length_drop]
      have := rk_le L id
      omega
theorem Rl.stop {S L : List One} {now : Int} (h : Rl S now L) (hnd : (Go.Proofs.Ytohbkepjbaigdaa.ids S).Nodup) (id : Int) (hi : id ∈ Go.Proofs.Ytohbkepjbaigdaa.ids S) : Rl (rm S id) now (L.eraseIdx (rk L id)) := by
  have hr : rhas L id = true := by rw [rhas_iff h.sorted]; exact decide_eq_true ((h.ids id).2 hi)
  have hlt : rk L id < L.length := (of_decide_eq_true hr).1
  have hid : (pl L (rk L id)).1 = id := (of_decide_eq_true hr).2
  have hmem : ∀ x, x ∈ L.eraseIdx (rk L id) ↔ x ∈ L ∧ x.1 ≠ id := by
    intro x
    rw [List.mem_eraseIdx_iff_getElem]
    constructor
    · rintro ⟨j, hj, hjm, rfl⟩
      refine ⟨List.getElem_mem _, fun e => ?_⟩
      rw [← pl_in hj] at e
      rcases Nat.lt_or_gt_of_ne hjm with h1 | h1
      · have := sorted_lt h.sorted h1 hlt
        omega
      · have := sorted_lt h.sorted h1 hj
        omega
    · rintro ⟨hx, hne⟩
      obtain ⟨j, hj, rfl⟩ := List.mem_iff_getElem.1 hx
      refine ⟨j, hj, ?_, rfl⟩
      rintro rfl
      rw [pl_in hlt] at hid
      exact hne hid
  refine ⟨h.sorted.sublist (List.Sublist.map _ (List.eraseIdx_sublist ..)), fun i d => ?_, ?_⟩
  · rw [hmem, mem_rm, ← h.mem]
  · have := rm_len hnd hi
    have := h.len
    rw [List.length_eraseIdx, if_pos hlt]
    omega
theorem Rl.left {S L : List One} {now : Int} (h : Rl S now L) {id : Int} (hi : rhas L id = true) : (id, now + (pl L (rk L id)).2) ∈ S := by
  have hlt : rk L id < L.length := (of_decide_eq_true hi).1
  have hid : (pl L (rk L id)).1 = id := (of_decide_eq_true hi).2
  rw [h.mem]
  have e : (id, now + (pl L (rk L id)).2 - now) = pl L (rk L id) := by
    rw [show now + (pl L (rk L id)).2 - now = (pl L (rk L id)).2 by omega]
    exact Prod.ext hid.symm rfl
  rw [e, pl_in hlt]
  exact List.getElem_mem hlt
theorem Rl.offs {S L : List One} {now : Int} {I : List Int} (h : Rl S now L) (hI : I.Pairwise (· < ·)) (hm : ∀ i, i ∈ I ↔ (i, now + 1) ∈ S) : offs L = I := by
  refine sorted_eq (h.sorted.sublist (List.Sublist.map _ List.filter_sublist)) hI fun i => ?_
  rw [hm, h.mem, show now + 1 - now = 1 by omega]
  unfold Go.Proofs.Ytohbkepjbaigdaa.offs
  rw [List.mem_map]
  constructor
  · rintro ⟨⟨a, b⟩, hx, rfl⟩
    rw [List.mem_filter] at hx
    have := of_decide_eq_true hx.2
    simp only at this
    subst this
    exact hx.1
  · intro hx
    exact ⟨(i, 1), List.mem_filter.2 ⟨hx, by simp⟩, rfl⟩
theorem filter_two (L : List One) (n : Int) : (L.filter fun x => decide (x.2 = n)).length + (L.filter fun x => decide (x.2 ≠ n)).length = L.length := by
  induction L with
  | nil => rfl
  | cons x L ih =>
    by_cases h : x.2 = n
    · rw [List.filter_cons_of_pos (by simp [h]), List.filter_cons_of_neg (by simp [h])]
      simp only [List.length_cons]
      omega
    · rw [List.filter_cons_of_neg (by simp [h]), List.filter_cons_of_pos (by simp [h])]
      simp only [List.length_cons]
      omega
theorem Rl.tick {S L : List One} {now : Int} (h : Rl S now L) (hl : (Go.Proofs.Ytohbkepjbaigdaa.offs L).length + (gone S (now + 1)).length = S.length) : Rl (gone S (now + 1)) (now + 1) (rest L) := by
  refine ⟨?_, fun i d => ?_, ?_⟩
  · have e : Go.Proofs.Ytohbkepjbaigdaa.ids (rest L) = Go.Proofs.Ytohbkepjbaigdaa.ids (L.filter fun x => decide (x.2 ≠ 1)) := by simp [Go.Proofs.Ytohbkepjbaigdaa.ids, rest, Function.comp_def]
    rw [e]
    exact h.sorted.sublist (List.Sublist.map _ List.filter_sublist)
  · rw [mem_gone, h.mem]
    unfold rest
    rw [List.mem_map]
    constructor
    · rintro ⟨h1, h2⟩
      refine ⟨(i, d - now), List.mem_filter.2 ⟨h1, by simp only at h2; exact decide_eq_true (by omega)⟩, ?_⟩
      simp only [Prod.mk.injEq, true_and]
      omega
    · rintro ⟨⟨a, b⟩, hx, e⟩
      simp only [Prod.mk.injEq] at e
      rw [List.mem_filter] at hx
      have h2 := of_decide_eq_true hx.2
      simp only at h2
      obtain ⟨rfl, e2⟩ := e
      obtain rfl : b = d - now := by omega
      exact ⟨hx.1, by simp only; omega⟩
  · have h1 : (L.filter fun x => decide (x.2 = 1)).length + (L.filter fun x => decide (x.2 ≠ 1)).length = L.length := filter_two L 1
    have := h.len
    unfold Go.Proofs.Ytohbkepjbaigdaa.offs at hl
    unfold rest
    rw [List.length_map] at *
    omega
theorem Rl.fine {S L : List One} {now : Int} (h : Rl S now L) (hf : Fine S now) : L.length ≤ 256 ∧ ∀ x ∈ L, 1 ≤ x.2 ∧ x.2 ≤ 1073741824 := by
  refine ⟨by rw [← h.len]; exact hf.few, fun x hx => ?_⟩
  have := hf.due (x.1, now + x.2) ((h.mem _ _).2 (by rw [show now + x.2 - now = x.2 by omega]; exact hx))
  simp only at this
  omega
end Go.Proofs.Ytohbkepjbaigdaa
