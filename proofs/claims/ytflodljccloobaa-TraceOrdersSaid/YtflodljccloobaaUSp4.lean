/- Package space: Unmap, Compare, New: contracts. -/
import Derived.Test.YtflodljccloobaaMm
import Derived.Test.YtflodljccloobaaUSp3
import Derived.Deep.RegionLaw
namespace Go.Proofs.Ytflodljccloobaa
open Go.ChangeShapes Go.WideShapes Go.ChangeAt Go.RowKit Go.Lib
set_option linter.unusedVariables false
set_option linter.unusedSimpArgs false
section
variable {w w' : World} {B X g h N : Nat} {D M : List UInt8}
theorem unmap_no (at_ n : Int) (hn : SpInv w B X g h N D M) (ha : -4611686018427387904 ≤ n ∧ n ≤ 9223372036854775807) (hi : inB N at_ n = false) : Calls Try.prog 35 #[.pointer (some ⟨X, 0, none⟩), .int .i64 at_, .int .i64 n] w fun e w' => e = .returned (.int .i64 1) ∧ w = w' := by
  have hin := in_any at_ n hn ha
  rw [hi] at hin
  go_enter Try.func35, Try.ntmps35
  go_wp2_with (go_at_call 31; (with_reducible refine hin.mono ?_); rintro e w1 ⟨rfl, rfl⟩)
  go_ret
  exact ⟨rfl, rfl⟩
theorem bs_zero (n : Nat) : bs (List.replicate n 0) = List.replicate n (.int .u8 0) := by simp [bs]
theorem unmap_ok (a n : Nat) (hn : SpInv w B X g h N D M) (h3 : n ≤ 32) (ha : a + n ≤ N) : Calls Try.prog 35 #[.pointer (some ⟨X, 0, none⟩), .int .i64 (a : Nat), .int .i64 (n : Nat)] w fun e w' => e = .returned (.int .i64 0) ∧ ∃ M', runTo M a n false M' ∧ SpInv w' B X g h N (laid D a (List.replicate (n * 8) 0)) M' ∧ Eff (SpS g h) w w' := by
  have hin := in_any (a : Int) (n : Int) hn (by omega)
  have hi : inB N (a : Int) (n : Int) = true := decide_eq_true (by omega)
  rw [hi] at hin
  have hby := bytes_any a n hn ha
  have hDl := hn.lenD
  have hlaid := laid_len (D := D) (l := List.replicate (n * 8) 0) (a := a) (by simp; omega)
  have hset := fun w1 (h1 : SpInv w1 B X g h N (laid D a (List.replicate (n * 8) 0)) M) => mapunset_any (w := w1) a n h1 ha
  have hdat := hn.data
  have hto : ∀ w1, w1.heap[g]? = some (.cells (splice (bs D) (a * 8) (List.replicate (n * 8) (.int .u8 0))).toArray 5 (0, 0)) → Keeps g w w1 → SpInv w1 B X g h N (laid D a (List.replicate (n * 8) 0)) M := fun w1 h1 hk => by
    refine hn.dataTo ?_ hk hlaid
    unfold laid
    rw [← bs_splice, bs_zero]
    exact h1
  have hx1 := fun w1 (h1 : SpInv w1 B X g h N (laid D a (List.replicate (n * 8) 0)) M) => h1.mem.cell 1
  have hfit : a * 8 + n * 8 ≤ (bs D).length := by simp; omega
  have ho7 : ∀ off : Nat, (off = a * 8 ∨ n = 0) → (off = a * 8 ∨ n * 8 = 0) := fun off hh => by omega
  clear hi hn
  generalize laid D a (List.replicate (n * 8) 0) = D2 at *
  go_enter Try.func35, Try.ntmps35
  go_wp2_with (first
    | (go_at_call 31; (with_reducible refine hin.mono ?_); rintro e w1 ⟨rfl, rfl⟩)
    | (go_at_call 52; (with_reducible refine hby.mono ?_); rintro e w2 ⟨off, cb, rfl, h5, h6, h7, h8, rfl⟩)
    | ((refine wpList_clear_keep rfl (.tmp 15) 23 rfl 5 (.int .u8 0) Try.underlying23 zero_u8 rfl rfl g off (n * 8) cb rfl (bs D) 5 hdat (a * 8) (ho7 off h7) hfit ?_); intro w3 hm3 hk3; have hn3 := hto w3 hm3 hk3; have y1 := hx1 w3 hn3)
    | (go_at_call 54; (with_reducible refine (hset _ hn3).mono ?_); rintro e w4 ⟨k4, M4, rfl, hr4, hm4, hk4⟩))
  go_ret
  exact ⟨rfl, M4, hr4, hn3.mapTo hm4 hk4 hr4.1, (hk3.eff (S := SpS g h) (.inl rfl)).trans (hk4.eff (S := SpS g h) (.inr rfl)) fun _ _ h => h⟩
set_option maxHeartbeats 1000000 in
theorem compare_no (a n k : Nat) (v : Value) (l : List UInt8) (hn : SpInv w B X g h N D M) (hd : Sl w w.heap.size v l.length (bs l)) (hl : l.length = n * 16) (h3 : n ≤ 32) (ha : a + n ≤ N) (hk : k < n * 8) (heq : ∀ j, j < k → D[a * 8 + j]? = l[j]?) (hne : D[a * 8 + k]? ≠ l[k]?) : Calls Try.prog 33 #[.pointer (some ⟨X, 0, none⟩), .int .i64 (a : Nat), v] w fun e w' => e = .returned (.tuple #[.int .i64 (k : Nat), .int .i64 0]) ∧ w = w' := by
  have hin := in_any (a : Int) (n : Int) hn (by omega)
  have hi : inB N (a : Int) (n : Int) = true := decide_eq_true (by omega)
  rw [hi] at hin
  have hby := bytes_any a n hn ha
  have hDl := hn.lenD
  obtain ⟨A, c, rfl, hc1, hc2⟩ := hd.form
  obtain ⟨b, o, rfl, _, hat⟩ := hd.at_ (by omega)
  have hD : ∀ j : Nat, ∀ hj : a * 8 + j < D.length, w.cell? ⟨g, a * 8 + j, none⟩ = some (.int .u8 ((D[a * 8 + j]).toNat : Int)) := fun j hj => by
    rw [hn.data.cell, List.getElem?_toArray]
    exact bs_get hj
  have hL : ∀ j : Nat, ∀ hj : j < l.length, w.cell? ⟨b, o + j, none⟩ = some (.int .u8 ((l[j]).toNat : Int)) := fun j hj => hat _ _ (bs_get hj)
  have hq : (l.length : Int) / 2 = ((n * 8 : Nat) : Int) := by omega
  have hq2 : ((n * 8 : Nat) : Int) / 8 = (n : Int) := by omega
  have h8x : (l.length : Int) % 16 = 0 := by omega
  have hlx : (l.length : Int) ≤ 512 := by omega
  have hkx : (k : Int) < ((n * 8 : Nat) : Int) := by omega
  have hnpos : 0 < n := by omega
  have hln : ((n * 8 : Nat) : Int) ≤ (l.length : Int) := by omega
  have HL := Lib.hid hl
  have HD := Lib.hid hDl
  clear hi hd hn hat hl hDl
  generalize hm8 : n * 8 = m8 at *
  have HM8 := Lib.hid hm8
  clear hm8
  go_enter Try.func33, Try.ntmps33
  go_wp2_with (first
    | (go_at_call 31; (with_reducible refine hin.mono ?_); rintro e w1 ⟨rfl, rfl⟩)
    | (go_at_call 52; (with_reducible refine hby.mono ?_); rintro e w2 ⟨off, cb, rfl, h5, h6, h7, h8, rfl⟩; obtain rfl : off = a * 8 := by omega))
  go_loopw [9, 10, 32] (fun x9 x10 i wr => ∃ j : Nat, j ≤ k ∧ i = .int .i64 j ∧ w = wr) (fun _ _ i _ => k + 1 - (intOf i).toNat)
  case atStart => exact ⟨0, by omega, rfl, rfl⟩
  case round =>
    obtain ⟨j, hj, rfl, rfl⟩ := hrel
    have hjm : (j : Int) < (m8 : Int) := by omega
    have hjl : (j : Int) < (l.length : Int) := by omega
    have hjD : a * 8 + j < D.length := by have := HD.out; have := HM8.out; omega
    have hjL : j < l.length := by omega
    have x1 := hD j hjD
    have x2 := hL j hjL
    by_cases hjk : j < k
    · have he := heq j hjk
      rw [List.getElem?_eq_getElem hjD, List.getElem?_eq_getElem hjL] at he
      have he2 := Option.some.inj he
      rw [he2] at x1
      have hb := (l[j]).toNat_lt
      clear he he2 heq hne hD hL
      generalize (l[j]).toNat = q at *
      go_wp2
      exact ⟨⟨j + 1, by omega, by simp, by trivial⟩, by simp [intOf]; omega⟩
    · obtain rfl : j = k := by omega
      rw [List.getElem?_eq_getElem hjD, List.getElem?_eq_getElem hjL] at hne
      have hne2 : ¬ ((D[a * 8 + j]).toNat : Int) = ((l[j]).toNat : Int) := fun e => hne (by
        have e2 : D[a * 8 + j] = l[j] := UInt8.toNat_inj.1 (by omega)
        rw [e2])
      have hne3 : (((D[a * 8 + j]).toNat : Int) == ((l[j]).toNat : Int)) = false := by simpa using hne2
      clear heq hne hD hL
      generalize (l[j]).toNat = q at *
      generalize (D[a * 8 + j]).toNat = p at *
      go_wp2
      go_ret2
      exact ⟨by trivial, by trivial⟩
set_option maxHeartbeats 1000000 in
theorem compare_yes (a n : Nat) (v : Value) (l : List UInt8) (hn : SpInv w B X g h N D M) (hd : Sl w w.heap.size v l.length (bs l)) (hl : l.length = n * 16) (h0 : 0 < n) (h3 : n ≤ 32) (ha : a + n ≤ N) (heq : ∀ j, j < n * 8 → D[a * 8 + j]? = l[j]?) : Calls Try.prog 33 #[.pointer (some ⟨X, 0, none⟩), .int .i64 (a : Nat), v] w fun e w' => e = .returned (.tuple #[.int .i64 (-1), .int .i64 0]) ∧ ∃ M', runTo M a n true M' ∧ SpInv w' B X g h N (laid D a (l.drop (n * 8))) M' ∧ Eff (SpS g h) w w' := by
  have hin := in_any (a : Int) (n : Int) hn (by omega)
  have hi : inB N (a : Int) (n : Int) = true := decide_eq_true (by omega)
  rw [hi] at hin
  have hby := bytes_any a n hn ha
  have hDl := hn.lenD
  obtain ⟨A, c, rfl, hc1, hc2⟩ := hd.form
  obtain ⟨b, o, rfl, _, hat⟩ := hd.at_ (by omega)
  have hD : ∀ j : Nat, ∀ hj : a * 8 + j < D.length, w.cell? ⟨g, a * 8 + j, none⟩ = some (.int .u8 ((D[a * 8 + j]).toNat : Int)) := fun j hj => by
    rw [hn.data.cell, List.getElem?_toArray]
    exact bs_get hj
  have hL : ∀ j : Nat, ∀ hj : j < l.length, w.cell? ⟨b, o + j, none⟩ = some (.int .u8 ((l[j]).toNat : Int)) := fun j hj => hat _ _ (bs_get hj)
  have hdd : Sl w w.heap.size (.slice (some ⟨b, o + n * 8, none⟩) (l.length - n * 8) (c - n * 8)) (l.drop (n * 8)).length (bs (l.drop (n * 8))) := by
    have := hd.drop (m := n * 8) (by omega)
    rw [bs, ← List.map_drop] at this
    rw [List.length_drop]
    exact this
  have hw := write_ok a n _ _ hn hdd (by rw [List.length_drop]; omega) h3 ha
  have hq : (l.length : Int) / 2 = ((n * 8 : Nat) : Int) := by omega
  have hq2 : ((n * 8 : Nat) : Int) / 8 = (n : Int) := by omega
  have h8x : (l.length : Int) % 16 = 0 := by omega
  have hlx : (l.length : Int) ≤ 512 := by omega
  have hln : ((n * 8 : Nat) : Int) < (l.length : Int) := by omega
  have hlc : ((n * 8 : Nat) : Int) < (c : Int) := by omega
  have hlc2 : (l.length : Int) ≤ (c : Int) := by omega
  have hcm : (c : Int) ≤ 9223372036854775807 := by unfold maxLen at hc2; omega
  have HL := Lib.hid hl
  have HD := Lib.hid hDl
  clear hi hd hn hat hl hDl hdd
  generalize hm8 : n * 8 = m8 at *
  have HM8 := Lib.hid hm8
  clear hm8
  go_enter Try.func33, Try.ntmps33
  go_wp2_with (first
    | (go_at_call 31; (with_reducible refine hin.mono ?_); rintro e w1 ⟨rfl, rfl⟩)
    | (go_at_call 52; (with_reducible refine hby.mono ?_); rintro e w2 ⟨off, cb, rfl, h5, h6, h7, h8, rfl⟩; obtain rfl : off = a * 8 := by omega))
  go_loopw [9, 10, 32] (fun x9 x10 i wr => ∃ j : Nat, j ≤ m8 ∧ i = .int .i64 j ∧ w = wr) (fun _ _ i _ => m8 - (intOf i).toNat)
  case atStart => exact ⟨0, by omega, rfl, rfl⟩
  case round =>
    obtain ⟨j, hj, rfl, rfl⟩ := hrel
    by_cases hjk : j < m8
    · have hjm : (j : Int) < (m8 : Int) := by omega
      have hjl : (j : Int) < (l.length : Int) := by omega
      have hjD : a * 8 + j < D.length := by have := HD.out; have := HM8.out; omega
      have hjL : j < l.length := by omega
      have x1 := hD j hjD
      have x2 := hL j hjL
      have he := heq j hjk
      rw [List.getElem?_eq_getElem hjD, List.getElem?_eq_getElem hjL] at he
      have he2 := Option.some.inj he
      rw [he2] at x1
      have hb := (l[j]).toNat_lt
      clear he he2 heq hD hL hw
      generalize (l[j]).toNat = q at *
      go_wp2
      exact ⟨⟨j + 1, by omega, by simp, by trivial⟩, by simp [intOf]; omega⟩
    · obtain rfl : j = m8 := by omega
      clear heq hD hL
      go_wp2_with (go_at_call 34; (with_reducible refine hw.mono ?_); rintro e w4 ⟨rfl, M4, hr4, hs4, he4⟩)
      go_ret2
      exact ⟨by trivial, M4, hr4, hs4, he4⟩
end
theorem spnew_no (n : Int) (hno : n < 1 ∨ 1024 < n) (w : World) : Calls Try.prog 15 #[.int .i64 n] w fun e w' => e = .returned (.tuple #[.pointer none, .int .i64 1]) ∧ w = w' := by
  rcases hno with h | h
  · go_enter Try.func15, Try.ntmps15
    go_wp2
    go_ret2
    exact ⟨rfl, rfl⟩
  · have h1 : ¬ n < 1 := by omega
    go_enter Try.func15, Try.ntmps15
    go_wp2
    go_ret2
    exact ⟨rfl, rfl⟩
theorem mapnew_any (n : Nat) (h1 : 1 ≤ n) (h2 : n ≤ 1048576) (w : World) : Calls Try.prog 28 #[.int .i64 (n : Nat)] w fun e w' => ∃ g, e = .returned (.slice (some ⟨g, 0, none⟩) ((n + 7) / 8) ((n + 7) / 8)) ∧ w.heap.size ≤ g ∧ Mem w' g 5 (bs (List.replicate ((n + 7) / 8) 0)).toArray ∧ Below w.heap.size w w' := by
  obtain ⟨i0, hi, hz0, hz1, hz2⟩ := info_parts (show (Try.prog.info? 5).map (fun i => (i.zero, i.size, i.bytes)) = some (some (.int .u8 0), 1, 1) by kernel_rfl)
  have h1x : ¬ (n : Int) < 1 := by omega
  have h2x : ¬ (1048576 : Int) < (n : Int) := by omega
  have hK : ((n : Int) + 7) / 8 = (((n + 7) / 8 : Nat) : Int) := by omega
  have hKb : (n + 7) / 8 ≤ 140000 := by omega
  generalize (n + 7) / 8 = K at *
  have HK := Lib.hid hK
  clear hK
  go_enter Try.func28, Try.ntmps28
  go_wp2_with (at_make; refine wpList_make_full _ rfl (.tmp 11) (.tmp 11) 87 rfl w.heap.size 5 i0 _ 1 Try.underlying87 hi hz0 hz1 .i64 .i64 _ _ K rfl rfl HK.out HK.out (by rw [hz2]; omega) (by unfold maxLen; omega) (Nat.le_refl _) ?_; intro w2 hown2 hg2)
  go_ret
  have hb2 : Below w.heap.size w w2 := (Below.refl _ w).grown hg2 (Nat.le_refl _) (fun k hk => by cases hk)
  have e0 : (madeCells (Value.int .u8 0).cells (K * 1)).toList = bs (List.replicate K 0) := by rw [made_bytes]; simp [bs]
  rw [e0] at hown2
  exact ⟨_, rfl, Nat.le_refl _, row_of_own (n := K) hown2 rfl, hb2⟩
/-- A row of nought bytes, no elder than o. -/
def Row0 (o K : Nat) (v : Value) (W : World) : Prop := ∃ g, v = .slice (some ⟨g, 0, none⟩) K K ∧ o ≤ g ∧ Mem W g 5 (bs (List.replicate K 0)).toArray
theorem Row0.below {o K : Nat} {v : Value} {W W' : World} (h : Row0 o K v W) (hb : Below W.heap.size W W') : Row0 o K v W' := by
  obtain ⟨g, h1, h2, h3⟩ := h
  exact ⟨g, h1, h2, h3.below hb h3.lt⟩
theorem row0_apart {W : World} {g K h K' : Nat} (h1 : Mem W g 5 (bs (List.replicate K 0)).toArray) (h2 : Mem W h 5 (bs (List.replicate K' 0)).toArray) (hne : K ≠ K') : g ≠ h := by
  rintro rfl
  unfold Mem at h1 h2
  rw [h1] at h2
  have e := congrArg List.length (congrArg Array.toList (Obj.cells.inj (Option.some.inj h2)).1)
  simp [bs] at e
  exact hne e
set_option maxRecDepth 100000 in
set_option maxHeartbeats 1000000 in
theorem spnew_any (n : Nat) (hpos : 1 ≤ n) (h2 : n ≤ 1024) (w : World) : Calls Try.prog 15 #[.int .i64 (n : Nat)] w fun e w' => ∃ X g h, e = .returned (.tuple #[.pointer (some ⟨X, 0, none⟩), .int .i64 0]) ∧ SpInv w' w.heap.size X g h n (List.replicate (8 * n) 0) (List.replicate ((n + 7) / 8) 0) ∧ Below w.heap.size w w' := by
  obtain ⟨i0, hi, hz0, hz1, hz2⟩ := info_parts (show (Try.prog.info? 5).map (fun i => (i.zero, i.size, i.bytes)) = some (some (.int .u8 0), 1, 1) by kernel_rfl)
  have h1x : ¬ (n : Int) < 1 := by omega
  have h2x : ¬ (1024 : Int) < (n : Int) := by omega
  have hnew := fun W => mapnew_any n hpos (by omega) W
  have hq : (n : Int) * 8 = ((8 * n : Nat) : Int) := by omega
  have hdiff : 8 * n ≠ (n + 7) / 8 := by omega
  have hc1 : 8 * n ≤ 8192 := by omega
  have hlen1 : (List.replicate (8 * n) (0 : UInt8)).length = 8 * n := List.length_replicate
  have hlen2 : (List.replicate ((n + 7) / 8) (0 : UInt8)).length = (n + 7) / 8 := List.length_replicate
  generalize hm8 : 8 * n = m8 at *
  generalize hmk : (n + 7) / 8 = mk at *
  have HM8 := Lib.hid hm8
  have HMK := Lib.hid hmk
  clear hm8 hmk
  have HQ := Lib.hid hq
  clear hq
  go_enter Try.func15, Try.ntmps15
  go_wp2
  have hdr : Below w.heap.size w w.drew := (Below.refl _ _).drew
  apply calm_tail 5 [.is _, .is (.int .i64 ((n : Int) * 8)), .of (fun v W => Row0 w.heap.size m8 v W) (fun v W W' hb h => h.below hb), .is _, .of (fun v W => Row0 w.heap.size mk v W) (fun v W W' hb h => h.below hb)] [[], [0], [1, 1], [], [3]] (by kernel_rfl) (by kernel_rfl) (by kernel_rfl) rfl
  intro f a1 ha1
  simp only [List.take_succ_cons, List.take_zero, putL, Act.put, List.setIfInBounds_toArray, List.set_cons_succ, List.set_cons_zero] at ha1
  subst ha1
  refine ⟨?_, ?_⟩
  · refine AllCalm.cons (fun W hB hd => ?_) ?_
    · go_wp2_with (fail)
      exact CalmQ.mk rfl _ rfl (Below.refl _ _) rfl
    refine AllCalm.cons (fun W hB hd => ?_) ?_
    · obtain ⟨h0, -⟩ := hd
      have h0 : f 0 = _ := h0
      rw [h0]
      go_wp2_with (fail)
      exact CalmQ.mk rfl _ rfl (Below.refl _ _) rfl
    refine AllCalm.cons (fun W hB hd => ?_) ?_
    · obtain ⟨h1, -, -⟩ := hd
      have h1 : f 1 = _ := h1
      rw [h1]
      go_wp2_with ((at_make; refine wpList_make_full _ rfl (.tmp 11) (.tmp 11) 23 rfl W.heap.size 5 i0 _ 1 Try.underlying23 hi hz0 hz1 .i64 .i64 _ _ m8 rfl rfl HQ.out HQ.out (by rw [hz2]; omega) (by unfold maxLen; omega) (Nat.le_refl _) ?_; intro w2 hown2 hg2))
      refine CalmQ.mk rfl _ rfl ((Below.refl _ W).grown hg2 (Nat.le_refl _) (fun k hk => by cases hk)) ?_; have e0 : (madeCells (Value.int .u8 0).cells (m8 * 1)).toList = bs (List.replicate m8 0) := (by rw [made_bytes]; simp [bs]); rw [e0] at hown2; exact ⟨_, rfl, hB.size, row_of_own (n := m8) hown2 rfl⟩
    refine AllCalm.cons (fun W hB hd => ?_) ?_
    · go_wp2_with (fail)
      exact CalmQ.mk rfl _ rfl (Below.refl _ _) rfl
    refine AllCalm.cons (fun W hB hd => ?_) ?_
    · obtain ⟨h3, -⟩ := hd
      have h3 : f 3 = _ := h3
      rw [h3]
      go_wp2_with ((go_at_call 28; (with_reducible refine (hnew _).mono ?_); rintro e w3 ⟨g3, rfl, hg3, hm3, hb3⟩))
      exact CalmQ.mk rfl _ rfl hb3 ⟨_, rfl, Nat.le_trans hB.size hg3, hm3⟩
    exact AllCalm.nil
  · intro W hB hT
    obtain ⟨h0, h1, h2, h3, h4, -⟩ := hT
    have h0 : f 0 = _ := h0
    have h1 : f 1 = _ := h1
    have h3 : f 3 = _ := h3
    rw [h0, h1, h3]
    clear h0 h1 h3
    simp only [List.drop_succ_cons, List.drop_zero]
    obtain ⟨g, e2, hg2, hm2⟩ := h2
    obtain ⟨h, e4, hh4, hm4⟩ := h4
    rw [e2, e4]
    have hgh := row0_apart hm2 hm4 hdiff
    have hsz := hB.size
    have lg := hm2.lt
    have lh := hm4.lt
    go_wp2
    go_ret2
    have hb5 : Below W.heap.size W (W.alloc (.cells #[.slice (some ⟨g, 0, none⟩) m8 m8, .slice (some ⟨h, 0, none⟩) mk mk] 90)) := (Below.refl _ _).alloc (Nat.le_refl _) _
    refine ⟨W.heap.size, g, h, rfl, ⟨hsz, hg2, hh4, by omega, by omega, hgh, ?_, hm2.below hb5 lg, hm4.below hb5 lh, by rw [hlen1, HM8.out], by rw [hlen2, HMK.out], hpos, by omega⟩, ?_⟩
    · rw [hlen1, hlen2]
      exact Mem.new _ _ _
    · exact hB.trans (hb5.mono hsz)
end Go.Proofs.Ytflodljccloobaa
