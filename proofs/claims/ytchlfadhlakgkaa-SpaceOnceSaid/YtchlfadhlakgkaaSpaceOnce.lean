/- SpaceOnce: for all bytes and every number the statement's function tells true and turns nothing that was there. No condition. -/
import Derived.Test.YtchlfadhlakgkaaSp5
import Derived.LoopTactic
import Derived.BigQuiet
import Derived.IntWalk
import Derived.Deep.QuietTactic
namespace Go.Proofs.Ytchlfadhlakgkaa
open Go.ChangeShapes Go.WideShapes Go.ChangeAt Go.RowKit Go.Lib
set_option linter.unusedVariables false
namespace Once
theorem walk_no (at_ : Int) (v1 v2 v3 : Value) (l1 l2 l3 : List UInt8) (w : World) (h1 : Sl w w.heap.size v1 l1.length (bs l1)) (h2 : Sl w w.heap.size v2 l2.length (bs l2)) (h3 : Sl w w.heap.size v3 l3.length (bs l3)) (hno : at_ < 0 ∨ 7 < at_ ∨ l1.length ≠ 8 ∨ l2.length ≠ 8 ∨ l3.length ≠ 8) :
    Calls Try.prog 3 #[.int .i64 at_, v1, v2, v3] w fun e w' => e = .returned (.bool true) ∧ Below w.heap.size w w' := by
  obtain ⟨A1, c1, rfl, _, _⟩ := h1.form
  obtain ⟨A2, c2, rfl, _, _⟩ := h2.form
  obtain ⟨A3, c3, rfl, _, _⟩ := h3.form
  by_cases g1 : at_ < 0
  · go_enter Try.func3, Try.ntmps3
    go_wp2_with (go_at_call 7; refine (known_any _).mono ?_; rintro e w1 ⟨rfl, hb1⟩)
    go_ret
    exact ⟨rfl, hb1⟩
  by_cases g2 : 7 < at_
  · go_enter Try.func3, Try.ntmps3
    go_wp2_with (go_at_call 7; refine (known_any _).mono ?_; rintro e w1 ⟨rfl, hb1⟩)
    go_ret
    exact ⟨rfl, hb1⟩
  by_cases g3 : l1.length = 8
  case neg =>
    have g3x : ¬ (l1.length : Int) = 8 := by omega
    go_enter Try.func3, Try.ntmps3
    go_wp2_with (go_at_call 7; refine (known_any _).mono ?_; rintro e w1 ⟨rfl, hb1⟩)
    go_ret
    exact ⟨rfl, hb1⟩
  have g3x : (l1.length : Int) = 8 := by omega
  by_cases g4 : l2.length = 8
  case neg =>
    have g4x : ¬ (l2.length : Int) = 8 := by omega
    clear g3
    go_enter Try.func3, Try.ntmps3
    go_wp2_with (go_at_call 7; refine (known_any _).mono ?_; rintro e w1 ⟨rfl, hb1⟩)
    go_ret
    exact ⟨rfl, hb1⟩
  have g4x : (l2.length : Int) = 8 := by omega
  have g5x : ¬ (l3.length : Int) = 8 := by omega
  have g5y : ((l3.length : Int) != 8) = true := by simpa using g5x
  clear g3 g4 hno
  go_enter Try.func3, Try.ntmps3
  go_wp2_with (go_at_call 7; refine (known_any _).mono ?_; rintro e w1 ⟨rfl, hb1⟩)
  go_ret
  exact ⟨rfl, hb1⟩
theorem first_diff (a b : List UInt8) (n : Nat) : (∀ j, j < n → a[j]? = b[j]?) ∨ ∃ k, k < n ∧ (∀ j, j < k → a[j]? = b[j]?) ∧ a[k]? ≠ b[k]? := by
  induction n with
  | zero => exact .inl fun j hj => by omega
  | succ n ih =>
    rcases ih with h | ⟨k, hk, h1, h2⟩
    · by_cases hn : a[n]? = b[n]?
      · refine .inl fun j hj => ?_
        by_cases hjn : j = n
        · rw [hjn]; exact hn
        · exact h j (by omega)
      · exact .inr ⟨n, by omega, h, hn⟩
    · exact .inr ⟨k, by omega, h1, h2⟩
section
variable {o W : World} {X g h : Nat} {D M : List UInt8}
/-- A block's bytes. -/
def At (D : List UInt8) (a : Nat) (l : List UInt8) : Prop := ∀ j, j < 8 → D[a * 8 + j]? = l[j]?
theorem at_laid {a : Nat} {l : List UInt8} (hD : D.length = 64) (ha : a < 8) (hl : l.length = 8) : At (laid D a l) a l := by
  intro j hj
  rw [laid_get (by omega), if_pos (by omega), show a * 8 + j - a * 8 = j by omega]
theorem At.piece {a : Nat} {l : List UInt8} (h : At D a l) (hD : D.length = 64) (ha : a < 8) (hl : l.length = 8) : piece D a 1 = l := by
  apply List.ext_getElem?
  intro j
  by_cases hj : j < 8
  · rw [piece_get (by omega) (by omega)]
    exact h j hj
  · rw [List.getElem?_eq_none (by rw [piece_len (by omega)]; omega), List.getElem?_eq_none (by omega)]
theorem made (w : World) (hb : Below o.heap.size o w) : Calls Try.prog 8 #[.int .i64 8] w fun e w' => ∃ X g h D M, e = .returned (.tuple #[.pointer (some ⟨X, 0, none⟩), .int .i64 0]) ∧ Spc o w' X g h 8 D M := by
  refine (Spc.made 8 (by omega) (by omega) hb).mono ?_
  rintro e w' ⟨X, g, h, rfl, h1, _⟩
  exact ⟨X, g, h, _, _, rfl, h1⟩
theorem wr (a : Nat) (v : Value) (l : List UInt8) (hs : Spc o W X g h 8 D M) (hd : Sl W W.heap.size v l.length (bs l)) (hl : l.length = 8) (ha : a < 8) : Calls Try.prog 9 #[.pointer (some ⟨X, 0, none⟩), .int .i64 (a : Nat), v] W fun e w' => e = .returned (.int .i64 0) ∧ ∃ D M, Spc o w' X g h 8 D M ∧ At D a l := by
  refine (write_ok a 1 v l hs.inv hd hl (by omega) (by omega)).mono ?_
  rintro e w' ⟨rfl, M', h1, h3, h4⟩
  exact ⟨rfl, _, M', hs.to h3 h4, at_laid hs.inv.lenD ha hl⟩
theorem cmp_no (a k : Nat) (v : Value) (l x y : List UInt8) (hs : Spc o W X g h 8 D M) (hat : At D a l) (hd : Sl W W.heap.size v 16 (bs (x ++ y))) (hx : x.length = 8) (hy : y.length = 8) (ha : a < 8) (hk : k < 8) (h1 : ∀ j, j < k → l[j]? = x[j]?) (h2 : l[k]? ≠ x[k]?) : Calls Try.prog 10 #[.pointer (some ⟨X, 0, none⟩), .int .i64 (a : Nat), v] W fun e w' => e = .returned (.tuple #[.int .i64 (k : Nat), .int .i64 0]) ∧ W = w' := by
  have hl : (x ++ y).length = 16 := by rw [List.length_append]; omega
  refine compare_no a 1 k v (x ++ y) hs.inv (hl ▸ hd) hl (by omega) (by omega) (by omega) (fun j hj => ?_) ?_
  · rw [hat j (by omega), h1 j hj, List.getElem?_append_left (by omega)]
  · rw [hat k hk, List.getElem?_append_left (by omega)]
    exact h2
theorem cmp_yes (a : Nat) (v : Value) (x y : List UInt8) (hs : Spc o W X g h 8 D M) (hat : At D a x) (hd : Sl W W.heap.size v 16 (bs (x ++ y))) (hx : x.length = 8) (hy : y.length = 8) (ha : a < 8) : Calls Try.prog 10 #[.pointer (some ⟨X, 0, none⟩), .int .i64 (a : Nat), v] W fun e w' => e = .returned (.tuple #[.int .i64 (-1), .int .i64 0]) ∧ ∃ D M, Spc o w' X g h 8 D M ∧ At D a y ∧ Eff (SpS g h) W w' := by
  have hl : (x ++ y).length = 16 := by rw [List.length_append]; omega
  refine (compare_yes a 1 v (x ++ y) hs.inv (hl ▸ hd) hl (by omega) (by omega) (by omega) (fun j hj => ?_)).mono ?_
  · rw [hat j (by omega), List.getElem?_append_left (by omega)]
  · rintro e w' ⟨rfl, M', _, h3, h4⟩
    refine ⟨rfl, _, M', hs.to h3 h4, ?_, h4⟩
    rw [show (x ++ y).drop (1 * 8) = y by rw [List.drop_append_of_le_length (by omega), List.drop_of_length_le (by omega)]; rfl]
    exact at_laid hs.inv.lenD ha hy
theorem rd (a : Nat) (l : List UInt8) (hs : Spc o W X g h 8 D M) (hat : At D a l) (hl : l.length = 8) (ha : a < 8) : Calls Try.prog 11 #[.pointer (some ⟨X, 0, none⟩), .int .i64 (a : Nat), .int .i64 1] W fun e w' => ∃ b c, e = .returned (.tuple #[.slice (some ⟨b, 0, none⟩) 8 c, .int .i64 0]) ∧ 8 ≤ c ∧ c ≤ maxLen ∧ Spr o w' X g h 8 D M b c l ∧ Below W.heap.size W w' := by
  refine (read_s a 1 hs (by omega) (by omega) (by omega)).mono ?_
  rintro e w' ⟨b, c, rfl, hc1, hc2, h3, hb, _⟩
  rw [hat.piece hs.inv.lenD ha hl] at h3
  exact ⟨b, c, rfl, hc1, hc2, h3, hb⟩
end
theorem own_empty (w : World) : (w.alloc (.cells #[] 5)).ownsRow w.heap.size 5 1 (.slice (some ⟨w.heap.size, 0, none⟩) 0 0) 0 [] := own_mem (l := []) (Mem.new w 5 #[]) (Nat.le_refl _) rfl (Nat.zero_le _)
theorem str_ne {a b : List UInt8} {k : Nat} (h : a[k]? ≠ b[k]?) : (a == b) = false := by
  rw [beq_eq_false_iff_ne]
  intro e
  exact h (by rw [e])
theorem take_eq {a b : List UInt8} {k : Nat} (h : ∀ j, j < k → a[j]? = b[j]?) : b.take k = a.take k := by
  apply List.ext_getElem?
  intro j
  rw [List.getElem?_take, List.getElem?_take]
  by_cases hj : j < k
  · rw [if_pos hj, if_pos hj, h j hj]
  · rw [if_neg hj, if_neg hj]
theorem str {w : World} {v : Value} {n : Nat} {l : List UInt8} (h : Sl w w.heap.size v n (bs l)) (m : Nat) : (convert 22 9 v).run Try.prog (w.drewN m) = .ok (.string ⟨l.toArray⟩) (w.drewN m) :=
  bytes_str (P := Try.prog) (w.drewN m) 22 9 5 Try.underlying22 Try.underlying5 Try.underlying9 _ _ l n (h.drewN m)
set_option maxRecDepth 100000 in
set_option maxHeartbeats 1000000 in
theorem walk_ne (a k : Nat) (v1 v2 v3 : Value) (l1 l2 l3 : List UInt8) (w : World) (h1 : Sl w w.heap.size v1 8 (bs l1)) (h2 : Sl w w.heap.size v2 8 (bs l2)) (h3 : Sl w w.heap.size v3 8 (bs l3)) (ha : a < 8) (q1 : l1.length = 8) (q2 : l2.length = 8) (q3 : l3.length = 8) (hk : k < 8) (e1 : ∀ j, j < k → l1[j]? = l2[j]?) (e2 : l1[k]? ≠ l2[k]?) :
    Calls Try.prog 3 #[.int .i64 (a : Nat), v1, v2, v3] w fun e w' => e = .returned (.bool true) ∧ Below w.heap.size w w' := by
  obtain ⟨i0, hi0, hz0, hz1, hz2⟩ := info_parts (show (Try.prog.info? 5).map (fun i => (i.zero, i.size, i.bytes)) = some (some (.int .u8 0), 1, 1) by kernel_rfl)
  obtain ⟨A1, c1, rfl, f1, f2⟩ := h1.form
  obtain ⟨A2, c2, rfl, f3, f4⟩ := h2.form
  obtain ⟨A3, c3, rfl, _, _⟩ := h3.form
  obtain ⟨b1, o1, rfl, hbb1, hx1⟩ := h1.at_ (by omega)
  obtain ⟨b2, o2, rfl, hbb2, hx2⟩ := h2.at_ (by omega)
  have y1 := hx1 k _ (bs_get (show k < l1.length by omega))
  have y2 := hx2 k _ (bs_get (show k < l2.length by omega))
  have hkne : (((l1[k]'(by omega)).toNat : Int) == ((l2[k]'(by omega)).toNat : Int)) = false := by
    rw [beq_eq_false_iff_ne]
    intro e
    rw [List.getElem?_eq_getElem (by omega), List.getElem?_eq_getElem (by omega)] at e2
    exact e2 (congrArg some (UInt8.toNat_inj.1 (by omega)))
  have t1 := h1.take (show k ≤ 8 by omega)
  have t2 := h2.take (show k ≤ 8 by omega)
  rw [bs, ← List.map_take] at t1 t2
  rw [take_eq e1] at t2
  generalize (l1[k]'(by omega)).toNat = z1 at y1 hkne
  generalize (l2[k]'(by omega)).toNat = z2 at y2 hkne
  have hkn2 : ¬ (z1 : Int) = (z2 : Int) := by simpa using hkne
  have hkn3 : ((z1 : Int) != (z2 : Int)) = true := by simpa using hkn2
  have ha1 : ¬ (a : Int) < 0 := by omega
  have ha2 : ¬ 7 < (a : Int) := by omega
  have hk8 : (k : Int) < 8 := by omega
  have hwr := fun W X g h D M (hs : Spc w W X g h 8 D M) => wr a (.slice (some ⟨b1, o1, none⟩) 8 c1) l1 hs (by rw [q1]; exact h1.now hs.bl) q1 ha
  have hne := str_ne e2
  have hcm := fun W X g h D M v (hs : Spc w W X g h 8 D M) (hat : At D a l1) (hd : Sl W W.heap.size v 16 (bs (l2 ++ l3))) => cmp_no a k v l1 l2 l3 hs hat hd q2 q3 ha hk e1 e2
  have hrd := fun W X g h D M (hs : Spc w W X g h 8 D M) (hat : At D a l1) => rd a l1 hs hat q1 ha
  have HQ1 := Lib.hid q1
  have HQ2 := Lib.hid q2
  have HQ3 := Lib.hid q3
  have HE1 := Lib.hid e1
  have HE2 := Lib.hid e2
  clear q1 q2 q3 e1 e2
  go_enter Try.func3, Try.ntmps3
  go_wp2_with (first
    | (go_at_call 7; refine (known_any _).mono ?_; rintro e w1 ⟨rfl, hb1⟩)
    | (go_at_call 8; (with_reducible refine (made _ hb1).mono ?_); rintro e w2 ⟨X, g, h, D2, M2, rfl, hs2⟩)
    | (go_at_call 9; (with_reducible refine (hwr _ _ _ _ _ _ hs2).mono ?_); rintro e w3 ⟨rfl, D3, M3, hs3, hat3⟩)
    | (at_builtin; refine wpList_append_sl _ rfl (.tmp 49) (.tmp 50) _ rfl w3.heap.size 5 i0 _ Try.underlying22 hi0 hz0 hz1 (by omega) rfl (.slice (some ⟨w3.heap.size, 0, none⟩) 0 0) 0 [] rfl (own_empty w3) _ (.slice (some ⟨b2, o2, none⟩) 8 c2) 8 (bs l2) rfl (h2.now (hs3.bl.alloc hs3.bl.size _)) bs_one (by omega) (by simp) ?_; intro v4 w4 ho4 hg4 hx4; have hb4 : Below w3.heap.size w3 w4 := below_own ((Below.refl _ w3).alloc (Nat.le_refl _) _) hg4 (by simp) (fun k hk => by cases hk; exact Nat.le_refl _))
    | (at_builtin; refine wpList_append_sl _ rfl (.tmp 51) (.tmp 52) _ rfl w3.heap.size 5 i0 _ Try.underlying22 hi0 hz0 hz1 (by omega) rfl v4 (0 + 8) ([] ++ bs l2) rfl ho4 _ (.slice A3 8 c3) 8 (bs l3) rfl (h3.now (hs3.bl.trans (hb4.mono hs3.bl.size))) bs_one (by omega) hb4.size ?_; intro v5 w5 ho5 hg5 hx5; have hb5 : Below w3.heap.size w3 w5 := below_own hb4 hg5 hb4.size (own_from ho4); have hs5 := hs3.below hb5; have hd5 : Sl w5 w5.heap.size v5 16 (bs (l2 ++ l3)) := (by rw [bs_app]; exact Sl.of_own ho5))
    | (go_at_call 10; (with_reducible refine (hcm _ _ _ _ _ _ _ hs5 hat3 hd5).mono ?_); rintro e w6 ⟨rfl, rfl⟩)
    | (go_at_call 11; (with_reducible refine (hrd _ _ _ _ _ _ hs5 hat3).mono ?_); rintro e w7 ⟨b7, c7, rfl, g7, g8, hr7, hb7⟩; have s1 := bytes_str (P := Try.prog) w7 22 9 5 Try.underlying22 Try.underlying5 Try.underlying9 _ _ l1 8 (h1.now hr7.spc.bl); have s2 := bytes_str (P := Try.prog) w7 22 9 5 Try.underlying22 Try.underlying5 Try.underlying9 _ _ l2 8 (h2.now hr7.spc.bl); have z1c := (hr7.spc.bl.cell (p := ⟨b1, o1 + k, none⟩) hbb1).trans y1; have z2c := (hr7.spc.bl.cell (p := ⟨b2, o2 + k, none⟩) hbb2).trans y2))
  have s3 := str (t1.now hr7.spc.bl)
  have s4 := str (t2.now hr7.spc.bl)
  have s5 := str (h1.now hr7.spc.bl)
  have hsb := hr7.sl
  rw [HQ1.out] at hsb
  have s6 := str hsb
  clear s1 s2
  go_quiet (fail)
  go_wp2
  go_ret
  exact ⟨rfl, below_drewN hr7.spc.bl _⟩
-- GEN
set_option maxRecDepth 100000 in
set_option maxHeartbeats 1000000 in
theorem walk_eqT (a : Nat) (v1 v2 v3 : Value) (l2 : List UInt8) (w : World) (h1 : Sl w w.heap.size v1 8 (bs l2)) (h2 : Sl w w.heap.size v2 8 (bs l2)) (h3 : Sl w w.heap.size v3 8 (bs l2)) (ha : a < 8) (q2 : l2.length = 8) :
    Calls Try.prog 3 #[.int .i64 (a : Nat), v1, v2, v3] w fun e w' => e = .returned (.bool true) ∧ Below w.heap.size w w' := by
  obtain ⟨i0, hi0, hz0, hz1, hz2⟩ := info_parts (show (Try.prog.info? 5).map (fun i => (i.zero, i.size, i.bytes)) = some (some (.int .u8 0), 1, 1) by kernel_rfl)
  obtain ⟨A1, c1, rfl, f1, f2⟩ := h1.form
  obtain ⟨A2, c2, rfl, f3, f4⟩ := h2.form
  obtain ⟨A3, c3, rfl, _, _⟩ := h3.form
  obtain ⟨b1, o1, rfl, hbb1, hx1⟩ := h1.at_ (by omega)
  obtain ⟨b2, o2, rfl, hbb2, hx2⟩ := h2.at_ (by omega)
  have ha1 : ¬ (a : Int) < 0 := by omega
  have ha2 : ¬ 7 < (a : Int) := by omega
  have hwr := fun W X g h D M (hs : Spc w W X g h 8 D M) => wr a (.slice (some ⟨b1, o1, none⟩) 8 c1) l2 hs (by rw [q2]; exact h1.now hs.bl) q2 ha
  have hcm := fun W X g h D M v (hs : Spc w W X g h 8 D M) (hat : At D a l2) (hd : Sl W W.heap.size v 16 (bs (l2 ++ l2))) => cmp_yes a v l2 l2 hs hat hd q2 q2 ha
  have hrd := fun W X g h D M (hs : Spc w W X g h 8 D M) (hat : At D a l2) => rd a l2 hs hat q2 ha
  have hc2 := fun W X g h D M v (hs : Spc w W X g h 8 D M) (hat : At D a l2) (hd : Sl W W.heap.size v 16 (bs (l2 ++ l2))) => cmp_yes a v l2 l2 hs hat hd q2 q2 ha
  have HQ3 := Lib.hid q2
  clear q2
  go_enter Try.func3, Try.ntmps3
  go_wp2_with (first
    | (go_at_call 7; refine (known_any _).mono ?_; rintro e w1 ⟨rfl, hb1⟩)
    | (go_at_call 8; (with_reducible refine (made _ hb1).mono ?_); rintro e w2 ⟨X, g, h, D2, M2, rfl, hs2⟩)
    | (go_at_call 9; (with_reducible refine (hwr _ _ _ _ _ _ hs2).mono ?_); rintro e w3 ⟨rfl, D3, M3, hs3, hat3⟩)
    | (at_builtin; refine wpList_append_sl _ rfl (.tmp 49) (.tmp 50) _ rfl w3.heap.size 5 i0 _ Try.underlying22 hi0 hz0 hz1 (by omega) rfl (.slice (some ⟨w3.heap.size, 0, none⟩) 0 0) 0 [] rfl (own_empty w3) _ (.slice (some ⟨b2, o2, none⟩) 8 c2) 8 (bs l2) rfl (h2.now (hs3.bl.alloc hs3.bl.size _)) bs_one (by omega) (by simp) ?_; intro v4 w4 ho4 hg4 hx4; have hb4 : Below w3.heap.size w3 w4 := below_own ((Below.refl _ w3).alloc (Nat.le_refl _) _) hg4 (by simp) (fun k hk => by cases hk; exact Nat.le_refl _))
    | (at_builtin; refine wpList_append_sl _ rfl (.tmp 51) (.tmp 52) _ rfl w3.heap.size 5 i0 _ Try.underlying22 hi0 hz0 hz1 (by omega) rfl v4 (0 + 8) ([] ++ bs l2) rfl ho4 _ (.slice A3 8 c3) 8 (bs l2) rfl (h3.now (hs3.bl.trans (hb4.mono hs3.bl.size))) bs_one (by omega) hb4.size ?_; intro v5 w5 ho5 hg5 hx5; have hb5 : Below w3.heap.size w3 w5 := below_own hb4 hg5 hb4.size (own_from ho4); have hs5 := hs3.below hb5; have hd5 : Sl w5 w5.heap.size v5 16 (bs (l2 ++ l2)) := (by rw [bs_app]; exact Sl.of_own ho5))
    | (go_at_call 10; have hr7' := hr7; clear hr7'; (with_reducible refine (hc2 _ _ _ _ _ _ _ hr7.spc hat6 (hd6.now hb7)).mono ?_); rintro e w8 ⟨rfl, D8, M8, hs8, hat8, he8⟩; have hr8 := hr7.to hs8.inv he8; have hsb := hr8.sl; rw [HQ3.out] at hsb; have s1 := bytes_str (P := Try.prog) _ 22 9 5 Try.underlying22 Try.underlying5 Try.underlying9 _ _ l2 8 (h3.now hr8.spc.bl); have s2 := bytes_str (P := Try.prog) _ 22 9 5 Try.underlying22 Try.underlying5 Try.underlying9 _ _ l2 8 (h2.now hr8.spc.bl); have s3 := bytes_str (P := Try.prog) _ 22 9 5 Try.underlying22 Try.underlying5 Try.underlying9 _ _ l2 8 hsb)
    | (go_at_call 10; (with_reducible refine (hcm _ _ _ _ _ _ _ hs5 hat3 hd5).mono ?_); rintro e w6 ⟨rfl, D6, M6, hs6, hat6, he6⟩; have hd6 : Sl w6 w6.heap.size v5 16 (bs (l2 ++ l2)) := (by rw [bs_app]; refine Sl.of_own (owns_eff ho5 he6 fun k hk hS => ?_); have hl1 := hs3.inv.data.lt; have hl2 := hs3.inv.map.lt; have hl3 := own_from ho5 k hk; rcases hS with e | e <;> omega))
    | (go_at_call 11; (with_reducible refine (hrd _ _ _ _ _ _ hs6 hat6).mono ?_); rintro e w7 ⟨b7, c7, rfl, g7, g8, hr7, hb7⟩; have s1 := bytes_str (P := Try.prog) w7 22 9 5 Try.underlying22 Try.underlying5 Try.underlying9 _ _ l2 8 (h1.now hr7.spc.bl); have s2 := bytes_str (P := Try.prog) w7 22 9 5 Try.underlying22 Try.underlying5 Try.underlying9 _ _ l2 8 (h2.now hr7.spc.bl)))
  go_ret
  exact ⟨rfl, hr8.spc.bl⟩
set_option maxRecDepth 100000 in
set_option maxHeartbeats 1000000 in
theorem walk_eqF (a : Nat) (k : Nat) (v1 v2 v3 : Value) (l2 l3 : List UInt8) (w : World) (h1 : Sl w w.heap.size v1 8 (bs l2)) (h2 : Sl w w.heap.size v2 8 (bs l2)) (h3 : Sl w w.heap.size v3 8 (bs l3)) (ha : a < 8) (q2 : l2.length = 8) (q3 : l3.length = 8) (hk : k < 8) (e1 : ∀ j, j < k → l3[j]? = l2[j]?) (e2 : l3[k]? ≠ l2[k]?) :
    Calls Try.prog 3 #[.int .i64 (a : Nat), v1, v2, v3] w fun e w' => e = .returned (.bool true) ∧ Below w.heap.size w w' := by
  obtain ⟨i0, hi0, hz0, hz1, hz2⟩ := info_parts (show (Try.prog.info? 5).map (fun i => (i.zero, i.size, i.bytes)) = some (some (.int .u8 0), 1, 1) by kernel_rfl)
  obtain ⟨A1, c1, rfl, f1, f2⟩ := h1.form
  obtain ⟨A2, c2, rfl, f3, f4⟩ := h2.form
  obtain ⟨A3, c3, rfl, _, _⟩ := h3.form
  obtain ⟨b1, o1, rfl, hbb1, hx1⟩ := h1.at_ (by omega)
  obtain ⟨b2, o2, rfl, hbb2, hx2⟩ := h2.at_ (by omega)
  have ha1 : ¬ (a : Int) < 0 := by omega
  have ha2 : ¬ 7 < (a : Int) := by omega
  have hne := str_ne e2
  have hk0 : ¬ (k : Int) < 0 := by omega
  have hwr := fun W X g h D M (hs : Spc w W X g h 8 D M) => wr a (.slice (some ⟨b1, o1, none⟩) 8 c1) l2 hs (by rw [q2]; exact h1.now hs.bl) q2 ha
  have hcm := fun W X g h D M v (hs : Spc w W X g h 8 D M) (hat : At D a l2) (hd : Sl W W.heap.size v 16 (bs (l2 ++ l3))) => cmp_yes a v l2 l3 hs hat hd q2 q3 ha
  have hrd := fun W X g h D M (hs : Spc w W X g h 8 D M) (hat : At D a l3) => rd a l3 hs hat q3 ha
  have hc2 := fun W X g h D M v (hs : Spc w W X g h 8 D M) (hat : At D a l3) (hd : Sl W W.heap.size v 16 (bs (l2 ++ l3))) => cmp_no a k v l3 l2 l3 hs hat hd q2 q3 ha hk e1 e2
  have HQ3 := Lib.hid q3
  have HE1 := Lib.hid e1
  have HE2 := Lib.hid e2
  clear q2 q3 e1 e2
  go_enter Try.func3, Try.ntmps3
  go_wp2_with (first
    | (go_at_call 7; refine (known_any _).mono ?_; rintro e w1 ⟨rfl, hb1⟩)
    | (go_at_call 8; (with_reducible refine (made _ hb1).mono ?_); rintro e w2 ⟨X, g, h, D2, M2, rfl, hs2⟩)
    | (go_at_call 9; (with_reducible refine (hwr _ _ _ _ _ _ hs2).mono ?_); rintro e w3 ⟨rfl, D3, M3, hs3, hat3⟩)
    | (at_builtin; refine wpList_append_sl _ rfl (.tmp 49) (.tmp 50) _ rfl w3.heap.size 5 i0 _ Try.underlying22 hi0 hz0 hz1 (by omega) rfl (.slice (some ⟨w3.heap.size, 0, none⟩) 0 0) 0 [] rfl (own_empty w3) _ (.slice (some ⟨b2, o2, none⟩) 8 c2) 8 (bs l2) rfl (h2.now (hs3.bl.alloc hs3.bl.size _)) bs_one (by omega) (by simp) ?_; intro v4 w4 ho4 hg4 hx4; have hb4 : Below w3.heap.size w3 w4 := below_own ((Below.refl _ w3).alloc (Nat.le_refl _) _) hg4 (by simp) (fun k hk => by cases hk; exact Nat.le_refl _))
    | (at_builtin; refine wpList_append_sl _ rfl (.tmp 51) (.tmp 52) _ rfl w3.heap.size 5 i0 _ Try.underlying22 hi0 hz0 hz1 (by omega) rfl v4 (0 + 8) ([] ++ bs l2) rfl ho4 _ (.slice A3 8 c3) 8 (bs l3) rfl (h3.now (hs3.bl.trans (hb4.mono hs3.bl.size))) bs_one (by omega) hb4.size ?_; intro v5 w5 ho5 hg5 hx5; have hb5 : Below w3.heap.size w3 w5 := below_own hb4 hg5 hb4.size (own_from ho4); have hs5 := hs3.below hb5; have hd5 : Sl w5 w5.heap.size v5 16 (bs (l2 ++ l3)) := (by rw [bs_app]; exact Sl.of_own ho5))
    | (go_at_call 10; have hr7' := hr7; clear hr7'; (with_reducible refine (hc2 _ _ _ _ _ _ _ hr7.spc hat6 (hd6.now hb7)).mono ?_); rintro e w8 ⟨rfl, rfl⟩; have hr8 := hr7; have hsb := hr8.sl; rw [HQ3.out] at hsb; have s1 := bytes_str (P := Try.prog) _ 22 9 5 Try.underlying22 Try.underlying5 Try.underlying9 _ _ l3 8 (h3.now hr8.spc.bl); have s2 := bytes_str (P := Try.prog) _ 22 9 5 Try.underlying22 Try.underlying5 Try.underlying9 _ _ l2 8 (h2.now hr8.spc.bl); have s3 := bytes_str (P := Try.prog) _ 22 9 5 Try.underlying22 Try.underlying5 Try.underlying9 _ _ l3 8 hsb)
    | (go_at_call 10; (with_reducible refine (hcm _ _ _ _ _ _ _ hs5 hat3 hd5).mono ?_); rintro e w6 ⟨rfl, D6, M6, hs6, hat6, he6⟩; have hd6 : Sl w6 w6.heap.size v5 16 (bs (l2 ++ l3)) := (by rw [bs_app]; refine Sl.of_own (owns_eff ho5 he6 fun k hk hS => ?_); have hl1 := hs3.inv.data.lt; have hl2 := hs3.inv.map.lt; have hl3 := own_from ho5 k hk; rcases hS with e | e <;> omega))
    | (go_at_call 11; (with_reducible refine (hrd _ _ _ _ _ _ hs6 hat6).mono ?_); rintro e w7 ⟨b7, c7, rfl, g7, g8, hr7, hb7⟩; have s1 := bytes_str (P := Try.prog) w7 22 9 5 Try.underlying22 Try.underlying5 Try.underlying9 _ _ l2 8 (h1.now hr7.spc.bl); have s2 := bytes_str (P := Try.prog) w7 22 9 5 Try.underlying22 Try.underlying5 Try.underlying9 _ _ l2 8 (h2.now hr7.spc.bl)))
  go_ret
  exact ⟨rfl, hr8.spc.bl⟩
theorem walk (at_ : Int) (v1 : Value) (l1 : List UInt8) (v2 : Value) (l2 : List UInt8) (v3 : Value) (l3 : List UInt8) (w : World) (_ : -9223372036854775808 ≤ at_) (_ : at_ ≤ 9223372036854775807) (h1 : Sl w w.heap.size v1 l1.length (bs l1)) (h2 : Sl w w.heap.size v2 l2.length (bs l2)) (h3 : Sl w w.heap.size v3 l3.length (bs l3)) :
    Calls Try.prog 3 #[.int .i64 at_, v1, v2, v3] w fun e w' => e = .returned (.bool true) ∧ Below w.heap.size w w' := by
  by_cases hno : at_ < 0 ∨ 7 < at_ ∨ l1.length ≠ 8 ∨ l2.length ≠ 8 ∨ l3.length ≠ 8
  · exact walk_no at_ v1 v2 v3 l1 l2 l3 w h1 h2 h3 hno
  obtain ⟨a, rfl⟩ : ∃ a : Nat, at_ = a := ⟨at_.toNat, by omega⟩
  have q1 : l1.length = 8 := by omega
  have q2 : l2.length = 8 := by omega
  have q3 : l3.length = 8 := by omega
  rw [q1] at h1
  rw [q2] at h2
  rw [q3] at h3
  have same : ∀ x y : List UInt8, x.length = 8 → y.length = 8 → (∀ j, j < 8 → x[j]? = y[j]?) → x = y := by
    intro x y hx hy h
    apply List.ext_getElem?
    intro j
    by_cases hj : j < 8
    · exact h j hj
    · rw [List.getElem?_eq_none (by omega), List.getElem?_eq_none (by omega)]
  rcases first_diff l1 l2 8 with h | ⟨k, hk, e1, e2⟩
  · obtain rfl := same l1 l2 q1 q2 h
    rcases first_diff l3 l1 8 with h' | ⟨k, hk, e1, e2⟩
    · obtain rfl := same l3 l1 q3 q1 h'
      exact walk_eqT a v1 v2 v3 l3 w h1 h2 h3 (by omega) q1
    · exact walk_eqF a k v1 v2 v3 l1 l3 w h1 h2 h3 (by omega) q1 q3 hk e1 e2
  · exact walk_ne a k v1 v2 v3 l1 l2 l3 w h1 h2 h3 (by omega) q1 q2 q3 hk e1 e2
set_option maxRecDepth 100000 in
theorem lifted (os : Os) (started : os.Started) (H : Type) (enc : TypeId × Value → H) :
    ReturnsInHanded {} Try.checked os 3 .any (Rows.spaceOnceSpec.pre6 enc Try.prog Try.f3 Rows.spaceOnceRow.domain false) (Rows.spaceOnceSpec.post enc Try.prog Try.f3 false true false false) := by
  refine returnsInHanded_of_change (C := Try.checked) own started (by kernel_rfl) Try.func3
    (ChangeSpec.witness6 (enc := enc) (C := Try.checked) false ⟨#[], #[.int .i64 0, .slice none 0 0, .slice none 0 0, .slice none 0 0], []⟩ 8 (by kernel_rfl) (by kernel_rfl) (by kernel_rfl) (by kernel_rfl)) ?_
  intro W base args ds gs before hval0 hW hcnd _
  have hval : ∀ (j : Nat) t v, Try.f3.params[j]? = some t → args[j]? = some v → Value.okWide Try.prog W .any base t v := hval0
  have hW' := hW
  obtain ⟨p, q, hA0, hV, rfl, hfz, hnd⟩ := hW
  have hA : DataW.TrodAll enc Try.prog W 0 (fun _ => true) true Try.f3.params.toList args.toList ds p := hA0
  rw [Try.params3] at hA hval
  obtain ⟨v0, vs0, d0, ds0, p0, q0, hargs, rfl, rfl, h0, r0⟩ := trodAll_cons hA
  obtain ⟨v1, vs1, d1, ds1, p1, q1, rfl, rfl, rfl, h1, r1⟩ := trodAll_cons r0
  obtain ⟨v2, vs2, d2, ds2, p2, q2, rfl, rfl, rfl, h2, r2⟩ := trodAll_cons r1
  obtain ⟨v3, vs3, d3, ds3, p3, q3, rfl, rfl, rfl, h3, r3⟩ := trodAll_cons r2
  obtain ⟨rfl, rfl, rfl⟩ := trodAll_nil r3
  obtain rfl : args = #[v0, v1, v2, v3] := by cases args; simp_all
  obtain ⟨rfl, rfl⟩ := trodVars_none hV
  obtain ⟨a0, rfl, _, _, w0⟩ := open_int Try.underlying3 (hval 0 3 v0 rfl rfl) h0
  have b0 := bounds_i64 w0
  obtain ⟨l1, s1, e1⟩ := open_bytes Try.underlying22 Try.underlying5 (by kernel_rfl) (hval 1 22 v1 rfl rfl) h1
  obtain ⟨l2, s2, e2⟩ := open_bytes Try.underlying22 Try.underlying5 (by kernel_rfl) (hval 2 22 v2 rfl rfl) h2
  obtain ⟨l3, s3, e3⟩ := open_bytes Try.underlying22 Try.underlying5 (by kernel_rfl) (hval 3 22 v3 rfl rfl) h3
  refine (walk a0 v1 l1 v2 l2 v3 l3 W b0.1 b0.2 s1 s2 s3).mono fun e W' ⟨he, hb⟩ => ?_
  subst he
  exact ⟨_, rfl, law_post laidOut (by kernel_rfl) rfl (by kernel_rfl) Try.underlying4 rfl rfl rfl hW' hb⟩

theorem proved : Rows.SpaceOnceSaid :=
  OpenClaim.holds_of_wide 3 Try.f3 rfl rfl rfl rfl rfl rfl rfl ⟨rfl, rfl, rfl, rfl, rfl⟩ rfl rfl rfl rfl rfl (by kernel_rfl) Try.func3 (by kernel_rfl)
    (of_decide_eq_true (by kernel_rfl)) (by unfold Func.isWrapper; first | (rw [if_pos (by decide +kernel)]; kernel_rfl) | (rw [if_neg (by decide +kernel)]; exact ⟨rfl, rfl⟩))
    (fun os started H enc _ => lifted os started H enc)
end Once
end Go.Proofs.Ytchlfadhlakgkaa
