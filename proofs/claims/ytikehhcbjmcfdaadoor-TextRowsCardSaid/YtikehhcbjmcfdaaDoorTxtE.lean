/- Package text: Encode: contract. -/
import Derived.Test.YtikehhcbjmcfdaaDoorTxtR
import Derived.Lib.AppendStr
namespace Go.Proofs.YtikehhcbjmcfdaaDoor
open Go.ChangeShapes Go.WideShapes Go.ChangeAt Go.RowKit
set_option linter.unusedVariables false
/-- The bytes of a pair, of pairs. -/
def encP (p : ByteArray × ByteArray) : List UInt8 := p.1.data.toList ++ [61] ++ p.2.data.toList ++ [0]
def encS (l : List (ByteArray × ByteArray)) : List UInt8 := (l.map encP).flatten
theorem encS_snoc (l : List (ByteArray × ByteArray)) {k : Nat} {p : ByteArray × ByteArray} (h : l[k]? = some p) : encS (l.take (k + 1)) = encS (l.take k) ++ encP p := by
  obtain ⟨hk, e⟩ := List.getElem?_eq_some_iff.1 h
  unfold encS
  rw [List.take_succ_eq_append_getElem hk, e]
  simp
theorem encP_len (p : ByteArray × ByteArray) : (encP p).length = p.1.size + 1 + p.2.size + 1 := by
  unfold encP
  simp
  omega
theorem Mem.grown {w w' : World} {g t : Nat} {cs : Array Value} {row : Option Nat} (h : Mem w g t cs) (hg : w.grownBy w' row) (hne : some g ≠ row) : Mem w' g t cs := (hg.block g h.lt hne).trans h
theorem own_ne {w : World} {base e n g t : Nat} {v : Value} {xs : List Value} {cs : Array Value} (h : w.ownsRow base e 1 v n xs) (m : Mem w g t cs) (hne : t ≠ e) : some g ≠ v.ownBlock := by
  rcases h.2 with ⟨rfl, _⟩ | ⟨g', cap, cur, rfl, _, hg, _⟩
  · simp [Value.ownBlock]
  · intro e'
    have e2 : g = g' := by simpa [Value.ownBlock] using e'
    subst e2
    unfold Mem at m
    rw [hg] at m
    injection m with m
    injection m with _ m2 _
    exact hne m2.symm
theorem strCells_bs (s : ByteArray) : Lib.strCells s = bs s.data.toList := rfl
theorem right_sizes : ∀ (l : List (ByteArray × ByteArray)) (seen : List (List UInt8)), rightS l seen = true → ∀ p ∈ l, p.1.size ≤ 63 ∧ p.2.size ≤ 255 := by
  intro l
  induction l with
  | nil => intro _ _ p hp; cases hp
  | cons q l ih =>
    intro seen h p hp
    unfold rightS at h
    rw [Bool.and_eq_true, Bool.and_eq_true, Bool.and_eq_true] at h
    obtain ⟨⟨⟨h1, h2⟩, _⟩, h4⟩ := h
    rcases List.mem_cons.1 hp with rfl | hp
    · unfold keyS at h1
      unfold valueS at h2
      simp only [Bool.and_eq_true, decide_eq_true_eq] at h1 h2
      have e1 : p.1.data.toList.length = p.1.size := by simp
      have e2 : p.2.data.toList.length = p.2.size := by simp
      omega
    · exact ih _ h4 p hp
theorem encS_le : ∀ (l : List (ByteArray × ByteArray)), (∀ p ∈ l, p.1.size ≤ 63 ∧ p.2.size ≤ 255) → (encS l).length ≤ 320 * l.length := by
  intro l
  induction l with
  | nil => intro _; simp [encS]
  | cons q l ih =>
    intro h
    have h1 := h q (List.mem_cons_self ..)
    have h2 := ih fun p hp => h p (List.mem_cons_of_mem _ hp)
    have e : encS (q :: l) = encP q ++ encS l := by simp [encS]
    rw [e, List.length_append, encP_len, List.length_cons]
    omega
/-- What Encode tells: its error, its bytes. -/
def encE (l : List (ByteArray × ByteArray)) : Nat := if rightS l [] then (if (encS l).length ≤ 4096 then 0 else 5) else 1
def encB (l : List (ByteArray × ByteArray)) : List UInt8 := if encE l = 0 then encS l else []
theorem Text.ownsRow_len {w : World} {base e n n' : Nat} {v : Value} {xs ys : List Value} (h : w.ownsRow base e 1 v n xs) (hn : n = n') (he : xs = ys) : w.ownsRow base e 1 v n' ys := by subst hn; subst he; exact h
set_option maxHeartbeats 2000000 in
theorem Encode_any (v : Value) (l : List (ByteArray × ByteArray)) (w : World) (hv : Pr w w.heap.size v l) (hl : l.length ≤ 1000000) :
    Calls Tryd.prog 13 #[v] w fun e w' => ∃ v' c, e = .returned (.tuple #[v', .int .i64 c]) ∧ c = (encE l : Int) ∧ Sl w' w'.heap.size v' (encB l).length (bs (encB l)) ∧ Below w.heap.size w w' := by
  have hrc := right_any v l w hv
  obtain ⟨A, c, rfl, hc1, hc2⟩ := hv.form
  unfold maxLen at hc2
  obtain ⟨i0, hi, hz0, hz1, hz2⟩ := info_parts (show (Tryd.prog.info? 5).map (fun i => (i.zero, i.size, i.bytes)) = some (some (.int .u8 0), 1, 1) by kernel_rfl)
  by_cases hR : rightS l [] = true
  · rw [hR] at hrc
    have hss := right_sizes l [] hR
    go_enter Tryd.func13, Tryd.ntmps13
    go_wp2_with (go_at_call 22; refine hrc.mono ?_; rintro e w0 ⟨rfl, hb0⟩)
    go_loopw [4, 12] (fun v i wr => ∃ k : Nat, k ≤ l.length ∧ i = .int .i64 k ∧ wr.ownsRow w.heap.size 5 1 v (encS (l.take k)).length (bs (encS (l.take k))) ∧ Below w.heap.size w wr) (fun _ i _ => l.length - (intOf i).toNat)
    case atStart => exact ⟨0, Nat.zero_le _, rfl, World.ownsRow_nil _ _ _ _, hb0⟩
    case round =>
      obtain ⟨k, hk, rfl, hown, hb⟩ := hrel
      have hle : (encS (l.take k)).length ≤ 320 * k := by
        have := encS_le (l.take k) fun p hp => hss p (List.mem_of_mem_take hp)
        rw [List.length_take, Nat.min_eq_left hk] at this
        exact this
      by_cases hlt : k < l.length
      · obtain ⟨b, off, rfl, hbB, hcell⟩ := (hv.below hb).at_ (by omega)
        obtain ⟨p, hp⟩ : ∃ p, p = l[k] := ⟨_, rfl⟩
        have hpk : l[k]? = some p := by rw [hp, List.getElem?_eq_getElem hlt]
        obtain ⟨hx0, hx1⟩ := hcell k p hpk
        obtain ⟨hs1, hs2⟩ := hss p (by rw [hp]; exact List.getElem_mem hlt)
        have HS := Lib.hid (encS_snoc l hpk)
        have hwr := hb.size
        clear hcell hpk hp hss hR
        generalize encS (l.take k) = X at *
        obtain ⟨A1, c1, rfl, hc3, hc4⟩ := (Sl.of_own hown).form
        have hm := Mem.new wr 34 #[.string p.1, .string p.2]
        go_wp2_with (first
          | (at_builtin; with_reducible refine Lib.wpList_append_own_string _ rfl (.tmp 16) (.tmp 18) _ _ rfl w.heap.size 5 i0 Tryd.underlying35 Tryd.underlying9 hi hz0 hz1 hz2 (.slice A1 X.length c1) X.length (bs X) rfl (hown.alloc _) p.1 rfl (by unfold maxLen; omega) (by omega) (by simp; omega) ?_; intro v1 w1 ho1 hg1 _; have hb1 : Below w.heap.size w w1 := below_own (hb.alloc hb.size _) hg1 (by simp; omega) (fun k hk => (hown.lt k hk).1); have hm1 := hm.grown hg1 (own_ne (hown.alloc _) hm (by decide)); have hw1 := hb1.size; have hm1a := hm1.alloc (.cells #[.int .u8 61] 5))
          | (at_builtin; with_reducible refine wpList_append_sl _ rfl (.tmp 20) (.tmp 21) _ rfl w.heap.size 5 i0 _ Tryd.underlying35 hi hz0 hz1 (by omega) rfl v1 (X.length + p.1.size) _ rfl (ho1.alloc _) _ _ 1 _ rfl (Sl.fresh w1 #[.int .u8 61] 5 rfl (by decide)) (by simp [Value.oneCell']) (by omega) (by simp; omega) ?_; intro v2 w2 ho2 hg2 _; have hb2 : Below w.heap.size w w2 := below_own (hb1.alloc hb1.size _) hg2 (by simp; omega) (fun k hk => (ho1.lt k hk).1); have hm2 := hm1a.grown hg2 (own_ne (ho1.alloc _) hm1a (by decide)); have hx2 := hm2.cell 1; have hw2 := hb2.size; simp at hx2)
          | (at_builtin; with_reducible refine Lib.wpList_append_own_string _ rfl (.tmp 23) (.tmp 25) _ _ rfl w.heap.size 5 i0 Tryd.underlying35 Tryd.underlying9 hi hz0 hz1 hz2 v2 (X.length + p.1.size + 1) _ rfl ho2 p.2 rfl (by unfold maxLen; omega) (by omega) (by omega) ?_; intro v3 w3 ho3 hg3 _; have hb3 : Below w.heap.size w w3 := below_own hb2 hg3 hb2.size (fun k hk => (ho2.lt k hk).1); have hw3 := hb3.size)
          | (at_builtin; with_reducible refine wpList_append_sl _ rfl (.tmp 27) (.tmp 28) _ rfl w.heap.size 5 i0 _ Tryd.underlying35 hi hz0 hz1 (by omega) rfl v3 (X.length + p.1.size + 1 + p.2.size) _ rfl (ho3.alloc _) _ _ 1 _ rfl (Sl.fresh w3 #[.int .u8 0] 5 rfl (by decide)) (by simp [Value.oneCell']) (by omega) (by simp; omega) ?_; intro v4 w4 ho4 hg4 _; have hb4 : Below w.heap.size w w4 := below_own (hb3.alloc hb3.size _) hg4 (by simp; omega) (fun k hk => (ho3.lt k hk).1)))
        refine ⟨⟨k + 1, by omega, by go_num, ?_, hb4⟩, by simp [intOf]; omega⟩
        rw [HS.out]
        refine Text.ownsRow_len ho4 (by rw [List.length_append, encP_len]; omega) ?_
        rw [encP, strCells_bs, strCells_bs, bs_app, bs_app, bs_app, bs_app]
        simp only [List.append_assoc]
        rfl
      · obtain rfl : k = l.length := by omega
        rw [List.take_length] at hown hle
        obtain ⟨A1, c1, rfl, hc3, hc4⟩ := (Sl.of_own hown).form
        have hS := (Sl.of_own hown)
        by_cases h4 : (encS l).length ≤ 4096
        · have hE : encE l = 0 := by unfold encE; rw [if_pos hR, if_pos h4]
          have hB : encB l = encS l := by unfold encB; rw [if_pos hE]
          have HE := Lib.hid hE
          have HB := Lib.hid hB
          clear hE hB
          go_wp2
          exact bodyPost_ret (v := .tuple #[.slice A1 (encS l).length c1, .int .i64 0]) (by simp [results, Tryd.results13, go_sem]) rfl ⟨_, _, rfl, by rw [HE.out]; rfl, by rw [HB.out]; exact hS, hb⟩
        · have hE : encE l = 5 := by unfold encE; rw [if_pos hR, if_neg h4]
          have hB : encB l = [] := by unfold encB; rw [if_neg (by omega)]
          have HE := Lib.hid hE
          have HB := Lib.hid hB
          clear hE hB
          go_wp2
          exact bodyPost_ret (v := .tuple #[.slice none 0 0, .int .i64 5]) (by simp [results, Tryd.results13, go_sem]) rfl ⟨_, _, rfl, by rw [HE.out]; rfl, by rw [HB.out]; exact Sl.nil_, hb⟩
  · rw [Bool.not_eq_true] at hR
    rw [hR] at hrc
    have hE : encE l = 1 := by unfold encE; rw [if_neg (by rw [hR]; decide)]
    have hB : encB l = [] := by unfold encB; rw [if_neg (by omega)]
    rw [hE, hB]
    clear hE hB
    go_enter Tryd.func13, Tryd.ntmps13
    go_wp2_with (go_at_call 22; refine hrc.mono ?_; rintro e w0 ⟨rfl, hb0⟩)
    exact bodyPost_ret (v := .tuple #[.slice none 0 0, .int .i64 1]) (by simp [results, Tryd.results13, go_sem]) rfl ⟨_, _, rfl, rfl, Sl.nil_, hb0⟩
end Go.Proofs.YtikehhcbjmcfdaaDoor
