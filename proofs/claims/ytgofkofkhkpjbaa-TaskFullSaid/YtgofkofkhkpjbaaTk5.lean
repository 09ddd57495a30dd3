/- Package task: Waiting, Contains, Start, Done, Abort: contracts. -/
import Derived.Test.YtgofkofkhkpjbaaTk4
namespace Go.Proofs.Ytgofkofkhkpjbaa
open Go.ChangeShapes Go.WideShapes Go.ChangeAt Go.RowKit Go.Lib
set_option linter.unusedVariables false
set_option linter.unusedSimpArgs false
namespace Tk
section
variable {w w' : World} {B X m : Nat} {v : Value} {L : List Tk}
set_option maxRecDepth 1000000 in
set_option maxHeartbeats 8000000 in
theorem waiting_any (h : TkM w B X m v L) : Calls Try.prog 13 #[.pointer (some ⟨X, 0, none⟩)] w fun e w' => ∃ v', e = .returned v' ∧ w'.ownsRow w.heap.size 28 1 v' (waTo L L.length).length (us (waTo L L.length)) ∧ Below w.heap.size w w' := by
  obtain ⟨A, c, rfl, hc1, hc2⟩ := h.parts
  have x1 := h.mem.cell 1
  have hfew := h.few
  have ho := h.row
  obtain ⟨iu, hiu, hzu, hsu, hbu⟩ := u32_info
  go_enter Try.func13, Try.ntmps13
  go_wp2
  go_loopw [3, 11] (fun s3 s11 wr => ∃ (j : Nat) (A3 : Option Addr) (c3 : Nat), j ≤ L.length ∧ s11 = .int .i64 (j : Nat) ∧ s3 = .slice A3 (waTo L j).length c3 ∧ Hid (wr.ownsRow w.heap.size 28 1 (.slice A3 (waTo L j).length c3) (waTo L j).length (us (waTo L j))) ∧ Below w.heap.size w wr) (fun _ s11 _ => L.length - (intOf s11).toNat)
  case atStart => exact ⟨0, none, 0, Nat.zero_le _, rfl, rfl, Lib.hid (World.ownsRow_nil _ _ _ _), Below.refl _ w⟩
  case round =>
    obtain ⟨j, A3, c3, hj, rfl, rfl, HO, hB⟩ := hrel
    by_cases hlt : j < L.length
    · have hltx : (j : Int) < (L.length : Int) := by omega
      obtain ⟨g, rfl, hBg, hgl, y0, y1, y2⟩ := row_at ho hlt
      replace y0 := (hB.cell (p := ⟨g, j * 3, none⟩) hgl).trans y0
      replace y1 := (hB.cell (p := ⟨g, j * 3 + 1, none⟩) hgl).trans y1
      replace y2 := (hB.cell (p := ⟨g, j * 3 + 2, none⟩) hgl).trans y2
      have hey := waTo_yes L j hlt
      have hen := waTo_no L j hlt
      have hle := waTo_le L j
      generalize L[j] = t at *
      obtain ⟨tg, at_, st⟩ := t
      simp only at y0 y1 y2 hey hen
      obtain ⟨o1, ho1⟩ : ∃ o1, o1 = Obj.cells #[.int .u32 (tg : Nat), .int .i64 at_, .bool st] 42 := ⟨_, rfl⟩
      have B1 : Below w.heap.size w (wr.alloc o1) := hB.alloc hB.size o1
      have HO1 := owns_below HO.out ((Below.refl wr.heap.size wr).alloc (Nat.le_refl _) o1)
      have HO2 := owns_below HO1 ((Below.refl (wr.alloc o1).heap.size (wr.alloc o1)).alloc (Nat.le_refl _) (.cells #[.int .u32 (tg : Nat)] 28))
      have B2 : Below w.heap.size w ((wr.alloc o1).alloc (.cells #[.int .u32 (tg : Nat)] 28)) := B1.alloc B1.size _
      have M2 := Mem.new (wr.alloc o1) 28 #[.int .u32 (tg : Nat)]
      have hnews : ∀ k u, [Value.int .u32 (tg : Nat)][k]? = some u → ((wr.alloc o1).alloc (.cells #[.int .u32 (tg : Nat)] 28)).cell? ((⟨(wr.alloc o1).heap.size, 0, none⟩ : Addr).add k) = some u := fun k u hk => by
        rw [add_plain, M2.cell, Nat.zero_add, ← hk]
        simp
      have HN : Hid (∀ (v' : Value) (W' : World), W'.ownsRow w.heap.size 28 1 v' ((waTo L j).length + 1) (us (waTo L j) ++ [.int .u32 (tg : Nat)]) → st = false → ∃ A3 c3, v' = .slice A3 (waTo L (j + 1)).length c3 ∧ Hid (W'.ownsRow w.heap.size 28 1 (.slice A3 (waTo L (j + 1)).length c3) (waTo L (j + 1)).length (us (waTo L (j + 1))))) := Lib.hid fun v' W' h1 h3 => by
        obtain ⟨A', c', rfl, _, _⟩ := own_form h1
        rw [hey h3, us_app, List.length_append]
        exact ⟨A', c', rfl, Lib.hid h1⟩
      have HK : Hid (∀ (W : World), st = true → W.ownsRow w.heap.size 28 1 (.slice A3 (waTo L j).length c3) (waTo L j).length (us (waTo L j)) → ∃ A4 c4, Value.slice A3 (waTo L j).length c3 = .slice A4 (waTo L (j + 1)).length c4 ∧ Hid (W.ownsRow w.heap.size 28 1 (.slice A4 (waTo L (j + 1)).length c4) (waTo L (j + 1)).length (us (waTo L (j + 1))))) := Lib.hid fun W h1 h2 => by
        rw [hen h1]
        exact ⟨A3, c3, rfl, Lib.hid h2⟩
      have h63 : (waTo L j).length + 1 ≤ maxLen := by unfold maxLen; omega
      have hby : ((waTo L j).length + 1) * 4 ≤ 140737488355328 := by omega
      have hbase := B2.size
      have hj1 : j + 1 ≤ L.length := hlt
      clear hey hen hle
      subst ho1
      cases st
      · go_wp2_with (refine wpList_append_at _ rfl (.tmp 18) (.tmp 21) 29 rfl w.heap.size 28 iu (.int .u32 0) 1 4 Try.underlying29 hiu hzu hsu hbu rfl (by decide) (.slice A3 (waTo L j).length c3) (waTo L j).length (us (waTo L j)) rfl HO2 ⟨(wr.alloc _).heap.size, 0, none⟩ 1 1 [.int .u32 (tg : Nat)] (by first | rfl | simp [Act.eval, Act.put]) rfl hnews (by intro u hu; obtain rfl := List.mem_singleton.1 hu; rfl) h63 hby hbase ?_; intro v7 w7 ho7 hg7 hk7)
        all_goals
          obtain ⟨A4, c4, hv7, ho8⟩ := HN.out v7 w7 ho7 rfl
          exact ⟨⟨_, A4, c4, hj1, by go_num, hv7, ho8, B2.grown hg7 hbase fun k hk => (own_tag HO2 k hk).1⟩, by simp [intOf]; omega⟩
      · go_wp2
        obtain ⟨A4, c4, hv7, ho8⟩ := HK.out _ rfl HO1
        exact ⟨⟨_, A4, c4, hj1, by go_num, hv7, ho8, B1⟩, by simp [intOf]; omega⟩
    · obtain rfl : j = L.length := by omega
      have ho := HO.out
      go_wp2
      go_ret
      exact ⟨_, rfl, HO.out, hB⟩
/-- slices.Index over uint32. -/
theorem index_any (K : List Nat) (tag : Nat) {u : Value} {B : Nat} (hs : Sl w B u K.length (us K)) : ∃ r : Int, ((tag ∈ K → 0 ≤ r) ∧ (¬ tag ∈ K → r < 0)) ∧ Calls Try.prog 23 #[u, .int .u32 (tag : Nat)] w fun e w' => e = .returned (.int .i64 r) ∧ w = w' := by
  obtain ⟨A, c, rfl, hc1, hc2⟩ := hs.form
  unfold maxLen at hc2
  obtain ⟨r, hr1, hr2⟩ : ∃ r : Int, (∀ k (hk : k < K.length), K[k] = tag → (∀ j (hj : j < K.length), j < k → K[j] ≠ tag) → r = (k : Nat)) ∧ ((∀ j (hj : j < K.length), K[j] ≠ tag) → r = -1) := by
    cases hf : K.findIdx? fun y => y == tag with
    | none =>
      rw [List.findIdx?_eq_none_iff] at hf
      refine ⟨-1, fun k hk h1 _ => ?_, fun _ => rfl⟩
      have := hf _ (List.getElem_mem hk)
      simp [h1] at this
    | some i =>
      rw [List.findIdx?_eq_some_iff_getElem] at hf
      obtain ⟨hi, h1, h2⟩ := hf
      refine ⟨(i : Nat), fun k hk h3 h4 => ?_, fun h => absurd (by simpa using h1) (h i hi)⟩
      rcases Nat.lt_trichotomy i k with h | h | h
      · exact absurd (by simpa using h1) (h4 i hi h)
      · rw [h]
      · exact absurd (by simp [h3]) (h2 k h)
  refine ⟨r, ⟨fun hm => ?_, fun hn => ?_⟩, ?_⟩
  · cases hf : K.findIdx? fun y => y == tag with
    | none =>
      rw [List.findIdx?_eq_none_iff] at hf
      have := hf _ hm
      simp at this
    | some i =>
      rw [List.findIdx?_eq_some_iff_getElem] at hf
      obtain ⟨hi, h1, h2⟩ := hf
      rw [hr1 i hi (by simpa using h1) fun j hj hji => by simpa using h2 j hji]
      omega
  · rw [hr2 fun j hj e => hn (e ▸ List.getElem_mem hj)]
    decide
  · have HR1 := Lib.hid hr1
    have HR2 := Lib.hid hr2
    clear hr1 hr2
    go_enter Try.func23, Try.ntmps23
    go_wp2
    go_loopw [8] (fun s8 wr => ∃ k : Nat, k ≤ K.length ∧ s8 = .int .i64 (k : Nat) ∧ Hid (∀ j (hj : j < K.length), j < k → K[j] ≠ tag) ∧ w = wr) (fun s8 _ => K.length - (intOf s8).toNat)
    case atStart => exact ⟨0, Nat.zero_le _, rfl, Lib.hid fun j _ h => absurd h (Nat.not_lt_zero _), rfl⟩
    case round =>
      obtain ⟨k, hk, rfl, HN, rfl⟩ := hrel
      by_cases hlt : k < K.length
      · have hltx : (k : Int) < (K.length : Int) := by omega
        obtain ⟨b, off, rfl, hb, hcell⟩ := hs.at_ (by omega)
        have y0 := hcell k _ (us_get K k hlt)
        clear hcell
        by_cases he : K[k] = tag
        · obtain rfl := HR1.out k hlt he HN.out
          rw [he] at y0
          clear HR1 HR2 he
          go_wp2
          go_ret
          exact ⟨rfl, rfl⟩
        · have HG : Hid (∀ j (hj : j < K.length), j < k + 1 → K[j] ≠ tag) := Lib.hid fun j hj hjk => by
            rcases Nat.lt_or_ge j k with h1 | h1
            · exact HN.out j hj h1
            · obtain rfl : j = k := by omega
              exact he
          have e1 : ¬ (tag : Int) = ((K[k] : Nat) : Int) := by omega
          have e2 : ((tag : Int) == ((K[k] : Nat) : Int)) = false := beq_eq_false_iff_ne.2 e1
          generalize K[k] = kk at *
          clear he
          go_wp2
          exact ⟨⟨k + 1, by omega, by go_num, HG, trivial⟩, by simp [intOf]; omega⟩
      · obtain rfl : k = K.length := by omega
        obtain rfl := HR2.out fun j hj => HN.out j hj hj
        clear HR1 HR2
        go_wp2
        go_ret
        exact ⟨rfl, rfl⟩
theorem contains_any (K : List Nat) (tag : Nat) {u : Value} {B : Nat} (hs : Sl w B u K.length (us K)) : Calls Try.prog 18 #[u, .int .u32 (tag : Nat)] w fun e w' => e = .returned (.bool (decide (tag ∈ K))) ∧ w = w' := by
  obtain ⟨r, ⟨h1, h2⟩, hc⟩ := index_any K tag hs
  obtain ⟨A, c, rfl, hc1, hc2⟩ := hs.form
  by_cases h : tag ∈ K
  · have h3 := h1 h
    rw [decide_eq_true h]
    clear h1 h2 h
    go_enter Try.func18, Try.ntmps18
    go_wp2_with (go_at_call 23; (with_reducible refine hc.mono ?_); rintro e w5 ⟨rfl, rfl⟩)
    go_ret
    exact ⟨rfl, rfl⟩
  · have h3 : ¬ 0 ≤ r := by have := h2 h; omega
    rw [decide_eq_false h]
    clear h1 h2 h
    go_enter Try.func18, Try.ntmps18
    go_wp2_with (go_at_call 23; (with_reducible refine hc.mono ?_); rintro e w5 ⟨rfl, rfl⟩)
    go_ret
    exact ⟨by simp [h3], rfl⟩
end
end Tk
end Go.Proofs.Ytgofkofkhkpjbaa
