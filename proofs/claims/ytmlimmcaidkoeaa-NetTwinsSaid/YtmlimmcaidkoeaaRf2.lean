/- The document's network: Out: contracts. -/
import Derived.Test.YtmlimmcaidkoeaaRf1
namespace Go.Proofs.Ytmlimmcaidkoeaa
open Go.ChangeShapes Go.WideShapes Go.ChangeAt Go.RowKit Go.Lib
set_option linter.unusedVariables false
theorem rflat_erase (L : List Ab) (i : Nat) : rflat (L.eraseIdx i) = (rflat L).take (3 * i) ++ (rflat L).drop (3 * (i + 1)) := by
  rw [rflat_take, rflat_drop, ← rflat_app, List.eraseIdx_eq_take_drop_succ]
theorem ref_put {w w6 : World} {B R h s : Nat} {u u' : Value} {M K : List Ab} (hn : RefInv w B R u h M s) (hB : B ≤ w.heap.size) (hb : Below w.heap.size w w6) (ho : w6.ownsRow B 46 3 u' K.length (rflat K)) (hf : K.length ≤ 4096) (hsz : ∀ p ∈ K, p.l.length ≤ 8192) :
    RefInv (w6.setCell ⟨R, 1, none⟩ u') B R u' h K s ∧ Eff (fun k => k = R) w (w6.setCell ⟨R, 1, none⟩ u') := by
  have hm := hn.mem.below hb hn.mem.lt
  have hS : Eff (fun k => k = R) w6 (w6.setCell ⟨R, 1, none⟩ u') := Eff.setCell (S := fun k => k = R) (Eff.refl _ _) (p := ⟨R, 1, none⟩) rfl _
  refine ⟨⟨hn.base, hm.put 1 _, owns_eff ho hS fun k hk e => (own_tag ho k hk).2.2.ne (e ▸ mem_tag hm) (by decide) rfl, hf, hsz⟩, (Eff.of hb).trans hS fun _ _ h => h⟩
set_option maxRecDepth 100000 in
set_option maxHeartbeats 2000000 in
theorem out_no (B R h s : Nat) (u : Value) (M : List Ab) (i : Int) (hi : ¬ (0 ≤ i ∧ i < M.length)) (w : World) (hn : RefInv w B R u h M s) :
    Calls Try.prog 26 #[.pointer (some ⟨R, 0, none⟩), .int .i64 i] w fun e w' => e = .returned (.tuple #[ab0, .bool false]) ∧ Below w.heap.size w w' := by
  have hat := fun o => at_no B R h s u M i hi (w.alloc o) (hn.below ((Below.refl _ _).alloc (Nat.le_refl _) o))
  unfold ab0 at *
  have hm : ∀ w1, Below (w.alloc (.cells #[.int .i64 0, .int .i64 0, .string .empty] 46)).heap.size (w.alloc (.cells #[.int .i64 0, .int .i64 0, .string .empty] 46)) w1 → Mem (w1.alloc (.cells #[.int .i64 0, .int .i64 0, .string .empty] 46)) w.heap.size 46 #[.int .i64 0, .int .i64 0, .string .empty] ∧ Below w.heap.size w (w1.alloc (.cells #[.int .i64 0, .int .i64 0, .string .empty] 46)) := by
    intro w1 hb
    have hb1 := ((Below.refl w.heap.size w).alloc (Nat.le_refl _) (.cells #[.int .i64 0, .int .i64 0, .string .empty] 46)).trans (hb.mono (by simp))
    exact ⟨((Mem.new w 46 _).below hb (by simp)).alloc _, hb1.alloc hb1.size _⟩
  go_enter Try.func26, Try.ntmps26
  go_wp2_with (first
    | (refine wpList_store_row rfl 46 (.tmp 4) (.tmp 36) rfl w.heap.size #[.int .i64 0, .int .i64 0, .string .empty] rfl rfl 46 #[.int .i64 0, .int .i64 0, .string .empty] hm1 (by kernel_rfl) (by kernel_rfl) (by kernel_rfl) ?_)
    | (go_at_call 29; (refine (hat _).mono ?_); rintro e w1 ⟨rfl, hb1⟩; obtain ⟨hm1, hb2⟩ := hm _ hb1))
  try simp only [Exit.inBlock, Exit.then]
  refine bodyPost_ret (v := .tuple #[.agg #[.int .i64 0, .int .i64 0, .string .empty], .bool false]) ?_ rfl ⟨rfl, below_setRow hb2 (Nat.le_refl _) _⟩
  exact (results_cell2 (p := 4) (a := 5) (ty := 46) rfl _ _ w.heap.size 46 _ (0, 0) _ rfl (hm1.row _) Try.underlying46 rfl (by kernel_rfl)).trans rfl
set_option maxRecDepth 100000 in
set_option maxHeartbeats 2000000 in
theorem out_ok (B R h s : Nat) (u : Value) (M : List Ab) (i : Nat) (hi : i < M.length) (w : World) (hB : B ≤ w.heap.size) (hn : RefInv w B R u h M s) :
    Calls Try.prog 26 #[.pointer (some ⟨R, 0, none⟩), .int .i64 (i : Nat)] w fun e w' => e = .returned (.tuple #[M[i].val, .bool true]) ∧ RefStep w w' B R u h (M.eraseIdx i) s := by
  obtain ⟨i0, hi0, hz0, hz1, hz2⟩ := info_parts rpk_info
  have hat := fun o => at_ok B R h s u M i hi (w.alloc o) (hn.below ((Below.refl _ _).alloc (Nat.le_refl _) o))
  obtain ⟨A, c, rfl, hc1, hc2⟩ := hn.parts
  obtain ⟨g, rfl, hBg, hgl, _⟩ := rrow_at hn.row hi
  have hlenE : (M.eraseIdx i).length = M.length - 1 := List.length_eraseIdx_of_lt hi
  have hfew := hn.few
  have hcells : ∀ W, Below w.heap.size w W → ∀ k u, (rflat M)[k]? = some u → W.cell? ⟨g, k, none⟩ = some u := fun W hW => own_cells (owns_below hn.row hW)
  generalize M[i] = p at *
  obtain ⟨fr, to, l⟩ := p
  unfold Ab.val at *
  unfold str at *
  simp only at hat ⊢
  obtain ⟨A2, hA, hsrc⟩ : ∃ A2 : Addr, (if c = i + 1 then some (⟨g, 0, none⟩ : Addr) else some ⟨g, (i + 1) * 3, none⟩) = some A2 ∧ Hid (∀ W, Below w.heap.size w W → ∀ t u, ((rflat M).drop (3 * (i + 1)))[t]? = some u → W.cell? (A2.add t) = some u) := by
    by_cases h : c = i + 1
    · refine ⟨⟨g, 0, none⟩, by simp [h], Lib.hid fun W hW t u hu => ?_⟩
      have := (List.getElem?_eq_some_iff.1 hu).1
      rw [List.length_drop, rflat_len] at this
      omega
    · refine ⟨⟨g, (i + 1) * 3, none⟩, by simp [h], Lib.hid fun W hW t u hu => ?_⟩
      rw [List.getElem?_drop] at hu
      rw [add_plain, show (i + 1) * 3 + t = 3 * (i + 1) + t by omega]
      exact hcells W hW _ _ hu
  have hsrc1 : Hid (∀ W, Below w.heap.size w W → ∀ t u, ((rflat M).take (3 * i))[t]? = some u → W.cell? ((⟨g, 0, none⟩ : Addr).add t) = some u) := Lib.hid fun W hW t u hu => by
    rw [add_plain, Nat.zero_add]
    refine hcells W hW t u ?_
    rw [List.getElem?_take] at hu
    split at hu
    · exact hu
    · cases hu
  have l1 : Hid (((rflat M).take (3 * i)).length = i * 3) := Lib.hid (by rw [List.length_take, rflat_len]; omega)
  have l2 : Hid (((rflat M).drop (3 * (i + 1))).length = (M.length - (i + 1)) * 3) := Lib.hid (by rw [List.length_drop, rflat_len]; omega)
  have o1 : Hid (∀ u ∈ (rflat M).take (3 * i), u.oneCell' = true) := Lib.hid fun u hu => rflat_one M u (List.mem_of_mem_take hu)
  have o2 : Hid (∀ u ∈ (rflat M).drop (3 * (i + 1)), u.oneCell' = true) := Lib.hid fun u hu => rflat_one M u (List.mem_of_mem_drop hu)
  have hm : ∀ w1, Below (w.alloc (.cells #[.int .i64 0, .int .i64 0, .string .empty] 46)).heap.size (w.alloc (.cells #[.int .i64 0, .int .i64 0, .string .empty] 46)) w1 → Mem (w1.alloc (.cells #[.int .i64 fr, .int .i64 to, .string ⟨l.toArray⟩] 46)) w.heap.size 46 #[.int .i64 0, .int .i64 0, .string .empty] ∧ Below w.heap.size w (w1.alloc (.cells #[.int .i64 fr, .int .i64 to, .string ⟨l.toArray⟩] 46)) ∧ w.heap.size < w1.heap.size := by
    intro w1 hb
    have hb1 := ((Below.refl w.heap.size w).alloc (Nat.le_refl _) (.cells #[.int .i64 0, .int .i64 0, .string .empty] 46)).trans (hb.mono (by simp))
    exact ⟨((Mem.new w 46 _).below hb (by simp)).alloc _, hb1.alloc hb1.size _, by have := hb.size; simp at this; omega⟩
  have hx : ∀ W, Below w.heap.size w W → W.cell? ⟨R, 1, none⟩ = some (.slice (some ⟨g, 0, none⟩) M.length c) ∧ W.frozen? ⟨R, 1, none⟩ = false := fun W hW => ⟨(hn.below hW).mem.cell 1, (hn.below hW).mem.free 1⟩
  have b1 : 0 + i ≤ maxLen := by unfold maxLen; omega
  have b2 : (0 + i) * 32 ≤ 140737488355328 := by omega
  have b5 : i + (M.length - (i + 1)) ≤ maxLen := by unfold maxLen; omega
  have b6 : (i + (M.length - (i + 1))) * 32 ≤ 140737488355328 := by omega
  have hix : (i : Int) < (M.length : Int) := by omega
  have hic : i ≤ c := by omega
  have hic2 : i + 1 ≤ c := by omega
  have hic3 : i + 1 ≤ M.length := by omega
  have hRl := hn.mem.lt
  -- the two appends
  have hapA : ∀ W : World, Below w.heap.size w W → Below w.heap.size w (W.alloc (.cells #[] 46)) := fun W hW => hW.alloc hW.size _
  have hE : ∀ w1 : World, ((w1.alloc (.cells #[.int .i64 fr, .int .i64 to, .string ⟨l.toArray⟩] 46)).alloc (.cells #[] 46)).ownsRow (w1.heap.size + 1) 46 3 (.slice (some ⟨w1.heap.size + 1, 0, none⟩) 0 0) 0 [] ∧ w1.heap.size + 1 ≤ ((w1.alloc (.cells #[.int .i64 fr, .int .i64 to, .string ⟨l.toArray⟩] 46)).alloc (.cells #[] 46)).heap.size := by
    intro w1
    have := own_empty (w1.alloc (.cells #[.int .i64 fr, .int .i64 to, .string ⟨l.toArray⟩] 46)) (w1.heap.size + 1) 46 3 (by simp)
    rw [show (w1.alloc (.cells #[.int .i64 fr, .int .i64 to, .string ⟨l.toArray⟩] 46)).heap.size = w1.heap.size + 1 by simp] at this
    exact ⟨this, by simp⟩
  have F1 : ∀ (w1 : World) v4 (w4 : World), Below w.heap.size w (w1.alloc (.cells #[.int .i64 fr, .int .i64 to, .string ⟨l.toArray⟩] 46)) → w4.ownsRow (w1.heap.size + 1) 46 3 v4 (0 + i) ([] ++ (rflat M).take (3 * i)) → ((w1.alloc (.cells #[.int .i64 fr, .int .i64 to, .string ⟨l.toArray⟩] 46)).alloc (.cells #[] 46)).grownBy w4 (Value.slice (some ⟨w1.heap.size + 1, 0, none⟩) 0 0).ownBlock →
      ∃ A4 c4, v4 = .slice A4 i c4 ∧ w4.ownsRow (w1.heap.size + 1) 46 3 (.slice A4 i c4) i ((rflat M).take (3 * i)) ∧ Below (w1.heap.size + 1) (w1.alloc (.cells #[.int .i64 fr, .int .i64 to, .string ⟨l.toArray⟩] 46)) w4 ∧ Below w.heap.size w w4 ∧ w1.heap.size + 1 ≤ w4.heap.size := by
    intro w1 v4 w4 hb2 ho hg
    rw [Nat.zero_add, List.nil_append] at ho
    obtain ⟨A4, c4, rfl, _⟩ := own_form ho
    have hb := ((Below.refl (w1.heap.size + 1) (w1.alloc (.cells #[.int .i64 fr, .int .i64 to, .string ⟨l.toArray⟩] 46))).alloc (by simp) (.cells #[] 46)).grown hg (by simp) (by simp [Value.ownBlock])
    exact ⟨A4, c4, rfl, ho, hb, hb2.trans (hb.mono (by have := hb2.size; simp at this; omega)), by have := hb.size; simp at this; omega⟩
  have F2 : ∀ (w1 : World) A4 c4 v6 (w4 w6 : World), Mem (w1.alloc (.cells #[.int .i64 fr, .int .i64 to, .string ⟨l.toArray⟩] 46)) w.heap.size 46 #[.int .i64 0, .int .i64 0, .string .empty] → w.heap.size < w1.heap.size → Below w.heap.size w (w1.alloc (.cells #[.int .i64 fr, .int .i64 to, .string ⟨l.toArray⟩] 46)) → w4.ownsRow (w1.heap.size + 1) 46 3 (.slice A4 i c4) i ((rflat M).take (3 * i)) → Below (w1.heap.size + 1) (w1.alloc (.cells #[.int .i64 fr, .int .i64 to, .string ⟨l.toArray⟩] 46)) w4 → w1.heap.size + 1 ≤ w4.heap.size →
      w6.ownsRow (w1.heap.size + 1) 46 3 v6 (i + (M.length - (i + 1))) ((rflat M).take (3 * i) ++ (rflat M).drop (3 * (i + 1))) → w4.grownBy w6 (Value.slice A4 i c4).ownBlock →
      ∃ A6 c6, v6 = .slice A6 (M.length - 1) c6 ∧ w6.cell? ⟨R, 1, none⟩ = some (.slice (some ⟨g, 0, none⟩) M.length c) ∧ w6.frozen? ⟨R, 1, none⟩ = false ∧ Mem (w6.setCell ⟨R, 1, none⟩ (.slice A6 (M.length - 1) c6)) w.heap.size 46 #[.int .i64 0, .int .i64 0, .string .empty] ∧ Mem (w6.setCell ⟨R, 1, none⟩ (.slice A6 (M.length - 1) c6)) w1.heap.size 46 #[.int .i64 fr, .int .i64 to, .string ⟨l.toArray⟩] ∧
        RefStep w ((w6.setCell ⟨R, 1, none⟩ (.slice A6 (M.length - 1) c6)).setRow w.heap.size #[.int .i64 fr, .int .i64 to, .string ⟨l.toArray⟩]) B R (.slice (some ⟨g, 0, none⟩) M.length c) h (M.eraseIdx i) s := by
    intro w1 A4 c4 v6 w4 w6 hm1 hlt hb2 ho4 hb4 hs4 ho hg
    rw [show i + (M.length - (i + 1)) = M.length - 1 by omega, ← rflat_erase] at ho
    obtain ⟨A6, c6, rfl, _⟩ := own_form ho
    have hb6 := hb4.grown hg hs4 (fun k hk => (ho4.lt k hk).1)
    have hb6w := hb2.trans (hb6.mono (by have := hb2.size; simp at this; omega))
    obtain ⟨hx6, hf6⟩ := hx _ hb6w
    have hm6 := hm1.below hb6 (by omega)
    have hm6b := (Mem.new w1 46 #[.int .i64 fr, .int .i64 to, .string ⟨l.toArray⟩]).below hb6 (by omega)
    rw [← hlenE] at ho
    have hp := ref_put hn hB hb6w (owns_mono ho (by omega)) (by omega) (fun p hp => hn.sizes p (List.mem_of_mem_eraseIdx hp))
    rw [hlenE] at hp ho
    have hS : Eff (fun k => k = w.heap.size) (w6.setCell ⟨R, 1, none⟩ (.slice A6 (M.length - 1) c6)) ((w6.setCell ⟨R, 1, none⟩ (.slice A6 (M.length - 1) c6)).setRow w.heap.size #[.int .i64 fr, .int .i64 to, .string ⟨l.toArray⟩]) := Eff.setRow (S := fun k => k = w.heap.size) (Eff.refl _ _) rfl _
    have hfin : RefInv ((w6.setCell ⟨R, 1, none⟩ (.slice A6 (M.length - 1) c6)).setRow w.heap.size #[.int .i64 fr, .int .i64 to, .string ⟨l.toArray⟩]) B R (.slice A6 (M.length - 1) c6) h (M.eraseIdx i) s :=
      ⟨hp.1.base, hp.1.mem.eff hS (by omega), owns_eff hp.1.row hS (fun k hk e => by have := (ho.lt k hk).1; omega), hp.1.few, hp.1.sizes⟩
    exact ⟨A6, c6, rfl, hx6, hf6, hm6.far (p := ⟨R, 1, none⟩) (by show w.heap.size ≠ R; omega) _, hm6b.far (p := ⟨R, 1, none⟩) (by show w1.heap.size ≠ R; omega) _, _, hfin, hp.2.trans hS (fun k hk e => by omega), fun k hk => .inr (by have := (ho.lt k hk).1; omega)⟩
  have HN := Lib.hid hn
  clear hn hcells
  go_enter Try.func26, Try.ntmps26
  go_wp2_with (first
    | (refine wpList_store_row rfl 46 (.tmp 4) (.tmp 36) rfl w.heap.size #[.int .i64 fr, .int .i64 to, .string ⟨l.toArray⟩] rfl rfl 46 #[.int .i64 0, .int .i64 0, .string .empty] hm7 (by kernel_rfl) (by kernel_rfl) (by kernel_rfl) ?_)
    | (refine wpList_load_row rfl 46 (.tmp 6) rfl w1.heap.size rfl 46 #[.int .i64 fr, .int .i64 to, .string ⟨l.toArray⟩] (0, 0) _ hm8 Try.underlying46 rfl (by kernel_rfl) ?_)
    | (go_at_call 29; (refine (hat _).mono ?_); rintro e w1 ⟨rfl, hb1⟩; obtain ⟨hm1, hb2, hlt1⟩ := hm _ hb1; have hbE := hapA _ hb2; obtain ⟨hx2, hf2⟩ := hx _ hbE; obtain ⟨oE, sE⟩ := hE w1)
    | (at_builtin; (refine wpList_append_at _ rfl (.tmp 16) (.tmp 22) _ rfl (w1.heap.size + 1) 46 i0 _ 3 32 Try.underlying37 hi0 hz0 hz1 hz2 rfl (by decide) (.slice (some ⟨w1.heap.size + 1, 0, none⟩) 0 0) 0 [] rfl oE ⟨g, 0, none⟩ i c ((rflat M).take (3 * i)) rfl l1.out (hsrc1.out _ hbE) o1.out b1 b2 sE ?_); intro v4 w4 ho4 hg4 hat4; obtain ⟨A4, c4, rfl, ho5, hb5, hb5w, hs5⟩ := F1 _ _ _ hb2 ho4 hg4; obtain ⟨hx4, hf4⟩ := hx _ hb5w)
    | (at_builtin; (refine wpList_append_at _ rfl (.tmp 25) (.tmp 32) _ rfl (w1.heap.size + 1) 46 i0 _ 3 32 Try.underlying37 hi0 hz0 hz1 hz2 rfl (by decide) (.slice A4 i c4) i ((rflat M).take (3 * i)) rfl ho5 A2 (M.length - (i + 1)) (c - (i + 1)) ((rflat M).drop (3 * (i + 1))) rfl l2.out (hsrc.out _ hb5w) o2.out b5 b6 hs5 ?_); intro v6 w6 ho6 hg6 hat6; obtain ⟨A6, c6, rfl, hx6, hf6, hm7, hm8, hst⟩ := F2 _ _ _ _ _ _ hm1 hlt1 hb2 ho5 hb5 hs5 ho6 hg6))
  try simp only [Exit.inBlock, Exit.then]
  refine bodyPost_ret (v := .tuple #[.agg #[.int .i64 fr, .int .i64 to, .string ⟨l.toArray⟩], .bool true]) ?_ rfl ⟨rfl, hst⟩
  exact (results_cell2 (p := 4) (a := 5) (ty := 46) rfl _ _ w.heap.size 46 _ (0, 0) _ rfl (hm7.row _) Try.underlying46 rfl (by kernel_rfl)).trans rfl
end Go.Proofs.Ytmlimmcaidkoeaa
