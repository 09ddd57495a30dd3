/- Do: whatever the act is. -/
import Derived.Test.YtmlimmcaidkoeaaDo2
namespace Go.Proofs.Ytmlimmcaidkoeaa
open Go.ChangeShapes Go.WideShapes Go.ChangeAt Go.RowKit Go.Lib
set_option linter.unusedVariables false
set_option maxRecDepth 100000 in
set_option maxHeartbeats 2000000 in
theorem doE_any (B X R h s : Nat) (u v : Value) (L : List Pk) (op fr to n : Int) (e1 : (op == 1) = false) (e2 : (op == 2) = false) (e3 : (op == 3) = false) (e4 : (op == 4) = false) (e5 : (op == 5) = false) (d : Value) (w : World) (hd1 : d.oneCell' = true) (hB : B ≤ w.heap.size) (hn : NetInv w B X v h L s) (hr : RefInv w B R u h (L.map Pk.ab) s) :
    Calls Try.prog 13 #[.pointer (some ⟨X, 0, none⟩), .pointer (some ⟨R, 0, none⟩), .agg #[.int .i64 op, .int .i64 fr, .int .i64 to, .int .i64 n, d]] w fun e w' => e = .returned (.bool true) ∧ DoPost w w' B X v R h s := by
  have hbA := fun o => (Below.refl w.heap.size w).alloc (Nat.le_refl _) o
  have hM := Mem.new w 35 #[.int .i64 op, .int .i64 fr, .int .i64 to, .int .i64 n, d]
  have hlen : (L.map Pk.ab).length = L.length := by simp
  have hRl := hr.mem.lt
  have hXl := hn.mem.lt
  have y0 := hM.cell 0
  have y2 := hM.cell 2
  have y3 := hM.cell 3
  have hnA := fun o => hn.below (hbA o)
  have hrA := fun o => hr.below (hbA o)
  have hBA := fun o => Nat.le_trans hB (hbA o).size
  by_cases hin : 0 ≤ n ∧ n < L.length
  · obtain ⟨m, rfl⟩ : ∃ m : Nat, n = m := ⟨n.toNat, by omega⟩
    have hm : m < L.length := by omega
    have hc := fun o => packet_ok B X h s v L m hm (w.alloc o) (hnA o)
    have hat := fun W (hW : Below w.heap.size w W) => at_ok B R h s u (L.map Pk.ab) m (by rw [hlen]; exact hm) W (hr.below hW)
    simp only [List.getElem_map] at hat
    generalize L[m] = p at *
    obtain ⟨pf, pt, pd, pl⟩ := p
    unfold Pk.ab Ab.val str at hat
    simp only at hc hat
    have hc2 : ∀ o, Calls Try.prog 16 #[.pointer (some ⟨X, 0, none⟩), .int .i64 (m : Nat)] (w.alloc o) fun e w' => ∃ Ap cp, e = .returned (.tuple #[.agg #[.int .i64 pf, .int .i64 pt, .slice Ap pl.length cp], .bool true]) ∧ Sl w' w'.heap.size (.slice Ap pl.length cp) pl.length (bs pl) ∧ Below (w.alloc o).heap.size (w.alloc o) w' := by
      intro o
      refine (hc o).mono ?_
      rintro e w' ⟨d', rfl, h1, h2⟩
      obtain ⟨Ap, cp, rfl, _⟩ := h1.form
      exact ⟨Ap, cp, rfl, h1, h2⟩
    have F : ∀ (w1 : World) o2 Ap cp, Below (w.alloc (.cells #[.int .i64 op, .int .i64 fr, .int .i64 to, .int .i64 (m : Nat), d] 35)).heap.size (w.alloc (.cells #[.int .i64 op, .int .i64 fr, .int .i64 to, .int .i64 (m : Nat), d] 35)) w1 → Sl w1 w1.heap.size (.slice Ap pl.length cp) pl.length (bs pl) → (w1.alloc o2).cell? ⟨w.heap.size, 3, none⟩ = some (.int .i64 (m : Nat)) ∧ (Calls Try.prog 29 #[.pointer (some ⟨R, 0, none⟩), .int .i64 (m : Nat)] (w1.alloc o2) fun e w2 => e = .returned (.tuple #[.agg #[.int .i64 pf, .int .i64 pt, .string ⟨pl.toArray⟩], .bool true]) ∧ Below w1.heap.size w1 w2 ∧ Below (w1.alloc o2).heap.size (w1.alloc o2) w2 ∧ ∀ o3, (Calls Try.prog 17 #[.agg #[.int .i64 pf, .int .i64 pt, .slice Ap pl.length cp], .agg #[.int .i64 pf, .int .i64 pt, .string ⟨pl.toArray⟩]] (w2.alloc o3) fun e w3 => e = .returned (.bool true) ∧ DoPost w w3 B X v R h s)) := by
      intro w1 o2 Ap cp hb hsl
      have hb1 := (hbA _).trans (hb.mono (hbA _).size)
      have hb2 := hb1.alloc hb1.size o2
      refine ⟨Lib.cell?_alloc_some o2 ((hM.below hb hM.lt).cell 3), (hat _ hb2).mono ?_⟩
      rintro e w2 ⟨rfl, hb3⟩
      have hb4 : Below w1.heap.size w1 w2 := ((Below.refl _ _).alloc (Nat.le_refl _) o2).trans (hb3.mono (by simp))
      refine ⟨rfl, hb4, hb3, fun o3 => ?_⟩
      refine (same_any pf pt (.slice Ap pl.length cp) pl (w2.alloc o3) (((hsl.now hb4).alloc (Nat.le_refl _) o3).more (by simp))).mono ?_
      rintro e w3 ⟨rfl, hb5⟩
      have hb6 := hb1.trans (((hb4.alloc hb4.size o3).trans (hb5.mono (hb4.alloc hb4.size o3).size)).mono hb1.size)
      exact ⟨rfl, do_post hn hr hb6 (NetInv.step (hn.below hb6) (Below.refl _ _)) (Below.refl _ _) (RefInv.step (hr.below hb6) (Below.refl _ _)) (Below.refl _ _) (Nat.le_succ _)⟩
    have G : ∀ (w1 w2 : World) o3 Ap cp, Below (w1.alloc (.cells #[.int .i64 pf, .int .i64 pt, .slice Ap pl.length cp] 41)).heap.size (w1.alloc (.cells #[.int .i64 pf, .int .i64 pt, .slice Ap pl.length cp] 41)) w2 → Mem (w2.alloc o3) w1.heap.size 41 #[.int .i64 pf, .int .i64 pt, .slice Ap pl.length cp] := fun w1 w2 o3 Ap cp hb => ((Mem.new w1 41 _).below hb (by simp)).alloc o3
    clear hc hat
    go_enter Try.func13, Try.ntmps13
    go_wp2_with (first
      | (refine wpList_load_row rfl 41 (.tmp 17) rfl w1.heap.size rfl 41 #[.int .i64 pf, .int .i64 pt, .slice Ap pl.length cp] (0, 0) _ (hG _) Try.underlying41 rfl (by kernel_rfl) ?_)
      | (refine wpList_load_row rfl 46 (.tmp 19) rfl w2.heap.size rfl 46 #[.int .i64 pf, .int .i64 pt, .string ⟨pl.toArray⟩] (0, 0) _ (Mem.new w2 _ _) Try.underlying46 rfl (by kernel_rfl) ?_)
      | (go_at_call 16; (refine (hc2 _).mono ?_); rintro e w1 ⟨Ap, cp, rfl, hsl, hb1⟩; have hF := fun o2 => (F _ o2 _ _ hb1 hsl).2; have hK := fun o2 => (F _ o2 _ _ hb1 hsl).1)
      | (go_at_call 29; (refine (hF _).mono ?_); rintro e w2 ⟨rfl, _, hb2, hS⟩; have hG := fun o3 => G _ _ o3 _ _ hb2)
      | (go_at_call 17; (refine (hS _).mono ?_); rintro e w3 ⟨rfl, hp⟩))
    all_goals go_ret
    all_goals exact ⟨rfl, hp⟩
  · have hc := fun o => packet_no B X h s v L n hin (w.alloc o) (hnA o)
    unfold pk0 at hc
    have F : ∀ o o2 w1, Below (w.alloc o).heap.size (w.alloc o) w1 → Calls Try.prog 29 #[.pointer (some ⟨R, 0, none⟩), .int .i64 n] (w1.alloc o2) fun e w2 => e = .returned (.tuple #[.agg #[.int .i64 0, .int .i64 0, .string .empty], .bool false]) ∧ Below (w1.alloc o2).heap.size (w1.alloc o2) w2 ∧ ∀ o3 w3, Below (w2.alloc o3).heap.size (w2.alloc o3) w3 → DoPost w w3 B X v R h s := by
      intro o o2 w1 hb
      have hb1 := (hbA o).trans ((hb.alloc hb.size o2).mono (hbA o).size)
      refine (at_no B R h s u (L.map Pk.ab) n (by rw [hlen]; exact hin) (w1.alloc o2) (hr.below hb1)).mono ?_
      rintro e w2 ⟨rfl, hb2⟩
      refine ⟨rfl, hb2, fun o3 w3 hb3 => ?_⟩
      have hb4 := hb2.trans (((((Below.refl w2.heap.size w2).alloc (Nat.le_refl _) o3).trans (hb3.mono (by simp)))).mono hb2.size)
      exact do_post hn hr hb1 (NetInv.step (hn.below hb1) (Below.refl _ _)) (Below.refl _ _) (RefInv.step (hr.below hb1) (Below.refl _ _)) hb4 (Nat.le_succ _)
    have G : ∀ (w1 w2 : World) o3, Below (w1.alloc (.cells #[.int .i64 0, .int .i64 0, .slice none 0 0] 41)).heap.size (w1.alloc (.cells #[.int .i64 0, .int .i64 0, .slice none 0 0] 41)) w2 → Mem (w2.alloc o3) w1.heap.size 41 #[.int .i64 0, .int .i64 0, .slice none 0 0] := fun w1 w2 o3 hb => ((Mem.new w1 41 #[.int .i64 0, .int .i64 0, .slice none 0 0]).below hb (by simp)).alloc o3
    have hsame : ∀ W, Calls Try.prog 17 #[.agg #[.int .i64 0, .int .i64 0, .slice none 0 0], .agg #[.int .i64 0, .int .i64 0, .string .empty]] W fun e w' => e = .returned (.bool true) ∧ Below W.heap.size W w' := fun W => same_any 0 0 (.slice none 0 0) [] W Sl.nil_
    have K : ∀ w1 o2, Below (w.alloc (.cells #[.int .i64 op, .int .i64 fr, .int .i64 to, .int .i64 n, d] 35)).heap.size (w.alloc (.cells #[.int .i64 op, .int .i64 fr, .int .i64 to, .int .i64 n, d] 35)) w1 → (w1.alloc o2).cell? ⟨w.heap.size, 3, none⟩ = some (.int .i64 n) := fun w1 o2 hb => Lib.cell?_alloc_some o2 ((hM.below hb hM.lt).cell 3)
    go_enter Try.func13, Try.ntmps13
    go_wp2_with (first
      | (refine wpList_load_row rfl 41 (.tmp 17) rfl w1.heap.size rfl 41 #[.int .i64 0, .int .i64 0, .slice none 0 0] (0, 0) _ (hG _) Try.underlying41 rfl (by kernel_rfl) ?_)
      | (refine wpList_load_row rfl 46 (.tmp 19) rfl w2.heap.size rfl 46 #[.int .i64 0, .int .i64 0, .string .empty] (0, 0) _ (Mem.new w2 _ _) Try.underlying46 rfl (by kernel_rfl) ?_)
      | (go_at_call 16; (refine (hc _).mono ?_); rintro e w1 ⟨rfl, hb1⟩; have hF := fun o2 => F _ o2 _ hb1; have hK := fun o2 => K _ o2 hb1)
      | (go_at_call 29; (refine (hF _).mono ?_); rintro e w2 ⟨rfl, hb2, hp⟩; have hG := fun o3 => G _ _ o3 hb2)
      | (go_at_call 17; (refine (hsame _).mono ?_); rintro e w3 ⟨rfl, hb3⟩))
    all_goals go_ret
    all_goals exact ⟨rfl, hp _ _ hb3⟩
theorem do_any (B X R h s : Nat) (u v : Value) (L : List Pk) (a : Act9) (w : World) (hB : B ≤ w.heap.size) (hn : NetInv w B X v h L s) (hr : RefInv w B R u h (L.map Pk.ab) s) (hd : Sl w B a.d a.l.length (bs a.l)) (hs : s < 4611686018427387904) :
    Calls Try.prog 13 #[.pointer (some ⟨X, 0, none⟩), .pointer (some ⟨R, 0, none⟩), .agg #[.int .i64 a.op, .int .i64 a.fr, .int .i64 a.to, .int .i64 a.n, a.d]] w fun e w' => e = .returned (.bool true) ∧ DoPost w w' B X v R h s := by
  obtain ⟨op, fr, to, n, d, l⟩ := a
  simp only at hd ⊢
  have hd1 : d.oneCell' = true := by
    obtain ⟨A, c, rfl, _⟩ := hd.form
    rfl
  by_cases h1 : op = 1
  · subst h1
    exact do1_any B X R h s u v L fr to n d l w hB hn hr hd hs
  by_cases h2 : op = 2
  · subst h2
    exact do2_any B X R h s u v L fr to n d w hd1 hB hn hr
  by_cases h3 : op = 3
  · subst h3
    exact do3_any B X R h s u v L fr to n d w hd1 hB hn hr
  by_cases h4 : op = 4
  · subst h4
    exact do4_any B X R h s u v L fr to n d w hd1 hB hn hr
  by_cases h5 : op = 5
  · subst h5
    exact do5_any B X R h s u v L fr to n d w hd1 hB hn hr
  exact doE_any B X R h s u v L op fr to n (by rw [beq_eq_false_iff_ne]; exact h1) (by rw [beq_eq_false_iff_ne]; exact h2) (by rw [beq_eq_false_iff_ne]; exact h3) (by rw [beq_eq_false_iff_ne]; exact h4) (by rw [beq_eq_false_iff_ne]; exact h5) d w hd1 hB hn hr
end Go.Proofs.Ytmlimmcaidkoeaa
