/- Do: what it leaves; the acts 1 (Send) and 4 (Copy). -/
import Derived.Test.YtmlimmcaidkoeaaRf5
import Derived.Test.YtmlimmcaidkoeaaRf6
import Derived.Test.YtmlimmcaidkoeaaAct
namespace Go.Proofs.Ytmlimmcaidkoeaa
open Go.ChangeShapes Go.WideShapes Go.ChangeAt Go.RowKit Go.Lib
set_option linter.unusedVariables false
/-- What Do leaves of both nets. -/
def DoPost (w w' : World) (B X : Nat) (v : Value) (R h s : Nat) : Prop :=
  ∃ v' u' L' s', NetInv w' B X v' h L' s' ∧ RefInv w' B R u' h (L'.map Pk.ab) s' ∧ Eff (fun k => NS X v k ∨ k = R) w w' ∧ (∀ k, v'.ownBlock = some k → v.ownBlock = some k ∨ w.heap.size ≤ k) ∧ s' ≤ s + 1
theorem NetInv.refStays {w w' : World} {B X R h s : Nat} {v : Value} {L : List Pk} (hn : NetInv w B X v h L s) (ht : Tag w R 39) (he : Eff (fun k => k = R) w w') : NetInv w' B X v h L s :=
  hn.eff he (fun e => ht.ne (e ▸ mem_tag hn.mem) (by decide) rfl) (fun k hk e => ht.ne (e ▸ (own_tag hn.row k hk).2.2) (by decide) rfl) (fun k _ e => e ▸ ht.not (by decide))
theorem RefInv.netStays {w w' : World} {B X R h s h2 s2 : Nat} {u v : Value} {M : List Ab} {L : List Pk} (hr : RefInv w B R u h M s) (hn : NetInv w B X v h2 L s2) (he : Eff (NS X v) w w') : RefInv w' B R u h M s := by
  refine hr.eff he (fun e => ?_) (fun k hk => ?_)
  · rcases (hn.ns R e).2.2 with h1 | h1
    · exact h1.ne (mem_tag hr.mem) (by decide) rfl
    · exact h1.ne (mem_tag hr.mem) (by decide) rfl
  · rcases (hn.ns k hk).2.2 with h1 | h1
    · exact h1.not (by decide)
    · exact h1.not (by decide)
theorem do_post {w W w1 W1 w2 w3 : World} {B X R h s s' : Nat} {u v : Value} {L L' : List Pk} (hn : NetInv w B X v h L s) (hr : RefInv w B R u h (L.map Pk.ab) s) (hb : Below w.heap.size w W) (hs : NetStep W w1 B X v h L' s') (hb1 : Below w1.heap.size w1 W1) (ht : RefStep W1 w2 B R u h (L'.map Pk.ab) s') (hb2 : Below w2.heap.size w2 w3) (hss : s' ≤ s + 1) : DoPost w w3 B X v R h s := by
  obtain ⟨v', g1, g2, g3⟩ := hs
  obtain ⟨u', k1, k2, k3⟩ := ht
  have hrW := (hr.below hb).netStays (hn.below hb) g2
  have hrW1 := hrW.below hb1
  have e1 : Eff (fun k => NS X v k ∨ k = R) w w1 := (Eff.of hb).trans (g2.mono fun k _ h => Or.inl h) fun _ _ h => h
  have e2 : Eff (fun k => NS X v k ∨ k = R) w w2 := (e1.trans (Eff.of (S := fun k => NS X v k ∨ k = R) hb1) fun _ _ h => h).trans k2 fun k _ h => Or.inr h
  refine ⟨v', u', L', s', ((g1.below hb1).refStays (mem_tag hrW1.mem) k2).below hb2, k1.below hb2, e2.trans (Eff.of (S := fun k => NS X v k ∨ k = R) hb2) fun _ _ h => h, fun k hk => ?_, hss⟩
  rcases g3 k hk with h | h
  · exact .inl h
  · exact .inr (Nat.le_trans hb.size h)
/-- As do_post, the document's net first. -/
theorem do_post' {w W w1 W1 w2 w3 : World} {B X R h s s' : Nat} {u v : Value} {L L' : List Pk} (hn : NetInv w B X v h L s) (hr : RefInv w B R u h (L.map Pk.ab) s) (hb : Below w.heap.size w W) (ht : RefStep W w1 B R u h (L'.map Pk.ab) s') (hb1 : Below w1.heap.size w1 W1) (hs : NetStep W1 w2 B X v h L' s') (hb2 : Below w2.heap.size w2 w3) (hss : s' ≤ s + 1) : DoPost w w3 B X v R h s := by
  obtain ⟨v', g1, g2, g3⟩ := hs
  obtain ⟨u', k1, k2, k3⟩ := ht
  have hnW := (hn.below hb).refStays (mem_tag (hr.below hb).mem) k2
  have hnW1 := hnW.below hb1
  have e1 : Eff (fun k => NS X v k ∨ k = R) w w1 := (Eff.of hb).trans (k2.mono fun k _ h => Or.inr h) fun _ _ h => h
  have e2 : Eff (fun k => NS X v k ∨ k = R) w w2 := (e1.trans (Eff.of (S := fun k => NS X v k ∨ k = R) hb1) fun _ _ h => h).trans g2 fun k _ h => Or.inl h
  refine ⟨v', u', L', s', g1.below hb2, ((k1.below hb1).netStays hnW1 g2).below hb2, e2.trans (Eff.of (S := fun k => NS X v k ∨ k = R) hb2) fun _ _ h => h, fun k hk => ?_, hss⟩
  rcases g3 k hk with h | h
  · exact .inl h
  · exact .inr (Nat.le_trans (Nat.le_trans hb.size (Nat.le_trans k2.size hb1.size)) h)
theorem sl_eff {S : Nat → Prop} {w w' : World} {B n : Nat} {v : Value} {xs : List Value} (h : Sl w B v n xs) (he : Eff S w w') (hB : B ≤ w.heap.size) (hS : ∀ k, S k → B ≤ k) : Sl w' B v n xs :=
  h.keep fun b o hb => he.cell (p := ⟨b, o, none⟩) (by show b < _; omega) fun hs => by have := hS b hs; omega
set_option maxRecDepth 100000 in
set_option maxHeartbeats 2000000 in
theorem do1_any (B X R h s : Nat) (u v : Value) (L : List Pk) (fr to n : Int) (d : Value) (l : List UInt8) (w : World) (hB : B ≤ w.heap.size) (hn : NetInv w B X v h L s) (hr : RefInv w B R u h (L.map Pk.ab) s) (hd : Sl w B d l.length (bs l)) (hs : s < 4611686018427387904) :
    Calls Try.prog 13 #[.pointer (some ⟨X, 0, none⟩), .pointer (some ⟨R, 0, none⟩), .agg #[.int .i64 1, .int .i64 fr, .int .i64 to, .int .i64 n, d]] w fun e w' => e = .returned (.bool true) ∧ DoPost w w' B X v R h s := by
  obtain ⟨A, c, rfl, hc1, hc2⟩ := hd.form
  have hbA := fun o => (Below.refl w.heap.size w).alloc (Nat.le_refl _) o
  have hbD := fun o => (hbA o).drew
  have hM := Mem.new w 35 #[.int .i64 1, .int .i64 fr, .int .i64 to, .int .i64 n, .slice A l.length c]
  have hlen : (L.map Pk.ab).length = L.length := by simp
  have hSl : ∀ o, Sl ((w.alloc o).drew) ((w.alloc o).drew).heap.size (.slice A l.length c) l.length (bs l) := fun o => ((hd.more hB).now (hbD o))
  have hst : ∀ W, Mem W w.heap.size 35 #[.int .i64 1, .int .i64 fr, .int .i64 to, .int .i64 n, .slice A l.length c] → W.cell? ⟨w.heap.size, 1, none⟩ = some (.int .i64 fr) ∧ W.cell? ⟨w.heap.size, 2, none⟩ = some (.int .i64 to) ∧ W.cell? ⟨w.heap.size, 4, none⟩ = some (.slice A l.length c) := fun W h => ⟨h.cell 1, h.cell 2, h.cell 4⟩
  have y0 := hM.cell 0
  have hSD := hst ((w.alloc (.cells #[.int .i64 1, .int .i64 fr, .int .i64 to, .int .i64 n, .slice A l.length c] 35)).drew) hM
  by_cases hgood : sendC h L.length fr to l.length = 0
  · have hcond : 0 ≤ fr ∧ fr < h ∧ 0 ≤ to ∧ to < h ∧ l.length ≤ 8192 ∧ L.length < 4096 := by
      unfold sendC at hgood
      by_cases q1 : ¬ (0 ≤ fr ∧ fr < (h : Int) ∧ 0 ≤ to ∧ to < (h : Int))
      · rw [if_pos q1] at hgood; omega
      · rw [if_neg q1] at hgood
        by_cases q2 : 8192 < l.length
        · rw [if_pos q2] at hgood; omega
        · rw [if_neg q2] at hgood
          by_cases q3 : 4096 ≤ L.length
          · rw [if_pos q3] at hgood; omega
          · omega
    obtain ⟨q1, q2, q3, q4, q5, q6⟩ := hcond
    have hc := fun o => send_ok B X h s v L fr to q1 q2 q3 q4 _ l q5 q6 hs ((w.alloc o).drew) (Nat.le_trans hB (hbD o).size) (hn.below (hbD o)) (hSl o)
    have F1 : ∀ o w1 v' d', NetInv w1 B X v' h (L ++ [⟨fr, to, d', l⟩]) (s + 1) → Eff (NS X v) ((w.alloc o).drew) w1 → (∀ k, v'.ownBlock = some k → v.ownBlock = some k ∨ ((w.alloc o).drew).heap.size ≤ k) → (Calls Try.prog 25 #[.pointer (some ⟨R, 0, none⟩), .int .i64 fr, .int .i64 to, .slice A l.length c] w1 fun e w2 => e = .returned (.int .i64 0) ∧ DoPost w w2 B X v R h s ∧ Eff (fun k => k = R) w1 w2) := by
      intro o w1 v' d' g1 g2 g3
      have hrW := (hr.below (hbD o)).netStays (hn.below (hbD o)) g2
      have hs1 := sl_eff (hd.below (hbD o |>.mono hB)) g2 (Nat.le_trans hB (hbD o).size) fun k hk => ((hn.below (hbD o)).ns k hk).2.1
      refine (rsend_ok B R h s u (L.map Pk.ab) fr to q1 q2 q3 q4 _ l q5 (by rw [hlen]; exact q6) hs w1 (Nat.le_trans hB (Nat.le_trans (hbD o).size g2.size)) hrW (hs1.more (Nat.le_trans hB (Nat.le_trans (hbD o).size g2.size)))).mono ?_
      rintro e w2 ⟨rfl, ht⟩
      have ht2 : RefStep w1 w2 B R u h ((L ++ [(⟨fr, to, d', l⟩ : Pk)]).map Pk.ab) (s + 1) := by rw [List.map_append]; exact ht
      have ht3 := ht
      obtain ⟨u', _, k2, _⟩ := ht3
      have hst1 : NetStep ((w.alloc o).drew) w1 B X v h (L ++ [⟨fr, to, d', l⟩]) (s + 1) := ⟨v', g1, g2, g3⟩
      exact ⟨rfl, do_post hn hr (hbD o) hst1 (Below.refl _ _) ht2 (Below.refl _ _) (Nat.le_refl _), k2⟩
    have K1 : ∀ w1, Eff (NS X v) ((w.alloc (.cells #[.int .i64 1, .int .i64 fr, .int .i64 to, .int .i64 n, .slice A l.length c] 35)).drew) w1 → Mem w1 w.heap.size 35 #[.int .i64 1, .int .i64 fr, .int .i64 to, .int .i64 n, .slice A l.length c] := fun w1 he => Mem.eff (show Mem ((w.alloc _).drew) _ _ _ from hM) he fun hk => by have := (hn.ns _ hk).1; omega
    have hRl := hr.mem.lt
    have K2 : ∀ w1 w2, Mem w1 w.heap.size 35 #[.int .i64 1, .int .i64 fr, .int .i64 to, .int .i64 n, .slice A l.length c] → Eff (fun k => k = R) w1 w2 → Mem w2 w.heap.size 35 #[.int .i64 1, .int .i64 fr, .int .i64 to, .int .i64 n, .slice A l.length c] := fun w1 w2 hm he => hm.eff he (by omega)
    go_enter Try.func13, Try.ntmps13
    go_wp2
    go_region_held_law (fun W => W.cell? ⟨w.heap.size, 1, none⟩ = some (.int .i64 fr) ∧ W.cell? ⟨w.heap.size, 2, none⟩ = some (.int .i64 to) ∧ W.cell? ⟨w.heap.size, 4, none⟩ = some (.slice A l.length c)) (first | assumption | exact hst _ hm2 | exact hst _ hm1) (first
      | (rw [if_pos (by rfl)]; go_simp; go_at_call 20; (with_reducible refine (hc _).mono ?_); rintro e w1 ⟨v', d', rfl, g1, g2, g3, _⟩; have hm1 := K1 _ g2; have hF1 := F1 _ _ _ _ g1 g2 g3; dsimp only)
      | (rw [if_pos (by rfl)]; go_simp; go_at_call 25; (with_reducible refine hF1.mono ?_); rintro e w2 ⟨rfl, hp2, he2⟩; have hm2 := K2 _ _ hm1 he2; dsimp only))
    all_goals (go_wp2_with fail)
    all_goals go_ret
    all_goals exact ⟨rfl, hp2⟩
  · have hc := fun o => send_no B X h s v L fr to _ l hgood ((w.alloc o).drew) (hn.below (hbD o)) (hSl o)
    have hc2 := fun o => rsend_no B R h s u (L.map Pk.ab) fr to _ l (by rw [hlen]; exact hgood) ((w.alloc o).drew) (hr.below (hbD o)) (hSl o)
    rw [hlen] at hc2
    have hfin := fun o => do_post hn hr (hbD o) (NetInv.step (hn.below (hbD o)) (Below.refl _ _)) (Below.refl _ _) (RefInv.step (hr.below (hbD o)) (Below.refl _ _)) (Below.refl _ _) (Nat.le_succ _)
    generalize sendC h L.length fr to l.length = code at *
    go_enter Try.func13, Try.ntmps13
    go_wp2
    go_region_held_law (fun W => W.cell? ⟨w.heap.size, 1, none⟩ = some (.int .i64 fr) ∧ W.cell? ⟨w.heap.size, 2, none⟩ = some (.int .i64 to) ∧ W.cell? ⟨w.heap.size, 4, none⟩ = some (.slice A l.length c)) (first | assumption) (first
      | (rw [if_pos (by rfl)]; go_simp; go_at_call 20; (with_reducible refine (hc _).mono ?_); rintro e w1 ⟨rfl, rfl⟩; dsimp only)
      | (rw [if_pos (by rfl)]; go_simp; go_at_call 25; (with_reducible refine (hc2 _).mono ?_); rintro e w2 ⟨rfl, rfl⟩; dsimp only))
    all_goals (go_wp2_with fail)
    all_goals go_ret
    all_goals exact ⟨rfl, hfin _⟩
set_option maxRecDepth 100000 in
set_option maxHeartbeats 2000000 in
theorem do4_any (B X R h s : Nat) (u v : Value) (L : List Pk) (fr to n : Int) (d : Value) (w : World) (hd1 : d.oneCell' = true) (hB : B ≤ w.heap.size) (hn : NetInv w B X v h L s) (hr : RefInv w B R u h (L.map Pk.ab) s) :
    Calls Try.prog 13 #[.pointer (some ⟨X, 0, none⟩), .pointer (some ⟨R, 0, none⟩), .agg #[.int .i64 4, .int .i64 fr, .int .i64 to, .int .i64 n, d]] w fun e w' => e = .returned (.bool true) ∧ DoPost w w' B X v R h s := by
  have hbA := fun o => (Below.refl w.heap.size w).alloc (Nat.le_refl _) o
  have hbD := fun o => (hbA o).drew
  have hM := Mem.new w 35 #[.int .i64 4, .int .i64 fr, .int .i64 to, .int .i64 n, d]
  have hlen : (L.map Pk.ab).length = L.length := by simp
  have y0 := hM.cell 0
  have hSD : ((w.alloc (.cells #[.int .i64 4, .int .i64 fr, .int .i64 to, .int .i64 n, d] 35)).drew).cell? ⟨w.heap.size, 3, none⟩ = some (.int .i64 n) := hM.cell 3
  have hRl := hr.mem.lt
  have K1 : ∀ w1, Eff (NS X v) ((w.alloc (.cells #[.int .i64 4, .int .i64 fr, .int .i64 to, .int .i64 n, d] 35)).drew) w1 → Mem w1 w.heap.size 35 #[.int .i64 4, .int .i64 fr, .int .i64 to, .int .i64 n, d] := fun w1 he => Mem.eff (show Mem ((w.alloc _).drew) _ _ _ from hM) he fun hk => by have := (hn.ns _ hk).1; omega
  have K2 : ∀ w1 w2, Mem w1 w.heap.size 35 #[.int .i64 4, .int .i64 fr, .int .i64 to, .int .i64 n, d] → Eff (fun k => k = R) w1 w2 → w2.cell? ⟨w.heap.size, 3, none⟩ = some (.int .i64 n) := fun w1 w2 hm he => (hm.eff he (by omega)).cell 3
  have K3 : ∀ w1, Mem w1 w.heap.size 35 #[.int .i64 4, .int .i64 fr, .int .i64 to, .int .i64 n, d] → w1.cell? ⟨w.heap.size, 3, none⟩ = some (.int .i64 n) := fun w1 hm => hm.cell 3
  by_cases hin : 0 ≤ n ∧ n < L.length ∧ L.length < 4096
  · obtain ⟨m, rfl⟩ : ∃ m : Nat, n = m := ⟨n.toNat, by omega⟩
    have hm : m < L.length := by omega
    have hc := fun o => copy_ok B X h s v L m hm hin.2.2 ((w.alloc o).drew) (Nat.le_trans hB (hbD o).size) (hn.below (hbD o))
    have F1 : ∀ o w1 d', NetStep ((w.alloc o).drew) w1 B X v h (L ++ [⟨L[m].fr, L[m].to, d', L[m].l⟩]) s → (Calls Try.prog 27 #[.pointer (some ⟨R, 0, none⟩), .int .i64 (m : Nat)] w1 fun e w2 => e = .returned (.bool true) ∧ DoPost w w2 B X v R h s ∧ Eff (fun k => k = R) w1 w2) ∧ Eff (NS X v) ((w.alloc o).drew) w1 := by
      intro o w1 d' hst1
      have hst2 := hst1
      obtain ⟨v', g1, g2, g3⟩ := hst2
      have hrW := (hr.below (hbD o)).netStays (hn.below (hbD o)) g2
      refine ⟨(rcopy_ok B R h s u (L.map Pk.ab) m (by rw [hlen]; exact hm) (by rw [hlen]; exact hin.2.2) w1 (Nat.le_trans hB (Nat.le_trans (hbD o).size g2.size)) hrW).mono ?_, g2⟩
      rintro e w2 ⟨rfl, ht⟩
      have ht2 : RefStep w1 w2 B R u h ((L ++ [(⟨L[m].fr, L[m].to, d', L[m].l⟩ : Pk)]).map Pk.ab) s := by
        rw [List.map_append]
        rw [List.getElem_map] at ht
        exact ht
      have ht3 := ht
      obtain ⟨u', _, k2, _⟩ := ht3
      exact ⟨rfl, do_post hn hr (hbD o) hst1 (Below.refl _ _) ht2 (Below.refl _ _) (Nat.le_succ _), k2⟩
    go_enter Try.func13, Try.ntmps13
    go_wp2
    go_region_held_law (fun W => W.cell? ⟨w.heap.size, 3, none⟩ = some (.int .i64 m)) (first | assumption | exact K2 _ _ hm1 he2 | exact K3 _ hm1) (first
      | (rw [if_pos (by rfl)]; go_simp; go_at_call 21; (with_reducible refine (hc _).mono ?_); rintro e w1 ⟨d', rfl, g1⟩; obtain ⟨hF1, g2⟩ := F1 _ _ _ g1; have hm1 := K1 _ g2; dsimp only)
      | (rw [if_pos (by rfl)]; go_simp; go_at_call 27; (with_reducible refine hF1.mono ?_); rintro e w2 ⟨rfl, hp2, he2⟩; dsimp only))
    all_goals (go_wp2_with fail)
    all_goals go_ret
    all_goals exact ⟨rfl, hp2⟩
  · have hc := fun o => copy_no B X h s v L n hin ((w.alloc o).drew) (hn.below (hbD o))
    have hc2 : ∀ o, Calls Try.prog 27 #[.pointer (some ⟨R, 0, none⟩), .int .i64 n] ((w.alloc o).drew) fun e w2 => e = .returned (.bool false) ∧ DoPost w w2 B X v R h s ∧ Below ((w.alloc o).drew).heap.size ((w.alloc o).drew) w2 := by
      intro o
      refine (rcopy_no B R h s u (L.map Pk.ab) n (by rw [hlen]; exact hin) ((w.alloc o).drew) (hr.below (hbD o))).mono ?_
      rintro e w2 ⟨rfl, hb⟩
      exact ⟨rfl, do_post hn hr (hbD o) (NetInv.step (hn.below (hbD o)) (Below.refl _ _)) (Below.refl _ _) (RefInv.step (hr.below (hbD o)) hb) (Below.refl _ _) (Nat.le_succ _), hb⟩
    have K4 : ∀ w2, Below ((w.alloc (.cells #[.int .i64 4, .int .i64 fr, .int .i64 to, .int .i64 n, d] 35)).drew).heap.size ((w.alloc (.cells #[.int .i64 4, .int .i64 fr, .int .i64 to, .int .i64 n, d] 35)).drew) w2 → w2.cell? ⟨w.heap.size, 3, none⟩ = some (.int .i64 n) := fun w2 hb => (Mem.below (show Mem ((w.alloc _).drew) _ _ _ from hM) hb hM.lt).cell 3
    go_enter Try.func13, Try.ntmps13
    go_wp2
    go_region_held_law (fun W => W.cell? ⟨w.heap.size, 3, none⟩ = some (.int .i64 n)) (first | assumption | exact K4 _ hb2) (first
      | (rw [if_pos (by rfl)]; go_simp; go_at_call 21; (with_reducible refine (hc _).mono ?_); rintro e w1 ⟨rfl, rfl⟩; dsimp only)
      | (rw [if_pos (by rfl)]; go_simp; go_at_call 27; (with_reducible refine (hc2 _).mono ?_); rintro e w2 ⟨rfl, hp2, hb2⟩; dsimp only))
    all_goals (go_wp2_with fail)
    all_goals go_ret
    all_goals exact ⟨rfl, hp2⟩
end Go.Proofs.Ytmlimmcaidkoeaa
