/- Do: the acts 2 (Deliver), 3 (Drop), 5 (Take), and else (Packet). -/
import Derived.Test.YtmlimmcaidkoeaaDo1
namespace Go.Proofs.Ytmlimmcaidkoeaa
open Go.ChangeShapes Go.WideShapes Go.ChangeAt Go.RowKit Go.Lib
set_option linter.unusedVariables false
theorem first_to9 (t : Int) : ∀ (L : List Pk), (∃ k, ∃ hk : k < L.length, L[k].to = t ∧ ∀ j (hj : j < L.length), j < k → L[j].to ≠ t) ∨ ∀ j (hj : j < L.length), L[j].to ≠ t
  | [] => .inr fun j hj => by simp at hj
  | p :: L => by
    by_cases hp : p.to = t
    · exact .inl ⟨0, by simp, hp, fun j _ h => by omega⟩
    · rcases first_to9 t L with ⟨k, hk, h1, h2⟩ | h
      · refine .inl ⟨k + 1, by simp; omega, h1, fun j hj hjk => ?_⟩
        cases j with
        | zero => exact hp
        | succ j => exact h2 j (by simpa using hj) (by omega)
      · refine .inr fun j hj => ?_
        cases j with
        | zero => exact hp
        | succ j => exact h j (by simpa using hj)
theorem map_erase (L : List Pk) (i : Nat) : (L.eraseIdx i).map Pk.ab = (L.map Pk.ab).eraseIdx i := by
  rw [List.eraseIdx_eq_take_drop_succ, List.eraseIdx_eq_take_drop_succ, List.map_append, List.map_take, List.map_drop]
set_option maxRecDepth 100000 in
set_option maxHeartbeats 2000000 in
theorem do3_any (B X R h s : Nat) (u v : Value) (L : List Pk) (fr to n : Int) (d : Value) (w : World) (hd1 : d.oneCell' = true) (hB : B ≤ w.heap.size) (hn : NetInv w B X v h L s) (hr : RefInv w B R u h (L.map Pk.ab) s) :
    Calls Try.prog 13 #[.pointer (some ⟨X, 0, none⟩), .pointer (some ⟨R, 0, none⟩), .agg #[.int .i64 3, .int .i64 fr, .int .i64 to, .int .i64 n, d]] w fun e w' => e = .returned (.bool true) ∧ DoPost w w' B X v R h s := by
  have hbA := fun o => (Below.refl w.heap.size w).alloc (Nat.le_refl _) o
  have hM := Mem.new w 35 #[.int .i64 3, .int .i64 fr, .int .i64 to, .int .i64 n, d]
  have hlen : (L.map Pk.ab).length = L.length := by simp
  have hRl := hr.mem.lt
  have hXl := hn.mem.lt
  have y0 := hM.cell 0
  have y2 := hM.cell 2
  have y3 := hM.cell 3
  have hnA := fun o => hn.below (hbA o)
  have hrA := fun o => hr.below (hbA o)
  have hBA := fun o => Nat.le_trans hB (hbA o).size
  by_cases hin : 0 ≤ n ∧ n < L.length
  · obtain ⟨m, rfl⟩ : ∃ m : Nat, n = m := ⟨n.toNat, by omega⟩
    have hm : m < L.length := by omega
    have hc := fun o => out_ok B R h s u (L.map Pk.ab) m (by rw [hlen]; exact hm) (w.alloc o) (hBA o) (hrA o)
    rw [List.getElem_map] at hc
    have F : ∀ o o2 w1, RefStep (w.alloc o) w1 B R u h ((L.map Pk.ab).eraseIdx m) s → Calls Try.prog 23 #[.pointer (some ⟨X, 0, none⟩), .int .i64 (m : Nat)] (w1.alloc o2) fun e w2 => e = .returned (.bool true) ∧ DoPost w w2 B X v R h s := by
      intro o o2 w1 ht
      rw [← map_erase] at ht
      have ht2 := ht
      obtain ⟨u', k1, k2, k3⟩ := ht2
      have hn1 := ((hnA o).refStays (mem_tag (hrA o).mem) k2).below ((Below.refl _ _).alloc (Nat.le_refl _) o2)
      refine (drop_ok B X h s v L m hm (w1.alloc o2) hn1 (Nat.le_trans (hBA o) (Nat.le_trans k2.size (by simp)))).mono ?_
      rintro e w2 ⟨rfl, hst⟩
      exact ⟨rfl, do_post' hn hr (hbA o) ht ((Below.refl _ _).alloc (Nat.le_refl _) o2) hst (Below.refl _ _) (Nat.le_succ _)⟩
    have K : ∀ w1 o2, RefStep (w.alloc (.cells #[.int .i64 3, .int .i64 fr, .int .i64 to, .int .i64 (m : Nat), d] 35)) w1 B R u h ((L.map Pk.ab).eraseIdx m) s → (w1.alloc o2).cell? ⟨w.heap.size, 3, none⟩ = some (.int .i64 (m : Nat)) := by
      rintro w1 o2 ⟨u', k1, k2, k3⟩
      exact Lib.cell?_alloc_some o2 ((hM.eff k2 (by omega)).cell 3)
    generalize L[m] = p at *
    obtain ⟨pf, pt, pd, pl⟩ := p
    unfold Pk.ab Ab.val str at hc
    simp only at hc
    go_enter Try.func13, Try.ntmps13
    go_wp2_with (first
      | (go_at_call 26; (refine (hc _).mono ?_); rintro e w1 ⟨rfl, ht⟩; have hF := fun o2 => F _ o2 _ ht; have hK := fun o2 => K _ o2 ht)
      | (go_at_call 23; (refine (hF _).mono ?_); rintro e w2 ⟨rfl, hp⟩))
    all_goals go_ret
    all_goals exact ⟨rfl, hp⟩
  · have hc := fun o => out_no B R h s u (L.map Pk.ab) n (by rw [hlen]; exact hin) (w.alloc o) (hrA o)
    unfold ab0 at hc
    have F : ∀ o o2 w1, Below (w.alloc o).heap.size (w.alloc o) w1 → Calls Try.prog 23 #[.pointer (some ⟨X, 0, none⟩), .int .i64 n] (w1.alloc o2) fun e w2 => e = .returned (.bool false) ∧ DoPost w w2 B X v R h s := by
      intro o o2 w1 hb
      have hb1 := (hbA o).trans ((hb.alloc hb.size o2).mono (hbA o).size)
      refine (drop_no B X h s v L n hin (w1.alloc o2) (hn.below hb1)).mono ?_
      rintro e w2 ⟨rfl, hb2⟩
      exact ⟨rfl, do_post hn hr hb1 (NetInv.step (hn.below hb1) (Below.refl _ _)) (Below.refl _ _) (RefInv.step (hr.below hb1) (Below.refl _ _)) hb2 (Nat.le_succ _)⟩
    have K : ∀ w1 o2, Below (w.alloc (.cells #[.int .i64 3, .int .i64 fr, .int .i64 to, .int .i64 n, d] 35)).heap.size (w.alloc (.cells #[.int .i64 3, .int .i64 fr, .int .i64 to, .int .i64 n, d] 35)) w1 → (w1.alloc o2).cell? ⟨w.heap.size, 3, none⟩ = some (.int .i64 n) := fun w1 o2 hb => Lib.cell?_alloc_some o2 ((hM.below hb hM.lt).cell 3)
    go_enter Try.func13, Try.ntmps13
    go_wp2_with (first
      | (go_at_call 26; (refine (hc _).mono ?_); rintro e w1 ⟨rfl, ht⟩; have hF := fun o2 => F _ o2 _ ht; have hK := fun o2 => K _ o2 ht)
      | (go_at_call 23; (refine (hF _).mono ?_); rintro e w2 ⟨rfl, hp⟩))
    all_goals go_ret
    all_goals exact ⟨rfl, hp⟩
theorem deliver_st (B X h s : Nat) (v : Value) (L : List Pk) (i : Nat) (hi : i < L.length) (w : World) (hn : NetInv w B X v h L s) (hB : B ≤ w.heap.size) :
    Calls Try.prog 24 #[.pointer (some ⟨X, 0, none⟩), .int .i64 (i : Nat)] w fun e w' => e = .returned (.tuple #[L[i].val, .bool true]) ∧ NetStep w w' B X v h (L.eraseIdx i) s := by
  refine (deliver_ok B X h s v L i hi w hn hB).mono ?_
  rintro e w' ⟨v', rfl, h1, h2, h3⟩
  exact ⟨rfl, v', h1, h2, fun k hk => .inl (h3 ▸ hk)⟩
set_option maxRecDepth 100000 in
set_option maxHeartbeats 2000000 in
theorem do2_any (B X R h s : Nat) (u v : Value) (L : List Pk) (fr to n : Int) (d : Value) (w : World) (hd1 : d.oneCell' = true) (hB : B ≤ w.heap.size) (hn : NetInv w B X v h L s) (hr : RefInv w B R u h (L.map Pk.ab) s) :
    Calls Try.prog 13 #[.pointer (some ⟨X, 0, none⟩), .pointer (some ⟨R, 0, none⟩), .agg #[.int .i64 2, .int .i64 fr, .int .i64 to, .int .i64 n, d]] w fun e w' => e = .returned (.bool true) ∧ DoPost w w' B X v R h s := by
  have hbA := fun o => (Below.refl w.heap.size w).alloc (Nat.le_refl _) o
  have hM := Mem.new w 35 #[.int .i64 2, .int .i64 fr, .int .i64 to, .int .i64 n, d]
  have hlen : (L.map Pk.ab).length = L.length := by simp
  have hRl := hr.mem.lt
  have hXl := hn.mem.lt
  have y0 := hM.cell 0
  have y2 := hM.cell 2
  have y3 := hM.cell 3
  have hnA := fun o => hn.below (hbA o)
  have hrA := fun o => hr.below (hbA o)
  have hBA := fun o => Nat.le_trans hB (hbA o).size
  by_cases hin : 0 ≤ n ∧ n < L.length
  · obtain ⟨m, rfl⟩ : ∃ m : Nat, n = m := ⟨n.toNat, by omega⟩
    have hm : m < L.length := by omega
    have hmM : m < (L.map Pk.ab).length := by rw [hlen]; exact hm
    have hpm := List.getElem_mem hm
    have hc := fun o => deliver_st B X h s v L m hm (w.alloc o) (hnA o) (hBA o)
    have F : ∀ o o2 w1, NetStep (w.alloc o) w1 B X v h (L.eraseIdx m) s → (Calls Try.prog 26 #[.pointer (some ⟨R, 0, none⟩), .int .i64 (m : Nat)] (w1.alloc o2) fun e w2 => e = .returned (.tuple #[(L[m]).ab.val, .bool true]) ∧ (∀ o3 w3, Below (w2.alloc o3).heap.size (w2.alloc o3) w3 → DoPost w w3 B X v R h s) ∧ Eff (fun k => k = R) (w1.alloc o2) w2 ∧ DOk w2 B L[m]) ∧ (w.alloc o).heap.size ≤ w1.heap.size ∧ Eff (NS X v) (w.alloc o) w1 := by
      intro o o2 w1 hst
      have hst2 := hst
      obtain ⟨v', g1, g2, g3⟩ := hst2
      have hr1 := ((hrA o).netStays (hnA o) g2).below ((Below.refl _ _).alloc (Nat.le_refl _) o2)
      refine ⟨(out_ok B R h s u (L.map Pk.ab) m hmM (w1.alloc o2) (Nat.le_trans (hBA o) (Nat.le_trans g2.size (by simp))) hr1).mono ?_, g2.size, g2⟩
      rintro e w2 ⟨rfl, ht⟩
      rw [← map_erase] at ht
      have ht2 := ht
      obtain ⟨u', k1, k2, k3⟩ := ht2
      have hdk := ((step_data (hnA o) hst hpm).below ((Below.refl _ _).alloc (Nat.le_refl _) o2)).eff k2 (fun k _ e => e ▸ (mem_tag hr1.mem).not (by decide))
      refine ⟨by rw [List.getElem_map], fun o3 w3 hb3 => ?_, k2, hdk⟩
      exact do_post hn hr (hbA o) hst ((Below.refl _ _).alloc (Nat.le_refl _) o2) ht (((Below.refl _ _).alloc (Nat.le_refl _) o3).trans (hb3.mono (by simp))) (Nat.le_succ _)
    generalize L[m] = p at *
    obtain ⟨pf, pt, pd, pl⟩ := p
    obtain ⟨Ap, cp, hpv, _⟩ := own_form (hn.data _ hpm).1
    simp only at hpv
    subst hpv
    unfold Pk.val at hc
    unfold Pk.ab Ab.val str at F
    simp only at hc F
    have G : ∀ (w1 w2 : World) o3, (w.alloc (.cells #[.int .i64 2, .int .i64 fr, .int .i64 to, .int .i64 (m : Nat), d] 35)).heap.size ≤ w1.heap.size → Eff (fun k => k = R) (w1.alloc (.cells #[.int .i64 pf, .int .i64 pt, .slice Ap pl.length cp] 41)) w2 → DOk w2 B ⟨pf, pt, .slice Ap pl.length cp, pl⟩ → Mem (w2.alloc o3) w1.heap.size 41 #[.int .i64 pf, .int .i64 pt, .slice Ap pl.length cp] ∧ (Calls Try.prog 17 #[.agg #[.int .i64 pf, .int .i64 pt, .slice Ap pl.length cp], .agg #[.int .i64 pf, .int .i64 pt, .string ⟨pl.toArray⟩]] (w2.alloc o3) fun e w' => e = .returned (.bool true) ∧ Below (w2.alloc o3).heap.size (w2.alloc o3) w') := by
      intro w1 w2 o3 hs1 he hdk
      refine ⟨((Mem.new w1 41 #[.int .i64 pf, .int .i64 pt, .slice Ap pl.length cp]).eff he (by simp at hs1; omega)).alloc o3, same_any pf pt (.slice Ap pl.length cp) pl (w2.alloc o3) ((hdk.sl.alloc (Nat.le_refl _) o3).more (by simp))⟩
    have K : ∀ w1 o2, Eff (NS X v) (w.alloc (.cells #[.int .i64 2, .int .i64 fr, .int .i64 to, .int .i64 (m : Nat), d] 35)) w1 → (w1.alloc o2).cell? ⟨w.heap.size, 3, none⟩ = some (.int .i64 (m : Nat)) := fun w1 o2 he => Lib.cell?_alloc_some o2 ((hM.eff he (fun hk => by have := (hn.ns _ hk).1; omega)).cell 3)
    go_enter Try.func13, Try.ntmps13
    go_wp2_with (first
      | (refine wpList_load_row rfl 41 (.tmp 7) rfl w1.heap.size rfl 41 #[.int .i64 pf, .int .i64 pt, .slice Ap pl.length cp] (0, 0) _ (hG _).1 Try.underlying41 rfl (by kernel_rfl) ?_)
      | (refine wpList_load_row rfl 46 (.tmp 9) rfl w2.heap.size rfl 46 #[.int .i64 pf, .int .i64 pt, .string ⟨pl.toArray⟩] (0, 0) _ (Mem.new w2 _ _) Try.underlying46 rfl (by kernel_rfl) ?_)
      | (go_at_call 24; (refine (hc _).mono ?_); rintro e w1 ⟨rfl, hst⟩; have hF := fun o2 => (F _ o2 _ hst).1; have hsz := (F _ (.cells #[] 0) _ hst).2.1; have hK := fun o2 => K _ o2 (F _ (.cells #[] 0) _ hst).2.2)
      | (go_at_call 26; (refine (hF _).mono ?_); rintro e w2 ⟨rfl, hp, he2, hdk⟩; have hG := fun o3 => G _ _ o3 hsz he2 hdk)
      | (go_at_call 17; (refine (hG _).2.mono ?_); rintro e w3 ⟨rfl, hb3⟩))
    all_goals go_ret
    all_goals exact ⟨rfl, hp _ _ hb3⟩
  · have hc := fun o => deliver_no B X h s v L n hin (w.alloc o) (hnA o)
    unfold pk0 at hc
    have F : ∀ o o2 w1, Below (w.alloc o).heap.size (w.alloc o) w1 → Calls Try.prog 26 #[.pointer (some ⟨R, 0, none⟩), .int .i64 n] (w1.alloc o2) fun e w2 => e = .returned (.tuple #[.agg #[.int .i64 0, .int .i64 0, .string .empty], .bool false]) ∧ Below (w1.alloc o2).heap.size (w1.alloc o2) w2 ∧ ∀ o3 w3, Below (w2.alloc o3).heap.size (w2.alloc o3) w3 → DoPost w w3 B X v R h s := by
      intro o o2 w1 hb
      have hb1 := (hbA o).trans ((hb.alloc hb.size o2).mono (hbA o).size)
      refine (out_no B R h s u (L.map Pk.ab) n (by rw [hlen]; exact hin) (w1.alloc o2) (hr.below hb1)).mono ?_
      rintro e w2 ⟨rfl, hb2⟩
      refine ⟨rfl, hb2, fun o3 w3 hb3 => ?_⟩
      have hb4 := hb2.trans (((((Below.refl w2.heap.size w2).alloc (Nat.le_refl _) o3).trans (hb3.mono (by simp)))).mono hb2.size)
      exact do_post hn hr hb1 (NetInv.step (hn.below hb1) (Below.refl _ _)) (Below.refl _ _) (RefInv.step (hr.below hb1) (Below.refl _ _)) hb4 (Nat.le_succ _)
    have G : ∀ (w1 w2 : World) o3, Below (w1.alloc (.cells #[.int .i64 0, .int .i64 0, .slice none 0 0] 41)).heap.size (w1.alloc (.cells #[.int .i64 0, .int .i64 0, .slice none 0 0] 41)) w2 → Mem (w2.alloc o3) w1.heap.size 41 #[.int .i64 0, .int .i64 0, .slice none 0 0] := fun w1 w2 o3 hb => ((Mem.new w1 41 #[.int .i64 0, .int .i64 0, .slice none 0 0]).below hb (by simp)).alloc o3
    have hsame : ∀ W, Calls Try.prog 17 #[.agg #[.int .i64 0, .int .i64 0, .slice none 0 0], .agg #[.int .i64 0, .int .i64 0, .string .empty]] W fun e w' => e = .returned (.bool true) ∧ Below W.heap.size W w' := fun W => same_any 0 0 (.slice none 0 0) [] W Sl.nil_
    have K : ∀ w1 o2, Below (w.alloc (.cells #[.int .i64 2, .int .i64 fr, .int .i64 to, .int .i64 n, d] 35)).heap.size (w.alloc (.cells #[.int .i64 2, .int .i64 fr, .int .i64 to, .int .i64 n, d] 35)) w1 → (w1.alloc o2).cell? ⟨w.heap.size, 3, none⟩ = some (.int .i64 n) := fun w1 o2 hb => Lib.cell?_alloc_some o2 ((hM.below hb hM.lt).cell 3)
    go_enter Try.func13, Try.ntmps13
    go_wp2_with (first
      | (refine wpList_load_row rfl 41 (.tmp 7) rfl w1.heap.size rfl 41 #[.int .i64 0, .int .i64 0, .slice none 0 0] (0, 0) _ (hG _) Try.underlying41 rfl (by kernel_rfl) ?_)
      | (refine wpList_load_row rfl 46 (.tmp 9) rfl w2.heap.size rfl 46 #[.int .i64 0, .int .i64 0, .string .empty] (0, 0) _ (Mem.new w2 _ _) Try.underlying46 rfl (by kernel_rfl) ?_)
      | (go_at_call 24; (refine (hc _).mono ?_); rintro e w1 ⟨rfl, hb1⟩; have hF := fun o2 => F _ o2 _ hb1; have hK := fun o2 => K _ o2 hb1)
      | (go_at_call 26; (refine (hF _).mono ?_); rintro e w2 ⟨rfl, hb2, hp⟩; have hG := fun o3 => G _ _ o3 hb2)
      | (go_at_call 17; (refine (hsame _).mono ?_); rintro e w3 ⟨rfl, hb3⟩))
    all_goals go_ret
    all_goals exact ⟨rfl, hp _ _ hb3⟩
set_option maxRecDepth 100000 in
set_option maxHeartbeats 2000000 in
theorem do5_any (B X R h s : Nat) (u v : Value) (L : List Pk) (fr to n : Int) (d : Value) (w : World) (hd1 : d.oneCell' = true) (hB : B ≤ w.heap.size) (hn : NetInv w B X v h L s) (hr : RefInv w B R u h (L.map Pk.ab) s) :
    Calls Try.prog 13 #[.pointer (some ⟨X, 0, none⟩), .pointer (some ⟨R, 0, none⟩), .agg #[.int .i64 5, .int .i64 fr, .int .i64 to, .int .i64 n, d]] w fun e w' => e = .returned (.bool true) ∧ DoPost w w' B X v R h s := by
  have hbA := fun o => (Below.refl w.heap.size w).alloc (Nat.le_refl _) o
  have hM := Mem.new w 35 #[.int .i64 5, .int .i64 fr, .int .i64 to, .int .i64 n, d]
  have hlen : (L.map Pk.ab).length = L.length := by simp
  have hRl := hr.mem.lt
  have hXl := hn.mem.lt
  have y0 := hM.cell 0
  have y2 := hM.cell 2
  have y3 := hM.cell 3
  have hnA := fun o => hn.below (hbA o)
  have hrA := fun o => hr.below (hbA o)
  have hBA := fun o => Nat.le_trans hB (hbA o).size
  rcases first_to9 to L with ⟨m, hm, hm1, hm2⟩ | hno
  · have hm2' : ∀ j (hj : j < (L.map Pk.ab).length), j < m → (L.map Pk.ab)[j].to ≠ to := fun j hj hjm => by rw [List.getElem_map]; exact hm2 j (by rw [hlen] at hj; exact hj) hjm
    have hmM : m < (L.map Pk.ab).length := by rw [hlen]; exact hm
    have hpm := List.getElem_mem hm
    have hc := fun o => take_ok B X h s v L to m hm hm1 hm2 (w.alloc o) (hBA o) (hnA o)
    have F : ∀ o o2 w1, NetStep (w.alloc o) w1 B X v h (L.eraseIdx m) s → (Calls Try.prog 28 #[.pointer (some ⟨R, 0, none⟩), .int .i64 to] (w1.alloc o2) fun e w2 => e = .returned (.tuple #[(L[m]).ab.val, .bool true]) ∧ (∀ o3 w3, Below (w2.alloc o3).heap.size (w2.alloc o3) w3 → DoPost w w3 B X v R h s) ∧ Eff (fun k => k = R) (w1.alloc o2) w2 ∧ DOk w2 B L[m]) ∧ (w.alloc o).heap.size ≤ w1.heap.size ∧ Eff (NS X v) (w.alloc o) w1 := by
      intro o o2 w1 hst
      have hst2 := hst
      obtain ⟨v', g1, g2, g3⟩ := hst2
      have hr1 := ((hrA o).netStays (hnA o) g2).below ((Below.refl _ _).alloc (Nat.le_refl _) o2)
      refine ⟨(rtake_ok B R h s u (L.map Pk.ab) to m hmM (by rw [List.getElem_map]; exact hm1) hm2' (w1.alloc o2) (Nat.le_trans (hBA o) (Nat.le_trans g2.size (by simp))) hr1).mono ?_, g2.size, g2⟩
      rintro e w2 ⟨rfl, ht⟩
      rw [← map_erase] at ht
      have ht2 := ht
      obtain ⟨u', k1, k2, k3⟩ := ht2
      have hdk := ((step_data (hnA o) hst hpm).below ((Below.refl _ _).alloc (Nat.le_refl _) o2)).eff k2 (fun k _ e => e ▸ (mem_tag hr1.mem).not (by decide))
      refine ⟨by rw [List.getElem_map], fun o3 w3 hb3 => ?_, k2, hdk⟩
      exact do_post hn hr (hbA o) hst ((Below.refl _ _).alloc (Nat.le_refl _) o2) ht (((Below.refl _ _).alloc (Nat.le_refl _) o3).trans (hb3.mono (by simp))) (Nat.le_succ _)
    generalize L[m] = p at *
    obtain ⟨pf, pt, pd, pl⟩ := p
    obtain ⟨Ap, cp, hpv, _⟩ := own_form (hn.data _ hpm).1
    simp only at hpv
    subst hpv
    unfold Pk.val at hc
    unfold Pk.ab Ab.val str at F
    simp only at hc F
    have G : ∀ (w1 w2 : World) o3, (w.alloc (.cells #[.int .i64 5, .int .i64 fr, .int .i64 to, .int .i64 n, d] 35)).heap.size ≤ w1.heap.size → Eff (fun k => k = R) (w1.alloc (.cells #[.int .i64 pf, .int .i64 pt, .slice Ap pl.length cp] 41)) w2 → DOk w2 B ⟨pf, pt, .slice Ap pl.length cp, pl⟩ → Mem (w2.alloc o3) w1.heap.size 41 #[.int .i64 pf, .int .i64 pt, .slice Ap pl.length cp] ∧ (Calls Try.prog 17 #[.agg #[.int .i64 pf, .int .i64 pt, .slice Ap pl.length cp], .agg #[.int .i64 pf, .int .i64 pt, .string ⟨pl.toArray⟩]] (w2.alloc o3) fun e w' => e = .returned (.bool true) ∧ Below (w2.alloc o3).heap.size (w2.alloc o3) w') := by
      intro w1 w2 o3 hs1 he hdk
      refine ⟨((Mem.new w1 41 #[.int .i64 pf, .int .i64 pt, .slice Ap pl.length cp]).eff he (by simp at hs1; omega)).alloc o3, same_any pf pt (.slice Ap pl.length cp) pl (w2.alloc o3) ((hdk.sl.alloc (Nat.le_refl _) o3).more (by simp))⟩
    have K : ∀ w1 o2, Eff (NS X v) (w.alloc (.cells #[.int .i64 5, .int .i64 fr, .int .i64 to, .int .i64 n, d] 35)) w1 → (w1.alloc o2).cell? ⟨w.heap.size, 2, none⟩ = some (.int .i64 to) := fun w1 o2 he => Lib.cell?_alloc_some o2 ((hM.eff he (fun hk => by have := (hn.ns _ hk).1; omega)).cell 2)
    clear hm1 hm2 hm2'
    go_enter Try.func13, Try.ntmps13
    go_wp2_with (first
      | (refine wpList_load_row rfl 41 (.tmp 13) rfl w1.heap.size rfl 41 #[.int .i64 pf, .int .i64 pt, .slice Ap pl.length cp] (0, 0) _ (hG _).1 Try.underlying41 rfl (by kernel_rfl) ?_)
      | (refine wpList_load_row rfl 46 (.tmp 15) rfl w2.heap.size rfl 46 #[.int .i64 pf, .int .i64 pt, .string ⟨pl.toArray⟩] (0, 0) _ (Mem.new w2 _ _) Try.underlying46 rfl (by kernel_rfl) ?_)
      | (go_at_call 22; (refine (hc _).mono ?_); rintro e w1 ⟨rfl, hst⟩; have hF := fun o2 => (F _ o2 _ hst).1; have hsz := (F _ (.cells #[] 0) _ hst).2.1; have hK := fun o2 => K _ o2 (F _ (.cells #[] 0) _ hst).2.2)
      | (go_at_call 28; (refine (hF _).mono ?_); rintro e w2 ⟨rfl, hp, he2, hdk⟩; have hG := fun o3 => G _ _ o3 hsz he2 hdk)
      | (go_at_call 17; (refine (hG _).2.mono ?_); rintro e w3 ⟨rfl, hb3⟩))
    all_goals go_ret
    all_goals exact ⟨rfl, hp _ _ hb3⟩
  · have hc := fun o => take_no B X h s v L to hno (w.alloc o) (hnA o)
    unfold pk0 at hc
    have F : ∀ o o2 w1, Below (w.alloc o).heap.size (w.alloc o) w1 → Calls Try.prog 28 #[.pointer (some ⟨R, 0, none⟩), .int .i64 to] (w1.alloc o2) fun e w2 => e = .returned (.tuple #[.agg #[.int .i64 0, .int .i64 0, .string .empty], .bool false]) ∧ Below (w1.alloc o2).heap.size (w1.alloc o2) w2 ∧ ∀ o3 w3, Below (w2.alloc o3).heap.size (w2.alloc o3) w3 → DoPost w w3 B X v R h s := by
      intro o o2 w1 hb
      have hb1 := (hbA o).trans ((hb.alloc hb.size o2).mono (hbA o).size)
      refine (rtake_no B R h s u (L.map Pk.ab) to (fun j hj => by rw [List.getElem_map]; exact hno j (by rw [hlen] at hj; exact hj)) (w1.alloc o2) (hr.below hb1)).mono ?_
      rintro e w2 ⟨rfl, hb2⟩
      refine ⟨rfl, hb2, fun o3 w3 hb3 => ?_⟩
      have hb4 := hb2.trans (((((Below.refl w2.heap.size w2).alloc (Nat.le_refl _) o3).trans (hb3.mono (by simp)))).mono hb2.size)
      exact do_post hn hr hb1 (NetInv.step (hn.below hb1) (Below.refl _ _)) (Below.refl _ _) (RefInv.step (hr.below hb1) (Below.refl _ _)) hb4 (Nat.le_succ _)
    have G : ∀ (w1 w2 : World) o3, Below (w1.alloc (.cells #[.int .i64 0, .int .i64 0, .slice none 0 0] 41)).heap.size (w1.alloc (.cells #[.int .i64 0, .int .i64 0, .slice none 0 0] 41)) w2 → Mem (w2.alloc o3) w1.heap.size 41 #[.int .i64 0, .int .i64 0, .slice none 0 0] := fun w1 w2 o3 hb => ((Mem.new w1 41 #[.int .i64 0, .int .i64 0, .slice none 0 0]).below hb (by simp)).alloc o3
    have hsame : ∀ W, Calls Try.prog 17 #[.agg #[.int .i64 0, .int .i64 0, .slice none 0 0], .agg #[.int .i64 0, .int .i64 0, .string .empty]] W fun e w' => e = .returned (.bool true) ∧ Below W.heap.size W w' := fun W => same_any 0 0 (.slice none 0 0) [] W Sl.nil_
    have K : ∀ w1 o2, Below (w.alloc (.cells #[.int .i64 5, .int .i64 fr, .int .i64 to, .int .i64 n, d] 35)).heap.size (w.alloc (.cells #[.int .i64 5, .int .i64 fr, .int .i64 to, .int .i64 n, d] 35)) w1 → (w1.alloc o2).cell? ⟨w.heap.size, 2, none⟩ = some (.int .i64 to) := fun w1 o2 hb => Lib.cell?_alloc_some o2 ((hM.below hb hM.lt).cell 2)
    clear hno
    go_enter Try.func13, Try.ntmps13
    go_wp2_with (first
      | (refine wpList_load_row rfl 41 (.tmp 13) rfl w1.heap.size rfl 41 #[.int .i64 0, .int .i64 0, .slice none 0 0] (0, 0) _ (hG _) Try.underlying41 rfl (by kernel_rfl) ?_)
      | (refine wpList_load_row rfl 46 (.tmp 15) rfl w2.heap.size rfl 46 #[.int .i64 0, .int .i64 0, .string .empty] (0, 0) _ (Mem.new w2 _ _) Try.underlying46 rfl (by kernel_rfl) ?_)
      | (go_at_call 22; (refine (hc _).mono ?_); rintro e w1 ⟨rfl, hb1⟩; have hF := fun o2 => F _ o2 _ hb1; have hK := fun o2 => K _ o2 hb1)
      | (go_at_call 28; (refine (hF _).mono ?_); rintro e w2 ⟨rfl, hb2, hp⟩; have hG := fun o3 => G _ _ o3 hb2)
      | (go_at_call 17; (refine (hsame _).mono ?_); rintro e w3 ⟨rfl, hb3⟩))
    all_goals go_ret
    all_goals exact ⟨rfl, hp _ _ hb3⟩
end Go.Proofs.Ytmlimmcaidkoeaa
