/- The document's timers: Set: contract. -/
import Derived.Test.YtohbkepjbaigdaaTr1
namespace Go.Proofs.Ytohbkepjbaigdaa
open Go.ChangeShapes Go.WideShapes Go.ChangeAt Go.RowKit Go.Lib
set_option linter.unusedVariables false
def RStep (w w' : World) (B R : Nat) (u : Value) (L' : List One) (now' : Int) : Prop :=
  ∃ u', RInv w' B R u' L' now' ∧ Eff (TS R u) w w' ∧ (∀ k, u'.ownBlock = some k → u.ownBlock = some k ∨ w.heap.size ≤ k)
theorem rset_bad (id after : Int) (h : after < 1 ∨ 1073741824 < after) (p : Value) (w : World) : Calls Try.prog 11 #[p, .int .i64 id, .int .i64 after] w fun e w' => e = .returned (.int .i64 1) ∧ w = w' := by
  rcases h with h | h
  · go_enter Try.func11, Try.ntmps11
    go_wp2
    go_ret
    exact ⟨rfl, rfl⟩
  · have h1 : ¬ after < 1 := by omega
    go_enter Try.func11, Try.ntmps11
    go_wp2
    go_ret
    exact ⟨rfl, rfl⟩
theorem rset_full (B R : Nat) (u : Value) (L : List One) (now id after : Int) (w : World) (hl : L.length ≤ 1000) (hn : RInv w B R u L now) (h1 : 1 ≤ after) (h2 : after ≤ 1073741824) (hi : rhas L id = false) (hf : 256 ≤ L.length) :
    Calls Try.prog 11 #[.pointer (some ⟨R, 0, none⟩), .int .i64 id, .int .i64 after] w fun e w' => e = .returned (.int .i64 7) ∧ Below w.heap.size w w' := by
  have hp := at_any B R u L now id w hl hn
  rw [hi] at hp
  have hx := fun W (hW : Below w.heap.size w W) => (hn.below hW).mem.cell 0
  obtain ⟨A, c, rfl, hc1, hc2⟩ := hn.parts
  have hfx : (256 : Int) ≤ (L.length : Int) := by omega
  have g1 : ¬ after < 1 := by omega
  have g2 : ¬ 1073741824 < after := by omega
  go_enter Try.func11, Try.ntmps11
  go_wp2_with (go_at_call 26; (with_reducible refine hp.mono ?_); rintro e w1 ⟨rfl, hb1⟩; have kx := hx w1 hb1)
  go_ret
  exact ⟨rfl, hb1⟩
theorem tflat_left (H : List One) (i : Nat) (h : i < H.length) (d : Int) : (tflat H).set (i * 2 + 1) (.int .i64 d) = tflat (H.set i ((pl H i).1, d)) := by
  rw [← tflat_set H i h]
  have h2 := (tflat_at H i h).1
  congr 1
  symm
  apply List.ext_getElem?
  intro j
  rw [List.getElem?_set]
  by_cases hj : i * 2 = j
  · subst hj
    rw [if_pos rfl, if_pos (List.getElem?_eq_some_iff.1 h2).1, h2]
  · rw [if_neg hj]
set_option maxHeartbeats 1000000 in
theorem rset_old (B R : Nat) (u : Value) (L : List One) (now id after : Int) (w : World) (hl : L.length ≤ 1000) (hn : RInv w B R u L now) (h1 : 1 ≤ after) (h2 : after ≤ 1073741824) (hi : rhas L id = true) :
    Calls Try.prog 11 #[.pointer (some ⟨R, 0, none⟩), .int .i64 id, .int .i64 after] w fun e w' => e = .returned (.int .i64 0) ∧ RStep w w' B R u (L.set (rk L id) (id, after)) now := by
  have hp := at_any B R u L now id w hl hn
  rw [hi] at hp
  have hlt : rk L id < L.length := (of_decide_eq_true hi).1
  have hid : (pl L (rk L id)).1 = id := (of_decide_eq_true hi).2
  obtain ⟨A, c, rfl, hc1, hc2⟩ := hn.parts
  obtain ⟨g, rfl, hBg, hgX⟩ := hn.at_ hlt
  have htl := tflat_left L _ hlt after
  rw [hid] at htl
  have hF : ∀ W, Below w.heap.size w W → W.cell? ⟨R, 0, none⟩ = some (.slice (some ⟨g, 0, none⟩) L.length c) ∧ W.cell? ⟨g, rk L id * 2 + 1, none⟩ = some (.int .i64 (pl L (rk L id)).2) ∧ W.frozen? ⟨g, rk L id * 2 + 1, none⟩ = false := fun W hW => ⟨(hn.below hW).mem.cell 0, ((hn.below hW).cells hlt).2, (hn.below hW).row.frozenAt _⟩
  have hix : ((rk L id : Nat) : Int) < (L.length : Int) := by omega
  clear hi hid
  generalize rk L id = m at *
  generalize (pl L m).2 = d at *
  have HTL := Lib.hid htl
  clear htl
  have g1 : ¬ after < 1 := by omega
  have g2 : ¬ 1073741824 < after := by omega
  go_enter Try.func11, Try.ntmps11
  go_wp2_with (go_at_call 26; (with_reducible refine hp.mono ?_); rintro e w1 ⟨rfl, hb1⟩; obtain ⟨kx1, kx2, kx3⟩ := hF w1 hb1)
  go_ret
  have hn1 := hn.below hb1
  have hS : Eff (fun k => k = g) w1 (w1.setCell ⟨g, m * 2 + 1, none⟩ (.int .i64 after)) := (Eff.refl (fun k => k = g) w1).setCell (p := ⟨g, m * 2 + 1, none⟩) rfl _
  refine ⟨rfl, _, ⟨hn.base, hn1.mem.eff hS (fun e => hgX e.symm), ?_⟩, (Eff.of (S := TS R (.slice (some ⟨g, 0, none⟩) L.length c)) hb1).trans (hS.mono fun k _ h => ts_row k h) fun _ _ h => h, fun k hk => .inl hk⟩
  rw [List.length_set, ← HTL.out]
  exact (hn1.row.stored _ _).1
section
variable {P : Program} (w : World)
theorem wpList_append_any {ops : Array Oper} {rest : List Oper} {o : Oper} {a : Act} {Q : Exit → Act → World → Prop} (hgd : o.guard = none) (s x : Operand) (t : TypeId)
    (ho : o.op = .call { callee := .builtin .append, args := #[s, x], argTypes := #[t, t] })
    (base : Nat) (e : TypeId) (i : TypeInfo) (z : Value) (size bytes : Nat) (ht : P.underlying t = some (.slice e)) (hi : P.info? e = some i) (hz : i.zero = some z)
    (hsize : i.size = size) (hby : i.bytes = bytes) (hzs : z.cells.size = size) (hsz : 0 < size)
    (v : Value) (n : Nat) (xs : List Value) (hs : a.eval s = v) (hown : w.ownsRow base e size v n xs)
    (A : Option Addr) (m c : Nat) (news : List Value) (hx : a.eval x = .slice A m c) (hl : news.length = m * size) (hnews : ∀ ad, A = some ad → ∀ j u, news[j]? = some u → w.cell? (ad.add j) = some u) (hnil : A = none → m = 0) (h1 : ∀ u ∈ news, u.oneCell' = true)
    (h63 : n + m ≤ maxLen) (hbytes : (n + m) * bytes ≤ 140737488355328) (hbase : base ≤ w.heap.size)
    (h : ∀ v' w', w'.ownsRow base e size v' (n + m) (xs ++ news) → w.grownBy w' v.ownBlock → (v'.ownBlock = v.ownBlock ∨ v'.ownBlock = some w.heap.size) → wpList P ops Q rest (a.put o.dst v') w') : wpList P ops Q (o :: rest) a w :=
  wpList_plain hgd fun _ hK => wp_append_any w s x t ho base e i z size bytes ht hi hz hsize hby hzs hsz v n xs hs hown A m c news hx hl hnews hnil h1 h63 hbytes hbase fun v' w' h2 h3 h4 => hK _ _ (h v' w' h2 h3 h4)
end
theorem tflat_drop (H : List One) (i : Nat) : (tflat H).drop (i * 2) = tflat (H.drop i) := by
  induction H generalizing i with
  | nil => simp [tflat]
  | cons p L ih =>
    cases i with
    | zero => simp
    | succ i =>
      have e : tflat (p :: L) = ocells p ++ tflat L := rfl
      rw [e, List.drop_succ_cons, ← ih i, List.drop_append]
      rw [List.drop_of_length_le (by simp [ocells]; omega), List.nil_append]
      congr 1
      simp [ocells]
      omega
theorem tflat_one (L : List One) : ∀ u ∈ tflat L, u.oneCell' = true := by
  intro u hu
  obtain ⟨x, _, hx⟩ := List.mem_flatMap.1 hu
  simp [ocells] at hx
  rcases hx with rfl | rfl <;> rfl
theorem r_put {w w7 : World} {B R : Nat} {u u7 : Value} {L K : List One} {now : Int} (hn : RInv w B R u L now) (hB : B ≤ w.heap.size) (hb : Below w.heap.size w w7) (ho : w7.ownsRow w.heap.size 56 2 u7 K.length (tflat K)) : RStep w (w7.setCell ⟨R, 0, none⟩ u7) B R u K now := by
  have hS : Eff (fun k => k = R) w7 (w7.setCell ⟨R, 0, none⟩ u7) := (Eff.refl (fun k => k = R) w7).setCell (p := ⟨R, 0, none⟩) rfl _
  have hR := hn.mem.lt
  refine ⟨u7, ⟨hn.base, (hn.mem.below hb hR).put 0 _, owns_eff (owns_mono ho hB) hS fun k hk e => ?_⟩, (Eff.of (S := TS R u) hb).trans (hS.mono fun k _ h => .inl h) fun _ _ h => h, fun k hk => .inr (ho.lt k hk).1⟩
  have := (ho.lt k hk).1
  omega
set_option maxRecDepth 100000 in
set_option maxHeartbeats 1000000 in
theorem rset_new (B R : Nat) (u : Value) (L : List One) (now id after : Int) (w : World) (hBw : B ≤ w.heap.size) (hn : RInv w B R u L now) (h1 : 1 ≤ after) (h2 : after ≤ 1073741824) (hi : rhas L id = false) (hf : L.length < 256) :
    Calls Try.prog 11 #[.pointer (some ⟨R, 0, none⟩), .int .i64 id, .int .i64 after] w fun e w' => e = .returned (.int .i64 0) ∧ RStep w w' B R u (L.take (rk L id) ++ (id, after) :: L.drop (rk L id)) now := by
  obtain ⟨i0, hi0, hz0, hz1, hz2⟩ := info_parts tmr_info
  have hp := at_any B R u L now id w (by omega) hn
  rw [hi] at hp
  have hle := rk_le L id
  obtain ⟨A, c, rfl, hc1, hc2⟩ := hn.parts
  have hfx : ¬ (256 : Int) ≤ (L.length : Int) := by omega
  have hlx : (L.length : Int) < 256 := by omega
  have g1 : ¬ after < 1 := by omega
  have g2 : ¬ 1073741824 < after := by omega
  have hF : ∀ W, Below w.heap.size w W → W.cell? ⟨R, 0, none⟩ = some (.slice A L.length c) ∧ W.frozen? ⟨R, 0, none⟩ = false := fun W hW => ⟨(hn.below hW).mem.cell 0, (hn.below hW).mem.free 0⟩
  clear hi
  generalize rk L id = m at *
  have hmx : (m : Int) ≤ (L.length : Int) := by omega
  rcases A with _ | ad
  · obtain rfl : L = [] := List.eq_nil_of_length_eq_zero ((rcell_any hn.row).2 rfl)
    obtain rfl : m = 0 := by simpa using hle
    obtain rfl : c = 0 := by
      rcases hn.row.2 with ⟨hv, _⟩ | ⟨g, cap, cur, hv, _⟩
      · simp only [Value.slice.injEq, true_and] at hv
        exact hv.2
      · cases hv
    have F4 : ∀ (w1 w7 : World) v7, Below w.heap.size w w1 → Below w.heap.size w w7 → w7.ownsRow w1.heap.size 56 2 v7 1 [.int .i64 id, .int .i64 after] → RStep w (w7.setCell ⟨R, 0, none⟩ v7) B R (.slice none 0 0) [(id, after)] now := fun w1 w7 v7 h1 h7 ho => r_put hn hBw h7 (owns_mono ho h1.size)
    have hone : ∀ u ∈ ([.int .i64 id, .int .i64 after] : List Value), u.oneCell' = true := by
      intro u hu
      simp at hu
      rcases hu with rfl | rfl <;> rfl
    have F1 : ∀ (w1 w4 : World) o, Below w.heap.size w w1 → Below (w1.alloc o).heap.size (w1.alloc o) w4 → Below w.heap.size w w4 ∧ w1.heap.size ≤ w4.heap.size := fun w1 w4 o h1 h4 => by
      have ha := (Below.refl w1.heap.size w1).alloc (Nat.le_refl _) o
      have h5 := ha.trans (h4.mono ha.size)
      exact ⟨h1.trans (h5.mono h1.size), h5.size⟩
    have F2 : ∀ (w1 w4 w6 : World) o A4 c4, Below w.heap.size w w1 → Below w.heap.size w w4 → w1.heap.size ≤ w4.heap.size → w4.ownsRow w1.heap.size 56 2 (.slice A4 0 c4) 0 [] → (w4.alloc o).grownBy w6 (Value.slice A4 0 c4).ownBlock → Below w.heap.size w w6 ∧ w1.heap.size ≤ w6.heap.size := fun w1 w4 w6 o A4 c4 h1 h4 hs ho hg => by
      have h5 := h4.alloc h4.size o
      refine ⟨h5.grown hg (by simp; have := h4.size; omega) (fun k hk => Nat.le_trans h1.size (ho.lt k hk).1), ?_⟩
      have := hg.size
      simp at this
      omega
    have F3 : ∀ (w1 w6 w7 : World) v6, Below w.heap.size w w1 → Below w.heap.size w w6 → w6.ownsRow w1.heap.size 56 2 v6 1 [.int .i64 id, .int .i64 after] → w6.grownBy w7 v6.ownBlock → Below w.heap.size w w7 := fun w1 w6 w7 v6 h1 h6 ho hg => h6.grown hg h6.size (fun k hk => Nat.le_trans h1.size (ho.lt k hk).1)
    clear hn hfx hlx hmx hf hc1 hle
    go_enter Try.func11, Try.ntmps11
    go_wp2_with (first
      | (go_at_call 26; (with_reducible refine hp.mono ?_); rintro e w1 ⟨rfl, hb1⟩; obtain ⟨kx1, kx2⟩ := hF w1 hb1; have kxA := fun o => Lib.cell?_alloc_some o kx1)
      | (at_builtin; (refine wpList_append_empty _ rfl (.tmp 37) (.tmp 43) _ rfl w1.heap.size 56 i0 _ 2 16 Try.underlying27 hi0 hz0 hz1 hz2 rfl (by decide) w1.heap.size rfl (Mem.new w1 _ _) (Nat.le_refl _) none 0 0 [] rfl rfl (by intro ad h; cases h) (by intro _; rfl) (by simp) (by decide) (by decide) (by simp) ?_); intro v4 w4 ho4 hb4; obtain ⟨hb4w, hs4⟩ := F1 _ _ _ hb1 hb4; obtain ⟨A4, c4, rfl, _, _⟩ := own_form ho4; have hoA4 := fun o => owns_below ho4 ((Below.refl w4.heap.size w4).alloc (Nat.le_refl _) o); have hsA4 : ∀ o, w1.heap.size ≤ (w4.alloc o).heap.size := fun o => Nat.le_trans hs4 ((Below.refl w4.heap.size w4).alloc (Nat.le_refl _) o).size)
      | (at_builtin; (refine wpList_append_at _ rfl (.tmp 44) (.tmp 48) _ rfl w1.heap.size 56 i0 _ 2 16 Try.underlying27 hi0 hz0 hz1 hz2 rfl (by decide) (.slice A4 0 c4) 0 [] rfl (hoA4 _) ⟨w4.heap.size, 0, none⟩ 1 1 [.int .i64 id, .int .i64 after] rfl rfl (cells_new2 _ _ _ _ _ _ (Mem.new _ _ _)) hone (by decide) (by decide) (hsA4 _) ?_); intro v6 w6 ho6 hg6 hat6; obtain ⟨hb6w, hs6⟩ := F2 _ _ _ _ _ _ hb1 hb4w hs4 ho4 hg6; obtain ⟨A6, c6, rfl, _, _⟩ := own_form ho6; obtain ⟨kx6, kz6⟩ := hF w6 hb6w)
      | (at_builtin; (refine wpList_append_any _ rfl (.tmp 51) (.tmp 57) _ rfl w1.heap.size 56 i0 _ 2 16 Try.underlying27 hi0 hz0 hz1 hz2 rfl (by decide) (.slice A6 1 c6) 1 [.int .i64 id, .int .i64 after] rfl ho6 none 0 0 [] rfl rfl (by intro ad h; cases h) (by intro _; rfl) (by simp) (by decide) (by decide) hs6 ?_); intro v7 w7 ho7 hg7 hat7; have hb7w := F3 _ _ _ _ hb1 hb6w ho6 hg7; obtain ⟨A7, c7, rfl, _, _⟩ := own_form ho7; obtain ⟨kx7, kz7⟩ := hF w7 hb7w; have hfin := F4 _ _ _ hb1 hb7w ho7))
    go_ret
    exact ⟨rfl, hfin⟩
  · obtain ⟨g, rfl⟩ : ∃ g, ad = ⟨g, 0, none⟩ := by
      rcases hn.row.2 with ⟨hv, h0⟩ | ⟨g, cap, cur, hv, _⟩
      · cases hv
      · simp only [Value.slice.injEq, Option.some.injEq] at hv
        exact ⟨g, hv.1⟩
    have hsrc : Hid (∀ W, Below w.heap.size w W → (∀ ad, some (⟨g, 0, none⟩ : Addr) = some ad → ∀ j u, ((tflat L).take (m * 2))[j]? = some u → W.cell? (ad.add j) = some u) ∧ (∀ ad, some (⟨g, m * 2, none⟩ : Addr) = some ad → ∀ j u, ((tflat L).drop (m * 2))[j]? = some u → W.cell? (ad.add j) = some u)) := Lib.hid fun W hW => by
      have hr := own_cells (hn.below hW).row
      refine ⟨?_, ?_⟩
      · rintro ad h j u hu
        obtain rfl := Option.some.inj h
        rw [add_plain, Nat.zero_add]
        rw [List.getElem?_take] at hu
        split at hu
        · exact hr j u hu
        · cases hu
      · rintro ad h j u hu
        obtain rfl := Option.some.inj h
        rw [add_plain]
        rw [List.getElem?_drop] at hu
        exact hr _ u hu
    have hl1 : Hid (((tflat L).take (m * 2)).length = m * 2) := Lib.hid (by rw [List.length_take, tflat_len]; omega)
    have hl2 : Hid (((tflat L).drop (m * 2)).length = (L.length - m) * 2) := Lib.hid (by rw [List.length_drop, tflat_len]; omega)
    have ho1 : Hid (∀ u ∈ (tflat L).take (m * 2), u.oneCell' = true) := Lib.hid fun u hu => tflat_one L u (List.mem_of_mem_take hu)
    have ho2 : Hid (∀ u ∈ (tflat L).drop (m * 2), u.oneCell' = true) := Lib.hid fun u hu => tflat_one L u (List.mem_of_mem_drop hu)
    have b1 : m ≤ maxLen := by unfold maxLen; omega
    have b2 : m * 16 ≤ 140737488355328 := by omega
    have b3 : m + 1 ≤ maxLen := by unfold maxLen; omega
    have b4 : (m + 1) * 16 ≤ 140737488355328 := by omega
    have b5 : m + 1 + (L.length - m) ≤ maxLen := by unfold maxLen; omega
    have b6 : (m + 1 + (L.length - m)) * 16 ≤ 140737488355328 := by omega
    have hone : ∀ u ∈ ([.int .i64 id, .int .i64 after] : List Value), u.oneCell' = true := by
      intro u hu
      simp at hu
      rcases hu with rfl | rfl <;> rfl
    have F1 : ∀ (w1 w4 : World) o, Below w.heap.size w w1 → Below (w1.alloc o).heap.size (w1.alloc o) w4 → Below w.heap.size w w4 ∧ w1.heap.size ≤ w4.heap.size := fun w1 w4 o h1 h4 => by
      have ha := (Below.refl w1.heap.size w1).alloc (Nat.le_refl _) o
      have h5 := ha.trans (h4.mono ha.size)
      exact ⟨h1.trans (h5.mono h1.size), h5.size⟩
    have F2 : ∀ (w1 w4 w6 : World) o A4 c4, Below w.heap.size w w1 → Below w.heap.size w w4 → w1.heap.size ≤ w4.heap.size → w4.ownsRow w1.heap.size 56 2 (.slice A4 m c4) m ((tflat L).take (m * 2)) → (w4.alloc o).grownBy w6 (Value.slice A4 m c4).ownBlock → Below w.heap.size w w6 ∧ w1.heap.size ≤ w6.heap.size := fun w1 w4 w6 o A4 c4 h1 h4 hs ho hg => by
      have h5 := h4.alloc h4.size o
      refine ⟨h5.grown hg (by simp; have := h4.size; omega) (fun k hk => Nat.le_trans h1.size (ho.lt k hk).1), ?_⟩
      have := hg.size
      simp at this
      omega
    have F3 : ∀ (w1 w6 w7 : World) v6, Below w.heap.size w w1 → Below w.heap.size w w6 → w6.ownsRow w1.heap.size 56 2 v6 (m + 1) ((tflat L).take (m * 2) ++ [.int .i64 id, .int .i64 after]) → w6.grownBy w7 v6.ownBlock → Below w.heap.size w w7 := fun w1 w6 w7 v6 h1 h6 ho hg => h6.grown hg h6.size (fun k hk => Nat.le_trans h1.size (ho.lt k hk).1)
    have F4 : ∀ (w1 w7 : World) v7, Below w.heap.size w w1 → Below w.heap.size w w7 → w7.ownsRow w1.heap.size 56 2 v7 (m + 1 + (L.length - m)) ((tflat L).take (m * 2) ++ [.int .i64 id, .int .i64 after] ++ (tflat L).drop (m * 2)) → RStep w (w7.setCell ⟨R, 0, none⟩ v7) B R (.slice (some ⟨g, 0, none⟩) L.length c) (L.take m ++ (id, after) :: L.drop m) now := fun w1 w7 v7 h1 h7 ho => by
      refine r_put hn hBw h7 (owns_mono ?_ h1.size)
      have e1 : (L.take m ++ (id, after) :: L.drop m).length = m + 1 + (L.length - m) := by simp; omega
      have e2 : tflat (L.take m ++ (id, after) :: L.drop m) = (tflat L).take (m * 2) ++ [.int .i64 id, .int .i64 after] ++ (tflat L).drop (m * 2) := by
        rw [tflat_app, tflat_take, tflat_drop]
        simp [tflat, ocells]
      rw [e1, e2]
      exact ho
    clear hn
    have hcx : (m : Int) ≤ (c : Int) := by omega
    have hnc : (L.length : Int) ≤ (c : Int) := by omega
    have hcm : (c : Int) ≤ 9223372036854775807 := by unfold maxLen at hc2; omega
    by_cases hml : m < L.length
    · have hmlx : (m : Int) < (L.length : Int) := by omega
      have hmc : (m : Int) < (c : Int) := by omega
      go_enter Try.func11, Try.ntmps11
      go_wp2_with (first
        | (go_at_call 26; (with_reducible refine hp.mono ?_); rintro e w1 ⟨rfl, hb1⟩; obtain ⟨kx1, kx2⟩ := hF w1 hb1; have kxA := fun o => Lib.cell?_alloc_some o kx1)
        | (at_builtin; (refine wpList_append_empty _ rfl (.tmp 37) (.tmp 43) _ rfl w1.heap.size 56 i0 _ 2 16 Try.underlying27 hi0 hz0 hz1 hz2 rfl (by decide) w1.heap.size rfl (Mem.new w1 _ _) (Nat.le_refl _) (some ⟨g, 0, none⟩) m c ((tflat L).take (m * 2)) rfl hl1.out (hsrc.out _ (hb1.alloc hb1.size _)).1 (by intro h; cases h) ho1.out b1 b2 (by simp) ?_); intro v4 w4 ho4 hb4; obtain ⟨hb4w, hs4⟩ := F1 _ _ _ hb1 hb4; obtain ⟨A4, c4, rfl, _, _⟩ := own_form ho4; have hoA4 := fun o => owns_below ho4 ((Below.refl w4.heap.size w4).alloc (Nat.le_refl _) o); have hsA4 : ∀ o, w1.heap.size ≤ (w4.alloc o).heap.size := fun o => Nat.le_trans hs4 ((Below.refl w4.heap.size w4).alloc (Nat.le_refl _) o).size)
        | (at_builtin; (refine wpList_append_at _ rfl (.tmp 44) (.tmp 48) _ rfl w1.heap.size 56 i0 _ 2 16 Try.underlying27 hi0 hz0 hz1 hz2 rfl (by decide) (.slice A4 m c4) m ((tflat L).take (m * 2)) rfl (hoA4 _) ⟨w4.heap.size, 0, none⟩ 1 1 [.int .i64 id, .int .i64 after] rfl rfl (cells_new2 _ _ _ _ _ _ (Mem.new _ _ _)) hone b3 b4 (hsA4 _) ?_); intro v6 w6 ho6 hg6 hat6; obtain ⟨hb6w, hs6⟩ := F2 _ _ _ _ _ _ hb1 hb4w hs4 ho4 hg6; obtain ⟨A6, c6, rfl, _, _⟩ := own_form ho6; obtain ⟨kx6, kz6⟩ := hF w6 hb6w)
        | (at_builtin; (refine wpList_append_any _ rfl (.tmp 51) (.tmp 57) _ rfl w1.heap.size 56 i0 _ 2 16 Try.underlying27 hi0 hz0 hz1 hz2 rfl (by decide) (.slice A6 (m + 1) c6) (m + 1) ((tflat L).take (m * 2) ++ [.int .i64 id, .int .i64 after]) rfl ho6 (some ⟨g, m * 2, none⟩) (L.length - m) (c - m) ((tflat L).drop (m * 2)) rfl hl2.out (hsrc.out _ hb6w).2 (by intro h; cases h) ho2.out b5 b6 hs6 ?_); intro v7 w7 ho7 hg7 hat7; have hb7w := F3 _ _ _ _ hb1 hb6w ho6 hg7; obtain ⟨A7, c7, rfl, _, _⟩ := own_form ho7; obtain ⟨kx7, kz7⟩ := hF w7 hb7w; have hfin := F4 _ _ _ hb1 hb7w ho7))
      go_ret
      exact ⟨rfl, hfin⟩
    · obtain rfl : L.length = m := by omega
      have F5 : ∀ (w1 w7 : World) v7, Below w.heap.size w w1 → Below w.heap.size w w7 → w7.ownsRow w1.heap.size 56 2 v7 (L.length + 1 + 0) ((tflat L).take (L.length * 2) ++ [.int .i64 id, .int .i64 after] ++ []) → RStep w (w7.setCell ⟨R, 0, none⟩ v7) B R (.slice (some ⟨g, 0, none⟩) L.length c) (L.take L.length ++ (id, after) :: L.drop L.length) now := fun w1 w7 v7 h1 h7 ho => F4 w1 w7 v7 h1 h7 (by
        have e : (tflat L).drop (L.length * 2) = [] := List.drop_of_length_le (by rw [tflat_len]; exact Nat.le_refl _)
        rw [e, Nat.sub_self]
        exact ho)
      clear hml hmx F4 hl2 ho2
      by_cases hcn : L.length = c
      · subst hcn
        go_enter Try.func11, Try.ntmps11
        go_wp2_with (first
          | (go_at_call 26; (with_reducible refine hp.mono ?_); rintro e w1 ⟨rfl, hb1⟩; obtain ⟨kx1, kx2⟩ := hF w1 hb1; have kxA := fun o => Lib.cell?_alloc_some o kx1)
          | (at_builtin; (refine wpList_append_empty _ rfl (.tmp 37) (.tmp 43) _ rfl w1.heap.size 56 i0 _ 2 16 Try.underlying27 hi0 hz0 hz1 hz2 rfl (by decide) w1.heap.size rfl (Mem.new w1 _ _) (Nat.le_refl _) (some ⟨g, 0, none⟩) L.length L.length ((tflat L).take (L.length * 2)) rfl hl1.out (hsrc.out _ (hb1.alloc hb1.size _)).1 (by intro h; cases h) ho1.out b1 b2 (by simp) ?_); intro v4 w4 ho4 hb4; obtain ⟨hb4w, hs4⟩ := F1 _ _ _ hb1 hb4; obtain ⟨A4, c4, rfl, _, _⟩ := own_form ho4; have hoA4 := fun o => owns_below ho4 ((Below.refl w4.heap.size w4).alloc (Nat.le_refl _) o); have hsA4 : ∀ o, w1.heap.size ≤ (w4.alloc o).heap.size := fun o => Nat.le_trans hs4 ((Below.refl w4.heap.size w4).alloc (Nat.le_refl _) o).size)
          | (at_builtin; (refine wpList_append_at _ rfl (.tmp 44) (.tmp 48) _ rfl w1.heap.size 56 i0 _ 2 16 Try.underlying27 hi0 hz0 hz1 hz2 rfl (by decide) (.slice A4 L.length c4) L.length ((tflat L).take (L.length * 2)) rfl (hoA4 _) ⟨w4.heap.size, 0, none⟩ 1 1 [.int .i64 id, .int .i64 after] rfl rfl (cells_new2 _ _ _ _ _ _ (Mem.new _ _ _)) hone b3 b4 (hsA4 _) ?_); intro v6 w6 ho6 hg6 hat6; obtain ⟨hb6w, hs6⟩ := F2 _ _ _ _ _ _ hb1 hb4w hs4 ho4 hg6; obtain ⟨A6, c6, rfl, _, _⟩ := own_form ho6; obtain ⟨kx6, kz6⟩ := hF w6 hb6w)
          | (at_builtin; (refine wpList_append_any _ rfl (.tmp 51) (.tmp 57) _ rfl w1.heap.size 56 i0 _ 2 16 Try.underlying27 hi0 hz0 hz1 hz2 rfl (by decide) (.slice A6 (L.length + 1) c6) (L.length + 1) ((tflat L).take (L.length * 2) ++ [.int .i64 id, .int .i64 after]) rfl ho6 _ 0 _ [] rfl rfl (by intro ad _ j u hu; simp at hu) (by intro _; rfl) (by simp) b3 b4 hs6 ?_); intro v7 w7 ho7 hg7 hat7; have hb7w := F3 _ _ _ _ hb1 hb6w ho6 hg7; obtain ⟨A7, c7, rfl, _, _⟩ := own_form ho7; obtain ⟨kx7, kz7⟩ := hF w7 hb7w; have hfin := F5 _ _ _ hb1 hb7w ho7))
        go_ret
        exact ⟨rfl, hfin⟩
      · have hcn2 : (L.length : Int) < (c : Int) := by omega
        go_enter Try.func11, Try.ntmps11
        go_wp2_with (first
          | (go_at_call 26; (with_reducible refine hp.mono ?_); rintro e w1 ⟨rfl, hb1⟩; obtain ⟨kx1, kx2⟩ := hF w1 hb1; have kxA := fun o => Lib.cell?_alloc_some o kx1)
          | (at_builtin; (refine wpList_append_empty _ rfl (.tmp 37) (.tmp 43) _ rfl w1.heap.size 56 i0 _ 2 16 Try.underlying27 hi0 hz0 hz1 hz2 rfl (by decide) w1.heap.size rfl (Mem.new w1 _ _) (Nat.le_refl _) (some ⟨g, 0, none⟩) L.length c ((tflat L).take (L.length * 2)) rfl hl1.out (hsrc.out _ (hb1.alloc hb1.size _)).1 (by intro h; cases h) ho1.out b1 b2 (by simp) ?_); intro v4 w4 ho4 hb4; obtain ⟨hb4w, hs4⟩ := F1 _ _ _ hb1 hb4; obtain ⟨A4, c4, rfl, _, _⟩ := own_form ho4; have hoA4 := fun o => owns_below ho4 ((Below.refl w4.heap.size w4).alloc (Nat.le_refl _) o); have hsA4 : ∀ o, w1.heap.size ≤ (w4.alloc o).heap.size := fun o => Nat.le_trans hs4 ((Below.refl w4.heap.size w4).alloc (Nat.le_refl _) o).size)
          | (at_builtin; (refine wpList_append_at _ rfl (.tmp 44) (.tmp 48) _ rfl w1.heap.size 56 i0 _ 2 16 Try.underlying27 hi0 hz0 hz1 hz2 rfl (by decide) (.slice A4 L.length c4) L.length ((tflat L).take (L.length * 2)) rfl (hoA4 _) ⟨w4.heap.size, 0, none⟩ 1 1 [.int .i64 id, .int .i64 after] rfl rfl (cells_new2 _ _ _ _ _ _ (Mem.new _ _ _)) hone b3 b4 (hsA4 _) ?_); intro v6 w6 ho6 hg6 hat6; obtain ⟨hb6w, hs6⟩ := F2 _ _ _ _ _ _ hb1 hb4w hs4 ho4 hg6; obtain ⟨A6, c6, rfl, _, _⟩ := own_form ho6; obtain ⟨kx6, kz6⟩ := hF w6 hb6w)
          | (at_builtin; (refine wpList_append_any _ rfl (.tmp 51) (.tmp 57) _ rfl w1.heap.size 56 i0 _ 2 16 Try.underlying27 hi0 hz0 hz1 hz2 rfl (by decide) (.slice A6 (L.length + 1) c6) (L.length + 1) ((tflat L).take (L.length * 2) ++ [.int .i64 id, .int .i64 after]) rfl ho6 _ 0 _ [] rfl rfl (by intro ad _ j u hu; simp at hu) (by intro _; rfl) (by simp) b3 b4 hs6 ?_); intro v7 w7 ho7 hg7 hat7; have hb7w := F3 _ _ _ _ hb1 hb6w ho6 hg7; obtain ⟨A7, c7, rfl, _, _⟩ := own_form ho7; obtain ⟨kx7, kz7⟩ := hF w7 hb7w; have hfin := F5 _ _ _ hb1 hb7w ho7))
        go_ret
        exact ⟨rfl, hfin⟩
end Go.Proofs.Ytohbkepjbaigdaa
