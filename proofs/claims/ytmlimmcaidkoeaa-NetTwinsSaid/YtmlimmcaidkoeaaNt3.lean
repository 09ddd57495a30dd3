/- Package net: Send: contract. -/
import Derived.Test.YtmlimmcaidkoeaaNt2
namespace Go.Proofs.Ytmlimmcaidkoeaa
open Go.ChangeShapes Go.WideShapes Go.ChangeAt Go.RowKit
set_option linter.unusedVariables false
section
variable {P : Program} (w : World)
theorem wp_append_at {o : Oper} {a : Act} {K : Act → World → Prop} {Q : Exit → Act → World → Prop} (s x : Operand) (t : TypeId)
    (ho : o.op = .call { callee := .builtin .append, args := #[s, x], argTypes := #[t, t] })
    (base : Nat) (e : TypeId) (i : TypeInfo) (z : Value) (size bytes : Nat) (ht : P.underlying t = some (.slice e)) (hi : P.info? e = some i) (hz : i.zero = some z)
    (hsize : i.size = size) (hby : i.bytes = bytes) (hzs : z.cells.size = size) (hsz : 0 < size)
    (v : Value) (n : Nat) (xs : List Value) (hs : a.eval s = v) (hown : w.ownsRow base e size v n xs)
    (ad : Addr) (m c : Nat) (news : List Value) (hx : a.eval x = .slice (some ad) m c) (hl : news.length = m * size) (hnews : ∀ j u, news[j]? = some u → w.cell? (ad.add j) = some u) (h1 : ∀ u ∈ news, u.oneCell' = true)
    (h63 : n + m ≤ maxLen) (hbytes : (n + m) * bytes ≤ 140737488355328) (hbase : base ≤ w.heap.size)
    (h : ∀ v' w', w'.ownsRow base e size v' (n + m) (xs ++ news) → w.grownBy w' v.ownBlock → (v'.ownBlock = v.ownBlock ∨ v'.ownBlock = some w.heap.size) → K (a.put o.dst v') w') : o.wp P a w K Q := by
  obtain ⟨v', w', hr, h2, h3, _, h4⟩ := run_append_own_at (P := P) w base t o.type e i z size bytes ht hi hz hsize hby hzs hsz v n xs hown ad m c news hl hnews h1 h63 hbytes hbase
  unfold Oper.wp execOp
  simp only [ho, resolve, invoke, builtin, Sem.run_bind, Sem.run_pure, Result.andThen_ok, List.map_toArray, List.map_cons, List.map_nil, hs, hx, hr]
  exact h v' w' h2 h3 h4
theorem wpList_append_at {ops : Array Oper} {rest : List Oper} {o : Oper} {a : Act} {Q : Exit → Act → World → Prop} (hgd : o.guard = none) (s x : Operand) (t : TypeId)
    (ho : o.op = .call { callee := .builtin .append, args := #[s, x], argTypes := #[t, t] })
    (base : Nat) (e : TypeId) (i : TypeInfo) (z : Value) (size bytes : Nat) (ht : P.underlying t = some (.slice e)) (hi : P.info? e = some i) (hz : i.zero = some z)
    (hsize : i.size = size) (hby : i.bytes = bytes) (hzs : z.cells.size = size) (hsz : 0 < size)
    (v : Value) (n : Nat) (xs : List Value) (hs : a.eval s = v) (hown : w.ownsRow base e size v n xs)
    (ad : Addr) (m c : Nat) (news : List Value) (hx : a.eval x = .slice (some ad) m c) (hl : news.length = m * size) (hnews : ∀ j u, news[j]? = some u → w.cell? (ad.add j) = some u) (h1 : ∀ u ∈ news, u.oneCell' = true)
    (h63 : n + m ≤ maxLen) (hbytes : (n + m) * bytes ≤ 140737488355328) (hbase : base ≤ w.heap.size)
    (h : ∀ v' w', w'.ownsRow base e size v' (n + m) (xs ++ news) → w.grownBy w' v.ownBlock → (v'.ownBlock = v.ownBlock ∨ v'.ownBlock = some w.heap.size) → wpList P ops Q rest (a.put o.dst v') w') : wpList P ops Q (o :: rest) a w :=
  wpList_plain hgd fun _ hK => wp_append_at w s x t ho base e i z size bytes ht hi hz hsize hby hzs hsz v n xs hs hown ad m c news hx hl hnews h1 h63 hbytes hbase fun v' w' h2 h3 h4 => hK _ _ (h v' w' h2 h3 h4)
theorem cells_new3 (t : TypeId) (a b c : Value) : ∀ j u, [a, b, c][j]? = some u → (w.alloc (.cells #[a, b, c] t)).cell? ((⟨w.heap.size, 0, none⟩ : Addr).add j) = some u := by
  intro j u hu
  have hb : (w.alloc (.cells #[a, b, c] t)).heap[w.heap.size]? = some (.cells #[a, b, c] t (0, 0)) := heap_alloc_new w _
  rw [add_plain, Nat.zero_add, cell_of_row _ _ j _ t (0, 0) hb, ← List.getElem?_toArray] at *
  exact hu
end
/-- What an appended packet leaves of a net. -/
theorem net_pushed {w W w6 : World} {B X h s : Nat} {v v6 : Value} {L : List Pk} {p : Pk} (hn : NetInv w B X v h L s) (hB : B ≤ w.heap.size) (hlen : L.length < 4096) (hb : Below w.heap.size w W) (hd : DOk W B p)
    (ho : w6.ownsRow B 41 3 v6 (L.length + 1) (flat L ++ p.cells)) (hg : W.grownBy w6 v.ownBlock) (hat : v6.ownBlock = v.ownBlock ∨ v6.ownBlock = some W.heap.size) (s' : Nat) :
    NetInv ((w6.setCell ⟨X, 1, none⟩ v6).setCell ⟨X, 2, none⟩ (.int .i64 (s' : Nat))) B X v6 h (L ++ [p]) s' ∧ NetInv (w6.setCell ⟨X, 1, none⟩ v6) B X v6 h (L ++ [p]) s ∧ Eff (NS X v) w ((w6.setCell ⟨X, 1, none⟩ v6).setCell ⟨X, 2, none⟩ (.int .i64 (s' : Nat))) ∧ Eff (NS X v) w (w6.setCell ⟨X, 1, none⟩ v6) ∧ (∀ k, v6.ownBlock = some k → v.ownBlock = some k ∨ w.heap.size ≤ k) := by
  have hnW := hn.below hb
  have heW : Eff (fun k => v.ownBlock = some k) W w6 := eff_grown hg
  have hm6 : Mem w6 X 58 #[.int .i64 (h : Nat), v, .int .i64 (s : Nat)] := hnW.mem.eff heW hn.apart
  have hXv : v6.ownBlock ≠ some X := fun hk => (own_tag ho X hk).2.2.ne (mem_tag hm6) (by decide) rfl
  have e1 : Eff (NS X v) w w6 := (Eff.of hb).trans (heW.mono fun k _ h => Or.inr h) fun i _ h => h
  have hp : w6.ownsRow B 41 3 v6 (L ++ [p]).length (flat (L ++ [p])) := by
    have e : flat (L ++ [p]) = flat L ++ p.cells := by rw [flat_app]; simp [flat]
    rw [e, List.length_append]
    exact ho
  have hdat : ∀ q ∈ L ++ [p], DOk w6 B q := by
    intro q hq
    rw [List.mem_append, List.mem_singleton] at hq
    have hq' : DOk W B q := by
      rcases hq with hq | rfl
      · exact hnW.data q hq
      · exact hd
    exact hq'.eff heW fun k _ hk => (own_tag hnW.row k hk).2.2.not (by decide)
  have h6 : NetInv (w6.setCell ⟨X, 1, none⟩ v6) B X v6 h (L ++ [p]) s := by
    have hS : Eff (fun k => k = X) w6 (w6.setCell ⟨X, 1, none⟩ v6) := Eff.setCell (S := fun k => k = X) (Eff.refl _ w6) (p := ⟨X, 1, none⟩) rfl v6
    exact ⟨hn.base, hm6.put 1 v6, owns_eff hp hS fun k hk e => hXv (e ▸ hk), fun q hq => (hdat q hq).eff hS (by rintro k _ rfl; exact (mem_tag hm6).not (by decide)), by rw [List.length_append]; exact hlen⟩
  have h7 : NetInv ((w6.setCell ⟨X, 1, none⟩ v6).setCell ⟨X, 2, none⟩ (.int .i64 (s' : Nat))) B X v6 h (L ++ [p]) s' := by
    have hS : Eff (fun k => k = X) (w6.setCell ⟨X, 1, none⟩ v6) ((w6.setCell ⟨X, 1, none⟩ v6).setCell ⟨X, 2, none⟩ (.int .i64 (s' : Nat))) := Eff.setCell (S := fun k => k = X) (Eff.refl _ _) (p := ⟨X, 2, none⟩) rfl _
    exact ⟨hn.base, h6.mem.put 2 _, owns_eff h6.row hS fun k hk e => hXv (e ▸ hk), fun q hq => (h6.data q hq).eff hS (by rintro k _ rfl; exact (mem_tag h6.mem).not (by decide)), h6.few⟩
  refine ⟨h7, h6, (e1.setCell (p := ⟨X, 1, none⟩) (.inl rfl) _).setCell (p := ⟨X, 2, none⟩) (.inl rfl) _, e1.setCell (p := ⟨X, 1, none⟩) (.inl rfl) _, fun k hk => ?_⟩
  rcases hat with e | e
  · exact .inl (e ▸ hk)
  · rw [hk] at e
    injection e with e
    subst e
    exact .inr hb.size
set_option maxRecDepth 100000 in
set_option maxHeartbeats 2000000 in
theorem send_ok (B X h s : Nat) (v : Value) (L : List Pk) (fr to : Int) (hf1 : 0 ≤ fr) (hf2 : fr < h) (ht1 : 0 ≤ to) (ht2 : to < h) (d : Value) (l : List UInt8) (hl : l.length ≤ 8192) (hL : L.length < 4096) (hs : s < 4611686018427387904)
    (w : World) (hB : B ≤ w.heap.size) (hn : NetInv w B X v h L s) (hd : Sl w w.heap.size d l.length (bs l)) :
    Calls Try.prog 20 #[.pointer (some ⟨X, 0, none⟩), .int .i64 fr, .int .i64 to, d] w fun e w' => ∃ v' d', e = .returned (.int .i64 0) ∧ NetInv w' B X v' h (L ++ [⟨fr, to, d', l⟩]) (s + 1) ∧ Eff (NS X v) w w' ∧ (∀ k, v'.ownBlock = some k → v.ownBlock = some k ∨ w.heap.size ≤ k) ∧ (∀ k, d'.ownBlock = some k → w.heap.size ≤ k) := by
  obtain ⟨i0, hi, hz0, hz1, hz2⟩ := info_parts pk_info
  have hh := fun n => host_any B X h s v L n w hn
  have hcl : ∀ W, Below w.heap.size w W → Calls Try.prog 31 #[.agg #[.int .i64 fr, .int .i64 to, d]] W fun e w' => ∃ A1 c1, e = .returned (.agg #[.int .i64 fr, .int .i64 to, .slice A1 l.length c1]) ∧ DOk w' B ⟨fr, to, .slice A1 l.length c1, l⟩ ∧ Below w.heap.size w w' ∧ (∀ k, (Value.slice A1 l.length c1).ownBlock = some k → w.heap.size ≤ k) := by
    intro W hW
    refine (clone_any fr to d l hl W (hd.now hW)).mono ?_
    rintro e w' ⟨d', rfl, ho, hb⟩
    obtain ⟨A1, c1, rfl, _⟩ := own_form ho
    exact ⟨A1, c1, rfl, ⟨owns_mono ho (Nat.le_trans hB hW.size), hl⟩, hW.trans (hb.mono hW.size), fun k hk => Nat.le_trans hW.size (ho.lt k hk).1⟩
  obtain ⟨A, c, rfl, hc1, hc2⟩ := hn.parts
  obtain ⟨A2, c2, rfl, hc3, hc4⟩ := hd.form
  have hcell : ∀ W, Below w.heap.size w W → W.cell? ⟨X, 1, none⟩ = some (.slice A L.length c) := fun W hW => (hn.below hW).mem.cell 1
  have d1 : decide (0 ≤ fr ∧ fr < (h : Int)) = true := decide_eq_true ⟨hf1, hf2⟩
  have d2 : decide (0 ≤ to ∧ to < (h : Int)) = true := decide_eq_true ⟨ht1, ht2⟩
  have hx0 := hcell w (Below.refl _ _)
  have hxd := hcell w.drew ((Below.refl _ _).drew)
  have hone : ∀ A1 c1, ∀ u ∈ ([.int .i64 fr, .int .i64 to, .slice A1 l.length c1] : List Value), u.oneCell' = true := by
    intro A1 c1 u hu
    simp at hu
    rcases hu with rfl | rfl | rfl <;> rfl
  have hLx : (L.length : Int) < 4096 := by omega
  have hlx : (l.length : Int) ≤ 8192 := by omega
  have hbd : Below w.heap.size w w.drew := (Below.refl _ _).drew
  have b1 : L.length + 1 ≤ maxLen := by unfold maxLen; omega
  have b2 : (L.length + 1) * 40 ≤ 140737488355328 := by omega
  have hownA : ∀ W o, Below w.heap.size w W → (W.alloc o).ownsRow B 41 3 (.slice A L.length c) L.length (flat L) := fun W o hW => owns_below hn.row (hW.alloc hW.size o)
  have hal : ∀ (W : World) o, Below w.heap.size w W → B ≤ (W.alloc o).heap.size := fun W o hW => Nat.le_trans hB (hW.alloc hW.size o).size
  have hcellA : ∀ W, Below w.heap.size w W → ∀ o, (W.alloc o).cell? ⟨X, 1, none⟩ = some (.slice A L.length c) := fun W hW o => hcell _ (hW.alloc hW.size o)
  have F : ∀ (W : World) (v6 : Value) (w6 : World) A1 c1, Below w.heap.size w W → DOk W B ⟨fr, to, .slice A1 l.length c1, l⟩ → w6.ownsRow B 41 3 v6 (L.length + 1) (flat L ++ [.int .i64 fr, .int .i64 to, .slice A1 l.length c1]) →
      (W.alloc (.cells #[.int .i64 fr, .int .i64 to, .slice A1 l.length c1] 41)).grownBy w6 (Value.slice A L.length c).ownBlock → (v6.ownBlock = (Value.slice A L.length c).ownBlock ∨ v6.ownBlock = some (W.alloc (.cells #[.int .i64 fr, .int .i64 to, .slice A1 l.length c1] 41)).heap.size) →
      ∃ A6 c6, v6 = .slice A6 (L.length + 1) c6 ∧ w6.cell? ⟨X, 1, none⟩ = some (.slice A L.length c) ∧ w6.frozen? ⟨X, 1, none⟩ = false ∧ (w6.setCell ⟨X, 1, none⟩ (.slice A6 (L.length + 1) c6)).cell? ⟨X, 2, none⟩ = some (.int .i64 (s : Nat)) ∧ (w6.setCell ⟨X, 1, none⟩ (.slice A6 (L.length + 1) c6)).frozen? ⟨X, 2, none⟩ = false := by
    intro W v6 w6 A1 c1 hW hd' ho hg hat
    obtain ⟨A6, c6, rfl, _⟩ := own_form ho
    have hWa := hW.alloc hW.size (.cells #[.int .i64 fr, .int .i64 to, .slice A1 l.length c1] 41)
    obtain ⟨_, h6, _⟩ := net_pushed (p := ⟨fr, to, .slice A1 l.length c1, l⟩) hn hB hL hWa (hd'.below ((Below.refl _ _).alloc (Nat.le_refl _) _)) ho hg hat 0
    have hm6 := (hn.below hWa).mem.eff (eff_grown hg) hn.apart
    exact ⟨A6, c6, rfl, hm6.cell 1, hm6.free 1, h6.mem.cell 2, h6.mem.free 2⟩
  go_enter Try.func20, Try.ntmps20
  go_wp2_with (go_at_call 32; refine (hh _).mono ?_; rintro e w' ⟨rfl, rfl⟩; simp only [d1, d2])
  go_region_law (first
    | (rw [if_pos (by rfl)]; with_reducible refine wp_append_at _ (.tmp 32) (.tmp 38) _ rfl B 41 i0 _ 3 40 Try.underlying56 hi hz0 hz1 hz2 rfl (by decide) (.slice A L.length c) L.length (flat L) rfl (hownA _ _ hb5) ⟨w5.heap.size, 0, none⟩ 1 1 [.int .i64 fr, .int .i64 to, .slice A1 l.length c1] rfl rfl (cells_new3 _ _ _ _ _) (hone _ _) b1 b2 (hal _ _ hb5) ?_; intro v6 w6 ho6 hg6 hat6; obtain ⟨A6, c6, rfl, hx6, hf6, hx7, hf7⟩ := F _ _ _ _ _ hb5 hd5 ho6 hg6 hat6)
    | (rw [if_pos (by rfl)]; go_simp; go_at_call 31; with_reducible refine (hcl _ hbd).mono ?_; rintro e w5 ⟨A1, c1, rfl, hd5, hb5, hfr5⟩; have hx5 := hcell w5 hb5; have hx5a := hcellA w5 hb5; dsimp only))
  all_goals (go_wp2_with fail)
  all_goals go_ret
  all_goals
    have hWa := hb5.alloc hb5.size (.cells #[.int .i64 fr, .int .i64 to, .slice A1 l.length c1] 41)
    obtain ⟨h7, _, e7, _, k7⟩ := net_pushed (p := ⟨fr, to, .slice A1 l.length c1, l⟩) hn hB hL hWa (hd5.below ((Below.refl _ _).alloc (Nat.le_refl _) _)) ho6 hg6 hat6 (s + 1)
    exact ⟨_, _, rfl, h7, e7, k7, hfr5⟩
end Go.Proofs.Ytmlimmcaidkoeaa
