/- append onto an empty row; what a Send leaves of the document's network. -/
import Derived.Test.YtmlimmcaidkoeaaRf4
import Derived.Test.YtmlimmcaidkoeaaCalmI
namespace Go.Proofs.Ytmlimmcaidkoeaa
open Go.ChangeShapes Go.WideShapes Go.ChangeAt Go.RowKit Go.Lib
set_option linter.unusedVariables false
section
variable {P : Program} (w : World)
/-- append onto a row of the call's own, the other slice empty, maybe nil, or not. -/
theorem wp_append_any {o : Oper} {a : Act} {K : Act → World → Prop} {Q : Exit → Act → World → Prop} (s x : Operand) (t : TypeId)
    (ho : o.op = .call { callee := .builtin .append, args := #[s, x], argTypes := #[t, t] })
    (base : Nat) (e : TypeId) (i : TypeInfo) (z : Value) (size bytes : Nat) (ht : P.underlying t = some (.slice e)) (hi : P.info? e = some i) (hz : i.zero = some z)
    (hsize : i.size = size) (hby : i.bytes = bytes) (hzs : z.cells.size = size) (hsz : 0 < size)
    (v : Value) (n : Nat) (xs : List Value) (hs : a.eval s = v) (hown : w.ownsRow base e size v n xs)
    (A : Option Addr) (m c : Nat) (news : List Value) (hx : a.eval x = .slice A m c) (hl : news.length = m * size) (hnews : ∀ ad, A = some ad → ∀ j u, news[j]? = some u → w.cell? (ad.add j) = some u) (hnil : A = none → m = 0) (h1 : ∀ u ∈ news, u.oneCell' = true)
    (h63 : n + m ≤ maxLen) (hbytes : (n + m) * bytes ≤ 140737488355328) (hbase : base ≤ w.heap.size)
    (h : ∀ v' w', w'.ownsRow base e size v' (n + m) (xs ++ news) → w.grownBy w' v.ownBlock → (v'.ownBlock = v.ownBlock ∨ v'.ownBlock = some w.heap.size) → K (a.put o.dst v') w') : o.wp P a w K Q := by
  cases A with
  | some ad => exact wp_append_at w s x t ho base e i z size bytes ht hi hz hsize hby hzs hsz v n xs hs hown ad m c news hx hl (hnews ad rfl) h1 h63 hbytes hbase h
  | none =>
    obtain rfl := hnil rfl
    obtain rfl : news = [] := List.eq_nil_of_length_eq_zero (by omega)
    have hrun : (Builtin.append_ #[t, t] o.type #[v, .slice none 0 c]).run P w = .ok v w := by
      rcases hown.2 with ⟨rfl, _⟩ | ⟨g, cap, cur, rfl, _, _, hnc, _⟩
      · simp [Builtin.append_, run_underlying ht, sizeOf, typeInfo, hi, Builtin.lenOf, Builtin.firstCells]
      · simp [Builtin.append_, run_underlying ht, sizeOf, typeInfo, hi, Builtin.lenOf, Builtin.firstCells, hnc, storeCells]
    unfold Oper.wp execOp
    simp only [ho, resolve, invoke, builtin, Sem.run_bind, Sem.run_pure, Result.andThen_ok, List.map_toArray, List.map_cons, List.map_nil, hs, hx, hrun]
    exact h v w (by simpa using hown) ⟨rfl, rfl, rfl, Nat.le_refl _, fun _ _ _ => rfl⟩ (.inl rfl)
end
theorem cells_at3' {w : World} {g t : Nat} {a b c : Value} (h : Mem w g t #[a, b, c]) : ∀ j u, [a, b, c][j]? = some u → w.cell? ((⟨g, 0, none⟩ : Addr).add j) = some u := by
  intro j u hu
  rw [add_plain, Nat.zero_add, h.cell j, ← List.getElem?_toArray] at *
  exact hu
theorem rcell_any {w : World} {B n c : Nat} {A : Option Addr} {xs : List Value} {e sz : Nat} (ho : w.ownsRow B e sz (.slice A n c) n xs) : (∀ ad, A = some ad → ∀ j u, xs[j]? = some u → w.cell? (ad.add j) = some u) ∧ (A = none → n = 0) := by
  constructor
  · rintro ad rfl j u hu
    rcases ho.2 with ⟨hv, h0⟩ | ⟨g, cap, cur, hv, hBg, hg, hnc, hcm, hcs, htk⟩
    · cases hv
    · have hv2 := hv
      simp only [Value.slice.injEq, Option.some.injEq] at hv2
      obtain ⟨rfl, _, rfl⟩ := hv2
      rw [add_plain, Nat.zero_add]
      exact own_cells ho j u hu
  · rintro rfl
    rcases ho.2 with ⟨hv, h0⟩ | ⟨g, cap, cur, hv, hBg, hg, hnc, hcm, hcs, htk⟩
    · exact h0
    · cases hv
section
variable {P : Program} (w : World)
/-- append onto an empty row without room: nothing old turns. -/
theorem wpList_append_empty {ops : Array Oper} {rest : List Oper} {o : Oper} {a : Act} {Q : Exit → Act → World → Prop} (hgd : o.guard = none) (s x : Operand) (t : TypeId)
    (ho : o.op = .call { callee := .builtin .append, args := #[s, x], argTypes := #[t, t] })
    (base : Nat) (e : TypeId) (i : TypeInfo) (z : Value) (size bytes : Nat) (ht : P.underlying t = some (.slice e)) (hi : P.info? e = some i) (hz : i.zero = some z)
    (hsize : i.size = size) (hby : i.bytes = bytes) (hzs : z.cells.size = size) (hsz : 0 < size)
    (g : Nat) (hs : a.eval s = .slice (some ⟨g, 0, none⟩) 0 0) (hg : w.heap[g]? = some (.cells #[] e (0, 0))) (hbg : base ≤ g)
    (A : Option Addr) (m c : Nat) (news : List Value) (hx : a.eval x = .slice A m c) (hl : news.length = m * size) (hnews : ∀ ad, A = some ad → ∀ j u, news[j]? = some u → w.cell? (ad.add j) = some u) (hnil : A = none → m = 0) (h1 : ∀ u ∈ news, u.oneCell' = true)
    (h63 : m ≤ maxLen) (hbytes : m * bytes ≤ 140737488355328) (hbase : base ≤ w.heap.size)
    (h : ∀ v' w', w'.ownsRow base e size v' m news → Below w.heap.size w w' → wpList P ops Q rest (a.put o.dst v') w') : wpList P ops Q (o :: rest) a w := by
  have hown : w.ownsRow base e size (.slice (some ⟨g, 0, none⟩) 0 0) 0 [] := ⟨by simp, .inr ⟨g, 0, #[], rfl, hbg, hg, Nat.le_refl _, by unfold maxLen; omega, by simp, by simp⟩⟩
  have key : ∃ v' w', (Builtin.append_ #[t, t] o.type #[.slice (some ⟨g, 0, none⟩) 0 0, .slice A m c]).run P w = .ok v' w' ∧ w'.ownsRow base e size v' m news ∧ Below w.heap.size w w' := by
    rcases Nat.eq_zero_or_pos m with rfl | hm
    · obtain rfl : news = [] := List.eq_nil_of_length_eq_zero (by omega)
      refine ⟨_, w, ?_, hown, Below.refl _ _⟩
      cases A <;> simp [Builtin.append_, run_underlying ht, sizeOf, typeInfo, hi, Builtin.lenOf, Builtin.firstCells, loadCells, loadCellsFrom, storeCells]
    · cases A with
      | none => have := hnil rfl; omega
      | some ad =>
        subst hsize
        subst hby
        have hr1 := run_append_grow (P := P) w t o.type e i z ht hi hz ⟨g, 0, none⟩ 0 0 [] (by simp) (by simp) ad m c news hl (hnews ad rfl) (by omega) (by simp only [maxLen] at h63; omega) (growslice_fits (by omega) (by simpa using hbytes))
        obtain ⟨v', w', hr2, ho2, _⟩ := run_append_own_at (P := P) w base t o.type e i z i.size i.bytes ht hi hz rfl rfl hzs hsz _ 0 [] hown ad m c news hl (hnews ad rfl) h1 (by simpa using h63) (by simpa using hbytes) hbase
        rw [hr1] at hr2
        injection hr2 with e1 e2
        subst e1; subst e2
        refine ⟨_, _, hr1, ?_, ((Below.refl _ _).drew).alloc (Nat.le_refl _) _⟩
        simpa using ho2
  obtain ⟨v', w', hr, h2, h3⟩ := key
  refine wpList_plain hgd fun K hK => ?_
  unfold Oper.wp execOp
  simp only [ho, resolve, invoke, builtin, Sem.run_bind, Sem.run_pure, Result.andThen_ok, List.map_toArray, List.map_cons, List.map_nil, hs, hx, hr]
  exact hK _ _ (h v' w' h2 h3)
end
theorem ref_sent {w w6 : World} {B R h s : Nat} {u v6 : Value} {M : List Ab} {p : Ab} (hn : RefInv w B R u h M s) (hB : B ≤ w.heap.size) (hb6 : Below w.heap.size w w6) (ho : w6.ownsRow w.heap.size 46 3 v6 (M.length + 1) (rflat M ++ p.cells)) (hl : p.l.length ≤ 8192) (hL : M.length < 4096) :
    RefStep w ((w6.setCell ⟨R, 1, none⟩ v6).setCell ⟨R, 2, none⟩ (.int .i64 ((s : Int) + 1))) B R u h (M ++ [p]) (s + 1) ∧ RefStep w (w6.setCell ⟨R, 1, none⟩ v6) B R u h (M ++ [p]) s := by
  have hp := ref_put (K := M ++ [p]) hn hB hb6 (owns_mono (by rw [rflat_snoc, List.length_append]; exact ho) hB) (by simp; omega) (fun q hq => by
    rw [List.mem_append, List.mem_singleton] at hq
    rcases hq with hq | rfl
    · exact hn.sizes q hq
    · exact hl)
  have hS : Eff (fun k => k = R) (w6.setCell ⟨R, 1, none⟩ v6) ((w6.setCell ⟨R, 1, none⟩ v6).setCell ⟨R, 2, none⟩ (.int .i64 ((s : Int) + 1))) := Eff.setCell (S := fun k => k = R) (Eff.refl _ _) (p := ⟨R, 2, none⟩) rfl _
  have hRa := hp.1.apart
  exact ⟨⟨v6, ⟨hp.1.base, hp.1.mem.put 2 (.int .i64 ((s : Int) + 1)), owns_eff hp.1.row hS (fun k hk e => hRa (e ▸ hk)), hp.1.few, hp.1.sizes⟩, hp.2.trans hS (fun _ _ e => e), fun k hk => .inr (ho.lt k hk).1⟩, ⟨v6, hp.1, hp.2, fun k hk => .inr (ho.lt k hk).1⟩⟩
end Go.Proofs.Ytmlimmcaidkoeaa
