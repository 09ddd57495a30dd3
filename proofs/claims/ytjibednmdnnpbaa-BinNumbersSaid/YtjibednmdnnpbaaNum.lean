/- For BinNumbers: append as one operation of a region; the reference's Pad turns nothing but its own row; what a slice shows stays when an empty row is appended to. -/
import Derived.Test.YtjibednmdnnpbaaKnown1
import Derived.RegionTactic
namespace Go.Proofs.Ytjibednmdnnpbaa
open Go.ChangeShapes Go.WideShapes Go.ChangeAt Go.RowKit
set_option linter.unusedVariables false

section
variable {P : Program} (w : World)
theorem wp_append_sl {o : Oper} {a : Act} {K : Act → World → Prop} {Q : Exit → Act → World → Prop} (s x : Operand) (t : TypeId)
    (ho : o.op = .call { callee := .builtin .append, args := #[s, x], argTypes := #[t, t] })
    (base : Nat) (e : TypeId) (i : TypeInfo) (z : Value) (ht : P.underlying t = some (.slice e)) (hi : P.info? e = some i) (hz : i.zero = some z)
    (hsize : i.size = 1) (hby : i.bytes ≤ 8) (hzs : z.cells.size = 1)
    (v : Value) (n : Nat) (xs : List Value) (hs : a.eval s = v) (hown : w.ownsRow base e 1 v n xs)
    (B : Nat) (y : Value) (m : Nat) (news : List Value) (hx : a.eval x = y) (hr : Sl w B y m news) (h1 : ∀ u ∈ news, u.oneCell' = true)
    (hbytes : n + m ≤ 17592186044416) (hbase : base ≤ w.heap.size)
    (h : ∀ v' w', w'.ownsRow base e 1 v' (n + m) (xs ++ news) → w.grownBy w' v.ownBlock → (v'.ownBlock = v.ownBlock ∨ v'.ownBlock = some w.heap.size) → K (a.put o.dst v') w') : o.wp P a w K Q := by
  obtain ⟨v', w', hrun, h2, h3, h4⟩ := append_sl (P := P) w base t o.type e i z ht hi hz hsize hby hzs v n xs hown B y m news hr h1 hbytes hbase
  unfold Oper.wp execOp
  simp only [ho, resolve, invoke, builtin, Sem.run_bind, Sem.run_pure, Result.andThen_ok, List.map_toArray, List.map_cons, List.map_nil, hs, hx, hrun]
  exact h v' w' h2 h3 h4
end

/-- An empty row shows no cell: what a slice shows lies elsewhere. -/
theorem Sl.grownEmpty {w w' : World} {B n g t : Nat} {fr : Nat × Nat} {v : Value} {xs : List Value} (h : Sl w B v n xs) (hg : w.heap[g]? = some (.cells #[] t fr)) (hb : w.grownBy w' (some g)) : Sl w' B v n xs := by
  obtain ⟨hl, A, c, e, h1, h2, h3⟩ := h
  refine ⟨hl, A, c, e, h1, h2, fun hx => ?_⟩
  obtain ⟨b, off, ea, hbB, hc⟩ := h3 hx
  have hne : some b ≠ some g := by
    intro e'
    obtain rfl : b = g := Option.some.inj e'
    cases xs with
    | nil => exact hx rfl
    | cons u r =>
      have h0 := hc 0 u rfl
      have h4 : w.cell? ⟨b, off + 0, none⟩ = (#[] : Array Value)[off + 0]? := cell_of_row w b (off + 0) #[] t fr hg
      rw [h4] at h0
      simp at h0
  exact ⟨b, off, ea, hbB, fun j u hu => hb.cell (hc j u hu) hne⟩

/-- As Sl, the block's number told by p. -/
def SlP (w : World) (p : Nat → Prop) (v : Value) (n : Nat) (xs : List Value) : Prop :=
  xs.length = n ∧ ∃ A c, v = .slice A n c ∧ n ≤ c ∧ c ≤ maxLen ∧
    (xs ≠ [] → ∃ b off, A = some ⟨b, off, none⟩ ∧ p b ∧ b < w.heap.size ∧ ∀ j u, xs[j]? = some u → w.cell? ⟨b, off + j, none⟩ = some u)
theorem SlP.sl {w : World} {p : Nat → Prop} {v : Value} {n : Nat} {xs : List Value} (h : SlP w p v n xs) : Sl w w.heap.size v n xs := by
  obtain ⟨hl, A, c, e, h1, h2, h3⟩ := h
  refine ⟨hl, A, c, e, h1, h2, fun hx => ?_⟩
  obtain ⟨b, off, ea, _, hb, hc⟩ := h3 hx
  exact ⟨b, off, ea, hb, hc⟩
theorem SlP.grown {w w' : World} {p : Nat → Prop} {v : Value} {n : Nat} {xs : List Value} {row : Option Nat} (h : SlP w p v n xs) (hg : w.grownBy w' row) (hr : ∀ b, p b → some b ≠ row) : SlP w' p v n xs := by
  obtain ⟨hl, A, c, e, h1, h2, h3⟩ := h
  refine ⟨hl, A, c, e, h1, h2, fun hx => ?_⟩
  obtain ⟨b, off, ea, hp, hb, hc⟩ := h3 hx
  exact ⟨b, off, ea, hp, Nat.lt_of_lt_of_le hb hg.size, fun j u hu => hg.cell (hc j u hu) (hr b hp)⟩
/-- What a slice shows lies neither in an empty row nor in what comes later. -/
theorem Sl.besides {w : World} {n g t : Nat} {fr : Nat × Nat} {v : Value} {xs : List Value} (h : Sl w w.heap.size v n xs) (hg : w.heap[g]? = some (.cells #[] t fr)) : SlP w (fun b => b < w.heap.size ∧ b ≠ g) v n xs := by
  obtain ⟨hl, A, c, e, h1, h2, h3⟩ := h
  refine ⟨hl, A, c, e, h1, h2, fun hx => ?_⟩
  obtain ⟨b, off, ea, hbB, hc⟩ := h3 hx
  refine ⟨b, off, ea, ⟨hbB, ?_⟩, hbB, hc⟩
  rintro rfl
  cases xs with
  | nil => exact hx rfl
  | cons u r =>
    have h0 := hc 0 u rfl
    have h4 : w.cell? ⟨b, off + 0, none⟩ = (#[] : Array Value)[off + 0]? := cell_of_row w b (off + 0) #[] t fr hg
    rw [h4] at h0
    simp at h0
theorem Mem.grown {w w' : World} {g t : Nat} {cs : Array Value} {row : Option Nat} (h : Mem w g t cs) (hg : w.grownBy w' row) (hr : some g ≠ row) : Mem w' g t cs := (hg.block g h.lt hr).trans h
theorem own_of_mem {w : World} {g t : Nat} (h : Mem w g t #[]) : w.ownsRow g t 1 (.slice (some ⟨g, 0, none⟩) 0 0) 0 [] :=
  ⟨rfl, .inr ⟨g, 0, #[], rfl, Nat.le_refl _, h, Nat.le_refl _, by unfold maxLen; omega, rfl, rfl⟩⟩

/-- What was turned, step by step: the row that was owned at first, and what is new. -/
def Only (w wr : World) (v0 v : Value) : Prop := w.grownBy wr v0.ownBlock ∧ (v.ownBlock = v0.ownBlock ∨ ∃ g, v.ownBlock = some g ∧ w.heap.size ≤ g)
theorem Only.refl (w : World) (v : Value) : Only w w v v := ⟨⟨rfl, rfl, rfl, Nat.le_refl _, fun _ _ _ => rfl⟩, .inl rfl⟩
theorem Only.step {w wr w2 : World} {v0 v v2 : Value} (h : Only w wr v0 v) (o : Obj) (hg : (wr.alloc o).grownBy w2 v.ownBlock) (hat : v2.ownBlock = v.ownBlock ∨ v2.ownBlock = some (wr.alloc o).heap.size) : Only w w2 v0 v2 := by
  have hsz : (wr.alloc o).heap.size = wr.heap.size + 1 := by simp
  have hs1 := h.1.size
  have hs2 := hg.size
  refine ⟨⟨hg.os.trans h.1.os, hg.tape.trans h.1.tape, hg.output.trans h.1.output, by omega, fun k hk hne => ?_⟩, ?_⟩
  · have hk1 : k < (wr.alloc o).heap.size := by omega
    have hne2 : some k ≠ v.ownBlock := by
      rcases h.2 with e | ⟨g, e, hge⟩
      · rw [e]; exact hne
      · rw [e]; intro e'; have := Option.some.inj e'; omega
    exact (hg.block k hk1 hne2).trans ((Below.heap_alloc wr o k (by omega)).trans (h.1.block k hk hne))
  · rcases hat with e | e
    · rw [e]; exact h.2
    · exact .inr ⟨_, e, by omega⟩

theorem rpad_only (v : Value) (l : List UInt8) (t : Int) (w : World) (base : Nat) (hv : w.ownsRow base 5 1 v l.length (bs l)) (hbase : base ≤ w.heap.size) (hl : l.length ≤ 8796093022208)
    (ht1 : -9223372036854775808 ≤ t) (ht2 : t ≤ 9223372036854775807) :
    Calls Try.prog 21 #[v, .int .i64 t] w fun e w' => ∃ v', e = .returned v' ∧ w'.ownsRow base 5 1 v' (padS l t).length (bs (padS l t)) ∧ Only w w' v v' := by
  obtain ⟨i0, hi, hz0, hz1, hz2⟩ := info_parts info_u8
  obtain ⟨A, c, rfl, hc1, hc2⟩ := (Sl.of_own hv).form
  by_cases hn : t < 1 ∨ 4096 < t
  · go_enter Try.func21, Try.ntmps21
    go_wp2
    all_goals go_ret
    all_goals
      have hp : padS l t = l := by unfold padS; rw [if_pos hn]
      exact ⟨_, rfl, ownsRow_len hv (by rw [hp]) (by rw [hp]), Only.refl _ _⟩
  · obtain ⟨m, rfl⟩ : ∃ m : Nat, t = m := ⟨t.toNat, by omega⟩
    have hm1 : 1 ≤ m := by omega
    have hm8 : m ≤ 4096 := by omega
    have hp : padS l m = l ++ List.replicate (padN l.length m) 0 := by unfold padS; rw [if_neg (by omega)]; simp
    have hpl := padN_lt (n := l.length) (t := m) hm1
    have HP := Lib.hid hp
    clear hn ht1 ht2 hp
    go_enter Try.func21, Try.ntmps21
    go_wp2
    go_loopw [0] (fun v wr => ∃ k : Nat, k ≤ padN l.length m ∧ wr.ownsRow base 5 1 v (l.length + k) (bs (l ++ List.replicate k 0)) ∧ Only w wr (.slice A l.length c) v) (fun v _ => l.length + padN l.length m - lenV v)
    case atStart => exact ⟨0, by omega, ownsRow_len hv (by omega) (by simp), Only.refl _ _⟩
    case round =>
      obtain ⟨k, hk, hown, hon⟩ := hrel
      obtain ⟨A', c', rfl, hc1', hc2'⟩ := (Sl.of_own hown).form
      by_cases hlt : k < padN l.length m
      · have hne := pad_ne (n := l.length) hm1 hlt
        have hown2 := hown.alloc (.cells #[.int .u8 0] 5)
        have hsl := Sl.fresh wr #[.int .u8 0] 5 (n := 1) rfl (by unfold maxLen; omega)
        rw [show (#[Value.int .u8 0] : Array Value).toList = bs [0] from rfl] at hsl
        have hbs := hon.1.size
        have HON := Lib.hid hon
        clear hon
        go_wp2_with (at_builtin; refine wpList_append_sl _ rfl (.tmp 17) (.tmp 18) _ rfl base 5 i0 _ Try.underlying22 hi hz0 hz1 (by omega) rfl _ (l.length + k) (bs (l ++ List.replicate k 0)) rfl hown2 _ _ 1 _ rfl hsl bs_one (by omega) (by simp; omega) ?_; intro v2 w2 hown3 hg3 hat3)
        have hon2 := HON.out.step _ hg3 hat3
        obtain ⟨A2, c2, hv2, _, _⟩ := (Sl.of_own hown3).form
        have hlen : lenV v2 = l.length + k + 1 := by rw [hv2]; rfl
        clear hv2
        refine ⟨⟨k + 1, by omega, ownsRow_len hown3 (by omega) (by rw [← bs_app, List.append_assoc, List.replicate_succ']), hon2⟩, ?_⟩
        rw [hlen]
        simp only [lenV]
        omega
      · obtain rfl : k = padN l.length m := by omega
        have hne := pad_eq (n := l.length) hm1
        have HON := Lib.hid hon
        clear hon
        go_wp2
        go_ret
        exact ⟨_, rfl, ownsRow_len hown (by rw [HP.out]; simp) (by rw [HP.out]), HON.out⟩
end Go.Proofs.Ytjibednmdnnpbaa
