/- The document's second telling of Put, with what it turns: the row that it was handed, and no other. -/
import Derived.Test.YtafpaigifemjjaaPut
namespace Go.Proofs.Ytafpaigifemjjaa
open Go.ChangeShapes Go.WideShapes Go.ChangeAt Go.RowKit
set_option linter.unusedVariables false
/-- Of what was there only the row of v0 may have turned; v lies there, or in new memory. -/
def OnlyB (w wr : World) (v0 v : Value) : Prop := w.grownBy wr v0.ownBlock ∧ (v.ownBlock = v0.ownBlock ∨ ∃ g, v.ownBlock = some g ∧ w.heap.size ≤ g)
theorem OnlyB.refl (w : World) (v : Value) : OnlyB w w v v := ⟨⟨rfl, rfl, rfl, Nat.le_refl _, fun _ _ _ => rfl⟩, .inl rfl⟩
theorem OnlyB.step {w wr w2 : World} {v0 v v2 : Value} (h : OnlyB w wr v0 v) (o : Obj) (hg : (wr.alloc o).grownBy w2 v.ownBlock) (hat : v2.ownBlock = v.ownBlock ∨ v2.ownBlock = some (wr.alloc o).heap.size) : OnlyB w w2 v0 v2 := by
  have hsz : (wr.alloc o).heap.size = wr.heap.size + 1 := by simp
  have hs1 := h.1.size
  have hs2 := hg.size
  refine ⟨⟨hg.os.trans h.1.os, hg.tape.trans h.1.tape, hg.output.trans h.1.output, by omega, fun k hk hne => ?_⟩, ?_⟩
  · have hk1 : k < (wr.alloc o).heap.size := by omega
    have hne2 : some k ≠ v.ownBlock := by
      rcases h.2 with e | ⟨g, e, hge⟩
      · rw [e]; exact hne
      · rw [e]; intro e'; have := Option.some.inj e'; omega
    exact (hg.block k hk1 hne2).trans ((Below.heap_alloc wr o k (by omega)).trans (h.1.block k hk hne))
  · rcases hat with e | e
    · rw [e]; exact h.2
    · exact .inr ⟨_, e, by omega⟩
theorem OnlyB.below {w w' : World} {base e : Nat} {v v' : Value} {n : Nat} {xs : List Value} (h : OnlyB w w' v v') (ho : w.ownsRow base e 1 v n xs) (hb : base ≤ w.heap.size) : Below base w w' :=
  below_own (Below.refl _ w) h.1 hb (fun k hk => (ho.lt k hk).1)
theorem OnlyB.cell {w w' : World} {v v' : Value} (h : OnlyB w w' v v') {p : Addr} (hp : p.block < w.heap.size) (hne : v.ownBlock ≠ some p.block) : w'.cell? p = w.cell? p := World.cell?_of_block (w := w) (h.1.block _ hp (fun e => hne e.symm))
theorem rput_only (v : Value) (l : List UInt8) (x : Nat) (n : Int) (w : World) (base : Nat) (hv : w.ownsRow base 5 1 v l.length (bs l)) (hbase : base ≤ w.heap.size) (hx : x < 18446744073709551616) (hl : l.length ≤ 8796093022208)
    (hn1 : -9223372036854775808 ≤ n) (hn2 : n ≤ 9223372036854775807) :
    Calls Try.prog 24 #[v, .int .u64 x, .int .i64 n] w fun e w' => ∃ v', e = .returned v' ∧ w'.ownsRow base 5 1 v' (putS l x n).length (bs (putS l x n)) ∧ OnlyB w w' v v' := by
  obtain ⟨i0, hi, hz0, hz1, hz2⟩ := info_parts info_u8
  obtain ⟨A, c, rfl, hc1, hc2⟩ := (Sl.of_own hv).form
  by_cases hn : n < 1 ∨ 8 < n
  · go_enter Try.func24, Try.ntmps24
    go_wp2
    all_goals go_ret
    all_goals
      have hp : putS l x n = l := by unfold putS; rw [if_pos hn]
      exact ⟨_, rfl, ownsRow_len hv (by rw [hp]) (by rw [hp]), OnlyB.refl _ _⟩
  · obtain ⟨m, rfl⟩ : ∃ m : Nat, n = m := ⟨n.toNat, by omega⟩
    have hm1 : 1 ≤ m := by omega
    have hm8 : m ≤ 8 := by omega
    clear hn hn1 hn2
    go_enter Try.func24, Try.ntmps24
    go_wp2
    go_loopw [0, 7] (fun v i wr => ∃ k : Nat, k ≤ m ∧ i = .int .i64 ((m : Int) - 1 - k) ∧ wr.ownsRow base 5 1 v (l.length + k) (bs (l ++ beTo x m k)) ∧ OnlyB w wr (.slice A l.length c) v) (fun _ i _ => (intOf i + 1).toNat)
    case atStart => exact ⟨0, by omega, by simp, ownsRow_len hv (by omega) (by simp [beTo]), OnlyB.refl _ _⟩
    case round =>
      obtain ⟨k, hk, rfl, hown, hbw⟩ := hrel
      by_cases hlt : k < m
      · obtain ⟨A', c', rfl, hc1', hc2'⟩ := (Sl.of_own hown).form
        have hown2 := hown.alloc (.cells #[.int .u8 ((x : Int) / 2 ^ (8 * (m - 1 - k)) % 256)] 5)
        have hsl := Sl.fresh wr #[.int .u8 ((x : Int) / 2 ^ (8 * (m - 1 - k)) % 256)] 5 (n := 1) rfl (by unfold maxLen; omega)
        have hbs : (#[Value.int .u8 ((x : Int) / 2 ^ (8 * (m - 1 - k)) % 256)] : Array Value).toList = bs [UInt8.ofNat (x / 256 ^ (m - 1 - k))] := by
          simp only [bs, List.map_cons, List.map_nil]; rw [byte_val]
        rw [hbs] at hsl
        clear hbs
        have hbs := hbw.1.size
        go_wp2_with (at_builtin; refine wpList_append_sl _ rfl (.tmp 21) (.tmp 28) _ rfl base 5 i0 _ Try.underlying24 hi hz0 hz1 (by omega) rfl _ (l.length + k) (bs (l ++ beTo x m k)) rfl hown2 _ _ 1 _ rfl hsl bs_one (by omega) (by simp; omega) ?_; intro v2 w2 hown3 hg3 hat3)
        have hb2 := hbw.step _ hg3 hat3
        clear hat3 hg3 hsl hown2
        go_roundw
        case rel => exact ⟨k + 1, by omega, by congr 1; omega, ownsRow_len hown3 (by omega) (by rw [beTo_succ, ← List.append_assoc, bs_app (l ++ beTo x m k)]), hb2⟩
        case measure => simp [intOf]; omega
      · obtain ⟨A', c', rfl, hc1', hc2'⟩ := (Sl.of_own hown).form
        go_wp2_with fail
        go_ret
        have hkm : k = m := by omega
        subst hkm
        have hp : putS l x k = l ++ beTo x k k := by unfold putS be; rw [if_neg (by omega)]; simp
        exact ⟨_, rfl, ownsRow_len hown (by rw [hp]; simp) (by rw [hp]), hbw⟩

end Go.Proofs.Ytafpaigifemjjaa
