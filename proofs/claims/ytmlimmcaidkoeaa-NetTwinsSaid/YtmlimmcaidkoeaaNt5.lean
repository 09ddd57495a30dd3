/- Package net: Deliver, Drop: contracts. -/
import Derived.Test.YtmlimmcaidkoeaaNt4
namespace Go.Proofs.Ytmlimmcaidkoeaa
open Go.ChangeShapes Go.WideShapes Go.ChangeAt Go.RowKit Go.Lib
set_option linter.unusedVariables false
theorem row_at {w : World} {B c : Nat} {A : Option Addr} {L : List Pk} (ho : w.ownsRow B 41 3 (.slice A L.length c) L.length (flat L)) {i : Nat} (hi : i < L.length) :
    ∃ g, A = some ⟨g, 0, none⟩ ∧ B ≤ g ∧ g < w.heap.size ∧ w.cell? ⟨g, i * 3, none⟩ = some (.int .i64 L[i].fr) ∧ w.cell? ⟨g, i * 3 + 1, none⟩ = some (.int .i64 L[i].to) ∧ w.cell? ⟨g, i * 3 + 2, none⟩ = some L[i].d := by
  rcases ho.2 with ⟨hv, h0⟩ | ⟨g, cap, cur, hv, hBg, hg, hnc, hcm, hcs, htk⟩
  · omega
  simp only [Value.slice.injEq] at hv
  obtain ⟨rfl, _, rfl⟩ := hv
  have hcur : ∀ k, k < 3 → w.cell? ⟨g, 3 * i + k, none⟩ = L[i].cells[k]? := by
    intro k hk
    rw [cell_of_row w g _ cur _ _ hg, ← flat_at L i hi k hk, ← htk, List.getElem?_take, if_pos (by omega), Array.getElem?_toList]
  refine ⟨g, rfl, hBg, (Array.getElem?_eq_some_iff.1 hg).1, ?_, ?_, ?_⟩
  · rw [show i * 3 = 3 * i + 0 by omega, hcur 0 (by omega)]; rfl
  · rw [show i * 3 + 1 = 3 * i + 1 by omega, hcur 1 (by omega)]; rfl
  · rw [show i * 3 + 2 = 3 * i + 2 by omega, hcur 2 (by omega)]; rfl
def pk0 : Value := .agg #[.int .i64 0, .int .i64 0, .slice none 0 0]
def Pk.val (p : Pk) : Value := .agg #[.int .i64 p.fr, .int .i64 p.to, p.d]
set_option maxHeartbeats 2000000 in
theorem deliver_no (B X h s : Nat) (v : Value) (L : List Pk) (i : Int) (hi : ¬ (0 ≤ i ∧ i < L.length)) (w : World) (hn : NetInv w B X v h L s) :
    Calls Try.prog 24 #[.pointer (some ⟨X, 0, none⟩), .int .i64 i] w fun e w' => e = .returned (.tuple #[pk0, .bool false]) ∧ Below w.heap.size w w' := by
  have hh : ∀ o, Calls Try.prog 30 #[.pointer (some ⟨X, 0, none⟩), .int .i64 i] (w.alloc o) fun e w' => e = .returned (.bool false) ∧ w.alloc o = w' := by
    intro o
    have := has_any B X h s v L i (w.alloc o) (hn.below ((Below.refl _ _).alloc (Nat.le_refl _) o))
    rwa [decide_eq_false hi] at this
  have hm : Mem (w.alloc (.cells #[.int .i64 0, .int .i64 0, .slice none 0 0] 41)) w.heap.size 41 #[.int .i64 0, .int .i64 0, .slice none 0 0] := Mem.new w _ _
  go_enter Try.func24, Try.ntmps24
  go_wp2_with (first
    | (refine wpList_store_row rfl 41 (.tmp 4) (.tmp 11) rfl w.heap.size #[.int .i64 0, .int .i64 0, .slice none 0 0] rfl rfl 41 #[.int .i64 0, .int .i64 0, .slice none 0 0] hm (by kernel_rfl) (by kernel_rfl) (by kernel_rfl) ?_)
    | (go_at_call 30; refine (hh _).mono ?_; rintro e w' ⟨rfl, rfl⟩))
  try simp only [Exit.inBlock, Exit.then]
  refine bodyPost_ret (v := .tuple #[pk0, .bool false]) ?_ rfl ⟨rfl, below_setRow ((Below.refl _ _).alloc (Nat.le_refl _) _) (Nat.le_refl _) _⟩
  exact (results_cell2 (p := 4) (a := 5) (ty := 41) rfl _ _ w.heap.size 41 _ (0, 0) _ rfl (hm.row #[.int .i64 0, .int .i64 0, .slice none 0 0]) Try.underlying41 rfl (by kernel_rfl)).trans rfl
theorem net_cut {w w3 : World} {B X h s n c : Nat} {A : Option Addr} {L K : List Pk} {W : World} (hn : NetInv w B X (.slice A n c) h L s) (hb : Below w.heap.size w W) (hK : ∀ p ∈ K, p ∈ L) (hlen : K.length ≤ L.length)
    (ho : w3.ownsRow B 41 3 (.slice A K.length c) K.length (flat K)) (he : Eff (fun k => (Value.slice A n c).ownBlock = some k) W w3) :
    NetInv (w3.setCell ⟨X, 1, none⟩ (.slice A K.length c)) B X (.slice A K.length c) h K s ∧ Eff (NS X (.slice A n c)) w (w3.setCell ⟨X, 1, none⟩ (.slice A K.length c)) := by
  have hnW := hn.below hb
  have hm3 : Mem w3 X 58 #[.int .i64 (h : Nat), .slice A n c, .int .i64 (s : Nat)] := hnW.mem.eff he hn.apart
  have hob : (Value.slice A K.length c).ownBlock = (Value.slice A n c).ownBlock := by cases A <;> rfl
  have hS : Eff (fun k => k = X) w3 (w3.setCell ⟨X, 1, none⟩ (.slice A K.length c)) := Eff.setCell (S := fun k => k = X) (Eff.refl _ w3) (p := ⟨X, 1, none⟩) rfl _
  refine ⟨⟨hn.base, hm3.put 1 _, owns_eff ho hS fun k hk e => hn.apart (by rw [← hob, hk, e]), fun q hq => ?_, by have := hn.few; omega⟩, ?_⟩
  · exact ((hnW.data q (hK q hq)).eff he fun k _ hk => (own_tag hnW.row k hk).2.2.not (by decide)).eff hS (by rintro k _ rfl; exact (mem_tag hm3).not (by decide))
  · have e1 : Eff (NS X (.slice A n c)) w w3 := (Eff.of hb).trans (he.mono fun k _ h => Or.inr h) fun i _ h => h
    exact e1.setCell (p := ⟨X, 1, none⟩) (.inl rfl) _
set_option maxHeartbeats 2000000 in
theorem deliver_ok (B X h s : Nat) (v : Value) (L : List Pk) (i : Nat) (hi : i < L.length) (w : World) (hn : NetInv w B X v h L s) (hB : B ≤ w.heap.size) :
    Calls Try.prog 24 #[.pointer (some ⟨X, 0, none⟩), .int .i64 (i : Nat)] w fun e w' => ∃ v', e = .returned (.tuple #[L[i].val, .bool true]) ∧ NetInv w' B X v' h (L.eraseIdx i) s ∧ Eff (NS X v) w w' ∧ v'.ownBlock = v.ownBlock := by
  obtain ⟨A, c, rfl, hc1, hc2⟩ := hn.parts
  have hh : ∀ o, Calls Try.prog 30 #[.pointer (some ⟨X, 0, none⟩), .int .i64 (i : Nat)] (w.alloc o) fun e w' => e = .returned (.bool true) ∧ w.alloc o = w' := by
    intro o
    have := has_any B X h s _ L i (w.alloc o) (hn.below ((Below.refl _ _).alloc (Nat.le_refl _) o))
    rwa [decide_eq_true (by omega)] at this
  obtain ⟨g, rfl, hBg, hgl, hx1, hx2, hx3⟩ := row_at hn.row hi
  have hlenE : (L.eraseIdx i).length = L.length - 1 := List.length_eraseIdx_of_lt hi
  have hdl : ∀ p ∈ L, p.d.oneCell' = true := fun p hp => own_one (hn.data p hp).1
  have hdel : ∀ W, Below w.heap.size w W → Calls Try.prog 33 #[.slice (some ⟨g, 0, none⟩) L.length c, .int .i64 (i : Nat), .int .i64 ((i : Int) + 1)] W fun e w' => e = .returned (.slice (some ⟨g, 0, none⟩) (L.length - 1) c) ∧ w'.ownsRow B 41 3 (.slice (some ⟨g, 0, none⟩) (L.length - 1) c) (L.length - 1) (flat (L.eraseIdx i)) ∧ Eff (fun k => (Value.slice (some ⟨g, 0, none⟩) L.length c).ownBlock = some k) W w' :=
    fun W hW => del_any B (some ⟨g, 0, none⟩) c L i hi hdl W (owns_below hn.row hW)
  have hmem := List.getElem_mem hi
  generalize L[i] = p at *
  obtain ⟨fr, to, d, l⟩ := p
  obtain ⟨Ad, cd, hdv, _⟩ := own_form (hn.data ⟨fr, to, d, l⟩ hmem).1
  simp only at hdv
  subst hdv
  simp only at hx1 hx2 hx3
  have F : ∀ W w3, Below w.heap.size w W → Mem W w.heap.size 41 #[.int .i64 0, .int .i64 0, .slice none 0 0] → Mem W (w.heap.size + 1) 41 #[.int .i64 fr, .int .i64 to, .slice Ad l.length cd] → Eff (fun k => (Value.slice (some ⟨g, 0, none⟩) L.length c).ownBlock = some k) W w3 →
      w3.cell? ⟨X, 1, none⟩ = some (.slice (some ⟨g, 0, none⟩) L.length c) ∧ w3.frozen? ⟨X, 1, none⟩ = false ∧ (∀ u, Mem (w3.setCell ⟨X, 1, none⟩ u) (w.heap.size + 1) 41 #[.int .i64 fr, .int .i64 to, .slice Ad l.length cd]) ∧ (∀ u, Mem (w3.setCell ⟨X, 1, none⟩ u) w.heap.size 41 #[.int .i64 0, .int .i64 0, .slice none 0 0]) := by
    intro W w3 hW h1 h2 he
    have hm3 := (hn.below hW).mem.eff he hn.apart
    have hXl := hn.mem.lt
    exact ⟨hm3.cell 1, hm3.free 1, fun u => (h2.eff he (by simp [Value.ownBlock]; omega)).far (p := ⟨X, 1, none⟩) (by show w.heap.size + 1 ≠ X; omega) u, fun u => (h1.eff he (by simp [Value.ownBlock]; omega)).far (p := ⟨X, 1, none⟩) (by show w.heap.size ≠ X; omega) u⟩
  have hx0 : ∀ o, (w.alloc o).cell? ⟨X, 1, none⟩ = some (.slice (some ⟨g, 0, none⟩) L.length c) := fun o => Lib.cell?_alloc_some o (hn.mem.cell 1)
  have hy1 := fun o => Lib.cell?_alloc_some o hx1
  have hy2 := fun o => Lib.cell?_alloc_some o hx2
  have hy3 := fun o => Lib.cell?_alloc_some o hx3
  have hM1 := Mem.new w 41 #[.int .i64 0, .int .i64 0, .slice none 0 0]
  have hM2 := Mem.new (w.alloc (.cells #[.int .i64 0, .int .i64 0, .slice none 0 0] 41)) 41 #[.int .i64 0, .int .i64 0, .slice none 0 0]
  rw [show (w.alloc (.cells #[.int .i64 0, .int .i64 0, .slice none 0 0] 41)).heap.size = w.heap.size + 1 by simp] at hM2
  have hB2 := ((Below.refl w.heap.size w).alloc (Nat.le_refl _) (.cells #[.int .i64 0, .int .i64 0, .slice none 0 0] 41)).alloc (by simp) (.cells #[.int .i64 0, .int .i64 0, .slice none 0 0] 41)
  have hB3 := below_setRow hB2 (g := w.heap.size + 1) (by omega) #[.int .i64 fr, .int .i64 to, .slice Ad l.length cd]
  have hM3 := hM2.row #[.int .i64 fr, .int .i64 to, .slice Ad l.length cd]
  have hM4 := (hM1.alloc (.cells #[.int .i64 0, .int .i64 0, .slice none 0 0] 41)).rowFar (g := w.heap.size + 1) (by omega) #[.int .i64 fr, .int .i64 to, .slice Ad l.length cd]
  have hx4 : _ = some (Value.slice (some ⟨g, 0, none⟩) L.length c) := (hn.below hB3).mem.cell 1
  have G := Lib.hid hn
  clear hn
  go_enter Try.func24, Try.ntmps24
  go_wp2_with (first
    | (refine wpList_store_row rfl 41 (.tmp 6) (.tmp 18) rfl (w.heap.size + 1) #[.int .i64 fr, .int .i64 to, .slice Ad l.length cd] rfl rfl 41 #[.int .i64 0, .int .i64 0, .slice none 0 0] hM2 (by kernel_rfl) (by kernel_rfl) (by kernel_rfl) ?_)
    | (refine wpList_load_row rfl 41 (.tmp 6) rfl (w.heap.size + 1) rfl 41 #[.int .i64 fr, .int .i64 to, .slice Ad l.length cd] (0, 0) _ (hM5 _) Try.underlying41 rfl (by kernel_rfl) ?_)
    | (refine wpList_store_row rfl 41 (.tmp 4) (.tmp 30) rfl w.heap.size #[.int .i64 fr, .int .i64 to, .slice Ad l.length cd] rfl rfl 41 #[.int .i64 0, .int .i64 0, .slice none 0 0] (hM6 _) (by kernel_rfl) (by kernel_rfl) (by kernel_rfl) ?_)
    | (go_at_call 30; refine (hh _).mono ?_; rintro e w' ⟨rfl, rfl⟩)
    | (go_at_call 33; with_reducible refine (hdel _ hB3).mono ?_; rintro e w3 ⟨rfl, ho3, he3⟩; obtain ⟨hx5, hf5, hM5, hM6⟩ := F _ _ hB3 hM4 hM3 he3))
  try simp only [Exit.inBlock, Exit.then]
  have hn := G.out
  have hXl := hn.mem.lt
  rw [← hlenE] at ho3
  obtain ⟨hn4, he4⟩ := net_cut (K := L.eraseIdx i) hn hB3 (fun p hp => List.mem_of_mem_eraseIdx hp) (by omega) ho3 he3
  rw [hlenE] at hn4 he4
  have hS : Eff (fun k => k = w.heap.size) (w3.setCell ⟨X, 1, none⟩ (.slice (some ⟨g, 0, none⟩) (L.length - 1) c)) ((w3.setCell ⟨X, 1, none⟩ (.slice (some ⟨g, 0, none⟩) (L.length - 1) c)).setRow w.heap.size #[.int .i64 fr, .int .i64 to, .slice Ad l.length cd]) := Eff.setRow (S := fun k => k = w.heap.size) (Eff.refl _ _) rfl _
  refine bodyPost_ret (v := .tuple #[Pk.val ⟨fr, to, .slice Ad l.length cd, l⟩, .bool true]) ?_ rfl ⟨.slice (some ⟨g, 0, none⟩) (L.length - 1) c, rfl, hn4.eff hS (by omega) ?_ ?_, he4.trans hS (fun k hk e => by omega), rfl⟩
  · exact (results_cell2 (p := 4) (a := 5) (ty := 41) rfl _ _ w.heap.size 41 _ (0, 0) _ rfl ((hM6 _).row #[.int .i64 fr, .int .i64 to, .slice Ad l.length cd]) Try.underlying41 rfl (by kernel_rfl)).trans rfl
  · intro k hk e
    have : k = g := (Option.some.inj hk).symm
    omega
  · rintro k _ rfl
    exact (mem_tag (hM6 _)).not (by decide)
end Go.Proofs.Ytmlimmcaidkoeaa
