/- Package pdu: readHead: what it refuses. -/
import Derived.Test.YtafpaigifemjjaaPd5
namespace Go.Proofs.Ytafpaigifemjjaa
open Go.ChangeShapes Go.WideShapes Go.ChangeAt Go.RowKit
set_option linter.unusedVariables false
section
variable {P : Program}
theorem results_cell3 {fn : Func} {p a b : Tmp} {ty : TypeId} (h : fn.results = #[.cell p ty, .tmp a, .tmp b]) (tmps : Array Value) (w : World) (g : Nat) (t : TypeId) (cs : Array Value) (fr : Nat × Nat) (d : TypeDesc)
    (hp : tmps.getD p undef = .pointer (some ⟨g, 0, none⟩)) (hg : w.heap[g]? = some (.cells cs t fr))
    (hu : P.underlying ty = some d) (hd : (match d with | .struct _ | .array _ _ => true | _ => false) = true) (hi : (P.info? ty).map (·.size) = some cs.size) :
    (results fn tmps).run P w = .ok (.tuple #[.agg cs, tmps.getD a undef, tmps.getD b undef]) w := by
  have hp' : tmps[p]?.getD undef = .pointer (some ⟨g, 0, none⟩) := by simpa using hp
  simp [results, h, hp', asAddr, run_loadVar_row w g t ty cs fr d hg hu hd hi]
end
/-- The PDU of noughts. -/
def zpV : Value := .agg #[Value.int .i64 0, .bool false, .int .i64 0, .int .i64 0, .int .u32 0, .int .u32 0, .int .u32 0, .int .u32 0, .int .u32 0, .int .u32 0, .int .u8 0, .int .u8 0, .int .u8 0, .int .u8 0, .int .u8 0, .int .u8 0, .int .u8 0, .int .u8 0, .int .u8 0, .int .u8 0, .int .u8 0, .int .u8 0, .int .u8 0, .int .u8 0, .int .u8 0, .int .u8 0, .slice none 0 0]
set_option maxHeartbeats 2000000 in
theorem rh_bad (v : Value) (l : List UInt8) (hl : 52 ≤ l.length) (hl2 : l.length ≤ 8796093022208) (ho : Crc.openS (l.take 52) = ([], 4)) (w : World) (hv : Sl w w.heap.size v l.length (bs l)) :
    Calls Try.prog 21 #[v] w fun e w' => e = .returned (.tuple #[zpV, .int .i64 0, .int .i64 4]) ∧ Below w.heap.size w w' := by
  obtain ⟨A, c, rfl, hc1, hc2⟩ := hv.form
  unfold maxLen at hc2
  have htl : (l.take 52).length = 52 := by simp; omega
  have hop : ∀ o, Calls Try.prog 29 #[.slice A 52 c] (w.alloc o) fun e w' => ∃ v', e = .returned (.tuple #[v', .int .i64 4]) ∧ Below (w.alloc o).heap.size (w.alloc o) w' := by
    intro o
    have hs := (hv.take (m := 52) hl).alloc (Nat.le_refl _) o
    rw [← bs_take] at hs
    have h := Crc.open_any (.slice A 52 c) (l.take 52) (w.alloc o) (by rw [htl]; exact hs.more (by simp)) (by omega)
    rw [ho] at h
    refine h.mono ?_
    rintro e w' ⟨v', e1, _, hb⟩
    exact ⟨v', e1, hb⟩
  have hbox : ∀ w1, Below (w.alloc (.cells #[Value.int .i64 0, .bool false, .int .i64 0, .int .i64 0, .int .u32 0, .int .u32 0, .int .u32 0, .int .u32 0, .int .u32 0, .int .u32 0, .int .u8 0, .int .u8 0, .int .u8 0, .int .u8 0, .int .u8 0, .int .u8 0, .int .u8 0, .int .u8 0, .int .u8 0, .int .u8 0, .int .u8 0, .int .u8 0, .int .u8 0, .int .u8 0, .int .u8 0, .int .u8 0, .slice none 0 0] 26)).heap.size (w.alloc (.cells #[Value.int .i64 0, .bool false, .int .i64 0, .int .i64 0, .int .u32 0, .int .u32 0, .int .u32 0, .int .u32 0, .int .u32 0, .int .u32 0, .int .u8 0, .int .u8 0, .int .u8 0, .int .u8 0, .int .u8 0, .int .u8 0, .int .u8 0, .int .u8 0, .int .u8 0, .int .u8 0, .int .u8 0, .int .u8 0, .int .u8 0, .int .u8 0, .int .u8 0, .int .u8 0, .slice none 0 0] 26)) w1 → Mem w1 w.heap.size 26 #[Value.int .i64 0, .bool false, .int .i64 0, .int .i64 0, .int .u32 0, .int .u32 0, .int .u32 0, .int .u32 0, .int .u32 0, .int .u32 0, .int .u8 0, .int .u8 0, .int .u8 0, .int .u8 0, .int .u8 0, .int .u8 0, .int .u8 0, .int .u8 0, .int .u8 0, .int .u8 0, .int .u8 0, .int .u8 0, .int .u8 0, .int .u8 0, .int .u8 0, .int .u8 0, .slice none 0 0] ∧ Below w.heap.size w w1 := by
    intro w1 h
    have h0 := Mem.new w 26 #[Value.int .i64 0, .bool false, .int .i64 0, .int .i64 0, .int .u32 0, .int .u32 0, .int .u32 0, .int .u32 0, .int .u32 0, .int .u32 0, .int .u8 0, .int .u8 0, .int .u8 0, .int .u8 0, .int .u8 0, .int .u8 0, .int .u8 0, .int .u8 0, .int .u8 0, .int .u8 0, .int .u8 0, .int .u8 0, .int .u8 0, .int .u8 0, .int .u8 0, .int .u8 0, .slice none 0 0]
    exact ⟨h0.below h h0.lt, ((Below.refl _ _).alloc (Nat.le_refl _) _).trans (h.mono (by simp))⟩
  have hlx : (52 : Int) ≤ (l.length : Int) := by omega
  clear ho htl
  generalize l.length = n at *
  go_enter Try.func21, Try.ntmps21
  go_wp2_with (first
    | ((refine wpList_store_row rfl 26 (.tmp 2) (.tmp 20) rfl w.heap.size #[Value.int .i64 0, .bool false, .int .i64 0, .int .i64 0, .int .u32 0, .int .u32 0, .int .u32 0, .int .u32 0, .int .u32 0, .int .u32 0, .int .u8 0, .int .u8 0, .int .u8 0, .int .u8 0, .int .u8 0, .int .u8 0, .int .u8 0, .int .u8 0, .int .u8 0, .int .u8 0, .int .u8 0, .int .u8 0, .int .u8 0, .int .u8 0, .int .u8 0, .int .u8 0, .slice none 0 0] rfl rfl 26 #[Value.int .i64 0, .bool false, .int .i64 0, .int .i64 0, .int .u32 0, .int .u32 0, .int .u32 0, .int .u32 0, .int .u32 0, .int .u32 0, .int .u8 0, .int .u8 0, .int .u8 0, .int .u8 0, .int .u8 0, .int .u8 0, .int .u8 0, .int .u8 0, .int .u8 0, .int .u8 0, .int .u8 0, .int .u8 0, .int .u8 0, .int .u8 0, .int .u8 0, .int .u8 0, .slice none 0 0] hm1 (by kernel_rfl) (by kernel_rfl) (by kernel_rfl) ?_))
    | (go_at_call 29; refine (hop _).mono ?_; rintro e w1 ⟨v1, rfl, hb1⟩; obtain ⟨hm1, hbw1⟩ := hbox _ hb1))
  try simp only [Exit.inBlock, Exit.then]

  refine bodyPost_ret (v := .tuple #[zpV, .int .i64 0, .int .i64 4]) ?_ rfl ⟨rfl, below_setRow hbw1 (Nat.le_refl _) _⟩
  exact (results_cell3 (p := 2) (a := 3) (b := 4) (ty := 26) rfl _ _ w.heap.size 26 #[Value.int .i64 0, .bool false, .int .i64 0, .int .i64 0, .int .u32 0, .int .u32 0, .int .u32 0, .int .u32 0, .int .u32 0, .int .u32 0, .int .u8 0, .int .u8 0, .int .u8 0, .int .u8 0, .int .u8 0, .int .u8 0, .int .u8 0, .int .u8 0, .int .u8 0, .int .u8 0, .int .u8 0, .int .u8 0, .int .u8 0, .int .u8 0, .int .u8 0, .int .u8 0, .slice none 0 0] (0, 0) _ rfl (hm1.row #[Value.int .i64 0, .bool false, .int .i64 0, .int .i64 0, .int .u32 0, .int .u32 0, .int .u32 0, .int .u32 0, .int .u32 0, .int .u32 0, .int .u8 0, .int .u8 0, .int .u8 0, .int .u8 0, .int .u8 0, .int .u8 0, .int .u8 0, .int .u8 0, .int .u8 0, .int .u8 0, .int .u8 0, .int .u8 0, .int .u8 0, .int .u8 0, .int .u8 0, .int .u8 0, .slice none 0 0]) Try.underlying26 rfl (by kernel_rfl)).trans rfl
set_option maxHeartbeats 2000000 in
theorem rh_long (v : Value) (l H : List UInt8) (hl : 52 ≤ l.length) (hl2 : l.length ≤ 8796093022208) (ho : Crc.openS (l.take 52) = (H, 0)) (hH : H.length = 48) (hk : pknown ((H.getD 0 0).toNat : Nat) = true) (h3 : H.getD 3 0 = 0) (hN : 4096 < beVal ((H.drop 4).take 4)) (w : World) (hv : Sl w w.heap.size v l.length (bs l)) :
    Calls Try.prog 21 #[v] w fun e w' => e = .returned (.tuple #[zpV, .int .i64 0, .int .i64 5]) ∧ Below w.heap.size w w' := by
  obtain ⟨A, c, rfl, hc1, hc2⟩ := hv.form
  unfold maxLen at hc2
  have htl : (l.take 52).length = 52 := by simp; omega
  have hop : ∀ o, Calls Try.prog 29 #[.slice A 52 c] (w.alloc o) fun e w' => ∃ v', e = .returned (.tuple #[v', .int .i64 0]) ∧ Sl w' w'.heap.size v' 48 (bs H) ∧ Below (w.alloc o).heap.size (w.alloc o) w' := by
    intro o
    have hs := (hv.take (m := 52) hl).alloc (Nat.le_refl _) o
    rw [← bs_take] at hs
    have h := Crc.open_any (.slice A 52 c) (l.take 52) (w.alloc o) (by rw [htl]; exact hs.more (by simp)) (by omega)
    rw [ho] at h
    dsimp only at h
    rw [hH] at h
    exact h
  have hbox : ∀ w1, Below (w.alloc (.cells #[Value.int .i64 0, .bool false, .int .i64 0, .int .i64 0, .int .u32 0, .int .u32 0, .int .u32 0, .int .u32 0, .int .u32 0, .int .u32 0, .int .u8 0, .int .u8 0, .int .u8 0, .int .u8 0, .int .u8 0, .int .u8 0, .int .u8 0, .int .u8 0, .int .u8 0, .int .u8 0, .int .u8 0, .int .u8 0, .int .u8 0, .int .u8 0, .int .u8 0, .int .u8 0, .slice none 0 0] 26)).heap.size (w.alloc (.cells #[Value.int .i64 0, .bool false, .int .i64 0, .int .i64 0, .int .u32 0, .int .u32 0, .int .u32 0, .int .u32 0, .int .u32 0, .int .u32 0, .int .u8 0, .int .u8 0, .int .u8 0, .int .u8 0, .int .u8 0, .int .u8 0, .int .u8 0, .int .u8 0, .int .u8 0, .int .u8 0, .int .u8 0, .int .u8 0, .int .u8 0, .int .u8 0, .int .u8 0, .int .u8 0, .slice none 0 0] 26)) w1 → Mem w1 w.heap.size 26 #[Value.int .i64 0, .bool false, .int .i64 0, .int .i64 0, .int .u32 0, .int .u32 0, .int .u32 0, .int .u32 0, .int .u32 0, .int .u32 0, .int .u8 0, .int .u8 0, .int .u8 0, .int .u8 0, .int .u8 0, .int .u8 0, .int .u8 0, .int .u8 0, .int .u8 0, .int .u8 0, .int .u8 0, .int .u8 0, .int .u8 0, .int .u8 0, .int .u8 0, .int .u8 0, .slice none 0 0] ∧ Below w.heap.size w w1 := by
    intro w1 h
    have h0 := Mem.new w 26 #[Value.int .i64 0, .bool false, .int .i64 0, .int .i64 0, .int .u32 0, .int .u32 0, .int .u32 0, .int .u32 0, .int .u32 0, .int .u32 0, .int .u8 0, .int .u8 0, .int .u8 0, .int .u8 0, .int .u8 0, .int .u8 0, .int .u8 0, .int .u8 0, .int .u8 0, .int .u8 0, .int .u8 0, .int .u8 0, .int .u8 0, .int .u8 0, .int .u8 0, .int .u8 0, .slice none 0 0]
    exact ⟨h0.below h h0.lt, ((Below.refl _ _).alloc (Nat.le_refl _) _).trans (h.mono (by simp))⟩
  have hlx : (52 : Int) ≤ (l.length : Int) := by omega
  clear ho htl
  generalize l.length = n at *
  have hw : ∀ W v', Sl W W.heap.size v' 48 (bs H) → Calls Try.prog 30 #[v', .int .i64 4] W fun e w' => e = .returned (.int .u32 (beVal ((H.drop 4).take 4))) ∧ W = w' := fun W v' h => word_any v' H 4 4 rfl W (by rw [hH]; exact h) (by omega) (by omega)
  have x0 : (bs H)[0]? = some (.int .u8 ((H.getD 0 0).toNat : Nat)) := by
    rw [bs_get (by omega)]
    simp [List.getD_eq_getElem?_getD, List.getElem?_eq_getElem (show 0 < H.length by omega)]
  have x3 : (bs H)[3]? = some (.int .u8 0) := by
    rw [bs_get (by omega)]
    have : H[3]'(by omega) = 0 := by
      rw [← h3]
      simp [List.getD_eq_getElem?_getD, List.getElem?_eq_getElem (show 3 < H.length by omega)]
    rw [this]
    rfl
  have hk0 : (H.getD 0 0).toNat < 256 := (H.getD 0 0).toNat_lt
  generalize (H.getD 0 0).toNat = k0 at *
  generalize beVal ((H.drop 4).take 4) = N at *
  have hNx : decide ((4096 : Int) < (N : Int)) = true := decide_eq_true (by omega)
  clear h3 hH hN
  go_enter Try.func21, Try.ntmps21
  go_wp2_with (first
    | (refine wpList_store_row rfl 26 (.tmp 2) (.tmp 39) rfl w.heap.size #[Value.int .i64 0, .bool false, .int .i64 0, .int .i64 0, .int .u32 0, .int .u32 0, .int .u32 0, .int .u32 0, .int .u32 0, .int .u32 0, .int .u8 0, .int .u8 0, .int .u8 0, .int .u8 0, .int .u8 0, .int .u8 0, .int .u8 0, .int .u8 0, .int .u8 0, .int .u8 0, .int .u8 0, .int .u8 0, .int .u8 0, .int .u8 0, .int .u8 0, .int .u8 0, .slice none 0 0] rfl rfl 26 #[Value.int .i64 0, .bool false, .int .i64 0, .int .i64 0, .int .u32 0, .int .u32 0, .int .u32 0, .int .u32 0, .int .u32 0, .int .u32 0, .int .u8 0, .int .u8 0, .int .u8 0, .int .u8 0, .int .u8 0, .int .u8 0, .int .u8 0, .int .u8 0, .int .u8 0, .int .u8 0, .int .u8 0, .int .u8 0, .int .u8 0, .int .u8 0, .int .u8 0, .int .u8 0, .slice none 0 0] hm1 (by kernel_rfl) (by kernel_rfl) (by kernel_rfl) ?_)
    | (go_at_call 29; refine (hop _).mono ?_; rintro e w1 ⟨v1, rfl, hs1, hb1⟩; obtain ⟨hm1, hbw1⟩ := hbox _ hb1; obtain ⟨A1, cp, rfl, hcp1, hcp2⟩ := hs1.form; obtain ⟨b1, o1, rfl, hlt1, hcell1⟩ := hs1.at_ (by omega); unfold maxLen at hcp2; have y0 : w1.cell? ⟨b1, o1, none⟩ = some (.int .u8 (k0 : Nat)) := hcell1 0 _ x0; have y3 : w1.cell? ⟨b1, o1 + 3, none⟩ = some (.int .u8 0) := hcell1 3 _ x3)
    | (go_at_call 17; refine (pknown_any _ _).mono ?_; rw [hk]; rintro e w' ⟨rfl, rfl⟩)
    | (go_at_call 30; refine (hw _ _ hs1).mono ?_; rintro e w' ⟨rfl, rfl⟩))
  try simp only [Exit.inBlock, Exit.then]
  refine bodyPost_ret (v := .tuple #[zpV, .int .i64 0, .int .i64 5]) ?_ rfl ⟨rfl, below_setRow hbw1 (Nat.le_refl _) _⟩
  exact (results_cell3 (p := 2) (a := 3) (b := 4) (ty := 26) rfl _ _ w.heap.size 26 #[Value.int .i64 0, .bool false, .int .i64 0, .int .i64 0, .int .u32 0, .int .u32 0, .int .u32 0, .int .u32 0, .int .u32 0, .int .u32 0, .int .u8 0, .int .u8 0, .int .u8 0, .int .u8 0, .int .u8 0, .int .u8 0, .int .u8 0, .int .u8 0, .int .u8 0, .int .u8 0, .int .u8 0, .int .u8 0, .int .u8 0, .int .u8 0, .int .u8 0, .int .u8 0, .slice none 0 0] (0, 0) _ rfl (hm1.row #[Value.int .i64 0, .bool false, .int .i64 0, .int .i64 0, .int .u32 0, .int .u32 0, .int .u32 0, .int .u32 0, .int .u32 0, .int .u32 0, .int .u8 0, .int .u8 0, .int .u8 0, .int .u8 0, .int .u8 0, .int .u8 0, .int .u8 0, .int .u8 0, .int .u8 0, .int .u8 0, .int .u8 0, .int .u8 0, .int .u8 0, .int .u8 0, .int .u8 0, .int .u8 0, .slice none 0 0]) Try.underlying26 rfl (by kernel_rfl)).trans rfl
end Go.Proofs.Ytafpaigifemjjaa
