/- Package space: what lies in memory; Blocks, In, bytes, Mapped: contracts. -/
import Derived.Test.YtflodljccloobaaBtK
import Derived.Test.YtflodljccloobaaCalmK
namespace Go.Proofs.Ytflodljccloobaa
open Go.ChangeShapes Go.WideShapes Go.ChangeAt Go.RowKit Go.Lib
set_option linter.unusedVariables false
set_option linter.unusedSimpArgs false
/-- Blocks in block X: the bytes D in block g, the map M in block h. -/
structure SpInv (w : World) (B X g h N : Nat) (D M : List UInt8) : Prop where
  bX : B ≤ X
  bg : B ≤ g
  bh : B ≤ h
  gX : g ≠ X
  hX : h ≠ X
  gh : g ≠ h
  mem : Mem w X 90 #[.slice (some ⟨g, 0, none⟩) D.length D.length, .slice (some ⟨h, 0, none⟩) M.length M.length]
  data : Mem w g 5 (bs D).toArray
  map : Mem w h 5 (bs M).toArray
  lenD : D.length = 8 * N
  lenM : M.length = (N + 7) / 8
  pos : 1 ≤ N
  few : N ≤ 1024
/-- The blocks that may turn. -/
def SpS (g h : Nat) : Nat → Prop := fun k => k = g ∨ k = h
section
variable {w w' : World} {B X g h N : Nat} {D M : List UInt8}
theorem SpInv.below (hn : SpInv w B X g h N D M) (hb : Below w.heap.size w w') : SpInv w' B X g h N D M :=
  ⟨hn.bX, hn.bg, hn.bh, hn.gX, hn.hX, hn.gh, hn.mem.below hb hn.mem.lt, hn.data.below hb hn.data.lt, hn.map.below hb hn.map.lt, hn.lenD, hn.lenM, hn.pos, hn.few⟩
theorem own_mem {w : World} {B g e n : Nat} {l : List UInt8} (h : Mem w g e (bs l).toArray) (hb : B ≤ g) (hn : l.length = n) (hm : n ≤ maxLen) : w.ownsRow B e 1 (.slice (some ⟨g, 0, none⟩) n n) n (bs l) :=
  ⟨by simp [hn], .inr ⟨g, n, _, rfl, hb, h, Nat.le_refl _, hm, by simp [hn], by rw [List.take_of_length_le (by simp [hn])]⟩⟩
theorem SpInv.lens (hn : SpInv w B X g h N D M) : D.length ≤ 8192 ∧ M.length ≤ 129 ∧ N ≤ 8 * M.length := by
  have := hn.lenD
  have := hn.lenM
  have := hn.few
  omega
theorem SpInv.sl (hn : SpInv w B X g h N D M) : Sl w w.heap.size (.slice (some ⟨g, 0, none⟩) D.length D.length) D.length (bs D) := Sl.of_own (base := 0) (e := 5) (own_mem hn.data (Nat.zero_le _) rfl (by unfold maxLen; have := hn.lens; omega))
theorem SpInv.slM (hn : SpInv w B X g h N D M) : Sl w w.heap.size (.slice (some ⟨h, 0, none⟩) M.length M.length) M.length (bs M) := Sl.of_own (base := 0) (e := 5) (own_mem hn.map (Nat.zero_le _) rfl (by unfold maxLen; have := hn.lens; omega))
theorem blocks_any (hn : SpInv w B X g h N D M) : Calls Try.prog 51 #[.pointer (some ⟨X, 0, none⟩)] w fun e w' => e = .returned (.int .i64 (N : Nat)) ∧ w = w' := by
  have x0 := hn.mem.cell 0
  have hl := hn.lenD
  have hf := hn.few
  rw [hl] at x0
  clear hl
  have hq : (8 * (N : Int)) / 8 = (N : Int) := by omega
  go_enter Try.func51, Try.ntmps51
  go_wp2
  go_ret
  refine ⟨?_, rfl⟩
  simp
/-- Are n blocks from a place on there? -/
def inB (N : Nat) (at_ n : Int) : Bool := decide (0 ≤ n ∧ n ≤ 32 ∧ 0 ≤ at_ ∧ at_ + n ≤ (N : Int))
theorem in_any (at_ n : Int) (hn : SpInv w B X g h N D M) (ha : -4611686018427387904 ≤ n ∧ n ≤ 9223372036854775807) : Calls Try.prog 31 #[.pointer (some ⟨X, 0, none⟩), .int .i64 at_, .int .i64 n] w fun e w' => e = .returned (.bool (inB N at_ n)) ∧ w = w' := by
  have hb := blocks_any hn
  have hf := hn.few
  have hNx : (N : Int) ≤ 1024 := by omega
  unfold inB
  by_cases h1 : 0 ≤ n
  · by_cases h2 : n ≤ 32
    · by_cases h3 : 0 ≤ at_
      · by_cases h4 : at_ + n ≤ (N : Int)
        · have h4' : at_ ≤ (N : Int) - n := by omega
          rw [decide_eq_true ⟨h1, h2, h3, h4⟩]
          go_enter Try.func31, Try.ntmps31
          go_wp2_with (go_at_call 51; (with_reducible refine hb.mono ?_); rintro e w1 ⟨rfl, rfl⟩)
          go_ret
          exact ⟨by simp [h4'], rfl⟩
        · have h4' : ¬ at_ ≤ (N : Int) - n := by omega
          rw [decide_eq_false fun h => h4 h.2.2.2]
          go_enter Try.func31, Try.ntmps31
          go_wp2_with (go_at_call 51; (with_reducible refine hb.mono ?_); rintro e w1 ⟨rfl, rfl⟩)
          go_ret
          exact ⟨by simp [h4'], rfl⟩
      · rw [decide_eq_false fun h => h3 h.2.2.1]
        go_enter Try.func31, Try.ntmps31
        go_wp2
        go_ret
        exact ⟨by simp, rfl⟩
    · rw [decide_eq_false fun h => h2 h.2.1]
      go_enter Try.func31, Try.ntmps31
      go_wp2
      go_ret
      exact ⟨by simp, rfl⟩
  · rw [decide_eq_false fun h => h1 h.1]
    go_enter Try.func31, Try.ntmps31
    go_wp2
    go_ret
    exact ⟨by simp, rfl⟩
theorem bytes_any (a n : Nat) (hn : SpInv w B X g h N D M) (ha : a + n ≤ N) : Calls Try.prog 52 #[.pointer (some ⟨X, 0, none⟩), .int .i64 (a : Nat), .int .i64 (n : Nat)] w fun e w' => ∃ off c, e = .returned (.slice (some ⟨g, off, none⟩) (n * 8) c) ∧ n * 8 ≤ c ∧ c ≤ 8192 ∧ (off = a * 8 ∨ n = 0) ∧ off + n * 8 ≤ 8 * N ∧ w = w' := by
  have x0 := hn.mem.cell 0
  have hl := hn.lenD
  have hf := hn.few
  rw [hl] at x0
  clear hl
  have hax : (a : Int) + (n : Int) ≤ (N : Int) := by omega
  have hNx : (N : Int) ≤ 1024 := by omega
  have e1 : (a + n) * 8 - a * 8 = n * 8 := by omega
  by_cases haN : 8 * N = a * 8
  · have hn0 : n = 0 := by omega
    go_enter Try.func52, Try.ntmps52
    go_wp2
    go_ret
    exact ⟨0, 0, by rw [hn0]; simp, by omega, by omega, .inr hn0, by omega, rfl⟩
  · go_enter Try.func52, Try.ntmps52
    go_wp2
    go_ret
    exact ⟨a * 8, 8 * N - a * 8, by simp [e1], by omega, by omega, .inl rfl, by omega, rfl⟩
/-- A piece of the bytes, as they are shown by a slice. -/
def piece (D : List UInt8) (a n : Nat) : List UInt8 := (D.drop (a * 8)).take (n * 8)
theorem piece_len {D : List UInt8} {a n : Nat} (h : a * 8 + n * 8 ≤ D.length) : (piece D a n).length = n * 8 := by simp [piece]; omega
theorem piece_get {D : List UInt8} {a n k : Nat} (h : a * 8 + n * 8 ≤ D.length) (hk : k < n * 8) : (piece D a n)[k]? = D[a * 8 + k]? := by
  unfold piece
  rw [List.getElem?_take, if_pos hk, List.getElem?_drop]
theorem SpInv.piece_sl {off c a n : Nat} (hn : SpInv w B X g h N D M) (ha : a + n ≤ N) (h1 : n * 8 ≤ c) (h2 : c ≤ 8192) (h3 : off = a * 8 ∨ n = 0) : Sl w w.heap.size (.slice (some ⟨g, off, none⟩) (n * 8) c) (n * 8) (bs (piece D a n)) := by
  have hl := hn.lenD
  refine ⟨by rw [bs_len, piece_len (by omega)], _, c, rfl, h1, by unfold maxLen; omega, fun hne => ⟨g, off, rfl, hn.data.lt, fun j u hu => ?_⟩⟩
  have hj : j < n * 8 := by
    have := (List.getElem?_eq_some_iff.1 hu).1
    rwa [bs_len, piece_len (by omega)] at this
  rcases h3 with rfl | rfl
  · rw [hn.data.cell, List.getElem?_toArray]
    unfold bs at hu ⊢
    rw [List.getElem?_map] at hu
    rw [piece_get (by omega) hj] at hu
    simpa using hu
  · omega
end
end Go.Proofs.Ytflodljccloobaa
