/- Package resv: what is told of the others, as a set. -/
import Derived.Test.YtgnpepkpbdddhaaRv8
import Derived.Laws.BitsLemmas
namespace Go.Proofs.Ytgnpepkpbdddhaa
open Go.ChangeShapes Go.WideShapes Go.ChangeAt Go.RowKit Go.Lib
set_option linter.unusedVariables false
set_option linter.unusedSimpArgs false
namespace Rv
theorem own : ownKnob Try.prog.godebug = none := by kernel_rfl
theorem laidOut : laidOutB Try.prog = true := by kernel_rfl
theorem othTo_congr (t t' : RT) (host : Int) (key : Nat) (code : Int) (j : Nat) (h : ∀ k, k < j → (k : Int) ≠ host → t.at_ k = t'.at_ k) : othTo t host key code j = othTo t' host key code j := by
  induction j with
  | zero => rfl
  | succ j ih =>
    unfold othTo
    rw [ih fun k hk => h k (by omega)]
    by_cases e : (j : Int) = host
    · rw [if_pos (.inl e), if_pos (.inl e)]
    · rw [h j (by omega) e]
theorem othTo_mem (t : RT) (host : Int) (key : Nat) (code : Int) (j : Nat) : ∀ p ∈ othTo t host key code j, p.2 = code ∧ (p.1 : Int) ≠ host := by
  induction j with
  | zero => intro p hp; cases hp
  | succ j ih =>
    intro p hp
    unfold othTo at hp
    split at hp
    · exact ih p hp
    · rename_i hn
      rcases List.mem_append.1 hp with h | h
      · exact ih p h
      · obtain rfl := List.mem_singleton.1 h
        exact ⟨rfl, fun e => hn (.inl e)⟩
theorem put_at (t : RT) (hl : t.keys.length = 8) (i f k : Nat) (hi : i < 8) : (t.put i f).at_ k = if k = i then f else t.at_ k := by
  unfold RT.at_ RT.put
  show (t.keys.set i f)[k]?.getD 0 = _
  rw [List.getElem?_set]
  by_cases e : i = k
  · subst e
    rw [if_pos rfl, if_pos rfl, if_pos (by omega)]
    rfl
  · rw [if_neg e, if_neg fun h => e h.symm]
theorem oth_skip (t : RT) (host : Int) (code : Int) (j : Nat) (h : (j : Int) = host ∨ t.at_ j = 0) : othTo t host 0 code (j + 1) = othTo t host 0 code j := by
  conv => lhs; unfold othTo
  rw [if_pos (by rcases h with h | h; exact .inl h; exact .inr (.inl h))]
theorem oth_more (t : RT) (host : Int) (code : Int) (j : Nat) (h : (j : Int) ≠ host) (h0 : t.at_ j ≠ 0) : othTo t host 0 code (j + 1) = othTo t host 0 code j ++ [(j, code)] := by
  conv => lhs; unfold othTo
  rw [if_neg (by rintro (e | e | e); exact h e; exact h0 e; exact e.1 rfl)]
/-- What the loop that registers the others keeps: h the host that stays apart. -/
structure LvI (t : RT) (h : Nat) (hk : Nat) (code : Int) (j n : Nat) : Prop where
  hold : t.holder = -1
  typ : t.typ = 0
  gen : t.gen ≤ 1 + j
  later : ∀ k, j ≤ k → k < 8 → k ≠ h → t.at_ k = 0
  num : n = (othTo t (h : Nat) 0 code j).length
  len : t.keys.length = 8
theorem LvI.skip {t : RT} {h hk : Nat} {code : Int} {j n : Nat} (l : LvI t h hk code j n) (hj : j < 8) (hjh : j ≠ h) : LvI t h hk code (j + 1) n :=
  ⟨l.hold, l.typ, Nat.le_trans l.gen (by omega), fun k hk => l.later k (by omega), by rw [oth_skip t h code j (.inr (l.later j (Nat.le_refl _) hj hjh))]; exact l.num, l.len⟩
theorem LvI.more {t : RT} {h hk : Nat} {code : Int} {j n : Nat} (l : LvI t h hk code j n) (hj : j < 8) (hjh : j ≠ h) (f : Nat) (hf : f ≠ 0) : LvI (t.put j f) h hk code (j + 1) (n + 1) := by
  have e1 : othTo (t.put j f) (h : Nat) 0 code j = othTo t (h : Nat) 0 code j := othTo_congr _ _ _ _ _ _ fun k hk _ => by rw [put_at t l.len j f k hj, if_neg (by omega)]
  have e2 := oth_more (t.put j f) h code j (by omega) (by rw [put_at t l.len j f j hj, if_pos rfl]; exact hf)
  refine ⟨l.hold, l.typ, ?_, ?_, ?_, ?_⟩
  · have := l.gen; show t.gen + 1 ≤ _; omega
  · intro k hk h8 hkh
    rw [put_at t l.len j f k hj, if_neg (by omega)]
    exact l.later k (by omega) h8 hkh
  · rw [e2, e1, List.length_append, ← l.num]; rfl
  · show (t.keys.set j f).length = 8; rw [List.length_set]; exact l.len
theorem put_row {W : World} {Y g : Nat} {t : RT} (h : TabM W Y t) (hm : Mem W g 40 #[Value.int .i64 0, .int .i64 0, .int .i64 0, .slice none 0 0, .int .i64 0]) (hg : Y ≠ g) : ∃ W2, W2 = W.setRow g #[Value.int .i64 0, .int .i64 0, .int .i64 0, .slice none 0 0, .int .i64 0] ∧ TabM W2 Y t ∧ Mem W2 g 40 #[Value.int .i64 0, .int .i64 0, .int .i64 0, .slice none 0 0, .int .i64 0] ∧ (∀ k, k ≠ g → W2.heap[k]? = W.heap[k]?) :=
  ⟨_, rfl, h.far _ hg _, hm.row _, fun k hk => setRow_other W g k _ hk⟩
theorem zero_at (k : Nat) : RT.zero.at_ k = 0 := by
  match k with
  | 0 | 1 | 2 | 3 | 4 | 5 | 6 | 7 => rfl
  | k + 8 => rfl
theorem u8_and7 (x : Int) (h0 : 0 ≤ x) (h1 : x ≤ 255) : bits .and .u8 x 7 = x % 8 := bits_mask .u8 8 (by decide) wraps_u8 3 (by decide) x h0 (by omega)
theorem u8_and3 (x : Int) (h0 : 0 ≤ x) (h1 : x ≤ 255) : bits .and .u8 x 3 = x % 4 := bits_mask .u8 8 (by decide) wraps_u8 2 (by decide) x h0 (by omega)
end Rv
end Go.Proofs.Ytgnpepkpbdddhaa
