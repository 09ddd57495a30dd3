/- Package net: what lies in memory; New, host, has, Waiting, Sent, clone: contracts. -/
import Derived.Test.YtmlimmcaidkoeaaBase2
import Derived.Test.YtmlimmcaidkoeaaRows
import Derived.Test.YtmlimmcaidkoeaaChecked
import Derived.Test.YtmlimmcaidkoeaaKeep
import Derived.Test.YtmlimmcaidkoeaaCalmT
import Derived.Lib.Hide
import Derived.OwnWalk
namespace Go.Proofs.Ytmlimmcaidkoeaa
open Go.ChangeShapes Go.WideShapes Go.ChangeAt Go.RowKit
set_option linter.unusedVariables false
section
variable {P : Program}
theorem results_cell2 {fn : Func} {p a : Tmp} {ty : TypeId} (h : fn.results = #[.cell p ty, .tmp a]) (tmps : Array Value) (w : World) (g : Nat) (t : TypeId) (cs : Array Value) (fr : Nat × Nat) (d : TypeDesc)
    (hp : tmps.getD p undef = .pointer (some ⟨g, 0, none⟩)) (hg : w.heap[g]? = some (.cells cs t fr))
    (hu : P.underlying ty = some d) (hd : (match d with | .struct _ | .array _ _ => true | _ => false) = true) (hi : (P.info? ty).map (·.size) = some cs.size) :
    (results fn tmps).run P w = .ok (.tuple #[.agg cs, tmps.getD a undef]) w := by
  have hp' : tmps[p]?.getD undef = .pointer (some ⟨g, 0, none⟩) := by simpa using hp
  simp [results, h, hp', asAddr, run_loadVar_row w g t ty cs fr d hg hu hd hi]
end
theorem info_u8 : (Try.prog.info? 5).map (fun i => (i.zero, i.size, i.bytes)) = some (some (.int .u8 0), 1, 1) := by kernel_rfl
theorem owns_below {w w' : World} {base e sz : Nat} {v : Value} {n : Nat} {xs : List Value} (h : w.ownsRow base e sz v n xs) (hb : Below w.heap.size w w') : w'.ownsRow base e sz v n xs := by
  refine ⟨h.1, ?_⟩
  rcases h.2 with hn | ⟨g, cap, cur, rfl, hg, hgg, rest⟩
  · exact .inl hn
  · refine .inr ⟨g, cap, cur, rfl, hg, ?_, rest⟩
    rw [hb.block g (Array.getElem?_eq_some_iff.1 hgg).1]
    exact hgg
theorem owns_mono {w : World} {base base' e sz : Nat} {v : Value} {n : Nat} {xs : List Value} (h : w.ownsRow base e sz v n xs) (hb : base' ≤ base) : w.ownsRow base' e sz v n xs := by
  refine ⟨h.1, ?_⟩
  rcases h.2 with hn | ⟨g, cap, cur, rfl, hg, rest⟩
  · exact .inl hn
  · exact .inr ⟨g, cap, cur, rfl, Nat.le_trans hb hg, rest⟩
/-- A packet that waits. -/
structure Pk where
  fr : Int
  to : Int
  d : Value
  l : List UInt8
def Pk.cells (p : Pk) : List Value := [.int .i64 p.fr, .int .i64 p.to, p.d]
def flat (L : List Pk) : List Value := L.flatMap Pk.cells
theorem flat_len (L : List Pk) : (flat L).length = L.length * 3 := by
  induction L with
  | nil => rfl
  | cons p L ih => simp only [flat, List.flatMap_cons, List.length_append, List.length_cons] at ih ⊢; rw [ih]; simp [Pk.cells]; omega
theorem flat_app (L K : List Pk) : flat (L ++ K) = flat L ++ flat K := by simp [flat]
theorem flat_at (L : List Pk) (i : Nat) (h : i < L.length) (j : Nat) (hj : j < 3) : (flat L)[3 * i + j]? = (L[i].cells)[j]? := by
  induction L generalizing i with
  | nil => simp at h
  | cons p L ih =>
    have e : flat (p :: L) = p.cells ++ flat L := rfl
    rw [e]
    cases i with
    | zero => rw [List.getElem?_append_left (by simp [Pk.cells]; omega)]; simp
    | succ i =>
      rw [List.getElem?_append_right (by simp [Pk.cells]; omega)]
      have := ih i (by simpa using h)
      simp only [List.getElem_cons_succ]
      rw [← this]
      congr 1
      simp [Pk.cells]; omega
theorem flat_take (L : List Pk) (i : Nat) : (flat L).take (3 * i) = flat (L.take i) := by
  induction L generalizing i with
  | nil => simp [flat]
  | cons p L ih =>
    have e : flat (p :: L) = p.cells ++ flat L := rfl
    cases i with
    | zero => simp [flat]
    | succ i =>
      rw [e, List.take_succ_cons, show flat (p :: L.take i) = p.cells ++ flat (L.take i) from rfl, ← ih i, List.take_append]
      rw [List.take_of_length_le (by simp [Pk.cells]; omega)]
      congr 2
theorem flat_drop (L : List Pk) (i : Nat) : (flat L).drop (3 * i) = flat (L.drop i) := by
  induction L generalizing i with
  | nil => simp [flat]
  | cons p L ih =>
    have e : flat (p :: L) = p.cells ++ flat L := rfl
    cases i with
    | zero => simp
    | succ i =>
      rw [e, List.drop_succ_cons, ← ih i, List.drop_append]
      rw [List.drop_of_length_le (by simp [Pk.cells]; omega), List.nil_append]
      congr 1
/-- Which blocks may have turned. -/
structure Eff (S : Nat → Prop) (w w' : World) : Prop where
  os : w'.os = w.os
  tape : w'.tape = w.tape
  output : w'.output = w.output
  size : w.heap.size ≤ w'.heap.size
  block : ∀ k, k < w.heap.size → ¬ S k → w'.heap[k]? = w.heap[k]?
theorem Eff.refl (S : Nat → Prop) (w : World) : Eff S w w := ⟨rfl, rfl, rfl, Nat.le_refl _, fun _ _ _ => rfl⟩
theorem Eff.of {S : Nat → Prop} {a b : World} (h : Below a.heap.size a b) : Eff S a b := ⟨h.os, h.tape, h.output, h.size, fun k hk _ => h.block k hk⟩
theorem Eff.mono {S T : Nat → Prop} {a b : World} (h : Eff S a b) (hs : ∀ k, k < a.heap.size → S k → T k) : Eff T a b := ⟨h.os, h.tape, h.output, h.size, fun k hk hn => h.block k hk fun hS => hn (hs k hk hS)⟩
theorem Eff.trans {S T : Nat → Prop} {a b c : World} (h : Eff S a b) (k : Eff T b c) (hs : ∀ i, i < a.heap.size → T i → S i) : Eff S a c :=
  ⟨k.os.trans h.os, k.tape.trans h.tape, k.output.trans h.output, Nat.le_trans h.size k.size, fun i hi hn => (k.block i (Nat.lt_of_lt_of_le hi h.size) fun ht => hn (hs i hi ht)).trans (h.block i hi hn)⟩
theorem Eff.below {S : Nat → Prop} {B : Nat} {o a b : World} (h : Eff S a b) (ho : Below B o a) (hB : B ≤ a.heap.size) (hs : ∀ k, k < a.heap.size → S k → B ≤ k) : Below B o b :=
  ⟨h.os.trans ho.os, h.tape.trans ho.tape, h.output.trans ho.output, Nat.le_trans ho.size h.size, fun k hk => (h.block k (by omega) fun hS => by have := hs k (by omega) hS; omega).trans (ho.block k hk)⟩
theorem Eff.setCell {S : Nat → Prop} {a b : World} {p : Addr} (h : Eff S a b) (hp : S p.block) (u : Value) : Eff S a (b.setCell p u) :=
  ⟨h.os, h.tape, h.output, by simpa using h.size, fun k hk hn => (Below.heap_setCell b p u k fun e => hn (e ▸ hp)).trans (h.block k hk hn)⟩
theorem Eff.cell {S : Nat → Prop} {a b : World} (h : Eff S a b) {p : Addr} (hp : p.block < a.heap.size) (hn : ¬ S p.block) : b.cell? p = a.cell? p := World.cell?_of_block (w := a) (h.block p.block hp hn)
/-- A packet's data lies in a row of its own. -/
def DOk (w : World) (B : Nat) (p : Pk) : Prop := w.ownsRow B 5 1 p.d p.l.length (bs p.l) ∧ p.l.length ≤ 8192
theorem DOk.below {w w' : World} {B : Nat} {p : Pk} (h : DOk w B p) (hb : Below w.heap.size w w') : DOk w' B p := ⟨owns_below h.1 hb, h.2⟩
theorem DOk.mono {w : World} {B C : Nat} {p : Pk} (h : DOk w C p) (hb : B ≤ C) : DOk w B p := ⟨owns_mono h.1 hb, h.2⟩
theorem DOk.sl {w : World} {B : Nat} {p : Pk} (h : DOk w B p) : Sl w w.heap.size p.d p.l.length (bs p.l) := Sl.of_own h.1
/-- Of block k's kind. -/
def Tag (w : World) (k t : Nat) : Prop := ∃ cs fr, w.heap[k]? = some (.cells cs t fr)
theorem Tag.ne {w : World} {k j t u : Nat} (h : Tag w k t) (g : Tag w j u) (hn : t ≠ u) : k ≠ j := by
  rintro rfl
  obtain ⟨cs, fr, h⟩ := h
  obtain ⟨ds, gr, g⟩ := g
  rw [h] at g
  injection g with g
  injection g with _ e _
  exact hn e
theorem own_tag {w : World} {B e sz n : Nat} {v : Value} {xs : List Value} (h : w.ownsRow B e sz v n xs) : ∀ k, v.ownBlock = some k → B ≤ k ∧ k < w.heap.size ∧ Tag w k e := by
  intro k hk
  rcases h.2 with ⟨rfl, _⟩ | ⟨g, cap, cur, rfl, hB, hg, _⟩
  · cases hk
  · obtain rfl : g = k := Option.some.inj hk
    exact ⟨hB, (Array.getElem?_eq_some_iff.1 hg).1, _, _, hg⟩
theorem owns_eff {S : Nat → Prop} {w w' : World} {base e sz : Nat} {v : Value} {n : Nat} {xs : List Value} (h : w.ownsRow base e sz v n xs) (hb : Eff S w w') (hS : ∀ k, v.ownBlock = some k → ¬ S k) : w'.ownsRow base e sz v n xs := by
  refine ⟨h.1, ?_⟩
  rcases h.2 with hn | ⟨g, cap, cur, rfl, hg, hgg, rest⟩
  · exact .inl hn
  · refine .inr ⟨g, cap, cur, rfl, hg, ?_, rest⟩
    rw [hb.block g (Array.getElem?_eq_some_iff.1 hgg).1 (hS g rfl)]
    exact hgg
/-- Data stays where nothing that turns is of bytes. -/
theorem DOk.eff {S : Nat → Prop} {w w' : World} {B : Nat} {p : Pk} (h : DOk w B p) (hb : Eff S w w') (hS : ∀ k, k < w.heap.size → S k → ¬ Tag w k 5) : DOk w' B p :=
  ⟨owns_eff h.1 hb fun k hk hs => hS k (own_tag h.1 k hk).2.1 hs (own_tag h.1 k hk).2.2, h.2⟩
/-- A net in block X, its packets in v's row. -/
structure NetInv (w : World) (B X : Nat) (v : Value) (h : Nat) (L : List Pk) (s : Nat) : Prop where
  base : B ≤ X
  mem : Mem w X 58 #[.int .i64 (h : Nat), v, .int .i64 (s : Nat)]
  row : w.ownsRow B 41 3 v L.length (flat L)
  data : ∀ p ∈ L, DOk w B p
  few : L.length ≤ 4096
def NS (X : Nat) (v : Value) : Nat → Prop := fun k => k = X ∨ v.ownBlock = some k
theorem NetInv.below {w w' : World} {B X h s : Nat} {v : Value} {L : List Pk} (hn : NetInv w B X v h L s) (hb : Below w.heap.size w w') : NetInv w' B X v h L s :=
  ⟨hn.base, hn.mem.below hb hn.mem.lt, owns_below hn.row hb, fun p hp => (hn.data p hp).below hb, hn.few⟩
theorem mem_tag {w : World} {g t : Nat} {cs : Array Value} (h : Mem w g t cs) : Tag w g t := ⟨_, _, h⟩
theorem NetInv.eff {S : Nat → Prop} {w w' : World} {B X h s : Nat} {v : Value} {L : List Pk} (hn : NetInv w B X v h L s) (hb : Eff S w w') (h1 : ¬ S X) (h2 : ∀ k, v.ownBlock = some k → ¬ S k) (h3 : ∀ k, k < w.heap.size → S k → ¬ Tag w k 5) : NetInv w' B X v h L s :=
  ⟨hn.base, (hb.block X hn.mem.lt h1).trans hn.mem, owns_eff hn.row hb h2, fun p hp => (hn.data p hp).eff hb h3, hn.few⟩
theorem Tag.not {w : World} {k t u : Nat} (h : Tag w k t) (hn : t ≠ u) : ¬ Tag w k u := fun g => h.ne g hn rfl
theorem NetInv.ns {w : World} {B X h s : Nat} {v : Value} {L : List Pk} (hn : NetInv w B X v h L s) : ∀ k, NS X v k → k < w.heap.size ∧ B ≤ k ∧ (Tag w k 58 ∨ Tag w k 41) := by
  rintro k (rfl | hk)
  · exact ⟨hn.mem.lt, hn.base, .inl (mem_tag hn.mem)⟩
  · have := own_tag hn.row k hk
    exact ⟨this.2.1, this.1, .inr this.2.2⟩
theorem NetInv.nodata {w : World} {B X h s : Nat} {v : Value} {L : List Pk} (hn : NetInv w B X v h L s) : ∀ k, NS X v k → ¬ Tag w k 5 := fun k hk => by
  rcases (hn.ns k hk).2.2 with h | h
  · exact h.not (by decide)
  · exact h.not (by decide)
theorem NetInv.apart {w : World} {B X h s : Nat} {v : Value} {L : List Pk} (hn : NetInv w B X v h L s) : v.ownBlock ≠ some X := fun hk => (own_tag hn.row X hk).2.2.ne (mem_tag hn.mem) (by decide) rfl
theorem own_form {w : World} {B e sz : Nat} {v : Value} {n : Nat} {xs : List Value} (h : w.ownsRow B e sz v n xs) : ∃ A c, v = .slice A n c ∧ n ≤ c ∧ c ≤ maxLen := by
  rcases h.2 with ⟨rfl, rfl⟩ | ⟨g, cap, cur, rfl, _, _, h1, h2, _⟩
  · exact ⟨none, 0, rfl, Nat.le_refl _, by unfold maxLen; omega⟩
  · exact ⟨_, cap, rfl, h1, h2⟩
theorem NetInv.parts {w : World} {B X h s : Nat} {v : Value} {L : List Pk} (hn : NetInv w B X v h L s) : ∃ A c, v = .slice A L.length c ∧ L.length ≤ c ∧ c ≤ 9223372036854775807 := by
  obtain ⟨A, c, rfl, h4, h5⟩ := own_form hn.row
  exact ⟨A, c, rfl, h4, by unfold maxLen at h5; omega⟩
theorem netnew_any (n : Nat) (h1 : 1 ≤ n) (h2 : n ≤ 64) (w : World) : Calls Try.prog 11 #[.int .i64 (n : Nat)] w fun e w' => e = .returned (.tuple #[.pointer (some ⟨w.heap.size, 0, none⟩), .int .i64 0]) ∧ NetInv w' w.heap.size w.heap.size (.slice none 0 0) n [] 0 ∧ Below w.heap.size w w' := by
  have d1 : decide ((n : Int) < 1) = false := decide_eq_false (by omega)
  have d2 : decide ((64 : Int) < (n : Int)) = false := decide_eq_false (by omega)
  go_enter Try.func11, Try.ntmps11
  go_wp2
  go_ret2
  exact ⟨rfl, ⟨Nat.le_refl _, Mem.new w _ _, World.ownsRow_nil _ _ _ _, by simp, by simp⟩, (Below.refl _ _).alloc (Nat.le_refl _) _⟩
theorem host_any (B X h s : Nat) (v : Value) (L : List Pk) (n : Int) (w : World) (hn : NetInv w B X v h L s) : Calls Try.prog 32 #[.pointer (some ⟨X, 0, none⟩), .int .i64 n] w fun e w' => e = .returned (.bool (decide (0 ≤ n ∧ n < h))) ∧ w = w' := by
  obtain ⟨A, c, rfl, _, _⟩ := hn.parts
  have h1 := hn.mem
  have x0 : w.cell? ⟨X, 0, none⟩ = some (.int .i64 (h : Nat)) := h1.cell 0
  rcases Int.lt_or_le n 0 with h0 | h0
  · have hd : decide (0 ≤ n ∧ n < (h : Int)) = false := decide_eq_false (by omega)
    rw [hd]
    have d1 : decide (0 ≤ n) = false := decide_eq_false (by omega)
    go_enter Try.func32, Try.ntmps32
    go_wp2
    all_goals go_ret
    all_goals exact ⟨rfl, rfl⟩
  · have hd : decide (0 ≤ n ∧ n < (h : Int)) = decide (n < (h : Int)) := by rw [decide_eq_decide]; omega
    rw [hd]
    have d1 : decide (0 ≤ n) = true := decide_eq_true h0
    go_enter Try.func32, Try.ntmps32
    go_wp2
    all_goals go_ret
    all_goals exact ⟨rfl, rfl⟩
theorem has_any (B X h s : Nat) (v : Value) (L : List Pk) (n : Int) (w : World) (hn : NetInv w B X v h L s) : Calls Try.prog 30 #[.pointer (some ⟨X, 0, none⟩), .int .i64 n] w fun e w' => e = .returned (.bool (decide (0 ≤ n ∧ n < L.length))) ∧ w = w' := by
  obtain ⟨A, c, rfl, _, _⟩ := hn.parts
  have h1 := hn.mem
  have x1 : w.cell? ⟨X, 1, none⟩ = some (.slice A L.length c) := h1.cell 1
  rcases Int.lt_or_le n 0 with h0 | h0
  · have hd : decide (0 ≤ n ∧ n < (L.length : Int)) = false := decide_eq_false (by omega)
    rw [hd]
    have d1 : decide (0 ≤ n) = false := decide_eq_false (by omega)
    go_enter Try.func30, Try.ntmps30
    go_wp2
    all_goals go_ret
    all_goals exact ⟨rfl, rfl⟩
  · have hd : decide (0 ≤ n ∧ n < (L.length : Int)) = decide (n < (L.length : Int)) := by rw [decide_eq_decide]; omega
    rw [hd]
    have d1 : decide (0 ≤ n) = true := decide_eq_true h0
    go_enter Try.func30, Try.ntmps30
    go_wp2
    all_goals go_ret
    all_goals exact ⟨rfl, rfl⟩
theorem waiting_any (B X h s : Nat) (v : Value) (L : List Pk) (w : World) (hn : NetInv w B X v h L s) : Calls Try.prog 14 #[.pointer (some ⟨X, 0, none⟩)] w fun e w' => e = .returned (.int .i64 (L.length : Nat)) ∧ w = w' := by
  obtain ⟨A, c, rfl, _, _⟩ := hn.parts
  have h1 := hn.mem
  have x1 : w.cell? ⟨X, 1, none⟩ = some (.slice A L.length c) := h1.cell 1
  go_enter Try.func14, Try.ntmps14
  go_wp2
  all_goals go_ret
  all_goals exact ⟨rfl, rfl⟩
theorem sent_any (B X h s : Nat) (v : Value) (L : List Pk) (w : World) (hn : NetInv w B X v h L s) : Calls Try.prog 15 #[.pointer (some ⟨X, 0, none⟩)] w fun e w' => e = .returned (.int .i64 (s : Nat)) ∧ w = w' := by
  obtain ⟨A, c, rfl, _, _⟩ := hn.parts
  have h1 := hn.mem
  have x1 : w.cell? ⟨X, 2, none⟩ = some (.int .i64 (s : Nat)) := h1.cell 2
  go_enter Try.func15, Try.ntmps15
  go_wp2
  all_goals go_ret
  all_goals exact ⟨rfl, rfl⟩
end Go.Proofs.Ytmlimmcaidkoeaa
