/- Package ring: what lies in memory: rows that begin anywhere in their block; a ring. -/
import Derived.Test.YtpfackjnnkjjdaaRg3
import Derived.Test.YtpfackjnnkjjdaaRg4
import Derived.Test.YtpfackjnnkjjdaaRg5
import Derived.Test.YtpfackjnnkjjdaaDk9
namespace Go.Proofs.Ytpfackjnnkjjdaa
open Go.ChangeShapes Go.WideShapes Go.ChangeAt Go.RowKit Go.Lib
set_option linter.unusedVariables false
set_option linter.unusedSimpArgs false
/-- A row of one-cell elements that begins anywhere in its block, of the blocks O. -/
def RowO (w : World) (O : Nat → Prop) (e : TypeId) (v : Value) (n : Nat) (xs : List Value) : Prop :=
  xs.length = n ∧ ((v = .slice none 0 0 ∧ n = 0) ∨ ∃ g off c cs, v = .slice (some ⟨g, off, none⟩) n c ∧ Mem w g e cs ∧ O g ∧ n ≤ c ∧ c ≤ maxLen ∧ off + c ≤ cs.size ∧ ∀ j u, xs[j]? = some u → cs[off + j]? = some u)
section
variable {w w' : World} {O O' S : Nat → Prop} {e n : Nat} {v : Value} {xs : List Value}
theorem RowO.nil_ (w : World) (O : Nat → Prop) (e : TypeId) : RowO w O e (.slice none 0 0) 0 [] := ⟨rfl, .inl ⟨rfl, rfl⟩⟩
theorem RowO.eff (h : RowO w O e v n xs) (he : Eff S w w') (hS : ∀ k, v.ownBlock = some k → ¬ S k) : RowO w' O e v n xs := by
  refine ⟨h.1, h.2.imp id ?_⟩
  rintro ⟨g, off, c, cs, rfl, h1, h2⟩
  exact ⟨g, off, c, cs, rfl, h1.eff he (hS g rfl), h2⟩
theorem RowO.below (h : RowO w O e v n xs) (hb : Below w.heap.size w w') : RowO w' O e v n xs := h.eff (Eff.of (S := fun _ => False) hb) fun _ _ hf => hf
theorem RowO.more (h : RowO w O e v n xs) (hO : ∀ k, O k → O' k) : RowO w O' e v n xs := by
  refine ⟨h.1, h.2.imp id ?_⟩
  rintro ⟨g, off, c, cs, rfl, h1, h2, h3⟩
  exact ⟨g, off, c, cs, rfl, h1, hO g h2, h3⟩
theorem RowO.form (h : RowO w O e v n xs) : ∃ A c, v = .slice A n c ∧ n ≤ c ∧ c ≤ maxLen := by
  rcases h.2 with ⟨rfl, h0⟩ | ⟨g, off, c, cs, rfl, _, _, h1, h2, _⟩
  · exact ⟨none, 0, by rw [h0], by omega, by simp⟩
  · exact ⟨_, c, rfl, h1, h2⟩
theorem RowO.tag (h : RowO w O e v n xs) {k : Nat} (hk : v.ownBlock = some k) : Tag w k e := by
  rcases h.2 with ⟨rfl, h0⟩ | ⟨g, off, c, cs, rfl, h1, _⟩
  · cases hk
  · obtain rfl := Option.some.inj hk
    exact mem_tag h1
theorem RowO.lt (h : RowO w O e v n xs) {k : Nat} (hk : v.ownBlock = some k) : k < w.heap.size := by
  rcases h.2 with ⟨rfl, h0⟩ | ⟨g, off, c, cs, rfl, h1, _⟩
  · cases hk
  · obtain rfl := Option.some.inj hk
    exact h1.lt
theorem RowO.own (h : RowO w O e v n xs) {k : Nat} (hk : v.ownBlock = some k) : O k := by
  rcases h.2 with ⟨rfl, h0⟩ | ⟨g, off, c, cs, rfl, _, h1, _⟩
  · cases hk
  · obtain rfl := Option.some.inj hk
    exact h1
theorem RowO.at_ (h : RowO w O e v n xs) (hn : 0 < n) : ∃ g off c, v = .slice (some ⟨g, off, none⟩) n c ∧ n ≤ c ∧ c ≤ maxLen ∧ O g ∧ g < w.heap.size ∧ Tag w g e ∧ ∀ k u, xs[k]? = some u → w.cell? ⟨g, off + k, none⟩ = some u := by
  rcases h.2 with ⟨rfl, h0⟩ | ⟨g, off, c, cs, rfl, h1, h2, h3, h4, h5, h6⟩
  · omega
  · exact ⟨g, off, c, rfl, h3, h4, h2, h1.lt, mem_tag h1, fun k u hk => (h1.cell (off + k)).trans (h6 k u hk)⟩
/-- The rest behind the first one. -/
theorem RowO.tail {g off c : Nat} (h : RowO w O e (.slice (some ⟨g, off, none⟩) n c) n xs) (hn : 0 < n) (m d : Nat) (hm : m + 1 = n) (hd : d + 1 = c) (off' : Nat) (ho : off' = off + 1 ∨ d = 0 ∧ off' = off) : RowO w O e (.slice (some ⟨g, off', none⟩) m d) m xs.tail := by
  obtain ⟨h0, h1⟩ := h
  refine ⟨by rw [List.length_tail]; omega, .inr ?_⟩
  rcases h1 with ⟨hv, _⟩ | ⟨g', o', c', cs, hv, h1, h2, h3, h4, h5, h6⟩
  · cases hv
  simp only [Value.slice.injEq, Option.some.injEq, Addr.mk.injEq, and_true, true_and] at hv
  obtain ⟨⟨rfl, rfl⟩, rfl⟩ := hv
  refine ⟨g, off', d, cs, rfl, h1, h2, by omega, by omega, by omega, fun j u hu => ?_⟩
  rw [List.getElem?_tail] at hu
  rcases ho with rfl | ⟨hd0, _⟩
  · rw [Nat.add_assoc, Nat.add_comm 1 j]
    exact h6 (j + 1) u hu
  · have := (List.getElem?_eq_some_iff.1 hu).1
    omega
end
section
variable {P : Program} (w : World)
/-- One more. -/
theorem run_append_ro (t ty e : TypeId) (i : TypeInfo) (z : Value) (bytes : Nat) (ht : P.underlying t = some (.slice e)) (hi : P.info? e = some i) (hz : i.zero = some z) (hsize : i.size = 1) (hby : i.bytes = bytes) (hzs : z.cells.size = 1)
    {O : Nat → Prop} (v : Value) (n : Nat) (xs : List Value) (h : RowO w O e v n xs) (gx c : Nat) (u : Value) (hu : Mem w gx e #[u]) (h1 : u.oneCell' = true) (h63 : n + 1 ≤ 1000000) (hb : bytes ≤ 1000) :
    ∃ v' w', (Builtin.append_ #[t, t] ty #[v, .slice (some ⟨gx, 0, none⟩) 1 c]).run P w = .ok v' w' ∧ RowO w' (fun k => O k ∨ k = w.heap.size) e v' (n + 1) (xs ++ [u]) ∧ Eff (fun k => v.ownBlock = some k) w w' ∧ (v'.ownBlock = v.ownBlock ∨ v'.ownBlock = some w.heap.size) ∧ ∃ g off d, v' = .slice (some ⟨g, off, none⟩) (n + 1) d := by
  have hc1 : ∀ j x, [u][j]? = some x → w.cell? ((⟨gx, 0, none⟩ : Addr).add j) = some x := Dk.cells_one hu
  have hbm : ∀ m, m ≤ 1000000 → m * i.bytes ≤ 140737488355328 := fun m hm => by
    rw [hby]
    exact Nat.le_trans (Nat.mul_le_mul hm hb) (by decide)
  have hlen : (xs ++ [u]).length = n + 1 := by rw [List.length_append, h.1]; rfl
  have grown : ∀ (old : Nat), old < n + 1 → RowO (w.drew.alloc (.cells (xs.toArray ++ [u].toArray ++ Builtin.zeroCells z.cells (grownCap w (n + 1) old e - (n + 1))) e)) (fun k => O k ∨ k = w.heap.size) e (.slice (some ⟨w.heap.size, 0, none⟩) (n + 1) (grownCap w (n + 1) old e)) (n + 1) (xs ++ [u]) ∧ Eff (fun k => v.ownBlock = some k) w (w.drew.alloc (.cells (xs.toArray ++ [u].toArray ++ Builtin.zeroCells z.cells (grownCap w (n + 1) old e - (n + 1))) e)) := by
    intro old ho
    have hge := grownCap_ge w (n + 1) old e
    have hcm : grownCap w (n + 1) old e ≤ maxLen := grownCap_le_maxLen w (n + 1) old e (by unfold maxLen; omega)
    refine ⟨⟨hlen, .inr ⟨w.heap.size, 0, _, _, rfl, Mem.new w.drew _ _, .inr rfl, hge, hcm, ?_, fun j x hx => ?_⟩⟩, Eff.of (((Below.refl _ _).drew).alloc (Nat.le_refl _) _)⟩
    · simp only [Array.size_append, List.size_toArray, size_zeroCells, hzs, h.1, List.length_singleton, Nat.mul_one]
      omega
    · rw [Nat.zero_add, Array.getElem?_append_left (by simp only [Array.size_append, List.size_toArray, h.1, List.length_singleton]; have := (List.getElem?_eq_some_iff.1 hx).1; omega), List.append_toArray, List.getElem?_toArray]
      exact hx
  rcases h.2 with ⟨rfl, rfl⟩ | ⟨g, off, c', cs, rfl, h2, h3, h4, h5, h6, h7⟩
  · have hr := run_append_nil (P := P) w t ty e i z ht hi hz ⟨gx, 0, none⟩ 1 c [u] (by simp [hsize]) hc1 (by omega) (by omega) (by have := hbm 1 (by omega); omega)
    have hx : xs = [] := List.eq_nil_of_length_eq_zero h.1
    obtain ⟨k1, k2⟩ := grown 0 (by omega)
    subst hx
    simp only [List.nil_append, Nat.zero_add] at k1 k2 hr ⊢
    have e0 : (#[] : Array Value) ++ [u].toArray = [u].toArray := by simp
    rw [show ([] : List Value).toArray = #[] from rfl, e0] at k1 k2
    exact ⟨_, _, hr, k1, k2, .inr rfl, _, _, _, rfl⟩
  · by_cases hroom : n + 1 ≤ c'
    · have hg : w.heap[g]? = some (.cells cs e (0, 0)) := h2
      have hst := run_storeCells_at P g (off + n) e [u] 0 cs w hg (by simp; omega) (by simpa using h1)
      have hf := run_firstCells_some (P := P) w i.size 1 ⟨gx, 0, none⟩ 1 c [u] (by simp [hsize]) hc1
      simp only [Nat.add_zero] at hst
      have hr : (Builtin.append_ #[t, t] ty #[.slice (some ⟨g, off, none⟩) n c', .slice (some ⟨gx, 0, none⟩) 1 c]).run P w = .ok (.slice (some ⟨g, off, none⟩) (n + 1) c') (w.setRow g (cs.toList.take (off + n) ++ [u] ++ cs.toList.drop (off + n + [u].length)).toArray) := by
        rw [hsize] at hf
        simp [Builtin.append_, run_underlying ht, sizeOf, typeInfo, hi, hsize, Builtin.lenOf, hroom, hf, Addr.add_lit, hst]
      refine ⟨_, _, hr, ⟨hlen, .inr ⟨g, off, c', _, rfl, h2.row _, .inl h3, hroom, h5, ?_, fun j x hx => ?_⟩⟩, ?_, .inl rfl, _, _, _, rfl⟩
      · have hsz : cs.toList.length = cs.size := by simp
        simp only [List.size_toArray, List.length_append, List.length_take, List.length_drop, List.length_singleton, hsz]
        omega
      · have hsz : cs.toList.length = cs.size := by simp
        have hjl := (List.getElem?_eq_some_iff.1 hx).1
        have hxl := h.1
        rw [List.getElem?_toArray, List.append_assoc]
        by_cases hj : j < n
        · rw [List.getElem?_append_left (by omega)] at hx
          rw [List.getElem?_append_left (by rw [List.length_take]; omega), List.getElem?_take, if_pos (by omega), Array.getElem?_toList]
          exact h7 j x hx
        · obtain rfl : j = n := by omega
          rw [List.getElem?_append_right (by omega), h.1, Nat.sub_self] at hx
          rw [List.getElem?_append_right (by rw [List.length_take]; omega), List.length_take, hsz, Nat.min_eq_left (by omega), Nat.sub_self]
          exact hx
      · have hk := keeps_setRow (w := w) g (cs.toList.take (off + n) ++ [u] ++ cs.toList.drop (off + n + [u].length)).toArray
        exact ⟨hk.os, hk.tape, hk.output, hk.size, fun k hkl hn => hk.block k hkl fun e => hn (by rw [e]; rfl)⟩
    · have hr := run_append_grow (P := P) w t ty e i z ht hi hz ⟨g, off, none⟩ n c' xs (by rw [h.1, hsize, Nat.mul_one]) (fun j x hx => by rw [add_plain]; exact (h2.cell (off + j)).trans (h7 j x hx)) ⟨gx, 0, none⟩ 1 c [u] (by simp [hsize]) hc1 (by omega) (by omega) (growslice_fits (by omega) (hbm _ h63))
      obtain ⟨k1, k2⟩ := grown c' (by omega)
      exact ⟨_, _, hr, k1, k2, .inr rfl, _, _, _, rfl⟩
theorem wpList_append_ro {ops : Array Oper} {rest : List Oper} {o : Oper} {a : Act} {Q : Exit → Act → World → Prop} (hgd : o.guard = none) (s x : Operand) (t : TypeId)
    (ho : o.op = .call { callee := .builtin .append, args := #[s, x], argTypes := #[t, t] }) (e : TypeId) (i : TypeInfo) (z : Value) (bytes : Nat) (ht : P.underlying t = some (.slice e)) (hi : P.info? e = some i) (hz : i.zero = some z) (hsize : i.size = 1) (hby : i.bytes = bytes) (hzs : z.cells.size = 1)
    {O : Nat → Prop} (v : Value) (n : Nat) (xs : List Value) (hs : a.eval s = v) (hown : RowO w O e v n xs) (gx c : Nat) (u : Value) (hx : a.eval x = .slice (some ⟨gx, 0, none⟩) 1 c) (hu : Mem w gx e #[u]) (h1 : u.oneCell' = true) (h63 : n + 1 ≤ 1000000) (hb : bytes ≤ 1000)
    (h : ∀ v' w', RowO w' (fun k => O k ∨ k = w.heap.size) e v' (n + 1) (xs ++ [u]) → Eff (fun k => v.ownBlock = some k) w w' → (v'.ownBlock = v.ownBlock ∨ v'.ownBlock = some w.heap.size) → (∃ g off d, v' = .slice (some ⟨g, off, none⟩) (n + 1) d) → wpList P ops Q rest (a.put o.dst v') w') : wpList P ops Q (o :: rest) a w := by
  obtain ⟨v', w', hr, h2, h3, h4, h5⟩ := run_append_ro (P := P) w t o.type e i z bytes ht hi hz hsize hby hzs v n xs hown gx c u hu h1 h63 hb
  refine wpList_plain hgd fun K hK => ?_
  unfold Oper.wp execOp
  simp only [ho, resolve, invoke, builtin, Sem.run_bind, Sem.run_pure, Result.andThen_ok, List.map_toArray, List.map_cons, List.map_nil, hs, hx, hr]
  exact hK _ _ (h v' w' h2 h3 h4 h5)
end
namespace Rg
open Crc Dk
/-- A ring's state. -/
structure RS where
  at_ : Nat
  n : Nat
  life : Nat
  first : Nat
  place : Nat
  recs : List (List UInt8)
  used : Nat
def RS.row (T : RS) (X : Nat) (rv : Value) : Array Value := #[.pointer (some ⟨X, 0, none⟩), .int .i64 (T.at_ : Nat), .int .i64 (T.n : Nat), .int .u32 (T.life : Nat), .int .u64 (T.first : Nat), .int .i64 (T.place : Nat), rv, .int .i64 (T.used : Nat)]
/-- A ring in block Y, of the blocks R. -/
structure RgM (w : World) (Y X : Nat) (R : Nat → Prop) (T : RS) (rv : Value) (D : List Value) : Prop where
  ry : R Y
  lt : ∀ k, R k → k < w.heap.size
  mem : Mem w Y 101 (T.row X rv)
  row : RowO w R 34 rv T.recs.length D
  dat : ∀ (j : Nat) (u : Value) (l : List UInt8), D[j]? = some u → T.recs[j]? = some l → OwnR w R 5 u l.length (bs l)
/-- Its numbers. -/
structure RS.Ok (T : RS) (N : Nat) : Prop where
  n2 : 2 ≤ T.n
  fit : T.at_ + T.n ≤ N
  pl : T.place < T.n
  us : T.used ≤ T.n
  few : T.recs.length ≤ 4096
  long : ∀ l ∈ T.recs, l.length ≤ 32768
  lf : T.life ≤ 1000000
  fs : T.first ≤ 1000000
section
variable {w w' : World} {Y X : Nat} {R R' S : Nat → Prop} {T T' : RS} {rv : Value} {D : List Value}
theorem RgM.eff (h : RgM w Y X R T rv D) (he : Eff S w w') (hS : ∀ k, k < w.heap.size → R k → ¬ S k) : RgM w' Y X R T rv D :=
  ⟨h.ry, fun k hk => Nat.lt_of_lt_of_le (h.lt k hk) he.size, h.mem.eff he (hS Y h.mem.lt h.ry), h.row.eff he fun k hk => hS k (h.row.lt hk) (h.row.own hk), fun j u l hu hl => (h.dat j u l hu hl).eff he fun k hk => hS k ((h.dat j u l hu hl).lt hk) ((h.dat j u l hu hl).own k hk)⟩
theorem RgM.below (h : RgM w Y X R T rv D) (hb : Below w.heap.size w w') : RgM w' Y X R T rv D := h.eff (Eff.of (S := fun _ => False) hb) fun _ _ _ hf => hf
theorem RgM.more (h : RgM w Y X R T rv D) (hR : ∀ k, R k → R' k) (hl : ∀ k, R' k → k < w.heap.size) : RgM w Y X R' T rv D := ⟨hR _ h.ry, hl, h.mem, h.row.more hR, fun j u l hu hl => (h.dat j u l hu hl).more hR⟩
theorem RgM.noY (h : RgM w Y X R T rv D) {k t : Nat} (hk : Tag w k t) (ht : t ≠ 101) : ¬ k = Y := fun e => hk.ne (mem_tag h.mem) ht e
/-- A store into the ring's own cells. -/
theorem RgM.setY (h : RgM w Y X R T rv D) (i : Nat) (u : Value) (hm : (T.row X rv).setIfInBounds i u = T'.row X rv) (hr : T'.recs = T.recs) : RgM (w.setCell ⟨Y, i, none⟩ u) Y X R T' rv D := by
  have he := effX Y i w u
  refine ⟨h.ry, fun k hk => Nat.lt_of_lt_of_le (h.lt k hk) he.size, hm ▸ h.mem.put i u, ?_, ?_⟩
  · rw [hr]; exact h.row.eff he fun k hk => h.noY (h.row.tag hk) (by decide)
  · rw [hr]; exact fun j u l hu hl => (h.dat j u l hu hl).eff he fun k hk => h.noY ((h.dat j u l hu hl).tag hk) (by decide)
/-- A store of the records' row. -/
theorem RgM.setV (h : RgM w Y X R T rv D) (v : Value) {D' : List Value} {L : List (List UInt8)} (hv : RowO w R 34 v L.length D') (hd : ∀ (j : Nat) (u : Value) (l : List UInt8), D'[j]? = some u → L[j]? = some l → OwnR w R 5 u l.length (bs l)) : RgM (w.setCell ⟨Y, 6, none⟩ v) Y X R { T with recs := L } v D' := by
  have he := effX Y 6 w v
  refine ⟨h.ry, fun k hk => Nat.lt_of_lt_of_le (h.lt k hk) he.size, h.mem.put 6 v, ?_, ?_⟩
  · exact hv.eff he fun k hk => h.noY (hv.tag hk) (by decide)
  · exact fun j u l hu hl => (hd j u l hu hl).eff he fun k hk => h.noY ((hd j u l hu hl).tag hk) (by decide)
/-- A record more. -/
theorem RgM.push (h : RgM w Y X R T rv D) {W : World} {v' u : Value} {l : List UInt8} (he : Eff (fun k => rv.ownBlock = some k) w W) (hu : W.ownsRow w.heap.size 5 1 u l.length (bs l)) (hr : RowO W (fun k => R k ∨ w.heap.size ≤ k) 34 v' (T.recs.length + 1) (D ++ [u])) :
    RgM (W.setCell ⟨Y, 6, none⟩ v') Y X (OM R w W) { T with recs := T.recs ++ [l] } v' (D ++ [u]) ∧ Eff R w (W.setCell ⟨Y, 6, none⟩ v') ∧ W.cell? ⟨Y, 6, none⟩ = some rv ∧ W.frozen? ⟨Y, 6, none⟩ = false := by
  have hs : w.heap.size ≤ W.heap.size := he.size
  have hno : ∀ {k t : Nat}, Tag w k t → t ≠ 34 → ¬ rv.ownBlock = some k := fun hk h1 e => hk.ne (h.row.tag e) h1 rfl
  have hlt : ∀ k, OM R w W k → k < W.heap.size := by
    rintro k (hk | hk)
    · exact Nat.lt_of_lt_of_le (h.lt k hk) hs
    · exact hk.2
  have hm2 := h.mem.eff he (hno (mem_tag h.mem) (by decide))
  have hrow : RowO W (OM R w W) 34 v' (T.recs.length + 1) (D ++ [u]) := by
    obtain ⟨r1, r2⟩ := hr
    refine ⟨r1, r2.imp id ?_⟩
    rintro ⟨g, off, c, cs, e, h1, h2, h3⟩
    exact ⟨g, off, c, cs, e, h1, h2.imp id fun h => ⟨h, h1.lt⟩, h3⟩
  have hDl : D.length = T.recs.length := h.row.1
  have hdat : ∀ (j : Nat) (x : Value) (m : List UInt8), (D ++ [u])[j]? = some x → (T.recs ++ [l])[j]? = some m → OwnR W (OM R w W) 5 x m.length (bs m) := by
    intro j x m hx hm
    by_cases hj : j < T.recs.length
    · rw [List.getElem?_append_left (by omega)] at hx
      rw [List.getElem?_append_left (by omega)] at hm
      have hd := h.dat j x m hx hm
      exact (hd.eff he fun k hk => hno (hd.tag hk) (by decide)).more fun k hk => .inl hk
    · have hj2 : j = T.recs.length := by
        have := (List.getElem?_eq_some_iff.1 hm).1
        simp at this
        omega
      rw [List.getElem?_append_right (by omega), show j - D.length = 0 by omega] at hx
      rw [List.getElem?_append_right (by omega), show j - T.recs.length = 0 by omega] at hm
      simp at hx hm
      subst hx hm
      exact ⟨owns_mono hu (Nat.zero_le _), fun k hk => .inr ⟨(own_tag hu k hk).1, (own_tag hu k hk).2.1⟩⟩
  have heX := effX Y 6 W v'
  have hXm : ∀ {k t : Nat}, Tag W k t → t ≠ 101 → ¬ k = Y := fun hk h1 e => hk.ne (mem_tag hm2) h1 e
  refine ⟨⟨.inl h.ry, fun k hk => Nat.lt_of_lt_of_le (hlt k hk) heX.size, hm2.put 6 v', ?_, ?_⟩, ?_, hm2.cell 6, hm2.free 6⟩
  · have := hrow.eff heX fun k hk => hXm (hrow.tag hk) (by decide)
    show RowO _ _ _ v' (T.recs ++ [l]).length _
    rw [List.length_append]
    exact this
  · exact fun j x m hx hm => (hdat j x m hx hm).eff heX fun k hk => hXm ((hdat j x m hx hm).tag hk) (by decide)
  · exact effOX (he.mono fun k _ hk => h.row.own hk) h.ry
end
theorem _root_.Go.Proofs.Ytpfackjnnkjjdaa.Dk.Dsk.effN {o w w' : World} {X : Nat} {O : Nat → Prop} {S : DS} {T : Nat → Prop} (h : Dsk o w X O S) (he : Eff T w w') (hT : ∀ k, k < w.heap.size → O k → ¬ T k) (hb : ∀ k, k < w.heap.size → T k → o.heap.size ≤ k) : Dsk o w' X O S := ⟨h.is.imp fun V hv => hv.effO he hT, h.fine, h.from_, he.below h.bl h.bl.size hb⟩
/-- A ring and its disk, made since o. -/
structure Rng (o w : World) (X : Nat) (O : Nat → Prop) (S : DS) (Y : Nat) (R : Nat → Prop) (T : RS) : Prop where
  dsk : Dsk o w X O S
  is : ∃ rv D, RgM w Y X R T rv D
  ok : T.Ok S.last.length
  from_ : ∀ k, R k → o.heap.size ≤ k
  no : ∀ k, R k → ¬ O k
theorem Rng.below {o w w' : World} {X Y : Nat} {O R : Nat → Prop} {S : DS} {T : RS} (h : Rng o w X O S Y R T) (hb : Below w.heap.size w w') : Rng o w' X O S Y R T := by
  obtain ⟨rv, D, hm⟩ := h.is
  exact ⟨h.dsk.below hb, ⟨rv, D, hm.below hb⟩, h.ok, h.from_, h.no⟩
end Rg
end Go.Proofs.Ytpfackjnnkjjdaa
