/- Plain facts about byte slices in memory and about the last step of a law: no program is named here. -/
import Derived.Below
import Derived.Laws.OwnMore
import Derived.Laws.BytesArg
import Derived.Deep.Draws
import Derived.Maps.AppendAt
import Derived.Laws.Tables
import Derived.OwnWalk
import Derived.RegionTactic
import Derived.WalkKit
import Derived.ProofKit
import Derived.OpenShut
import Derived.Carry
namespace Go.Proofs.Ytflodljccloobaa
open Go.ChangeShapes Go.WideShapes Go.ChangeAt Go.RowKit

/-- The bytes of a list, as cells. -/
def bs (l : List UInt8) : List Value := l.map fun x => Value.int .u8 (x.toNat : Int)
@[simp] theorem bs_len (l : List UInt8) : (bs l).length = l.length := by simp [bs]
theorem bs_app (a b : List UInt8) : bs (a ++ b) = bs a ++ bs b := by simp [bs]
theorem bs_get {l : List UInt8} {i : Nat} (h : i < l.length) : (bs l)[i]? = some (.int .u8 ((l[i]).toNat : Int)) := by simp [bs, h]
theorem bs_nil : bs [] = [] := rfl
theorem bs_one {l : List UInt8} : ∀ u ∈ bs l, u.oneCell' = true := by
  intro u hu
  simp only [bs, List.mem_map] at hu
  obtain ⟨x, _, rfl⟩ := hu
  rfl
theorem bs_inj {a b : List UInt8} (h : bs a = bs b) : a = b := by
  unfold bs at h
  refine (List.map_inj_right ?_).1 h
  intro x y e
  injection e with _ e
  exact UInt8.toNat_inj.1 (by omega)

/-- The slice value v shows the n cells xs, in blocks below B. -/
def Sl (w : World) (B : Nat) (v : Value) (n : Nat) (xs : List Value) : Prop :=
  xs.length = n ∧ ∃ A c, v = .slice A n c ∧ n ≤ c ∧ c ≤ maxLen ∧
    (xs ≠ [] → ∃ b off, A = some ⟨b, off, none⟩ ∧ b < B ∧ ∀ j u, xs[j]? = some u → w.cell? ⟨b, off + j, none⟩ = some u)

section
variable {w w' : World} {B B' : Nat} {v : Value} {n : Nat} {xs : List Value}
theorem Sl.keep (h : Sl w B v n xs) (hk : ∀ b o, b < B → w'.cell? ⟨b, o, none⟩ = w.cell? ⟨b, o, none⟩) : Sl w' B v n xs := by
  obtain ⟨hl, A, c, e, h1, h2, h3⟩ := h
  refine ⟨hl, A, c, e, h1, h2, fun hx => ?_⟩
  obtain ⟨b, off, ea, hb, hc⟩ := h3 hx
  exact ⟨b, off, ea, hb, fun j u hu => (hk b _ hb).trans (hc j u hu)⟩
theorem Sl.more (h : Sl w B v n xs) (hB : B ≤ B') : Sl w B' v n xs := by
  obtain ⟨hl, A, c, e, h1, h2, h3⟩ := h
  refine ⟨hl, A, c, e, h1, h2, fun hx => ?_⟩
  obtain ⟨b, off, ea, hb, hc⟩ := h3 hx
  exact ⟨b, off, ea, by omega, hc⟩
theorem Sl.below (h : Sl w B v n xs) (hb : Below B w w') : Sl w' B v n xs := h.keep fun b o hl => hb.cell (p := ⟨b, o, none⟩) hl
theorem Sl.drewN (h : Sl w B v n xs) (k : Nat) : Sl (w.drewN k) B v n xs := h
theorem Sl.drew (h : Sl w B v n xs) : Sl w.drew B v n xs := h
theorem Sl.alloc (h : Sl w B v n xs) (hB : B ≤ w.heap.size) (o : Obj) : Sl (w.alloc o) B v n xs := h.keep fun b _ hl => World.cell?_alloc_lt w o _ (show b < _ by omega)
theorem Sl.len_le (h : Sl w B v n xs) : n ≤ maxLen := by
  obtain ⟨hl, A, c, e, h1, h2, _⟩ := h
  omega
theorem Sl.len_eq (h : Sl w B v n xs) : xs.length = n := h.1
theorem Sl.nil_ : Sl w B (.slice none 0 0) 0 [] := ⟨rfl, none, 0, rfl, by simp, by simp, fun h => absurd rfl h⟩
theorem Sl.form (h : Sl w B v n xs) : ∃ A c, v = .slice A n c ∧ n ≤ c ∧ c ≤ maxLen := by
  obtain ⟨_, A, c, e, h1, h2, _⟩ := h
  exact ⟨A, c, e, h1, h2⟩
/-- A cell of it: for the walk's index. -/
theorem Sl.at_ {A : Option Addr} {c : Nat} (h : Sl w B (.slice A n c) n xs) (hn : 0 < n) : ∃ b off, A = some ⟨b, off, none⟩ ∧ b < B ∧ ∀ j u, xs[j]? = some u → w.cell? ⟨b, off + j, none⟩ = some u := by
  obtain ⟨hl, A', c', e, h1, h2, h3⟩ := h
  injection e with e1 e2 e3
  subst e1
  exact h3 (by rintro rfl; simp at hl; omega)
theorem Sl.of_own {base e : Nat} {n : Nat} (h : w.ownsRow base e 1 v n xs) : Sl w w.heap.size v n xs := by
  obtain ⟨hl, hc | ⟨g, cap, cur, rfl, hb, hg, hn, hm, hs, ht⟩⟩ := h
  · obtain ⟨rfl, rfl⟩ := hc
    obtain rfl : xs = [] := List.eq_nil_of_length_eq_zero (by omega)
    exact Sl.nil_
  · obtain rfl : n = xs.length := by omega
    refine ⟨rfl, some ⟨g, 0, none⟩, cap, rfl, hn, hm, fun _ => ⟨g, 0, rfl, (Array.getElem?_eq_some_iff.1 hg).1, fun j u hu => ?_⟩⟩
    have hj : j < xs.length := by
      rcases Nat.lt_or_ge j xs.length with h | h
      · exact h
      · rw [List.getElem?_eq_none h] at hu; cases hu
    rw [Nat.zero_add]
    have hc : w.cell? ⟨g, j, none⟩ = cur[j]? := cell_of_row w g j cur e (0, 0) hg
    rw [hc, ← hu, ← ht, List.getElem?_take, if_pos (by omega), Array.getElem?_toList]
end

theorem Sl.take {w : World} {B n m c : Nat} {A : Option Addr} {xs : List Value} (h : Sl w B (.slice A n c) n xs) (hm : m ≤ n) : Sl w B (.slice A m c) m (xs.take m) := by
  obtain ⟨hl, A', c', e, h1, h2, h3⟩ := h
  injection e with e1 e2 e3
  subst e1; subst e3
  refine ⟨by simp [hl, hm], A, c, rfl, by omega, h2, fun hne => ?_⟩
  obtain ⟨b, off, ea, hb, hc⟩ := h3 (by rintro rfl; simp at hne)
  refine ⟨b, off, ea, hb, fun j u hu => hc j u ?_⟩
  rw [List.getElem?_take] at hu
  split at hu
  · exact hu
  · cases hu
theorem Sl.fresh (w : World) (cs : Array Value) (t : TypeId) {n : Nat} (hn : cs.size = n) (hm : n ≤ maxLen) : Sl (w.alloc (.cells cs t)) (w.alloc (.cells cs t)).heap.size (.slice (some ⟨w.heap.size, 0, none⟩) n n) n cs.toList :=
  ⟨by simp [hn], some ⟨w.heap.size, 0, none⟩, n, rfl, Nat.le_refl _, hm, fun _ => ⟨w.heap.size, 0, rfl, by simp, fun j u hu => by
    rw [Nat.zero_add]
    have hc : (w.alloc (.cells cs t)).cell? ⟨w.heap.size, j, none⟩ = cs[j]? := cell_of_row _ _ j cs t (0, 0) (heap_alloc_new w _)
    rw [hc, ← hu, Array.getElem?_toList]⟩⟩

theorem Sl.freshM (w : World) (cs : Array Value) (t : TypeId) (fr : Nat × Nat) {n c : Nat} (hn : cs.size = n) (hc : n ≤ c) (hm : c ≤ maxLen) : Sl (w.alloc (.cells cs t fr)) (w.alloc (.cells cs t fr)).heap.size (.slice (some ⟨w.heap.size, 0, none⟩) n c) n cs.toList :=
  ⟨by simp [hn], some ⟨w.heap.size, 0, none⟩, c, rfl, hc, hm, fun _ => ⟨w.heap.size, 0, rfl, by simp, fun j u hu => by
    rw [Nat.zero_add]
    have h : (w.alloc (.cells cs t fr)).cell? ⟨w.heap.size, j, none⟩ = cs[j]? := cell_of_row _ _ j cs t fr (heap_alloc_new w _)
    rw [h, ← hu, Array.getElem?_toList]⟩⟩
theorem bchain {a b c : World} (h : Below a.heap.size a b) (k : Below b.heap.size b c) : Below a.heap.size a c := h.trans (k.mono h.size)
theorem Sl.now {a b : World} {v : Value} {n : Nat} {xs : List Value} (h : Sl a a.heap.size v n xs) (k : Below a.heap.size a b) : Sl b b.heap.size v n xs := (h.below k).more k.size
theorem Sl.drop {w : World} {B n m c b off : Nat} {xs : List Value} (h : Sl w B (.slice (some ⟨b, off, none⟩) n c) n xs) (hm : m < n) : Sl w B (.slice (some ⟨b, off + m, none⟩) (n - m) (c - m)) (n - m) (xs.drop m) := by
  obtain ⟨hl, A', c', e, h1, h2, h3⟩ := h
  injection e with e1 e2 e3
  subst e3
  refine ⟨by simp [hl], _, _, rfl, by omega, by omega, fun _ => ?_⟩
  obtain ⟨b', off', ea, hb, hc⟩ := h3 (by rintro rfl; simp at hl; omega)
  rw [ea] at e1
  injection e1 with e1
  injection e1 with e2 e3
  subst e2; subst e3
  refine ⟨b, off + m, rfl, hb, fun j u hu => ?_⟩
  rw [Nat.add_assoc]
  exact hc _ u (by rw [← hu, List.getElem?_drop])
/-- Block g holds just the cells cs, and may be written. -/
def Mem (w : World) (g : Nat) (t : TypeId) (cs : Array Value) : Prop := w.heap[g]? = some (.cells cs t (0, 0))
theorem Mem.lt {w : World} {g t : Nat} {cs : Array Value} (h : Mem w g t cs) : g < w.heap.size := (Array.getElem?_eq_some_iff.1 h).1
theorem Mem.cell {w : World} {g t : Nat} {cs : Array Value} (h : Mem w g t cs) (i : Nat) : w.cell? ⟨g, i, none⟩ = cs[i]? := cell_of_row w g i cs t (0, 0) h
theorem Mem.free {w : World} {g t : Nat} {cs : Array Value} (h : Mem w g t cs) (i : Nat) : w.frozen? ⟨g, i, none⟩ = false := by
  unfold Mem at h; simp [World.frozen?, h]
theorem Mem.new (w : World) (t : TypeId) (cs : Array Value) : Mem (w.alloc (.cells cs t)) w.heap.size t cs := heap_alloc_new w _
theorem Mem.drewN {w : World} {g t : Nat} {cs : Array Value} (h : Mem w g t cs) (n : Nat) : Mem (w.drewN n) g t cs := h
theorem Mem.alloc {w : World} {g t : Nat} {cs : Array Value} (h : Mem w g t cs) (o : Obj) : Mem (w.alloc o) g t cs := (Below.heap_alloc w o g h.lt).trans h
theorem Mem.put {w : World} {g t : Nat} {cs : Array Value} (h : Mem w g t cs) (i : Nat) (u : Value) : Mem (w.setCell ⟨g, i, none⟩ u) g t (cs.setIfInBounds i u) := by
  unfold Mem at h ⊢
  simp [World.setCell, Array.getElem?_modify, h]
theorem Mem.far {w : World} {g t : Nat} {cs : Array Value} (h : Mem w g t cs) {p : Addr} (hp : g ≠ p.block) (u : Value) : Mem (w.setCell p u) g t cs := (Below.heap_setCell w p u g hp).trans h
theorem Mem.below {w w' : World} {B g t : Nat} {cs : Array Value} (h : Mem w g t cs) (hb : Below B w w') (hg : g < B) : Mem w' g t cs := (hb.block g hg).trans h

theorem Mem.row {w : World} {g t : Nat} {cs : Array Value} (h : Mem w g t cs) (cs' : Array Value) : Mem (w.setRow g cs') g t cs' := setRow_heap w g cs cs' t (0, 0) h
theorem Mem.rowFar {w : World} {g k t : Nat} {cs : Array Value} (h : Mem w k t cs) (hk : k ≠ g) (cs' : Array Value) : Mem (w.setRow g cs') k t cs := (setRow_other w g k cs' hk).trans h
theorem below_setRow {B : Nat} {a w : World} (h : Below B a w) {g : Nat} (hg : B ≤ g) (cs : Array Value) : Below B a (w.setRow g cs) :=
  ⟨h.os, h.tape, h.output, Nat.le_trans h.size (by simp [World.setRow]), fun i hi => (setRow_other w g i cs (by omega)).trans (h.block i hi)⟩
theorem byte_val (x j : Nat) : (x : Int) / 2 ^ (8 * j) % 256 = ((UInt8.ofNat (x / 256 ^ j)).toNat : Int) := by
  rw [UInt8.toNat_ofNat', show (256 : Nat) = 2 ^ 8 from rfl, ← Nat.pow_mul]
  simp

/-- A row that is owned stays so while nothing below the heap's size turns. -/
theorem own_below {w w' : World} {base e n : Nat} {v : Value} {xs : List Value} (h : w.ownsRow base e 1 v n xs) (hb : Below w.heap.size w w') : w'.ownsRow base e 1 v n xs := by
  refine ⟨h.1, ?_⟩
  rcases h.2 with hn | ⟨g, cap, cur, rfl, hbg, hg, rest⟩
  · exact .inl hn
  · exact .inr ⟨g, cap, cur, rfl, hbg, (hb.block g (Array.getElem?_eq_some_iff.1 hg).1).trans hg, rest⟩
theorem below_drewN {B : Nat} {a w : World} (h : Below B a w) (n : Nat) : Below B a (w.drewN n) := ⟨h.os, h.tape, h.output, h.size, h.block⟩

/-- What is new lies at the end, or in the row that was there. -/
theorem below_own {B : Nat} {a w w' : World} {v : Value} (h : Below B a w) (hg : w.grownBy w' v.ownBlock) (hB : B ≤ w.heap.size) (hr : ∀ k, v.ownBlock = some k → B ≤ k) : Below B a w' := h.grown hg hB hr

section
variable {P : Program} (w : World)
/-- append onto a row of the call's own, whatever the other slice is. -/
theorem append_sl (base : Nat) (t ty e : TypeId) (i : TypeInfo) (z : Value) (ht : P.underlying t = some (.slice e)) (hi : P.info? e = some i) (hz : i.zero = some z)
    (hsize : i.size = 1) (hby : i.bytes ≤ 8) (hzs : z.cells.size = 1)
    (v : Value) (n : Nat) (xs : List Value) (hown : w.ownsRow base e 1 v n xs)
    (B : Nat) (y : Value) (m : Nat) (news : List Value) (hr : Sl w B y m news) (h1 : ∀ u ∈ news, u.oneCell' = true)
    (hbytes : n + m ≤ 17592186044416) (hbase : base ≤ w.heap.size) :
    ∃ v' w', (Builtin.append_ #[t, t] ty #[v, y]).run P w = .ok v' w' ∧ w'.ownsRow base e 1 v' (n + m) (xs ++ news) ∧ w.grownBy w' v.ownBlock ∧
      (v'.ownBlock = v.ownBlock ∨ v'.ownBlock = some w.heap.size) := by
  have h63 : n + m ≤ maxLen := by unfold maxLen; omega
  have hbb : (n + m) * i.bytes ≤ 140737488355328 := by
    have := Nat.mul_le_mul hbytes hby
    omega
  obtain ⟨hlen, A, c, rfl, hc1, hc2, hcell⟩ := hr
  cases A with
  | none =>
    obtain rfl : news = [] := by
      cases news with
      | nil => rfl
      | cons x r => obtain ⟨b, off, e, _⟩ := hcell (by simp); cases e
    obtain rfl : m = 0 := by simpa using hlen.symm
    refine ⟨v, w, ?_, by simpa using hown, ⟨rfl, rfl, rfl, Nat.le_refl _, fun _ _ _ => rfl⟩, .inl rfl⟩
    rcases hown.2 with ⟨rfl, _⟩ | ⟨g, cap, cur, rfl, _, _, hnc, _⟩
    · simp [Builtin.append_, run_underlying ht, sizeOf, typeInfo, hi, Builtin.lenOf, Builtin.firstCells]
    · simp [Builtin.append_, run_underlying ht, sizeOf, typeInfo, hi, Builtin.lenOf, Builtin.firstCells, hnc, storeCells]
  | some ad =>
    have hcells : ∀ j u, news[j]? = some u → w.cell? (ad.add j) = some u := by
      intro j u hu
      have hne : news ≠ [] := by rintro rfl; simp at hu
      obtain ⟨b, off, e, _, hc⟩ := hcell hne
      obtain rfl : ad = ⟨b, off, none⟩ := Option.some.inj e
      rw [add_plain]
      exact hc j u hu
    obtain ⟨v', w', hrun, h2, h3, _, h5⟩ := run_append_own_at (P := P) w base t ty e i z 1 i.bytes ht hi hz hsize rfl hzs (by omega) v n xs hown ad m c news (by omega) hcells h1 h63 hbb hbase
    exact ⟨v', w', hrun, h2, h3, h5⟩

theorem wpList_append_sl {ops : Array Oper} {rest : List Oper} {o : Oper} {a : Act} {Q : Exit → Act → World → Prop} (hgd : o.guard = none) (s x : Operand) (t : TypeId)
    (ho : o.op = .call { callee := .builtin .append, args := #[s, x], argTypes := #[t, t] })
    (base : Nat) (e : TypeId) (i : TypeInfo) (z : Value) (ht : P.underlying t = some (.slice e)) (hi : P.info? e = some i) (hz : i.zero = some z)
    (hsize : i.size = 1) (hby : i.bytes ≤ 8) (hzs : z.cells.size = 1)
    (v : Value) (n : Nat) (xs : List Value) (hs : a.eval s = v) (hown : w.ownsRow base e 1 v n xs)
    (B : Nat) (y : Value) (m : Nat) (news : List Value) (hx : a.eval x = y) (hr : Sl w B y m news) (h1 : ∀ u ∈ news, u.oneCell' = true)
    (hbytes : n + m ≤ 17592186044416) (hbase : base ≤ w.heap.size)
    (h : ∀ v' w', w'.ownsRow base e 1 v' (n + m) (xs ++ news) → w.grownBy w' v.ownBlock → (v'.ownBlock = v.ownBlock ∨ v'.ownBlock = some w.heap.size) → wpList P ops Q rest (a.put o.dst v') w') : wpList P ops Q (o :: rest) a w := by
  obtain ⟨v', w', hrun, h2, h3, h4⟩ := append_sl (P := P) w base t o.type e i z ht hi hz hsize hby hzs v n xs hown B y m news hr h1 hbytes hbase
  refine wpList_plain hgd fun K hK => ?_
  unfold Oper.wp execOp
  simp only [ho, resolve, invoke, builtin, Sem.run_bind, Sem.run_pure, Result.andThen_ok, List.map_toArray, List.map_cons, List.map_nil, hs, hx, hrun]
  exact hK _ _ (h v' w' h2 h3 h4)

/-- A slice of bytes as a string. -/
theorem bytes_str (src dst e : TypeId) (hs : P.underlying src = some (.slice e)) (he : P.underlying e = some (.int .u8)) (hd : P.underlying dst = some .string) (B : Nat) (v : Value) (l : List UInt8) (n : Nat) (h : Sl w B v n (bs l)) :
    (convert src dst v).run P w = .ok (.string ⟨l.toArray⟩) w := by
  obtain ⟨hlen, A, c, rfl, hc1, hc2, hcell⟩ := h
  have key : ∀ ad : Addr, (∀ j u, (bs l)[j]? = some u → w.cell? (ad.add j) = some u) → (convert src dst (.slice (some ad) n c)).run P w = .ok (.string ⟨l.toArray⟩) w := by
    intro ad hcl
    have hl : (loadCells ad n).run P w = .ok ((l.map fun x : UInt8 => (x.toNat : Int)).map (Value.int .u8)).toArray w := by
      have := run_loadCells_list (P := P) w ad (bs l) hcl
      rw [hlen] at this
      simpa [bs, List.map_map, Function.comp_def] using this
    rw [run_convert_bytes_string w src dst e _ _ c hs he hd, run_bytesToString w _ _ c _ hl, foldl_push_bytes]
    congr 3
    have hm : ((l.map fun x : UInt8 => (x.toNat : Int)).map fun n : Int => UInt8.ofNat n.toNat) = l := by
      rw [List.map_map]
      conv => rhs; rw [← List.map_id l]
      apply List.map_congr_left
      intro x _
      simp
    rw [hm]
    simp [ByteArray.empty, ByteArray.emptyWithCapacity]
    rfl
  cases A with
  | none =>
    obtain rfl : l = [] := by
      cases l with
      | nil => rfl
      | cons x r => obtain ⟨b, off, e, _⟩ := hcell (by simp [bs]); cases e
    exact run_convert_bytes_nil w src e hs he _ _ dst hd
  | some ad =>
    refine key ad fun j u hu => ?_
    have hne : bs l ≠ [] := by intro e; rw [e] at hu; simp at hu
    obtain ⟨b, off, e, _, hc⟩ := hcell hne
    obtain rfl : ad = ⟨b, off, none⟩ := Option.some.inj e
    rw [add_plain]
    exact hc j u hu
end

section
variable {H : Type} {enc : TypeId × Value → H} {P : Program}
theorem trodAll_below (hl : laidOutB P = true) {W W' : World} (hb : Below W.heap.size W W') :
    ∀ {ts : List TypeId} {vs : List Value} {ds : List (DataW H)} {ps : List MemPlace}, (ts.all fun t => P.readableRec t && decide (t < P.types.size)) = true →
      DataW.TrodAll enc P W 0 (fun _ => true) true ts vs ds ps → (∀ x ∈ ps, x.block < W.heap.size) → DataW.TrodAll enc P W' 0 (fun b => decide (b < W.heap.size)) true ts vs ds ps
  | [], vs, ds, ps, _, h, _ => by
    obtain ⟨rfl, rfl, rfl⟩ := trodAll_nil h
    exact trodAll_mk0
  | t :: ts, vs, ds, ps, hr, h, hlt => by
    obtain ⟨v, vs', d, ds', p, q, rfl, rfl, rfl, h0, r0⟩ := trodAll_cons h
    simp only [List.all_cons, Bool.and_eq_true] at hr
    exact trodAll_cons_mk (Below.trod hl hr.1.1 (of_decide_eq_true hr.1.2) h0 hb (fun x hx => hlt x (by simp [hx]))) (trodAll_below hl hb (by simpa using hr.2) r0 (fun x hx => hlt x (by simp [hx])))

theorem trodAll_sp (hl : laidOutB P = true) {W W' : World} (hb : Below W.heap.size W W') (sp : Nat → Bool) :
    ∀ {ts : List TypeId} {vs : List Value} {ds : List (DataW H)} {ps : List MemPlace}, (ts.all fun t => P.readableRec t && decide (t < P.types.size)) = true →
      DataW.TrodAll enc P W 0 (fun _ => true) true ts vs ds ps → (∀ x ∈ ps, x.block < W.heap.size) → (∀ x ∈ ps, sp x.block = true) → DataW.TrodAll enc P W' 0 sp true ts vs ds ps
  | [], vs, ds, ps, _, h, _, _ => by
    obtain ⟨rfl, rfl, rfl⟩ := trodAll_nil h
    exact trodAll_mk0
  | t :: ts, vs, ds, ps, hr, h, hlt, hsp => by
    obtain ⟨v, vs', d, ds', p, q, rfl, rfl, rfl, h0, r0⟩ := trodAll_cons h
    simp only [List.all_cons, Bool.and_eq_true] at hr
    exact trodAll_cons_mk (WideElems.Trod_stays hl hr.1.1 (of_decide_eq_true hr.1.2) h0 (fun x hx => hb.same (hlt x (by simp [hx]))) (fun x hx => hsp x (by simp [hx])))
      (trodAll_sp hl hb sp (by simpa using hr.2) r0 (fun x hx => hlt x (by simp [hx])) (fun x hx => hsp x (by simp [hx])))

/-- The last step of a law: true was told, and below the old heap's size nothing has turned. -/
theorem law_post {f : Func} {s : ChangeSpec} {W W' : World} {args : Array Value} {ds : List (DataW H)} {before : List MemPlace} {tb : TypeId}
    (hl : laidOutB P = true) (hts : (f.params.toList.all fun t => P.readableRec t && decide (t < P.types.size)) = true)
    (hv : s.vars = []) (hrt : f.resultTypes = #[tb]) (hu : P.underlying tb = some .bool)
    (hs1 : (s.fn H ds).results = [.lit (.bool true)]) (hs2 : (s.fn H ds).args = ds) (hs3 : (s.fn H ds).vars = [])
    (hW : DataW.Whole enc P f.params.toList s.vars false W args.toList ds [] before) (hb : Below W.heap.size W W') :
    s.post enc P f false true false false W args (.bool true) W' := by
  have hW' := hW
  obtain ⟨p, q, hA, hV, rfl, hfz, hnd⟩ := hW
  have hq : q = [] := by
    rw [hv] at hV
    exact (trodVars_none hV).2
  subst hq
  have hlt : ∀ x ∈ p ++ [], x.block < W.heap.size := fun x hx => hW'.lt x hx
  have hold : ∀ x ∈ p ++ [], (fun b => decide (b < W.heap.size)) x.block = true := fun x hx => by simpa using hlt x hx
  have hargs : ∀ sp : Nat → Bool, (∀ x ∈ p ++ [], sp x.block = true) → DataW.TrodAll enc P W' 0 sp true f.params.toList args.toList (s.fn H (ds ++ [])).args p := fun sp hsp => by
    rw [List.append_nil, hs2]
    exact trodAll_sp hl hb sp hts hA (fun x hx => hlt x (by simp [hx])) (fun x hx => hsp x (by simp [hx]))
  have hvars : ∀ sp : Nat → Bool, DataW.TrodVars enc P W' sp s.vars (s.fn H (ds ++ [])).vars [] := fun sp => by
    rw [List.append_nil, hs3, hv]
    exact rfl
  have hres : ∀ (b : Nat) (sp : Nat → Bool) (hd : Bool), DataW.TrodAll enc P W' b sp hd f.resultTypes.toList ((Value.bool true).resultList f.resultTypes.size) (s.fn H (ds ++ [])).results [] := fun b sp hd => by
    rw [List.append_nil, hs1, hrt]
    exact trodAll_cons_mk (shut_bool hu _) trodAll_mk0
  have hok := ok_one (v := .bool true) hrt rfl (okWide_bool_mk (P := P) (W' := W') hu true)
  refine ⟨ds, [], p ++ [], [], p, [], hW', hres _ _ _, hargs _ hold, hvars _, World.keptBut_mono (fun x hx => ⟨hx, ?_⟩) (hb.frame (· ∈ p ++ [])), fun _ => ?_⟩
  · exact Or.inr (by simpa using hx)
  · refine ⟨hok, _, _, ([] ++ p) ++ [], ⟨[] ++ p, [], trodAll_append (hargs _ (fun _ _ => rfl)) (hres _ _ _), hvars _, rfl, ?_, ?_⟩, ?_⟩
    · intro b off hp
      have hin : MemPlace.cell b off ∈ p ++ [] := by simpa using hp
      rw [hb.frozen (hlt _ hin)]
      exact hfz b off hin
    · intro ha
      cases ha
    · intro x hx _
      simpa using hx

theorem open_sl {W : World} {base : Nat} {t e : TypeId} {k : IntKind} {v : Value} {d : DataW H} {ps : List MemPlace} (ht : P.underlying t = some (.slice e)) (he : P.underlying e = some (.int k)) (hc : P.cellsOf e = 1)
    (hval : Value.okWide P W .any base t v) (h : DataW.Trod enc P W 0 (fun _ => true) true t v d ps) :
    ∃ zs : List Int, Sl W W.heap.size v zs.length (zs.map (Value.int k)) ∧ (∀ n ∈ zs, (Lit.int k n).wf = true) ∧ ((d = .nil) ∨ ∃ sp, d = .slice (lits k zs) sp) := by
  obtain ⟨a, len, cap, rfl⟩ := okWide_slice ht hval
  obtain ⟨fuel, hf⟩ := h
  rcases open_ints ht he hc hf with ⟨hcs, hx⟩ | ⟨a', len', cap', zs, hcs, _, hl, hm, hz, hx, hcell, hwz⟩
  · simp [Value.cells] at hcs
    obtain ⟨rfl, rfl, rfl⟩ := hcs
    simp only [Prod.mk.injEq] at hx
    exact ⟨[], Sl.nil_, by simp, .inl hx.1⟩
  · simp [Value.cells] at hcs
    obtain ⟨rfl, rfl, rfl⟩ := hcs
    simp only [Prod.mk.injEq] at hx
    simp only [if_true] at hz
    refine ⟨zs.take len, ⟨by simp, some a', cap, ?_, ?_, hm, fun hne => ?_⟩, fun n hn => hwz n (List.mem_of_mem_take hn), .inr ⟨_, hx.1⟩⟩
    · rw [List.length_take, Nat.min_eq_left (by omega)]
    · rw [List.length_take]; omega
    · have hp : 0 < zs.length := by
        rcases Nat.eq_zero_or_pos zs.length with h0 | h0
        · rw [List.eq_nil_of_length_eq_zero h0] at hne; simp at hne
        · exact h0
      obtain ⟨b, off, rfl, hcl⟩ := ints_at hcell hp
      refine ⟨b, off, rfl, ?_, fun j u hu => ?_⟩
      · exact World.block_lt_of_cell? W _ (by simpa using hcl 0 hp)
      · have hj : j < (zs.take len).length := by
          rcases Nat.lt_or_ge j (zs.take len).length with h | h
          · exact h
          · rw [List.getElem?_eq_none (by simpa using h)] at hu; cases hu
        rw [List.length_take] at hj
        rw [hcl j (by omega), ← hu]
        have hjz : j < zs.length := by omega
        simp [List.getD, List.getElem?_eq_getElem hjz, show j < len by omega]

theorem open_bytes {W : World} {base : Nat} {t e : TypeId} {v : Value} {d : DataW H} {ps : List MemPlace} (ht : P.underlying t = some (.slice e)) (he : P.underlying e = some (.int .u8)) (hc : P.cellsOf e = 1)
    (hval : Value.okWide P W .any base t v) (h : DataW.Trod enc P W 0 (fun _ => true) true t v d ps) :
    ∃ l : List UInt8, Sl W W.heap.size v l.length (bs l) ∧ ((d = .nil) ∨ ∃ sp, d = .slice (lits .u8 (l.map fun x => (x.toNat : Int))) sp) := by
  obtain ⟨zs, h1, h2, h3⟩ := open_sl ht he hc hval h
  have e1 : zs = (zs.map fun n => UInt8.ofNat n.toNat).map fun x => (x.toNat : Int) := by
    rw [List.map_map]
    conv => lhs; rw [← List.map_id zs]
    apply List.map_congr_left
    intro n hn
    have hb := bounds_u8 (h2 n hn)
    simp only [id, Function.comp, UInt8.toNat_ofNat']
    omega
  refine ⟨zs.map fun n => UInt8.ofNat n.toNat, ?_, ?_⟩
  · have e2 : bs (zs.map fun n => UInt8.ofNat n.toNat) = zs.map (Value.int .u8) := by
      conv => rhs; rw [e1]
      simp [bs]
    rw [e2, List.length_map]
    exact h1
  · rw [← e1]; exact h3
end
end Go.Proofs.Ytflodljccloobaa
