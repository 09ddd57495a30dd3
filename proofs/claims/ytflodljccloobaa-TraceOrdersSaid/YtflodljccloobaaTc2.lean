/- Package trace: rows of structs in memory; places. -/
import Derived.Test.YtflodljccloobaaTc1
import Derived.Test.YtflodljccloobaaRv1
import Derived.Deep.Cut
import Derived.Deep.MidRow
namespace Go.Proofs.Ytflodljccloobaa
open Go.ChangeShapes Go.WideShapes Go.ChangeAt Go.RowKit Go.Lib
set_option linter.unusedVariables false
set_option linter.unusedSimpArgs false
set_option maxRecDepth 100000
namespace Tc
/-- A slice of n structs of sz cells that shows the cells xs. -/
def Rw (w : World) (v : Value) (n sz : Nat) (xs : List Value) : Prop := xs.length = n * sz ∧ ∃ A c, v = .slice A n c ∧ n ≤ c ∧ c ≤ maxLen ∧ (n ≠ 0 → ∃ b off, A = some ⟨b, off, none⟩ ∧ b < w.heap.size ∧ ∀ j u, xs[j]? = some u → w.cell? ⟨b, off + j, none⟩ = some u)
theorem Rw.below {w w' : World} {v : Value} {n sz : Nat} {xs : List Value} (h : Rw w v n sz xs) (hb : Below w.heap.size w w') : Rw w' v n sz xs := by
  obtain ⟨h1, A, c, h2, h3, h4, h5⟩ := h
  refine ⟨h1, A, c, h2, h3, h4, fun hn => ?_⟩
  obtain ⟨b, off, q1, q2, q3⟩ := h5 hn
  exact ⟨b, off, q1, Nat.lt_of_lt_of_le q2 hb.size, fun j u hu => (hb.cell (p := ⟨b, off + j, none⟩) q2).trans (q3 j u hu)⟩
theorem Rw.form {w : World} {v : Value} {n sz : Nat} {xs : List Value} (h : Rw w v n sz xs) : ∃ A c, v = .slice A n c := by
  obtain ⟨h1, A, c, h2, -⟩ := h
  exact ⟨A, c, h2⟩
theorem flat_get {α β : Type} (f : α → List β) (sz : Nat) (hf : ∀ x, (f x).length = sz) : ∀ (l : List α) (j q : Nat) (x : α), l[j]? = some x → q < sz → (l.flatMap f)[j * sz + q]? = (f x)[q]?
  | [], j, q, x, h, _ => by simp at h
  | y :: l, 0, q, x, h, hq => by
    simp at h
    subst h
    rw [List.flatMap_cons, Nat.zero_mul, Nat.zero_add, List.getElem?_append_left (by rw [hf]; exact hq)]
  | y :: l, j + 1, q, x, h, hq => by
    rw [List.flatMap_cons, List.getElem?_append_right (by rw [hf, Nat.add_mul]; omega), hf, show (j + 1) * sz + q - sz = j * sz + q by rw [Nat.add_mul]; omega]
    exact flat_get f sz hf l j q x (by simpa using h) hq
theorem flat_len {α β : Type} (f : α → List β) (sz : Nat) (hf : ∀ x, (f x).length = sz) (l : List α) : (l.flatMap f).length = l.length * sz := by
  induction l with
  | nil => simp
  | cons y l ih => rw [List.flatMap_cons, List.length_append, ih, hf, List.length_cons, Nat.add_mul]; omega
theorem Rw.at_ {α : Type} {w : World} {A : Option Addr} {c sz : Nat} {l : List α} {f : α → List Value} (h : Rw w (.slice A l.length c) l.length sz (l.flatMap f)) (hf : ∀ x, (f x).length = sz) {j : Nat} (hj : j < l.length) : ∃ b off, A = some ⟨b, off, none⟩ ∧ b < w.heap.size ∧ ∀ q u, (f l[j])[q]? = some u → w.cell? ⟨b, off + j * sz + q, none⟩ = some u := by
  obtain ⟨h1, A', c', h2, h3, h4, h5⟩ := h
  injection h2 with e1 e2 e3
  subst e1
  obtain ⟨b, off, q1, q2, q3⟩ := h5 (by omega)
  refine ⟨b, off, q1, q2, fun q u hu => ?_⟩
  have hq : q < sz := by have := (List.getElem?_eq_some_iff.1 hu).1; rwa [hf] at this
  rw [Nat.add_assoc]
  exact q3 _ u (by rw [flat_get f sz hf l j q _ (List.getElem?_eq_getElem hj) hq]; exact hu)
/-- What was asked: a host's command by its number, at a time. -/
structure Iv where
  h : Int
  i : Nat
  k : Int
  a : Int
  n : Int
  vA : Option Addr
  vn : Nat
  vc : Nat
  ck : Int
  cn : Int
  ct : Int
  cf : Bool
  t : Int
def ivc (x : Iv) : List Value := [.int .i64 x.h, .int .u64 (x.i : Int), .int .i64 x.k, .int .i64 x.a, .int .i64 x.n, .slice x.vA x.vn x.vc, .int .u64 x.ck, .int .u64 x.cn, .int .i64 x.ct, .bool x.cf, .int .i64 x.t]
theorem ivc_len (x : Iv) : (ivc x).length = 11 := rfl
/-- A commit. -/
structure Cm where
  h : Int
  i : Nat
  t : Int
def cmc (x : Cm) : List Value := [.int .i64 x.h, .int .u64 (x.i : Int), .int .i64 x.t]
theorem cmc_len (x : Cm) : (cmc x).length = 3 := rfl
/-- A completion. -/
structure Co where
  h : Int
  i : Nat
  s : Int
  k : Int
  c : Int
  vA : Option Addr
  vn : Nat
  vc : Nat
  f : Int
  t : Int
def coc (x : Co) : List Value := [.int .i64 x.h, .int .u64 (x.i : Int), .int .i64 x.s, .int .i64 x.k, .int .i64 x.c, .slice x.vA x.vn x.vc, .int .i64 x.f, .int .i64 x.t]
theorem coc_len (x : Co) : (coc x).length = 8 := rfl
def nmI (x : Iv) : Int × Nat := (x.h, x.i)
def nmC (x : Cm) : Int × Nat := (x.h, x.i)
def nmO (x : Co) : Int × Nat := (x.h, x.i)
/-- The first k names with their places. -/
def ent (l : List (Int × Nat)) (k : Nat) : List NM := (l.take k).zipIdx
theorem ent_zero (l : List (Int × Nat)) : ent l 0 = [] := rfl
theorem ent_more {l : List (Int × Nat)} {k : Nat} {x : Int × Nat} (hx : l[k]? = some x) : ent l (k + 1) = ent l k ++ [(x, k)] := by
  have hk := (List.getElem?_eq_some_iff.1 hx).1
  unfold ent
  rw [List.take_add_one, hx, List.zipIdx_append]
  simp only [Option.toList_some, List.zipIdx_singleton, Nat.zero_add, List.length_take, Nat.min_eq_left (Nat.le_of_lt hk)]
theorem ent_mem {l : List (Int × Nat)} {k : Nat} {p : NM} (h : p ∈ ent l k) : p.2 < k ∧ l[p.2]? = some p.1 := by
  unfold ent at h
  rw [List.mem_zipIdx_iff_getElem?] at h
  have h1 := (List.getElem?_eq_some_iff.1 h).1
  rw [List.length_take] at h1
  rw [List.getElem?_take, if_pos (by omega)] at h
  exact ⟨by omega, h⟩
theorem ent_has {l : List (Int × Nat)} {k j : Nat} {x : Int × Nat} (hj : j < k) (hx : l[j]? = some x) : (x, j) ∈ ent l k := by
  unfold ent
  rw [List.mem_zipIdx_iff_getElem?, List.getElem?_take, if_pos hj]
  exact hx
theorem nodup_apart {l : List (Int × Nat)} (h : l.Nodup) {i j : Nat} {x : Int × Nat} (hij : i < j) (h1 : l[i]? = some x) (h2 : l[j]? = some x) : False := by
  obtain ⟨a, ha⟩ := List.getElem?_eq_some_iff.1 h1
  obtain ⟨b, hb⟩ := List.getElem?_eq_some_iff.1 h2
  exact (List.pairwise_iff_getElem.1 h) i j a b hij (ha.trans hb.symm)
theorem box2 (w : World) (t1 t2 : TypeId) (c1 c2 : Array Value) : ∃ W, W = (w.alloc (.cells c1 t1)).alloc (.cells c2 t2) ∧ Mem W w.heap.size t1 c1 ∧ Mem W (w.heap.size + 1) t2 c2 ∧ Below w.heap.size w W := ⟨_, rfl, by
    have m0 := Mem.new w t1 c1
    exact m0.below ((Below.refl _ _).alloc (Nat.le_refl _) _) m0.lt, by
    have m1 := Mem.new (w.alloc (.cells c1 t1)) t2 c2
    rw [World.size_alloc] at m1
    exact m1, ((Below.refl _ w).alloc (Nat.le_refl _) _).alloc (by rw [World.size_alloc]; omega) _⟩
theorem made_map (w : World) : (Instr.makeMap 47 none).run Try.prog w = .ok (.map (some w.heap.size)) (w.alloc (.map #[] 0)) ∧ MapAt (w.alloc (.map #[] 0)) w.heap.size [] := ⟨run_makeMap _ _, ⟨⟨#[], 0, heap_alloc_new w _, rfl⟩, fun p hp => (by cases hp)⟩⟩
set_option maxHeartbeats 4000000 in
/-- places of names that are all unlike. -/
theorem places_any {w : World} (v : Value) (ins : List Iv) (hv : Rw w v ins.length 11 (ins.flatMap ivc)) (hl : ins.length ≤ 1000) (hk : ∀ x ∈ ins, NOk x.h x.i) (hn : (ins.map nmI).Nodup) : Calls Try.prog 8 #[v] w fun e w' => ∃ r, e = .returned (.tuple #[.map (some r), .int .i64 (-1)]) ∧ MapAt w' r (ent (ins.map nmI) ins.length) ∧ w.heap.size ≤ r ∧ Below w.heap.size w w' := by
  obtain ⟨A, c, rfl⟩ := hv.form
  obtain ⟨w1, e1, mk1, m1, b1, r1⟩ : ∃ w1, w1 = w.alloc (.map #[] 0) ∧ (Instr.makeMap 47 none).run Try.prog w = .ok (.map (some w.heap.size)) w1 ∧ MapAt w1 w.heap.size [] ∧ Below w.heap.size w w1 ∧ w.heap.size < w1.heap.size := ⟨_, rfl, (made_map w).1, (made_map w).2, (Below.refl _ w).alloc (Nat.le_refl _) _, (made_map w).2.lt⟩
  clear e1
  have HN := Lib.hid hn
  have HKK := Lib.hid hk
  have HL := Lib.hid hl
  clear hn hk hl
  go_enter Try.func8, Try.ntmps8
  go_wp2
  go_loopw [5, 14] (fun ag x wr => ag = .int .i64 (-1) ∧ ∃ k : Nat, x = .int .i64 (k : Nat) ∧ k ≤ ins.length ∧ MapAt wr w.heap.size (ent (ins.map nmI) k) ∧ Below w.heap.size w wr) (fun _ x _ => ins.length - (intOf x).toNat)
  case atStart => exact ⟨rfl, 0, rfl, Nat.zero_le _, m1, b1⟩
  case round =>
    obtain ⟨rfl, k, rfl, hkl, MA, BW⟩ := hrel
    generalize wr = wo at *
    by_cases hlt : k < ins.length
    case neg =>
      obtain rfl : k = ins.length := by omega
      have HMA := Lib.hid MA
      clear hlt hkl MA
      go_wp2
      go_ret2
      exact ⟨_, rfl, HMA.out, Nat.le_refl _, BW⟩
    have hltx : (k : Int) < (ins.length : Int) := by omega
    have hkx : (k : Int) < 1000 := by have := HL.out; omega
    obtain ⟨b, off, rfl, hb, hc⟩ := (hv.below BW).at_ ivc_len hlt
    have hok := HKK.out _ (List.getElem_mem hlt)
    have hnm : (ins.map nmI)[k]? = some (ins[k].h, ins[k].i) := by rw [List.getElem?_map, List.getElem?_eq_getElem hlt]; rfl
    have hnew : ∀ p ∈ ent (ins.map nmI) k, p.1 ≠ (ins[k].h, ins[k].i) := fun p hp e => by
      obtain ⟨q1, q2⟩ := ent_mem hp
      exact nodup_apart HN.out q1 (q2.trans (congrArg some e)) hnm
    have hmore := ent_more hnm
    generalize ins[k] = x at *
    obtain ⟨h, i, kd, a, n, vA, vn, vc, ck, cn, ct, cf, t⟩ := x
    dsimp only at hnew hok hnm hmore
    have hrg : wo.rangeAt b (off + k * 11) (ivc ⟨h, i, kd, a, n, vA, vn, vc, ck, cn, ct, cf, t⟩) := fun j u hu => hc j u hu
    unfold ivc at hrg
    clear hc hnm
    obtain ⟨W2, e2, mI, mN, b2⟩ := box2 wo 28 54 #[.int .i64 h, .int .u64 (i : Int), .int .i64 kd, .int .i64 a, .int .i64 n, .slice vA vn vc, .int .u64 ck, .int .u64 cn, .int .i64 ct, .bool cf, .int .i64 t] #[.int .i64 h, .int .u64 (i : Int)]
    have MA2 := MA.below b2
    have lk : (Instr.lookup 47 (.map (some w.heap.size)) (.agg #[.int .i64 h, .int .u64 (i : Int)]) true).run Try.prog W2 = .ok (.tuple #[.int .i64 0, .bool false]) W2 := by
      rcases look MA2 hok with ⟨v, q1, q2⟩ | ⟨q1, q2⟩
      · exact absurd rfl (hnew _ q1)
      · exact q2
    obtain ⟨W3, st, MA3, E3⟩ := store_new MA2 hok hnew k
    have st' : (Instr.mapUpdate 47 (.map (some w.heap.size)) (.agg #[.int .i64 h, .int .u64 (i : Int)]) (.int .i64 (k : Int))).run Try.prog W2 = .ok () W3 := st
    rw [← hmore] at MA3
    have B2 := BW.trans (b2.mono BW.size)
    have B3 : Below w.heap.size w W3 := E3.below B2 B2.size fun q _ e => (by omega)
    have z0 := mI.cell 0
    have z1 := mI.cell 1
    have n0 := mN.cell 0
    have n1 := mN.cell 1
    have HI := Lib.hid hlt
    have HM3 := Lib.hid MA3
    have HB3 := Lib.hid B3
    clear hlt hkl MA MA2 hnew hmore st MA3 E3 hok B2 B3 m1 mk1
    go_upto_region 7 with (refine wpList_load_mid rfl 28 (.tmp 17) rfl b (off + k * 11) rfl [.int .i64 h, .int .u64 (i : Int), .int .i64 kd, .int .i64 a, .int .i64 n, .slice vA vn vc, .int .u64 ck, .int .u64 cn, .int .i64 ct, .bool cf, .int .i64 t] _ hrg Try.underlying28 rfl (by kernel_rfl) ?_)
    rw [← e2]
    clear e2 hrg
    go_wp2
    exact ⟨⟨rfl, k + 1, rfl, HI.out, HM3.out, HB3.out⟩, by have := HI.out; simp [intOf]; omega⟩
end Tc
end Go.Proofs.Ytflodljccloobaa
