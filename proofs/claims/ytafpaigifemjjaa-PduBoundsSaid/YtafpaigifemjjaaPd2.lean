/- Package pdu: head: a contract. -/
import Derived.Test.YtafpaigifemjjaaPd1
namespace Go.Proofs.Ytafpaigifemjjaa
open Go.ChangeShapes Go.WideShapes Go.ChangeAt Go.RowKit
set_option linter.unusedVariables false
def frontS (op fl st n : Nat) (vs : List Nat) (k : Nat) : List UInt8 := [UInt8.ofNat op, UInt8.ofNat fl, UInt8.ofNat st, 0] ++ be n 4 ++ ((vs.take k).map fun x => be x 4).flatten
theorem frontS_len (op fl st n : Nat) (vs : List Nat) (k : Nat) (hk : k ≤ vs.length) : (frontS op fl st n vs k).length = 8 + 4 * k := by
  have h : ∀ l : List Nat, ((l.map fun x => be x 4).flatten).length = 4 * l.length := by
    intro l
    induction l with
    | nil => rfl
    | cons a l ih => simp only [List.map_cons, List.flatten_cons, List.length_append, be_len, List.length_cons, ih]; omega
  simp only [frontS, List.length_append, h, be_len, List.length_take, List.length_cons, List.length_nil]
  omega
theorem u8_or128 (fl : Nat) (h : fl < 128) : bits BinOp.or IntKind.u8 (fl : Int) 128 = ((fl + 128 : Nat) : Int) := by
  have h1 := u8_or_nat fl 128 (by omega) (by omega)
  rw [Nat.or_comm, nat_join 7 128 fl (by omega) (by omega)] at h1
  rw [show fl + 128 = 128 + fl by omega, ← h1]; simp
theorem idx6 (a b c d e f : Int) (W : World) :
    (Instr.index 61 (.agg #[.int .u32 a, .int .u32 b, .int .u32 c, .int .u32 d, .int .u32 e, .int .u32 f]) (.int .i64 0)).run Try.prog W = .ok (.int .u32 a) W ∧
    (Instr.index 61 (.agg #[.int .u32 a, .int .u32 b, .int .u32 c, .int .u32 d, .int .u32 e, .int .u32 f]) (.int .i64 1)).run Try.prog W = .ok (.int .u32 b) W ∧
    (Instr.index 61 (.agg #[.int .u32 a, .int .u32 b, .int .u32 c, .int .u32 d, .int .u32 e, .int .u32 f]) (.int .i64 2)).run Try.prog W = .ok (.int .u32 c) W ∧
    (Instr.index 61 (.agg #[.int .u32 a, .int .u32 b, .int .u32 c, .int .u32 d, .int .u32 e, .int .u32 f]) (.int .i64 3)).run Try.prog W = .ok (.int .u32 d) W ∧
    (Instr.index 61 (.agg #[.int .u32 a, .int .u32 b, .int .u32 c, .int .u32 d, .int .u32 e, .int .u32 f]) (.int .i64 4)).run Try.prog W = .ok (.int .u32 e) W ∧
    (Instr.index 61 (.agg #[.int .u32 a, .int .u32 b, .int .u32 c, .int .u32 d, .int .u32 e, .int .u32 f]) (.int .i64 5)).run Try.prog W = .ok (.int .u32 f) W := by
  refine ⟨?_, ?_, ?_, ?_, ?_, ?_⟩ <;> kernel_rfl
set_option maxHeartbeats 1000000 in
theorem phead_at (op fl st tag sn ex mx off len : Nat) (fin : Bool) (cdb : List UInt8) (p1 : op < 256) (p2 : fl < 128) (p3 : st < 256) (p4 : tag < 4294967296) (p5 : sn < 4294967296) (p6 : ex < 4294967296) (p7 : mx < 4294967296) (p8 : off < 4294967296) (p9 : len < 4294967296) (hc : cdb.length = 16) (d : Value) (l : List UInt8) (w : World) (hd : Sl w w.heap.size d l.length (bs l)) (hl : l.length ≤ 4096) :
    Calls Try.prog 19 #[pduV op fin fl st tag sn ex mx off len cdb d] w fun e w' => ∃ v', e = .returned v' ∧ Sl w' w'.heap.size v' 48 (bs (frontS op (fl + if fin then 128 else 0) st l.length [tag, sn, ex, mx, off, len] 6 ++ cdb)) ∧ Below w.heap.size w w' := by
  obtain ⟨c0, c1, c2, c3, c4, c5, c6, c7, c8, c9, c10, c11, c12, c13, c14, c15, rfl⟩ := cdb16 cdb hc
  obtain ⟨A, c, rfl, hc1, hc2⟩ := hd.form
  unfold maxLen at hc2
  obtain ⟨i0, hi, hz0, hz1, hz2⟩ := info_parts info_u8
  have hlx : (l.length : Int) ≤ 4096 := by omega
  obtain ⟨F, hF⟩ : ∃ F, F = fl + if fin then 128 else 0 := ⟨_, rfl⟩
  rw [← hF]
  have hFl : F < 256 := by subst hF; split <;> omega
  have hs0 : ∀ (Fi : Int), Fi = (F : Nat) → ∀ o, Sl ((w.alloc o).alloc (.cells #[Value.int .u8 (op : Nat), .int .u8 Fi, .int .u8 (st : Nat), .int .u8 0] 5)) ((w.alloc o).alloc (.cells #[Value.int .u8 (op : Nat), .int .u8 Fi, .int .u8 (st : Nat), .int .u8 0] 5)).heap.size (.slice (some ⟨w.heap.size + 1, 0, none⟩) 4 4) 4 (bs [UInt8.ofNat op, UInt8.ofNat F, UInt8.ofNat st, 0]) := by
    rintro Fi rfl o
    have h := Sl.fresh (w.alloc o) #[Value.int .u8 (op : Nat), .int .u8 (F : Nat), .int .u8 (st : Nat), .int .u8 0] 5 (n := 4) rfl (by unfold maxLen; omega)
    have e : (#[Value.int .u8 (op : Nat), .int .u8 (F : Nat), .int .u8 (st : Nat), .int .u8 0] : Array Value).toList = bs [UInt8.ofNat op, UInt8.ofNat F, UInt8.ofNat st, 0] := by
      simp only [bs, List.map_cons, List.map_nil, UInt8.toNat_ofNat', Nat.mod_eq_of_lt (show op < 2 ^ 8 by omega), Nat.mod_eq_of_lt (show F < 2 ^ 8 by omega), Nat.mod_eq_of_lt (show st < 2 ^ 8 by omega)]
      rfl
    rw [e] at h
    simpa using h
  have hput : ∀ W v x L, L.length ≤ 100 → x < 18446744073709551616 → Sl W W.heap.size v L.length (bs L) → Calls Try.prog 28 #[v, .int .u64 (x : Nat), .int .i64 4] W fun e w' => ∃ v', e = .returned v' ∧ w'.ownsRow W.heap.size 5 1 v' (L ++ be x 4).length (bs (L ++ be x 4)) ∧ Below W.heap.size W w' := fun W v x L h1 h2 hv => put_o v L _ _ x 4 rfl rfl W hv h2 (by omega) (by omega)
  have hbox : ∀ o w1, Below ((w.alloc (.cells #[Value.int .i64 (op : Nat), .bool fin, .int .i64 (fl : Nat), .int .i64 (st : Nat), .int .u32 (tag : Nat), .int .u32 (sn : Nat), .int .u32 (ex : Nat), .int .u32 (mx : Nat), .int .u32 (off : Nat), .int .u32 (len : Nat), .int .u8 c0.toNat, .int .u8 c1.toNat, .int .u8 c2.toNat, .int .u8 c3.toNat, .int .u8 c4.toNat, .int .u8 c5.toNat, .int .u8 c6.toNat, .int .u8 c7.toNat, .int .u8 c8.toNat, .int .u8 c9.toNat, .int .u8 c10.toNat, .int .u8 c11.toNat, .int .u8 c12.toNat, .int .u8 c13.toNat, .int .u8 c14.toNat, .int .u8 c15.toNat, .slice A l.length c] 26)).alloc o).heap.size ((w.alloc (.cells #[Value.int .i64 (op : Nat), .bool fin, .int .i64 (fl : Nat), .int .i64 (st : Nat), .int .u32 (tag : Nat), .int .u32 (sn : Nat), .int .u32 (ex : Nat), .int .u32 (mx : Nat), .int .u32 (off : Nat), .int .u32 (len : Nat), .int .u8 c0.toNat, .int .u8 c1.toNat, .int .u8 c2.toNat, .int .u8 c3.toNat, .int .u8 c4.toNat, .int .u8 c5.toNat, .int .u8 c6.toNat, .int .u8 c7.toNat, .int .u8 c8.toNat, .int .u8 c9.toNat, .int .u8 c10.toNat, .int .u8 c11.toNat, .int .u8 c12.toNat, .int .u8 c13.toNat, .int .u8 c14.toNat, .int .u8 c15.toNat, .slice A l.length c] 26)).alloc o) w1 → Mem w1 w.heap.size 26 #[Value.int .i64 (op : Nat), .bool fin, .int .i64 (fl : Nat), .int .i64 (st : Nat), .int .u32 (tag : Nat), .int .u32 (sn : Nat), .int .u32 (ex : Nat), .int .u32 (mx : Nat), .int .u32 (off : Nat), .int .u32 (len : Nat), .int .u8 c0.toNat, .int .u8 c1.toNat, .int .u8 c2.toNat, .int .u8 c3.toNat, .int .u8 c4.toNat, .int .u8 c5.toNat, .int .u8 c6.toNat, .int .u8 c7.toNat, .int .u8 c8.toNat, .int .u8 c9.toNat, .int .u8 c10.toNat, .int .u8 c11.toNat, .int .u8 c12.toNat, .int .u8 c13.toNat, .int .u8 c14.toNat, .int .u8 c15.toNat, .slice A l.length c] ∧ Below w.heap.size w w1 := by
    intro o w1 h
    have h0 := Mem.new w 26 #[Value.int .i64 (op : Nat), .bool fin, .int .i64 (fl : Nat), .int .i64 (st : Nat), .int .u32 (tag : Nat), .int .u32 (sn : Nat), .int .u32 (ex : Nat), .int .u32 (mx : Nat), .int .u32 (off : Nat), .int .u32 (len : Nat), .int .u8 c0.toNat, .int .u8 c1.toNat, .int .u8 c2.toNat, .int .u8 c3.toNat, .int .u8 c4.toNat, .int .u8 c5.toNat, .int .u8 c6.toNat, .int .u8 c7.toNat, .int .u8 c8.toNat, .int .u8 c9.toNat, .int .u8 c10.toNat, .int .u8 c11.toNat, .int .u8 c12.toNat, .int .u8 c13.toNat, .int .u8 c14.toNat, .int .u8 c15.toNat, .slice A l.length c]
    have h1 : Mem ((w.alloc (.cells #[Value.int .i64 (op : Nat), .bool fin, .int .i64 (fl : Nat), .int .i64 (st : Nat), .int .u32 (tag : Nat), .int .u32 (sn : Nat), .int .u32 (ex : Nat), .int .u32 (mx : Nat), .int .u32 (off : Nat), .int .u32 (len : Nat), .int .u8 c0.toNat, .int .u8 c1.toNat, .int .u8 c2.toNat, .int .u8 c3.toNat, .int .u8 c4.toNat, .int .u8 c5.toNat, .int .u8 c6.toNat, .int .u8 c7.toNat, .int .u8 c8.toNat, .int .u8 c9.toNat, .int .u8 c10.toNat, .int .u8 c11.toNat, .int .u8 c12.toNat, .int .u8 c13.toNat, .int .u8 c14.toNat, .int .u8 c15.toNat, .slice A l.length c] 26)).alloc o) w.heap.size 26 #[Value.int .i64 (op : Nat), .bool fin, .int .i64 (fl : Nat), .int .i64 (st : Nat), .int .u32 (tag : Nat), .int .u32 (sn : Nat), .int .u32 (ex : Nat), .int .u32 (mx : Nat), .int .u32 (off : Nat), .int .u32 (len : Nat), .int .u8 c0.toNat, .int .u8 c1.toNat, .int .u8 c2.toNat, .int .u8 c3.toNat, .int .u8 c4.toNat, .int .u8 c5.toNat, .int .u8 c6.toNat, .int .u8 c7.toNat, .int .u8 c8.toNat, .int .u8 c9.toNat, .int .u8 c10.toNat, .int .u8 c11.toNat, .int .u8 c12.toNat, .int .u8 c13.toNat, .int .u8 c14.toNat, .int .u8 c15.toNat, .slice A l.length c] := h0.alloc o
    exact ⟨h1.below h h1.lt, (((Below.refl _ _).alloc (Nat.le_refl _) _).alloc (by simp) o).trans (h.mono (by simp; omega))⟩
  have hcells : ∀ W, Mem W w.heap.size 26 #[Value.int .i64 (op : Nat), .bool fin, .int .i64 (fl : Nat), .int .i64 (st : Nat), .int .u32 (tag : Nat), .int .u32 (sn : Nat), .int .u32 (ex : Nat), .int .u32 (mx : Nat), .int .u32 (off : Nat), .int .u32 (len : Nat), .int .u8 c0.toNat, .int .u8 c1.toNat, .int .u8 c2.toNat, .int .u8 c3.toNat, .int .u8 c4.toNat, .int .u8 c5.toNat, .int .u8 c6.toNat, .int .u8 c7.toNat, .int .u8 c8.toNat, .int .u8 c9.toNat, .int .u8 c10.toNat, .int .u8 c11.toNat, .int .u8 c12.toNat, .int .u8 c13.toNat, .int .u8 c14.toNat, .int .u8 c15.toNat, .slice A l.length c] → W.cell? ⟨w.heap.size, 4, none⟩ = some (.int .u32 tag) ∧ W.cell? ⟨w.heap.size, 5, none⟩ = some (.int .u32 sn) ∧ W.cell? ⟨w.heap.size, 6, none⟩ = some (.int .u32 ex) ∧ W.cell? ⟨w.heap.size, 7, none⟩ = some (.int .u32 mx) ∧ W.cell? ⟨w.heap.size, 8, none⟩ = some (.int .u32 off) ∧ W.cell? ⟨w.heap.size, 9, none⟩ = some (.int .u32 len) :=
    fun W h => ⟨h.cell 4, h.cell 5, h.cell 6, h.cell 7, h.cell 8, h.cell 9⟩
  have hcdb : ∀ W, Mem W w.heap.size 26 #[Value.int .i64 (op : Nat), .bool fin, .int .i64 (fl : Nat), .int .i64 (st : Nat), .int .u32 (tag : Nat), .int .u32 (sn : Nat), .int .u32 (ex : Nat), .int .u32 (mx : Nat), .int .u32 (off : Nat), .int .u32 (len : Nat), .int .u8 c0.toNat, .int .u8 c1.toNat, .int .u8 c2.toNat, .int .u8 c3.toNat, .int .u8 c4.toNat, .int .u8 c5.toNat, .int .u8 c6.toNat, .int .u8 c7.toNat, .int .u8 c8.toNat, .int .u8 c9.toNat, .int .u8 c10.toNat, .int .u8 c11.toNat, .int .u8 c12.toNat, .int .u8 c13.toNat, .int .u8 c14.toNat, .int .u8 c15.toNat, .slice A l.length c] → Sl W W.heap.size (.slice (some ⟨w.heap.size, 10, none⟩) 16 16) 16 (bs [c0, c1, c2, c3, c4, c5, c6, c7, c8, c9, c10, c11, c12, c13, c14, c15]) := by
    intro W h
    refine ⟨rfl, some ⟨w.heap.size, 10, none⟩, 16, rfl, Nat.le_refl _, by unfold maxLen; omega, fun _ => ⟨w.heap.size, 10, rfl, h.lt, ?_⟩⟩
    intro j u hu
    have hj : j < 16 := (List.getElem?_eq_some_iff.1 hu).1
    rw [h.cell, ← hu]
    match j, hj with
    | 0, _ | 1, _ | 2, _ | 3, _ | 4, _ | 5, _ | 6, _ | 7, _ | 8, _ | 9, _ | 10, _ | 11, _ | 12, _ | 13, _ | 14, _ | 15, _ => rfl
  rw [show pduV (op : Nat) fin (fl : Nat) (st : Nat) tag sn ex mx off len [c0, c1, c2, c3, c4, c5, c6, c7, c8, c9, c10, c11, c12, c13, c14, c15] (.slice A l.length c) = .agg #[Value.int .i64 (op : Nat), .bool fin, .int .i64 (fl : Nat), .int .i64 (st : Nat), .int .u32 (tag : Nat), .int .u32 (sn : Nat), .int .u32 (ex : Nat), .int .u32 (mx : Nat), .int .u32 (off : Nat), .int .u32 (len : Nat), .int .u8 c0.toNat, .int .u8 c1.toNat, .int .u8 c2.toNat, .int .u8 c3.toNat, .int .u8 c4.toNat, .int .u8 c5.toNat, .int .u8 c6.toNat, .int .u8 c7.toNat, .int .u8 c8.toNat, .int .u8 c9.toNat, .int .u8 c10.toNat, .int .u8 c11.toNat, .int .u8 c12.toNat, .int .u8 c13.toNat, .int .u8 c14.toNat, .int .u8 c15.toNat, .slice A l.length c] from rfl]
  go_enter Try.func19, Try.ntmps19
  have hor := u8_or128 fl p2
  cases fin
  · have hF1 : fl = F := by simpa using hF.symm
    subst hF1
    clear hF
    go_wp2_with (go_at_call 28; refine (hput _ _ l.length [UInt8.ofNat op, UInt8.ofNat (fl), UInt8.ofNat st, 0] (by simp) (by omega) (hs0 _ (by simp) _)).mono ?_; rintro e w1 ⟨v1, rfl, hown1, hb1⟩; obtain ⟨hm1, hbw1⟩ := hbox _ _ hb1; obtain ⟨x4, x5, x6, x7, x8, x9⟩ := hcells _ hm1)
    have hsz1 := hb1.size
    go_loopw [4, 41] (fun b i wr => ∃ k base : Nat, k ≤ 6 ∧ w.heap.size ≤ base ∧ base ≤ wr.heap.size ∧ i = .int .i64 k ∧ wr.ownsRow base 5 1 b (frontS op (fl) st l.length [tag, sn, ex, mx, off, len] k).length (bs (frontS op (fl) st l.length [tag, sn, ex, mx, off, len] k)) ∧ Mem wr w.heap.size 26 #[Value.int .i64 (op : Nat), .bool false, .int .i64 (fl : Nat), .int .i64 (st : Nat), .int .u32 (tag : Nat), .int .u32 (sn : Nat), .int .u32 (ex : Nat), .int .u32 (mx : Nat), .int .u32 (off : Nat), .int .u32 (len : Nat), .int .u8 c0.toNat, .int .u8 c1.toNat, .int .u8 c2.toNat, .int .u8 c3.toNat, .int .u8 c4.toNat, .int .u8 c5.toNat, .int .u8 c6.toNat, .int .u8 c7.toNat, .int .u8 c8.toNat, .int .u8 c9.toNat, .int .u8 c10.toNat, .int .u8 c11.toNat, .int .u8 c12.toNat, .int .u8 c13.toNat, .int .u8 c14.toNat, .int .u8 c15.toNat, .slice A l.length c] ∧ Below w.heap.size w wr) (fun _ i _ => 6 - (intOf i).toNat)
    case atStart =>
      refine ⟨0, _, by omega, ?_, hsz1, rfl, ?_, hm1, hbw1⟩
      · simp; omega
      · simpa [frontS] using hown1
    case round =>
      obtain ⟨k, base, hk, hbase, hbase2, rfl, hown, hm, hb⟩ := hrel
      have hfl := frontS_len op (fl) st l.length [tag, sn, ex, mx, off, len] k (by simpa using hk)
      rcases Nat.lt_or_ge k 6 with h6 | h6
      · have hstep : ∀ x, [tag, sn, ex, mx, off, len][k]? = some x → frontS op (fl) st l.length [tag, sn, ex, mx, off, len] k ++ be x 4 = frontS op (fl) st l.length [tag, sn, ex, mx, off, len] (k + 1) := by
          intro x hx
          simp only [frontS, List.take_add_one, hx, Option.toList_some, List.map_append, List.flatten_append, List.map_cons, List.map_nil, List.flatten_cons, List.flatten_nil, List.append_nil, List.append_assoc]
        have hrnd : ∀ x, [tag, sn, ex, mx, off, len][k]? = some x → x < 4294967296 → ∀ b, wr.ownsRow base 5 1 b (frontS op (fl) st l.length [tag, sn, ex, mx, off, len] k).length (bs (frontS op (fl) st l.length [tag, sn, ex, mx, off, len] k)) → Calls Try.prog 28 #[b, .int .u64 (x : Nat), .int .i64 4] wr fun e w' => ∃ v', e = .returned v' ∧ (∃ k' base : Nat, k' ≤ 6 ∧ w.heap.size ≤ base ∧ base ≤ w'.heap.size ∧ Value.int .i64 (k + 1) = .int .i64 (k' : Nat) ∧ w'.ownsRow base 5 1 v' (frontS op (fl) st l.length [tag, sn, ex, mx, off, len] k').length (bs (frontS op (fl) st l.length [tag, sn, ex, mx, off, len] k')) ∧ Mem w' w.heap.size 26 #[Value.int .i64 (op : Nat), .bool false, .int .i64 (fl : Nat), .int .i64 (st : Nat), .int .u32 (tag : Nat), .int .u32 (sn : Nat), .int .u32 (ex : Nat), .int .u32 (mx : Nat), .int .u32 (off : Nat), .int .u32 (len : Nat), .int .u8 c0.toNat, .int .u8 c1.toNat, .int .u8 c2.toNat, .int .u8 c3.toNat, .int .u8 c4.toNat, .int .u8 c5.toNat, .int .u8 c6.toNat, .int .u8 c7.toNat, .int .u8 c8.toNat, .int .u8 c9.toNat, .int .u8 c10.toNat, .int .u8 c11.toNat, .int .u8 c12.toNat, .int .u8 c13.toNat, .int .u8 c14.toNat, .int .u8 c15.toNat, .slice A l.length c] ∧ Below w.heap.size w w') := by
          intro x hx hx2 b hown
          refine (hput wr b x _ (by rw [hfl]; omega) (by omega) (Sl.of_own hown)).mono ?_
          rintro e w' ⟨v', rfl, ho, hb'⟩
          rw [hstep x hx] at ho
          exact ⟨v', rfl, k + 1, wr.heap.size, by omega, hb.size, hb'.size, by simp, ho, hm.below hb' hm.lt, hb.trans (hb'.mono hb.size)⟩
        rcases (show k = 0 ∨ k = 1 ∨ k = 2 ∨ k = 3 ∨ k = 4 ∨ k = 5 by omega) with rfl | rfl | rfl | rfl | rfl | rfl
        all_goals
          have hr := hrnd _ rfl (by assumption) _ hown
          clear hrnd hstep hfl
          obtain ⟨y0, y1, y2, y3, y4, y5⟩ := idx6 tag sn ex mx off len wr
          go_wp2_with (go_at_call 28; refine hr.mono ?_; rintro e w2 ⟨v2, rfl, hrel2⟩)
          obtain ⟨k', base', g1, g2, g3, g4, g5, g6, g7⟩ := hrel2
          exact ⟨⟨k', base', g1, g2, g3, by simpa using g4, g5, g6, g7⟩, by simp [intOf]⟩
      · obtain rfl : k = 6 := by omega
        have hs5 := hcdb _ hm
        have hn6 : (frontS op (fl) st l.length [tag, sn, ex, mx, off, len] 6).length + 16 = 48 := by rw [hfl]
        go_wp2_with (at_builtin; refine wpList_append_sl _ rfl (.tmp 49) (.tmp 51) _ rfl base 5 i0 _ Try.underlying24 hi hz0 hz1 (by omega) rfl _ _ _ rfl hown _ _ 16 (bs [c0, c1, c2, c3, c4, c5, c6, c7, c8, c9, c10, c11, c12, c13, c14, c15]) rfl hs5 bs_one (by omega) hbase2 ?_; intro v5 w5 hown5 hg5 hat5)
        go_ret
        have hb5 : Below w.heap.size w w5 := below_own hb hg5 (by omega) (fun k hk => Nat.le_trans hbase (hown.lt k hk).1)
        rw [← bs_app] at hown5
        rw [hn6] at hown5
        exact ⟨_, rfl, Sl.of_own hown5, hb5⟩
  · obtain rfl : F = fl + 128 := by simpa using hF
    clear hF
    go_wp2_with (go_at_call 28; refine (hput _ _ l.length [UInt8.ofNat op, UInt8.ofNat (fl + 128), UInt8.ofNat st, 0] (by simp) (by omega) (hs0 _ (by simp) _)).mono ?_; rintro e w1 ⟨v1, rfl, hown1, hb1⟩; obtain ⟨hm1, hbw1⟩ := hbox _ _ hb1; obtain ⟨x4, x5, x6, x7, x8, x9⟩ := hcells _ hm1)
    have hsz1 := hb1.size
    go_loopw [4, 41] (fun b i wr => ∃ k base : Nat, k ≤ 6 ∧ w.heap.size ≤ base ∧ base ≤ wr.heap.size ∧ i = .int .i64 k ∧ wr.ownsRow base 5 1 b (frontS op (fl + 128) st l.length [tag, sn, ex, mx, off, len] k).length (bs (frontS op (fl + 128) st l.length [tag, sn, ex, mx, off, len] k)) ∧ Mem wr w.heap.size 26 #[Value.int .i64 (op : Nat), .bool true, .int .i64 (fl : Nat), .int .i64 (st : Nat), .int .u32 (tag : Nat), .int .u32 (sn : Nat), .int .u32 (ex : Nat), .int .u32 (mx : Nat), .int .u32 (off : Nat), .int .u32 (len : Nat), .int .u8 c0.toNat, .int .u8 c1.toNat, .int .u8 c2.toNat, .int .u8 c3.toNat, .int .u8 c4.toNat, .int .u8 c5.toNat, .int .u8 c6.toNat, .int .u8 c7.toNat, .int .u8 c8.toNat, .int .u8 c9.toNat, .int .u8 c10.toNat, .int .u8 c11.toNat, .int .u8 c12.toNat, .int .u8 c13.toNat, .int .u8 c14.toNat, .int .u8 c15.toNat, .slice A l.length c] ∧ Below w.heap.size w wr) (fun _ i _ => 6 - (intOf i).toNat)
    case atStart =>
      refine ⟨0, _, by omega, ?_, hsz1, rfl, ?_, hm1, hbw1⟩
      · simp; omega
      · simpa [frontS] using hown1
    case round =>
      obtain ⟨k, base, hk, hbase, hbase2, rfl, hown, hm, hb⟩ := hrel
      have hfl := frontS_len op (fl + 128) st l.length [tag, sn, ex, mx, off, len] k (by simpa using hk)
      rcases Nat.lt_or_ge k 6 with h6 | h6
      · have hstep : ∀ x, [tag, sn, ex, mx, off, len][k]? = some x → frontS op (fl + 128) st l.length [tag, sn, ex, mx, off, len] k ++ be x 4 = frontS op (fl + 128) st l.length [tag, sn, ex, mx, off, len] (k + 1) := by
          intro x hx
          simp only [frontS, List.take_add_one, hx, Option.toList_some, List.map_append, List.flatten_append, List.map_cons, List.map_nil, List.flatten_cons, List.flatten_nil, List.append_nil, List.append_assoc]
        have hrnd : ∀ x, [tag, sn, ex, mx, off, len][k]? = some x → x < 4294967296 → ∀ b, wr.ownsRow base 5 1 b (frontS op (fl + 128) st l.length [tag, sn, ex, mx, off, len] k).length (bs (frontS op (fl + 128) st l.length [tag, sn, ex, mx, off, len] k)) → Calls Try.prog 28 #[b, .int .u64 (x : Nat), .int .i64 4] wr fun e w' => ∃ v', e = .returned v' ∧ (∃ k' base : Nat, k' ≤ 6 ∧ w.heap.size ≤ base ∧ base ≤ w'.heap.size ∧ Value.int .i64 (k + 1) = .int .i64 (k' : Nat) ∧ w'.ownsRow base 5 1 v' (frontS op (fl + 128) st l.length [tag, sn, ex, mx, off, len] k').length (bs (frontS op (fl + 128) st l.length [tag, sn, ex, mx, off, len] k')) ∧ Mem w' w.heap.size 26 #[Value.int .i64 (op : Nat), .bool true, .int .i64 (fl : Nat), .int .i64 (st : Nat), .int .u32 (tag : Nat), .int .u32 (sn : Nat), .int .u32 (ex : Nat), .int .u32 (mx : Nat), .int .u32 (off : Nat), .int .u32 (len : Nat), .int .u8 c0.toNat, .int .u8 c1.toNat, .int .u8 c2.toNat, .int .u8 c3.toNat, .int .u8 c4.toNat, .int .u8 c5.toNat, .int .u8 c6.toNat, .int .u8 c7.toNat, .int .u8 c8.toNat, .int .u8 c9.toNat, .int .u8 c10.toNat, .int .u8 c11.toNat, .int .u8 c12.toNat, .int .u8 c13.toNat, .int .u8 c14.toNat, .int .u8 c15.toNat, .slice A l.length c] ∧ Below w.heap.size w w') := by
          intro x hx hx2 b hown
          refine (hput wr b x _ (by rw [hfl]; omega) (by omega) (Sl.of_own hown)).mono ?_
          rintro e w' ⟨v', rfl, ho, hb'⟩
          rw [hstep x hx] at ho
          exact ⟨v', rfl, k + 1, wr.heap.size, by omega, hb.size, hb'.size, by simp, ho, hm.below hb' hm.lt, hb.trans (hb'.mono hb.size)⟩
        rcases (show k = 0 ∨ k = 1 ∨ k = 2 ∨ k = 3 ∨ k = 4 ∨ k = 5 by omega) with rfl | rfl | rfl | rfl | rfl | rfl
        all_goals
          have hr := hrnd _ rfl (by assumption) _ hown
          clear hrnd hstep hfl
          obtain ⟨y0, y1, y2, y3, y4, y5⟩ := idx6 tag sn ex mx off len wr
          go_wp2_with (go_at_call 28; refine hr.mono ?_; rintro e w2 ⟨v2, rfl, hrel2⟩)
          obtain ⟨k', base', g1, g2, g3, g4, g5, g6, g7⟩ := hrel2
          exact ⟨⟨k', base', g1, g2, g3, by simpa using g4, g5, g6, g7⟩, by simp [intOf]⟩
      · obtain rfl : k = 6 := by omega
        have hs5 := hcdb _ hm
        have hn6 : (frontS op (fl + 128) st l.length [tag, sn, ex, mx, off, len] 6).length + 16 = 48 := by rw [hfl]
        go_wp2_with (at_builtin; refine wpList_append_sl _ rfl (.tmp 49) (.tmp 51) _ rfl base 5 i0 _ Try.underlying24 hi hz0 hz1 (by omega) rfl _ _ _ rfl hown _ _ 16 (bs [c0, c1, c2, c3, c4, c5, c6, c7, c8, c9, c10, c11, c12, c13, c14, c15]) rfl hs5 bs_one (by omega) hbase2 ?_; intro v5 w5 hown5 hg5 hat5)
        go_ret
        have hb5 : Below w.heap.size w w5 := below_own hb hg5 (by omega) (fun k hk => Nat.le_trans hbase (hown.lt k hk).1)
        rw [← bs_app] at hown5
        rw [hn6] at hown5
        exact ⟨_, rfl, Sl.of_own hown5, hb5⟩
end Go.Proofs.Ytafpaigifemjjaa
