/- Package pdu: Encode: a contract. -/
import Derived.Test.YtafpaigifemjjaaPd2
import Derived.Test.YtafpaigifemjjaaSealP
namespace Go.Proofs.Ytafpaigifemjjaa
open Go.ChangeShapes Go.WideShapes Go.ChangeAt Go.RowKit
set_option linter.unusedVariables false
/-- What Encode tells, of a header's bytes and the data. -/
def encS (H l : List UInt8) : List UInt8 := Crc.sealS H ++ if l.length = 0 then [] else Crc.sealS (padS l 4)
theorem padS_len4 (l : List UInt8) (h : l.length ≤ 4096) : (padS l 4).length ≤ 4099 := by
  unfold padS
  rw [if_neg (by omega)]
  have := padN_lt (n := l.length) (t := (4 : Int).toNat) (by decide)
  simp only [List.length_append, List.length_replicate]
  have h4 : (4 : Int).toNat = 4 := rfl
  omega
set_option maxHeartbeats 8000000 in
theorem encode_ok0 (op fl st tag sn ex mx off len : Nat) (fin : Bool) (cdb : List UInt8) (hk : pknown (op : Nat) = true) (p1 : op < 256) (p2 : fl < 128) (p3 : st < 256) (p4 : tag < 4294967296) (p5 : sn < 4294967296) (p6 : ex < 4294967296) (p7 : mx < 4294967296) (p8 : off < 4294967296) (p9 : len < 4294967296) (hc : cdb.length = 16) (d : Value) (l : List UInt8) (w : World) (hd : Sl w w.heap.size d l.length (bs l)) (hl : l.length ≤ 4096) (hl0 : l.length = 0) :
    Calls Try.prog 6 #[pduV op fin fl st tag sn ex mx off len cdb d] w fun e w' => ∃ v' m, e = .returned (.tuple #[v', .int .i64 0]) ∧ m = (encS (frontS op (fl + if fin then 128 else 0) st l.length [tag, sn, ex, mx, off, len] 6 ++ cdb) l).length ∧ Sl w' w'.heap.size v' m (bs (encS (frontS op (fl + if fin then 128 else 0) st l.length [tag, sn, ex, mx, off, len] 6 ++ cdb) l)) ∧ Below w.heap.size w w' := by
  have hhead0 := fun W hd' => phead_at op fl st tag sn ex mx off len fin cdb p1 p2 p3 p4 p5 p6 p7 p8 p9 hc d l W hd' hl
  have hHl : (frontS op (fl + if fin then 128 else 0) st l.length [tag, sn, ex, mx, off, len] 6 ++ cdb).length = 48 := by rw [List.length_append, frontS_len _ _ _ _ _ _ (by simp), hc]
  generalize frontS op (fl + if fin then 128 else 0) st l.length [tag, sn, ex, mx, off, len] 6 ++ cdb = H at *
  obtain ⟨c0, c1, c2, c3, c4, c5, c6, c7, c8, c9, c10, c11, c12, c13, c14, c15, rfl⟩ := cdb16 cdb hc
  obtain ⟨A, c, rfl, hc1, hc2⟩ := hd.form
  unfold maxLen at hc2
  obtain ⟨i0, hi, hz0, hz1, hz2⟩ := info_parts info_u8
  have hpl := padS_len4 l hl
  have hsl1 := Crc.sealS_len H
  have hsl2 := Crc.sealS_len (padS l 4)
  have hes : encS H l = Crc.sealS H ++ if l.length = 0 then [] else Crc.sealS (padS l 4) := rfl
  generalize hn : l.length = n at *
  have hV : pduV (op : Nat) fin (fl : Nat) (st : Nat) tag sn ex mx off len [c0, c1, c2, c3, c4, c5, c6, c7, c8, c9, c10, c11, c12, c13, c14, c15] (.slice A n c) = .agg #[Value.int .i64 (op : Nat), .bool fin, .int .i64 (fl : Nat), .int .i64 (st : Nat), .int .u32 (tag : Nat), .int .u32 (sn : Nat), .int .u32 (ex : Nat), .int .u32 (mx : Nat), .int .u32 (off : Nat), .int .u32 (len : Nat), .int .u8 c0.toNat, .int .u8 c1.toNat, .int .u8 c2.toNat, .int .u8 c3.toNat, .int .u8 c4.toNat, .int .u8 c5.toNat, .int .u8 c6.toNat, .int .u8 c7.toNat, .int .u8 c8.toNat, .int .u8 c9.toNat, .int .u8 c10.toNat, .int .u8 c11.toNat, .int .u8 c12.toNat, .int .u8 c13.toNat, .int .u8 c14.toNat, .int .u8 c15.toNat, .slice A n c] := rfl
  have hnx : (n : Int) ≤ 4096 := by omega
  have HES := Lib.hid hes
  clear hes
  have hpad : ∀ W, Sl W W.heap.size (.slice A n c) n (bs l) → Calls Try.prog 20 #[.slice A n c, .int .i64 4] W fun e w' => ∃ v', e = .returned v' ∧ w'.ownsRow W.heap.size 5 1 v' (padS l 4).length (bs (padS l 4)) ∧ Below W.heap.size W w' := by
    intro W h
    exact pad_any _ l 4 W (by rw [hn]; exact h) (by omega) (by omega) (by omega)
  have hhead : ∀ W, Sl W W.heap.size (.slice A n c) n (bs l) → Calls Try.prog 19 #[.agg #[Value.int .i64 (op : Nat), .bool fin, .int .i64 (fl : Nat), .int .i64 (st : Nat), .int .u32 (tag : Nat), .int .u32 (sn : Nat), .int .u32 (ex : Nat), .int .u32 (mx : Nat), .int .u32 (off : Nat), .int .u32 (len : Nat), .int .u8 c0.toNat, .int .u8 c1.toNat, .int .u8 c2.toNat, .int .u8 c3.toNat, .int .u8 c4.toNat, .int .u8 c5.toNat, .int .u8 c6.toNat, .int .u8 c7.toNat, .int .u8 c8.toNat, .int .u8 c9.toNat, .int .u8 c10.toNat, .int .u8 c11.toNat, .int .u8 c12.toNat, .int .u8 c13.toNat, .int .u8 c14.toNat, .int .u8 c15.toNat, .slice A n c]] W fun e w' => ∃ v', e = .returned v' ∧ Sl w' w'.heap.size v' H.length (bs H) ∧ Below W.heap.size W w' := by
    intro W h
    rw [hHl]
    have h2 := hhead0 W h
    rw [hV] at h2
    exact h2
  have hdx : ∀ o, Sl (w.alloc o) (w.alloc o).heap.size (.slice A n c) n (bs l) := fun o => (hd.alloc (Nat.le_refl _) o).more (by simp)
  have hbox : ∀ w1, Below (w.alloc (.cells #[Value.int .i64 (op : Nat), .bool fin, .int .i64 (fl : Nat), .int .i64 (st : Nat), .int .u32 (tag : Nat), .int .u32 (sn : Nat), .int .u32 (ex : Nat), .int .u32 (mx : Nat), .int .u32 (off : Nat), .int .u32 (len : Nat), .int .u8 c0.toNat, .int .u8 c1.toNat, .int .u8 c2.toNat, .int .u8 c3.toNat, .int .u8 c4.toNat, .int .u8 c5.toNat, .int .u8 c6.toNat, .int .u8 c7.toNat, .int .u8 c8.toNat, .int .u8 c9.toNat, .int .u8 c10.toNat, .int .u8 c11.toNat, .int .u8 c12.toNat, .int .u8 c13.toNat, .int .u8 c14.toNat, .int .u8 c15.toNat, .slice A n c] 26)).heap.size (w.alloc (.cells #[Value.int .i64 (op : Nat), .bool fin, .int .i64 (fl : Nat), .int .i64 (st : Nat), .int .u32 (tag : Nat), .int .u32 (sn : Nat), .int .u32 (ex : Nat), .int .u32 (mx : Nat), .int .u32 (off : Nat), .int .u32 (len : Nat), .int .u8 c0.toNat, .int .u8 c1.toNat, .int .u8 c2.toNat, .int .u8 c3.toNat, .int .u8 c4.toNat, .int .u8 c5.toNat, .int .u8 c6.toNat, .int .u8 c7.toNat, .int .u8 c8.toNat, .int .u8 c9.toNat, .int .u8 c10.toNat, .int .u8 c11.toNat, .int .u8 c12.toNat, .int .u8 c13.toNat, .int .u8 c14.toNat, .int .u8 c15.toNat, .slice A n c] 26)) w1 → Mem w1 w.heap.size 26 #[Value.int .i64 (op : Nat), .bool fin, .int .i64 (fl : Nat), .int .i64 (st : Nat), .int .u32 (tag : Nat), .int .u32 (sn : Nat), .int .u32 (ex : Nat), .int .u32 (mx : Nat), .int .u32 (off : Nat), .int .u32 (len : Nat), .int .u8 c0.toNat, .int .u8 c1.toNat, .int .u8 c2.toNat, .int .u8 c3.toNat, .int .u8 c4.toNat, .int .u8 c5.toNat, .int .u8 c6.toNat, .int .u8 c7.toNat, .int .u8 c8.toNat, .int .u8 c9.toNat, .int .u8 c10.toNat, .int .u8 c11.toNat, .int .u8 c12.toNat, .int .u8 c13.toNat, .int .u8 c14.toNat, .int .u8 c15.toNat, .slice A n c] ∧ Below w.heap.size w w1 := by
    intro w1 h
    have h0 := Mem.new w 26 #[Value.int .i64 (op : Nat), .bool fin, .int .i64 (fl : Nat), .int .i64 (st : Nat), .int .u32 (tag : Nat), .int .u32 (sn : Nat), .int .u32 (ex : Nat), .int .u32 (mx : Nat), .int .u32 (off : Nat), .int .u32 (len : Nat), .int .u8 c0.toNat, .int .u8 c1.toNat, .int .u8 c2.toNat, .int .u8 c3.toNat, .int .u8 c4.toNat, .int .u8 c5.toNat, .int .u8 c6.toNat, .int .u8 c7.toNat, .int .u8 c8.toNat, .int .u8 c9.toNat, .int .u8 c10.toNat, .int .u8 c11.toNat, .int .u8 c12.toNat, .int .u8 c13.toNat, .int .u8 c14.toNat, .int .u8 c15.toNat, .slice A n c]
    exact ⟨h0.below h h0.lt, ((Below.refl _ _).alloc (Nat.le_refl _) _).trans (h.mono (by simp))⟩
  have hcells : ∀ W, Mem W w.heap.size 26 #[Value.int .i64 (op : Nat), .bool fin, .int .i64 (fl : Nat), .int .i64 (st : Nat), .int .u32 (tag : Nat), .int .u32 (sn : Nat), .int .u32 (ex : Nat), .int .u32 (mx : Nat), .int .u32 (off : Nat), .int .u32 (len : Nat), .int .u8 c0.toNat, .int .u8 c1.toNat, .int .u8 c2.toNat, .int .u8 c3.toNat, .int .u8 c4.toNat, .int .u8 c5.toNat, .int .u8 c6.toNat, .int .u8 c7.toNat, .int .u8 c8.toNat, .int .u8 c9.toNat, .int .u8 c10.toNat, .int .u8 c11.toNat, .int .u8 c12.toNat, .int .u8 c13.toNat, .int .u8 c14.toNat, .int .u8 c15.toNat, .slice A n c] → W.cell? ⟨w.heap.size, 26, none⟩ = some (.slice A n c) := fun W h => h.cell 26
  rw [hV]
  clear hV
  clear hhead0 hc
  have d1 : decide ((fl : Int) < 0) = false := decide_eq_false (by omega)
  have d2 : decide ((127 : Int) < (fl : Int)) = false := decide_eq_false (by omega)
  have d3 : decide ((st : Int) < 0) = false := decide_eq_false (by omega)
  have d4 : decide ((255 : Int) < (st : Int)) = false := decide_eq_false (by omega)
  subst hl0
  clear hnx hl hc1
  have HN := Lib.hid hn
  clear hn
  go_enter Try.func6, Try.ntmps6
  go_wp2_with (first
    | (refine wpList_load_row rfl 26 (.tmp 1) rfl w.heap.size rfl 26 #[Value.int .i64 (op : Nat), .bool fin, .int .i64 (fl : Nat), .int .i64 (st : Nat), .int .u32 (tag : Nat), .int .u32 (sn : Nat), .int .u32 (ex : Nat), .int .u32 (mx : Nat), .int .u32 (off : Nat), .int .u32 (len : Nat), .int .u8 c0.toNat, .int .u8 c1.toNat, .int .u8 c2.toNat, .int .u8 c3.toNat, .int .u8 c4.toNat, .int .u8 c5.toNat, .int .u8 c6.toNat, .int .u8 c7.toNat, .int .u8 c8.toNat, .int .u8 c9.toNat, .int .u8 c10.toNat, .int .u8 c11.toNat, .int .u8 c12.toNat, .int .u8 c13.toNat, .int .u8 c14.toNat, .int .u8 c15.toNat, .slice A 0 c] (0, 0) _ (Mem.new w _ _) Try.underlying26 rfl (by kernel_rfl) ?_)
    | (go_at_call 17; refine (pknown_any _ _).mono ?_; rw [hk]; rintro e w' ⟨rfl, rfl⟩)
    | (go_at_call 19; refine (hhead _ (hdx _)).mono ?_; rintro e w1 ⟨v1, rfl, hs1, hb1⟩; obtain ⟨hm1, hbw1⟩ := hbox _ hb1)
    | (go_at_call 18; refine (Crc.seal_any _ H _ hs1 (by omega)).mono ?_; rintro e w2 ⟨v2, rfl, hown2, hb2⟩; have hx26 := hcells _ (hm1.below hb2 hm1.lt)))
  go_ret2
  exact ⟨v2, _, rfl, rfl, by rw [HES.out]; simp only [if_true, List.append_nil]; exact Sl.of_own hown2, hbw1.trans (hb2.mono hbw1.size)⟩
set_option maxHeartbeats 8000000 in
theorem encode_ok1 (op fl st tag sn ex mx off len : Nat) (fin : Bool) (cdb : List UInt8) (hk : pknown (op : Nat) = true) (p1 : op < 256) (p2 : fl < 128) (p3 : st < 256) (p4 : tag < 4294967296) (p5 : sn < 4294967296) (p6 : ex < 4294967296) (p7 : mx < 4294967296) (p8 : off < 4294967296) (p9 : len < 4294967296) (hc : cdb.length = 16) (d : Value) (l : List UInt8) (w : World) (hd : Sl w w.heap.size d l.length (bs l)) (hl : l.length ≤ 4096) (hl0 : 0 < l.length) :
    Calls Try.prog 6 #[pduV op fin fl st tag sn ex mx off len cdb d] w fun e w' => ∃ v' m, e = .returned (.tuple #[v', .int .i64 0]) ∧ m = (encS (frontS op (fl + if fin then 128 else 0) st l.length [tag, sn, ex, mx, off, len] 6 ++ cdb) l).length ∧ Sl w' w'.heap.size v' m (bs (encS (frontS op (fl + if fin then 128 else 0) st l.length [tag, sn, ex, mx, off, len] 6 ++ cdb) l)) ∧ Below w.heap.size w w' := by
  have hhead0 := fun W hd' => phead_at op fl st tag sn ex mx off len fin cdb p1 p2 p3 p4 p5 p6 p7 p8 p9 hc d l W hd' hl
  have hHl : (frontS op (fl + if fin then 128 else 0) st l.length [tag, sn, ex, mx, off, len] 6 ++ cdb).length = 48 := by rw [List.length_append, frontS_len _ _ _ _ _ _ (by simp), hc]
  generalize frontS op (fl + if fin then 128 else 0) st l.length [tag, sn, ex, mx, off, len] 6 ++ cdb = H at *
  obtain ⟨c0, c1, c2, c3, c4, c5, c6, c7, c8, c9, c10, c11, c12, c13, c14, c15, rfl⟩ := cdb16 cdb hc
  obtain ⟨A, c, rfl, hc1, hc2⟩ := hd.form
  unfold maxLen at hc2
  obtain ⟨i0, hi, hz0, hz1, hz2⟩ := info_parts info_u8
  have hpl := padS_len4 l hl
  have hsl1 := Crc.sealS_len H
  have hsl2 := Crc.sealS_len (padS l 4)
  have hes : encS H l = Crc.sealS H ++ if l.length = 0 then [] else Crc.sealS (padS l 4) := rfl
  generalize hn : l.length = n at *
  have hV : pduV (op : Nat) fin (fl : Nat) (st : Nat) tag sn ex mx off len [c0, c1, c2, c3, c4, c5, c6, c7, c8, c9, c10, c11, c12, c13, c14, c15] (.slice A n c) = .agg #[Value.int .i64 (op : Nat), .bool fin, .int .i64 (fl : Nat), .int .i64 (st : Nat), .int .u32 (tag : Nat), .int .u32 (sn : Nat), .int .u32 (ex : Nat), .int .u32 (mx : Nat), .int .u32 (off : Nat), .int .u32 (len : Nat), .int .u8 c0.toNat, .int .u8 c1.toNat, .int .u8 c2.toNat, .int .u8 c3.toNat, .int .u8 c4.toNat, .int .u8 c5.toNat, .int .u8 c6.toNat, .int .u8 c7.toNat, .int .u8 c8.toNat, .int .u8 c9.toNat, .int .u8 c10.toNat, .int .u8 c11.toNat, .int .u8 c12.toNat, .int .u8 c13.toNat, .int .u8 c14.toNat, .int .u8 c15.toNat, .slice A n c] := rfl
  have hnx : (n : Int) ≤ 4096 := by omega
  have HES := Lib.hid hes
  clear hes
  have hpad : ∀ W, Sl W W.heap.size (.slice A n c) n (bs l) → Calls Try.prog 20 #[.slice A n c, .int .i64 4] W fun e w' => ∃ v', e = .returned v' ∧ w'.ownsRow W.heap.size 5 1 v' (padS l 4).length (bs (padS l 4)) ∧ Below W.heap.size W w' := by
    intro W h
    exact pad_any _ l 4 W (by rw [hn]; exact h) (by omega) (by omega) (by omega)
  have hhead : ∀ W, Sl W W.heap.size (.slice A n c) n (bs l) → Calls Try.prog 19 #[.agg #[Value.int .i64 (op : Nat), .bool fin, .int .i64 (fl : Nat), .int .i64 (st : Nat), .int .u32 (tag : Nat), .int .u32 (sn : Nat), .int .u32 (ex : Nat), .int .u32 (mx : Nat), .int .u32 (off : Nat), .int .u32 (len : Nat), .int .u8 c0.toNat, .int .u8 c1.toNat, .int .u8 c2.toNat, .int .u8 c3.toNat, .int .u8 c4.toNat, .int .u8 c5.toNat, .int .u8 c6.toNat, .int .u8 c7.toNat, .int .u8 c8.toNat, .int .u8 c9.toNat, .int .u8 c10.toNat, .int .u8 c11.toNat, .int .u8 c12.toNat, .int .u8 c13.toNat, .int .u8 c14.toNat, .int .u8 c15.toNat, .slice A n c]] W fun e w' => ∃ v', e = .returned v' ∧ Sl w' w'.heap.size v' H.length (bs H) ∧ Below W.heap.size W w' := by
    intro W h
    rw [hHl]
    have h2 := hhead0 W h
    rw [hV] at h2
    exact h2
  have hdx : ∀ o, Sl (w.alloc o) (w.alloc o).heap.size (.slice A n c) n (bs l) := fun o => (hd.alloc (Nat.le_refl _) o).more (by simp)
  have hbox : ∀ w1, Below (w.alloc (.cells #[Value.int .i64 (op : Nat), .bool fin, .int .i64 (fl : Nat), .int .i64 (st : Nat), .int .u32 (tag : Nat), .int .u32 (sn : Nat), .int .u32 (ex : Nat), .int .u32 (mx : Nat), .int .u32 (off : Nat), .int .u32 (len : Nat), .int .u8 c0.toNat, .int .u8 c1.toNat, .int .u8 c2.toNat, .int .u8 c3.toNat, .int .u8 c4.toNat, .int .u8 c5.toNat, .int .u8 c6.toNat, .int .u8 c7.toNat, .int .u8 c8.toNat, .int .u8 c9.toNat, .int .u8 c10.toNat, .int .u8 c11.toNat, .int .u8 c12.toNat, .int .u8 c13.toNat, .int .u8 c14.toNat, .int .u8 c15.toNat, .slice A n c] 26)).heap.size (w.alloc (.cells #[Value.int .i64 (op : Nat), .bool fin, .int .i64 (fl : Nat), .int .i64 (st : Nat), .int .u32 (tag : Nat), .int .u32 (sn : Nat), .int .u32 (ex : Nat), .int .u32 (mx : Nat), .int .u32 (off : Nat), .int .u32 (len : Nat), .int .u8 c0.toNat, .int .u8 c1.toNat, .int .u8 c2.toNat, .int .u8 c3.toNat, .int .u8 c4.toNat, .int .u8 c5.toNat, .int .u8 c6.toNat, .int .u8 c7.toNat, .int .u8 c8.toNat, .int .u8 c9.toNat, .int .u8 c10.toNat, .int .u8 c11.toNat, .int .u8 c12.toNat, .int .u8 c13.toNat, .int .u8 c14.toNat, .int .u8 c15.toNat, .slice A n c] 26)) w1 → Mem w1 w.heap.size 26 #[Value.int .i64 (op : Nat), .bool fin, .int .i64 (fl : Nat), .int .i64 (st : Nat), .int .u32 (tag : Nat), .int .u32 (sn : Nat), .int .u32 (ex : Nat), .int .u32 (mx : Nat), .int .u32 (off : Nat), .int .u32 (len : Nat), .int .u8 c0.toNat, .int .u8 c1.toNat, .int .u8 c2.toNat, .int .u8 c3.toNat, .int .u8 c4.toNat, .int .u8 c5.toNat, .int .u8 c6.toNat, .int .u8 c7.toNat, .int .u8 c8.toNat, .int .u8 c9.toNat, .int .u8 c10.toNat, .int .u8 c11.toNat, .int .u8 c12.toNat, .int .u8 c13.toNat, .int .u8 c14.toNat, .int .u8 c15.toNat, .slice A n c] ∧ Below w.heap.size w w1 := by
    intro w1 h
    have h0 := Mem.new w 26 #[Value.int .i64 (op : Nat), .bool fin, .int .i64 (fl : Nat), .int .i64 (st : Nat), .int .u32 (tag : Nat), .int .u32 (sn : Nat), .int .u32 (ex : Nat), .int .u32 (mx : Nat), .int .u32 (off : Nat), .int .u32 (len : Nat), .int .u8 c0.toNat, .int .u8 c1.toNat, .int .u8 c2.toNat, .int .u8 c3.toNat, .int .u8 c4.toNat, .int .u8 c5.toNat, .int .u8 c6.toNat, .int .u8 c7.toNat, .int .u8 c8.toNat, .int .u8 c9.toNat, .int .u8 c10.toNat, .int .u8 c11.toNat, .int .u8 c12.toNat, .int .u8 c13.toNat, .int .u8 c14.toNat, .int .u8 c15.toNat, .slice A n c]
    exact ⟨h0.below h h0.lt, ((Below.refl _ _).alloc (Nat.le_refl _) _).trans (h.mono (by simp))⟩
  have hcells : ∀ W, Mem W w.heap.size 26 #[Value.int .i64 (op : Nat), .bool fin, .int .i64 (fl : Nat), .int .i64 (st : Nat), .int .u32 (tag : Nat), .int .u32 (sn : Nat), .int .u32 (ex : Nat), .int .u32 (mx : Nat), .int .u32 (off : Nat), .int .u32 (len : Nat), .int .u8 c0.toNat, .int .u8 c1.toNat, .int .u8 c2.toNat, .int .u8 c3.toNat, .int .u8 c4.toNat, .int .u8 c5.toNat, .int .u8 c6.toNat, .int .u8 c7.toNat, .int .u8 c8.toNat, .int .u8 c9.toNat, .int .u8 c10.toNat, .int .u8 c11.toNat, .int .u8 c12.toNat, .int .u8 c13.toNat, .int .u8 c14.toNat, .int .u8 c15.toNat, .slice A n c] → W.cell? ⟨w.heap.size, 26, none⟩ = some (.slice A n c) := fun W h => h.cell 26
  rw [hV]
  clear hV
  clear hhead0 hc
  have d1 : decide ((fl : Int) < 0) = false := decide_eq_false (by omega)
  have d2 : decide ((127 : Int) < (fl : Int)) = false := decide_eq_false (by omega)
  have d3 : decide ((st : Int) < 0) = false := decide_eq_false (by omega)
  have d4 : decide ((255 : Int) < (st : Int)) = false := decide_eq_false (by omega)
  go_enter Try.func6, Try.ntmps6
  have HN := Lib.hid hn
  clear hn
  go_wp2_with (first
    | (refine wpList_load_row rfl 26 (.tmp 1) rfl w.heap.size rfl 26 #[Value.int .i64 (op : Nat), .bool fin, .int .i64 (fl : Nat), .int .i64 (st : Nat), .int .u32 (tag : Nat), .int .u32 (sn : Nat), .int .u32 (ex : Nat), .int .u32 (mx : Nat), .int .u32 (off : Nat), .int .u32 (len : Nat), .int .u8 c0.toNat, .int .u8 c1.toNat, .int .u8 c2.toNat, .int .u8 c3.toNat, .int .u8 c4.toNat, .int .u8 c5.toNat, .int .u8 c6.toNat, .int .u8 c7.toNat, .int .u8 c8.toNat, .int .u8 c9.toNat, .int .u8 c10.toNat, .int .u8 c11.toNat, .int .u8 c12.toNat, .int .u8 c13.toNat, .int .u8 c14.toNat, .int .u8 c15.toNat, .slice A n c] (0, 0) _ (Mem.new w _ _) Try.underlying26 rfl (by kernel_rfl) ?_)
    | (go_at_call 17; refine (pknown_any _ _).mono ?_; rw [hk]; rintro e w' ⟨rfl, rfl⟩)
    | (go_at_call 19; refine (hhead _ (hdx _)).mono ?_; rintro e w1 ⟨v1, rfl, hs1, hb1⟩; obtain ⟨hm1, hbw1⟩ := hbox _ hb1)
    | (have hq3 := Sl.of_own hown3; go_at_call 18; refine (Crc.seal_any _ (padS l 4) _ hq3 (by omega)).mono ?_; rintro e w4 ⟨v4, rfl, hown4, hb4⟩; have hown24 := own_below hown23 hb4; have hs4 := Sl.of_own hown4; have hz12 := hb2.size; have hz23 := hb3.size; have hz34 := hb4.size)
    | (go_at_call 18; refine (Crc.seal_any _ H _ hs1 (by omega)).mono ?_; rintro e w2 ⟨v2, rfl, hown2, hb2⟩; have hx26 := hcells _ (hm1.below hb2 hm1.lt); have hbw2 := hbw1.trans (hb2.mono hbw1.size); have hd2 := (hd.below hbw2).more hbw2.size)
    | (go_at_call 20; refine (hpad _ hd2).mono ?_; rintro e w3 ⟨v3, rfl, hown3, hb3⟩; have hown23 := own_below hown2 hb3)
    | (at_builtin; refine wpList_append_sl _ rfl (.tmp 41) (.tmp 45) _ rfl w1.heap.size 5 i0 _ Try.underlying24 hi hz0 hz1 (by omega) rfl _ _ _ rfl hown24 _ _ _ _ rfl hs4 bs_one (by omega) (by omega) ?_; intro v5 w5 hown5 hg5 hat5))
  go_ret2
  have hbw3 := hbw2.trans (hb3.mono hbw2.size)
  have hbw4 := hbw3.trans (hb4.mono hbw3.size)
  have hb5 : Below w.heap.size w w5 := below_own hbw4 hg5 hbw4.size (fun k hk => Nat.le_trans hbw1.size (hown24.lt k hk).1)
  rw [← bs_app] at hown5
  refine ⟨v5, _, rfl, ?_, by rw [HES.out, if_neg (by omega)]; exact Sl.of_own hown5, hb5⟩
  rw [HES.out, if_neg (by omega), List.length_append]
end Go.Proofs.Ytafpaigifemjjaa
