/- Package pdu: there and back, of a whole PDU. -/
import Derived.Test.YtafpaigifemjjaaPd8
import Derived.Test.YtafpaigifemjjaaPd4
namespace Go.Proofs.Ytafpaigifemjjaa
open Go.ChangeShapes Go.WideShapes Go.ChangeAt Go.RowKit
set_option linter.unusedVariables false
theorem front_is (p : Pdh) (n : Nat) : frontS p.op (p.fl + if p.fin then 128 else 0) p.st n [p.tag, p.sn, p.ex, p.mx, p.off, p.len] 6 ++ p.cdb = p.bytes n := by
  simp [frontS, Pdh.bytes]
/-- A PDU's bytes. -/
def encB (p : Pdh) (l : List UInt8) : List UInt8 := encS (p.bytes l.length) l
theorem padS4 (l : List UInt8) : padS l 4 = l ++ List.replicate (padN l.length 4) 0 := by
  unfold padS
  rw [if_neg (by omega)]
  rfl
theorem padN4 (n : Nat) : padN n 4 < 4 ∧ (n + padN n 4) % 4 = 0 := ⟨padN_lt (by omega), (padN_zero (t := 4) (by omega) (Nat.le_refl _)).2 rfl⟩
theorem encB_len (p : Pdh) (l : List UInt8) (h : p.Fit) : (encB p l).length = 52 + if l.length = 0 then 0 else l.length + padN l.length 4 + 4 := by
  unfold encB encS
  rw [List.length_append, Crc.sealS_len, p.bytes_len _ h]
  split
  · rfl
  · rw [Crc.sealS_len, padS4]; simp
theorem encB_take (p : Pdh) (l : List UInt8) (h : p.Fit) : (encB p l).take 52 = Crc.sealS (p.bytes l.length) := by
  unfold encB encS
  exact List.take_left' (by rw [Crc.sealS_len, p.bytes_len _ h])
theorem encB_drop (p : Pdh) (l : List UInt8) (h : p.Fit) (h0 : l.length ≠ 0) : (encB p l).drop 52 = Crc.sealS (padS l 4) := by
  unfold encB encS
  rw [List.drop_left' (by rw [Crc.sealS_len, p.bytes_len _ h]), if_neg h0]
theorem enc_ok (p : Pdh) (h : p.Fit) (hk : pknown (p.op : Nat) = true) (d : Value) (l : List UInt8) (w : World) (hd : Sl w w.heap.size d l.length (bs l)) (hl : l.length ≤ 4096) :
    Calls Try.prog 6 #[p.v d] w fun e w' => ∃ v', e = .returned (.tuple #[v', .int .i64 0]) ∧ Sl w' w'.heap.size v' (encB p l).length (bs (encB p l)) ∧ Below w.heap.size w w' := by
  have he : encB p l = encS (frontS p.op (p.fl + if p.fin then 128 else 0) p.st l.length [p.tag, p.sn, p.ex, p.mx, p.off, p.len] 6 ++ p.cdb) l := by unfold encB; rw [front_is]
  rw [he]
  rcases Nat.eq_zero_or_pos l.length with h0 | h0
  · refine (encode_ok0 p.op p.fl p.st p.tag p.sn p.ex p.mx p.off p.len p.fin p.cdb hk h.op h.fl h.st h.tag h.sn h.ex h.mx h.off h.len h.cdb d l w hd hl h0).mono ?_
    rintro e w' ⟨v', m, e1, rfl, hs, hb⟩
    exact ⟨v', e1, hs, hb⟩
  · refine (encode_ok1 p.op p.fl p.st p.tag p.sn p.ex p.mx p.off p.len p.fin p.cdb hk h.op h.fl h.st h.tag h.sn h.ex h.mx h.off h.len h.cdb d l w hd hl h0).mono ?_
    rintro e w' ⟨v', m, e1, rfl, hs, hb⟩
    exact ⟨v', e1, hs, hb⟩
theorem pdv (p : Pdh) (d : Value) (h : p.cdb.length = 16) : ∃ CS : Array Value, p.v (.slice none 0 0) = .agg CS ∧ CS.size = 27 ∧ CS.all (·.oneCell') = true ∧ ∀ d, p.v d = .agg (CS.setIfInBounds 26 d) := by
  obtain ⟨op, fin, fl, st, tag, sn, ex, mx, off, len, cdb⟩ := p
  obtain ⟨c0, c1, c2, c3, c4, c5, c6, c7, c8, c9, c10, c11, c12, c13, c14, c15, rfl⟩ := cdb16 cdb h
  exact ⟨_, rfl, by kernel_rfl, by kernel_rfl, fun d => rfl⟩
/-- The header of a PDU is read. -/
theorem head_back (p : Pdh) (h : p.Fit) (hk : pknown (p.op : Nat) = true) (n : Nat) (hn : n ≤ 4096) (v : Value) (m : List UInt8) (hm : 52 ≤ m.length) (hm2 : m.length ≤ 8796093022208) (ho : m.take 52 = Crc.sealS (p.bytes n)) (w : World) (hv : Sl w w.heap.size v m.length (bs m)) :
    Calls Try.prog 21 #[v] w fun e w' => e = .returned (.tuple #[p.v (.slice none 0 0), .int .i64 (n : Nat), .int .i64 0]) ∧ Below w.heap.size w w' := by
  obtain ⟨h1, h2⟩ := pdhOf_bytes p n h (by omega)
  have hop := h.op
  have e0 : ((p.bytes n).getD 0 0).toNat = p.op := by
    have h3 : (pdhOf (p.bytes n)).op = p.op := by rw [h1]
    exact h3
  have hr := rh_ok v m (p.bytes n) hm hm2 (by rw [ho, Crc.open_seal]) (p.bytes_len n h) (by rw [e0]; exact hk) rfl (by rw [h2]; omega) w hv
  rw [h1, h2] at hr
  exact hr
/-- A header that is sealed wrong. -/
theorem dec_head_bad (v : Value) (m : List UInt8) (hm : 52 ≤ m.length) (hm2 : m.length ≤ 8796093022208) (ho : Crc.openS (m.take 52) = ([], 4)) (w : World) (hv : Sl w w.heap.size v m.length (bs m)) :
    Calls Try.prog 7 #[v] w fun e w' => e = .returned (.tuple #[zpV, .int .i64 0, .int .i64 4]) ∧ Below w.heap.size w w' :=
  dec_fail v m 4 (by omega) w hv fun W h => rh_bad v m hm hm2 ho W h
theorem dec_short (v : Value) (m : List UInt8) (hm : m.length < 52) (w : World) (hv : Sl w w.heap.size v m.length (bs m)) :
    Calls Try.prog 7 #[v] w fun e w' => e = .returned (.tuple #[zpV, .int .i64 0, .int .i64 3]) ∧ Below w.heap.size w w' :=
  dec_fail v m 3 (by omega) w hv fun W h => rh_short v m hm W h
theorem dec_long (v : Value) (m H : List UInt8) (hm : 52 ≤ m.length) (hm2 : m.length ≤ 8796093022208) (ho : m.take 52 = Crc.sealS H) (hH : H.length = 48) (hk : pknown ((H.getD 0 0).toNat : Nat) = true) (h3 : H.getD 3 0 = 0) (hN : 4096 < beVal ((H.drop 4).take 4)) (w : World) (hv : Sl w w.heap.size v m.length (bs m)) :
    Calls Try.prog 7 #[v] w fun e w' => e = .returned (.tuple #[zpV, .int .i64 0, .int .i64 5]) ∧ Below w.heap.size w w' :=
  dec_fail v m 5 (by omega) w hv fun W h => rh_long v m H hm hm2 (by rw [ho, Crc.open_seal]) hH hk h3 hN W h
/-- Data that is sealed wrong. -/
theorem dec_data_bad (p : Pdh) (h : p.Fit) (hk : pknown (p.op : Nat) = true) (l : List UInt8) (hl : l.length ≤ 4096) (h0 : l.length ≠ 0) (v : Value) (m : List UInt8) (hm : m.length = (encB p l).length) (ho : m.take 52 = Crc.sealS (p.bytes l.length)) (hd : Crc.openS (m.drop 52) = ([], 4)) (w : World) (hv : Sl w w.heap.size v m.length (bs m)) :
    Calls Try.prog 7 #[v] w fun e w' => e = .returned (.tuple #[zpV, .int .i64 0, .int .i64 4]) ∧ Below w.heap.size w w' := by
  have hlen := encB_len p l h
  rw [if_neg h0] at hlen
  have hp := padN4 l.length
  obtain ⟨CS, e1, e2, e3, e4⟩ := pdv p .nilFunc h.cdb
  refine dec_dbad v m (by omega) CS e2 e3 l.length w hv (fun W hW => ?_) (fun v' W hW => ?_)
  · have := head_back p h hk l.length hl v m (by omega) (by omega) ho W hW
    rw [e1] at this
    exact this
  · exact rd_bad v' (m.drop 52) l.length (padN l.length 4) (by omega) hl hp.2 (by omega) (by rw [List.length_drop]; omega) (by rw [List.length_drop]; omega) (by rw [List.take_of_length_le (by rw [List.length_drop]; omega)]; exact hd) W hW
/-- There and back. -/
theorem dec_enc (p : Pdh) (h : p.Fit) (hk : pknown (p.op : Nat) = true) (l : List UInt8) (hl : l.length ≤ 4096) (v : Value) (w : World) (hv : Sl w w.heap.size v (encB p l).length (bs (encB p l))) :
    Calls Try.prog 7 #[v] w fun e w' => ∃ v2, e = .returned (.tuple #[p.v v2, .int .i64 ((encB p l).length : Nat), .int .i64 0]) ∧ Sl w' w'.heap.size v2 l.length (bs l) ∧ Below w.heap.size w w' ∧ Crc.Fr w.heap.size v2 := by
  have hlen := encB_len p l h
  have hp := padN4 l.length
  obtain ⟨CS, e1, e2, e3, e4⟩ := pdv p .nilFunc h.cdb
  by_cases h0 : l.length = 0
  · rw [if_pos h0] at hlen
    have h0' : l = [] := List.length_eq_zero_iff.1 h0
    refine (dec_ok0 v (encB p l) (by omega) CS e2 e3 w hv (fun W hW => ?_)).mono ?_
    · have := head_back p h hk l.length hl v (encB p l) (by omega) (by omega) (encB_take p l h) W hW
      rw [e1, h0] at this
      exact this
    · rintro e w' ⟨rfl, hb⟩
      refine ⟨.slice none 0 0, by rw [hlen, e4]; rfl, ?_, hb, Crc.Fr.nil⟩
      subst h0'
      exact Sl.nil_
  · rw [if_neg h0] at hlen
    have hdl : ((encB p l).drop 52).length = l.length + padN l.length 4 + 4 := by rw [List.length_drop]; omega
    refine (dec_ok1 v (encB p l) (by omega) CS e2 e3 l.length (l.length + padN l.length 4 + 4) l.length (by omega) (bs l) w hv (fun W hW => ?_) (fun v' W hW => ?_)).mono ?_
    · have := head_back p h hk l.length hl v (encB p l) (by omega) (by omega) (encB_take p l h) W hW
      rw [e1] at this
      exact this
    · refine rd_ok v' ((encB p l).drop 52) l l.length (padN l.length 4) (by omega) hl hp.2 (by omega) (by omega) (by omega) rfl ?_ W hW
      rw [List.take_of_length_le (by omega), encB_drop p l h h0, Crc.open_seal, padS4]
    · rintro e w' ⟨v2, rfl, hs, hb, hf⟩
      exact ⟨v2, by rw [hlen, e4], hs, hb, hf⟩
end Go.Proofs.Ytafpaigifemjjaa
