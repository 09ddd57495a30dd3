/- Package pdu: plain facts: a PDU's bytes, and what they tell (no program is named but through PutB). -/
import Derived.Test.YtafpaigifemjjaaPutB
import Derived.Test.YtafpaigifemjjaaCrcF
namespace Go.Proofs.Ytafpaigifemjjaa
open Go.ChangeShapes Go.WideShapes Go.ChangeAt Go.RowKit
set_option linter.unusedVariables false
/-- A PDU but its data. -/
structure Pdh where
  op : Nat
  fin : Bool
  fl : Nat
  st : Nat
  tag : Nat
  sn : Nat
  ex : Nat
  mx : Nat
  off : Nat
  len : Nat
  cdb : List UInt8
/-- Its numbers are of their sizes. -/
structure Pdh.Fit (p : Pdh) : Prop where
  op : p.op < 256
  fl : p.fl < 128
  st : p.st < 256
  tag : p.tag < 4294967296
  sn : p.sn < 4294967296
  ex : p.ex < 4294967296
  mx : p.mx < 4294967296
  off : p.off < 4294967296
  len : p.len < 4294967296
  cdb : p.cdb.length = 16
def Pdh.bytes (p : Pdh) (n : Nat) : List UInt8 :=
  [UInt8.ofNat p.op, UInt8.ofNat (p.fl + if p.fin then 128 else 0), UInt8.ofNat p.st, 0] ++ (be n 4 ++ (be p.tag 4 ++ (be p.sn 4 ++ (be p.ex 4 ++ (be p.mx 4 ++ (be p.off 4 ++ (be p.len 4 ++ p.cdb)))))))
theorem Pdh.bytes_len (p : Pdh) (n : Nat) (h : p.Fit) : (p.bytes n).length = 48 := by simp [Pdh.bytes, h.cdb]
/-- What a header's bytes tell. -/
def pdhOf (l : List UInt8) : Pdh where
  op := (l.getD 0 0).toNat
  fin := decide (128 ≤ (l.getD 1 0).toNat)
  fl := (l.getD 1 0).toNat % 128
  st := (l.getD 2 0).toNat
  tag := beVal ((l.drop 8).take 4)
  sn := beVal ((l.drop 12).take 4)
  ex := beVal ((l.drop 16).take 4)
  mx := beVal ((l.drop 20).take 4)
  off := beVal ((l.drop 24).take 4)
  len := beVal ((l.drop 28).take 4)
  cdb := l.drop 32
theorem word_at (a : List UInt8) (x : Nat) (r : List UInt8) (k : Nat) (hk : a.length = k) (hx : x < 4294967296) : beVal (((a ++ (be x 4 ++ r)).drop k).take 4) = x := by
  rw [List.drop_left' hk, List.take_left' (be_len x 4), beVal_be4 hx]
theorem pdhOf_bytes (p : Pdh) (n : Nat) (h : p.Fit) (hn : n < 4294967296) : pdhOf (p.bytes n) = p ∧ beVal (((p.bytes n).drop 4).take 4) = n := by
  have hw : ∀ (a b : List UInt8) (x : Nat) (r : List UInt8) (k : Nat), p.bytes n = a ++ (be x 4 ++ r) → a.length = k → x < 4294967296 → beVal (((p.bytes n).drop k).take 4) = x := by
    intro a b x r k e hk hx
    rw [e]
    exact word_at a x r k hk hx
  have e0 : (p.bytes n).getD 0 0 = UInt8.ofNat p.op := rfl
  have e1 : (p.bytes n).getD 1 0 = UInt8.ofNat (p.fl + if p.fin then 128 else 0) := rfl
  have e2 : (p.bytes n).getD 2 0 = UInt8.ofNat p.st := rfl
  have a1 : (p.fl + if p.fin then 128 else 0) < 256 := by have := h.fl; split <;> omega
  have hop := h.op
  have hst := h.st
  have hfl := h.fl
  refine ⟨?_, hw [UInt8.ofNat p.op, UInt8.ofNat (p.fl + if p.fin then 128 else 0), UInt8.ofNat p.st, 0] [] n _ 4 rfl rfl hn⟩
  have w1 := hw ([UInt8.ofNat p.op, UInt8.ofNat (p.fl + if p.fin then 128 else 0), UInt8.ofNat p.st, 0] ++ be n 4) [] p.tag (be p.sn 4 ++ (be p.ex 4 ++ (be p.mx 4 ++ (be p.off 4 ++ (be p.len 4 ++ p.cdb))))) 8 (by simp [Pdh.bytes]) (by simp) h.tag
  have w2 := hw ([UInt8.ofNat p.op, UInt8.ofNat (p.fl + if p.fin then 128 else 0), UInt8.ofNat p.st, 0] ++ be n 4 ++ be p.tag 4) [] p.sn (be p.ex 4 ++ (be p.mx 4 ++ (be p.off 4 ++ (be p.len 4 ++ p.cdb)))) 12 (by simp [Pdh.bytes]) (by simp) h.sn
  have w3 := hw ([UInt8.ofNat p.op, UInt8.ofNat (p.fl + if p.fin then 128 else 0), UInt8.ofNat p.st, 0] ++ be n 4 ++ be p.tag 4 ++ be p.sn 4) [] p.ex (be p.mx 4 ++ (be p.off 4 ++ (be p.len 4 ++ p.cdb))) 16 (by simp [Pdh.bytes]) (by simp) h.ex
  have w4 := hw ([UInt8.ofNat p.op, UInt8.ofNat (p.fl + if p.fin then 128 else 0), UInt8.ofNat p.st, 0] ++ be n 4 ++ be p.tag 4 ++ be p.sn 4 ++ be p.ex 4) [] p.mx (be p.off 4 ++ (be p.len 4 ++ p.cdb)) 20 (by simp [Pdh.bytes]) (by simp) h.mx
  have w5 := hw ([UInt8.ofNat p.op, UInt8.ofNat (p.fl + if p.fin then 128 else 0), UInt8.ofNat p.st, 0] ++ be n 4 ++ be p.tag 4 ++ be p.sn 4 ++ be p.ex 4 ++ be p.mx 4) [] p.off (be p.len 4 ++ p.cdb) 24 (by simp [Pdh.bytes]) (by simp) h.off
  have w6 := hw ([UInt8.ofNat p.op, UInt8.ofNat (p.fl + if p.fin then 128 else 0), UInt8.ofNat p.st, 0] ++ be n 4 ++ be p.tag 4 ++ be p.sn 4 ++ be p.ex 4 ++ be p.mx 4 ++ be p.off 4) [] p.len p.cdb 28 (by simp [Pdh.bytes]) (by simp) h.len
  have w7 : (p.bytes n).drop 32 = p.cdb := by
    have e : p.bytes n = ([UInt8.ofNat p.op, UInt8.ofNat (p.fl + if p.fin then 128 else 0), UInt8.ofNat p.st, 0] ++ be n 4 ++ be p.tag 4 ++ be p.sn 4 ++ be p.ex 4 ++ be p.mx 4 ++ be p.off 4 ++ be p.len 4) ++ p.cdb := by simp [Pdh.bytes]
    rw [e, List.drop_left' (by simp)]
  unfold pdhOf
  rw [w1, w2, w3, w4, w5, w6, w7, e0, e1, e2, UInt8.toNat_ofNat', UInt8.toNat_ofNat', UInt8.toNat_ofNat', Nat.mod_eq_of_lt (a := p.op) (by omega), Nat.mod_eq_of_lt a1, Nat.mod_eq_of_lt (a := p.st) (by omega)]
  obtain ⟨op, fin, fl, st, tag, sn, ex, mx, off, len, cdb⟩ := p
  dsimp only at *
  congr 1
  · cases fin <;> simp <;> omega
  · cases fin <;> simp <;> omega
end Go.Proofs.Ytafpaigifemjjaa
