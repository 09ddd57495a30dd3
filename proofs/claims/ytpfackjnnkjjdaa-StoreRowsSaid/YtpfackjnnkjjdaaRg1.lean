/- Package ring: Pack: contract. -/
import Derived.Test.YtpfackjnnkjjdaaMm
import Derived.Test.YtpfackjnnkjjdaaSealP
import Derived.Test.YtpfackjnnkjjdaaPutB
import Derived.Test.YtpfackjnnkjjdaaPadB
import Derived.Lib.SlBytesConst
namespace Go.Proofs.Ytpfackjnnkjjdaa
open Go.ChangeShapes Go.WideShapes Go.ChangeAt Go.RowKit Go.Lib
set_option linter.unusedVariables false
set_option linter.unusedSimpArgs false
namespace Rg
open Crc
def mark : List UInt8 := [82, 73, 78, 71]
def hd1 (n : Nat) : List UInt8 := mark ++ be n 8
def hd2 (n f : Nat) : List UInt8 := hd1 n ++ be f 4
def hd3 (n f p : Nat) : List UInt8 := hd2 n f ++ be p 2
def hd4 (n f p q : Nat) : List UInt8 := hd3 n f p ++ be q 2
def hd5 (n f p q m : Nat) : List UInt8 := hd4 n f p q ++ be m 2
/-- What is sealed of a part. -/
def rgB (n f p q : Nat) (l : List UInt8) : List UInt8 := hd5 n f p q l.length ++ l
def rgP (n f p q : Nat) (l : List UInt8) : List UInt8 := rgB n f p q l ++ List.replicate (486 - l.length) 0
def rgS (n f p q : Nat) (l : List UInt8) : List UInt8 := sealS (rgP n f p q l)
theorem hd1_len (n : Nat) : (hd1 n).length = 12 := by simp [hd1, mark]
theorem hd2_len (n f : Nat) : (hd2 n f).length = 16 := by simp [hd2, hd1_len]
theorem hd3_len (n f p : Nat) : (hd3 n f p).length = 18 := by simp [hd3, hd2_len]
theorem hd4_len (n f p q : Nat) : (hd4 n f p q).length = 20 := by simp [hd4, hd3_len]
theorem hd5_len (n f p q m : Nat) : (hd5 n f p q m).length = 22 := by simp [hd5, hd4_len]
theorem rgB_len (n f p q : Nat) (l : List UInt8) : (rgB n f p q l).length = 22 + l.length := by simp [rgB, hd5_len]
theorem rgP_len {n f p q : Nat} {l : List UInt8} (h : l.length ≤ 480) : (rgP n f p q l).length = 508 := by rw [rgP, List.length_append, rgB_len, List.length_replicate]; omega
theorem rgS_len {n f p q : Nat} {l : List UInt8} (h : l.length ≤ 480) : (rgS n f p q l).length = 512 := by rw [rgS, Crc.sealS_len, rgP_len h]
theorem pad_rg {n f p q : Nat} {l : List UInt8} (h : l.length ≤ 480) : padS (rgB n f p q l) 508 = rgP n f p q l := by
  unfold padS rgP
  rw [if_neg (by omega), rgB_len]
  congr 2
  unfold padN
  rw [show (508 : Int).toNat = 508 from rfl, Nat.mod_eq_of_lt (show 22 + l.length < 508 by omega), Nat.mod_eq_of_lt (by omega)]
  omega
set_option maxRecDepth 100000 in
set_option maxHeartbeats 1000000 in
theorem pack_ok (n f p q : Nat) (hn : n < 18446744073709551616) (hf : f < 4294967296) (hp : p < q) (hq : q ≤ 65535) (v : Value) (l : List UInt8) (w : World) (hv : Sl w w.heap.size v l.length (bs l)) (hl : l.length ≤ 480) :
    Calls Try.prog 58 #[.int .u64 (n : Nat), .int .u32 (f : Nat), .int .i64 (p : Nat), .int .i64 (q : Nat), v] w fun e w' => ∃ v', e = .returned (.tuple #[v', .int .i64 0]) ∧ w'.ownsRow w.heap.size 5 1 v' 512 (bs (rgS n f p q l)) ∧ Below w.heap.size w w' := by
  obtain ⟨i0, hi, hz0, hz1, hz2⟩ := info_parts (show (Try.prog.info? 5).map (fun i => (i.zero, i.size, i.bytes)) = some (some (.int .u8 0), 1, 1) by kernel_rfl)
  obtain ⟨A, c, rfl, _, _⟩ := hv.form
  have hlx : (l.length : Int) ≤ 480 := by omega
  have hpx : (p : Int) < (q : Int) := by omega
  have hqx : (q : Int) ≤ 65535 := by omega
  have hpy : (p : Int) ≤ 65535 := by omega
  have hfm : (f : Int) % 18446744073709551616 = (f : Int) := by omega
  have kc := fun (W : World) (C : Array Value) (n c : Nat) => Lib.run_convert_bytes_const (P := Try.prog) W 34 5 C n c Try.underlying34 Try.underlying5
  have hb1 : Below w.heap.size w (w.alloc (.cells #[.int .u8 82, .int .u8 73, .int .u8 78, .int .u8 71] 5 (4, 5))) := (Below.refl _ w).alloc (Nat.le_refl _) _
  have hsm : Sl (w.alloc (.cells #[.int .u8 82, .int .u8 73, .int .u8 78, .int .u8 71] 5 (4, 5))) (w.alloc (.cells #[.int .u8 82, .int .u8 73, .int .u8 78, .int .u8 71] 5 (4, 5))).heap.size (.slice (some ⟨w.heap.size, 0, none⟩) 4 4) mark.length (bs mark) := Sl.freshM w #[.int .u8 82, .int .u8 73, .int .u8 78, .int .u8 71] _ _ rfl (Nat.le_refl _) (by unfold maxLen; omega)
  have put : ∀ W v' (L : List UInt8) (x k : Nat), Sl W W.heap.size v' L.length (bs L) → Below w.heap.size w W → x < 18446744073709551616 → L.length ≤ 100 → 1 ≤ k → k ≤ 8 → Calls Try.prog 30 #[v', .int .u64 (x : Nat), .int .i64 (k : Nat)] W fun e w' => ∃ v'', e = .returned v'' ∧ w'.ownsRow w.heap.size 5 1 v'' (L.length + k) (bs (L ++ be x k)) ∧ Below w.heap.size w w' := by
    intro W v' L x k hs hb hx hL h1 h8
    refine (put_any v' L x k W hs hx (by omega) (by omega) (by omega)).mono ?_
    rintro e w' ⟨v'', rfl, h1', h2⟩
    rw [putS_is L x k ⟨h1, h8⟩] at h1'
    exact ⟨v'', rfl, owns_mono (ownsRow_len h1' (by simp) rfl) hb.size, hb.trans (h2.mono hb.size)⟩
  have p1 : Calls Try.prog 30 #[.slice (some ⟨w.heap.size, 0, none⟩) 4 4, .int .u64 (n : Nat), .int .i64 8] (w.alloc (.cells #[.int .u8 82, .int .u8 73, .int .u8 78, .int .u8 71] 5 (4, 5))) fun e w' => ∃ v'', e = .returned v'' ∧ w'.ownsRow w.heap.size 5 1 v'' 12 (bs (hd1 n)) ∧ Below w.heap.size w w' := put _ _ mark n 8 hsm hb1 hn (by decide) (by omega) (by omega)
  have p2 : ∀ W v', W.ownsRow w.heap.size 5 1 v' 12 (bs (hd1 n)) → Below w.heap.size w W → Calls Try.prog 30 #[v', .int .u64 (f : Nat), .int .i64 4] W fun e w' => ∃ v'', e = .returned v'' ∧ w'.ownsRow w.heap.size 5 1 v'' 16 (bs (hd2 n f)) ∧ Below w.heap.size w w' := fun W v' ho hb => by
    have := put W v' (hd1 n) f 4 (by rw [hd1_len]; exact Sl.of_own ho) hb (by omega) (by rw [hd1_len]; omega) (by omega) (by omega)
    rw [hd1_len] at this; exact this
  have p3 : ∀ W v', W.ownsRow w.heap.size 5 1 v' 16 (bs (hd2 n f)) → Below w.heap.size w W → Calls Try.prog 30 #[v', .int .u64 (p : Nat), .int .i64 2] W fun e w' => ∃ v'', e = .returned v'' ∧ w'.ownsRow w.heap.size 5 1 v'' 18 (bs (hd3 n f p)) ∧ Below w.heap.size w w' := fun W v' ho hb => by
    have := put W v' (hd2 n f) p 2 (by rw [hd2_len]; exact Sl.of_own ho) hb (by omega) (by rw [hd2_len]; omega) (by omega) (by omega)
    rw [hd2_len] at this; exact this
  have p4 : ∀ W v', W.ownsRow w.heap.size 5 1 v' 18 (bs (hd3 n f p)) → Below w.heap.size w W → Calls Try.prog 30 #[v', .int .u64 (q : Nat), .int .i64 2] W fun e w' => ∃ v'', e = .returned v'' ∧ w'.ownsRow w.heap.size 5 1 v'' 20 (bs (hd4 n f p q)) ∧ Below w.heap.size w w' := fun W v' ho hb => by
    have := put W v' (hd3 n f p) q 2 (by rw [hd3_len]; exact Sl.of_own ho) hb (by omega) (by rw [hd3_len]; omega) (by omega) (by omega)
    rw [hd3_len] at this; exact this
  have p5 : ∀ W v', W.ownsRow w.heap.size 5 1 v' 20 (bs (hd4 n f p q)) → Below w.heap.size w W → Calls Try.prog 30 #[v', .int .u64 (l.length : Nat), .int .i64 2] W fun e w' => ∃ v'', e = .returned v'' ∧ w'.ownsRow w.heap.size 5 1 v'' 22 (bs (hd5 n f p q l.length)) ∧ Below w.heap.size w w' := fun W v' ho hb => by
    have := put W v' (hd4 n f p q) l.length 2 (by rw [hd4_len]; exact Sl.of_own ho) hb (by omega) (by rw [hd4_len]; omega) (by omega) (by omega)
    rw [hd4_len] at this; exact this
  have hpl := rgB_len n f p q l
  have hpad : ∀ W v', W.ownsRow w.heap.size 5 1 v' (22 + l.length) (bs (rgB n f p q l)) → Below w.heap.size w W → Calls Try.prog 63 #[v', .int .i64 508] W fun e w' => ∃ v'', e = .returned v'' ∧ Sl w' w'.heap.size v'' (rgP n f p q l).length (bs (rgP n f p q l)) ∧ Below w.heap.size w w' := by
    intro W v' ho hb
    refine (pad_any v' (rgB n f p q l) 508 W (hpl ▸ Sl.of_own ho) (by omega) (by omega) (by omega)).mono ?_
    rintro e w' ⟨v'', rfl, h1, h2⟩
    rw [pad_rg hl] at h1
    exact ⟨v'', rfl, Sl.of_own h1, hb.trans (h2.mono hb.size)⟩
  have hseal : ∀ W v', Sl W W.heap.size v' (rgP n f p q l).length (bs (rgP n f p q l)) → Below w.heap.size w W → Calls Try.prog 62 #[v'] W fun e w' => ∃ v'', e = .returned v'' ∧ w'.ownsRow w.heap.size 5 1 v'' 512 (bs (rgS n f p q l)) ∧ Below w.heap.size w w' := by
    intro W v' hs hb
    refine (seal_any v' (rgP n f p q l) W hs (by rw [rgP_len hl]; omega)).mono ?_
    rintro e w' ⟨v'', rfl, h1, h2⟩
    have : (sealS (rgP n f p q l)).length = 512 := rgS_len hl
    rw [this] at h1
    exact ⟨v'', rfl, owns_mono h1 hb.size, hb.trans (h2.mono hb.size)⟩
  have hcat : ∀ W : World, ∀ v', W.ownsRow w.heap.size 5 1 v' (22 + l.length) (bs (hd5 n f p q l.length) ++ bs l) → W.ownsRow w.heap.size 5 1 v' (22 + l.length) (bs (rgB n f p q l)) := fun W v' h => by rw [rgB, bs_app]; exact h
  have hvn := fun W (hW : Below w.heap.size w W) => hv.now hW
  have hsum : 22 + l.length ≤ 17592186044416 := by omega
  clear hpl hsm hb1 put hn hf hq hp
  generalize rgP n f p q l = P2 at *
  generalize bs (rgS n f p q l) = P3 at *
  generalize bs (rgB n f p q l) = P4 at *
  generalize bs (hd5 n f p q l.length) = P5 at *
  generalize bs (hd4 n f p q) = P6 at *
  generalize bs (hd3 n f p) = P7 at *
  generalize bs (hd2 n f) = P8 at *
  generalize bs (hd1 n) = P9 at *
  go_enter Try.func58, Try.ntmps58
  go_wp2_with (first
    | (go_at_call 30; (with_reducible refine (p5 _ _ o5 b5).mono ?_); rintro e w6 ⟨v6, rfl, o6, b6⟩; have hv6 := hvn w6 b6)
    | (go_at_call 30; (with_reducible refine (p4 _ _ o4 b4).mono ?_); rintro e w5 ⟨v5, rfl, o5, b5⟩)
    | (go_at_call 30; (with_reducible refine (p3 _ _ o3 b3).mono ?_); rintro e w4 ⟨v4, rfl, o4, b4⟩)
    | (go_at_call 30; (with_reducible refine (p2 _ _ o2 b2).mono ?_); rintro e w3 ⟨v3, rfl, o3, b3⟩)
    | (go_at_call 30; (with_reducible refine p1.mono ?_); rintro e w2 ⟨v2, rfl, o2, b2⟩)
    | (at_builtin; (refine wpList_append_sl _ rfl (.tmp 48) (.tmp 49) _ rfl w.heap.size 5 i0 _ Try.underlying34 hi hz0 hz1 (by omega) rfl v6 22 P5 rfl o6 _ (.slice A l.length c) l.length (bs l) rfl hv6 bs_one hsum b6.size ?_); intro v7 w7 o7 g7 at7; have b7 := below_own b6 g7 b6.size (fun k hk => (own_tag o6 k hk).1); have o7' := hcat _ _ o7)
    | (go_at_call 63; (with_reducible refine (hpad _ _ o7' b7).mono ?_); rintro e w8 ⟨v8, rfl, s8, b8⟩)
    | (go_at_call 62; (with_reducible refine (hseal _ _ s8 b8).mono ?_); rintro e w9 ⟨v9, rfl, o9, b9⟩))
  go_ret2
  exact ⟨v9, rfl, o9, b9⟩
end Rg
end Go.Proofs.Ytpfackjnnkjjdaa
