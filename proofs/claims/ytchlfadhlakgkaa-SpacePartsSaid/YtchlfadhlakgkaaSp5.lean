/- A space made since a world; gemellaw14's known. -/
import Derived.Test.YtchlfadhlakgkaaSp4
import Derived.Lib.SlBytesConst
namespace Go.Proofs.Ytchlfadhlakgkaa
open Go.ChangeShapes Go.WideShapes Go.ChangeAt Go.RowKit Go.Lib
set_option linter.unusedVariables false
theorem own : ownKnob Try.prog.godebug = none := by kernel_rfl
theorem laidOut : laidOutB Try.prog = true := by kernel_rfl
theorem own_from {w : World} {B e sz n : Nat} {v : Value} {xs : List Value} (h : w.ownsRow B e sz v n xs) : ∀ k, v.ownBlock = some k → B ≤ k := by
  intro k hk
  rcases h.2 with ⟨rfl, _⟩ | ⟨g, cap, cur, rfl, hB, hg, _⟩
  · cases hk
  · obtain rfl : g = k := Option.some.inj hk
    exact hB
theorem owns_eff {S : Nat → Prop} {w w' : World} {base e sz : Nat} {v : Value} {n : Nat} {xs : List Value} (h : w.ownsRow base e sz v n xs) (hb : Eff S w w') (hS : ∀ k, v.ownBlock = some k → ¬ S k) : w'.ownsRow base e sz v n xs := by
  refine ⟨h.1, ?_⟩
  rcases h.2 with hn | ⟨g, cap, cur, rfl, hg, hgg, rest⟩
  · exact .inl hn
  · refine .inr ⟨g, cap, cur, rfl, hg, ?_, rest⟩
    rw [hb.block g (Array.getElem?_eq_some_iff.1 hgg).1 (hS g rfl)]
    exact hgg
/-- A space that was made since o; nothing older has turned. -/
structure Spc (o w : World) (X g h N : Nat) (D M : List UInt8) : Prop where
  inv : SpInv w o.heap.size X g h N D M
  bl : Below o.heap.size o w
section
variable {o w w' : World} {X g h N : Nat} {D M D' M' : List UInt8}
theorem Spc.to (hs : Spc o w X g h N D M) (hn : SpInv w' o.heap.size X g h N D' M') (he : Eff (SpS g h) w w') : Spc o w' X g h N D' M' := by
  refine ⟨hn, he.below hs.bl hs.bl.size fun k _ hk => ?_⟩
  rcases hk with rfl | rfl
  · exact hs.inv.bg
  · exact hs.inv.bh
theorem Spc.below (hs : Spc o w X g h N D M) (hb : Below w.heap.size w w') : Spc o w' X g h N D M := ⟨hs.inv.below hb, hs.bl.trans (hb.mono hs.bl.size)⟩
theorem Spc.made (n : Nat) (h1 : 1 ≤ n) (h2 : n ≤ 1024) (hb : Below o.heap.size o w) : Calls Try.prog 8 #[.int .i64 (n : Nat)] w fun e w' => ∃ X g h, e = .returned (.tuple #[.pointer (some ⟨X, 0, none⟩), .int .i64 0]) ∧ Spc o w' X g h n (List.replicate (8 * n) 0) (List.replicate ((n + 7) / 8) 0) ∧ Below w.heap.size w w' := by
  refine (spnew_any n h1 h2 w).mono ?_
  rintro e w' ⟨X, g, h, rfl, hn, hbw⟩
  have hs := hb.size
  exact ⟨X, g, h, rfl, ⟨⟨Nat.le_trans hs hn.bX, Nat.le_trans hs hn.bg, Nat.le_trans hs hn.bh, hn.gX, hn.hX, hn.gh, hn.mem, hn.data, hn.map, hn.lenD, hn.lenM, hn.pos, hn.few⟩, hb.trans (hbw.mono hs)⟩, hbw⟩
/-- Beside a space: a row that was read of it. -/
structure Spr (o w : World) (X g h N : Nat) (D M : List UInt8) (b c : Nat) (l : List UInt8) : Prop where
  spc : Spc o w X g h N D M
  row : w.ownsRow 0 5 1 (.slice (some ⟨b, 0, none⟩) l.length c) l.length (bs l)
  bg : b ≠ g
  bh : b ≠ h
theorem Spr.to {b c : Nat} {l : List UInt8} (hs : Spr o w X g h N D M b c l) (hn : SpInv w' o.heap.size X g h N D' M') (he : Eff (SpS g h) w w') : Spr o w' X g h N D' M' b c l := by
  refine ⟨hs.spc.to hn he, owns_eff hs.row he ?_, hs.bg, hs.bh⟩
  intro k hk hS
  obtain rfl : b = k := Option.some.inj hk
  rcases hS with e | e
  · exact hs.bg e
  · exact hs.bh e
theorem Spr.below {b c : Nat} {l : List UInt8} (hs : Spr o w X g h N D M b c l) (hb : Below w.heap.size w w') : Spr o w' X g h N D M b c l := ⟨hs.spc.below hb, own_below hs.row hb, hs.bg, hs.bh⟩
theorem Spr.sl {b c : Nat} {l : List UInt8} (hs : Spr o w X g h N D M b c l) : Sl w w.heap.size (.slice (some ⟨b, 0, none⟩) l.length c) l.length (bs l) := Sl.of_own hs.row
theorem read_s (a n : Nat) (hs : Spc o w X g h N D M) (h0 : 0 < n) (h3 : n ≤ 32) (ha : a + n ≤ N) : Calls Try.prog 11 #[.pointer (some ⟨X, 0, none⟩), .int .i64 (a : Nat), .int .i64 (n : Nat)] w fun e w' => ∃ b c, e = .returned (.tuple #[.slice (some ⟨b, 0, none⟩) (n * 8) c, .int .i64 0]) ∧ n * 8 ≤ c ∧ c ≤ maxLen ∧ Spr o w' X g h N D M b c (piece D a n) ∧ Below w.heap.size w w' ∧ w.heap.size ≤ b := by
  refine (read_ok a n hs.inv h3 ha).mono ?_
  rintro e w' ⟨v, rfl, ho, hb⟩
  have hl := hs.inv.lenD
  have hpl : (piece D a n).length = n * 8 := piece_len (by omega)
  have hg := hs.inv.data.lt
  have hh := hs.inv.map.lt
  rcases ho.2 with ⟨_, h00⟩ | ⟨b, c, cur, rfl, hB, hgg, h1, h2, rest⟩
  · omega
  · have hne1 : b ≠ g := by omega
    have hne2 : b ≠ h := by omega
    refine ⟨b, c, rfl, h1, h2, ⟨hs.below hb, ?_, hne1, hne2⟩, hb, hB⟩
    rw [hpl]
    exact ⟨ho.1, .inr ⟨b, c, cur, rfl, Nat.zero_le _, hgg, h1, h2, rest⟩⟩
end
def kL : List UInt8 := [97, 98, 99, 100, 101, 102, 103, 104]
def kU : List UInt8 := [65, 66, 67, 68, 69, 70, 71, 72]
def kD0 : List UInt8 := List.replicate 32 0
def kD1 : List UInt8 := laid kD0 1 kL
def kD2 : List UInt8 := laid kD1 1 kU
def kD3 : List UInt8 := laid kD2 1 (List.replicate 8 0)
theorem kD_read : piece kD1 0 2 = List.replicate 8 0 ++ kL := by decide +kernel
set_option maxRecDepth 100000 in
set_option maxHeartbeats 4000000 in
theorem known_any (w : World) : Calls Try.prog 7 #[] w fun e w' => e = .returned (.bool true) ∧ Below w.heap.size w w' := by
  have kc := fun (W : World) (C : Array Value) (n c : Nat) => Lib.run_convert_bytes_const (P := Try.prog) W 22 5 C n c Try.underlying22 Try.underlying5
  have cNew : Calls Try.prog 8 #[.int .i64 4] w fun e w' => ∃ X g h, e = .returned (.tuple #[.pointer (some ⟨X, 0, none⟩), .int .i64 0]) ∧ Spc w w' X g h 4 kD0 [0] := by
    refine (Spc.made 4 (by omega) (by omega) (Below.refl _ w)).mono ?_
    rintro e w' ⟨X, g, h, rfl, h1, _⟩
    exact ⟨X, g, h, rfl, h1⟩
  have cWrite : ∀ W X g h M, Spc w W X g h 4 kD0 M → Calls Try.prog 9 #[.pointer (some ⟨X, 0, none⟩), .int .i64 1, .slice (some ⟨W.heap.size, 0, none⟩) 8 8] (W.alloc (.cells #[.int .u8 97, .int .u8 98, .int .u8 99, .int .u8 100, .int .u8 101, .int .u8 102, .int .u8 103, .int .u8 104] 5 (8, 9))) fun e w' => e = .returned (.int .i64 0) ∧ ∃ M', Spc w w' X g h 4 kD1 M' := by
    intro W X g h M hs
    have h2 := hs.below ((Below.refl _ W).alloc (Nat.le_refl _) (.cells #[.int .u8 97, .int .u8 98, .int .u8 99, .int .u8 100, .int .u8 101, .int .u8 102, .int .u8 103, .int .u8 104] 5 (8, 9)))
    refine (write_ok 1 1 _ kL h2.inv (Sl.freshM W _ _ _ rfl (by decide) (by unfold maxLen; omega)) rfl (by omega) (by omega)).mono ?_
    rintro e w' ⟨rfl, M', _, h3, h4⟩
    exact ⟨rfl, M', h2.to h3 h4⟩
  have cRead : ∀ W X g h M, Spc w W X g h 4 kD1 M → Calls Try.prog 11 #[.pointer (some ⟨X, 0, none⟩), .int .i64 0, .int .i64 2] W fun e w' => ∃ b c, e = .returned (.tuple #[.slice (some ⟨b, 0, none⟩) 16 c, .int .i64 0]) ∧ 16 ≤ c ∧ c ≤ maxLen ∧ Spr w w' X g h 4 kD1 M b c (List.replicate 8 0 ++ kL) := by
    intro W X g h M hs
    refine (read_s 0 2 hs (by omega) (by omega) (by omega)).mono ?_
    rintro e w' ⟨b, c, rfl, h1, h2, h3, _⟩
    rw [kD_read] at h3
    exact ⟨b, c, rfl, h1, h2, h3⟩
  have cYes : ∀ W X g h M b c l, Spr w W X g h 4 kD1 M b c l → Calls Try.prog 10 #[.pointer (some ⟨X, 0, none⟩), .int .i64 1, .slice (some ⟨W.heap.size, 0, none⟩) 16 16] (W.alloc (.cells #[.int .u8 97, .int .u8 98, .int .u8 99, .int .u8 100, .int .u8 101, .int .u8 102, .int .u8 103, .int .u8 104, .int .u8 65, .int .u8 66, .int .u8 67, .int .u8 68, .int .u8 69, .int .u8 70, .int .u8 71, .int .u8 72] 5 (16, 17))) fun e w' => e = .returned (.tuple #[.int .i64 (-1), .int .i64 0]) ∧ ∃ M', Spr w w' X g h 4 kD2 M' b c l := by
    intro W X g h M b c l hs
    have h2 := hs.below ((Below.refl _ W).alloc (Nat.le_refl _) (.cells #[.int .u8 97, .int .u8 98, .int .u8 99, .int .u8 100, .int .u8 101, .int .u8 102, .int .u8 103, .int .u8 104, .int .u8 65, .int .u8 66, .int .u8 67, .int .u8 68, .int .u8 69, .int .u8 70, .int .u8 71, .int .u8 72] 5 (16, 17)))
    refine (compare_yes 1 1 _ (kL ++ kU) h2.spc.inv (Sl.freshM W _ _ _ rfl (by decide) (by unfold maxLen; omega)) rfl (by omega) (by omega) (by omega) (by decide +kernel)).mono ?_
    rintro e w' ⟨rfl, M', _, h3, h4⟩
    exact ⟨rfl, M', h2.to h3 h4⟩
  have cNo : ∀ W X g h M b c l, Spr w W X g h 4 kD2 M b c l → Calls Try.prog 10 #[.pointer (some ⟨X, 0, none⟩), .int .i64 1, .slice (some ⟨W.heap.size, 0, none⟩) 16 16] (W.alloc (.cells #[.int .u8 97, .int .u8 98, .int .u8 99, .int .u8 100, .int .u8 101, .int .u8 102, .int .u8 103, .int .u8 104, .int .u8 65, .int .u8 66, .int .u8 67, .int .u8 68, .int .u8 69, .int .u8 70, .int .u8 71, .int .u8 72] 5 (16, 17))) fun e w' => e = .returned (.tuple #[.int .i64 0, .int .i64 0]) ∧ Spr w w' X g h 4 kD2 M b c l := by
    intro W X g h M b c l hs
    have h2 := hs.below ((Below.refl _ W).alloc (Nat.le_refl _) (.cells #[.int .u8 97, .int .u8 98, .int .u8 99, .int .u8 100, .int .u8 101, .int .u8 102, .int .u8 103, .int .u8 104, .int .u8 65, .int .u8 66, .int .u8 67, .int .u8 68, .int .u8 69, .int .u8 70, .int .u8 71, .int .u8 72] 5 (16, 17)))
    refine (compare_no 1 1 0 _ (kL ++ kU) h2.spc.inv (Sl.freshM W _ _ _ rfl (by decide) (by unfold maxLen; omega)) rfl (by omega) (by omega) (by omega) (fun j hj => by omega) (by decide +kernel)).mono ?_
    rintro e w' ⟨rfl, rfl⟩
    exact ⟨rfl, h2⟩
  have cUn : ∀ W X g h M b c, Spr w W X g h 4 kD2 M b c (List.replicate 8 0 ++ kL) → Calls Try.prog 12 #[.pointer (some ⟨X, 0, none⟩), .int .i64 1, .int .i64 1] W fun e w' => e = .returned (.int .i64 0) ∧ ∃ M', Spr w w' X g h 4 kD3 M' b c (List.replicate 8 0 ++ kL) ∧ bit M' 1 = false := by
    intro W X g h M b c hs
    refine (unmap_ok 1 1 hs.spc.inv (by omega) (by omega)).mono ?_
    rintro e w' ⟨rfl, M', h1, h3, h4⟩
    exact ⟨rfl, M', hs.to h3 h4, by rw [h1.2 1, if_pos (by omega)]⟩
  have cMap : ∀ W X g h M b c l, Spr w W X g h 4 kD3 M b c l → bit M 1 = false → Calls Try.prog 13 #[.pointer (some ⟨X, 0, none⟩), .int .i64 1] W fun e w' => e = .returned (.bool false) ∧ W = w' := by
    intro W X g h M b c l hs hb
    refine (mapped_any 1 hs.spc.inv).mono ?_
    rintro e w' ⟨rfl, rfl⟩
    refine ⟨?_, rfl⟩
    rw [show (1 : Int).toNat = 1 from rfl, hb, Bool.and_false]
  have cStr : ∀ W X g h M b c, Spr w W X g h 4 kD3 M b c (List.replicate 8 0 ++ kL) → Sl W W.heap.size (.slice (some ⟨b, 8, none⟩) 8 (c - 8)) 8 (bs kL) := by
    intro W X g h M b c hs
    have := Sl.drop (m := 8) hs.sl (by decide)
    exact this
  go_enter Try.func7, Try.ntmps7
  go_wp2_with (first
    | (go_at_call 8; (with_reducible refine cNew.mono ?_); rintro e w1 ⟨X, g, h, rfl, s1⟩)
    | (go_at_call 9; (with_reducible refine (cWrite _ _ _ _ _ s1).mono ?_); rintro e w2 ⟨rfl, M2, s2⟩)
    | (go_at_call 11; (with_reducible refine (cRead _ _ _ _ _ s2).mono ?_); rintro e w3 ⟨b, c, rfl, hc1, hc2, s3⟩)
    | (go_at_call 10; (with_reducible refine (cYes _ _ _ _ _ _ _ _ s3).mono ?_); rintro e w4 ⟨rfl, M4, s4⟩)
    | (go_at_call 10; (with_reducible refine (cNo _ _ _ _ _ _ _ _ s4).mono ?_); rintro e w5 ⟨rfl, s5⟩)
    | (go_at_call 12; (with_reducible refine (cUn _ _ _ _ _ _ _ s5).mono ?_); rintro e w6 ⟨rfl, M6, s6, hbit⟩; have hstr := bytes_str (P := Try.prog) w6 22 9 5 Try.underlying22 Try.underlying5 Try.underlying9 _ _ kL 8 (cStr _ _ _ _ _ _ _ s6); have hc8 : ¬ (c : Int) = 8 := (by omega); have hcx : (16 : Int) ≤ (c : Int) := (by omega))
    | (go_at_call 13; (with_reducible refine (cMap _ _ _ _ _ _ _ _ s6 hbit).mono ?_); rintro e w7 ⟨rfl, rfl⟩)
    | (go_at_call 15; (with_reducible refine (blocks_any s6.spc.inv).mono ?_); rintro e w8 ⟨rfl, rfl⟩)
    | (go_at_call 16; (with_reducible refine (in_any 4 0 s6.spc.inv (by omega)).mono ?_); rintro e w9 ⟨rfl, rfl⟩)
    | (go_at_call 16; (with_reducible refine (in_any 4 1 s6.spc.inv (by omega)).mono ?_); rintro e w10 ⟨rfl, rfl⟩))
  go_ret
  exact ⟨rfl, s6.spc.bl⟩
end Go.Proofs.Ytchlfadhlakgkaa
