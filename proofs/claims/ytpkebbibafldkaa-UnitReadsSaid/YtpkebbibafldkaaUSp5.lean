/- A space made since a world; gemellaw14's known. -/
import Derived.Test.YtpkebbibafldkaaMm
import Derived.Test.YtpkebbibafldkaaUSp4
import Derived.Lib.SlBytesConst
namespace Go.Proofs.Ytpkebbibafldkaa
open Go.ChangeShapes Go.WideShapes Go.ChangeAt Go.RowKit Go.Lib
set_option linter.unusedVariables false
theorem own : ownKnob Try.prog.godebug = none := by kernel_rfl
theorem laidOut : laidOutB Try.prog = true := by kernel_rfl
theorem own_from {w : World} {B e sz n : Nat} {v : Value} {xs : List Value} (h : w.ownsRow B e sz v n xs) : ∀ k, v.ownBlock = some k → B ≤ k := by
  intro k hk
  rcases h.2 with ⟨rfl, _⟩ | ⟨g, cap, cur, rfl, hB, hg, _⟩
  · cases hk
  · obtain rfl : g = k := Option.some.inj hk
    exact hB
/-- A space that was made since o; nothing older has turned. -/
structure Spc (o w : World) (X g h N : Nat) (D M : List UInt8) : Prop where
  inv : SpInv w o.heap.size X g h N D M
  bl : Below o.heap.size o w
section
variable {o w w' : World} {X g h N : Nat} {D M D' M' : List UInt8}
theorem Spc.to (hs : Spc o w X g h N D M) (hn : SpInv w' o.heap.size X g h N D' M') (he : Eff (SpS g h) w w') : Spc o w' X g h N D' M' := by
  refine ⟨hn, he.below hs.bl hs.bl.size fun k _ hk => ?_⟩
  rcases hk with rfl | rfl
  · exact hs.inv.bg
  · exact hs.inv.bh
theorem Spc.below (hs : Spc o w X g h N D M) (hb : Below w.heap.size w w') : Spc o w' X g h N D M := ⟨hs.inv.below hb, hs.bl.trans (hb.mono hs.bl.size)⟩
theorem Spc.made (n : Nat) (h1 : 1 ≤ n) (h2 : n ≤ 1024) (hb : Below o.heap.size o w) : Calls Try.prog 34 #[.int .i64 (n : Nat)] w fun e w' => ∃ X g h, e = .returned (.tuple #[.pointer (some ⟨X, 0, none⟩), .int .i64 0]) ∧ Spc o w' X g h n (List.replicate (8 * n) 0) (List.replicate ((n + 7) / 8) 0) ∧ Below w.heap.size w w' := by
  refine (spnew_any n h1 h2 w).mono ?_
  rintro e w' ⟨X, g, h, rfl, hn, hbw⟩
  have hs := hb.size
  exact ⟨X, g, h, rfl, ⟨⟨Nat.le_trans hs hn.bX, Nat.le_trans hs hn.bg, Nat.le_trans hs hn.bh, hn.gX, hn.hX, hn.gh, hn.mem, hn.data, hn.map, hn.lenD, hn.lenM, hn.pos, hn.few⟩, hb.trans (hbw.mono hs)⟩, hbw⟩
/-- Beside a space: a row that was read of it. -/
structure Spr (o w : World) (X g h N : Nat) (D M : List UInt8) (b c : Nat) (l : List UInt8) : Prop where
  spc : Spc o w X g h N D M
  row : w.ownsRow 0 5 1 (.slice (some ⟨b, 0, none⟩) l.length c) l.length (bs l)
  bg : b ≠ g
  bh : b ≠ h
theorem Spr.to {b c : Nat} {l : List UInt8} (hs : Spr o w X g h N D M b c l) (hn : SpInv w' o.heap.size X g h N D' M') (he : Eff (SpS g h) w w') : Spr o w' X g h N D' M' b c l := by
  refine ⟨hs.spc.to hn he, owns_eff hs.row he ?_, hs.bg, hs.bh⟩
  intro k hk hS
  obtain rfl : b = k := Option.some.inj hk
  rcases hS with e | e
  · exact hs.bg e
  · exact hs.bh e
theorem Spr.below {b c : Nat} {l : List UInt8} (hs : Spr o w X g h N D M b c l) (hb : Below w.heap.size w w') : Spr o w' X g h N D M b c l := ⟨hs.spc.below hb, own_below hs.row hb, hs.bg, hs.bh⟩
theorem Spr.sl {b c : Nat} {l : List UInt8} (hs : Spr o w X g h N D M b c l) : Sl w w.heap.size (.slice (some ⟨b, 0, none⟩) l.length c) l.length (bs l) := Sl.of_own hs.row
theorem read_s (a n : Nat) (hs : Spc o w X g h N D M) (h0 : 0 < n) (h3 : n ≤ 32) (ha : a + n ≤ N) : Calls Try.prog 55 #[.pointer (some ⟨X, 0, none⟩), .int .i64 (a : Nat), .int .i64 (n : Nat)] w fun e w' => ∃ b c, e = .returned (.tuple #[.slice (some ⟨b, 0, none⟩) (n * 8) c, .int .i64 0]) ∧ n * 8 ≤ c ∧ c ≤ maxLen ∧ Spr o w' X g h N D M b c (piece D a n) ∧ Below w.heap.size w w' ∧ w.heap.size ≤ b := by
  refine (read_ok a n hs.inv h3 ha).mono ?_
  rintro e w' ⟨v, rfl, ho, hb⟩
  have hl := hs.inv.lenD
  have hpl : (piece D a n).length = n * 8 := piece_len (by omega)
  have hg := hs.inv.data.lt
  have hh := hs.inv.map.lt
  rcases ho.2 with ⟨_, h00⟩ | ⟨b, c, cur, rfl, hB, hgg, h1, h2, rest⟩
  · omega
  · have hne1 : b ≠ g := by omega
    have hne2 : b ≠ h := by omega
    refine ⟨b, c, rfl, h1, h2, ⟨hs.below hb, ?_, hne1, hne2⟩, hb, hB⟩
    rw [hpl]
    exact ⟨ho.1, .inr ⟨b, c, cur, rfl, Nat.zero_le _, hgg, h1, h2, rest⟩⟩
end
def kL : List UInt8 := [97, 98, 99, 100, 101, 102, 103, 104]
def kU : List UInt8 := [65, 66, 67, 68, 69, 70, 71, 72]
def kD0 : List UInt8 := List.replicate 32 0
def kD1 : List UInt8 := laid kD0 1 kL
def kD2 : List UInt8 := laid kD1 1 kU
def kD3 : List UInt8 := laid kD2 1 (List.replicate 8 0)
theorem kD_read : piece kD1 0 2 = List.replicate 8 0 ++ kL := by decide +kernel
end Go.Proofs.Ytpkebbibafldkaa
