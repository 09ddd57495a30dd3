/- Package space: Read, Write, Unmap, Compare: contracts. -/
import Derived.Test.YtflodljccloobaaMm
import Derived.Test.YtflodljccloobaaUSp2
namespace Go.Proofs.Ytflodljccloobaa
open Go.ChangeShapes Go.WideShapes Go.ChangeAt Go.RowKit Go.Lib
set_option linter.unusedVariables false
set_option linter.unusedSimpArgs false
theorem Keeps.eff {g : Nat} {S : Nat → Prop} {w w' : World} (h : Keeps g w w') (hS : S g) : Eff S w w' := ⟨h.os, h.tape, h.output, h.size, fun k hk hn => h.block k hk fun e => hn (e ▸ hS)⟩
theorem Mem.kept {w w' : World} {g k t : Nat} {cs : Array Value} (h : Mem w k t cs) (hk : Keeps g w w') (hne : k ≠ g) : Mem w' k t cs := (hk.block k h.lt hne).trans h
section
variable {w w' : World} {B X g h N : Nat} {D M : List UInt8}
theorem SpInv.dataTo {D' : List UInt8} (hn : SpInv w B X g h N D M) (hm : Mem w' g 5 (bs D').toArray) (hk : Keeps g w w') (hl : D'.length = D.length) : SpInv w' B X g h N D' M := by
  refine ⟨hn.bX, hn.bg, hn.bh, hn.gX, hn.hX, hn.gh, ?_, hm, hn.map.kept hk (Ne.symm hn.gh), hl.trans hn.lenD, hn.lenM, hn.pos, hn.few⟩
  rw [hl]
  exact hn.mem.kept hk (Ne.symm hn.gX)
theorem SpInv.mapTo {M' : List UInt8} (hn : SpInv w B X g h N D M) (hm : Mem w' h 5 (bs M').toArray) (hk : Keeps h w w') (hl : M'.length = M.length) : SpInv w' B X g h N D M' := by
  refine ⟨hn.bX, hn.bg, hn.bh, hn.gX, hn.hX, hn.gh, ?_, hn.data.kept hk hn.gh, hm, hn.lenD, hl.trans hn.lenM, hn.pos, hn.few⟩
  rw [hl]
  exact hn.mem.kept hk (Ne.symm hn.hX)
theorem read_no (at_ n : Int) (hn : SpInv w B X g h N D M) (ha : -4611686018427387904 ≤ n ∧ n ≤ 9223372036854775807) (hi : inB N at_ n = false) : Calls Try.prog 32 #[.pointer (some ⟨X, 0, none⟩), .int .i64 at_, .int .i64 n] w fun e w' => e = .returned (.tuple #[.slice none 0 0, .int .i64 1]) ∧ w = w' := by
  have hin := in_any at_ n hn ha
  rw [hi] at hin
  go_enter Try.func32, Try.ntmps32
  go_wp2_with (go_at_call 31; (with_reducible refine hin.mono ?_); rintro e w1 ⟨rfl, rfl⟩)
  go_ret2
  exact ⟨rfl, rfl⟩
theorem read_ok (a n : Nat) (hn : SpInv w B X g h N D M) (h3 : n ≤ 32) (ha : a + n ≤ N) : Calls Try.prog 32 #[.pointer (some ⟨X, 0, none⟩), .int .i64 (a : Nat), .int .i64 (n : Nat)] w fun e w' => ∃ v, e = .returned (.tuple #[v, .int .i64 0]) ∧ w'.ownsRow w.heap.size 5 1 v (n * 8) (bs (piece D a n)) ∧ Below w.heap.size w w' := by
  obtain ⟨i0, hi0, hz0, hz1, hz2⟩ := info_parts (show (Try.prog.info? 5).map (fun i => (i.zero, i.size, i.bytes)) = some (some (.int .u8 0), 1, 1) by kernel_rfl)
  have hin := in_any (a : Int) (n : Int) hn (by omega)
  have hi : inB N (a : Int) (n : Int) = true := decide_eq_true (by omega)
  rw [hi] at hin
  have hby := bytes_any a n hn ha
  have hps := fun off c h1 h2 h3 => hn.piece_sl (off := off) (c := c) ha h1 h2 h3
  clear hi
  go_enter Try.func32, Try.ntmps32
  go_wp2_with (first
    | (go_at_call 31; (with_reducible refine hin.mono ?_); rintro e w1 ⟨rfl, rfl⟩)
    | (go_at_call 52; (with_reducible refine hby.mono ?_); rintro e w2 ⟨off, c, rfl, h5, h6, h7, h8, rfl⟩; have hsl := hps off c h5 h6 h7)
    | (at_builtin; (refine wpList_append_sl _ rfl (.const (.slice none 0 0)) (.tmp 16) _ rfl w.heap.size 5 i0 _ Try.underlying23 hi0 hz0 hz1 (by omega) rfl (.slice none 0 0) 0 [] rfl (World.ownsRow_nil _ _ _ _) w.heap.size (.slice (some ⟨g, off, none⟩) (n * 8) c) (n * 8) (bs (piece D a n)) rfl hsl bs_one (by omega) (Nat.le_refl _) ?_); intro v6 w6 ho6 hg6 hat6))
  go_ret2
  refine ⟨v6, rfl, ?_, (Below.refl _ w).grown hg6 (Nat.le_refl _) (fun k hk => by cases hk)⟩
  simpa using ho6
theorem write_no (at_ : Int) (v : Value) (l : List UInt8) (hn : SpInv w B X g h N D M) (hd : Sl w w.heap.size v l.length (bs l)) (hl : l.length ≤ 100000) (hno : l.length % 8 ≠ 0 ∨ inB N at_ ((l.length / 8 : Nat) : Int) = false) : Calls Try.prog 34 #[.pointer (some ⟨X, 0, none⟩), .int .i64 at_, v] w fun e w' => e = .returned (.int .i64 1) ∧ w = w' := by
  have hin := in_any at_ ((l.length / 8 : Nat) : Int) hn (by omega)
  obtain ⟨A, c, rfl, hc1, hc2⟩ := hd.form
  have hlx : (l.length : Int) ≤ 100000 := by omega
  have hq : (l.length : Int) / 8 = ((l.length / 8 : Nat) : Int) := by omega
  generalize l.length / 8 = q at *
  by_cases h8 : l.length % 8 = 0
  · have h8x : (l.length : Int) % 8 = 0 := by omega
    rw [hno.resolve_left (fun hh => hh h8)] at hin
    clear hno h8 hd
    go_enter Try.func34, Try.ntmps34
    go_wp2_with (go_at_call 31; (with_reducible refine hin.mono ?_); rintro e w1 ⟨rfl, rfl⟩)
    go_ret
    exact ⟨rfl, rfl⟩
  · have h8x : ¬ (l.length : Int) % 8 = 0 := by omega
    clear hno hd hin
    go_enter Try.func34, Try.ntmps34
    go_wp2
    go_ret
    exact ⟨rfl, rfl⟩
theorem write_ok (a n : Nat) (v : Value) (l : List UInt8) (hn : SpInv w B X g h N D M) (hd : Sl w w.heap.size v l.length (bs l)) (hl : l.length = n * 8) (h3 : n ≤ 32) (ha : a + n ≤ N) : Calls Try.prog 34 #[.pointer (some ⟨X, 0, none⟩), .int .i64 (a : Nat), v] w fun e w' => e = .returned (.int .i64 0) ∧ ∃ M', runTo M a n true M' ∧ SpInv w' B X g h N (laid D a l) M' ∧ Eff (SpS g h) w w' := by
  have hin := in_any (a : Int) (n : Int) hn (by omega)
  have hi : inB N (a : Int) (n : Int) = true := decide_eq_true (by omega)
  rw [hi] at hin
  have hby := bytes_any a n hn ha
  obtain ⟨A, c, rfl, hc1, hc2⟩ := hd.form
  have hsl8 : (Try.prog.info? 5).map (·.size) = some 1 := by kernel_rfl
  have hsrc : 0 < l.length → ∃ ad, A = some ad ∧ ∀ j u, (bs l)[j]? = some u → w.cell? (ad.add j) = some u := fun h0 => by
    obtain ⟨b, o, rfl, _, hat⟩ := hd.at_ h0
    exact ⟨_, rfl, fun j u hu => by rw [add_plain]; exact hat j u hu⟩
  have hDl := hn.lenD
  have hfit : a * 8 + (bs l).length ≤ (bs D).length := by simp; omega
  have hcsn : (bs l).length = Nat.min l.length (n * 8) := by rw [bs_len, hl]; simp
  have hlaid := laid_len (D := D) (l := l) (a := a) (by omega)
  have hset := fun w1 (h1 : SpInv w1 B X g h N (laid D a l) M) => mapset_any (w := w1) a n h1 ha
  have hdat := hn.data
  have hto := fun w1 (h1 : Mem w1 g 5 (bs (laid D a l)).toArray) hk => hn.dataTo h1 hk hlaid
  have hx1 := fun w1 (h1 : SpInv w1 B X g h N (laid D a l) M) => h1.mem.cell 1
  have HL := Lib.hid hl
  have hq : (l.length : Int) / 8 = (n : Int) := by omega
  have h8x : (l.length : Int) % 8 = 0 := by omega
  have hlx : (l.length : Int) ≤ 256 := by omega
  have hn0 := fun h0 : 0 < (bs l).length => (show 0 < n by rw [bs_len] at h0; omega)
  clear hi hl hd hn
  unfold laid at hset hto hx1
  simp only [← bs_splice] at hto
  go_enter Try.func34, Try.ntmps34
  go_wp2_with (first
    | (go_at_call 31; (with_reducible refine hin.mono ?_); rintro e w1 ⟨rfl, rfl⟩)
    | (go_at_call 52; (with_reducible refine hby.mono ?_); rintro e w2 ⟨off, cb, rfl, h5, h6, h7, h8, rfl⟩)
    | ((refine wpList_copy_keep rfl (.tmp 25) (.tmp 26) 23 23 rfl 5 Try.underlying23 hsl8 (some ⟨g, off, none⟩) A (n * 8) cb l.length c rfl rfl g (a * 8) (bs D) 5 hdat (bs l) hcsn (fun h0 => ⟨by rcases h7 with e | e; { rw [e] }; { have := hn0 h0; omega }, hsrc (by simpa using h0)⟩) hfit bs_one ?_); intro w3 hm3 hk3; have hn3 := hto w3 hm3 hk3; have y1 := hx1 w3 hn3)
    | (go_at_call 53; (with_reducible refine (hset _ hn3).mono ?_); rintro e w4 ⟨k4, M4, rfl, hr4, hm4, hk4⟩))
  go_ret
  exact ⟨rfl, M4, hr4, hn3.mapTo hm4 hk4 hr4.1, (hk3.eff (S := SpS g h) (.inl rfl)).trans (hk4.eff (S := SpS g h) (.inr rfl)) fun _ _ h => h⟩
end
end Go.Proofs.Ytflodljccloobaa
