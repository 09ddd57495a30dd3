/- SpaceParts: for all bytes and all numbers the statement's function tells true and turns nothing that was there. No condition. -/
import Derived.Test.YtchlfadhlakgkaaSp6
import Derived.LoopTactic
import Derived.IntWalk
namespace Go.Proofs.Ytchlfadhlakgkaa
open Go.ChangeShapes Go.WideShapes Go.ChangeAt Go.RowKit Go.Lib
set_option linter.unusedVariables false
set_option linter.unusedSimpArgs false
namespace Parts
theorem byte_bits (x : Nat) (h : x < 256) : x = x / 2 ^ 0 % 2 + 2 * (x / 2 ^ 1 % 2) + 4 * (x / 2 ^ 2 % 2) + 8 * (x / 2 ^ 3 % 2) + 16 * (x / 2 ^ 4 % 2) + 32 * (x / 2 ^ 5 % 2) + 64 * (x / 2 ^ 6 % 2) + 128 * (x / 2 ^ 7 % 2) := by omega
/-- Maps with the same bits are the same. -/
theorem map_ext {M M' : List UInt8} (hl : M.length = M'.length) (h : ∀ j, bit M j = bit M' j) : M = M' := by
  apply List.ext_getElem hl
  intro i h1 h2
  have e : ∀ j, j < 8 → (M[i]).toNat / 2 ^ j % 2 = (M'[i]).toNat / 2 ^ j % 2 := fun j hj => by
    rw [← bit_nat h1 hj, ← bit_nat h2 hj, h]
  apply UInt8.toNat_inj.1
  rw [byte_bits _ (M[i]).toNat_lt, byte_bits (M'[i]).toNat (M'[i]).toNat_lt, e 0 (by omega), e 1 (by omega), e 2 (by omega), e 3 (by omega), e 4 (by omega), e 5 (by omega), e 6 (by omega), e 7 (by omega)]
section
variable {o w w' : World} {B X g h N K g' h' : Nat} {D M : List UInt8}
theorem inv_far (hi : SpInv w B X g h N D M) (he : Eff (SpS g' h') w w') (hX : X ≠ g' ∧ X ≠ h') (hg : g ≠ g' ∧ g ≠ h') (hh : h ≠ g' ∧ h ≠ h') : SpInv w' B X g h N D M := by
  have hne : ∀ k, k ≠ g' ∧ k ≠ h' → ¬ SpS g' h' k := fun k hk hS => by rcases hS with e | e <;> omega
  exact ⟨hi.bX, hi.bg, hi.bh, hi.gX, hi.hX, hi.gh, (he.block X hi.mem.lt (hne X hX)).trans hi.mem, (he.block g hi.data.lt (hne g hg)).trans hi.data, (he.block h hi.map.lt (hne h hh)).trans hi.map, hi.lenD, hi.lenM, hi.pos, hi.few⟩
/-- A space stays while another one, made behind it, turns. -/
theorem far (hs : Spc o w X g h N D M) (he : Eff (SpS g' h') w w') (hX : X < K) (hg : g < K) (hh : h < K) (h1 : K ≤ g') (h2 : K ≤ h') (ho : o.heap.size ≤ K) : Spc o w' X g h N D M :=
  ⟨inv_far hs.inv he (by omega) (by omega) (by omega), he.below hs.bl hs.bl.size fun k _ hk => by rcases hk with e | e <;> omega⟩
end
/-- What was written so far, one block behind the other. -/
structure Sofar (D M : List UInt8) (a i : Nat) (l : List UInt8) : Prop where
  lenD : D.length = 320
  lenM : M.length = 5
  data : ∀ k, k < 320 → D[k]? = if a * 8 ≤ k ∧ k < a * 8 + i * 8 then l[k - a * 8]? else some 0
  map : ∀ j, bit M j = decide (a ≤ j ∧ j < a + i)
theorem bit_zero (n j : Nat) : bit (List.replicate n 0) j = false := by
  unfold bit
  rw [List.getD_eq_getElem?_getD, List.getElem?_replicate]
  split <;> simp
theorem Sofar.start (a : Nat) (l : List UInt8) : Sofar (List.replicate (8 * 40) 0) (List.replicate ((40 + 7) / 8) 0) a 0 l := by
  refine ⟨List.length_replicate, List.length_replicate, fun k hk => ?_, fun j => ?_⟩
  · rw [if_neg (by omega), List.getElem?_replicate, if_pos (by omega)]
  · rw [bit_zero, decide_eq_false (by omega)]
theorem Sofar.next {D M M' : List UInt8} {a i : Nat} {l p : List UInt8} (h : Sofar D M a i l) (hp : p.length = 8) (ha : a + i + 1 ≤ 40) (hpl : ∀ j, j < 8 → p[j]? = l[i * 8 + j]?) (hM : runTo M (a + i) 1 true M') : Sofar (laid D (a + i) p) M' a (i + 1) l := by
  have hlen : (a + i) * 8 + p.length ≤ D.length := by rw [h.lenD]; omega
  refine ⟨(laid_len hlen).trans h.lenD, hM.1.trans h.lenM, fun k hk => ?_, fun j => ?_⟩
  · rw [laid_get hlen]
    by_cases h1 : (a + i) * 8 ≤ k ∧ k < (a + i) * 8 + p.length
    · rw [if_pos h1, if_pos (by omega), hpl _ (by omega)]
      congr 1
      omega
    · rw [if_neg h1, h.data k hk]
      by_cases h2 : a * 8 ≤ k ∧ k < a * 8 + i * 8
      · rw [if_pos h2, if_pos (by omega)]
      · rw [if_neg h2, if_neg (by omega)]
  · rw [hM.2 j, h.map j]
    by_cases h1 : a + i ≤ j ∧ j < a + i + 1
    · rw [if_pos h1, decide_eq_true (by omega)]
    · rw [if_neg h1, decide_eq_decide]
      omega
theorem Sofar.once {D M M' : List UInt8} {a n : Nat} {l : List UInt8} (h : Sofar D M a 0 l) (hl : l.length = n * 8) (ha : a + n ≤ 40) (hM : runTo M a n true M') : Sofar (laid D a l) M' a n l := by
  have hlen : a * 8 + l.length ≤ D.length := by rw [h.lenD]; omega
  refine ⟨(laid_len hlen).trans h.lenD, hM.1.trans h.lenM, fun k hk => ?_, fun j => ?_⟩
  · rw [laid_get hlen]
    by_cases h1 : a * 8 ≤ k ∧ k < a * 8 + l.length
    · rw [if_pos h1, if_pos (by omega)]
    · rw [if_neg h1, h.data k hk, if_neg (by omega), if_neg (by omega)]
  · rw [hM.2 j, h.map j]
    by_cases h1 : a ≤ j ∧ j < a + n
    · rw [if_pos h1, decide_eq_true h1]
    · rw [if_neg h1, decide_eq_decide]
      omega
theorem Sofar.same {D M D' M' : List UInt8} {a n : Nat} {l : List UInt8} (h : Sofar D M a n l) (k : Sofar D' M' a n l) : D = D' ∧ M = M' := by
  constructor
  · apply List.ext_getElem?
    intro j
    by_cases hj : j < 320
    · rw [h.data j hj, k.data j hj]
    · rw [List.getElem?_eq_none (by rw [h.lenD]; omega), List.getElem?_eq_none (by rw [k.lenD]; omega)]
  · exact map_ext (h.lenM.trans k.lenM.symm) fun j => (h.map j).trans (k.map j).symm
/-- The pieces that are read are the data again. -/
theorem Sofar.read {D M : List UInt8} {a n cut : Nat} {l : List UInt8} (h : Sofar D M a n l) (hl : l.length = n * 8) (ha : a + n ≤ 40) (hc : cut ≤ n) : piece D a cut ++ piece D (a + cut) (n - cut) = l := by
  have h1 : (piece D a cut).length = cut * 8 := piece_len (by rw [h.lenD]; omega)
  apply List.ext_getElem?
  intro j
  by_cases hj : j < cut * 8
  · rw [List.getElem?_append_left (by omega), piece_get (by rw [h.lenD]; omega) hj, h.data _ (by omega), if_pos (by omega)]
    congr 1
    omega
  · rw [List.getElem?_append_right (by omega), h1]
    by_cases hj2 : j < n * 8
    · rw [piece_get (by rw [h.lenD]; omega) (by omega), h.data _ (by omega), if_pos (by omega)]
      congr 1
      omega
    · rw [List.getElem?_eq_none (by rw [piece_len (by rw [h.lenD]; omega)]; omega), List.getElem?_eq_none (by omega)]
theorem str {w : World} {v : Value} {n : Nat} {l : List UInt8} (h : Sl w w.heap.size v n (bs l)) : (convert 22 9 v).run Try.prog w = .ok (.string ⟨l.toArray⟩) w :=
  bytes_str (P := Try.prog) w 22 9 5 Try.underlying22 Try.underlying5 Try.underlying9 _ _ l n h
set_option maxRecDepth 100000 in
set_option maxHeartbeats 4000000 in
theorem walk_yes (v : Value) (l : List UInt8) (a n cut : Nat) (w : World) (hd : Sl w w.heap.size v l.length (bs l)) (hl : l.length = n * 8) (hn : n ≤ 20) (ha : a ≤ 20) (hc : cut ≤ n) :
    Calls Try.prog 5 #[v, .int .i64 (a : Nat), .int .i64 (cut : Nat)] w fun e w' => e = .returned (.bool true) ∧ Below w.heap.size w w' := by
  obtain ⟨A1, c1, rfl, f1, f2⟩ := hd.form
  rw [hl] at hd f1
  rw [hl]
  have HL := Lib.hid hl
  clear hl
  have hnx : ¬ (20 : Int) < (n : Int) := by omega
  have hax : ¬ (20 : Int) < (a : Int) := by omega
  have hax0 : ¬ (a : Int) < 0 := by omega
  have hcx0 : ¬ (cut : Int) < 0 := by omega
  have hcx : ¬ (n : Int) < (cut : Int) := by omega
  have hll : (n : Int) ≤ 20 := by omega
  have cNew := fun W (hW : Below w.heap.size w W) => (show Calls Try.prog 8 #[.int .i64 40] W (fun e w' => ∃ X g h, e = .returned (.tuple #[.pointer (some ⟨X, 0, none⟩), .int .i64 0]) ∧ Spc w w' X g h 40 (List.replicate (8 * 40) 0) (List.replicate ((40 + 7) / 8) 0) ∧ Below W.heap.size W w') from Spc.made 40 (by omega) (by omega) hW)
  have cNew2 := fun W => (show Calls Try.prog 8 #[.int .i64 40] W (fun e w' => ∃ X g h, e = .returned (.tuple #[.pointer (some ⟨X, 0, none⟩), .int .i64 0]) ∧ Spc W w' X g h 40 (List.replicate (8 * 40) 0) (List.replicate ((40 + 7) / 8) 0) ∧ Below W.heap.size W w') from Spc.made 40 (by omega) (by omega) (Below.refl _ _))
  have hdw := fun W (hW : Below w.heap.size w W) => hd.now hW
  have cA : ∀ w2 w3 X g h X' g' h', Spc w w2 X g h 40 (List.replicate (8 * 40) 0) (List.replicate ((40 + 7) / 8) 0) → Spc w2 w3 X' g' h' 40 (List.replicate (8 * 40) 0) (List.replicate ((40 + 7) / 8) 0) → Below w2.heap.size w2 w3 → Calls Try.prog 9 #[.pointer (some ⟨X, 0, none⟩), .int .i64 (a : Nat), .slice A1 (n * 8) c1] w3 fun e w' => e = .returned (.int .i64 0) ∧ ∃ D4 M4, Spc w w' X g h 40 D4 M4 ∧ SpInv w' w2.heap.size X' g' h' 40 (List.replicate (8 * 40) 0) (List.replicate ((40 + 7) / 8) 0) ∧ Sofar D4 M4 a n l := by
    intro w2 w3 X g h X' g' h' sa2 sb3 b3
    have sa3 := sa2.below b3
    have h1 := sa2.inv.data.lt
    have h2 := sa2.inv.map.lt
    have h3 := sa2.inv.mem.lt
    refine (write_ok a n _ l sa3.inv (by rw [HL.out]; exact hdw w3 sa3.bl) HL.out (by omega) (by omega)).mono ?_
    rintro e w' ⟨rfl, M', hM, hi, he⟩
    have hb := sb3.inv
    have b1 := hb.bX
    have b2 := hb.bg
    have b3' := hb.bh
    exact ⟨rfl, _, M', sa3.to hi he, inv_far hb he (by omega) (by omega) (by omega), (Sofar.start a l).once HL.out (by omega) hM⟩
  go_enter Try.func5, Try.ntmps5
  go_wp2_with (first
    | (go_at_call 7; refine (known_any _).mono ?_; rintro e w1 ⟨rfl, hb1⟩)
    | (go_at_call 9; (with_reducible refine (cA _ _ _ _ _ _ _ _ sa2 sb3 b3).mono ?_); rintro e w4 ⟨rfl, D4, M4, sa4, ib4, t4⟩)
    | (go_at_call 8; (with_reducible refine (cNew2 w2).mono ?_); rintro e w3 ⟨X', g', h', rfl, sb3, b3⟩)
    | (go_at_call 8; (with_reducible refine (cNew _ hb1).mono ?_); rintro e w2 ⟨X, g, h, rfl, sa2, b2⟩))
  have hK1 := sa2.inv.data.lt
  have hK2 := sa2.inv.map.lt
  have hK3 := sa2.inv.mem.lt
  have hK4 := sb3.inv.bX
  have hK5 := sb3.inv.bg
  have hK6 := sb3.inv.bh
  have hK7 := sa2.bl.size
  generalize w2.heap.size = K at *
  clear sa2 sb3 b3 b2 cA cNew cNew2
  have HK := Lib.hid (And.intro hK1 (And.intro hK2 (And.intro hK3 (And.intro hK4 (And.intro hK5 (And.intro hK6 hK7))))))
  clear hK1 hK2 hK3 hK4 hK5 hK6 hK7
  go_loopw [13] (fun i wr => ∃ j : Nat, j ≤ n ∧ i = .int .i64 j ∧ ∃ D' M', Spc w wr X g h 40 D4 M4 ∧ SpInv wr K X' g' h' 40 D' M' ∧ Sofar D' M' a j l) (fun i _ => n - (intOf i).toNat)
  case atStart => exact ⟨0, by omega, rfl, _, _, sa4, ib4, Sofar.start a l⟩
  case round =>
    obtain ⟨j, hj, rfl, D5, M5, sa5, ib5, t5⟩ := hrel
    by_cases hjl : j < n
    · obtain ⟨b1, o1, rfl, hb, hcl⟩ := hd.at_ (by omega)
      have hjx : (j : Int) < (n : Int) := by omega
      have hcx8 : ¬ (c1 : Int) = 8 * (j : Int) := by omega
      have hcx9 : (n : Int) * 8 ≤ (c1 : Int) := by omega
      clear hcl
      have cB : Calls Try.prog 9 #[.pointer (some ⟨X', 0, none⟩), .int .i64 ((a : Int) + (j : Int)), .slice (some ⟨b1, o1 + 8 * j, none⟩) 8 (c1 - 8 * j)] wr fun e w' => e = .returned (.int .i64 0) ∧ ∃ D' M', Spc w w' X g h 40 D4 M4 ∧ SpInv w' K X' g' h' 40 D' M' ∧ Sofar D' M' a (j + 1) l := by
        have hs1 := (hdw wr sa5.bl).take (show 8 * j + 8 ≤ n * 8 by omega)
        have hs2 := hs1.drop (show 8 * j < 8 * j + 8 by omega)
        rw [show 8 * j + 8 - 8 * j = 8 by omega] at hs2
        have hpl : ((l.take (8 * j + 8)).drop (8 * j)).length = 8 := by rw [List.length_drop, List.length_take, HL.out]; omega
        have hs3 : Sl wr wr.heap.size (.slice (some ⟨b1, o1 + 8 * j, none⟩) 8 (c1 - 8 * j)) ((l.take (8 * j + 8)).drop (8 * j)).length (bs ((l.take (8 * j + 8)).drop (8 * j))) := by
          rw [hpl]
          have : (List.take (8 * j + 8) (bs l)).drop (8 * j) = bs ((l.take (8 * j + 8)).drop (8 * j)) := by simp [bs, List.map_drop, List.map_take]
          rw [← this]
          exact hs2
        obtain ⟨q1, q2, q3, q4, q5, q6, q7⟩ := HK.out
        have hw := write_ok (a + j) 1 _ _ ib5 hs3 (by rw [hpl]) (by omega) (by omega)
        rw [show (((a + j : Nat) : Int)) = (a : Int) + (j : Int) by omega] at hw
        refine hw.mono ?_
        rintro e w' ⟨rfl, M', hM, hi, he⟩
        refine ⟨rfl, _, M', far sa5 he q3 q1 q2 q5 q6 q7, hi, t5.next hpl (by omega) (fun k hk => ?_) hM⟩
        rw [List.getElem?_drop, List.getElem?_take, if_pos (by omega), show 8 * j + k = j * 8 + k by omega]
      go_wp2_with (go_at_call 9; (with_reducible refine cB.mono ?_); rintro e w6 ⟨rfl, D6, M6, sa6, ib6, t6⟩)
      exact ⟨⟨j + 1, by omega, by go_num, D6, M6, sa6, ib6, t6⟩, by simp [intOf]; omega⟩
    · obtain rfl : j = n := by omega
      obtain ⟨eD, eM⟩ := t4.same t5
      subst eD eM
      have hl5 := t4.lenD
      have cR1 := read_ok a cut sa5.inv (by omega) (by omega)
      have cR2 : ∀ W, Spc w W X g h 40 D4 M4 → Calls Try.prog 11 #[.pointer (some ⟨X, 0, none⟩), .int .i64 ((a : Int) + (cut : Int)), .int .i64 ((j : Int) - (cut : Int))] W fun e w' => ∃ v, e = .returned (.tuple #[v, .int .i64 0]) ∧ w'.ownsRow W.heap.size 5 1 v ((j - cut) * 8) (bs (piece D4 (a + cut) (j - cut))) ∧ Below W.heap.size W w' := by
        intro W hs
        have := read_ok (a + cut) (j - cut) hs.inv (by omega) (by omega)
        rw [show (((a + cut : Nat) : Int)) = (a : Int) + (cut : Int) by omega, show (((j - cut : Nat) : Int)) = (j : Int) - (cut : Int) by omega] at this
        exact this
      go_wp2_with (first
        | (go_at_call 11; (with_reducible refine (cR2 _ sa7).mono ?_); rintro e w8 ⟨vy, rfl, oy, b8⟩; have sa8 := sa7.below b8)
        | (go_at_call 11; (with_reducible refine cR1.mono ?_); rintro e w7 ⟨vx, rfl, ox, b7⟩; have sa7 := sa5.below b7))
      have lx := (Sl.of_own ox).now b8
      have ly := Sl.of_own oy
      have ib8 := (ib5.below b7).below b8
      have hsum := t4.read HL.out (by omega) hc
      obtain ⟨E, hE⟩ : ∃ E : List UInt8, ∀ R t, RunsOf M4 t R → (∀ j, t ≤ j → j < 8 * M4.length → bit M4 j = false) → encS 40 D4 M4 R = E := by
        by_cases hx : ∃ R t, RunsOf M4 t R ∧ ∀ j, t ≤ j → j < 8 * M4.length → bit M4 j = false
        · obtain ⟨R, t, h1, h2⟩ := hx
          exact ⟨encS 40 D4 M4 R, fun R' t' k1 k2 => by rw [k1.unique k2 h1 h2]⟩
        · exact ⟨[], fun R t h1 h2 => absurd ⟨R, t, h1, h2⟩ hx⟩
      have cE : ∀ W B X g h, SpInv W B X g h 40 D4 M4 → Calls Try.prog 14 #[.pointer (some ⟨X, 0, none⟩)] W fun e w' => ∃ v, e = .returned v ∧ Sl w' w'.heap.size v E.length (bs E) ∧ Below W.heap.size W w' := by
        intro W B X g h hi
        refine (encode_any hi (by rw [t4.lenM])).mono ?_
        rintro e w' ⟨v, R, t, rfl, h1, h2, h3, h4⟩
        rw [hE R t h1 h2] at h3
        exact ⟨v, rfl, h3, h4⟩
      have cEa := fun W (hW : Below w8.heap.size w8 W) => cE W _ X g h (sa8.inv.below hW)
      have cEb := fun W (hW : Below w8.heap.size w8 W) => cE W _ X' g' h' (ib8.below hW)
      have ld := fun W (hW : Below w8.heap.size w8 W) => hdw W (sa8.bl.trans (hW.mono sa8.bl.size))
      have bl8 := sa8.bl
      clear cE cR1 cR2 sa5 sa7 ib5 sa4 ib4 HK
      generalize piece D4 a cut = px at *
      generalize piece D4 (a + cut) (j - cut) = py at *
      have hcat : (⟨px.toArray⟩ : ByteArray) ++ ⟨py.toArray⟩ = ⟨l.toArray⟩ := by rw [← hsum]; apply ByteArray.ext; simp
      have hpl : px.length + py.length = l.length := by rw [← hsum, List.length_append]
      have n1 : ¬ 9223372036854775807 < px.length + py.length := by rw [hpl, HL.out]; omega
      clear hsum hpl
      apply calm_region [.is (.int .i64 0), .is (.int .i64 0), .is (.int .i64 0), .is (.int .i64 0), .is (.int .i64 0), .is (.bool true), .is (.bool true), .is (.pointer (some ⟨X, 0, none⟩)), .sl E.length (bs E), .is (.string ⟨E.toArray⟩), .is (.pointer (some ⟨X', 0, none⟩)), .sl E.length (bs E), .is (.string ⟨E.toArray⟩), .is (.bool true), .is (.bool true), .is (.bool true), .is vx, .is (.string ⟨px.toArray⟩), .is vy, .is (.string ⟨py.toArray⟩), .is (.string ⟨l.toArray⟩), .is (.slice A1 (j * 8) c1), .is (.string ⟨l.toArray⟩), .is (.bool true), .is (.bool true), .is (.bool true)] [[], [], [0, 1], [], [2, 3], [4], [5], [6], [7, 6, 6], [8, 6], [6], [10, 8, 6], [11, 6], [9, 12, 6], [6, 13], [14, 11], [15], [16, 15], [15], [18, 15], [17, 19, 15], [15], [21, 15], [20, 22, 15], [15, 23], [24, 15, 0, 1, 2, 3, 4, 5, 6, 7, 8, 9, 10, 11, 12, 13, 14, 15, 16, 17, 18, 19, 20, 21, 22, 23, 24]] (by kernel_rfl) (by kernel_rfl) (by kernel_rfl) rfl
      intro f a1 ha1
      simp only [putL, Act.put, List.setIfInBounds_toArray, List.set_cons_succ, List.set_cons_zero] at ha1
      subst ha1
      refine ⟨?_, ?_⟩
      · refine AllCalm.cons (fun W hB hd => ?_) ?_
        · go_wp2_with (fail)
          exact CalmQ.mk rfl _ rfl (Below.refl _ _) rfl
        refine AllCalm.cons (fun W hB hd => ?_) ?_
        · go_wp2_with (fail)
          exact CalmQ.mk rfl _ rfl (Below.refl _ _) rfl
        refine AllCalm.cons (fun W hB hd => ?_) ?_
        · obtain ⟨h0, h1, -⟩ := hd
          have h0 : f 0 = _ := h0
          have h1 : f 1 = _ := h1
          rw [h0, h1]
          go_wp2_with (fail)
          exact CalmQ.mk rfl _ rfl (Below.refl _ _) rfl
        refine AllCalm.cons (fun W hB hd => ?_) ?_
        · go_wp2_with (fail)
          exact CalmQ.mk rfl _ rfl (Below.refl _ _) rfl
        refine AllCalm.cons (fun W hB hd => ?_) ?_
        · obtain ⟨h2, h3, -⟩ := hd
          have h2 : f 2 = _ := h2
          have h3 : f 3 = _ := h3
          rw [h2, h3]
          go_wp2_with (fail)
          exact CalmQ.mk rfl _ rfl (Below.refl _ _) rfl
        refine AllCalm.cons (fun W hB hd => ?_) ?_
        · obtain ⟨h4, -⟩ := hd
          have h4 : f 4 = _ := h4
          rw [h4]
          go_wp2_with (fail)
          exact CalmQ.mk rfl _ rfl (Below.refl _ _) rfl
        refine AllCalm.cons (fun W hB hd => ?_) ?_
        · obtain ⟨h5, -⟩ := hd
          have h5 : f 5 = _ := h5
          rw [h5]
          go_wp2_with (fail)
          exact CalmQ.mk rfl _ rfl (Below.refl _ _) rfl
        refine AllCalm.cons (fun W hB hd => ?_) ?_
        · obtain ⟨h6, -⟩ := hd
          have h6 : f 6 = _ := h6
          rw [h6]
          go_wp2_with (fail)
          exact CalmQ.mk rfl _ rfl (Below.refl _ _) rfl
        refine AllCalm.cons (fun W hB hd => ?_) ?_
        · obtain ⟨h7, h6, -, -⟩ := hd
          have h7 : f 7 = _ := h7
          have h6 : f 6 = _ := h6
          rw [h7, h6]
          have cf := cEa W hB
          go_wp2_with ((go_at_call 14; (with_reducible refine cf.mono ?_); rintro e wf ⟨v', rfl, hof, hbf⟩))
          exact CalmQ.mk rfl _ rfl hbf hof
        refine AllCalm.cons (fun W hB hd => ?_) ?_
        · obtain ⟨h8, h6, -⟩ := hd
          have h8 : Sl W W.heap.size (f 8) _ _ := h8
          have h6 : f 6 = _ := h6
          rw [h6]
          have st := str h8
          go_wp2_with (fail)
          exact CalmQ.mk rfl _ rfl (Below.refl _ _) rfl
        refine AllCalm.cons (fun W hB hd => ?_) ?_
        · obtain ⟨h6, -⟩ := hd
          have h6 : f 6 = _ := h6
          rw [h6]
          go_wp2_with (fail)
          exact CalmQ.mk rfl _ rfl (Below.refl _ _) rfl
        refine AllCalm.cons (fun W hB hd => ?_) ?_
        · obtain ⟨h10, h8, h6, -⟩ := hd
          have h10 : f 10 = _ := h10
          have h8 : Sl W W.heap.size (f 8) _ _ := h8
          have h6 : f 6 = _ := h6
          rw [h10, h6]
          have cf := cEb W hB
          go_wp2_with ((go_at_call 14; (with_reducible refine cf.mono ?_); rintro e wf ⟨v', rfl, hof, hbf⟩))
          exact CalmQ.mk rfl _ rfl hbf hof
        refine AllCalm.cons (fun W hB hd => ?_) ?_
        · obtain ⟨h11, h6, -⟩ := hd
          have h11 : Sl W W.heap.size (f 11) _ _ := h11
          have h6 : f 6 = _ := h6
          rw [h6]
          have st := str h11
          go_wp2_with (fail)
          exact CalmQ.mk rfl _ rfl (Below.refl _ _) rfl
        refine AllCalm.cons (fun W hB hd => ?_) ?_
        · obtain ⟨h9, h12, h6, -⟩ := hd
          have h9 : f 9 = _ := h9
          have h12 : f 12 = _ := h12
          have h6 : f 6 = _ := h6
          rw [h9, h12, h6]
          go_wp2_with (fail)
          exact CalmQ.mk rfl _ rfl (Below.refl _ _) rfl
        refine AllCalm.cons (fun W hB hd => ?_) ?_
        · obtain ⟨h6, h13, -⟩ := hd
          have h6 : f 6 = _ := h6
          have h13 : f 13 = _ := h13
          rw [h6, h13]
          go_wp2_with (fail)
          exact CalmQ.mk rfl _ rfl (Below.refl _ _) rfl
        refine AllCalm.cons (fun W hB hd => ?_) ?_
        · obtain ⟨h14, h11, -⟩ := hd
          have h14 : f 14 = _ := h14
          have h11 : Sl W W.heap.size (f 11) _ _ := h11
          rw [h14]
          go_wp2_with (fail)
          exact CalmQ.mk rfl _ rfl (Below.refl _ _) rfl
        refine AllCalm.cons (fun W hB hd => ?_) ?_
        · obtain ⟨h15, -⟩ := hd
          have h15 : f 15 = _ := h15
          rw [h15]
          go_wp2_with (fail)
          exact CalmQ.mk rfl _ rfl (Below.refl _ _) rfl
        refine AllCalm.cons (fun W hB hd => ?_) ?_
        · obtain ⟨h16, h15, -⟩ := hd
          have h16 : f 16 = _ := h16
          have h15 : f 15 = _ := h15
          rw [h16, h15]
          have st := str (lx.now hB)
          go_wp2_with (fail)
          exact CalmQ.mk rfl _ rfl (Below.refl _ _) rfl
        refine AllCalm.cons (fun W hB hd => ?_) ?_
        · obtain ⟨h15, -⟩ := hd
          have h15 : f 15 = _ := h15
          rw [h15]
          go_wp2_with (fail)
          exact CalmQ.mk rfl _ rfl (Below.refl _ _) rfl
        refine AllCalm.cons (fun W hB hd => ?_) ?_
        · obtain ⟨h18, h15, -⟩ := hd
          have h18 : f 18 = _ := h18
          have h15 : f 15 = _ := h15
          rw [h18, h15]
          have st := str (ly.now hB)
          go_wp2_with (fail)
          exact CalmQ.mk rfl _ rfl (Below.refl _ _) rfl
        refine AllCalm.cons (fun W hB hd => ?_) ?_
        · obtain ⟨h17, h19, h15, -⟩ := hd
          have h17 : f 17 = _ := h17
          have h19 : f 19 = _ := h19
          have h15 : f 15 = _ := h15
          rw [h17, h19, h15]
          go_wp2_with (fail)
          exact CalmQ.mk rfl _ rfl (Below.refl _ _) rfl
        refine AllCalm.cons (fun W hB hd => ?_) ?_
        · obtain ⟨h15, -⟩ := hd
          have h15 : f 15 = _ := h15
          rw [h15]
          go_wp2_with (fail)
          exact CalmQ.mk rfl _ rfl (Below.refl _ _) rfl
        refine AllCalm.cons (fun W hB hd => ?_) ?_
        · obtain ⟨h21, h15, -⟩ := hd
          have h21 : f 21 = _ := h21
          have h15 : f 15 = _ := h15
          rw [h21, h15]
          have st := str (ld W hB)
          go_wp2_with (fail)
          exact CalmQ.mk rfl _ rfl (Below.refl _ _) rfl
        refine AllCalm.cons (fun W hB hd => ?_) ?_
        · obtain ⟨h20, h22, h15, -⟩ := hd
          have h20 : f 20 = _ := h20
          have h22 : f 22 = _ := h22
          have h15 : f 15 = _ := h15
          rw [h20, h22, h15]
          go_wp2_with (fail)
          exact CalmQ.mk rfl _ rfl (Below.refl _ _) rfl
        refine AllCalm.cons (fun W hB hd => ?_) ?_
        · obtain ⟨h15, h23, -⟩ := hd
          have h15 : f 15 = _ := h15
          have h23 : f 23 = _ := h23
          rw [h15, h23]
          go_wp2_with (fail)
          exact CalmQ.mk rfl _ rfl (Below.refl _ _) rfl
        refine AllCalm.cons (fun W hB hd => ?_) ?_
        · obtain ⟨h24, h15, h0, h1, h2, h3, h4, h5, h6, h7, h8, h9, h10, h11, h12, h13, h14, -, h16, h17, h18, h19, h20, h21, h22, h23, -, -⟩ := hd
          have h24 : f 24 = _ := h24
          have h15 : f 15 = _ := h15
          have h0 : f 0 = _ := h0
          have h1 : f 1 = _ := h1
          have h2 : f 2 = _ := h2
          have h3 : f 3 = _ := h3
          have h4 : f 4 = _ := h4
          have h5 : f 5 = _ := h5
          have h6 : f 6 = _ := h6
          have h7 : f 7 = _ := h7
          have h8 : Sl W W.heap.size (f 8) _ _ := h8
          have h9 : f 9 = _ := h9
          have h10 : f 10 = _ := h10
          have h11 : Sl W W.heap.size (f 11) _ _ := h11
          have h12 : f 12 = _ := h12
          have h13 : f 13 = _ := h13
          have h14 : f 14 = _ := h14
          have h16 : f 16 = _ := h16
          have h17 : f 17 = _ := h17
          have h18 : f 18 = _ := h18
          have h19 : f 19 = _ := h19
          have h20 : f 20 = _ := h20
          have h21 : f 21 = _ := h21
          have h22 : f 22 = _ := h22
          have h23 : f 23 = _ := h23
          rw [h24, h15, h0, h1, h2, h3, h4, h5, h6, h7, h9, h10, h12, h13, h14, h16, h17, h18, h19, h20, h21, h22, h23]
          go_wp2_with (fail)
          exact CalmQ.mk rfl _ rfl (Below.refl _ _) rfl
        exact AllCalm.nil
      · intro W hB hT
        obtain ⟨h0, h1, h2, h3, h4, h5, h6, h7, h8, h9, h10, h11, h12, h13, h14, h15, h16, h17, h18, h19, h20, h21, h22, h23, h24, h25, -⟩ := hT
        have h0 : f 0 = _ := h0
        have h1 : f 1 = _ := h1
        have h2 : f 2 = _ := h2
        have h3 : f 3 = _ := h3
        have h4 : f 4 = _ := h4
        have h5 : f 5 = _ := h5
        have h6 : f 6 = _ := h6
        have h7 : f 7 = _ := h7
        have h8 : Sl W W.heap.size (f 8) _ _ := h8
        have h9 : f 9 = _ := h9
        have h10 : f 10 = _ := h10
        have h11 : Sl W W.heap.size (f 11) _ _ := h11
        have h12 : f 12 = _ := h12
        have h13 : f 13 = _ := h13
        have h14 : f 14 = _ := h14
        have h15 : f 15 = _ := h15
        have h16 : f 16 = _ := h16
        have h17 : f 17 = _ := h17
        have h18 : f 18 = _ := h18
        have h19 : f 19 = _ := h19
        have h20 : f 20 = _ := h20
        have h21 : f 21 = _ := h21
        have h22 : f 22 = _ := h22
        have h23 : f 23 = _ := h23
        have h24 : f 24 = _ := h24
        have h25 : f 25 = _ := h25
        rw [h0, h1, h2, h3, h4, h5, h6, h7, h9, h10, h12, h13, h14, h15, h16, h17, h18, h19, h20, h21, h22, h23, h24, h25]
        clear h0 h1 h2 h3 h4 h5 h6 h7 h9 h10 h12 h13 h14 h15 h16 h17 h18 h19 h20 h21 h22 h23 h24 h25
        have hbW := bl8.trans (hB.mono bl8.size)
        go_wp2
        go_ret
        exact ⟨rfl, hbW⟩
theorem walk (v : Value) (l : List UInt8) (at_ cut : Int) (w : World) (hd : Sl w w.heap.size v l.length (bs l)) (_ : -9223372036854775808 ≤ at_) (_ : at_ ≤ 9223372036854775807) (_ : -9223372036854775808 ≤ cut) (_ : cut ≤ 9223372036854775807) :
    Calls Try.prog 5 #[v, .int .i64 at_, .int .i64 cut] w fun e w' => e = .returned (.bool true) ∧ Below w.heap.size w w' := by
  by_cases hyes : l.length % 8 = 0 ∧ l.length / 8 ≤ 20 ∧ 0 ≤ at_ ∧ at_ ≤ 20 ∧ 0 ≤ cut ∧ cut ≤ (l.length / 8 : Nat)
  · obtain ⟨h1, h2, h3, h4, h5, h6⟩ := hyes
    obtain ⟨a, rfl⟩ : ∃ a : Nat, at_ = a := ⟨at_.toNat, by omega⟩
    obtain ⟨c, rfl⟩ : ∃ c : Nat, cut = c := ⟨cut.toNat, by omega⟩
    exact walk_yes v l a (l.length / 8) c w hd (by omega) h2 (by omega) (by omega)
  · obtain ⟨A1, c1, rfl, f1, f2⟩ := hd.form
    have hlen := hd.len_le
    have e1 : ((l.length : Nat) : Int).tdiv 8 = ((l.length / 8 : Nat) : Int) := by rw [Int.tdiv_eq_ediv_of_nonneg (by omega)]; omega
    have e2 : ((l.length : Nat) : Int).tmod 8 = ((l.length % 8 : Nat) : Int) := by rw [Int.tmod_eq_emod_of_nonneg (by omega)]; omega
    have hlx : (l.length : Int) ≤ 9223372036854775807 := by unfold maxLen at hlen; omega
    have hq : ((l.length : Nat) : Int) / 8 = ((l.length / 8 : Nat) : Int) := by omega
    have hr : ((l.length : Nat) : Int) % 8 = ((l.length % 8 : Nat) : Int) := by omega
    by_cases g1 : l.length % 8 = 0
    case neg =>
      have g1x : ¬ ((l.length : Nat) : Int) % 8 = 0 := by omega
      clear e1 e2 hq hr hyes g1
      go_enter Try.func5, Try.ntmps5
      go_wp2_with (go_at_call 7; refine (known_any _).mono ?_; rintro e w1 ⟨rfl, hb1⟩)
      go_ret
      exact ⟨rfl, hb1⟩
    have g1x : ((l.length : Nat) : Int) % 8 = 0 := by omega
    by_cases g2 : l.length / 8 ≤ 20
    case neg =>
      have g2x : (20 : Int) < ((l.length : Nat) : Int) / 8 := by omega
      clear e1 e2 hq hr hyes g1 g2
      go_enter Try.func5, Try.ntmps5
      go_wp2_with (go_at_call 7; refine (known_any _).mono ?_; rintro e w1 ⟨rfl, hb1⟩)
      go_ret
      exact ⟨rfl, hb1⟩
    have g2x : ¬ (20 : Int) < ((l.length : Nat) : Int) / 8 := by omega
    by_cases g3 : at_ < 0
    · clear e1 e2 hq hr hyes g1 g2
      go_enter Try.func5, Try.ntmps5
      go_wp2_with (go_at_call 7; refine (known_any _).mono ?_; rintro e w1 ⟨rfl, hb1⟩)
      go_ret
      exact ⟨rfl, hb1⟩
    by_cases g4 : 20 < at_
    · clear e1 e2 hq hr hyes g1 g2
      go_enter Try.func5, Try.ntmps5
      go_wp2_with (go_at_call 7; refine (known_any _).mono ?_; rintro e w1 ⟨rfl, hb1⟩)
      go_ret
      exact ⟨rfl, hb1⟩
    by_cases g5 : cut < 0
    · clear e1 e2 hq hr hyes g1 g2
      go_enter Try.func5, Try.ntmps5
      go_wp2_with (go_at_call 7; refine (known_any _).mono ?_; rintro e w1 ⟨rfl, hb1⟩)
      go_ret
      exact ⟨rfl, hb1⟩
    have g6 : ((l.length : Nat) : Int) / 8 < cut := by omega
    clear e1 e2 hq hr hyes g1 g2
    go_enter Try.func5, Try.ntmps5
    go_wp2_with (go_at_call 7; refine (known_any _).mono ?_; rintro e w1 ⟨rfl, hb1⟩)
    go_ret
    exact ⟨rfl, hb1⟩
set_option maxRecDepth 100000 in
theorem lifted (os : Os) (started : os.Started) (H : Type) (enc : TypeId × Value → H) :
    ReturnsInHanded {} Try.checked os 5 .any (Rows.spacePartsSpec.pre6 enc Try.prog Try.f5 Rows.spacePartsRow.domain false) (Rows.spacePartsSpec.post enc Try.prog Try.f5 false true false false) := by
  refine returnsInHanded_of_change (C := Try.checked) own started (by kernel_rfl) Try.func5
    (ChangeSpec.witness6 (enc := enc) (C := Try.checked) false ⟨#[], #[.slice none 0 0, .int .i64 0, .int .i64 0], []⟩ 8 (by kernel_rfl) (by kernel_rfl) (by kernel_rfl) (by kernel_rfl)) ?_
  intro W base args ds gs before hval0 hW hcnd _
  have hval : ∀ (j : Nat) t v, Try.f5.params[j]? = some t → args[j]? = some v → Value.okWide Try.prog W .any base t v := hval0
  have hW' := hW
  obtain ⟨p, q, hA0, hV, rfl, hfz, hnd⟩ := hW
  have hA : DataW.TrodAll enc Try.prog W 0 (fun _ => true) true Try.f5.params.toList args.toList ds p := hA0
  rw [Try.params5] at hA hval
  obtain ⟨v0, vs0, d0, ds0, p0, q0, hargs, rfl, rfl, h0, r0⟩ := trodAll_cons hA
  obtain ⟨v1, vs1, d1, ds1, p1, q1, rfl, rfl, rfl, h1, r1⟩ := trodAll_cons r0
  obtain ⟨v2, vs2, d2, ds2, p2, q2, rfl, rfl, rfl, h2, r2⟩ := trodAll_cons r1
  obtain ⟨rfl, rfl, rfl⟩ := trodAll_nil r2
  obtain rfl : args = #[v0, v1, v2] := by cases args; simp_all
  obtain ⟨rfl, rfl⟩ := trodVars_none hV
  obtain ⟨l0, s0, e0⟩ := open_bytes Try.underlying22 Try.underlying5 (by kernel_rfl) (hval 0 22 v0 rfl rfl) h0
  obtain ⟨a1, rfl, _, _, w1⟩ := open_int Try.underlying3 (hval 1 3 v1 rfl rfl) h1
  have b1 := bounds_i64 w1
  obtain ⟨a2, rfl, _, _, w2⟩ := open_int Try.underlying3 (hval 2 3 v2 rfl rfl) h2
  have b2 := bounds_i64 w2
  refine (walk v0 l0 a1 a2 W s0 b1.1 b1.2 b2.1 b2.2).mono fun e W' ⟨he, hb⟩ => ?_
  subst he
  exact ⟨_, rfl, law_post laidOut (by kernel_rfl) rfl (by kernel_rfl) Try.underlying4 rfl rfl rfl hW' hb⟩

theorem proved : Rows.SpacePartsSaid :=
  OpenClaim.holds_of_wide 5 Try.f5 rfl rfl rfl rfl rfl rfl rfl ⟨rfl, rfl, rfl, rfl, rfl⟩ rfl rfl rfl rfl rfl (by kernel_rfl) Try.func5 (by kernel_rfl)
    (of_decide_eq_true (by kernel_rfl)) (by unfold Func.isWrapper; first | (rw [if_pos (by decide +kernel)]; kernel_rfl) | (rw [if_neg (by decide +kernel)]; exact ⟨rfl, rfl⟩))
    (fun os started H enc _ => lifted os started H enc)
end Parts
end Go.Proofs.Ytchlfadhlakgkaa
