/- Package lu: the unit's bytes. Written by tools/gen-un9.py. -/
import Derived.Test.YtpkebbibafldkaaUn8
namespace Go.Proofs.Ytpkebbibafldkaa
open Go.ChangeShapes Go.WideShapes Go.ChangeAt Go.RowKit Go.Lib
set_option linter.unusedVariables false
set_option linter.unusedSimpArgs false
set_option maxRecDepth 100000
namespace Un
open Rv
/-- The bytes of a host of whom nothing is kept, and of one whose first command was told nothing wrong. -/
def hb1 : List UInt8 := be 0 8 ++ be 0 1 ++ be 0 1
def hb0 : List UInt8 := be 0 8 ++ be 0 1 ++ be 1 1 ++ be 1 8 ++ be 0 2 ++ be 0 2 ++ be 0 2 ++ be 0 2 ++ be 0 2
def hostsB : Nat → List UInt8
  | 0 => []
  | i + 1 => hostsB i ++ (if i = 0 then hb0 else hb1)
def zz : Nat → List UInt8
  | 0 => []
  | j + 1 => zz j ++ be 0 2
def uB (sp : List UInt8) : List UInt8 := be sp.length 2 ++ sp ++ be 70 2 ++ tabB ++ hostsB 8
section
variable {w w' W W' : World} {B Z X g h Y N : Nat} {D D' M M' : List UInt8} {t t' : RT} {hs : List Value} {A : Option Addr} {m c : Nat} {L : List UInt8}
theorem hidx0 (tv : Value) (W : World) : (Instr.index 61 (.agg (hs0.set 2 tv).toArray) (.int .i64 0)).run Try.prog W = .ok (.agg #[.slice none 0 0, .int .u64 0, tv]) W := by kernel_rfl
theorem hidx1 (tv : Value) (i : Nat) (h1 : 1 ≤ i) (h8 : i < 8) (W : World) : (Instr.index 61 (.agg (hs0.set 2 tv).toArray) (.int .i64 (i : Nat))).run Try.prog W = .ok (.agg #[.slice none 0 0, .int .u64 0, .slice none 0 0]) W := by
  have : i = 1 ∨ i = 2 ∨ i = 3 ∨ i = 4 ∨ i = 5 ∨ i = 6 ∨ i = 7 := by omega
  rcases this with rfl | rfl | rfl | rfl | rfl | rfl | rfl <;> rfl
set_option maxHeartbeats 4000000 in
theorem uenc_any {tv : Value} {b0 : Nat} {SP : List UInt8} (hu : UnM w B Z X g h Y N D M RT.zero (hs0.set 2 tv)) (ht : Told w b0 tv 0 0 0 0 []) (hz : ∀ j, N ≤ j → bit M j = false) (hSP : ∀ R t, RunsOf M t R → (∀ j, t ≤ j → j < 8 * M.length → bit M j = false) → encS N D M R = SP) (hl : SP.length ≤ 20000) : Calls Try.prog 16 #[.pointer (some ⟨Z, 0, none⟩)] w fun e w' => ∃ A c, e = .returned (.slice A (uB SP).length c) ∧ w'.ownsRow w.heap.size 5 1 (.slice A (uB SP).length c) (uB SP).length (bs (uB SP)) ∧ Below w.heap.size w w' := by
  obtain ⟨G, p, A0, ca, rfl, hr, hd⟩ := ht
  have cE : Calls Try.prog 41 #[.pointer (some ⟨X, 0, none⟩)] w fun e w' => ∃ A c, e = .returned (.slice A SP.length c) ∧ Sl w' w'.heap.size (.slice A SP.length c) SP.length (bs SP) ∧ Below w.heap.size w w' := (encode_gen hu.sp hz).mono fun e w' ⟨v, R, t, q1, q2, q3, q4, q5⟩ => by
    rw [hSP R t q2 q3] at q4
    obtain ⟨A, c, rfl, _, _⟩ := q4.form
    exact ⟨A, c, q1, q4, q5⟩
  have cW1 : ∀ W A c, Below w.heap.size w W → Sl W W.heap.size (.slice A SP.length c) SP.length (bs SP) → Calls Try.prog 40 #[.slice none 0 0, .slice A SP.length c] W fun e w' => ∃ A' m' c', e = .returned (.slice A' m' c') ∧ EncS w w' A' m' c' (be SP.length 2 ++ SP) ∧ m' ≤ SP.length + 2 := fun W A c hb hv => ((EncS.part (L := []) ⟨hb, World.ownsRow_nil _ _ _ _, rfl, by omega⟩ (by omega) _ SP (by omega) hv)).mono fun e w' ⟨A', m', c', q1, q2, q3⟩ => ⟨A', m', c', q1, by simpa using q2, Nat.le_of_eq (by rw [← q2.len]; simp [be_len]; omega)⟩
  have cT : ∀ W, Below w.heap.size w W → Calls Try.prog 42 #[.pointer (some ⟨Y, 0, none⟩)] W fun e w' => ∃ A c, e = .returned (.slice A 70 c) ∧ w'.ownsRow W.heap.size 5 1 (.slice A 70 c) 70 (bs tabB) ∧ Below W.heap.size W w' := fun W hW => tenc_any (hu.below hW).tab
  have cW2 : ∀ W A m c L A2 c2, EncS w W A m c L → m ≤ 50000 → W.ownsRow 0 5 1 (.slice A2 70 c2) 70 (bs tabB) → Calls Try.prog 40 #[.slice A m c, .slice A2 70 c2] W fun e w' => ∃ A' m' c', e = .returned (.slice A' m' c') ∧ EncS w w' A' m' c' (L ++ be 70 2 ++ tabB) ∧ m' ≤ m + 72 := fun W A m c L A2 c2 he hm ho => (he.part hm _ tabB (by decide) (Sl.of_own ho)).mono fun e w' ⟨A', m', c', q1, q2, q3⟩ => ⟨A', m', c', q1, q2, Nat.le_of_eq (by rw [← q2.len, List.length_append, List.length_append, be_len, he.len]; rfl)⟩
  have cW3 : ∀ W A m c L A2 c2, EncS w W A m c L → m ≤ 50000 → W.ownsRow b0 5 1 (.slice A2 0 c2) 0 (bs []) → Calls Try.prog 40 #[.slice A m c, .slice A2 0 c2] W fun e w' => ∃ A' m' c', e = .returned (.slice A' m' c') ∧ EncS w w' A' m' c' (L ++ be 0 2) ∧ m' ≤ m + 2 := fun W A m c L A2 c2 he hm ho => (he.part hm _ [] (by decide) (Sl.of_own ho)).mono fun e w' ⟨A', m', c', q1, q2, q3⟩ => ⟨A', m', c', q1, by simpa using q2, Nat.le_of_eq (by rw [← q2.len]; simp [be_len, he.len])⟩
  have p08 : ∀ W A m c L, EncS w W A m c L → m ≤ 90000 → Calls Try.prog 43 #[.slice A m c, .int .u64 0, .int .i64 8] W fun e w' => ∃ A' m' c', e = .returned (.slice A' m' c') ∧ EncS w w' A' m' c' (L ++ be 0 8) ∧ m' ≤ m + 8 ∧ Below W.heap.size W w' := fun W A m c L he hm => (he.put 0 8 rfl rfl (by decide) (by decide) (by omega)).mono fun e w' ⟨A', m', c', q1, q2, q3⟩ => ⟨A', m', c', q1, q2, Nat.le_of_eq (by rw [← q2.len, List.length_append, be_len, he.len]), q3⟩
  have p01 : ∀ W A m c L, EncS w W A m c L → m ≤ 90000 → Calls Try.prog 43 #[.slice A m c, .int .u64 0, .int .i64 1] W fun e w' => ∃ A' m' c', e = .returned (.slice A' m' c') ∧ EncS w w' A' m' c' (L ++ be 0 1) ∧ m' ≤ m + 1 ∧ Below W.heap.size W w' := fun W A m c L he hm => (he.put 0 1 rfl rfl (by decide) (by decide) (by omega)).mono fun e w' ⟨A', m', c', q1, q2, q3⟩ => ⟨A', m', c', q1, q2, Nat.le_of_eq (by rw [← q2.len, List.length_append, be_len, he.len]), q3⟩
  have p11 : ∀ W A m c L, EncS w W A m c L → m ≤ 90000 → Calls Try.prog 43 #[.slice A m c, .int .u64 1, .int .i64 1] W fun e w' => ∃ A' m' c', e = .returned (.slice A' m' c') ∧ EncS w w' A' m' c' (L ++ be 1 1) ∧ m' ≤ m + 1 ∧ Below W.heap.size W w' := fun W A m c L he hm => (he.put 1 1 rfl rfl (by decide) (by decide) (by omega)).mono fun e w' ⟨A', m', c', q1, q2, q3⟩ => ⟨A', m', c', q1, q2, Nat.le_of_eq (by rw [← q2.len, List.length_append, be_len, he.len]), q3⟩
  have p18 : ∀ W A m c L, EncS w W A m c L → m ≤ 90000 → Calls Try.prog 43 #[.slice A m c, .int .u64 1, .int .i64 8] W fun e w' => ∃ A' m' c', e = .returned (.slice A' m' c') ∧ EncS w w' A' m' c' (L ++ be 1 8) ∧ m' ≤ m + 8 ∧ Below W.heap.size W w' := fun W A m c L he hm => (he.put 1 8 rfl rfl (by decide) (by decide) (by omega)).mono fun e w' ⟨A', m', c', q1, q2, q3⟩ => ⟨A', m', c', q1, q2, Nat.le_of_eq (by rw [← q2.len, List.length_append, be_len, he.len]), q3⟩
  have p02 : ∀ W A m c L, EncS w W A m c L → m ≤ 90000 → Calls Try.prog 43 #[.slice A m c, .int .u64 0, .int .i64 2] W fun e w' => ∃ A' m' c', e = .returned (.slice A' m' c') ∧ EncS w w' A' m' c' (L ++ be 0 2) ∧ m' ≤ m + 2 ∧ Below W.heap.size W w' := fun W A m c L he hm => (he.put 0 2 rfl rfl (by decide) (by decide) (by omega)).mono fun e w' ⟨A', m', c', q1, q2, q3⟩ => ⟨A', m', c', q1, q2, Nat.le_of_eq (by rw [← q2.len, List.length_append, be_len, he.len]), q3⟩
  have hra : ∀ W, Below w.heap.size w W → W.rangeAt Z 2 (hs0.set 2 (.slice (some ⟨G, 0, none⟩) 1 p)) := fun W hW j v hj => by
    rw [(hu.below hW).ch]
    exact hj
  have x0 := hu.c0
  have HSP := Lib.hid hSP
  have HZ := Lib.hid hz
  have hlx : (SP.length : Int) ≤ 20000 := by omega
  clear hSP hz
  go_enter Try.func16, Try.ntmps16
  go_upto_region 2 with (first
    | (go_at_call 41; (with_reducible refine cE.mono ?_); rintro e w1 ⟨A1, c1, rfl, s1, b1⟩; have cW := cW1 _ _ _ b1 s1)
    | (go_at_call 40; (with_reducible refine cW.mono ?_); rintro e w2 ⟨A2, m2, c2, rfl, e2, hm2⟩))
  clear x0
  have y1 := (hu.below e2.bl).c1
  have cT2 := cT w2 e2.bl
  go_upto_region 3 with (first
    | (go_at_call 42; (with_reducible refine cT2.mono ?_); rintro e w3 ⟨A3, c3, rfl, o3, b3⟩; have cW := cW2 _ _ _ _ _ _ _ (e2.below b3) (by omega) (owns_mono o3 (Nat.zero_le _)))
    | (go_at_call 40; (with_reducible refine cW.mono ?_); rintro e w4 ⟨A4, m4, c4, rfl, e4, hm4⟩))
  have hra4 := hra w4 e4.bl
  clear y1 cT2 cT cW1 cW2 cE
  go_wp2_with (refine wpList_load_mid rfl 61 (.tmp 27) rfl Z 2 rfl (hs0.set 2 (.slice (some ⟨G, 0, none⟩) 1 p)) _ hra4 Try.underlying61 rfl (by kernel_rfl) ?_)
  have hm4x : m4 ≤ 30000 := by omega
  obtain ⟨pre, hpre⟩ : ∃ pre, be SP.length 2 ++ SP ++ be 70 2 ++ tabB = pre := ⟨_, rfl⟩
  rw [hpre] at e4
  have HPRE := Lib.hid hpre
  have HE : Hid (pre = pre ++ hostsB 0) := Lib.hid (by simp [hostsB])
  clear hpre
  clear hra hra4 hlx hm2 hm4
  go_loopw [3, 29] (fun b x wr => ∃ (i : Nat) (A : Option Addr) (m c : Nat) (L : List UInt8), x = .int .i64 (i : Nat) ∧ i ≤ 8 ∧ b = .slice A m c ∧ EncS w wr A m c L ∧ Hid (L = pre ++ hostsB i) ∧ m ≤ 30000 + 100 * i) (fun _ x _ => 8 - (intOf x).toNat)
  case atStart => exact ⟨0, A4, m4, c4, pre, rfl, by omega, rfl, e4, HE, by omega⟩
  case round =>
    obtain ⟨i, A5, m5, c5, L5, rfl, hi, rfl, e5, HL, hm5⟩ := hrel
    rcases Nat.lt_or_ge i 8 with hi8 | hi8
    · rcases Nat.eq_zero_or_pos i with rfl | hi1
      · have hid := hidx0 (.slice (some ⟨G, 0, none⟩) 1 p)
        have hm5' : m5 ≤ 30000 := by omega
        have hnx : Hid (L5 ++ be 0 8 ++ be 0 1 ++ be 1 1 ++ be 1 8 ++ zz 4 ++ be 0 2 = pre ++ hostsB (0 + 1)) := Lib.hid (by rw [HL.out, show hostsB (0 + 1) = hb0 from rfl, show hostsB 0 = [] from rfl, hb0]; simp only [zz, List.append_assoc, List.append_nil, List.nil_append])
        generalize hs0.set 2 (.slice (some ⟨G, 0, none⟩) 1 p) = HV at *
        clear hm5 hi
        go_upto_region 6 with (fail)
        obtain ⟨w6, eq6, mh, b6⟩ : ∃ w6, w6 = wr.alloc (.cells #[.slice none 0 0, .int .u64 0, .slice (some ⟨G, 0, none⟩) 1 p] 60) ∧ Mem w6 wr.heap.size 60 #[.slice none 0 0, .int .u64 0, .slice (some ⟨G, 0, none⟩) 1 p] ∧ Below wr.heap.size wr w6 := ⟨_, rfl, Mem.new wr _ _, (Below.refl _ wr).alloc (Nat.le_refl _) _⟩
        rw [← eq6]
        clear eq6
        have e6 := e5.below b6
        have hm6 : m5 ≤ 90000 := by omega
        have q0 := mh.cell 0
        have q1 := mh.cell 1
        have q2 := mh.cell 2
        go_upto_region 8 with (first
          | (go_at_call 43; (with_reducible refine (p08 _ _ _ _ _ e6 hm6).mono ?_); rintro e w7 ⟨A7, m7, c7, rfl, e7, hq7, b7⟩; have hm7 : m7 ≤ 90000 := (by omega); have mh7 := mh.below b7 mh.lt; have q0 := mh7.cell 0; have q2 := mh7.cell 2)
          | (go_at_call 43; (with_reducible refine (p01 _ _ _ _ _ e7 hm7).mono ?_); rintro e w8 ⟨A8, m8, c8, rfl, e8, hq8, b8⟩; have hm8 : m8 ≤ 90000 := (by omega); have mh8 := mh7.below b8 mh7.lt; have q0 := mh8.cell 0; have q2 := mh8.cell 2))
        go_wp2
        go_loopw [3, 45] (fun b x wr => b = .slice A8 m8 c8 ∧ x = .int .i64 0 ∧ w8 = wr) (fun _ _ _ => 0)
        case atStart => exact ⟨rfl, rfl, rfl⟩
        case round =>
          obtain ⟨rfl, rfl, rfl⟩ := hrel
          go_upto_region 14 with (go_at_call 43; (with_reducible refine (p11 _ _ _ _ _ e8 hm8).mono ?_); rintro e w9 ⟨A9, m9, c9, rfl, e9, hq9, b9⟩; have hm9 : m9 ≤ 90000 := (by omega); have mh9 := mh8.below b9 mh8.lt; have q0 := mh9.cell 0; have q2 := mh9.cell 2)
          have hr9 := owns_below hr e9.bl
          have x0 := own_cells hr9 0 _ rfl
          have x1 := own_cells hr9 1 _ rfl
          have x2 := own_cells hr9 2 _ rfl
          have x3 := own_cells hr9 3 _ rfl
          have x4 := own_cells hr9 4 _ rfl
          have x5 := own_cells hr9 5 _ rfl
          go_wp2
          generalize hL9 : L5 ++ be 0 8 ++ be 0 1 ++ be 1 1 = L9 at *
          clear hL9
          go_loopw [3, 63] (fun b x wr => (x = .int .i64 0 ∧ b = .slice A9 m9 c9 ∧ w9 = wr) ∨ (x = .int .i64 1 ∧ ∃ A m c, b = .slice A m c ∧ EncS w wr A m c (L9 ++ be 1 8 ++ zz 4 ++ be 0 2) ∧ m ≤ 30100)) (fun _ x _ => 1 - (intOf x).toNat)
          case atStart => exact .inl ⟨rfl, rfl, rfl⟩
          case round =>
            rcases hrel with ⟨rfl, rfl, rfl⟩ | ⟨rfl, A, m, c, rfl, eE, hmE⟩
            · go_upto_region 17 with (fail)
              obtain ⟨wa, eqa, mk, ba⟩ : ∃ wa, wa = w9.alloc (.cells #[.int .u64 1, .int .i64 0, .int .i64 0, .int .i64 0, .slice A0 0 ca, .int .i64 0] 86) ∧ Mem wa w9.heap.size 86 #[.int .u64 1, .int .i64 0, .int .i64 0, .int .i64 0, .slice A0 0 ca, .int .i64 0] ∧ Below w9.heap.size w9 wa := ⟨_, rfl, Mem.new w9 _ _, (Below.refl _ w9).alloc (Nat.le_refl _) _⟩
              rw [← eqa]
              clear eqa x0 x1 x2 x3 x4 x5
              have ea := e9.below ba
              have k0 := mk.cell 0
              go_upto_region 18 with (go_at_call 43; (with_reducible refine (p18 _ _ _ _ _ ea hm9).mono ?_); rintro e w11 ⟨A11, m11, c11, rfl, e11, hq11, b11⟩)
              have mk11 := mk.below b11 mk.lt
              have k1 := mk11.cell 1
              have k2 := mk11.cell 2
              have k3 := mk11.cell 3
              have k5 := mk11.cell 5
              have b12 := (Below.refl _ w11).alloc (Nat.le_refl _) (.cells #[.int .i64 0, .int .i64 0, .int .i64 0, .int .i64 0] 3)
              have ms := Mem.new w11 3 #[.int .i64 0, .int .i64 0, .int .i64 0, .int .i64 0]
              have e12 := e11.below b12
              have mk12 := mk11.below b12 mk11.lt
              go_wp2
              go_loopw [3, 85] (fun b x wr => ∃ (j : Nat) (A : Option Addr) (m c : Nat), x = .int .i64 (j : Nat) ∧ j ≤ 4 ∧ b = .slice A m c ∧ EncS w wr A m c (L9 ++ be 1 8 ++ zz j) ∧ m ≤ 30050 + 2 * j ∧ Mem wr w11.heap.size 3 #[.int .i64 0, .int .i64 0, .int .i64 0, .int .i64 0] ∧ Mem wr w9.heap.size 86 #[.int .u64 1, .int .i64 0, .int .i64 0, .int .i64 0, .slice A0 0 ca, .int .i64 0]) (fun _ x _ => 4 - (intOf x).toNat)
              case atStart => exact ⟨0, A11, m11, c11, rfl, by omega, rfl, by rw [zz, List.append_nil]; exact e12, by omega, ms, mk12⟩
              case round =>
                obtain ⟨j, A13, m13, c13, rfl, hj, rfl, e13, hm13, ms13, mk13⟩ := hrel
                rcases Nat.lt_or_ge j 4 with hj4 | hj4
                · have hjx : (j : Int) < 4 := by omega
                  have xj : wr.cell? ⟨w11.heap.size, j, none⟩ = some (.int .i64 0) := by
                    rw [ms13.cell]
                    have : j = 0 ∨ j = 1 ∨ j = 2 ∨ j = 3 := by omega
                    rcases this with rfl | rfl | rfl | rfl <;> rfl
                  have hmx : m13 ≤ 90000 := by omega
                  have HM13 := Lib.hid hm13
                  have HJ := Lib.hid hj
                  clear hm13 hj
                  go_wp2_with (go_at_call 43; (with_reducible refine (p02 _ _ _ _ _ e13 hmx).mono ?_); rintro e w14 ⟨A14, m14, c14, rfl, e14, hq14, b14⟩)
                  have hmm := HM13.out
                  exact ⟨⟨j + 1, A14, m14, c14, by simp, by omega, rfl, by rw [zz, ← List.append_assoc]; exact e14, by omega, ms13.below b14 ms13.lt, mk13.below b14 mk13.lt⟩, by simp [intOf]; omega⟩
                · obtain rfl : j = 4 := by omega
                  have k4 := mk13.cell 4
                  have cW := cW3 wr A13 m13 c13 _ A0 ca e13 (by omega) (owns_below hd e13.bl)
                  go_wp2_with (go_at_call 40; (with_reducible refine cW.mono ?_); rintro e w15 ⟨A15, m15, c15, rfl, e15, hm15⟩)
                  exact ⟨.inr ⟨by trivial, A15, m15, c15, rfl, e15, by omega⟩, by simp [intOf]⟩
            · go_wp2
              exact ⟨⟨0 + 1, A, m, c, _, by trivial, by omega, rfl, eE, hnx, by omega⟩, by simp [intOf]⟩
      · have hix : (i : Int) < 8 := by omega
        have hid := hidx1 (.slice (some ⟨G, 0, none⟩) 1 p) i hi1 hi8
        have hm5' : m5 ≤ 80000 := by omega
        have hnx : Hid (L5 ++ be 0 8 ++ be 0 1 ++ be 0 1 = pre ++ hostsB (i + 1)) := Lib.hid (by rw [HL.out, hostsB, if_neg (by omega), hb1]; simp only [List.append_assoc])
        generalize hs0.set 2 (.slice (some ⟨G, 0, none⟩) 1 p) = HV at *
        have HM5 := Lib.hid hm5
        clear hm5 hi
        go_upto_region 6 with (fail)
        obtain ⟨w6, eq6, mh, b6⟩ : ∃ w6, w6 = wr.alloc (.cells #[.slice none 0 0, .int .u64 0, .slice none 0 0] 60) ∧ Mem w6 wr.heap.size 60 #[.slice none 0 0, .int .u64 0, .slice none 0 0] ∧ Below wr.heap.size wr w6 := ⟨_, rfl, Mem.new wr _ _, (Below.refl _ wr).alloc (Nat.le_refl _) _⟩
        rw [← eq6]
        clear eq6
        have e6 := e5.below b6
        have hm6 : m5 ≤ 90000 := by omega
        have q0 := mh.cell 0
        have q1 := mh.cell 1
        have q2 := mh.cell 2
        go_upto_region 8 with (first
          | (go_at_call 43; (with_reducible refine (p08 _ _ _ _ _ e6 hm6).mono ?_); rintro e w7 ⟨A7, m7, c7, rfl, e7, hq7, b7⟩; have hm7 : m7 ≤ 90000 := (by omega); have mh7 := mh.below b7 mh.lt; have q0 := mh7.cell 0; have q2 := mh7.cell 2)
          | (go_at_call 43; (with_reducible refine (p01 _ _ _ _ _ e7 hm7).mono ?_); rintro e w8 ⟨A8, m8, c8, rfl, e8, hq8, b8⟩; have hm8 : m8 ≤ 90000 := (by omega); have mh8 := mh7.below b8 mh7.lt; have q0 := mh8.cell 0; have q2 := mh8.cell 2))
        go_wp2
        go_loopw [3, 45] (fun b x wr => b = .slice A8 m8 c8 ∧ x = .int .i64 0 ∧ w8 = wr) (fun _ _ _ => 0)
        case atStart => exact ⟨rfl, rfl, rfl⟩
        case round =>
          obtain ⟨rfl, rfl, rfl⟩ := hrel
          go_upto_region 14 with (go_at_call 43; (with_reducible refine (p01 _ _ _ _ _ e8 hm8).mono ?_); rintro e w9 ⟨A9, m9, c9, rfl, e9, hq9, b9⟩; have hm9 : m9 ≤ 90000 := (by omega); have mh9 := mh8.below b9 mh8.lt; have q0 := mh9.cell 0; have q2 := mh9.cell 2)
          go_wp2
          go_loopw [3, 63] (fun b x wr => b = .slice A9 m9 c9 ∧ x = .int .i64 0 ∧ w9 = wr) (fun _ _ _ => 0)
          case atStart => exact ⟨rfl, rfl, rfl⟩
          case round =>
            obtain ⟨rfl, rfl, rfl⟩ := hrel
            go_wp2
            have hmm := HM5.out
            exact ⟨⟨i + 1, A9, m9, c9, _, by simp, by omega, rfl, e9, hnx, by omega⟩, by simp [intOf]; omega⟩
    · obtain rfl : i = 8 := by omega
      go_wp2
      go_ret
      have hfin : L5 = uB SP := by rw [HL.out, ← HPRE.out]; rfl
      rw [hfin] at e5
      have hlen := e5.len
      subst hlen
      exact ⟨A5, c5, rfl, e5.row, e5.bl⟩
end
end Un
end Go.Proofs.Ytpkebbibafldkaa
