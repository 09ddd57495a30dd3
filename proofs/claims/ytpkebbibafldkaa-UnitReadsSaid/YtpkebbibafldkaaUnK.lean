/- gemellaw17: known. -/
import Derived.Test.YtpkebbibafldkaaUnF
import Derived.Lib.SlBytesConst
namespace Go.Proofs.Ytpkebbibafldkaa
open Go.ChangeShapes Go.WideShapes Go.ChangeAt Go.RowKit Go.Lib
set_option linter.unusedVariables false
set_option linter.unusedSimpArgs false
set_option maxRecDepth 100000
namespace Un
open Rv
def chA : Array Value := #[.int .u8 97, .int .u8 98, .int .u8 99, .int .u8 100, .int .u8 101, .int .u8 102, .int .u8 103, .int .u8 104]
theorem chA_sl (W : World) : Sl (W.alloc (.cells #[.int .u8 97, .int .u8 98, .int .u8 99, .int .u8 100, .int .u8 101, .int .u8 102, .int .u8 103, .int .u8 104] 5 (8, 9))) (W.alloc (.cells #[.int .u8 97, .int .u8 98, .int .u8 99, .int .u8 100, .int .u8 101, .int .u8 102, .int .u8 103, .int .u8 104] 5 (8, 9))).heap.size (.slice (some ⟨W.heap.size, 0, none⟩) 8 8) kL.length (bs kL) := Sl.freshM (c := 8) W #[.int .u8 97, .int .u8 98, .int .u8 99, .int .u8 100, .int .u8 101, .int .u8 102, .int .u8 103, .int .u8 104] _ _ rfl (by decide) (by decide)
theorem bit2k (j : Nat) (h : 4 ≤ j) : bit [2] j = false := by
  rw [bit2]
  exact decide_eq_false (by omega)
theorem box_new (W : World) (cs : Array Value) : ∃ w', w' = W.alloc (.cells cs 36) ∧ Mem w' W.heap.size 36 cs ∧ Below W.heap.size W w' := ⟨_, rfl, Mem.new W _ _, (Below.refl _ W).alloc (Nat.le_refl _) _⟩
theorem owns_low {W W' : World} {b n e sz : Nat} {v : Value} {xs : List Value} (h : W.ownsRow b e sz v n xs) (he : Eff (fun q => q < b) W W') : W'.ownsRow b e sz v n xs := owns_eff h he fun k hk q => by
  obtain ⟨q1, q2, -⟩ := own_tag h k hk
  omega
theorem Told.low {W W' : World} {b : Nat} {tv : Value} {s k c i : Int} {l : List UInt8} (ht : Told W b tv s k c i l) (he : Eff (fun q => q < b) W W') : Told W' b tv s k c i l := by
  obtain ⟨G, cap, A, ca, h1, h2, h3⟩ := ht
  exact ⟨G, cap, A, ca, h1, owns_low h2 he, owns_low h3 he⟩
/-- A unit of four blocks in its own blocks, all of them below b. -/
structure KU (w W : World) (b Z X g h Y : Nat) (D M : List UInt8) (hs : List Value) : Prop where
  un : UnM W w.heap.size Z X g h Y 4 D M RT.zero hs
  bl : Below w.heap.size w W
  lb : w.heap.size ≤ b
  le : b ≤ W.heap.size
  lZ : Z < b
  lg : g < b
  lh : h < b
section
variable {w W W' : World} {b Z X g h Y : Nat} {D M D' M' : List UInt8} {hs hs' : List Value}
theorem KU.below (k : KU w W b Z X g h Y D M hs) (hb : Below W.heap.size W W') : KU w W' b Z X g h Y D M hs := ⟨k.un.below hb, k.bl.trans (hb.mono k.bl.size), k.lb, Nat.le_trans k.le hb.size, k.lZ, k.lg, k.lh⟩
theorem KU.low (k : KU w W b Z X g h Y D M hs) {q : Nat} (hq : SpS g h q ∨ q = Z) : q < b := hq.elim (fun e => e.elim (fun e => e ▸ k.lg) (fun e => e ▸ k.lh)) (fun e => e ▸ k.lZ)
theorem KU.eff (k : KU w W b Z X g h Y D M hs) (hu : UnM W' w.heap.size Z X g h Y 4 D' M' RT.zero hs') (he : Eff (fun q => SpS g h q ∨ q = Z) W W') : KU w W' b Z X g h Y D' M' hs' ∧ Eff (fun q => q < b) W W' := by
  have e := he.mono fun q _ hq => k.low hq
  exact ⟨⟨hu, he.below k.bl k.bl.size fun q _ hq => hq.elim (fun e => e.elim (fun e => e ▸ k.un.sp.bg) (fun e => e ▸ k.un.sp.bh)) (fun e => e ▸ k.un.bZ), k.lb, Nat.le_trans k.le he.size, k.lZ, k.lg, k.lh⟩, e⟩
end
set_option maxHeartbeats 8000000 in
theorem known_any (w : World) : Calls Try.prog 7 #[] w fun e w' => e = .returned (.bool true) ∧ Below w.heap.size w w' := by
  have kc := fun (W : World) (C : Array Value) (n c : Nat) => Lib.run_convert_bytes_const (P := Try.prog) W 22 5 C n c Try.underlying22 Try.underlying5
  have cN : Calls Try.prog 12 #[.int .i64 4] w fun e w' => ∃ Z X g h Y, e = .returned (.tuple #[.pointer (some ⟨Z, 0, none⟩), .int .i64 0]) ∧ KU w w' w'.heap.size Z X g h Y (List.replicate 32 0) (List.replicate 1 0) hs0 := (unew_any 4 (by decide) (by decide) w).mono fun e w' ⟨Z, X, g, h, Y, a1, a2, a3⟩ => ⟨Z, X, g, h, Y, a1, a2, a3, a3.size, Nat.le_refl _, a2.mem.lt, a2.sp.data.lt, a2.sp.map.lt⟩
  have cO : ∀ W b Z X g h Y, KU w W b Z X g h Y (List.replicate 32 0) (List.replicate 1 0) hs0 → Calls Try.prog 15 #[.pointer (some ⟨Z, 0, none⟩), .int .i64 0, .int .u64 1, .int .u64 0, .agg #[.int .i64 3, .int .i64 1, .int .i64 1, .slice (some ⟨W.heap.size, 0, none⟩) 8 8, .int .u64 0, .int .u64 0, .int .i64 0, .bool false]] (W.alloc (.cells #[.int .u8 97, .int .u8 98, .int .u8 99, .int .u8 100, .int .u8 101, .int .u8 102, .int .u8 103, .int .u8 104] 5 (8, 9))) fun e w' => ∃ A c tv, e = .returned (.tuple #[.agg #[.int .i64 0, .int .i64 0, .int .i64 0, .slice A 0 c, .int .i64 0], .bool true]) ∧ KU w w' b Z X g h Y kD [2] (hs0.set 2 tv) ∧ Told w' b tv 0 0 0 0 [] ∧ w'.ownsRow b 5 1 (.slice A 0 c) 0 [] := fun W b Z X g h Y k => by
    have kb := k.below ((Below.refl _ W).alloc (Nat.le_refl _) (.cells #[.int .u8 97, .int .u8 98, .int .u8 99, .int .u8 100, .int .u8 101, .int .u8 102, .int .u8 103, .int .u8 104] 5 (8, 9)))
    have hs := chA_sl W
    generalize hV : W.alloc (.cells #[.int .u8 97, .int .u8 98, .int .u8 99, .int .u8 100, .int .u8 101, .int .u8 102, .int .u8 103, .int .u8 104] 5 (8, 9)) = V at *
    have q := once_first kb.un 3 1 1 0 0 0 (.slice (some ⟨W.heap.size, 0, none⟩) 8 8) false (l := []) (by decide) fun W2 h2 => do_blk3 (kb.un.below h2) 0 (by decide) (hs0_at 0 (by decide)) rfl 1 1 (.slice (some ⟨W.heap.size, 0, none⟩) 8 8) 0 0 0 false (OnB.write (l := kL) (kb.un.below h2) 1 1 (by decide) (by decide) (hs.now h2) rfl)
    refine q.mono ?_
    rintro e w' ⟨v, tv, M', rfl, ⟨A, c, rfl, o⟩, hM, u, t, E⟩
    obtain rfl := map2 hM
    obtain ⟨k', -⟩ := kb.eff u E
    exact ⟨A, c, tv, rfl, k', t.mono kb.le, owns_mono o kb.le⟩
  have cR : ∀ W b Z X g h Y tv, KU w W b Z X g h Y kD [2] (hs0.set 2 tv) → Calls Try.prog 10 #[.pointer (some ⟨Z, 0, none⟩), .int .i64 1, .agg #[.int .i64 2, .int .i64 1, .int .i64 1, .slice none 0 0, .int .u64 0, .int .u64 0, .int .i64 0, .bool false]] W fun e w' => ∃ A c, e = .returned (.agg #[.int .i64 0, .int .i64 0, .int .i64 0, .slice A 8 c, .int .i64 0]) ∧ w'.ownsRow b 5 1 (.slice A 8 c) 8 (bs kL) ∧ KU w w' b Z X g h Y kD [2] (hs0.set 2 tv) ∧ Eff (fun q => q < b) W w' := fun W b Z X g h Y tv k => by
    have q := do_blk2 k.un 1 (by decide) (A := none) (c0 := 0) rfl rfl 1 1 (.slice none 0 0) 0 0 0 false (OnB.read k.un 1 1 (by decide) (by decide))
    refine q.mono ?_
    rintro e w' ⟨v, M', rfl, ⟨A, c, rfl, o⟩, rfl, u, E⟩
    have hp : piece kD 1 1 = kL := by decide +kernel
    rw [hp] at o ⊢
    obtain ⟨k', e'⟩ := k.eff u (E.mono fun _ _ h => .inl h)
    exact ⟨A, c, rfl, owns_mono o k.le, k', e'⟩
  have cA : ∀ W b Z X g h Y tv, KU w W b Z X g h Y kD [2] (hs0.set 2 tv) → Told W b tv 0 0 0 0 [] → Calls Try.prog 15 #[.pointer (some ⟨Z, 0, none⟩), .int .i64 0, .int .u64 1, .int .u64 0, .agg #[.int .i64 2, .int .i64 1, .int .i64 1, .slice none 0 0, .int .u64 0, .int .u64 0, .int .i64 0, .bool false]] W fun e w' => ∃ A c tv, e = .returned (.tuple #[.agg #[.int .i64 0, .int .i64 0, .int .i64 0, .slice A 0 c, .int .i64 0], .bool false]) ∧ w'.ownsRow b 5 1 (.slice A 0 c) 0 [] ∧ KU w w' b Z X g h Y kD [2] (hs0.set 2 tv) ∧ Told w' b tv 0 0 0 0 [] ∧ Eff (fun q => q < b) W w' := fun W b Z X g h Y tv k t => by
    have q := once_again k.un 2 1 1 0 0 0 (.slice none 0 0) false (l := []) (by decide) t k.le
    refine q.mono ?_
    rintro e w' ⟨v, tv, rfl, ⟨A, c, rfl, o⟩, u, t, E⟩
    obtain ⟨k', e'⟩ := k.eff u (E.mono fun _ _ h => .inr h)
    exact ⟨A, c, tv, rfl, owns_mono o k.le, k', t, e'⟩
  have cD : ∀ W Z, Calls Try.prog 10 #[.pointer (some ⟨Z, 0, none⟩), .int .i64 9, .agg #[.int .i64 2, .int .i64 0, .int .i64 0, .slice none 0 0, .int .u64 0, .int .u64 0, .int .i64 0, .bool false]] W fun e w' => e = .returned (.agg #[.int .i64 2, .int .i64 5, .int .i64 8192, .slice none 0 0, .int .i64 0]) ∧ Below W.heap.size W w' := fun W Z => do_nobody Z 0 0 0 0 0 2 (.slice none 0 0) rfl false
  have cE : ∀ W b Z X g h Y tv, KU w W b Z X g h Y kD [2] (hs0.set 2 tv) → Told W b tv 0 0 0 0 [] → Calls Try.prog 16 #[.pointer (some ⟨Z, 0, none⟩)] W fun e w' => ∃ A c, e = .returned (.slice A kB.length c) ∧ w'.ownsRow W.heap.size 5 1 (.slice A kB.length c) kB.length (bs kB) ∧ Below W.heap.size W w' := fun W b Z X g h Y tv k t => uenc_any k.un t bit2k (fun R t h h2 => enc2 h h2) (by decide)
  have cF : ∀ W A c B, W.ownsRow B 5 1 (.slice A kB.length c) kB.length (bs kB) → Calls Try.prog 9 #[.slice A kB.length c] W fun e w' => ∃ Z X g h Y hs, e = .returned (.tuple #[.pointer (some ⟨Z, 0, none⟩), .int .i64 0]) ∧ UnM w' W.heap.size Z X g h Y 4 kD [2] RT.zero hs ∧ (∀ H, H < 8 → hs[3 * H]? = some (.slice none 0 0)) ∧ Below W.heap.size W w' := fun W A c B o => udec_any (.slice A kB.length c) (Sl.of_own o)
  have cG : ∀ W W0 Z X g h Y hs, Below W0.heap.size W0 W → UnM W W0.heap.size Z X g h Y 4 kD [2] RT.zero hs → (∀ H, H < 8 → hs[3 * H]? = some (.slice none 0 0)) → Calls Try.prog 10 #[.pointer (some ⟨Z, 0, none⟩), .int .i64 0, .agg #[.int .i64 2, .int .i64 1, .int .i64 1, .slice none 0 0, .int .u64 0, .int .u64 0, .int .i64 0, .bool false]] W fun e w' => ∃ A c, e = .returned (.agg #[.int .i64 0, .int .i64 0, .int .i64 0, .slice A 8 c, .int .i64 0]) ∧ w'.ownsRow W.heap.size 5 1 (.slice A 8 c) 8 (bs kL) ∧ Below W0.heap.size W0 w' := fun W W0 Z X g h Y hs hb u hI => by
    have q := do_blk2 u 0 (by decide) (A := none) (c0 := 0) (hI 0 (by decide)) rfl 1 1 (.slice none 0 0) 0 0 0 false (OnB.read u 1 1 (by decide) (by decide))
    refine q.mono ?_
    rintro e w' ⟨v, M', rfl, ⟨A, c, rfl, o⟩, rfl, u', E⟩
    have hp : piece kD 1 1 = kL := by decide +kernel
    rw [hp] at o ⊢
    exact ⟨A, c, rfl, o, E.below hb hb.size fun q _ hq => hq.elim (fun e => e ▸ u.sp.bg) (fun e => e ▸ u.sp.bh)⟩
  go_enter Try.func7, Try.ntmps7
  go_upto_region 2 with (go_at_call 12; (with_reducible refine cN.mono ?_); rintro e' w1 ⟨Z, X, g, h, Y, rfl, K1⟩)
  go_upto_region 4 with (fail)
  have c1 := cO _ _ _ _ _ _ _ K1
  clear cO
  go_upto_region 5 with (go_at_call 15; (with_reducible refine c1.mono ?_); rintro e' w3 ⟨A3, c3, tv3, rfl, K3, T3, o3⟩)
  have hb := K3.le
  generalize w1.heap.size = b at *
  obtain ⟨w4, e4, ma, b4⟩ := box_new w3 #[.int .i64 0, .int .i64 0, .int .i64 0, .slice A3 0 c3, .int .i64 0]
  rw [← e4]
  clear e4 c1 cN
  have c2 := cR _ _ _ _ _ _ _ _ (K3.below b4)
  have T4 := T3.below b4
  have oa4 := owns_below o3 b4
  have hpa : b ≤ w3.heap.size := hb
  generalize w3.heap.size = pa at *
  go_upto_region 6 with (go_at_call 10; (with_reducible refine c2.mono ?_); rintro e' w5 ⟨A5, c5, rfl, ob5, K5, E5⟩)
  have ma5 := ma.eff E5 (by omega)
  have T5 := T4.low E5
  have oa5 := owns_low oa4 E5
  obtain ⟨w6, e6, mb, b6⟩ := box_new w5 #[.int .i64 0, .int .i64 0, .int .i64 0, .slice A5 8 c5, .int .i64 0]
  rw [← e6]
  clear e6 c2
  have T6 := T5.below b6
  have ma6 := ma5.below b6 ma5.lt
  have oa6 := owns_below oa5 b6
  have ob6 := owns_below ob5 b6
  have c3' := cA _ _ _ _ _ _ _ _ (K5.below b6) T6
  have hpb := K5.le
  generalize w5.heap.size = pb at *
  go_upto_region 7 with (go_at_call 15; (with_reducible refine c3'.mono ?_); rintro e' w7 ⟨A7, c7, tv7, rfl, oc7, K7, T7, E7⟩)
  have ma7 := ma6.eff E7 (by omega)
  have mb7 := mb.eff E7 (by omega)
  have oa7 := owns_low oa6 E7
  have ob7 := owns_low ob6 E7
  obtain ⟨w8, e8, mc, b8⟩ := box_new w7 #[.int .i64 0, .int .i64 0, .int .i64 0, .slice A7 0 c7, .int .i64 0]
  rw [← e8]
  clear e8 c3'
  have hpc := K7.le
  have c4 := cD w8 Z
  have ma8 := ma7.below b8 ma7.lt
  have mb8 := mb7.below b8 mb7.lt
  have oa8 := owns_below oa7 b8
  have ob8 := owns_below ob7 b8
  have oc8 := owns_below oc7 b8
  have K8 := K7.below b8
  have T8 := T7.below b8
  generalize w7.heap.size = pc at *
  go_upto_region 8 with (go_at_call 10; (with_reducible refine c4.mono ?_); rintro e' w9 ⟨rfl, b9⟩)
  obtain ⟨w10, e10, md, b10⟩ := box_new w9 #[.int .i64 2, .int .i64 5, .int .i64 8192, .slice none 0 0, .int .i64 0]
  rw [← e10]
  clear e10 c4
  have B10 := b9.trans (b10.mono b9.size)
  have c5' := cE _ _ _ _ _ _ _ _ (K8.below B10) (T8.below B10)
  generalize w9.heap.size = pd at *
  go_upto_region 9 with (first
    | (go_at_call 16; (with_reducible refine c5'.mono ?_); rintro e' w11 ⟨A11, c11, rfl, oe, b11⟩; have c6 := cF _ _ _ _ oe)
    | (go_at_call 9; (with_reducible refine c6.mono ?_); rintro e' w12 ⟨Z2, X2, g2, h2, Y2, hs2, rfl, U12, I12, b12⟩))
  go_upto_region 11 with (fail)
  have c7' := cG _ _ _ _ _ _ _ _ b12 U12 I12
  go_upto_region 12 with (go_at_call 10; (with_reducible refine c7'.mono ?_); rintro e' w13 ⟨A13, c13, rfl, og13, b13⟩)
  obtain ⟨w14, e14, mg, b14⟩ := box_new w13 #[.int .i64 0, .int .i64 0, .int .i64 0, .slice A13 8 c13, .int .i64 0]
  rw [← e14]
  clear e14 c7' c6 c5' cE cF cG cD cA cR
  have B14 : Below w10.heap.size w10 w14 := b11.trans ((b13.trans (b14.mono b13.size)).mono b11.size)
  have B814 : Below w8.heap.size w8 w14 := B10.trans (B14.mono B10.size)
  have mdE := md.below B14 md.lt
  have maE := ma8.below B814 ma8.lt
  have mbE := mb8.below B814 mb8.lt
  have mcE := mc.below B814 mc.lt
  have oaE := owns_below oa8 B814
  have obE := owns_below ob8 B814
  have ocE := owns_below oc8 B814
  have ogE := owns_below og13 b14
  have KE := K8.below B814
  have a0 := maE.cell 0
  have a1 := maE.cell 1
  have a2 := maE.cell 2
  have a3 := maE.cell 3
  have a4 := maE.cell 4
  have i0 := mcE.cell 0
  have i1 := mcE.cell 1
  have i2 := mcE.cell 2
  have i3 := mcE.cell 3
  have i4 := mcE.cell 4
  have j3 := mbE.cell 3
  have s5 : (convert 22 9 (.slice A5 8 c5)).run Try.prog w14 = .ok (.string ⟨#[97, 98, 99, 100, 101, 102, 103, 104]⟩) w14 := ustr (l := kL) (Sl.of_own obE)
  have cS : Calls Try.prog 17 #[.agg #[.int .i64 0, .int .i64 0, .int .i64 0, .slice A3 0 c3, .int .i64 0], .agg #[.int .i64 0, .int .i64 0, .int .i64 0, .slice A7 0 c7, .int .i64 0]] w14 fun e w' => e = .returned (.bool true) ∧ Below w14.heap.size w14 w' := same_any 0 0 0 0 [] (Sl.of_own oaE) (Sl.of_own ocE)
  have hd : ∀ W, Below w14.heap.size w14 W → W.cell? ⟨pd, 2, none⟩ = some (.int .i64 8192) := fun W hW => (mdE.below hW mdE.lt).cell 2
  have hg : ∀ W, Below w14.heap.size w14 W → W.cell? ⟨w13.heap.size, 3, none⟩ = some (.slice A13 8 c13) := fun W hW => (mg.below hW mg.lt).cell 3
  have s13 : ∀ W, Below w14.heap.size w14 W → (convert 22 9 (.slice A13 8 c13)).run Try.prog W = .ok (.string ⟨#[97, 98, 99, 100, 101, 102, 103, 104]⟩) W := fun W hW => ustr (l := kL) (Sl.of_own (owns_below ogE hW))
  have cB : ∀ W, Below w14.heap.size w14 W → Calls Try.prog 11 #[.pointer (some ⟨Z, 0, none⟩)] W fun e w' => e = .returned (.int .i64 4) ∧ W = w' := fun W hW => ublocks_any (KE.below hW).un
  have BE := KE.bl
  clear maE mbE mcE mdE oaE obE ocE ogE KE K8 ma8 mb8 mc oa8 ob8 oc8 T8 T7 K7 K5 K3 K1
  go_wp2_with (first
    | (go_at_call 17; (with_reducible refine cS.mono ?_); rintro e' w15 ⟨rfl, b15⟩; have d2 := hd _ b15; have g3 := hg _ b15; have t13 := s13 _ b15; have cB' := cB _ b15)
    | (go_at_call 11; (with_reducible refine cB'.mono ?_); rintro e' w16 ⟨rfl, rfl⟩))
  go_ret
  exact ⟨rfl, BE.trans (b15.mono BE.size)⟩
end Un
end Go.Proofs.Ytpkebbibafldkaa
