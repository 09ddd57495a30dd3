/- SeX: the texts Se6, Se7, Se8, Se9, SeA, SeB, SeC, SeD, SeP, SeQ, SeR, SeS, SeU, SeT, SeK, SeV in one. -/
import Derived.Test.YtpfackjnnkjjdaaSe5
import Derived.Test.YtpfackjnnkjjdaaRr8
import Derived.Deep.RegionLaw
import Derived.Lib.SlBytesConst
/- Package store: openJournal. -/
namespace Go.Proofs.Ytpfackjnnkjjdaa
open Go.ChangeShapes Go.WideShapes Go.ChangeAt Go.RowKit Go.Lib
set_option linter.unusedVariables false
set_option linter.unusedSimpArgs false
set_option maxRecDepth 100000
namespace Se
open Crc Dk Tw Rg
/-- The store with its journal. -/
structure Sto (o w : World) (X : Nat) (O : Nat → Prop) (S : DS) (Yt n Z : Nat) (r : Rt) (l : List UInt8) (Yr : Nat) (R : Nat → Prop) (T : RS) : Prop where
  st : StM o w X O S Yt n Z r r l (.pointer (some ⟨Yr, 0, none⟩)) R
  rg : ∃ rv D, RgM w Yr X R T rv D
  ok : T.Ok S.last.length
  rfrom : ∀ k, R k → o.heap.size ≤ k
section
variable {o w w' : World} {X Yt n Z : Nat} {O G : Nat → Prop} {S : DS} {r r' : Rt} {l : List UInt8} {jp : Value} {Ls : List (Nat × List UInt8)}
/-- The journal's records are entries of the indexes behind the base. -/
def Recs (base : Nat) (Ls : List (Nat × List UInt8)) : Prop := ∀ (j f : Nat) (b : List UInt8), Ls[j]? = some (f, b) → 16 ≤ b.length ∧ b.length ≤ 32768 ∧ beVal ((b.drop 0).take 8) = base + j + 1
set_option maxHeartbeats 4000000 in
theorem openj_any (h : StM o w X O S Yt n Z r r l jp (fun _ => False)) (hu : S.up) (hl : S.last.length = 610) (hw : S.wtg ≤ 1000) (hr : r.Ok) (hlf : r.life ≤ 900000) (hfs : r.first ≤ 900000) (hbs : r.base ≤ 900000) (hok : (RS.new 98 512 r.life r.first r.place).Ok S.last.length) (hLay : Lay S (RS.new 98 512 r.life r.first r.place) Ls) (hrec : Recs r.base Ls) : Calls Try.prog 29 #[.pointer (some ⟨Z, 0, none⟩)] w fun e w' => ∃ Yr R, e = .returned (.int .i64 0) ∧ Sto o w' X O S Yt n Z r l Yr R ((RS.new 98 512 r.life r.first r.place).got Ls Ls.length) ∧ Eff (fun k => k = Z) w w' ∧ ∀ k, R k → w.heap.size ≤ k := by
  have hOlt := h.oLt
  obtain ⟨hdsk, ⟨tv, htw, htG⟩, ⟨sv, hm, hsv, hsOG⟩, hfrom, hnoZ, hgY, hgZ, hgO, hglt⟩ := h
  have x0 : w.cell? ⟨Z, 0, none⟩ = some (.pointer (some ⟨X, 0, none⟩)) := hm.cell 0
  have z2 : w.cell? ⟨Z, 2, none⟩ = some (.int .u64 (r.epoch : Nat)) := hm.cell 2
  have z3 : w.cell? ⟨Z, 3, none⟩ = some (.int .u64 (r.base : Nat)) := hm.cell 3
  have z4 : w.cell? ⟨Z, 4, none⟩ = some (.int .u64 (r.first : Nat)) := hm.cell 4
  have z5 : w.cell? ⟨Z, 5, none⟩ = some (.int .i64 (r.place : Nat)) := hm.cell 5
  have z6 : w.cell? ⟨Z, 6, none⟩ = some (.int .u32 (r.life : Nat)) := hm.cell 6
  have z7 : w.cell? ⟨Z, 7, none⟩ = some (.int .i64 (r.side : Nat)) := hm.cell 7
  have z8 : w.cell? ⟨Z, 8, none⟩ = some (.int .i64 (r.size : Nat)) := hm.cell 8
  have z9 : w.cell? ⟨Z, 9, none⟩ = some (.int .u32 (r.sum : Nat)) := hm.cell 9
  obtain ⟨w1, e1, mb1, b1⟩ : ∃ w1, w1 = w.alloc (.cells #[.int .u64 (r.epoch : Nat), .int .u64 (r.base : Nat), .int .u64 (r.first : Nat), .int .i64 (r.place : Nat), .int .u32 (r.life : Nat), .int .i64 (r.side : Nat), .int .i64 (r.size : Nat), .int .u32 (r.sum : Nat)] 57) ∧ Mem w1 w.heap.size 57 #[.int .u64 (r.epoch : Nat), .int .u64 (r.base : Nat), .int .u64 (r.first : Nat), .int .i64 (r.place : Nat), .int .u32 (r.life : Nat), .int .i64 (r.side : Nat), .int .i64 (r.size : Nat), .int .u32 (r.sum : Nat)] ∧ Below w.heap.size w w1 := ⟨_, rfl, Mem.new w _ _, (Below.refl _ w).alloc (Nat.le_refl _) _⟩
  have m1 := hm.below b1 hm.lt
  have y0 : w1.cell? ⟨Z, 0, none⟩ = some (.pointer (some ⟨X, 0, none⟩)) := m1.cell 0
  have k1 := mb1.cell 1
  have k2 := mb1.cell 2
  have k3 := mb1.cell 3
  have k4 := mb1.cell 4
  have co := fun W (hW : Below w.heap.size w W) => open_any (hdsk.below hW) hu.dead hu.off (by omega) (by omega) 98 512 r.life r.first r.place hok hfs hLay
  have hfew := hLay.few
  have HL := Lib.hid hLay
  have HR := Lib.hid hrec
  have HU := Lib.hid hu
  have HOK := Lib.hid hok
  clear hLay hrec hok hu
  go_enter Try.func29, Try.ntmps29
  go_wp2
  go_step3
  go_upto_region 2 with (fail)
  rw [← e1]
  clear e1 x0 z2 z3 z4 z5 z6 z7 z8 z9
  obtain ⟨PR, hPR⟩ : ∃ PR : Nat → World → Prop, ∀ Yr W, PR Yr W ↔ ∃ R, Rng o W X O S Yr R ((RS.new 98 512 r.life r.first r.place).got Ls Ls.length) ∧ (∀ k, R k → w.heap.size ≤ k) := ⟨_, fun _ _ => Iff.rfl⟩
  obtain ⟨PL, hPL⟩ : ∃ PL : Value → World → Prop, ∀ v W, PL v W ↔ ∃ D, LRow W w.heap.size v (Ls.map (·.2)) D := ⟨_, fun _ _ => Iff.rfl⟩
  have hPRb : ∀ Yr (W W' : World), Below W.heap.size W W' → PR Yr W → PR Yr W' := fun Yr W W' hb h => (hPR Yr W').2 (((hPR Yr W).1 h).imp fun R q => ⟨q.1.below hb, q.2⟩)
  have hPLb : ∀ v (W W' : World), Below W.heap.size W W' → PL v W → PL v W' := fun v W W' hb h => (hPL v W').2 (((hPL v W).1 h).imp fun D q => q.below hb)
  have hco : ∀ W, Below w.heap.size w W → Calls Try.prog 55 #[.pointer (some ⟨X, 0, none⟩), .int .i64 98, .int .i64 512, .int .u64 (r.first : Nat), .int .i64 (r.place : Nat), .int .u32 (r.life : Nat)] W fun e w' => ∃ Yr A c, e = .returned (.tuple #[.pointer (some ⟨Yr, 0, none⟩), .slice A Ls.length c, .int .i64 0]) ∧ PR Yr w' ∧ PL (.slice A Ls.length c) w' ∧ Below W.heap.size W w' := fun W hW => (co W hW).mono fun e w' ⟨Yr, v2, R2, D2, q1, q2, q3, q4, q5, q6⟩ => by
    have hr2 : w'.ownsRow W.heap.size 34 1 v2 Ls.length D2 := by simpa using q4.row
    obtain ⟨A2, c2, rfl, _, _⟩ := own_form hr2
    exact ⟨Yr, A2, c2, q1, (hPR _ _).2 ⟨R2, q2, fun k hk => Nat.le_trans hW.size (q3 k hk)⟩, (hPL _ _).2 ⟨D2, q4.mono hW.size⟩, q6⟩
  have HPR := Lib.hid hPR
  have HPL := Lib.hid hPL
  obtain ⟨PV, hPV⟩ : ∃ PV : Value → World → Prop, ∀ t W, PV t W ↔ ∃ A c, t = .slice A Ls.length c ∧ PL t W := ⟨_, fun _ _ => Iff.rfl⟩
  have hPVb : ∀ t (W W' : World), Below W.heap.size W W' → PV t W → PV t W' := fun t W W' hb h => (hPV t W').2 (((hPV t W).1 h).imp fun A q => q.imp fun c q => ⟨q.1, hPLb _ _ _ hb q.2⟩)
  have HPV := Lib.hid hPV
  clear co hPR hPL hPV
  refine wp_region_any (by kernel_rfl) ?_
  change wpAny _ _ _ _ _ _ _ (World.drew _)
  refine wpAny_take (i := 0) (oi := { dst := some 17, op := Op.move (Operand.tmp 0), type := 29, pos := "store.go:131", after := #[], guard := none }) (v := (.pointer (some ⟨Z, 0, none⟩))) rfl (by kernel_rfl) (by kernel_rfl) (by kernel_rfl) (fun _ _ _ h => h) (Or.inl ⟨by rfl, by intro w; go_simp⟩) ?_
  try dsimp only [Act.put]
  try simp only [List.setIfInBounds_toArray, List.set_cons_succ, List.set_cons_zero]
  apply calm_tailK 17 [0] [.is (.pointer (some ⟨Z, 0, none⟩)), .is _, .is _, .is _, .is _, .is _, .is _, .is _, .is _, .is _, .of (fun t W => ∃ Yr A c, t = .tuple #[.pointer (some ⟨Yr, 0, none⟩), .slice A Ls.length c, .int .i64 0] ∧ PR Yr W ∧ PL (.slice A Ls.length c) W) (fun t W W' hb ⟨Yr, A, c, h1, h2, h3⟩ => ⟨Yr, A, c, h1, hPRb _ _ _ hb h2, hPLb _ _ _ hb h3⟩), .of (fun t W => ∃ Yr A c, t = .tuple #[.pointer (some ⟨Yr, 0, none⟩), .slice A Ls.length c, .int .i64 0] ∧ PR Yr W ∧ PL (.slice A Ls.length c) W) (fun t W W' hb ⟨Yr, A, c, h1, h2, h3⟩ => ⟨Yr, A, c, h1, hPRb _ _ _ hb h2, hPLb _ _ _ hb h3⟩), .of (fun t W => ∃ Yr, t = .pointer (some ⟨Yr, 0, none⟩) ∧ PR Yr W) (fun t W W' hb ⟨Yr, h1, h2⟩ => ⟨Yr, h1, hPRb _ _ _ hb h2⟩), .of (fun t W => PV t W) (fun t W W' hb h => hPVb _ _ _ hb h), .is _, .of (fun t W => ∃ Yr, t = .pointer (some ⟨Yr, 0, none⟩) ∧ PR Yr W) (fun t W W' hb ⟨Yr, h1, h2⟩ => ⟨Yr, h1, hPRb _ _ _ hb h2⟩), .of (fun t W => PV t W) (fun t W W' hb h => hPVb _ _ _ hb h)] [[], [0], [1], [2], [], [4], [], [6], [], [8], [3, 5, 7, 9], [10], [11], [11], [11], [12, 10, 0, 1, 2, 3, 4, 5, 6, 7, 8, 9, 10, 11, 12], [13, 15, 0, 1, 2, 3, 4, 5, 6, 7, 8, 9, 10, 11, 12, 13, 15]] (by kernel_rfl) (by kernel_rfl) rfl (by decide) (by intro i hi o ho; obtain rfl := List.mem_singleton.1 hi; obtain rfl := Option.some.inj ho; exact rfl)
  intro f a1 ha1
  simp only [List.take_succ_cons, List.take_zero, putL, Act.put, List.setIfInBounds_toArray, List.set_cons_succ, List.set_cons_zero] at ha1
  subst ha1
  refine ⟨?_, ?_⟩
  · refine AllCalm.cons (fun W hB hd => ?_) ?_
    · go_wp2_with (fail)
      exact CalmQ.mk rfl _ rfl (Below.refl _ _) rfl
    refine AllCalm.cons (fun W hB hd => ?_) ?_
    · obtain ⟨h0, -⟩ := hd
      have h0 : f 0 = _ := h0
      rw [h0]
      go_wp2_with (fail)
      exact CalmQ.mk rfl _ rfl (Below.refl _ _) rfl
    refine AllCalm.cons (fun W hB hd => ?_) ?_
    · obtain ⟨h1, -⟩ := hd
      have h1 : f 1 = _ := h1
      rw [h1]
      go_wp2_with (fail)
      exact CalmQ.mk rfl _ rfl (Below.refl _ _) rfl
    refine AllCalm.cons (fun W hB hd => ?_) ?_
    · obtain ⟨h2, -⟩ := hd
      have h2 : f 2 = _ := h2
      rw [h2]
      have q0 : W.cell? ⟨Z, 0, none⟩ = some (.pointer (some ⟨X, 0, none⟩)) := (m1.below ((Below.refl _ w1).drew.trans hB) m1.lt).cell 0
      go_wp2_with (fail)
      exact CalmQ.mk rfl _ rfl (Below.refl _ _) rfl
    refine AllCalm.cons (fun W hB hd => ?_) ?_
    · go_wp2_with (fail)
      exact CalmQ.mk rfl _ rfl (Below.refl _ _) rfl
    refine AllCalm.cons (fun W hB hd => ?_) ?_
    · obtain ⟨h4, -⟩ := hd
      have h4 : f 4 = _ := h4
      rw [h4]
      have q0 := (mb1.below ((Below.refl _ w1).drew.trans hB) mb1.lt).cell 2
      go_wp2_with (fail)
      exact CalmQ.mk rfl _ rfl (Below.refl _ _) rfl
    refine AllCalm.cons (fun W hB hd => ?_) ?_
    · go_wp2_with (fail)
      exact CalmQ.mk rfl _ rfl (Below.refl _ _) rfl
    refine AllCalm.cons (fun W hB hd => ?_) ?_
    · obtain ⟨h6, -⟩ := hd
      have h6 : f 6 = _ := h6
      rw [h6]
      have q0 := (mb1.below ((Below.refl _ w1).drew.trans hB) mb1.lt).cell 3
      go_wp2_with (fail)
      exact CalmQ.mk rfl _ rfl (Below.refl _ _) rfl
    refine AllCalm.cons (fun W hB hd => ?_) ?_
    · go_wp2_with (fail)
      exact CalmQ.mk rfl _ rfl (Below.refl _ _) rfl
    refine AllCalm.cons (fun W hB hd => ?_) ?_
    · obtain ⟨h8, -⟩ := hd
      have h8 : f 8 = _ := h8
      rw [h8]
      have q0 := (mb1.below ((Below.refl _ w1).drew.trans hB) mb1.lt).cell 4
      go_wp2_with (fail)
      exact CalmQ.mk rfl _ rfl (Below.refl _ _) rfl
    refine AllCalm.cons (fun W hB hd => ?_) ?_
    · obtain ⟨h3, h5, h7, h9, -⟩ := hd
      have h3 : f 3 = _ := h3
      have h5 : f 5 = _ := h5
      have h7 : f 7 = _ := h7
      have h9 : f 9 = _ := h9
      rw [h3, h5, h7, h9]
      have coW := hco W (b1.trans (((Below.refl _ w1).drew.trans hB).mono b1.size))
      go_wp2_with ((go_at_call 55; (with_reducible refine coW.mono ?_); rintro e' w2 ⟨Yr, A2, c2, rfl, pr2, pl2, b2⟩))
      exact CalmQ.mk rfl _ rfl b2 ⟨Yr, A2, c2, rfl, pr2, pl2⟩
    refine AllCalm.cons (fun W hB hd => ?_) ?_
    · obtain ⟨h10, -⟩ := hd
      obtain ⟨Yr, A2, c2, e10, pr2, pl2⟩ := h10; rw [e10]; clear e10
      go_wp2_with (fail)
      exact CalmQ.mk rfl _ rfl (Below.refl _ _) ⟨Yr, A2, c2, rfl, pr2, pl2⟩
    refine AllCalm.cons (fun W hB hd => ?_) ?_
    · obtain ⟨h11, -⟩ := hd
      obtain ⟨Yr, A2, c2, e10, pr2, pl2⟩ := h11; rw [e10]; clear e10
      go_wp2_with (fail)
      exact CalmQ.mk rfl _ rfl (Below.refl _ _) ⟨Yr, rfl, pr2⟩
    refine AllCalm.cons (fun W hB hd => ?_) ?_
    · obtain ⟨h11, -⟩ := hd
      obtain ⟨Yr, A2, c2, e10, pr2, pl2⟩ := h11; rw [e10]; clear e10
      go_wp2_with (fail)
      exact CalmQ.mk rfl _ rfl (Below.refl _ _) ((HPV.out _ _).2 ⟨A2, c2, rfl, pl2⟩)
    refine AllCalm.cons (fun W hB hd => ?_) ?_
    · obtain ⟨h11, -⟩ := hd
      obtain ⟨Yr, A2, c2, e10, pr2, pl2⟩ := h11; rw [e10]; clear e10
      go_wp2_with (fail)
      exact CalmQ.mk rfl _ rfl (Below.refl _ _) rfl
    refine AllCalm.cons (fun W hB hd => ?_) ?_
    · obtain ⟨h12, h10, h0, h1, h2, h3, h4, h5, h6, h7, h8, h9, -, h11, -, -⟩ := hd
      have h0 : f 0 = _ := h0
      have h1 : f 1 = _ := h1
      have h2 : f 2 = _ := h2
      have h3 : f 3 = _ := h3
      have h4 : f 4 = _ := h4
      have h5 : f 5 = _ := h5
      have h6 : f 6 = _ := h6
      have h7 : f 7 = _ := h7
      have h8 : f 8 = _ := h8
      have h9 : f 9 = _ := h9
      rw [h0, h1, h2, h3, h4, h5, h6, h7, h8, h9]
      obtain ⟨Yr, e12, pr2⟩ := h12; rw [e12]; clear e12
      go_wp2_with (fail)
      exact CalmQ.mk rfl _ rfl (Below.refl _ _) ⟨Yr, rfl, pr2⟩
    refine AllCalm.cons (fun W hB hd => ?_) ?_
    · obtain ⟨h13, h15, h0, h1, h2, h3, h4, h5, h6, h7, h8, h9, h10, h11, h12, -, -, -⟩ := hd
      have h0 : f 0 = _ := h0
      have h1 : f 1 = _ := h1
      have h2 : f 2 = _ := h2
      have h3 : f 3 = _ := h3
      have h4 : f 4 = _ := h4
      have h5 : f 5 = _ := h5
      have h6 : f 6 = _ := h6
      have h7 : f 7 = _ := h7
      have h8 : f 8 = _ := h8
      have h9 : f 9 = _ := h9
      rw [h0, h1, h2, h3, h4, h5, h6, h7, h8, h9]
      obtain ⟨A2, c2, e13, pl2⟩ := (HPV.out _ _).1 h13; rw [e13] at pl2 ⊢; clear e13
      go_wp2_with (fail)
      exact CalmQ.mk rfl _ rfl (Below.refl _ _) ((HPV.out _ _).2 ⟨A2, c2, rfl, pl2⟩)
    exact AllCalm.nil
  · intro W hB hT
    obtain ⟨h0, h1, h2, h3, h4, h5, h6, h7, h8, h9, h10, h11, h12, h13, h14, h15, h16, -⟩ := hT
    have h0 : f 0 = _ := h0
    have h1 : f 1 = _ := h1
    have h2 : f 2 = _ := h2
    have h3 : f 3 = _ := h3
    have h4 : f 4 = _ := h4
    have h5 : f 5 = _ := h5
    have h6 : f 6 = _ := h6
    have h7 : f 7 = _ := h7
    have h8 : f 8 = _ := h8
    have h9 : f 9 = _ := h9
    have h14 : f 14 = _ := h14
    rw [h0, h1, h2, h3, h4, h5, h6, h7, h8, h9, h14]
    clear h0 h1 h2 h3 h4 h5 h6 h7 h8 h9 h14
    simp only [List.drop_succ_cons, List.drop_zero]
    have bW := (Below.refl _ w1).drew.trans hB
    have mb2 := mb1.below bW mb1.lt
    have kb1 := mb2.cell 1
    obtain ⟨Yra, Aa, ca, e10, -, -⟩ := h10
    obtain ⟨Yrb, Ab, cb, e11, -, -⟩ := h11
    obtain ⟨Yrc, e12, -⟩ := h12
    obtain ⟨Ad, cd, e13, -⟩ := (HPV.out _ _).1 h13
    rw [e10, e11, e12, e13]
    clear e10 e11 e12 e13
    obtain ⟨Yr, e15, pr2⟩ := h15
    obtain ⟨A2, c2, e16, pl2⟩ := (HPV.out _ _).1 h16
    rw [e16] at pl2 ⊢
    obtain ⟨D2, lrow⟩ := (HPL.out _ _).1 pl2
    rw [e15]
    have hr2 : W.ownsRow w.heap.size 34 1 (.slice A2 Ls.length c2) Ls.length D2 := by simpa using lrow.row
    clear k1 k2 k3 k4 y0 hco
    go_wp2
    go_step3
    go_wp2
    have hfx : (Ls.length : Int) ≤ 4000 := by omega
    have hDl : D2.length = Ls.length := by have := hr2.1; omega
    have hdat := lrow.dat
    go_loopw [7, 40] (fun due i wr => ∃ (k : Nat), i = .int .i64 k ∧ due = .int .u64 ((r.base + k : Nat) : Int) ∧ k ≤ Ls.length ∧ Below W.heap.size W wr) (fun _ i _ => Ls.length - (intOf i).toNat)
    case atStart => exact ⟨0, rfl, rfl, Nat.zero_le _, Below.refl _ _⟩
    case round =>
      obtain ⟨k, rfl, rfl, hk, hbw⟩ := hrel
      by_cases hkl : k < Ls.length
      · have hkx : (k : Int) < (Ls.length : Int) := by omega
        obtain ⟨⟨f, b⟩, hfb⟩ : ∃ p, Ls[k]? = some p := ⟨_, List.getElem?_eq_getElem hkl⟩
        obtain ⟨u, hu2⟩ : ∃ u, D2[k]? = some u := ⟨_, List.getElem?_eq_getElem (by omega)⟩
        obtain ⟨hb16, hbl, hbv⟩ := HR.out k f b hfb
        have hud := hdat k u b hu2 (by rw [List.getElem?_map, hfb]; rfl)
        have hudw := owns_below hud hbw
        obtain ⟨Au, cu, rfl, _, _⟩ := own_form hud
        have cg : Calls Try.prog 42 #[.slice Au b.length cu, .int .i64 0, .int .i64 8] wr fun e w' => e = .returned (.tuple #[.int .u64 ((r.base + k : Nat) + 1 : Int), .bool true]) ∧ wr = w' := by
          have q := get_b (.slice Au b.length cu) b 0 8 0 8 rfl rfl wr (Sl.of_own hudw) (by omega) (by omega) (by decide) (by omega)
          rw [hbv] at q
          have e : ((r.base + k + 1 : Nat) : Int) = ((r.base + k : Nat) : Int) + 1 := by omega
          rw [e] at q
          exact q
        obtain ⟨g2, rfl⟩ : ∃ g, A2 = some ⟨g, 0, none⟩ := by
          rcases hr2.2 with ⟨hv, h1⟩ | ⟨g, cap, cur, hv, _⟩
          · omega
          · simp only [Value.slice.injEq] at hv
            exact ⟨g, hv.1⟩
        have rk : wr.cell? ⟨g2, k, none⟩ = some (.slice Au b.length cu) := own_cells (owns_below hr2 hbw) k _ hu2
        have hnx : ((r.base + k : Nat) : Int) + 1 = ((r.base + (k + 1) : Nat) : Int) := by omega
        have hb16x : (16 : Int) ≤ (b.length : Int) := by omega
        have hm1 : ((r.base + k : Nat) : Int) ≤ 1000000 := by omega
        have hm0 : (0 : Int) ≤ ((r.base + k : Nat) : Int) := by omega
        have HNX := Lib.hid hnx
        obtain ⟨m, hm'⟩ : ∃ m, r.base + k = m := ⟨_, rfl⟩
        rw [hm'] at cg hm1 hm0 HNX ⊢
        clear hbv hud hudw hnx hm' hbl hfb hb16
        go_wp2_with (go_at_call 42; (with_reducible refine cg.mono ?_); rintro e' w5 ⟨rfl, rfl⟩)
        exact ⟨⟨k + 1, by simp, by rw [HNX.out], by omega, hbw⟩, by simp [intOf]; omega⟩
      · obtain rfl : k = Ls.length := by omega
        obtain ⟨R, rng, hRw⟩ := (HPR.out _ _).1 pr2
        have rngw := rng.below hbw
        have bww := b1.trans ((bW.trans (hbw.mono bW.size)).mono b1.size)
        have mw := hm.below bww hm.lt
        have f11 := mw.free 11
        have x11 : wr.cell? ⟨Z, 11, none⟩ = some jp := mw.cell 11
        clear hfx hDl hdat lrow
        go_wp2
        rw [Exit.noGoto_ret]
        have EF : Eff (fun k => k = Z) wr (wr.setCell ⟨Z, 11, none⟩ (.pointer (some ⟨Yr, 0, none⟩))) := Eff.setCell (S := fun k => k = Z) (Eff.refl _ _) (p := ⟨Z, 11, none⟩) rfl _
        have hZl := hm.lt
        have hYl := htw.mem.lt
        have mF : Mem (wr.setCell ⟨Z, 11, none⟩ (.pointer (some ⟨Yr, 0, none⟩))) Z 66 (stRow X Yt r sv (.pointer (some ⟨Yr, 0, none⟩))) := mw.put 11 _
        obtain ⟨rv, D, hM⟩ := rngw.is
        have t9 := htw.below bww
        have hs9 := owns_below hsv bww
        have dF := rngw.dsk.effO EF (fun q _ hO hq => hnoZ (hq ▸ hO)) (fun q _ hq => hq ▸ hfrom)
        have sF := owns_eff hs9 EF fun k hk e => (own_tag hs9 k hk).2.2.ne (mem_tag mw) (by decide) e
        have tF : TwM o.heap.size (wr.setCell ⟨Z, 11, none⟩ (.pointer (some ⟨Yr, 0, none⟩))) O Yt X 0 n tv (rootB r) := ⟨t9.mem.eff EF fun e => (mem_tag t9.mem).ne (mem_tag mw) (by decide) e, owns_eff t9.row EF fun k hk e => (own_tag t9.row k hk).2.2.ne (mem_tag mw) (by decide) e, t9.from_, t9.noY, t9.noV, t9.fit, t9.few⟩
        have rF := hM.eff EF fun k _ hR e => by have := hRw k hR; omega
        exact bodyPost_ret (v := .int .i64 0) (by simp [results, Try.results29, go_sem]) rfl ⟨Yr, R, rfl, ⟨⟨dF, ⟨tv, tF, fun k hk hR => by have := (own_tag htw.row k hk).2.1; have := hRw k hR; omega⟩, ⟨sv, mF, sF, fun k hk => ⟨(hsOG k hk).1, fun hR => by have := (own_tag hsv k hk).2.1; have := hRw k hR; omega⟩⟩, hfrom, hnoZ, fun hR => by have := hRw _ hR; omega, fun hR => by have := hRw _ hR; omega, rng.no, fun k hR => Nat.lt_of_lt_of_le (hM.lt k hR) EF.size⟩, ⟨rv, D, rF⟩, rng.ok, rng.from_⟩, (Eff.of (S := fun k => k = Z) bww).trans EF fun _ _ h => h, hRw⟩
end
end Se
end Go.Proofs.Ytpfackjnnkjjdaa
/- Package store: Open. -/
namespace Go.Proofs.Ytpfackjnnkjjdaa
open Go.ChangeShapes Go.WideShapes Go.ChangeAt Go.RowKit Go.Lib
set_option linter.unusedVariables false
set_option linter.unusedSimpArgs false
set_option maxRecDepth 100000
namespace Se
open Crc Dk Tw Rg
def Rt.lived (r : Rt) : Rt := { r with life := r.life + 1 }
/-- What Open leaves on the disk. -/
def openS' (S : DS) (n : Nat) (r : Rt) : DS := Tw.putS S 0 (n + 1) (rootB r.lived)
section
variable {o w w' : World} {X n : Nat} {O : Nat → Prop} {S : DS} {r : Rt} {l : List UInt8} {Ls : List (Nat × List UInt8)}
theorem putS_len (S : DS) (n : Nat) (b : List UInt8) : (Tw.putS S 0 n b).last.length = S.last.length := by
  show (flsh _ _ _ _).length = _
  rw [flsh_len]
  rfl
set_option maxHeartbeats 4000000 in
theorem sopen_any (h : Dsk o w X O S) (hu : S.up) (hl : S.last.length = 610) (hw : S.wtg ≤ 1000) (hc : S.calls ≤ 100000) (hb : bestTo S 0 2 = some (n, rootB r)) (hn : n ≤ 900000) (hr : r.Ok) (hsz : l.length = r.size) (hsum : moreS 0 l = r.sum) (hon : SnapOn S r.side l) (hlf : r.life ≤ 800000) (hfs : r.first ≤ 900000) (hbs : r.base ≤ 900000) (hok : (RS.new 98 512 (r.life + 1) r.first r.place).Ok S.last.length) (hLay : Lay (openS' S n r) (RS.new 98 512 (r.life + 1) r.first r.place) Ls) (hrec : Recs r.base Ls) : Calls Try.prog 9 #[.pointer (some ⟨X, 0, none⟩)] w fun e w' => ∃ O' Yt Z Yr R, e = .returned (.tuple #[.pointer (some ⟨Z, 0, none⟩), .int .i64 0]) ∧ Sto o w' X O' (openS' S n r) Yt (n + 1) Z r.lived l Yr R ((RS.new 98 512 (r.life + 1) r.first r.place).got Ls Ls.length) := by
  have hOlt : ∀ q, O q → q < w.heap.size := by
    obtain ⟨V, hV⟩ := h.is
    exact hV.lt
  have hs := sectors_any h.is.choose_spec
  rw [hl] at hs
  have ct : Calls Try.prog 24 #[.pointer (some ⟨X, 0, none⟩), .int .i64 0] w fun e w' => ∃ Y v, e = .returned (.tuple #[.pointer (some ⟨Y, 0, none⟩), .int .i64 0]) ∧ TwM w.heap.size w' O Y X 0 n v (rootB r) ∧ Dsk o w' X O S ∧ Below w.heap.size w w' := open_is h hu.dead hu.off 0 (by omega) (by omega) hb
  have hlived : r.lived.Ok := ⟨hr.epoch, hr.base, hr.first, hr.place, by show r.life + 1 < _; omega, hr.side, hr.size, hr.sum⟩
  have cd : ∀ W v, Sl W W.heap.size v 37 (bs (rootB r)) → Calls Try.prog 25 #[v] W fun e w' => e = .returned (.tuple #[.agg #[.int .u64 (r.epoch : Nat), .int .u64 (r.base : Nat), .int .u64 (r.first : Nat), .int .i64 (r.place : Nat), .int .u32 (r.life : Nat), .int .i64 (r.side : Nat), .int .i64 (r.size : Nat), .int .u32 (r.sum : Nat)], .bool true]) ∧ Below W.heap.size W w' := fun W v hv => decode_any r hr v hv
  have cr : ∀ W, Dsk o W X O S → Calls Try.prog 27 #[.pointer (some ⟨X, 0, none⟩), .agg #[.int .u64 (r.epoch : Nat), .int .u64 (r.base : Nat), .int .u64 (r.first : Nat), .int .i64 (r.place : Nat), .int .u32 (r.life : Nat), .int .i64 (r.side : Nat), .int .i64 (r.size : Nat), .int .u32 (r.sum : Nat)]] W fun e w' => ∃ v, e = .returned (.tuple #[v, .int .i64 0]) ∧ w'.ownsRow W.heap.size 5 1 v l.length (bs l) ∧ Dsk o w' X O S ∧ Below W.heap.size W w' := fun W hD => readsnap_any hD hu hl hw r hr l hsz hsum hon
  have cp : ∀ W Yt Z rz, StM o W X O S Yt n Z r rz l (.pointer none) (fun _ => False) → Calls Try.prog 28 #[.pointer (some ⟨Z, 0, none⟩), .agg #[.int .u64 (r.epoch : Nat), .int .u64 (r.base : Nat), .int .u64 (r.first : Nat), .int .i64 (r.place : Nat), .int .u32 ((r.life : Int) + 1), .int .i64 (r.side : Nat), .int .i64 (r.size : Nat), .int .u32 (r.sum : Nat)]] W fun e w' => ∃ O', e = .returned (.int .i64 0) ∧ StM o w' X O' (openS' S n r) Yt (n + 1) Z r.lived r.lived l (.pointer none) (fun _ => False) := fun W Yt Z rz hS => (put_any' (r' := r.lived) hS hu hl hw (by omega) (by omega) hlived).mono fun e w' ⟨O', q1, q2, _⟩ => ⟨O', q1, q2⟩
  have hu2 : (openS' S n r).up := ⟨hu.dead, hu.off, hu.arm⟩
  have hl2 : (openS' S n r).last.length = 610 := by unfold openS'; rw [putS_len]; exact hl
  have cj : ∀ W O' Yt Z, StM o W X O' (openS' S n r) Yt (n + 1) Z r.lived r.lived l (.pointer none) (fun _ => False) → Calls Try.prog 29 #[.pointer (some ⟨Z, 0, none⟩)] W fun e w' => ∃ Yr R, e = .returned (.int .i64 0) ∧ Sto o w' X O' (openS' S n r) Yt (n + 1) Z r.lived l Yr R ((RS.new 98 512 (r.life + 1) r.first r.place).got Ls Ls.length) := fun W O' Yt Z hS => (openj_any hS hu2 hl2 (Nat.zero_le _) hlived (by show r.life + 1 ≤ _; omega) hfs hbs (by rw [hl2]; rw [hl] at hok; exact hok) hLay hrec).mono fun e w' ⟨Yr, R, q1, q2, _⟩ => ⟨Yr, R, q1, q2⟩
  have hlfx : (r.life : Int) ≤ 800000 := by omega
  have hwr : IntKind.u32.wrap ((r.life : Int) + 1) = (r.life : Int) + 1 := by show ((r.life : Int) + 1) % 4294967296 = _; omega
  clear hLay hrec hok hon hsum hsz hb hlived hr hu2 hl2 hu hl
  go_enter Try.func9, Try.ntmps9
  go_upto_region 10 with (first
    | (go_at_call 20; (with_reducible refine hs.mono ?_); rintro e w1 ⟨rfl, rfl⟩)
    | (go_at_call 24; (with_reducible refine ct.mono ?_); rintro e w2 ⟨Yt, tv, rfl, t2, d2, b2⟩; have c2 := value_any t2)
    | (go_at_call 26; (with_reducible refine c2.mono ?_); rintro e w3 ⟨v3, rfl, o3, b3⟩; have c3 := cd w3 v3 (Sl.of_own (by rw [rootB_len] at o3; exact o3)); obtain ⟨A3, k3, rfl, _, _⟩ := own_form o3)
    | (go_at_call 25; (with_reducible refine c3.mono ?_); rintro e w4 ⟨rfl, b4⟩))
  obtain ⟨w6, e6, mq, mZ, b6⟩ : ∃ w6, w6 = (w4.alloc (.cells #[.int .u64 (r.epoch : Nat), .int .u64 (r.base : Nat), .int .u64 (r.first : Nat), .int .i64 (r.place : Nat), .int .u32 (r.life : Nat), .int .i64 (r.side : Nat), .int .i64 (r.size : Nat), .int .u32 (r.sum : Nat)] 57)).alloc (.cells #[.pointer (some ⟨X, 0, none⟩), .pointer (some ⟨Yt, 0, none⟩), .int .u64 0, .int .u64 0, .int .u64 0, .int .i64 0, .int .u32 0, .int .i64 0, .int .i64 0, .int .u32 0, .slice none 0 0, .pointer none] 66) ∧ Mem w6 w4.heap.size 57 #[.int .u64 (r.epoch : Nat), .int .u64 (r.base : Nat), .int .u64 (r.first : Nat), .int .i64 (r.place : Nat), .int .u32 (r.life : Nat), .int .i64 (r.side : Nat), .int .i64 (r.size : Nat), .int .u32 (r.sum : Nat)] ∧ Mem w6 (w4.heap.size + 1) 66 #[.pointer (some ⟨X, 0, none⟩), .pointer (some ⟨Yt, 0, none⟩), .int .u64 0, .int .u64 0, .int .u64 0, .int .i64 0, .int .u32 0, .int .i64 0, .int .i64 0, .int .u32 0, .slice none 0 0, .pointer none] ∧ Below w4.heap.size w4 w6 := by
    refine ⟨_, rfl, (Mem.new w4 _ _).alloc _, ?_, ((Below.refl _ w4).alloc (Nat.le_refl _) _).alloc (by simp) _⟩
    have := Mem.new (w4.alloc (.cells #[.int .u64 (r.epoch : Nat), .int .u64 (r.base : Nat), .int .u64 (r.first : Nat), .int .i64 (r.place : Nat), .int .u32 (r.life : Nat), .int .i64 (r.side : Nat), .int .i64 (r.size : Nat), .int .u32 (r.sum : Nat)] 57)) 66 #[.pointer (some ⟨X, 0, none⟩), .pointer (some ⟨Yt, 0, none⟩), .int .u64 0, .int .u64 0, .int .u64 0, .int .i64 0, .int .u32 0, .int .i64 0, .int .i64 0, .int .u32 0, .slice none 0 0, .pointer none]
    simpa using this
  rw [← e6]
  clear e6
  have B4 : Below w.heap.size w w4 := b2.trans ((b3.trans (b4.mono b3.size)).mono b2.size)
  have B6 : Below w.heap.size w w6 := B4.trans (b6.mono B4.size)
  have c6 := cr w6 (h.below B6)
  obtain ⟨gq, hgq⟩ : ∃ g, g = w4.heap.size := ⟨_, rfl⟩
  obtain ⟨gZ, hgZ⟩ : ∃ g, g = w4.heap.size + 1 := ⟨_, rfl⟩
  rw [← hgq] at mq
  rw [← hgZ] at mZ
  rw [← hgZ, ← hgq]
  have hqZ : gq ≠ gZ := by omega
  have hZl := mZ.lt
  have hql := mq.lt
  have hw4 : w.heap.size ≤ gq := hgq ▸ B4.size
  have hwZ : w.heap.size ≤ gZ := by omega
  have HQ := Lib.hid hgq
  have HZ := Lib.hid hgZ
  clear hgq hgZ ct cd
  go_upto_region 14 with (first
    | (refine wpList_load_row rfl 57 (.tmp 6) rfl gq rfl 57 #[.int .u64 (r.epoch : Nat), .int .u64 (r.base : Nat), .int .u64 (r.first : Nat), .int .i64 (r.place : Nat), .int .u32 (r.life : Nat), .int .i64 (r.side : Nat), .int .i64 (r.size : Nat), .int .u32 (r.sum : Nat)] (0, 0) _ mq Try.underlying57 rfl (by kernel_rfl) ?_)
    | (go_at_call 27; (with_reducible refine c6.mono ?_); rintro e w7 ⟨v7, rfl, o7, d7, b7⟩; obtain ⟨A7, k7, rfl, _, _⟩ := own_form o7; have mq7 := mq.below b7 hql; have mZ7 := mZ.below b7 hZl; have z10 := mZ7.cell 10; have f10 := mZ7.free 10; have mq8 := mq7.far (p := ⟨gZ, 10, none⟩) hqZ (.slice A7 l.length k7); have q4 := mq8.cell 4; have f4 := mq8.free 4))
  have E8 : Eff (fun k => k = gZ) w7 (w7.setCell ⟨gZ, 10, none⟩ (.slice A7 l.length k7)) := Eff.setCell (S := fun k => k = gZ) (Eff.refl _ _) (p := ⟨gZ, 10, none⟩) rfl _
  have E9 : Eff (fun k => k = gq) (w7.setCell ⟨gZ, 10, none⟩ (.slice A7 l.length k7)) ((w7.setCell ⟨gZ, 10, none⟩ (.slice A7 l.length k7)).setCell ⟨gq, 4, none⟩ (.int .u32 ((r.life : Int) + 1))) := Eff.setCell (S := fun k => k = gq) (Eff.refl _ _) (p := ⟨gq, 4, none⟩) rfl _
  have mZ8 : Mem (w7.setCell ⟨gZ, 10, none⟩ (.slice A7 l.length k7)) gZ 66 (stRow X Yt r0 (.slice A7 l.length k7) (.pointer none)) := mZ7.put 10 _
  have mZ9 := mZ8.far (p := ⟨gq, 4, none⟩) (fun e => hqZ e.symm) (.int .u32 ((r.life : Int) + 1))
  have mq9 : Mem ((w7.setCell ⟨gZ, 10, none⟩ (.slice A7 l.length k7)).setCell ⟨gq, 4, none⟩ (.int .u32 ((r.life : Int) + 1))) gq 57 #[.int .u64 (r.epoch : Nat), .int .u64 (r.base : Nat), .int .u64 (r.first : Nat), .int .i64 (r.place : Nat), .int .u32 ((r.life : Int) + 1), .int .i64 (r.side : Nat), .int .i64 (r.size : Nat), .int .u32 (r.sum : Nat)] := mq8.put 4 _
  have o8 := owns_eff o7 E8 fun k hk e => by have := (own_tag o7 k hk).1; omega
  have o9 := owns_eff o8 E9 fun k hk e => by have := (own_tag o8 k hk).1; omega
  have B7 : Below w.heap.size w w7 := B6.trans (b7.mono B6.size)
  have h27 : Below w2.heap.size w2 w7 := b3.trans ((b4.trans ((b6.trans (b7.mono b6.size)).mono b4.size)).mono b3.size)
  have hw24 : w2.heap.size ≤ gq := by have := HQ.out; have := b3.size; have := b4.size; omega
  have hw2Z : w2.heap.size ≤ gZ := by have := HZ.out; have := HQ.out; omega
  have h29 : Below w2.heap.size w2 ((w7.setCell ⟨gZ, 10, none⟩ (.slice A7 l.length k7)).setCell ⟨gq, 4, none⟩ (.int .u32 ((r.life : Int) + 1))) := (h27.setCell (p := ⟨gZ, 10, none⟩) hw2Z _).setCell (p := ⟨gq, 4, none⟩) hw24 _
  have B9 : Below w.heap.size w ((w7.setCell ⟨gZ, 10, none⟩ (.slice A7 l.length k7)).setCell ⟨gq, 4, none⟩ (.int .u32 ((r.life : Int) + 1))) := b2.trans (h29.mono b2.size)
  have hst : StM o ((w7.setCell ⟨gZ, 10, none⟩ (.slice A7 l.length k7)).setCell ⟨gq, 4, none⟩ (.int .u32 ((r.life : Int) + 1))) X O S Yt n gZ r r0 l (.pointer none) (fun _ => False) := ⟨h.below B9, ⟨tv, TwM.mono (t2.below h29) h.bl.size, fun _ _ hG => hG⟩, ⟨_, mZ9, owns_mono o9 (Nat.le_trans h.bl.size B6.size), fun k hk => ⟨fun hO => by have := (own_tag o7 k hk).1; have := hOlt k hO; have := B6.size; omega, fun hG => hG⟩⟩, Nat.le_trans h.bl.size hwZ, fun hO => by have := hOlt gZ hO; omega, fun hG => hG, fun hG => hG, fun _ hG => hG.elim, fun _ hG => hG.elim⟩
  have c9 := cp ((w7.setCell ⟨gZ, 10, none⟩ (.slice A7 l.length k7)).setCell ⟨gq, 4, none⟩ (.int .u32 ((r.life : Int) + 1))) Yt gZ r0 hst
  generalize ((w7.setCell ⟨gZ, 10, none⟩ (.slice A7 l.length k7)).setCell ⟨gq, 4, none⟩ (.int .u32 ((r.life : Int) + 1))) = w9 at *
  clear E8 E9 mZ8 mZ9 mq8 mq7 mZ7 z10 f10 q4 f4 o8 o9 h29 h27 hst cr c6
  go_wp2_with (first
    | (refine wpList_load_row rfl 57 (.tmp 6) rfl gq rfl 57 #[.int .u64 (r.epoch : Nat), .int .u64 (r.base : Nat), .int .u64 (r.first : Nat), .int .i64 (r.place : Nat), .int .u32 ((r.life : Int) + 1), .int .i64 (r.side : Nat), .int .i64 (r.size : Nat), .int .u32 (r.sum : Nat)] (0, 0) _ mq9 Try.underlying57 rfl (by kernel_rfl) ?_)
    | (go_at_call 28; (with_reducible refine c9.mono ?_); rintro e w10 ⟨O2, rfl, st10⟩; have c10 := cj w10 O2 Yt gZ st10)
    | (go_at_call 29; (with_reducible refine c10.mono ?_); rintro e w11 ⟨Yr, R, rfl, sto⟩))
  exact bodyPost_ret (v := .tuple #[.pointer (some ⟨gZ, 0, none⟩), .int .i64 0]) (by simp [results, Try.results9, go_sem]) rfl ⟨O2, Yt, gZ, Yr, R, rfl, sto⟩
end
end Se
end Go.Proofs.Ytpfackjnnkjjdaa
/- Package store: Last, Append. -/
namespace Go.Proofs.Ytpfackjnnkjjdaa
open Go.ChangeShapes Go.WideShapes Go.ChangeAt Go.RowKit Go.Lib
set_option linter.unusedVariables false
set_option linter.unusedSimpArgs false
set_option maxRecDepth 100000
namespace Se
open Crc Dk Tw Rg
section
variable {o w w' : World} {X Yt n Z Yr : Nat} {O O' G R R' : Nat → Prop} {S S' : DS} {r rz r' : Rt} {l : List UInt8} {jp : Value} {T : RS}
theorem Sto.rng (h : Sto o w X O S Yt n Z r l Yr R T) : Rng o w X O S Yr R T := ⟨h.st.dsk, h.rg, h.ok, h.rfrom, h.st.gO⟩
theorem Sto.below (h : Sto o w X O S Yt n Z r l Yr R T) (hb : Below w.heap.size w w') : Sto o w' X O S Yt n Z r l Yr R T := by
  obtain ⟨rv, D, hM⟩ := h.rg
  exact ⟨h.st.below hb, ⟨rv, D, hM.below hb⟩, h.ok, h.rfrom⟩
/-- The journal goes on: the store's other things stay. -/
theorem StM.ring (h : StM o w X O S Yt n Z r rz l jp R) (he : Eff (fun k => O k ∨ R k) w w') (hd : Dsk o w' X O' S') (hO : ∀ k, O' k ∨ R' k → O k ∨ R k ∨ w.heap.size ≤ k) (hno : ∀ k, R' k → ¬ O' k) (hlt : ∀ k, R' k → k < w'.heap.size) : StM o w' X O' S' Yt n Z r rz l jp R' := by
  obtain ⟨h1, ⟨v, h2, h2'⟩, ⟨sv, h3, h4, h5⟩, h6, h7, h8, h9, h10, h11⟩ := h
  have hY := h2.mem.lt
  have hZ := h3.lt
  exact ⟨hd, ⟨v, ⟨h2.mem.eff he fun e => e.elim h2.noY h8, owns_eff h2.row he fun k hk e => e.elim (h2.noV k hk) (h2' k hk), h2.from_, fun e => (hO _ (.inl e)).elim h2.noY fun e => e.elim h8 fun e => by omega, fun k hk e => (hO _ (.inl e)).elim (h2.noV k hk) fun e => e.elim (h2' k hk) fun e => by have := (own_tag h2.row k hk).2.1; omega, h2.fit, h2.few⟩, fun k hk e => (hO _ (.inr e)).elim (h2.noV k hk) fun e => e.elim (h2' k hk) fun e => by have := (own_tag h2.row k hk).2.1; omega⟩, ⟨sv, h3.eff he fun e => e.elim h7 h9, owns_eff h4 he fun k hk e => e.elim (h5 k hk).1 (h5 k hk).2, fun k hk => ⟨fun e => (hO _ (.inl e)).elim (h5 k hk).1 fun e => e.elim (h5 k hk).2 fun e => by have := (own_tag h4 k hk).2.1; omega, fun e => (hO _ (.inr e)).elim (h5 k hk).1 fun e => e.elim (h5 k hk).2 fun e => by have := (own_tag h4 k hk).2.1; omega⟩⟩, h6, fun e => (hO _ (.inl e)).elim h7 fun e => e.elim h9 fun e => by omega, fun e => (hO _ (.inr e)).elim h2.noY fun e => e.elim h8 fun e => by omega, fun e => (hO _ (.inr e)).elim h7 fun e => e.elim h9 fun e => by omega, hno, hlt⟩
set_option maxHeartbeats 2000000 in
theorem last_any (h : Sto o w X O S Yt n Z r l Yr R T) (hf : T.first = r.first) (hnx : T.next ≤ 800000) (hb : r.base ≤ 800000) : Calls Try.prog 14 #[.pointer (some ⟨Z, 0, none⟩)] w fun e w' => e = .returned (.int .u64 ((r.base + T.recs.length : Nat) : Int)) ∧ Below w.heap.size w w' := by
  obtain ⟨rv, D, hM⟩ := h.rg
  obtain ⟨sv, hm, _⟩ := h.st.mem
  have cn := fun W (hW : Below w.heap.size w W) => next_any (hM.below hW) (by omega)
  have h1 : IntKind.u64.wrap ((r.base : Int) + (T.next : Int)) = ((r.base + T.next : Nat) : Int) := by show ((r.base : Int) + (T.next : Int)) % 18446744073709551616 = _; omega
  have e : T.next = T.first + T.recs.length := rfl
  have h2 : IntKind.u64.wrap (((r.base + T.next : Nat) : Int) - (r.first : Int)) = ((r.base + T.recs.length : Nat) : Int) := by show (((r.base + T.next : Nat) : Int) - (r.first : Int)) % 18446744073709551616 = _; omega
  clear e hf hnx hb
  generalize r.base + T.next = m at *
  generalize T.next = nx at *
  generalize r.base + T.recs.length = q at *
  go_enter Try.func14, Try.ntmps14
  go_wp2
  apply calm_region [.is _, .is _, .is _, .is _, .is _, .is _, .is _, .is _, .is _, .is _, .is _, .is _, .is _, .is _, .is _, .is _, .is _, .is _] [[], [0], [1], [2], [3], [], [5], [6], [7], [8], [4, 9], [], [11], [12], [13], [14], [10, 15], [16, 9, 0, 1, 2, 3, 4, 5, 6, 7, 8, 9, 10, 11, 12, 13, 14, 15, 16]] (by kernel_rfl) (by kernel_rfl) (by kernel_rfl) rfl
  intro f a1 ha1
  simp only [putL, Act.put, List.setIfInBounds_toArray, List.set_cons_succ, List.set_cons_zero] at ha1
  subst ha1
  refine ⟨?_, ?_⟩
  · refine AllCalm.cons (fun W hB hd => ?_) ?_
    · go_wp2_with (fail)
      exact CalmQ.mk rfl _ rfl (Below.refl _ _) rfl
    refine AllCalm.cons (fun W hB hd => ?_) ?_
    · obtain ⟨h0, -⟩ := hd
      have h0 : f 0 = _ := h0
      rw [h0]
      go_wp2_with (fail)
      exact CalmQ.mk rfl _ rfl (Below.refl _ _) rfl
    refine AllCalm.cons (fun W hB hd => ?_) ?_
    · obtain ⟨h1, -⟩ := hd
      have h1 : f 1 = _ := h1
      rw [h1]
      go_wp2_with (fail)
      exact CalmQ.mk rfl _ rfl (Below.refl _ _) rfl
    refine AllCalm.cons (fun W hB hd => ?_) ?_
    · obtain ⟨h2, -⟩ := hd
      have h2 : f 2 = _ := h2
      rw [h2]
      go_wp2_with (fail)
      exact CalmQ.mk rfl _ rfl (Below.refl _ _) rfl
    refine AllCalm.cons (fun W hB hd => ?_) ?_
    · obtain ⟨h3, -⟩ := hd
      have h3 : f 3 = _ := h3
      rw [h3]
      have k0 : W.cell? ⟨Z, 3, none⟩ = some (.int .u64 (r.base : Nat)) := (hm.below hB hm.lt).cell 3
      go_wp2_with (fail)
      exact CalmQ.mk rfl _ rfl (Below.refl _ _) rfl
    refine AllCalm.cons (fun W hB hd => ?_) ?_
    · go_wp2_with (fail)
      exact CalmQ.mk rfl _ rfl (Below.refl _ _) rfl
    refine AllCalm.cons (fun W hB hd => ?_) ?_
    · obtain ⟨h5, -⟩ := hd
      have h5 : f 5 = _ := h5
      rw [h5]
      go_wp2_with (fail)
      exact CalmQ.mk rfl _ rfl (Below.refl _ _) rfl
    refine AllCalm.cons (fun W hB hd => ?_) ?_
    · obtain ⟨h6, -⟩ := hd
      have h6 : f 6 = _ := h6
      rw [h6]
      go_wp2_with (fail)
      exact CalmQ.mk rfl _ rfl (Below.refl _ _) rfl
    refine AllCalm.cons (fun W hB hd => ?_) ?_
    · obtain ⟨h7, -⟩ := hd
      have h7 : f 7 = _ := h7
      rw [h7]
      have k0 : W.cell? ⟨Z, 11, none⟩ = some (.pointer (some ⟨Yr, 0, none⟩)) := (hm.below hB hm.lt).cell 11
      go_wp2_with (fail)
      exact CalmQ.mk rfl _ rfl (Below.refl _ _) rfl
    refine AllCalm.cons (fun W hB hd => ?_) ?_
    · obtain ⟨h8, -⟩ := hd
      have h8 : f 8 = _ := h8
      rw [h8]
      have cW := cn W hB
      go_wp2_with ((go_at_call 37; (with_reducible refine cW.mono ?_); rintro e' w3 ⟨rfl, k3, rfl⟩))
      exact CalmQ.mk rfl _ rfl (below_drewN (Below.refl _ _) _) rfl
    refine AllCalm.cons (fun W hB hd => ?_) ?_
    · obtain ⟨h4, h9, -⟩ := hd
      have h4 : f 4 = _ := h4
      have h9 : f 9 = _ := h9
      rw [h4, h9]
      go_wp2_with (fail)
      exact CalmQ.mk rfl _ rfl (Below.refl _ _) rfl
    refine AllCalm.cons (fun W hB hd => ?_) ?_
    · go_wp2_with (fail)
      exact CalmQ.mk rfl _ rfl (Below.refl _ _) rfl
    refine AllCalm.cons (fun W hB hd => ?_) ?_
    · obtain ⟨h11, -⟩ := hd
      have h11 : f 11 = _ := h11
      rw [h11]
      go_wp2_with (fail)
      exact CalmQ.mk rfl _ rfl (Below.refl _ _) rfl
    refine AllCalm.cons (fun W hB hd => ?_) ?_
    · obtain ⟨h12, -⟩ := hd
      have h12 : f 12 = _ := h12
      rw [h12]
      go_wp2_with (fail)
      exact CalmQ.mk rfl _ rfl (Below.refl _ _) rfl
    refine AllCalm.cons (fun W hB hd => ?_) ?_
    · obtain ⟨h13, -⟩ := hd
      have h13 : f 13 = _ := h13
      rw [h13]
      go_wp2_with (fail)
      exact CalmQ.mk rfl _ rfl (Below.refl _ _) rfl
    refine AllCalm.cons (fun W hB hd => ?_) ?_
    · obtain ⟨h14, -⟩ := hd
      have h14 : f 14 = _ := h14
      rw [h14]
      have k0 : W.cell? ⟨Z, 4, none⟩ = some (.int .u64 (r.first : Nat)) := (hm.below hB hm.lt).cell 4
      go_wp2_with (fail)
      exact CalmQ.mk rfl _ rfl (Below.refl _ _) rfl
    refine AllCalm.cons (fun W hB hd => ?_) ?_
    · obtain ⟨h10, h15, -⟩ := hd
      have h10 : f 10 = _ := h10
      have h15 : f 15 = _ := h15
      rw [h10, h15]
      go_wp2_with (fail)
      exact CalmQ.mk rfl _ rfl (Below.refl _ _) rfl
    refine AllCalm.cons (fun W hB hd => ?_) ?_
    · obtain ⟨h16, h9, h0, h1, h2, h3, h4, h5, h6, h7, h8, -, h10, h11, h12, h13, h14, h15, -, -⟩ := hd
      have h16 : f 16 = _ := h16
      have h9 : f 9 = _ := h9
      have h0 : f 0 = _ := h0
      have h1 : f 1 = _ := h1
      have h2 : f 2 = _ := h2
      have h3 : f 3 = _ := h3
      have h4 : f 4 = _ := h4
      have h5 : f 5 = _ := h5
      have h6 : f 6 = _ := h6
      have h7 : f 7 = _ := h7
      have h8 : f 8 = _ := h8
      have h10 : f 10 = _ := h10
      have h11 : f 11 = _ := h11
      have h12 : f 12 = _ := h12
      have h13 : f 13 = _ := h13
      have h14 : f 14 = _ := h14
      have h15 : f 15 = _ := h15
      rw [h16, h9, h0, h1, h2, h3, h4, h5, h6, h7, h8, h10, h11, h12, h13, h14, h15]
      go_wp2_with (fail)
      exact CalmQ.mk rfl _ rfl (Below.refl _ _) rfl
    exact AllCalm.nil
  · intro W hB hT
    obtain ⟨h0, h1, h2, h3, h4, h5, h6, h7, h8, h9, h10, h11, h12, h13, h14, h15, h16, h17, -⟩ := hT
    have h0 : f 0 = _ := h0
    have h1 : f 1 = _ := h1
    have h2 : f 2 = _ := h2
    have h3 : f 3 = _ := h3
    have h4 : f 4 = _ := h4
    have h5 : f 5 = _ := h5
    have h6 : f 6 = _ := h6
    have h7 : f 7 = _ := h7
    have h8 : f 8 = _ := h8
    have h9 : f 9 = _ := h9
    have h10 : f 10 = _ := h10
    have h11 : f 11 = _ := h11
    have h12 : f 12 = _ := h12
    have h13 : f 13 = _ := h13
    have h14 : f 14 = _ := h14
    have h15 : f 15 = _ := h15
    have h16 : f 16 = _ := h16
    have h17 : f 17 = _ := h17
    rw [h0, h1, h2, h3, h4, h5, h6, h7, h8, h9, h10, h11, h12, h13, h14, h15, h16, h17]
    clear h0 h1 h2 h3 h4 h5 h6 h7 h8 h9 h10 h11 h12 h13 h14 h15 h16 h17
    go_wp2
    exact bodyPost_ret (v := .int .u64 (q : Nat)) (by simp [results, Try.results14, go_sem]) rfl ⟨rfl, hB⟩
theorem jflush_any (h : Rng o w X O S Yr R T) (hu : S.up) (hw : S.wtg ≤ 1000000) (hc : S.calls ≤ 4611686018427387904) :
    Calls Try.prog 32 #[.pointer (some ⟨Yr, 0, none⟩)] w fun e w' => e = .returned (.int .i64 0) ∧ Rng o w' X O S.flushed Yr R T ∧ Eff O w w' := by
  obtain ⟨rv, D, hM⟩ := h.is
  have x0 := hM.c0
  have hf := d_flush h.dsk hu hw hc
  go_enter Try.func32, Try.ntmps32
  go_wp2_with (go_at_call 49; (with_reducible refine hf.mono ?_); rintro e w1 ⟨rfl, s1, e1⟩)
  go_ret
  have hl : S.flushed.last.length = S.last.length := flsh_len ..
  exact ⟨rfl, ⟨s1, ⟨rv, D, hM.eff e1 fun k _ hR hO => h.no k hR hO⟩, hl ▸ h.ok, h.from_, h.no⟩, e1⟩
end
end Se
end Go.Proofs.Ytpfackjnnkjjdaa
/- Package store: Append. -/
namespace Go.Proofs.Ytpfackjnnkjjdaa
open Go.ChangeShapes Go.WideShapes Go.ChangeAt Go.RowKit Go.Lib
set_option linter.unusedVariables false
set_option linter.unusedSimpArgs false
set_option maxRecDepth 100000
namespace Se
open Crc Dk Tw Rg
/-- An entry as a record. -/
def recB (i ep : Nat) (d : List UInt8) : List UInt8 := be i 8 ++ be ep 8 ++ d
theorem recB_len (i ep : Nat) (d : List UInt8) : (recB i ep d).length = 16 + d.length := by simp [recB]; omega
theorem sl_any {w : World} {B n c : Nat} {A : Option Addr} {xs : List Value} (h : Sl w B (.slice A n c) n xs) : (∀ ad, A = some ad → ∀ j u, xs[j]? = some u → w.cell? (ad.add j) = some u) ∧ (A = none → n = 0) := by
  obtain ⟨h0, A', c', hv, h1, h2, h3⟩ := h
  injection hv with e1 e2 e3
  subst e1
  refine ⟨fun ad hA j u hu => ?_, fun hA => ?_⟩
  · have hn : xs ≠ [] := by
      rintro rfl
      simp at hu
    obtain ⟨b, off, hA2, h4, h5⟩ := h3 hn
    rw [hA] at hA2
    obtain rfl := Option.some.inj hA2
    rw [add_plain]
    exact h5 j u hu
  · by_cases e : n = 0
    · exact e
    · obtain ⟨b, off, hA2, _⟩ := h3 (by rintro rfl; exact e h0.symm)
      rw [hA] at hA2
      cases hA2
section
variable {o w w' : World} {X Yt n Z Yr : Nat} {O O' G R R' : Nat → Prop} {S S' : DS} {r rz r' : Rt} {l : List UInt8} {jp : Value} {T : RS}
set_option maxHeartbeats 4000000 in
theorem append_any (h : Sto o w X O S Yt n Z r l Yr R T) (hu : S.up) (hl : S.last.length = 610) (hw : S.wtg ≤ 1000) (hc : S.calls ≤ 100000) (hf : T.first = r.first) (hnx : T.next ≤ 800000) (hb : r.base ≤ 800000) (hrl : T.recs.length ≤ 3000) (ep : Nat) (hep : ep < 18446744073709551616) (vd : Value) (d : List UInt8) (hv : Sl w w.heap.size vd d.length (bs d)) (hd : d.length ≤ 2048) (hro : T.used + need (16 + d.length) ≤ T.n) (m : Nat) (hm' : r.base + T.recs.length = m) : Calls Try.prog 10 #[.pointer (some ⟨Z, 0, none⟩), .agg #[.int .u64 ((m : Int) + 1), .int .u64 (ep : Nat), vd]] w fun e w' => ∃ O' R', e = .returned (.int .i64 0) ∧ Sto o w' X O' (apS S T (recB (m + 1) ep d) (need (16 + d.length))).flushed Yt n Z r l Yr R' (T.app (recB (m + 1) ep d)) := by
  obtain ⟨i0, hi, hz0, hz1, hz2⟩ := info_parts info_u8
  have hOlt := h.st.oLt
  obtain ⟨Ad, cd, rfl, _, _⟩ := hv.form
  obtain ⟨rv, D, hM⟩ := h.rg
  obtain ⟨sv, hm, _⟩ := h.st.mem
  have cl := fun W (hW : Below w.heap.size w W) => last_any (h.below hW) hf hnx hb
  rw [hm'] at cl
  have hmx : m ≤ 900000 := by omega
  obtain ⟨w1, e1, mb1, b1⟩ : ∃ w1, w1 = w.alloc (.cells #[.int .u64 ((m : Int) + 1), .int .u64 (ep : Nat), .slice Ad d.length cd] 37) ∧ Mem w1 w.heap.size 37 #[.int .u64 ((m : Int) + 1), .int .u64 (ep : Nat), .slice Ad d.length cd] ∧ Below w.heap.size w w1 := ⟨_, rfl, Mem.new w _ _, (Below.refl _ w).alloc (Nat.le_refl _) _⟩
  have hwm : IntKind.u64.wrap ((m : Int) + 1) = (m : Int) + 1 := by show ((m : Int) + 1) % 18446744073709551616 = _; omega
  have hdx : (d.length : Int) ≤ 2048 := by omega
  have hmi : (m : Int) ≤ 900000 := by omega
  have q1 : ∀ W, Calls Try.prog 30 #[.slice none 0 0, .int .u64 ((m : Int) + 1), .int .i64 8] W fun e w' => ∃ v', e = .returned v' ∧ Sl w' w'.heap.size v' 8 (bs (be (m + 1) 8)) ∧ Below W.heap.size W w' := fun W => (put_b (.slice none 0 0) [] _ _ (m + 1) 8 rfl rfl W Sl.nil_ (by omega) (by simp) (by decide)).mono fun e w' ⟨v', a1, a2, a3⟩ => ⟨v', a1, by simpa using a2, a3⟩
  have q2 : ∀ W v, Sl W W.heap.size v 8 (bs (be (m + 1) 8)) → Calls Try.prog 30 #[v, .int .u64 (ep : Nat), .int .i64 8] W fun e w' => ∃ v', e = .returned v' ∧ w'.ownsRow W.heap.size 5 1 v' 16 (bs (be (m + 1) 8 ++ be ep 8)) ∧ Below W.heap.size W w' := fun W v hv => (put_o v (be (m + 1) 8) _ _ ep 8 rfl rfl W (by simpa using hv) hep (by simp) (by decide)).mono fun e w' ⟨v', a1, a2, a3⟩ => ⟨v', a1, by simpa using a2, a3⟩
  have hrecl := recB_len (m + 1) ep d
  have hrec : recB (m + 1) ep d = (be (m + 1) 8 ++ be ep 8) ++ d := rfl
  have ca : ∀ W v, Below w.heap.size w W → W.ownsRow w.heap.size 5 1 v (16 + d.length) (bs (recB (m + 1) ep d)) → Calls Try.prog 31 #[.pointer (some ⟨Yr, 0, none⟩), v] W fun e w' => ∃ O' R', e = .returned (.tuple #[.int .u64 (T.next : Nat), .int .i64 0]) ∧ Rng o w' X O' (apS S T (recB (m + 1) ep d) (need (16 + d.length))) Yr R' (T.app (recB (m + 1) ep d)) ∧ Eff (fun k => O k ∨ R k) W w' ∧ ∀ k, O' k ∨ R' k → O k ∨ R k ∨ W.heap.size ≤ k := fun W v hW hv => by
    have q := app_ok (h.rng.below hW) hu (by omega) (by omega) (by omega) (by omega) (by omega) W.heap.size (Nat.le_refl _) (v := v) (l := recB (m + 1) ep d) (by rw [hrecl]; exact Sl.of_own hv) (fun k _ hk => ⟨fun hO => by have := hOlt k hO; have := (own_tag hv k hk).1; omega, fun hR => by have := h.st.glt k hR; have := (own_tag hv k hk).1; omega⟩) (by omega) (by rw [hrecl]; exact hro)
    rw [hrecl] at q
    exact q
  have hcnt := aps_cnt S T (recB (m + 1) ep d) (need (16 + d.length))
  have hneed := need_le (16 + d.length) (by omega)
  have hup := aps_up hu T (recB (m + 1) ep d) (need (16 + d.length))
  have cf : ∀ W O' R', Rng o W X O' (apS S T (recB (m + 1) ep d) (need (16 + d.length))) Yr R' (T.app (recB (m + 1) ep d)) → Calls Try.prog 32 #[.pointer (some ⟨Yr, 0, none⟩)] W fun e w' => e = .returned (.int .i64 0) ∧ Rng o w' X O' (apS S T (recB (m + 1) ep d) (need (16 + d.length))).flushed Yr R' (T.app (recB (m + 1) ep d)) ∧ Eff O' W w' := fun W O' R' hr => jflush_any hr hup (by omega) (by omega)
  clear hf hnx hb hrl hro hcnt hneed hup hw hc hl hrecl hm'
  generalize hS1 : apS S T (recB (m + 1) ep d) (need (16 + d.length)) = S1 at *
  clear hS1
  have HREC := Lib.hid hrec
  generalize recB (m + 1) ep d = rec at *
  clear hrec hep hmx
  go_enter Try.func10, Try.ntmps10
  go_upto_region 1 with (fail)
  rw [← e1]
  clear e1
  apply calm_region [.is _, .is _, .is _, .is _, .is _, .is _, .is _, .is _, .is _, .is _, .is _, .is _] [[], [0], [], [2], [3], [1, 4], [5, 3], [6], [7, 6], [8, 6], [9, 6], [6, 10]] (by kernel_rfl) (by kernel_rfl) (by kernel_rfl) rfl
  intro f a1 ha1
  simp only [putL, Act.put, List.setIfInBounds_toArray, List.set_cons_succ, List.set_cons_zero] at ha1
  subst ha1
  refine ⟨?_, ?_⟩
  · refine AllCalm.cons (fun W hB hd => ?_) ?_
    · go_wp2_with (fail)
      exact CalmQ.mk rfl _ rfl (Below.refl _ _) rfl
    refine AllCalm.cons (fun W hB hd => ?_) ?_
    · obtain ⟨h0, -⟩ := hd
      have h0 : f 0 = _ := h0
      rw [h0]
      have k0 := (mb1.below hB mb1.lt).cell 0
      go_wp2_with (fail)
      exact CalmQ.mk rfl _ rfl (Below.refl _ _) rfl
    refine AllCalm.cons (fun W hB hd => ?_) ?_
    · go_wp2_with (fail)
      exact CalmQ.mk rfl _ rfl (Below.refl _ _) rfl
    refine AllCalm.cons (fun W hB hd => ?_) ?_
    · obtain ⟨h2, -⟩ := hd
      have h2 : f 2 = _ := h2
      rw [h2]
      have cW := cl W (b1.trans (hB.mono b1.size))
      go_wp2_with ((go_at_call 14; (with_reducible refine cW.mono ?_); rintro e' w3 ⟨rfl, hb3⟩))
      exact CalmQ.mk rfl _ rfl hb3 rfl
    refine AllCalm.cons (fun W hB hd => ?_) ?_
    · obtain ⟨h3, -⟩ := hd
      have h3 : f 3 = _ := h3
      rw [h3]
      go_wp2_with (fail)
      exact CalmQ.mk rfl _ rfl (Below.refl _ _) rfl
    refine AllCalm.cons (fun W hB hd => ?_) ?_
    · obtain ⟨h1, h4, -⟩ := hd
      have h1 : f 1 = _ := h1
      have h4 : f 4 = _ := h4
      rw [h1, h4]
      go_wp2_with (fail)
      exact CalmQ.mk rfl _ rfl (Below.refl _ _) rfl
    refine AllCalm.cons (fun W hB hd => ?_) ?_
    · obtain ⟨h5, h3, -⟩ := hd
      have h5 : f 5 = _ := h5
      have h3 : f 3 = _ := h3
      rw [h5, h3]
      go_wp2_with (fail)
      exact CalmQ.mk rfl _ rfl (Below.refl _ _) rfl
    refine AllCalm.cons (fun W hB hd => ?_) ?_
    · obtain ⟨h6, -⟩ := hd
      have h6 : f 6 = _ := h6
      rw [h6]
      go_wp2_with (fail)
      exact CalmQ.mk rfl _ rfl (Below.refl _ _) rfl
    refine AllCalm.cons (fun W hB hd => ?_) ?_
    · obtain ⟨h7, h6, -⟩ := hd
      have h7 : f 7 = _ := h7
      have h6 : f 6 = _ := h6
      rw [h7, h6]
      have k0 := (mb1.below hB mb1.lt).cell 2
      go_wp2_with (fail)
      exact CalmQ.mk rfl _ rfl (Below.refl _ _) rfl
    refine AllCalm.cons (fun W hB hd => ?_) ?_
    · obtain ⟨h8, h6, -⟩ := hd
      have h8 : f 8 = _ := h8
      have h6 : f 6 = _ := h6
      rw [h8, h6]
      go_wp2_with (fail)
      exact CalmQ.mk rfl _ rfl (Below.refl _ _) rfl
    refine AllCalm.cons (fun W hB hd => ?_) ?_
    · obtain ⟨h9, h6, -⟩ := hd
      have h9 : f 9 = _ := h9
      have h6 : f 6 = _ := h6
      rw [h9, h6]
      go_wp2_with (fail)
      exact CalmQ.mk rfl _ rfl (Below.refl _ _) rfl
    refine AllCalm.cons (fun W hB hd => ?_) ?_
    · obtain ⟨h6, h10, -⟩ := hd
      have h6 : f 6 = _ := h6
      have h10 : f 10 = _ := h10
      rw [h6, h10]
      go_wp2_with (fail)
      exact CalmQ.mk rfl _ rfl (Below.refl _ _) rfl
    exact AllCalm.nil
  · intro W hB hT
    obtain ⟨h0, h1, h2, h3, h4, h5, h6, h7, h8, h9, h10, h11, -⟩ := hT
    have h0 : f 0 = _ := h0
    have h1 : f 1 = _ := h1
    have h2 : f 2 = _ := h2
    have h3 : f 3 = _ := h3
    have h4 : f 4 = _ := h4
    have h5 : f 5 = _ := h5
    have h6 : f 6 = _ := h6
    have h7 : f 7 = _ := h7
    have h8 : f 8 = _ := h8
    have h9 : f 9 = _ := h9
    have h10 : f 10 = _ := h10
    have h11 : f 11 = _ := h11
    rw [h0, h1, h2, h3, h4, h5, h6, h7, h8, h9, h10, h11]
    clear h0 h1 h2 h3 h4 h5 h6 h7 h8 h9 h10 h11
    have mbW := mb1.below hB mb1.lt
    have BW := b1.trans (hB.mono b1.size)
    have k0 := mbW.cell 0
    clear cl
    have q1W := q1 W
    go_wp2_with (first
      | (go_at_call 30; (with_reducible refine q1W.mono ?_); rintro e' w4 ⟨v4, rfl, s4, b4⟩; have q2W := q2 w4 v4 s4; obtain ⟨A4, c4, rfl, _, _⟩ := s4.form; have k1 := (mbW.below b4 mbW.lt).cell 1)
      | (go_at_call 30; (with_reducible refine q2W.mono ?_); rintro e' w5 ⟨v5, rfl, o5, b5⟩; obtain ⟨A5, c5, rfl, _, _⟩ := own_form o5))
    have B5 : Below w.heap.size w w5 := BW.trans ((b4.trans (b5.mono b4.size)).mono BW.size)
    have mb5 := (mbW.below b4 mbW.lt).below b5 (Nat.lt_of_lt_of_le mbW.lt b4.size)
    have m5 := hm.below B5 hm.lt
    have hv5 := sl_any (hv.below B5)
    have kd5 := mb5.cell 2
    have kr5 : w5.cell? ⟨Z, 11, none⟩ = some (.pointer (some ⟨Yr, 0, none⟩)) := m5.cell 11
    have own5 : w5.ownsRow w.heap.size 5 1 (.slice A5 16 c5) 16 (bs (be (m + 1) 8 ++ be ep 8)) := owns_mono o5 (Nat.le_trans BW.size b4.size)
    have bN1 : 16 + d.length ≤ maxLen := by unfold maxLen; omega
    have bN2 : (16 + d.length) * 1 ≤ 140737488355328 := by omega
    have own5d : w5.drew.ownsRow w.heap.size 5 1 (.slice A5 16 c5) 16 (bs (be (m + 1) 8 ++ be ep 8)) := own5
    have hv5d : ∀ ad, Ad = some ad → ∀ j u, (bs d)[j]? = some u → w5.drew.cell? (ad.add j) = some u := hv5.1
    have hone : ∀ u ∈ bs d, u.oneCell' = true := bs_one
    have hbl : (bs d).length = d.length * 1 := by simp
    have hsz5 : w.heap.size ≤ w5.drew.heap.size := B5.size
    have B5d : Below w.heap.size w w5.drew := B5.drew
    have hZl : Z < w5.drew.heap.size := m5.lt
    have hoZ : ∀ q, (Value.slice A5 16 c5).ownBlock = some q → w.heap.size ≤ q := fun q hq => (own_tag own5 q hq).1
    have hZw := hm.lt
    have hr11 : ∀ W, Below w.heap.size w W → W.cell? ⟨Z, 11, none⟩ = some (.pointer (some ⟨Yr, 0, none⟩)) := fun W hW => (hm.below hW hZw).cell 11
    have ca5 : ∀ (W : World) (v : Value), Below w.heap.size w W → W.ownsRow w.heap.size 5 1 v (16 + d.length) (bs (be (m + 1) 8 ++ be ep 8) ++ bs d) → Calls Try.prog 31 #[.pointer (some ⟨Yr, 0, none⟩), v] W fun e w' => ∃ O' R', e = .returned (.tuple #[.int .u64 (T.next : Nat), .int .i64 0]) ∧ Rng o w' X O' S1 Yr R' (T.app rec) ∧ Eff (fun k => O k ∨ R k) W w' ∧ ∀ k, O' k ∨ R' k → O k ∨ R k ∨ W.heap.size ≤ k := fun W v h1 h2 => ca W v h1 (by rw [HREC.out, bs_app]; exact h2)
    clear q1 q2 q1W q2W k0 k1 mbW ca
    generalize hnxg : T.next = nx at *
    go_wp2
    go_region_law (first
      | (rw [if_pos (by rfl)]; (with_reducible refine wp_append_any _ (.tmp 32) (.tmp 34) _ rfl w.heap.size 5 i0 _ 1 1 Try.underlying34 hi hz0 hz1 hz2 rfl (by decide) (.slice A5 16 c5) 16 (bs (be (m + 1) 8 ++ be ep 8)) rfl own5d Ad d.length cd (bs d) rfl hbl hv5d hv5.2 hone bN1 bN2 hsz5 ?_); intro v7 w7 ho7 hg7 hat7; have B7 := below_own B5d hg7 hsz5 hoZ; have kr7 := hr11 w7 B7; obtain ⟨A7, c7, rfl, _, _⟩ := own_form ho7)
      | (rw [if_pos (by rfl)]; go_simp; go_at_call 31; (with_reducible refine (ca5 _ _ B7 ho7).mono ?_); rintro e' w8 ⟨O8, R8, rfl, rg8, E8, h8⟩; dsimp only))
    all_goals
      obtain ⟨rv8, D8, hM8⟩ := rg8.is
      have st8 := (h.st.below B7).ring E8 rg8.dsk h8 rg8.no hM8.lt
      obtain ⟨sv8, mz8, -⟩ := st8.mem
      have kz8 : w8.cell? ⟨Z, 11, none⟩ = some (.pointer (some ⟨Yr, 0, none⟩)) := mz8.cell 11
      have cf8 := cf w8 O8 R8 rg8
      go_wp2_with (go_at_call 32; (with_reducible refine cf8.mono ?_); rintro e' w9 ⟨rfl, rg9, E9⟩)
      obtain ⟨rv9, D9, hM9⟩ := rg9.is
      have st9 := st8.ring (E9.mono fun k _ hk => .inl hk) rg9.dsk (fun k hk => hk.elim .inl fun h => .inr (.inl h)) rg9.no hM9.lt
      exact bodyPost_ret (v := .int .i64 0) (by simp [results, Try.results10, go_sem]) rfl ⟨O8, R8, rfl, st9, rg9.is, rg9.ok, rg9.from_⟩
end
end Se
end Go.Proofs.Ytpfackjnnkjjdaa
/- Package store: SetEpoch, Epoch, Entry. -/
namespace Go.Proofs.Ytpfackjnnkjjdaa
open Go.ChangeShapes Go.WideShapes Go.ChangeAt Go.RowKit Go.Lib
set_option linter.unusedVariables false
set_option linter.unusedSimpArgs false
set_option maxRecDepth 100000
namespace Se
open Crc Dk Tw Rg
section
variable {o w w' : World} {X Yt n Z Yr : Nat} {O O' G R R' : Nat → Prop} {S S' : DS} {r rz r' : Rt} {l : List UInt8} {jp : Value} {T : RS}
theorem epoch_any (h : Sto o w X O S Yt n Z r l Yr R T) : Calls Try.prog 19 #[.pointer (some ⟨Z, 0, none⟩)] w fun e w' => e = .returned (.int .u64 (r.epoch : Nat)) ∧ w = w' := by
  obtain ⟨sv, hm, _⟩ := h.st.mem
  have k0 : w.cell? ⟨Z, 2, none⟩ = some (.int .u64 (r.epoch : Nat)) := hm.cell 2
  go_enter Try.func19, Try.ntmps19
  go_wp2
  go_ret
  exact ⟨rfl, rfl⟩
/-- put of a store with its journal: the journal stays. -/
theorem put_sto (h : Sto o w X O S Yt n Z r l Yr R T) (hu : S.up) (hl : S.last.length = 610) (hw : S.wtg ≤ 1000) (hc : S.calls ≤ 1000000) (hn : n ≤ 1000000) (hr : r'.Ok) : Calls Try.prog 28 #[.pointer (some ⟨Z, 0, none⟩), .agg #[.int .u64 (r'.epoch : Nat), .int .u64 (r'.base : Nat), .int .u64 (r'.first : Nat), .int .i64 (r'.place : Nat), .int .u32 (r'.life : Nat), .int .i64 (r'.side : Nat), .int .i64 (r'.size : Nat), .int .u32 (r'.sum : Nat)]] w fun e w' => ∃ O', e = .returned (.int .i64 0) ∧ Sto o w' X O' (Tw.putS S 0 (n + 1) (rootB r')) Yt (n + 1) Z r' l Yr R T := by
  obtain ⟨rv, D, hM⟩ := h.rg
  refine (put_any' (r' := r') h.st hu hl hw hc hn hr).mono ?_
  rintro e w' ⟨O', q1, q2, q3, q4⟩
  exact ⟨O', q1, q2, ⟨rv, D, hM.eff q3 fun k _ hR hk => hk.elim (h.st.gO k hR) fun hk => hk.elim (fun e => h.st.gY (e ▸ hR)) fun e => h.st.gZ (e ▸ hR)⟩, by rw [putS_len]; exact h.ok, h.rfrom⟩
set_option maxHeartbeats 4000000 in
theorem setepoch_any (h : Sto o w X O S Yt n Z r l Yr R T) (hu : S.up) (hl : S.last.length = 610) (hw : S.wtg ≤ 1000) (hc : S.calls ≤ 1000000) (hn : n ≤ 1000000) (hr : r.Ok) (ep : Nat) (hep : r.epoch < ep) (he2 : ep ≤ 1000000) : Calls Try.prog 18 #[.pointer (some ⟨Z, 0, none⟩), .int .u64 (ep : Nat)] w fun e w' => ∃ O', e = .returned (.int .i64 0) ∧ Sto o w' X O' (Tw.putS S 0 (n + 1) (rootB { r with epoch := ep })) Yt (n + 1) Z { r with epoch := ep } l Yr R T := by
  obtain ⟨sv, hm, _⟩ := h.st.mem
  have z2 : w.cell? ⟨Z, 2, none⟩ = some (.int .u64 (r.epoch : Nat)) := hm.cell 2
  have z3 : w.cell? ⟨Z, 3, none⟩ = some (.int .u64 (r.base : Nat)) := hm.cell 3
  have z4 : w.cell? ⟨Z, 4, none⟩ = some (.int .u64 (r.first : Nat)) := hm.cell 4
  have z5 : w.cell? ⟨Z, 5, none⟩ = some (.int .i64 (r.place : Nat)) := hm.cell 5
  have z6 : w.cell? ⟨Z, 6, none⟩ = some (.int .u32 (r.life : Nat)) := hm.cell 6
  have z7 : w.cell? ⟨Z, 7, none⟩ = some (.int .i64 (r.side : Nat)) := hm.cell 7
  have z8 : w.cell? ⟨Z, 8, none⟩ = some (.int .i64 (r.size : Nat)) := hm.cell 8
  have z9 : w.cell? ⟨Z, 9, none⟩ = some (.int .u32 (r.sum : Nat)) := hm.cell 9
  have hr' : ({ r with epoch := ep } : Rt).Ok := ⟨by show ep < _; omega, hr.base, hr.first, hr.place, hr.life, hr.side, hr.size, hr.sum⟩
  obtain ⟨w1, e1, mb1, b1⟩ : ∃ w1, w1 = w.alloc (.cells #[.int .u64 (r.epoch : Nat), .int .u64 (r.base : Nat), .int .u64 (r.first : Nat), .int .i64 (r.place : Nat), .int .u32 (r.life : Nat), .int .i64 (r.side : Nat), .int .i64 (r.size : Nat), .int .u32 (r.sum : Nat)] 57) ∧ Mem w1 w.heap.size 57 #[.int .u64 (r.epoch : Nat), .int .u64 (r.base : Nat), .int .u64 (r.first : Nat), .int .i64 (r.place : Nat), .int .u32 (r.life : Nat), .int .i64 (r.side : Nat), .int .i64 (r.size : Nat), .int .u32 (r.sum : Nat)] ∧ Below w.heap.size w w1 := ⟨_, rfl, Mem.new w _ _, (Below.refl _ w).alloc (Nat.le_refl _) _⟩
  have q0 := mb1.cell 0
  have f0 := mb1.free 0
  have mb2 : Mem (w1.setCell ⟨w.heap.size, 0, none⟩ (.int .u64 (ep : Nat))) w.heap.size 57 #[.int .u64 (ep : Nat), .int .u64 (r.base : Nat), .int .u64 (r.first : Nat), .int .i64 (r.place : Nat), .int .u32 (r.life : Nat), .int .i64 (r.side : Nat), .int .i64 (r.size : Nat), .int .u32 (r.sum : Nat)] := mb1.put 0 _
  have b2 : Below w.heap.size w (w1.setCell ⟨w.heap.size, 0, none⟩ (.int .u64 (ep : Nat))) := b1.setCell (p := ⟨w.heap.size, 0, none⟩) (Nat.le_refl _) _
  have cp : Calls Try.prog 28 #[.pointer (some ⟨Z, 0, none⟩), .agg #[.int .u64 (ep : Nat), .int .u64 (r.base : Nat), .int .u64 (r.first : Nat), .int .i64 (r.place : Nat), .int .u32 (r.life : Nat), .int .i64 (r.side : Nat), .int .i64 (r.size : Nat), .int .u32 (r.sum : Nat)]] (w1.setCell ⟨w.heap.size, 0, none⟩ (.int .u64 (ep : Nat))) fun e w' => ∃ O', e = .returned (.int .i64 0) ∧ Sto o w' X O' (Tw.putS S 0 (n + 1) (rootB { r with epoch := ep })) Yt (n + 1) Z { r with epoch := ep } l Yr R T := put_sto (r' := { r with epoch := ep }) (h.below b2) hu hl hw hc hn hr'
  have h1 : ¬ (ep : Int) < (r.epoch : Int) := by omega
  have h2 : ¬ (ep : Int) = (r.epoch : Int) := by omega
  have h3 : ¬ ep < r.epoch := by omega
  have h4 : ¬ ep = r.epoch := by omega
  clear hu hl hw hc hn hr hr' h hep he2
  go_enter Try.func18, Try.ntmps18
  go_upto_region 6 with (fail)
  rw [← e1]
  clear e1 z2 z3 z4 z5 z6 z7 z8 z9
  go_wp2_with (first
    | (refine wpList_load_row rfl 57 (.tmp 5) rfl w.heap.size rfl 57 #[.int .u64 (ep : Nat), .int .u64 (r.base : Nat), .int .u64 (r.first : Nat), .int .i64 (r.place : Nat), .int .u32 (r.life : Nat), .int .i64 (r.side : Nat), .int .i64 (r.size : Nat), .int .u32 (r.sum : Nat)] (0, 0) _ mb2 Try.underlying57 rfl (by kernel_rfl) ?_)
    | (go_at_call 28; (with_reducible refine cp.mono ?_); rintro e' w9 ⟨O9, rfl, st9⟩))
  go_ret
  exact ⟨O9, rfl, st9⟩
end
end Se
end Go.Proofs.Ytpfackjnnkjjdaa
/- Package store: Entry. -/
namespace Go.Proofs.Ytpfackjnnkjjdaa
open Go.ChangeShapes Go.WideShapes Go.ChangeAt Go.RowKit Go.Lib
set_option linter.unusedVariables false
set_option linter.unusedSimpArgs false
set_option maxRecDepth 100000
namespace Se
open Crc Dk Tw Rg
section
variable {o w w' : World} {X Yt n Z Yr : Nat} {O O' G R R' : Nat → Prop} {S S' : DS} {r rz r' : Rt} {l : List UInt8} {jp : Value} {T : RS}
set_option maxHeartbeats 4000000 in
theorem entry_any (h : Sto o w X O S Yt n Z r l Yr R T) (hf : T.first = r.first) (hnx : T.next ≤ 800000) (hb : r.base ≤ 800000) (j : Nat) (b : List UInt8) (hj : T.recs[j]? = some b) (hb1 : 16 ≤ b.length) (hb2 : b.length ≤ 32768) (m : Nat) (hm' : m = r.base + j + 1) : Calls Try.prog 17 #[.pointer (some ⟨Z, 0, none⟩), .int .u64 (m : Nat)] w fun e w' => ∃ A c, e = .returned (.tuple #[.agg #[.int .u64 (m : Nat), .int .u64 (beVal ((b.drop 8).take 8) : Nat), .slice A (b.length - 16) c], .bool true]) ∧ w'.ownsRow w.heap.size 5 1 (.slice A (b.length - 16) c) (b.length - 16) (bs (b.drop 16)) ∧ Below w.heap.size w w' := by
  obtain ⟨i0, hi, hz0, hz1, hz2⟩ := info_parts info_u8
  obtain ⟨rv, D, hM⟩ := h.rg
  obtain ⟨sv, hm, _⟩ := h.st.mem
  have hjl : j < T.recs.length := (List.getElem?_eq_some_iff.1 hj).1
  have enx : T.next = T.first + T.recs.length := rfl
  have cl := fun W (hW : Below w.heap.size w W) => last_any (h.below hW) hf hnx hb
  have cr := fun W (hW : Below w.heap.size w W) => read_any (hM.below hW) (by omega) j b hj hb2
  obtain ⟨q, hq⟩ : ∃ q, r.base + T.recs.length = q := ⟨_, rfl⟩
  rw [hq] at cl
  have t1 : ¬ (m : Int) ≤ (r.base : Int) := by omega
  have t1' : ¬ m ≤ r.base := by omega
  have t2 : ¬ (q : Int) < (m : Int) := by omega
  have t2' : ¬ q < m := by omega
  have a1 : IntKind.u64.wrap ((r.first : Int) + (m : Int)) = ((r.first + m : Nat) : Int) := by show ((r.first : Int) + (m : Int)) % 18446744073709551616 = _; omega
  have a2 : IntKind.u64.wrap (((r.first + m : Nat) : Int) - (r.base : Int)) = ((r.first + j + 1 : Nat) : Int) := by show (((r.first + m : Nat) : Int) - (r.base : Int)) % 18446744073709551616 = _; omega
  have a3 : IntKind.u64.wrap (((r.first + j + 1 : Nat) : Int) - 1) = (T.first : Int) + (j : Int) := by show (((r.first + j + 1 : Nat) : Int) - 1) % 18446744073709551616 = _; omega
  obtain ⟨w1, e1, mE, b1⟩ : ∃ w1, w1 = w.alloc (.cells #[.int .u64 0, .int .u64 0, .slice none 0 0] 37) ∧ Mem w1 w.heap.size 37 #[.int .u64 0, .int .u64 0, .slice none 0 0] ∧ Below w.heap.size w w1 := ⟨_, rfl, Mem.new w _ _, (Below.refl _ w).alloc (Nat.le_refl _) _⟩
  have m1 := hm.below b1 hm.lt
  have kb : w1.cell? ⟨Z, 3, none⟩ = some (.int .u64 (r.base : Nat)) := m1.cell 3
  have cl1 := cl w1 b1
  generalize r.first + m = s1 at *
  generalize r.first + j + 1 = s2 at *
  obtain ⟨PE, hPE⟩ : ∃ PE : Value → World → Prop, ∀ t W, PE t W ↔ ∃ A c, t = .tuple #[.slice A b.length c, .int .i64 0] ∧ W.ownsRow w.heap.size 5 1 (.slice A b.length c) b.length (bs b) := ⟨_, fun _ _ => Iff.rfl⟩
  obtain ⟨PF, hPF⟩ : ∃ PF : Value → World → Prop, ∀ t W, PF t W ↔ ∃ A c, t = .slice A b.length c ∧ W.ownsRow w.heap.size 5 1 (.slice A b.length c) b.length (bs b) := ⟨_, fun _ _ => Iff.rfl⟩
  have hPEb : ∀ t (W W' : World), Below W.heap.size W W' → PE t W → PE t W' := fun t W W' hb h => (hPE t W').2 (((hPE t W).1 h).imp fun A q => q.imp fun c q => ⟨q.1, owns_below q.2 hb⟩)
  have hPFb : ∀ t (W W' : World), Below W.heap.size W W' → PF t W → PF t W' := fun t W W' hb h => (hPF t W').2 (((hPF t W).1 h).imp fun A q => q.imp fun c q => ⟨q.1, owns_below q.2 hb⟩)
  have HPE := Lib.hid hPE
  have HPF := Lib.hid hPF
  have hfx : (T.first : Int) = (r.first : Int) := by omega
  have HB1 := Lib.hid hb1
  have HB2 := Lib.hid hb2
  clear hPE hPF hq hf hnx hb hj hjl enx hm' hb1 hb2
  generalize hTf : (T.first : Int) + (j : Int) = rj at *
  go_enter Try.func17, Try.ntmps17
  go_upto_region 1 with (fail)
  rw [← e1]
  clear e1
  go_wp2_with (go_at_call 14; (with_reducible refine cl1.mono ?_); rintro e' w2 ⟨rfl, b2⟩)
  have B2 := b1.trans (b2.mono b1.size)
  have m2 := hm.below B2 hm.lt
  have mE2 := mE.below b2 mE.lt
  clear kb cl1 cl m1
  refine wp_region_any (by kernel_rfl) ?_
  change wpAny _ _ _ _ _ _ _ (World.drew _)
  refine wpAny_take (i := 0) (oi := { dst := some 25, op := Op.move (Operand.tmp 0), type := 29, pos := "store.go:230", after := #[], guard := none }) (v := (.pointer (some ⟨Z, 0, none⟩))) rfl (by kernel_rfl) (by kernel_rfl) (by kernel_rfl) (fun _ _ _ h => h) (Or.inl ⟨by rfl, by intro w; go_simp⟩) ?_
  try dsimp only [Act.put]
  try simp only [List.setIfInBounds_toArray, List.set_cons_succ, List.set_cons_zero]
  apply calm_tailK 23 [0] [.is (.pointer (some ⟨Z, 0, none⟩)), .is _, .is _, .is _, .is _, .is _, .is _, .is _, .is _, .is _, .is _, .is _, .is _, .is _, .is _, .is _, .is _, .is _, .of (fun t W => PE t W) (fun t W W' hb h => hPEb _ _ _ hb h), .of (fun t W => PE t W) (fun t W W' hb h => hPEb _ _ _ hb h), .of (fun t W => PF t W) (fun t W W' hb h => hPFb _ _ _ hb h), .is _, .of (fun t W => PF t W) (fun t W W' hb h => hPFb _ _ _ hb h)] [[], [0], [1], [2], [], [4], [5], [6], [7], [], [8, 9], [], [11], [12], [13], [14], [10, 15], [16], [3, 17], [18], [19], [19], [20, 18, 0, 1, 2, 3, 4, 5, 6, 7, 8, 9, 10, 11, 12, 13, 14, 15, 16, 17, 18, 19, 20]] (by kernel_rfl) (by kernel_rfl) rfl (by decide) (by intro i hi o ho; obtain rfl := List.mem_singleton.1 hi; obtain rfl := Option.some.inj ho; exact rfl)
  intro f a1 ha1
  simp only [List.take_succ_cons, List.take_zero, putL, Act.put, List.setIfInBounds_toArray, List.set_cons_succ, List.set_cons_zero] at ha1
  subst ha1
  refine ⟨?_, ?_⟩
  · refine AllCalm.cons (fun W hB hd => ?_) ?_
    · go_wp2_with (fail)
      exact CalmQ.mk rfl _ rfl (Below.refl _ _) rfl
    refine AllCalm.cons (fun W hB hd => ?_) ?_
    · obtain ⟨h0, -⟩ := hd
      have h0 : f 0 = _ := h0
      rw [h0]
      go_wp2_with (fail)
      exact CalmQ.mk rfl _ rfl (Below.refl _ _) rfl
    refine AllCalm.cons (fun W hB hd => ?_) ?_
    · obtain ⟨h1, -⟩ := hd
      have h1 : f 1 = _ := h1
      rw [h1]
      go_wp2_with (fail)
      exact CalmQ.mk rfl _ rfl (Below.refl _ _) rfl
    refine AllCalm.cons (fun W hB hd => ?_) ?_
    · obtain ⟨h2, -⟩ := hd
      have h2 : f 2 = _ := h2
      rw [h2]
      have k0 : W.cell? ⟨Z, 11, none⟩ = some (.pointer (some ⟨Yr, 0, none⟩)) := (m2.below ((Below.refl _ w2).drew.trans hB) m2.lt).cell 11
      go_wp2_with (fail)
      exact CalmQ.mk rfl _ rfl (Below.refl _ _) rfl
    refine AllCalm.cons (fun W hB hd => ?_) ?_
    · go_wp2_with (fail)
      exact CalmQ.mk rfl _ rfl (Below.refl _ _) rfl
    refine AllCalm.cons (fun W hB hd => ?_) ?_
    · obtain ⟨h4, -⟩ := hd
      have h4 : f 4 = _ := h4
      rw [h4]
      go_wp2_with (fail)
      exact CalmQ.mk rfl _ rfl (Below.refl _ _) rfl
    refine AllCalm.cons (fun W hB hd => ?_) ?_
    · obtain ⟨h5, -⟩ := hd
      have h5 : f 5 = _ := h5
      rw [h5]
      go_wp2_with (fail)
      exact CalmQ.mk rfl _ rfl (Below.refl _ _) rfl
    refine AllCalm.cons (fun W hB hd => ?_) ?_
    · obtain ⟨h6, -⟩ := hd
      have h6 : f 6 = _ := h6
      rw [h6]
      go_wp2_with (fail)
      exact CalmQ.mk rfl _ rfl (Below.refl _ _) rfl
    refine AllCalm.cons (fun W hB hd => ?_) ?_
    · obtain ⟨h7, -⟩ := hd
      have h7 : f 7 = _ := h7
      rw [h7]
      have k0 : W.cell? ⟨Z, 4, none⟩ = some (.int .u64 (r.first : Nat)) := (m2.below ((Below.refl _ w2).drew.trans hB) m2.lt).cell 4
      go_wp2_with (fail)
      exact CalmQ.mk rfl _ rfl (Below.refl _ _) rfl
    refine AllCalm.cons (fun W hB hd => ?_) ?_
    · go_wp2_with (fail)
      exact CalmQ.mk rfl _ rfl (Below.refl _ _) rfl
    refine AllCalm.cons (fun W hB hd => ?_) ?_
    · obtain ⟨h8, h9, -⟩ := hd
      have h8 : f 8 = _ := h8
      have h9 : f 9 = _ := h9
      rw [h8, h9]
      go_wp2_with (fail)
      exact CalmQ.mk rfl _ rfl (Below.refl _ _) rfl
    refine AllCalm.cons (fun W hB hd => ?_) ?_
    · go_wp2_with (fail)
      exact CalmQ.mk rfl _ rfl (Below.refl _ _) rfl
    refine AllCalm.cons (fun W hB hd => ?_) ?_
    · obtain ⟨h11, -⟩ := hd
      have h11 : f 11 = _ := h11
      rw [h11]
      go_wp2_with (fail)
      exact CalmQ.mk rfl _ rfl (Below.refl _ _) rfl
    refine AllCalm.cons (fun W hB hd => ?_) ?_
    · obtain ⟨h12, -⟩ := hd
      have h12 : f 12 = _ := h12
      rw [h12]
      go_wp2_with (fail)
      exact CalmQ.mk rfl _ rfl (Below.refl _ _) rfl
    refine AllCalm.cons (fun W hB hd => ?_) ?_
    · obtain ⟨h13, -⟩ := hd
      have h13 : f 13 = _ := h13
      rw [h13]
      go_wp2_with (fail)
      exact CalmQ.mk rfl _ rfl (Below.refl _ _) rfl
    refine AllCalm.cons (fun W hB hd => ?_) ?_
    · obtain ⟨h14, -⟩ := hd
      have h14 : f 14 = _ := h14
      rw [h14]
      have k0 : W.cell? ⟨Z, 3, none⟩ = some (.int .u64 (r.base : Nat)) := (m2.below ((Below.refl _ w2).drew.trans hB) m2.lt).cell 3
      go_wp2_with (fail)
      exact CalmQ.mk rfl _ rfl (Below.refl _ _) rfl
    refine AllCalm.cons (fun W hB hd => ?_) ?_
    · obtain ⟨h10, h15, -⟩ := hd
      have h10 : f 10 = _ := h10
      have h15 : f 15 = _ := h15
      rw [h10, h15]
      go_wp2_with (fail)
      exact CalmQ.mk rfl _ rfl (Below.refl _ _) rfl
    refine AllCalm.cons (fun W hB hd => ?_) ?_
    · obtain ⟨h16, -⟩ := hd
      have h16 : f 16 = _ := h16
      rw [h16]
      go_wp2_with (fail)
      exact CalmQ.mk rfl _ rfl (Below.refl _ _) rfl
    refine AllCalm.cons (fun W hB hd => ?_) ?_
    · obtain ⟨h3, h17, -⟩ := hd
      have h3 : f 3 = _ := h3
      have h17 : f 17 = _ := h17
      rw [h3, h17]
      have BW := B2.trans (((Below.refl _ w2).drew.trans hB).mono B2.size); have cW := cr W BW
      go_wp2_with ((go_at_call 41; (with_reducible refine cW.mono ?_); rintro e' w3 ⟨v3, rfl, o3, b3⟩; obtain ⟨A3, c3, rfl, _, _⟩ := own_form o3))
      exact CalmQ.mk rfl _ rfl b3 ((HPE.out _ _).2 ⟨A3, c3, rfl, owns_mono o3 BW.size⟩)
    refine AllCalm.cons (fun W hB hd => ?_) ?_
    · obtain ⟨h18, -⟩ := hd
      obtain ⟨A3, c3, e18, o3⟩ := (HPE.out _ _).1 h18; rw [e18]; clear e18
      go_wp2_with (fail)
      exact CalmQ.mk rfl _ rfl (Below.refl _ _) ((HPE.out _ _).2 ⟨A3, c3, rfl, o3⟩)
    refine AllCalm.cons (fun W hB hd => ?_) ?_
    · obtain ⟨h19, -⟩ := hd
      obtain ⟨A3, c3, e18, o3⟩ := (HPE.out _ _).1 h19; rw [e18]; clear e18
      go_wp2_with (fail)
      exact CalmQ.mk rfl _ rfl (Below.refl _ _) ((HPF.out _ _).2 ⟨A3, c3, rfl, o3⟩)
    refine AllCalm.cons (fun W hB hd => ?_) ?_
    · obtain ⟨h19, -⟩ := hd
      obtain ⟨A3, c3, e18, o3⟩ := (HPE.out _ _).1 h19; rw [e18]; clear e18
      go_wp2_with (fail)
      exact CalmQ.mk rfl _ rfl (Below.refl _ _) rfl
    refine AllCalm.cons (fun W hB hd => ?_) ?_
    · obtain ⟨h20, h18, h0, h1, h2, h3, h4, h5, h6, h7, h8, h9, h10, h11, h12, h13, h14, h15, h16, h17, -, h19, -, -⟩ := hd
      have h0 : f 0 = _ := h0
      have h1 : f 1 = _ := h1
      have h2 : f 2 = _ := h2
      have h3 : f 3 = _ := h3
      have h4 : f 4 = _ := h4
      have h5 : f 5 = _ := h5
      have h6 : f 6 = _ := h6
      have h7 : f 7 = _ := h7
      have h8 : f 8 = _ := h8
      have h9 : f 9 = _ := h9
      have h10 : f 10 = _ := h10
      have h11 : f 11 = _ := h11
      have h12 : f 12 = _ := h12
      have h13 : f 13 = _ := h13
      have h14 : f 14 = _ := h14
      have h15 : f 15 = _ := h15
      have h16 : f 16 = _ := h16
      have h17 : f 17 = _ := h17
      rw [h0, h1, h2, h3, h4, h5, h6, h7, h8, h9, h10, h11, h12, h13, h14, h15, h16, h17]
      obtain ⟨A3, c3, e18, o3⟩ := (HPF.out _ _).1 h20; rw [e18]; clear e18
      go_wp2_with (fail)
      exact CalmQ.mk rfl _ rfl (Below.refl _ _) ((HPF.out _ _).2 ⟨A3, c3, rfl, o3⟩)
    exact AllCalm.nil
  · intro W hB hT
    obtain ⟨h0, h1, h2, h3, h4, h5, h6, h7, h8, h9, h10, h11, h12, h13, h14, h15, h16, h17, h18, h19, h20, h21, h22, -⟩ := hT
    have h0 : f 0 = _ := h0
    have h1 : f 1 = _ := h1
    have h2 : f 2 = _ := h2
    have h3 : f 3 = _ := h3
    have h4 : f 4 = _ := h4
    have h5 : f 5 = _ := h5
    have h6 : f 6 = _ := h6
    have h7 : f 7 = _ := h7
    have h8 : f 8 = _ := h8
    have h9 : f 9 = _ := h9
    have h10 : f 10 = _ := h10
    have h11 : f 11 = _ := h11
    have h12 : f 12 = _ := h12
    have h13 : f 13 = _ := h13
    have h14 : f 14 = _ := h14
    have h15 : f 15 = _ := h15
    have h16 : f 16 = _ := h16
    have h17 : f 17 = _ := h17
    have h21 : f 21 = _ := h21
    rw [h0, h1, h2, h3, h4, h5, h6, h7, h8, h9, h10, h11, h12, h13, h14, h15, h16, h17, h21]
    clear h0 h1 h2 h3 h4 h5 h6 h7 h8 h9 h10 h11 h12 h13 h14 h15 h16 h17 h21
    simp only [List.drop_succ_cons, List.drop_zero]
    have b3 := (Below.refl _ w2).drew.trans hB
    have B3 := B2.trans (b3.mono B2.size)
    have mE3 := mE2.below b3 mE2.lt
    obtain ⟨A4, c4, e22, o4⟩ := (HPF.out _ _).1 h22
    rw [e22]
    have hb16 := HB1.out
    have hb32 := HB2.out
    have hbx : (16 : Int) ≤ (b.length : Int) := by omega
    have hby : (b.length : Int) ≤ 32768 := by omega
    have cg : Calls Try.prog 42 #[.slice A4 b.length c4, .int .i64 8, .int .i64 8] W fun e w' => e = .returned (.tuple #[.int .u64 (beVal ((b.drop 8).take 8) : Nat), .bool true]) ∧ W = w' := get_b (.slice A4 b.length c4) b 8 8 8 8 rfl rfl W (Sl.of_own o4) (by omega) (by omega) (by decide) (by omega)
    obtain ⟨g4, rfl⟩ : ∃ g, A4 = some ⟨g, 0, none⟩ := by
      rcases o4.2 with ⟨hv, h1⟩ | ⟨g, cap, cur, hv, _⟩
      · omega
      · simp only [Value.slice.injEq] at hv
        exact ⟨g, hv.1⟩
    have hc4 : b.length ≤ c4 ∧ c4 ≤ maxLen := by
      obtain ⟨A', c', hv, h1, h2⟩ := own_form o4
      simp only [Value.slice.injEq] at hv
      obtain ⟨-, -, hv⟩ := hv
      exact ⟨by omega, by omega⟩
    have hcut : ∀ off : Nat, (off = 16 ∧ 16 < c4 ∨ c4 = 16 ∧ off = 0) → Sl W W.heap.size (.slice (some ⟨g4, off, none⟩) (b.length - 16) (c4 - 16)) (b.length - 16) (bs (b.drop 16)) := fun off ho => by
      by_cases e : 16 < b.length
      · obtain rfl : off = 16 := by omega
        have q := Sl.drop (Sl.of_own o4) e
        rw [Nat.zero_add, ← bs_drop] at q
        exact q
      · have e0 : b.length - 16 = 0 := by omega
        rw [e0, List.drop_of_length_le (by omega)]
        exact Sl.empty_any W _ _ (by omega)
    generalize hev : beVal ((b.drop 8).take 8) = ev at *
    have HEV := Lib.hid hev
    clear hev
    have hsl : (b.length - 16 : Nat) ≤ 17592186044416 := by omega
    have hone : ∀ u ∈ bs (b.drop 16), u.oneCell' = true := bs_one
    have HC4 := Lib.hid hc4
    by_cases hc16 : c4 = 16
    · have hL : b.length = 16 := by omega
      have q16 := hcut 0 (.inr ⟨hc16, rfl⟩)
      clear hb16 hb32 hcut hc4
      subst hc16
      clear hL
      go_wp2_with (first
        | (go_at_call 42; (with_reducible refine cg.mono ?_); rintro e' w5 ⟨rfl, rfl⟩)
        | (at_builtin; (refine wpList_append_sl _ rfl (.const (.slice none 0 0)) (.tmp 57) _ rfl W.heap.size 5 i0 _ Try.underlying34 hi hz0 hz1 (by omega) rfl (.slice none 0 0) 0 [] rfl (World.ownsRow_nil _ _ _ _) W.heap.size (.slice (some ⟨g4, 0, none⟩) (b.length - 16) 0) (b.length - 16) (bs (b.drop 16)) rfl q16 hone (by omega) (Nat.le_refl _) ?_); intro v6 w6 ho6 hg6 hat6; have b6 := (Below.refl _ W).grown hg6 (Nat.le_refl _) (fun k hk => (by cases hk)); have mE6 := mE3.below b6 mE3.lt; have ho6' : w6.ownsRow W.heap.size 5 1 v6 (b.length - 16) (bs (b.drop 16)) := (by simpa using ho6); clear ho6; obtain ⟨A6, c6, rfl, _, _⟩ := own_form ho6')
        | (refine wpList_store_row rfl 37 (.tmp 4) (.tmp 59) rfl w.heap.size #[.int .u64 (m : Nat), .int .u64 (ev : Nat), .slice A6 (b.length - 16) c6] rfl rfl 37 #[.int .u64 0, .int .u64 0, .slice none 0 0] mE6 (by kernel_rfl) (by kernel_rfl) (by kernel_rfl) ?_))
      have bW6 := B3.trans (b6.mono B3.size)
      have o6 := owns_eff ho6' (eff_setRow w6 w.heap.size #[.int .u64 (m : Nat), .int .u64 (ev : Nat), .slice A6 (b.length - 16) c6]) fun k hk e => (own_tag ho6' k hk).2.2.ne (mem_tag mE6) (by decide) e
      refine bodyPost_ret (v := .tuple #[.agg #[.int .u64 (m : Nat), .int .u64 (ev : Nat), .slice A6 (b.length - 16) c6], .bool true]) ?_ rfl ⟨A6, c6, by rw [HEV.out], owns_mono o6 B3.size, below_setRow bW6 (Nat.le_refl _) _⟩
      exact (results_cell2 (p := 4) (a := 5) (ty := 37) rfl _ _ w.heap.size 37 _ (0, 0) _ rfl (mE6.row #[.int .u64 (m : Nat), .int .u64 (ev : Nat), .slice A6 (b.length - 16) c6]) Try.underlying37 rfl (by kernel_rfl)).trans rfl
    · have hcx : (16 : Int) < (c4 : Int) := by omega
      have hcn : 16 < c4 := by omega
      have q16 := hcut 16 (.inl ⟨rfl, hcn⟩)
      clear hb16 hb32 hcut hc4 hc16
      go_wp2_with (first
        | (go_at_call 42; (with_reducible refine cg.mono ?_); rintro e' w5 ⟨rfl, rfl⟩)
        | (at_builtin; (refine wpList_append_sl _ rfl (.const (.slice none 0 0)) (.tmp 57) _ rfl W.heap.size 5 i0 _ Try.underlying34 hi hz0 hz1 (by omega) rfl (.slice none 0 0) 0 [] rfl (World.ownsRow_nil _ _ _ _) W.heap.size (.slice (some ⟨g4, 16, none⟩) (b.length - 16) (c4 - 16)) (b.length - 16) (bs (b.drop 16)) rfl q16 hone (by omega) (Nat.le_refl _) ?_); intro v6 w6 ho6 hg6 hat6; have b6 := (Below.refl _ W).grown hg6 (Nat.le_refl _) (fun k hk => (by cases hk)); have mE6 := mE3.below b6 mE3.lt; have ho6' : w6.ownsRow W.heap.size 5 1 v6 (b.length - 16) (bs (b.drop 16)) := (by simpa using ho6); clear ho6; obtain ⟨A6, c6, rfl, _, _⟩ := own_form ho6')
        | (refine wpList_store_row rfl 37 (.tmp 4) (.tmp 59) rfl w.heap.size #[.int .u64 (m : Nat), .int .u64 (ev : Nat), .slice A6 (b.length - 16) c6] rfl rfl 37 #[.int .u64 0, .int .u64 0, .slice none 0 0] mE6 (by kernel_rfl) (by kernel_rfl) (by kernel_rfl) ?_))
      have bW6 := B3.trans (b6.mono B3.size)
      have o6 := owns_eff ho6' (eff_setRow w6 w.heap.size #[.int .u64 (m : Nat), .int .u64 (ev : Nat), .slice A6 (b.length - 16) c6]) fun k hk e => (own_tag ho6' k hk).2.2.ne (mem_tag mE6) (by decide) e
      refine bodyPost_ret (v := .tuple #[.agg #[.int .u64 (m : Nat), .int .u64 (ev : Nat), .slice A6 (b.length - 16) c6], .bool true]) ?_ rfl ⟨A6, c6, by rw [HEV.out], owns_mono o6 B3.size, below_setRow bW6 (Nat.le_refl _) _⟩
      exact (results_cell2 (p := 4) (a := 5) (ty := 37) rfl _ _ w.heap.size 37 _ (0, 0) _ rfl (mE6.row #[.int .u64 (m : Nat), .int .u64 (ev : Nat), .slice A6 (b.length - 16) c6]) Try.underlying37 rfl (by kernel_rfl)).trans rfl
end
end Se
end Go.Proofs.Ytpfackjnnkjjdaa
/- Package store: rebase. -/
namespace Go.Proofs.Ytpfackjnnkjjdaa
open Go.ChangeShapes Go.WideShapes Go.ChangeAt Go.RowKit Go.Lib
set_option linter.unusedVariables false
set_option linter.unusedSimpArgs false
set_option maxRecDepth 100000
namespace Se
open Crc Dk Tw Rg
section
variable {o w w' : World} {X Yt n Z Yr : Nat} {O O' G R R' : Nat → Prop} {S S' : DS} {r rz r' : Rt} {l d : List UInt8} {jp : Value} {T : RS}
set_option maxHeartbeats 4000000 in
theorem rebase_any (h : Sto o w X O S Yt n Z r l Yr R T) (hu : S.up) (hl : S.last.length = 610) (hw : S.wtg ≤ 1000) (hc : S.calls ≤ 1000000) (hn : n ≤ 1000000) (hr : r'.Ok) (vd : Value) (hv : Sl w w.heap.size vd d.length (bs d)) (hd : d.length ≤ 100000) (hvO : ∀ k, vd.ownBlock = some k → ¬ (O k ∨ k = Yt ∨ k = Z)) : Calls Try.prog 36 #[.pointer (some ⟨Z, 0, none⟩), .agg #[.int .u64 (r'.epoch : Nat), .int .u64 (r'.base : Nat), .int .u64 (r'.first : Nat), .int .i64 (r'.place : Nat), .int .u32 (r'.life : Nat), .int .i64 (r'.side : Nat), .int .i64 (r'.size : Nat), .int .u32 (r'.sum : Nat)], vd] w fun e w' => ∃ O', e = .returned (.int .i64 0) ∧ Sto o w' X O' (Tw.putS S 0 (n + 1) (rootB r')) Yt (n + 1) Z r' d Yr R T := by
  obtain ⟨i0, hi, hz0, hz1, hz2⟩ := info_parts info_u8
  obtain ⟨rv, D, hM⟩ := h.rg
  obtain ⟨Ad, cd, rfl, _, _⟩ := hv.form
  have hglt := h.st.glt
  have hgO := h.st.gO
  have hgY := h.st.gY
  have hgZ := h.st.gZ
  have hok := h.ok
  have hrf := h.rfrom
  obtain ⟨w1, e1, mb1, b1⟩ : ∃ w1, w1 = w.alloc (.cells #[.int .u64 (r'.epoch : Nat), .int .u64 (r'.base : Nat), .int .u64 (r'.first : Nat), .int .i64 (r'.place : Nat), .int .u32 (r'.life : Nat), .int .i64 (r'.side : Nat), .int .i64 (r'.size : Nat), .int .u32 (r'.sum : Nat)] 57) ∧ Mem w1 w.heap.size 57 #[.int .u64 (r'.epoch : Nat), .int .u64 (r'.base : Nat), .int .u64 (r'.first : Nat), .int .i64 (r'.place : Nat), .int .u32 (r'.life : Nat), .int .i64 (r'.side : Nat), .int .i64 (r'.size : Nat), .int .u32 (r'.sum : Nat)] ∧ Below w.heap.size w w1 := ⟨_, rfl, Mem.new w _ _, (Below.refl _ w).alloc (Nat.le_refl _) _⟩
  have cp := put_any' (r' := r') (h.st.below b1) hu hl hw hc hn hr
  have hv1 := hv.now b1
  have hvb : ∀ k, (Value.slice Ad d.length cd).ownBlock = some k → ¬ (O k ∨ k = Yt ∨ k = Z) := hvO
  clear hu hl hw hc hn hr h hvO hv
  go_enter Try.func36, Try.ntmps36
  go_upto_region 1 with (fail)
  rw [← e1]
  clear e1
  go_upto_region 4 with (first
    | (refine wpList_load_row rfl 57 (.tmp 4) rfl w.heap.size rfl 57 #[.int .u64 (r'.epoch : Nat), .int .u64 (r'.base : Nat), .int .u64 (r'.first : Nat), .int .i64 (r'.place : Nat), .int .u32 (r'.life : Nat), .int .i64 (r'.side : Nat), .int .i64 (r'.size : Nat), .int .u32 (r'.sum : Nat)] (0, 0) _ mb1 Try.underlying57 rfl (by kernel_rfl) ?_)
    | (go_at_call 28; (with_reducible refine cp.mono ?_); rintro e' w2 ⟨O2, rfl, st2, E2, h2⟩))
  have hv2 := (Dk.sl_eff hv1 E2 (Nat.le_refl _) fun k _ hk => hvb k hk).more E2.size
  obtain ⟨sv2, m2, hsv2, hsO2⟩ := st2.mem
  have hk10 : ∀ W, Below w2.heap.size w2 W → W.cell? ⟨Z, 10, none⟩ = some sv2 := fun W hW => (m2.below hW m2.lt).cell 10
  have rg2 := (hM.below b1).eff E2 fun k _ hR hk => hk.elim (hgO k hR) fun hk => hk.elim (fun e => hgY (e ▸ hR)) fun e => hgZ (e ▸ hR)
  have hlt2 := st2.oLt
  go_wp2_with (at_builtin; (refine wpList_append_sl _ rfl (.const (.slice none 0 0)) (.tmp 15) _ rfl w2.heap.size 5 i0 _ Try.underlying34 hi hz0 hz1 (by omega) rfl (.slice none 0 0) 0 [] rfl (World.ownsRow_nil _ _ _ _) w2.heap.size (.slice Ad d.length cd) d.length (bs d) rfl hv2 bs_one (by omega) (Nat.le_refl _) ?_); intro v3 w3 ho3 hg3 hat3; have b3 := (Below.refl _ w2).grown hg3 (Nat.le_refl _) (fun k hk => (by cases hk)); have m3 := m2.below b3 m2.lt; have f3 := m3.free 10; have k3 := hk10 w3 b3; have ho3' : w3.ownsRow w2.heap.size 5 1 v3 d.length (bs d) := (by simpa using ho3); clear ho3; obtain ⟨A3, c3, rfl, _, _⟩ := own_form ho3')
  have EF : Eff (fun k => k = Z) w3 (w3.setCell ⟨Z, 10, none⟩ (.slice A3 d.length c3)) := Eff.setCell (S := fun k => k = Z) (Eff.refl _ _) (p := ⟨Z, 10, none⟩) rfl _
  have st3 := st2.below b3
  have hlt3 := st3.oLt
  obtain ⟨q1, ⟨tv, q2, q3⟩, -, q5, q6, q7, q8, q9, q10⟩ := st3
  have mF : Mem (w3.setCell ⟨Z, 10, none⟩ (.slice A3 d.length c3)) Z 66 (stRow X Yt r' (.slice A3 d.length c3) (.pointer (some ⟨Yr, 0, none⟩))) := m3.put 10 _
  have oF := owns_eff ho3' EF fun k hk e => (own_tag ho3' k hk).2.2.ne (mem_tag m3) (by decide) e
  have dF := q1.effO EF (fun q _ hO hq => q6 (hq ▸ hO)) (fun q _ hq => hq ▸ q5)
  have tF : TwM o.heap.size (w3.setCell ⟨Z, 10, none⟩ (.slice A3 d.length c3)) O2 Yt X 0 (n + 1) tv (rootB r') := ⟨q2.mem.eff EF fun e => (mem_tag q2.mem).ne (mem_tag m3) (by decide) e, owns_eff q2.row EF fun k hk e => (own_tag q2.row k hk).2.2.ne (mem_tag m3) (by decide) e, q2.from_, q2.noY, q2.noV, q2.fit, q2.few⟩
  have rF := (rg2.below b3).eff EF fun k _ hR e => q8 (e ▸ hR)
  refine bodyPost_ret (v := .int .i64 0) (by simp [results, Try.results36, go_sem]) rfl ⟨O2, rfl, ⟨dF, ⟨tv, tF, q3⟩, ⟨_, mF, owns_mono oF st2.dsk.bl.size, fun k hk => ?_⟩, q5, q6, q7, q8, q9, fun k hk => Nat.lt_of_lt_of_le (q10 k hk) EF.size⟩, ⟨rv, D, rF⟩, by rw [putS_len]; exact hok, hrf⟩
  have h3 := (own_tag ho3' k hk).1
  exact ⟨fun hO => by have := hlt2 k hO; omega, fun hR => by have := hglt k hR; have := b1.size; have := E2.size; omega⟩
end
end Se
end Go.Proofs.Ytpfackjnnkjjdaa
/- gemellaw22: bytes; package store: Base. -/
namespace Go.Proofs.Ytpfackjnnkjjdaa
open Go.ChangeShapes Go.WideShapes Go.ChangeAt Go.RowKit Go.Lib
set_option linter.unusedVariables false
set_option linter.unusedSimpArgs false
set_option maxRecDepth 100000
namespace Se
open Crc Dk Tw Rg
section
variable {o w w' : World} {X Yt n Z Yr : Nat} {O O' G R R' : Nat → Prop} {S S' : DS} {r rz r' : Rt} {l d : List UInt8} {jp : Value} {T : RS}
set_option maxHeartbeats 2000000 in
theorem base_any (h : Sto o w X O S Yt n Z r l Yr R T) (hl : l.length ≤ 100000) : Calls Try.prog 13 #[.pointer (some ⟨Z, 0, none⟩)] w fun e w' => ∃ A c, e = .returned (.tuple #[.int .u64 (r.base : Nat), .slice A l.length c]) ∧ w'.ownsRow w.heap.size 5 1 (.slice A l.length c) l.length (bs l) ∧ Below w.heap.size w w' := by
  obtain ⟨i0, hi, hz0, hz1, hz2⟩ := info_parts info_u8
  obtain ⟨sv, hm, hs, _⟩ := h.st.mem
  obtain ⟨As, cs, rfl, _, _⟩ := own_form hs
  have hk3 : ∀ W, Below w.heap.size w W → W.cell? ⟨Z, 3, none⟩ = some (.int .u64 (r.base : Nat)) := fun W hW => (hm.below hW hm.lt).cell 3
  have hk10 : ∀ W, Below w.heap.size w W → W.cell? ⟨Z, 10, none⟩ = some (.slice As l.length cs) := fun W hW => (hm.below hW hm.lt).cell 10
  have hsl := fun W (hW : Below w.heap.size w W) => Sl.of_own (owns_below hs hW)
  have hlx : 0 + l.length ≤ 17592186044416 := by omega
  obtain ⟨PF, hPF⟩ : ∃ PF : Value → World → Prop, ∀ t W, PF t W ↔ ∃ A c, t = .slice A l.length c ∧ W.ownsRow w.heap.size 5 1 (.slice A l.length c) l.length (bs l) := ⟨_, fun _ _ => Iff.rfl⟩
  have hPFb : ∀ t (W W' : World), Below W.heap.size W W' → PF t W → PF t W' := fun t W W' hb h => (hPF t W').2 (((hPF t W).1 h).imp fun A q => q.imp fun c q => ⟨q.1, owns_below q.2 hb⟩)
  have HPF := Lib.hid hPF
  clear hPF
  go_enter Try.func13, Try.ntmps13
  go_wp2
  refine wp_region_any (by kernel_rfl) ?_
  change wpAny _ _ _ _ _ _ _ (World.drew _)
  refine wpAny_take (i := 0) (oi := { dst := some 4, op := Op.move (Operand.tmp 0), type := 29, pos := "store.go:219", after := #[], guard := none }) (v := (.pointer (some ⟨Z, 0, none⟩))) rfl (by kernel_rfl) (by kernel_rfl) (by kernel_rfl) (fun _ _ _ h => h) (Or.inl ⟨by rfl, by intro w; go_simp⟩) ?_
  try dsimp only [Act.put]
  try simp only [List.setIfInBounds_toArray, List.set_cons_succ, List.set_cons_zero]
  apply calm_tailK 11 [0] [.is (.pointer (some ⟨Z, 0, none⟩)), .is _, .is _, .is _, .is _, .is _, .is _, .is _, .is _, .of (fun t W => PF t W) (fun t W W' hb h => hPFb _ _ _ hb h), .is _] [[], [0], [1], [2], [3], [], [5], [6], [7], [8], [4, 9, 0, 1, 2, 3, 4]] (by kernel_rfl) (by kernel_rfl) rfl (by decide) (by intro i hi o ho; obtain rfl := List.mem_singleton.1 hi; obtain rfl := Option.some.inj ho; exact rfl)
  intro f a1 ha1
  simp only [List.take_succ_cons, List.take_zero, putL, Act.put, List.setIfInBounds_toArray, List.set_cons_succ, List.set_cons_zero] at ha1
  subst ha1
  refine ⟨?_, ?_⟩
  · refine AllCalm.cons (fun W hB hd => ?_) ?_
    · go_wp2_with (fail)
      exact CalmQ.mk rfl _ rfl (Below.refl _ _) rfl
    refine AllCalm.cons (fun W hB hd => ?_) ?_
    · obtain ⟨h0, -⟩ := hd
      have h0 : f 0 = _ := h0
      rw [h0]
      go_wp2_with (fail)
      exact CalmQ.mk rfl _ rfl (Below.refl _ _) rfl
    refine AllCalm.cons (fun W hB hd => ?_) ?_
    · obtain ⟨h1, -⟩ := hd
      have h1 : f 1 = _ := h1
      rw [h1]
      go_wp2_with (fail)
      exact CalmQ.mk rfl _ rfl (Below.refl _ _) rfl
    refine AllCalm.cons (fun W hB hd => ?_) ?_
    · obtain ⟨h2, -⟩ := hd
      have h2 : f 2 = _ := h2
      rw [h2]
      go_wp2_with (fail)
      exact CalmQ.mk rfl _ rfl (Below.refl _ _) rfl
    refine AllCalm.cons (fun W hB hd => ?_) ?_
    · obtain ⟨h3, -⟩ := hd
      have h3 : f 3 = _ := h3
      rw [h3]
      have k0 := hk3 W ((Below.refl _ w).drew.trans hB)
      go_wp2_with (fail)
      exact CalmQ.mk rfl _ rfl (Below.refl _ _) rfl
    refine AllCalm.cons (fun W hB hd => ?_) ?_
    · go_wp2_with (fail)
      exact CalmQ.mk rfl _ rfl (Below.refl _ _) rfl
    refine AllCalm.cons (fun W hB hd => ?_) ?_
    · obtain ⟨h5, -⟩ := hd
      have h5 : f 5 = _ := h5
      rw [h5]
      go_wp2_with (fail)
      exact CalmQ.mk rfl _ rfl (Below.refl _ _) rfl
    refine AllCalm.cons (fun W hB hd => ?_) ?_
    · obtain ⟨h6, -⟩ := hd
      have h6 : f 6 = _ := h6
      rw [h6]
      go_wp2_with (fail)
      exact CalmQ.mk rfl _ rfl (Below.refl _ _) rfl
    refine AllCalm.cons (fun W hB hd => ?_) ?_
    · obtain ⟨h7, -⟩ := hd
      have h7 : f 7 = _ := h7
      rw [h7]
      have k0 := hk10 W ((Below.refl _ w).drew.trans hB)
      go_wp2_with (fail)
      exact CalmQ.mk rfl _ rfl (Below.refl _ _) rfl
    refine AllCalm.cons (fun W hB hd => ?_) ?_
    · obtain ⟨h8, -⟩ := hd
      have h8 : f 8 = _ := h8
      rw [h8]
      have BW := (Below.refl _ w).drew.trans hB; have sW := hsl W BW
      go_wp2_with ((at_builtin; (refine wpList_append_sl _ rfl (.const (.slice none 0 0)) (.tmp 12) _ rfl W.heap.size 5 i0 _ Try.underlying34 hi hz0 hz1 (by omega) rfl (.slice none 0 0) 0 [] rfl (World.ownsRow_nil _ _ _ _) W.heap.size (.slice As l.length cs) l.length (bs l) rfl sW bs_one hlx (Nat.le_refl _) ?_); intro v6 w6 ho6 hg6 hat6; have b6 := (Below.refl _ W).grown hg6 (Nat.le_refl _) (fun k hk => (by cases hk)); have ho6' : w6.ownsRow W.heap.size 5 1 v6 l.length (bs l) := (by simpa using ho6); clear ho6; obtain ⟨A6, c6, rfl, _, _⟩ := own_form ho6'))
      exact CalmQ.mk rfl _ rfl b6 ((HPF.out _ _).2 ⟨A6, c6, rfl, owns_mono ho6' BW.size⟩)
    refine AllCalm.cons (fun W hB hd => ?_) ?_
    · obtain ⟨h4, h9, h0, h1, h2, h3, -, -⟩ := hd
      have h4 : f 4 = _ := h4
      have h0 : f 0 = _ := h0
      have h1 : f 1 = _ := h1
      have h2 : f 2 = _ := h2
      have h3 : f 3 = _ := h3
      rw [h4, h0, h1, h2, h3]
      go_wp2_with (fail)
      exact CalmQ.mk rfl _ rfl (Below.refl _ _) rfl
    exact AllCalm.nil
  · intro W hB hT
    obtain ⟨h0, h1, h2, h3, h4, h5, h6, h7, h8, h9, h10, -⟩ := hT
    have h0 : f 0 = _ := h0
    have h1 : f 1 = _ := h1
    have h2 : f 2 = _ := h2
    have h3 : f 3 = _ := h3
    have h4 : f 4 = _ := h4
    have h5 : f 5 = _ := h5
    have h6 : f 6 = _ := h6
    have h7 : f 7 = _ := h7
    have h8 : f 8 = _ := h8
    have h10 : f 10 = _ := h10
    rw [h0, h1, h2, h3, h4, h5, h6, h7, h8, h10]
    clear h0 h1 h2 h3 h4 h5 h6 h7 h8 h10
    simp only [List.drop_succ_cons, List.drop_zero]
    have BW := (Below.refl _ w).drew.trans hB
    obtain ⟨A9, c9, e9, o9⟩ := (HPF.out _ _).1 h9
    rw [e9]
    go_wp2
    exact bodyPost_ret (v := .tuple #[.int .u64 (r.base : Nat), .slice A9 l.length c9]) (by simp [results, Try.results13, go_sem]) rfl ⟨A9, c9, rfl, o9, BW⟩
/-- What bytes makes. -/
def bytesS (n k : Nat) : List UInt8 := (List.range n).map fun i => UInt8.ofNat (k + 3 * i)
theorem bytesS_len (n k : Nat) : (bytesS n k).length = n := by simp [bytesS]
set_option maxHeartbeats 2000000 in
theorem bytes_any (n k : Nat) (hn : n ≤ 100000) (hk : k ≤ 100000) (w : World) : Calls Try.prog 11 #[.int .i64 (n : Nat), .int .i64 (k : Nat)] w fun e w' => ∃ A c, e = .returned (.slice A n c) ∧ w'.ownsRow w.heap.size 5 1 (.slice A n c) n (bs (bytesS n k)) ∧ Below w.heap.size w w' := by
  obtain ⟨i0, hi, hz0, hz1, hz2⟩ := info_parts info_u8
  have hnx : (n : Int) ≤ 100000 := by omega
  have hkx : (k : Int) ≤ 100000 := by omega
  go_enter Try.func11, Try.ntmps11
  go_wp2_with (at_make; (refine wpList_make_full _ rfl (.tmp 7) (.tmp 7) 34 rfl w.heap.size 5 i0 _ 1 Try.underlying34 hi hz0 hz1 .i64 .i64 _ _ n rfl rfl rfl rfl (by rw [hz2]; omega) (by unfold maxLen; omega) (Nat.le_refl _) ?_; intro w2 hown2 hg2; have b2 := (Below.refl _ w).grown hg2 (Nat.le_refl _) (fun k hk => (by cases hk))))
  replace hown2 : w2.ownsRow w.heap.size 5 1 (.slice (some ⟨w.heap.size, 0, none⟩) n n) n (bs (List.replicate n 0)) := by
    have q := made_bytes n ▸ hown2
    simpa [bs] using q
  go_loopw [6] (fun i wr => ∃ (j : Nat) (L : List UInt8), i = .int .i64 j ∧ j ≤ n ∧ L.length = n ∧ (∀ q, q < j → L[q]? = some (UInt8.ofNat (k + 3 * q))) ∧ Below w.heap.size w wr ∧ wr.ownsRow w.heap.size 5 1 (.slice (some ⟨w.heap.size, 0, none⟩) n n) n (bs L)) (fun i _ => n - (intOf i).toNat)
  case atStart => exact ⟨0, List.replicate n 0, rfl, Nat.zero_le _, by simp, fun q hq => absurd hq (by omega), b2, hown2⟩
  case round =>
    obtain ⟨j, L, rfl, hj, hL, hq, hb, ho⟩ := hrel
    by_cases hjn : j < n
    · have hjx : (j : Int) < (n : Int) := by omega
      have f1 := own_free ho j
      obtain ⟨u, c1⟩ : ∃ u : Int, wr.cell? ⟨w.heap.size, j, none⟩ = some (.int .u8 u) := ⟨_, own_cells ho j _ (bs_get (by omega : j < L.length))⟩
      have wr1 : IntKind.u8.wrap ((k : Int) + 3 * (j : Int)) = ((UInt8.ofNat (k + 3 * j)).toNat : Int) := by
        rw [UInt8.toNat_ofNat']
        show ((k : Int) + 3 * (j : Int)) % 256 = _
        omega
      have op := own_put ho hjn (.int .u8 ((UInt8.ofNat (k + 3 * j)).toNat : Int))
      have e : (bs L).set j (.int .u8 ((UInt8.ofNat (k + 3 * j)).toNat : Int)) = bs (L.set j (UInt8.ofNat (k + 3 * j))) := by unfold bs; rw [List.map_set]
      rw [e] at op
      have bp := hb.setCell (p := ⟨w.heap.size, j, none⟩) (Nat.le_refl _) (.int .u8 ((UInt8.ofNat (k + 3 * j)).toNat : Int))
      have HQ := Lib.hid hq
      have HL := Lib.hid hL
      clear hq hL e
      go_wp2
      refine ⟨⟨j + 1, L.set j (UInt8.ofNat (k + 3 * j)), by simp, by omega, by rw [List.length_set]; exact HL.out, fun q hq => ?_, bp, op⟩, by simp [intOf]; omega⟩
      by_cases e : q = j
      · subst e
        rw [List.getElem?_set_self (by have := HL.out; omega)]
      · rw [List.getElem?_set_ne (by omega)]
        exact HQ.out q (by omega)
    · obtain rfl : j = n := by omega
      have e : L = bytesS j k := by
        refine List.ext_getElem? fun q => ?_
        by_cases hqj : q < j
        · rw [hq q hqj]
          simp [bytesS, hqj]
        · rw [List.getElem?_eq_none (by omega), List.getElem?_eq_none (by rw [bytesS_len]; omega)]
      rw [e] at ho
      go_wp2
      exact bodyPost_ret (v := .slice (some ⟨w.heap.size, 0, none⟩) j j) (by simp [results, Try.results11, go_sem]) rfl ⟨_, _, rfl, ho, hb⟩
end
end Se
end Go.Proofs.Ytpfackjnnkjjdaa
/- Package store: what lies on the disk: root, snapshot; what put and append make of it (pure). -/
namespace Go.Proofs.Ytpfackjnnkjjdaa
open Go.ChangeShapes Go.WideShapes Go.ChangeAt Go.RowKit Go.Lib
set_option linter.unusedVariables false
set_option linter.unusedSimpArgs false
set_option maxRecDepth 100000
namespace Se
open Crc Dk Tw Rg
/-- A disk at rest whose root is r (the n-th), with the snapshot l. -/
structure Pu (S : DS) (n : Nat) (r : Rt) (l : List UInt8) : Prop where
  fine : Fine S
  up : S.up
  len : S.last.length = 610
  still : ∀ i, S.wa i = []
  wtg : S.wtg = 0
  tw : bestTo S 0 2 = some (n, rootB r)
  rok : r.Ok
  sz : l.length = r.size
  sum : moreS 0 l = r.sum
  on : SnapOn S r.side l
theorem fl_wtg (S : DS) : S.flushed.wtg = 0 := rfl
theorem fl_up {S : DS} (h : S.up) : S.flushed.up := ⟨h.dead, h.off, h.arm⟩
theorem put_now {S : DS} (hF : Fine S) (hl : S.last.length = 610) (n : Nat) (b : List UInt8) (i : Nat) (hi : 2 ≤ i) : (Tw.putS S 0 n b).now i = S.now i := by
  unfold Tw.putS
  have hlt : 0 + n % 2 < S.last.length := by omega
  rw [Rg.flushed_now (hF.wr hlt _), Rg.now_wr hF hlt, if_neg (by omega)]
theorem rd_put {S : DS} (hF : Fine S) (hl : S.last.length = 610) (n : Nat) (b : List UInt8) (T : RS) (hT : 2 ≤ T.at_) (i : Nat) : rdU (Tw.putS S 0 n b) T i = rdU S T i := by
  unfold rdU
  rw [put_now hF hl n b (T.sec i) (by unfold RS.sec; omega)]
theorem Pu.put {S : DS} {n : Nat} {r r' : Rt} {l : List UInt8} (h : Pu S n r l) (hn : n + 1 < 18446744073709551616) (hr : r'.Ok) (h1 : r'.side = r.side) (h2 : r'.size = r.size) (h3 : r'.sum = r.sum) : Pu (Tw.putS S 0 (n + 1) (rootB r')) (n + 1) r' l := by
  have hlt : 0 + (n + 1) % 2 < S.last.length := by have := h.len; omega
  have hF : Fine (Tw.putS S 0 (n + 1) (rootB r')) := (h.fine.wr hlt _).flushed
  exact ⟨hF, ⟨h.up.dead, h.up.off, h.up.arm⟩, by rw [putS_len]; exact h.len, fun i => flushed_wa (h.fine.wr hlt _) i, rfl, best_put h.fine (by have := h.len; omega) hn (by rw [rootB_len]; decide) h.tw, hr, by rw [h2]; exact h.sz, by rw [h3]; exact h.sum, fun i hi => by rw [h1, put_now h.fine h.len _ _ _ (by omega)]; exact h.on i hi⟩
theorem Pu.app {S : DS} {n : Nat} {r : Rt} {l rec : List UInt8} {T : RS} {k : Nat} (h : Pu S n r l) (hk : T.Ok S.last.length) (hat : T.at_ = 98) (hsz : r.side < 2) (hl : l.length ≤ 24576) : Pu (apS S T rec k).flushed n r l := by
  have hF := aps_fine h.fine hk (l := rec) k
  have hno : ∀ s, s < 98 → (apS S T rec k).flushed.now s = S.now s := fun s hs => by
    rw [Rg.flushed_now hF, aps_now_no h.fine hk s k fun i _ => by unfold RS.sec; omega]
  have hu := aps_up h.up T rec k
  refine ⟨hF.flushed, fl_up hu, ?_, fun i => flushed_wa hF i, fl_wtg _, ?_, h.rok, h.sz, h.sum, fun i hi => ?_⟩
  · have e : (apS S T rec k).flushed.last.length = (apS S T rec k).last.length := flsh_len ..
    rw [e, aps_len]
    exact h.len
  · rw [bestTo_two, hno 0 (by omega), hno (0 + 1) (by omega), ← bestTo_two]
    exact h.tw
  · rw [hno _ (by omega)]
    exact h.on i hi
theorem more_nil : moreS 0 [] = 0 := Crc.moreS_nil 0 (by decide)
theorem blank_fine {S : DS} (hF : Fine S) (hl : S.last.length = 610) : ∀ k, k ≤ 512 → Fine (blankTo S k) := fun k => by
  induction k with
  | zero => exact fun _ => hF
  | succ k ih => exact fun hk => (ih (by omega)).wr (by rw [blank_len]; omega) _
theorem Pu.fmt {S : DS} (hF : Fine S) (hu : S.up) (hl : S.last.length = 610) : Pu (fmtS (blankTo S 512) 0 (rootB r0)) 1 r0 [] := by
  have hB := blank_fine hF hl 512 (Nat.le_refl _)
  have hbl : (blankTo S 512).last.length = 610 := by rw [blank_len]; exact hl
  have hu2 := blank_up hu 512
  generalize blankTo S 512 = U at *
  have hF1 := (hB.wr (n := 0) (by omega) [])
  have hF2 := hF1.wr (n := 0 + 1) (by show _ < U.last.length; omega) (packS 1 (rootB r0))
  have hbf := best_fmt hB (a := 0) (l := rootB r0) (by omega) (by rw [rootB_len]; decide)
  have e : fmtS U 0 (rootB r0) = (((U.wr 0 []).wr (0 + 1) (packS 1 (rootB r0)))).flushed := rfl
  have hl3 : (((U.wr 0 []).wr (0 + 1) (packS 1 (rootB r0)))).last.length = 610 := hbl
  have hu3 : (((U.wr 0 []).wr (0 + 1) (packS 1 (rootB r0)))).up := ⟨hu2.dead, hu2.off, hu2.arm⟩
  rw [e] at hbf ⊢
  generalize ((U.wr 0 []).wr (0 + 1) (packS 1 (rootB r0))) = V at *
  have el : V.flushed.last.length = V.last.length := flsh_len ..
  exact ⟨hF2.flushed, fl_up hu3, by rw [el]; exact hl3, fun i => flushed_wa hF2 i, fl_wtg _, hbf, r0_ok, rfl, more_nil, fun i hi => by simp at hi⟩
end Se
end Go.Proofs.Ytpfackjnnkjjdaa
/- Package store: the journal's sectors; power loss (pure). -/
namespace Go.Proofs.Ytpfackjnnkjjdaa
open Go.ChangeShapes Go.WideShapes Go.ChangeAt Go.RowKit Go.Lib
set_option linter.unusedVariables false
set_option linter.unusedSimpArgs false
set_option maxRecDepth 100000
namespace Se
open Crc Dk Tw Rg
theorem blank_now {S : DS} (hF : Fine S) (hl : S.last.length = 610) (i : Nat) : ∀ k, k ≤ 512 → (blankTo S k).now i = if 98 ≤ i ∧ i < 98 + k then [] else S.now i := fun k => by
  induction k with
  | zero => intro _; rw [if_neg (by omega)]; rfl
  | succ k ih =>
    intro hk
    have e : blankTo S (k + 1) = (blankTo S k).wr (98 + k) [] := rfl
    rw [e, Rg.now_wr (blank_fine hF hl k (by omega)) (by rw [blank_len]; omega), ih (by omega)]
    by_cases h : i = 98 + k
    · rw [if_pos h, if_pos (by omega)]
    · rw [if_neg h]
      by_cases h2 : 98 ≤ i ∧ i < 98 + k
      · rw [if_pos h2, if_pos (by omega)]
      · rw [if_neg h2, if_neg (by omega)]
theorem fmt_now {S : DS} (hF : Fine S) (hl : S.last.length = 610) (b : List UInt8) (i : Nat) (h1 : 98 ≤ i) (h2 : i < 610) : (fmtS (blankTo S 512) 0 b).now i = [] := by
  have hB := blank_fine hF hl 512 (Nat.le_refl _)
  have hbl : (blankTo S 512).last.length = 610 := by rw [blank_len]; exact hl
  have hn := blank_now hF hl i 512 (Nat.le_refl _)
  rw [if_pos (by omega)] at hn
  generalize blankTo S 512 = U at *
  have hF1 := hB.wr (n := 0) (by omega) []
  have hF2 := hF1.wr (n := 0 + 1) (by show _ < U.last.length; omega) (packS 1 b)
  have e : fmtS U 0 b = (((U.wr 0 []).wr (0 + 1) (packS 1 b))).flushed := rfl
  rw [e, Rg.flushed_now hF2, Rg.now_wr hF1 (by show _ < U.last.length; omega), if_neg (by omega), Rg.now_wr hB (by omega), if_neg (by omega), hn]
/-- The records Ls lie in the journal, what is behind them is blank. -/
structure Jr (S : DS) (T : RS) (Ls : List (Nat × List UInt8)) : Prop where
  lay : LayP S T Ls
  bl : Blank S T (usedTo Ls Ls.length)
theorem Jr.done {S : DS} {T : RS} {Ls : List (Nat × List UInt8)} (h : Jr S T Ls) : Lay S T Ls := h.lay.blank h.bl
theorem Jr.to {S S' : DS} {T T' : RS} {Ls : List (Nat × List UInt8)} (h : Jr S T Ls) (hr : ∀ i, rdU S' T' i = rdU S T i) (hf : T'.first = T.first) (hn : T'.n = T.n) (hl : T.life ≤ T'.life) : Jr S' T' Ls := ⟨h.lay.congr hr hf hn hl, h.bl.congr hr hn⟩
theorem Jr.fmt {S : DS} (hF : Fine S) (hl : S.last.length = 610) (b : List UInt8) (T : RS) (h1 : T.at_ = 98) (h2 : T.n = 512) : Jr (fmtS (blankTo S 512) 0 b) T [] := by
  refine ⟨LayP.nil_ _ _, fun i _ hi => ?_⟩
  unfold rdU
  have hlt : T.sec i < 610 ∧ 98 ≤ T.sec i := by
    unfold RS.sec
    rw [h1, h2]
    have := Nat.mod_lt (T.place + i) (show 512 > 0 by decide)
    omega
  rw [fmt_now hF hl b _ hlt.2 hlt.1]
  exact un_blank
theorem Jr.put {S : DS} {T : RS} {Ls : List (Nat × List UInt8)} (h : Jr S T Ls) (hF : Fine S) (hl : S.last.length = 610) (n : Nat) (b : List UInt8) (hT : 2 ≤ T.at_) : Jr (Tw.putS S 0 n b) T Ls := h.to (rd_put hF hl n b T hT) rfl rfl (Nat.le_refl _)
theorem Jr.app {S : DS} {T : RS} {Ls : List (Nat × List UInt8)} {l : List UInt8} (h : Jr S T Ls) (hF : Fine S) (hok : T.Ok S.last.length) (hfst : T.first ≤ 900000) (hl : l.length ≤ 32768) (hr : usedTo Ls Ls.length + need l.length ≤ T.n) (hls : leastTo Ls Ls.length ≤ T.life) (hfw : Ls.length < 4000) : Jr (apS S (T.got Ls Ls.length) l (need l.length)).flushed T (Ls ++ [(T.life, l)]) := by
  have h1 := LayP.app h.lay hF hok hfst hl hr hls hfw
  have h2 := Blank.app h.bl h.lay hF hok (T.life, l) rfl hr
  have hF2 : Fine (apS S (T.got Ls Ls.length) l (need l.length)) := aps_fine hF (got_ok hok h.done Ls.length (Nat.le_refl _)) _
  exact (Jr.mk h1 h2).to (fun i => rd_now (fun j => Rg.flushed_now hF2 j) i) rfl rfl (Nat.le_refl _)
def onS (S : DS) : DS := { S with off := false, arm := 0, picks := [] }
theorem Pu.crash {S : DS} {n : Nat} {r : Rt} {l : List UInt8} (h : Pu S n r l) (hF : Fine (onS (S.crashed []))) (hd : (S.crashed []).dead = false) : Pu (onS (S.crashed [])) n r l := by
  have hn : ∀ i, (onS (S.crashed [])).now i = S.now i := fun i => crash_now h.fine h.still i
  refine ⟨hF, ⟨hd, rfl, rfl⟩, ?_, fun i => crashed_wa h.fine [] i, rfl, ?_, h.rok, h.sz, h.sum, fun i hi => ?_⟩
  · have e : (S.crashed []).last.length = S.last.length := fell_len ..
    exact e.trans h.len
  · rw [bestTo_two, hn, hn, ← bestTo_two]
    exact h.tw
  · rw [hn]
    exact h.on i hi
theorem Jr.crash {S : DS} {T : RS} {Ls : List (Nat × List UInt8)} (h : Jr S T Ls) (hF : Fine S) (hw : ∀ i, S.wa i = []) : Jr (onS (S.crashed [])) T Ls := h.to (fun i => rd_now (fun j => crash_now hF hw j) i) rfl rfl (Nat.le_refl _)
end Se
end Go.Proofs.Ytpfackjnnkjjdaa
/- Package ring: Trim of many records: contract. -/
namespace Go.Proofs.Ytpfackjnnkjjdaa
open Go.ChangeShapes Go.WideShapes Go.ChangeAt Go.RowKit Go.Lib
set_option linter.unusedVariables false
set_option linter.unusedSimpArgs false
namespace Rg
open Crc Dk
/-- What the records take. -/
def RS.sums (L : List (List UInt8)) : Nat := (L.map fun l => need l.length).sum
/-- Without its first k records. -/
def RS.cutN : Nat → RS → RS
  | 0, T => T
  | k + 1, T => match T.recs with
    | [] => T
    | l :: L => RS.cutN k (T.cut l L)
structure Fit (T : RS) : Prop where
  n2 : 2 ≤ T.n
  nn : T.n ≤ 4096
  pl : T.place < T.n
  us : T.used ≤ 4096
  su : RS.sums T.recs ≤ T.used
  long : ∀ l ∈ T.recs, l.length ≤ 32768
theorem Fit.cut {T : RS} (h : Fit T) {l : List UInt8} {L : List (List UInt8)} (hL : T.recs = l :: L) : Fit (T.cut l L) := by
  have h1 := h.su
  rw [hL] at h1
  have h2 : RS.sums (l :: L) = need l.length + RS.sums L := by unfold RS.sums; simp
  refine ⟨h.n2, h.nn, Nat.mod_lt _ (show 0 < T.n by have := h.n2; omega), ?_, ?_, fun x hx => h.long x (by rw [hL]; exact List.mem_cons_of_mem _ hx)⟩
  · show T.used - _ ≤ 4096
    have := h.us
    omega
  · show RS.sums L ≤ T.used - need l.length
    omega
theorem cutN_succ {T : RS} {l : List UInt8} {L : List (List UInt8)} (hL : T.recs = l :: L) (k : Nat) : T.cutN (k + 1) = (T.cut l L).cutN k := by
  show (match T.recs with | [] => T | l :: L => RS.cutN k (T.cut l L)) = _
  rw [hL]
/-- In the midst of a Trim. -/
structure TrR (w : World) (Y X : Nat) (R : Nat → Prop) (T : RS) (k tt : Nat) (wr : World) : Prop where
  ex : ∃ (V : RS) (rv' : Value) (D' : List Value) (K : Nat), RgM wr Y X R V rv' D' ∧ Fit V ∧ V.first + K = tt ∧ K ≤ V.recs.length ∧ V.cutN K = T.cutN k ∧ Eff R w wr
section
variable {w : World} {Y X : Nat} {R : Nat → Prop} {T : RS} {rv : Value} {D : List Value}
set_option maxRecDepth 100000 in
set_option maxHeartbeats 2000000 in
/-- The first k records are forgotten. -/
theorem trim_many (h : RgM w Y X R T rv D) (hF : Fit T) (k tt : Nat) (hto : T.first + k = tt) (hk : k ≤ T.recs.length) (hf : T.next ≤ 999999) :
    Calls Try.prog 34 #[.pointer (some ⟨Y, 0, none⟩), .int .u64 (tt : Nat)] w fun e w' => e = .returned (.int .i64 0) ∧ (∃ rv' D', RgM w' Y X R (T.cutN k) rv' D') ∧ Eff R w w' := by
  have hneed := fun (l : List UInt8) (hl : l.length ≤ 32768) W => need_any l.length (by omega) W
  have hz1 : ¬ (tt : Int) < (T.first : Int) := by omega
  have hz2 : ¬ (T.next : Int) < (tt : Int) := by unfold RS.next; omega
  have htx : (tt : Int) ≤ 999999 := by unfold RS.next at hf; omega
  have hnxt := fun W (hW : RgM W Y X R T rv D) => next_any hW (by omega)
  have HT := Lib.hid hto
  have HK0 := Lib.hid hk
  clear hto hk hf
  have z4 := h.c4
  go_enter Try.func34, Try.ntmps34
  go_wp2_with (go_at_call 37; (with_reducible refine (hnxt _ h).mono ?_); rintro e w1 ⟨rfl, k1, rfl⟩)
  have h1 : RgM (w.drewN k1) Y X R T rv D := h.below (below_drewN (Below.refl _ _) _)
  have he1 : Eff R w (w.drewN k1) := Eff.of (below_drewN (Below.refl _ _) k1)
  generalize w.drewN k1 = wa at *
  go_loopw [5] (fun g wr => TrR w Y X R T k tt wr) (fun _ wr => tt - (intOf ((wr.cell? ⟨Y, 4, none⟩).getD (.int .u64 0))).toNat)
  case atStart => exact ⟨⟨T, rv, D, k, h1, hF, HT.out, HK0.out, rfl, he1⟩⟩
  case round =>
    obtain ⟨V, rv, D, K, hM, hFV, hVt, hVK, hVc, hE⟩ := hrel.ex
    clear hrel
    clear hnxt hz1 hz2 z4 h1 he1 h hF
    by_cases hK0 : K = 0
    · subst hK0
      have x4 := hM.c4
      have hlt : ¬ (V.first : Int) < (tt : Int) := by omega
      have HV := Lib.hid hVt
      have HVc := Lib.hid hVc
      clear hVt hVK hVc
      go_wp2
      go_ret
      refine ⟨rfl, ⟨rv, D, ?_⟩, hE⟩
      rw [← HVc.out]
      exact hM
    · obtain ⟨l, L, hL⟩ : ∃ l L, V.recs = l :: L := by
        cases hr : V.recs with
        | nil => rw [hr] at hVK; simp at hVK; omega
        | cons l L => exact ⟨l, L, rfl⟩
      have hll : l.length ≤ 32768 := hFV.long l (by rw [hL]; exact List.mem_cons_self)
      have hneed := hneed l hll
      have hnd := need_le l.length hll
      have hFc := hFV.cut hL
      have hlt : (V.first : Int) < (tt : Int) := by omega
      have hff : (V.first : Int) ≤ 999998 := by omega
      have hn2 := hFV.n2
      have hnn := hFV.nn
      have hpl := hFV.pl
      have hus := hFV.us
      have hu : need l.length ≤ V.used := by
        have h1 := hFV.su
        rw [hL] at h1
        have h2 : RS.sums (l :: L) = need l.length + RS.sums L := by unfold RS.sums; simp
        omega
      have hKL : K - 1 ≤ (V.cut l L).recs.length := by
        rw [hL] at hVK
        show K - 1 ≤ L.length
        simp at hVK
        omega
      have hCC : (V.cut l L).cutN (K - 1) = T.cutN k := by
        rw [← hVc, ← cutN_succ hL]
        congr 1
        omega
      have hcut : V.cut l L = { V with place := (V.place + need l.length) % V.n, used := V.used - need l.length, recs := L, first := V.first + 1 } := rfl
      have e2 : ((V.place : Int) + (need l.length : Nat)).tmod (V.n : Int) = (((V.place + need l.length) % V.n : Nat) : Int) := by rw [Int.tmod_eq_emod_of_nonneg (by omega), Int.natCast_emod, Int.natCast_add]
      have HF := Lib.hid hFc
      have HK := Lib.hid hKL
      have HCC := Lib.hid hCC
      clear hFc hKL hCC hVc hVK
      generalize (V.place + need l.length) % V.n = pm at *
      generalize need l.length = nd at *
      obtain ⟨ud, hud⟩ : ∃ ud, V.used - nd = ud := ⟨_, rfl⟩
      have e3 : (V.used : Int) - (nd : Int) = (ud : Int) := by omega
      rw [hud] at hcut
      have hndx : (nd : Int) ≤ 69 := by omega
      have hndu : (nd : Int) ≤ (V.used : Int) := by omega
      have husx : (V.used : Int) ≤ 4096 := by omega
      have hplx : (V.place : Int) ≤ 4096 := by omega
      have hn0 : ¬ (V.n : Int) = 0 := by omega
      have HL := Lib.hid hL
      have HC := Lib.hid hcut
      have HVt := Lib.hid hVt
      have h := hM
      clear hu hnd hn2 hnn hpl hus hll hcut hFV hVt
      have hL := HL.out
      have hr := hM.row
      rw [hL] at hr
      obtain ⟨gv, ov, cv, rfl, hc1, hc2, hRv, hgl, htg, hcell⟩ := hr.at_ (by simp)
      obtain ⟨u, D0, rfl⟩ : ∃ u D0, D = u :: D0 := by
        cases D with
        | nil => have := hr.1; simp at this
        | cons u D0 => exact ⟨u, D0, rfl⟩
      have y0 := hcell 0 u rfl
      rw [Nat.add_zero] at y0
      have hdu := hM.dat 0 u l rfl (by rw [hL]; rfl)
      obtain ⟨A, c, rfl, _, _⟩ := hdu.form
      have x2 := hM.c2
      have x4 := hM.c4
      have x5 := hM.c5
      have x6 := hM.c6
      have x7 := hM.c7
      go_wp2_with (go_at_call 56; (with_reducible refine (hneed _).mono ?_); rintro e w2 ⟨rfl, rfl⟩)
      apply calm_tail 12 [.is (.pointer (some ⟨Y, 0, none⟩)), .is (.pointer (some ⟨Y, 0, none⟩)), .is (.pointer (some ⟨Y, 0, none⟩)), .is (.pointer (some ⟨Y, 5, none⟩)), .is (.int .i64 (V.place : Nat)), .is (.int .i64 (nd : Nat)), .is (.int .i64 ((V.place : Int) + (nd : Int))), .is (.pointer (some ⟨Y, 0, none⟩)), .is (.pointer (some ⟨Y, 0, none⟩)), .is (.pointer (some ⟨Y, 2, none⟩)), .is (.int .i64 (V.n : Nat)), .is (.int .i64 (pm : Nat))] [[], [], [1], [2], [3], [], [4, 5], [], [7], [8], [9], [6, 10]] (by kernel_rfl) (by kernel_rfl) (by kernel_rfl) rfl
      intro f a1 ha1
      simp only [List.take_succ_cons, List.take_zero, putL, Act.put, List.setIfInBounds_toArray, List.set_cons_succ, List.set_cons_zero] at ha1
      subst ha1
      refine ⟨?_, ?_⟩
      · refine AllCalm.cons (fun W hB hd => ?_) ?_
        · go_wp2_with (fail)
          exact CalmQ.mk rfl _ rfl (Below.refl _ _) rfl
        refine AllCalm.cons (fun W hB hd => ?_) ?_
        · go_wp2_with (fail)
          exact CalmQ.mk rfl _ rfl (Below.refl _ _) rfl
        refine AllCalm.cons (fun W hB hd => ?_) ?_
        · obtain ⟨h1, -⟩ := hd
          have h1 : f 1 = _ := h1
          rw [h1]
          go_wp2_with (fail)
          exact CalmQ.mk rfl _ rfl (Below.refl _ _) rfl
        refine AllCalm.cons (fun W hB hd => ?_) ?_
        · obtain ⟨h2, -⟩ := hd
          have h2 : f 2 = _ := h2
          rw [h2]
          go_wp2_with (fail)
          exact CalmQ.mk rfl _ rfl (Below.refl _ _) rfl
        refine AllCalm.cons (fun W hB hd => ?_) ?_
        · obtain ⟨h3, -⟩ := hd
          have h3 : f 3 = _ := h3
          rw [h3]
          have y5 := (hM.below hB).c5
          go_wp2_with (fail)
          exact CalmQ.mk rfl _ rfl (Below.refl _ _) rfl
        refine AllCalm.cons (fun W hB hd => ?_) ?_
        · go_wp2_with (fail)
          exact CalmQ.mk rfl _ rfl (Below.refl _ _) rfl
        refine AllCalm.cons (fun W hB hd => ?_) ?_
        · obtain ⟨h4, h5, -⟩ := hd
          have h4 : f 4 = _ := h4
          have h5 : f 5 = _ := h5
          rw [h4, h5]
          go_wp2_with (fail)
          exact CalmQ.mk rfl _ rfl (Below.refl _ _) rfl
        refine AllCalm.cons (fun W hB hd => ?_) ?_
        · go_wp2_with (fail)
          exact CalmQ.mk rfl _ rfl (Below.refl _ _) rfl
        refine AllCalm.cons (fun W hB hd => ?_) ?_
        · obtain ⟨h7, -⟩ := hd
          have h7 : f 7 = _ := h7
          rw [h7]
          go_wp2_with (fail)
          exact CalmQ.mk rfl _ rfl (Below.refl _ _) rfl
        refine AllCalm.cons (fun W hB hd => ?_) ?_
        · obtain ⟨h8, -⟩ := hd
          have h8 : f 8 = _ := h8
          rw [h8]
          go_wp2_with (fail)
          exact CalmQ.mk rfl _ rfl (Below.refl _ _) rfl
        refine AllCalm.cons (fun W hB hd => ?_) ?_
        · obtain ⟨h9, -⟩ := hd
          have h9 : f 9 = _ := h9
          rw [h9]
          have y2 := (hM.below hB).c2
          go_wp2_with (fail)
          exact CalmQ.mk rfl _ rfl (Below.refl _ _) rfl
        refine AllCalm.cons (fun W hB hd => ?_) ?_
        · obtain ⟨h6, h10, -⟩ := hd
          have h6 : f 6 = _ := h6
          have h10 : f 10 = _ := h10
          rw [h6, h10]
          go_wp2_with (fail)
          exact CalmQ.mk rfl _ rfl (Below.refl _ _) rfl
        exact AllCalm.nil
      · intro W hB hT
        obtain ⟨h0, h1, h2, h3, h4, h5, h6, h7, h8, h9, h10, h11, -⟩ := hT
        have h0 : f 0 = _ := h0
        have h1 : f 1 = _ := h1
        have h2 : f 2 = _ := h2
        have h3 : f 3 = _ := h3
        have h4 : f 4 = _ := h4
        have h5 : f 5 = _ := h5
        have h6 : f 6 = _ := h6
        have h7 : f 7 = _ := h7
        have h8 : f 8 = _ := h8
        have h9 : f 9 = _ := h9
        have h10 : f 10 = _ := h10
        have h11 : f 11 = _ := h11
        rw [h0, h1, h2, h3, h4, h5, h6, h7, h8, h9, h10, h11]
        clear h0 h1 h2 h3 h4 h5 h6 h7 h8 h9 h10 h11
        simp only [List.drop_succ_cons, List.drop_zero]
        have k0 := hM.below hB
        have f5 := k0.mem.free 5
        have y5 := k0.c5
        have k5 := k0.setY 5 (.int .i64 (pm : Nat)) (T' := { V with place := pm }) rfl rfl
        have y7 : (W.setCell ⟨Y, 5, none⟩ (.int .i64 (pm : Nat))).cell? ⟨Y, 7, none⟩ = some (.int .i64 (V.used : Nat)) := k5.c7
        have f7 := k5.mem.free 7
        have k7 := k5.setY 7 (.int .i64 (ud : Nat)) (T' := { V with place := pm, used := ud }) rfl rfl
        have y6 : ((W.setCell ⟨Y, 5, none⟩ (.int .i64 (pm : Nat))).setCell ⟨Y, 7, none⟩ (.int .i64 (ud : Nat))).cell? ⟨Y, 6, none⟩ = some (.slice (some ⟨gv, ov, none⟩) (L.length + 1) cv) := k7.c6
        have f6 := k7.mem.free 6
        have k6 := fun (off' d : Nat) (hd : d + 1 = cv) (ho : off' = ov + 1 ∨ d = 0 ∧ off' = ov) => by
          have hrt := k7.row
          rw [show ({ V with place := pm, used := ud } : RS).recs = l :: L from hL] at hrt
          have hrt2 := hrt.tail (by simp) L.length d (by simp) hd off' ho
          refine k7.setV (.slice (some ⟨gv, off', none⟩) L.length d) (L := L) hrt2 fun j x m hx hm => ?_
          refine k7.dat (j + 1) x m hx ?_
          show V.recs[j + 1]? = _
          rw [hL]
          exact hm
        have e0 : Eff R w ((W.setCell ⟨Y, 5, none⟩ (.int .i64 (pm : Nat))).setCell ⟨Y, 7, none⟩ (.int .i64 (ud : Nat))) := effOX (effOX (hE.trans (Eff.of (S := R) hB) fun _ _ h => h) h.ry) h.ry
        have y4 : ∀ u, (((W.setCell ⟨Y, 5, none⟩ (.int .i64 (pm : Nat))).setCell ⟨Y, 7, none⟩ (.int .i64 (ud : Nat))).setCell ⟨Y, 6, none⟩ u).cell? ⟨Y, 4, none⟩ = some (.int .u64 (V.first : Nat)) := fun u => (k7.mem.put 6 u).cell 4
        have f4 : ∀ u, (((W.setCell ⟨Y, 5, none⟩ (.int .i64 (pm : Nat))).setCell ⟨Y, 7, none⟩ (.int .i64 (ud : Nat))).setCell ⟨Y, 6, none⟩ u).frozen? ⟨Y, 4, none⟩ = false := fun u => (k7.mem.put 6 u).free 4
        generalize hw7 : (W.setCell ⟨Y, 5, none⟩ (.int .i64 (pm : Nat))).setCell ⟨Y, 7, none⟩ (.int .i64 (ud : Nat)) = w7 at *
        have fin : ∀ off' d, d + 1 = cv → (off' = ov + 1 ∨ d = 0 ∧ off' = ov) → (RgM ((w7.setCell ⟨Y, 6, none⟩ (.slice (some ⟨gv, off', none⟩) L.length d)).setCell ⟨Y, 4, none⟩ (.int .u64 ((V.first : Int) + 1))) Y X R (V.cut l L) (.slice (some ⟨gv, off', none⟩) L.length d) D0 ∧ Eff R w ((w7.setCell ⟨Y, 6, none⟩ (.slice (some ⟨gv, off', none⟩) L.length d)).setCell ⟨Y, 4, none⟩ (.int .u64 ((V.first : Int) + 1)))) := by
          intro off' d hd ho
          refine ⟨(k6 off' d hd ho).setY 4 _ ?_ ?_, effOX (effOX e0 h.ry) h.ry⟩
          · rw [HC.out]; rfl
          · rw [HC.out]
        have mea : ∀ off' d, d + 1 = cv → (off' = ov + 1 ∨ d = 0 ∧ off' = ov) → tt - (intOf ((((w7.setCell ⟨Y, 6, none⟩ (.slice (some ⟨gv, off', none⟩) L.length d)).setCell ⟨Y, 4, none⟩ (.int .u64 ((V.first : Int) + 1))).cell? ⟨Y, 4, none⟩).getD (.int .u64 0))).toNat < tt - (intOf ((wr.cell? ⟨Y, 4, none⟩).getD (.int .u64 0))).toNat := by
          intro off' d hd ho
          have c4 : ((w7.setCell ⟨Y, 6, none⟩ (.slice (some ⟨gv, off', none⟩) L.length d)).setCell ⟨Y, 4, none⟩ (.int .u64 ((V.first : Int) + 1))).cell? ⟨Y, 4, none⟩ = some (.int .u64 ((V.cut l L).first : Nat)) := (fin off' d hd ho).1.c4
          rw [c4, x4]
          show tt - (((V.first + 1 : Nat) : Int)).toNat < tt - ((V.first : Nat) : Int).toNat
          omega
        by_cases hcv : cv = 1
        · subst hcv
          go_wp2
          exact ⟨⟨⟨V.cut l L, _, _, K - 1, (fin ov 0 rfl (.inr ⟨rfl, rfl⟩)).1, HF.out, by have := HVt.out; show V.first + 1 + (K - 1) = tt; omega, HK.out, HCC.out, (fin ov 0 rfl (.inr ⟨rfl, rfl⟩)).2⟩⟩, by show tt - ((V.first : Int) + 1).toNat < tt - ((V.first : Nat) : Int).toNat; omega⟩
        · obtain ⟨d, rfl⟩ : ∃ d, cv = d + 1 := ⟨cv - 1, by have : (l :: L).length = L.length + 1 := rfl; omega⟩
          have hd0 : ¬ d = 0 := by omega
          go_wp2
          exact ⟨⟨⟨V.cut l L, _, _, K - 1, (fin (ov + 1) d rfl (.inl rfl)).1, HF.out, by have := HVt.out; show V.first + 1 + (K - 1) = tt; omega, HK.out, HCC.out, (fin (ov + 1) d rfl (.inl rfl)).2⟩⟩, by show tt - ((V.first : Int) + 1).toNat < tt - ((V.first : Nat) : Int).toNat; omega⟩
end
end Rg
end Go.Proofs.Ytpfackjnnkjjdaa
/- Package store: writeSnapshot. Written by tools/gen-ses.py. -/
namespace Go.Proofs.Ytpfackjnnkjjdaa
open Go.ChangeShapes Go.WideShapes Go.ChangeAt Go.RowKit Go.Lib
set_option linter.unusedVariables false
set_option linter.unusedSimpArgs false
set_option maxRecDepth 100000
namespace Se
open Crc Dk Tw Rg
/-- The first k sectors of a snapshot, written from sector a on. -/
def snapW (S : DS) (a : Nat) (l : List UInt8) : Nat → DS
  | 0 => S
  | k + 1 => (snapW S a l k).wr (a + k) (chk l k)
/-- How many they are. -/
def snapN (l : List UInt8) : Nat := (l.length + 511) / 512
def snapS (S : DS) (a : Nat) (l : List UInt8) : DS := (snapW S a l (snapN l)).flushed
theorem snapW_len (S : DS) (a : Nat) (l : List UInt8) (k : Nat) : (snapW S a l k).last.length = S.last.length := by
  induction k with
  | zero => rfl
  | succ k ih => exact ih
theorem snapW_cnt (S : DS) (a : Nat) (l : List UInt8) (k : Nat) : (snapW S a l k).wtg = S.wtg + k ∧ (snapW S a l k).calls = S.calls + k := by
  induction k with
  | zero => exact ⟨rfl, rfl⟩
  | succ k ih =>
    refine ⟨?_, ?_⟩
    · show (snapW S a l k).wtg + 1 = _
      omega
    · show (snapW S a l k).calls + 1 = _
      omega
theorem snapW_up {S : DS} (h : S.up) (a : Nat) (l : List UInt8) (k : Nat) : (snapW S a l k).up := by
  induction k with
  | zero => exact h
  | succ k ih => exact ⟨ih.dead, ih.off, ih.arm⟩
theorem sliced_own {A : Option Addr} {a e c n m q : Nat} (h : (sliced A a e c 1).ownBlock = some q) : (Value.slice A n m).ownBlock = some q := by
  cases A with
  | none => unfold sliced at h; split at h <;> cases h
  | some p =>
    unfold sliced at h
    split at h
    · exact h
    · have e : (p.add (a * 1)).block = p.block := by unfold Addr.add; split <;> rfl
      have h2 : some (p.add (a * 1)).block = some q := h
      rw [e] at h2
      exact h2
section
variable {o w w' : World} {X Yt n Z Yr : Nat} {O O' G R R' : Nat → Prop} {S S' : DS} {r rz r' : Rt} {l d : List UInt8} {jp : Value} {T : RS}
set_option maxHeartbeats 4000000 in
theorem wsnap_any (h : Sto o w X O S Yt n Z r l Yr R T) (hu : S.up) (hl : S.last.length = 610) (hw : S.wtg ≤ 1000) (hc : S.calls ≤ 100000) (hr : r.Ok) (sd : Nat) (hsd : r.side + sd = 1) (vd : Value) (hv : Sl w w.heap.size vd d.length (bs d)) (hd : d.length ≤ 24576) (hvO : ∀ k, vd.ownBlock = some k → ¬ O k) : Calls Try.prog 33 #[.pointer (some ⟨Z, 0, none⟩), vd] w fun e w' => ∃ O', e = .returned (.tuple #[.agg #[.int .u64 (r.epoch : Nat), .int .u64 (r.base : Nat), .int .u64 (r.first : Nat), .int .i64 (r.place : Nat), .int .u32 (r.life : Nat), .int .i64 (sd : Nat), .int .i64 (d.length : Nat), .int .u32 (moreS 0 d : Nat)], .int .i64 0]) ∧ Dsk o w' X O' (snapS S (2 + sd * 48) d) ∧ Eff O w w' ∧ ∀ k, O' k → O k ∨ w.heap.size ≤ k := by
  obtain ⟨i0, hi, hz0, hz1, hz2⟩ := info_parts info_u8
  obtain ⟨A, c, rfl, hc1, hc2⟩ := hv.form
  obtain ⟨sv, hm, _⟩ := h.st.mem
  have hOlt := h.st.oLt
  have hnoZ := h.st.noZ
  have hdsk := h.st.dsk
  have hZl := hm.lt
  have z2 : ∀ o, (w.alloc o).cell? ⟨Z, 2, none⟩ = some (.int .u64 (r.epoch : Nat)) := fun o => (hm.below ((Below.refl _ w).alloc (Nat.le_refl _) o) hm.lt).cell 2
  have z3 : ∀ o, (w.alloc o).cell? ⟨Z, 3, none⟩ = some (.int .u64 (r.base : Nat)) := fun o => (hm.below ((Below.refl _ w).alloc (Nat.le_refl _) o) hm.lt).cell 3
  have z4 : ∀ o, (w.alloc o).cell? ⟨Z, 4, none⟩ = some (.int .u64 (r.first : Nat)) := fun o => (hm.below ((Below.refl _ w).alloc (Nat.le_refl _) o) hm.lt).cell 4
  have z5 : ∀ o, (w.alloc o).cell? ⟨Z, 5, none⟩ = some (.int .i64 (r.place : Nat)) := fun o => (hm.below ((Below.refl _ w).alloc (Nat.le_refl _) o) hm.lt).cell 5
  have z6 : ∀ o, (w.alloc o).cell? ⟨Z, 6, none⟩ = some (.int .u32 (r.life : Nat)) := fun o => (hm.below ((Below.refl _ w).alloc (Nat.le_refl _) o) hm.lt).cell 6
  have z7 : ∀ o, (w.alloc o).cell? ⟨Z, 7, none⟩ = some (.int .i64 (r.side : Nat)) := fun o => (hm.below ((Below.refl _ w).alloc (Nat.le_refl _) o) hm.lt).cell 7
  have z8 : ∀ o, (w.alloc o).cell? ⟨Z, 8, none⟩ = some (.int .i64 (r.size : Nat)) := fun o => (hm.below ((Below.refl _ w).alloc (Nat.le_refl _) o) hm.lt).cell 8
  have z9 : ∀ o, (w.alloc o).cell? ⟨Z, 9, none⟩ = some (.int .u32 (r.sum : Nat)) := fun o => (hm.below ((Below.refl _ w).alloc (Nat.le_refl _) o) hm.lt).cell 9
  obtain ⟨w1, e1, mr1, mb1, b1⟩ : ∃ w1, w1 = (w.alloc (.cells #[.int .u64 0, .int .u64 0, .int .u64 0, .int .i64 0, .int .u32 0, .int .i64 0, .int .i64 0, .int .u32 0] 57)).alloc (.cells #[.int .u64 (r.epoch : Nat), .int .u64 (r.base : Nat), .int .u64 (r.first : Nat), .int .i64 (r.place : Nat), .int .u32 (r.life : Nat), .int .i64 (r.side : Nat), .int .i64 (r.size : Nat), .int .u32 (r.sum : Nat)] 57) ∧ Mem w1 w.heap.size 57 #[.int .u64 0, .int .u64 0, .int .u64 0, .int .i64 0, .int .u32 0, .int .i64 0, .int .i64 0, .int .u32 0] ∧ Mem w1 (w.heap.size + 1) 57 #[.int .u64 (r.epoch : Nat), .int .u64 (r.base : Nat), .int .u64 (r.first : Nat), .int .i64 (r.place : Nat), .int .u32 (r.life : Nat), .int .i64 (r.side : Nat), .int .i64 (r.size : Nat), .int .u32 (r.sum : Nat)] ∧ Below w.heap.size w w1 := ⟨_, rfl, by
    have m0 := Mem.new w 57 #[.int .u64 0, .int .u64 0, .int .u64 0, .int .i64 0, .int .u32 0, .int .i64 0, .int .i64 0, .int .u32 0]
    exact m0.below ((Below.refl _ _).alloc (Nat.le_refl _) _) m0.lt, by
    have m1 := Mem.new (w.alloc (.cells #[.int .u64 0, .int .u64 0, .int .u64 0, .int .i64 0, .int .u32 0, .int .i64 0, .int .i64 0, .int .u32 0] 57)) 57 #[.int .u64 (r.epoch : Nat), .int .u64 (r.base : Nat), .int .u64 (r.first : Nat), .int .i64 (r.place : Nat), .int .u32 (r.life : Nat), .int .i64 (r.side : Nat), .int .i64 (r.size : Nat), .int .u32 (r.sum : Nat)]
    rw [World.size_alloc] at m1
    exact m1, ((Below.refl _ w).alloc (Nat.le_refl _) _).alloc (by rw [World.size_alloc]; omega) _⟩
  have hsdi : 1 - (r.side : Int) = (sd : Int) := by omega
  have hsx : (r.side : Int) ≤ 1 := by omega
  have hsx0 : (0 : Int) ≤ (r.side : Int) := by omega
  have hsdx : (sd : Int) ≤ 1 := by omega
  obtain ⟨w2, e2, mr2, mb2, b2⟩ : ∃ w2, w2 = w1.setCell ⟨w.heap.size + 1, 5, none⟩ (.int .i64 (sd : Nat)) ∧ Mem w2 w.heap.size 57 #[.int .u64 0, .int .u64 0, .int .u64 0, .int .i64 0, .int .u32 0, .int .i64 0, .int .i64 0, .int .u32 0] ∧ Mem w2 (w.heap.size + 1) 57 #[.int .u64 (r.epoch : Nat), .int .u64 (r.base : Nat), .int .u64 (r.first : Nat), .int .i64 (r.place : Nat), .int .u32 (r.life : Nat), .int .i64 (sd : Nat), .int .i64 (r.size : Nat), .int .u32 (r.sum : Nat)] ∧ Below w.heap.size w w2 := ⟨_, rfl, mr1.eff (Eff.setCell (S := fun k => k = w.heap.size + 1) (Eff.refl _ _) (p := ⟨w.heap.size + 1, 5, none⟩) rfl _) (fun e => by omega), mb1.put 5 _, (Eff.setCell (S := fun k => k = w.heap.size + 1) (Eff.refl _ w1) (p := ⟨w.heap.size + 1, 5, none⟩) rfl _).below b1 b1.size fun k _ hk => by omega⟩
  have csum := sum_any (.slice A d.length c) d w2 ((hv.now b2))
  have HSD := Lib.hid hsd
  have HC1 := Lib.hid hc1
  have HV := Lib.hid hv
  have HD := Lib.hid hd
  have hdx : (d.length : Int) ≤ 24576 := by omega
  have f15 := mb1.free 5
  have k15 := mb1.cell 5
  clear hsd hc1 hc2 hd
  go_enter Try.func33, Try.ntmps33
  go_upto_region 2 with (fail)
  rw [← e1]
  clear e1 z2 z3 z4 z5 z6 z7 z8 z9
  go_upto_region 3 with (fail)
  rw [← e2]
  clear e2 f15 k15
  go_upto_region 4 with (go_at_call 53; (with_reducible refine csum.mono ?_); rintro e' w3 ⟨rfl, b3⟩; have mb3 := mb2.below b3 mb2.lt; have f36 := mb3.free 6; have k36 := mb3.cell 6; have mb4 := mb3.put 6 (.int .i64 (d.length : Nat)); have f37 := mb4.free 7; have k37 := mb4.cell 7)
  have mr3 := mr2.below b3 mr2.lt
  have b3' := b2.trans (b3.mono b2.size)
  obtain ⟨w4, e4, mr4, mb4', b4⟩ : ∃ w4, w4 = (w3.setCell ⟨w.heap.size + 1, 6, none⟩ (.int .i64 (d.length : Nat))).setCell ⟨w.heap.size + 1, 7, none⟩ (.int .u32 (moreS 0 d : Nat)) ∧ Mem w4 w.heap.size 57 #[.int .u64 0, .int .u64 0, .int .u64 0, .int .i64 0, .int .u32 0, .int .i64 0, .int .i64 0, .int .u32 0] ∧ Mem w4 (w.heap.size + 1) 57 #[.int .u64 (r.epoch : Nat), .int .u64 (r.base : Nat), .int .u64 (r.first : Nat), .int .i64 (r.place : Nat), .int .u32 (r.life : Nat), .int .i64 (sd : Nat), .int .i64 (d.length : Nat), .int .u32 (moreS 0 d : Nat)] ∧ Below w.heap.size w w4 := ⟨_, rfl, mr3.eff (Eff.setCell (S := fun k => k = w.heap.size + 1) (Eff.setCell (S := fun k => k = w.heap.size + 1) (Eff.refl _ _) (p := ⟨w.heap.size + 1, 6, none⟩) rfl _) (p := ⟨w.heap.size + 1, 7, none⟩) rfl _) (fun e => by omega), mb4.put 7 _, (Eff.setCell (S := fun k => k = w.heap.size + 1) (Eff.setCell (S := fun k => k = w.heap.size + 1) (Eff.refl _ w3) (p := ⟨w.heap.size + 1, 6, none⟩) rfl _) (p := ⟨w.heap.size + 1, 7, none⟩) rfl _).below b3' b3'.size fun k _ hk => by omega⟩
  rw [← e4]
  clear e4 csum mb1 mb2 mb3 mb4 f36 k36 f37 k37 mr1 mr2 mr3 b1 b2 b3 b3'
  have k45 := mb4'.cell 5
  go_wp2
  have hsz4 : w.heap.size + 1 < w4.heap.size := mb4'.lt
  go_loopw [7, 8] (fun nn at_ wr => ∃ (k : Nat) (O' : Nat → Prop), nn = .int .i64 ((2 + sd * 48 + k : Nat) : Int) ∧ at_ = .int .i64 ((k * 512 : Nat) : Int) ∧ (k = 0 ∨ (k - 1) * 512 < d.length) ∧ Dsk o wr X O' (snapW S (2 + sd * 48) d k) ∧ Eff O w wr ∧ (∀ q, O' q → O q ∨ w4.heap.size ≤ q) ∧ Mem wr w.heap.size 57 #[.int .u64 0, .int .u64 0, .int .u64 0, .int .i64 0, .int .u32 0, .int .i64 0, .int .i64 0, .int .u32 0] ∧ Mem wr (w.heap.size + 1) 57 #[.int .u64 (r.epoch : Nat), .int .u64 (r.base : Nat), .int .u64 (r.first : Nat), .int .i64 (r.place : Nat), .int .u32 (r.life : Nat), .int .i64 (sd : Nat), .int .i64 (d.length : Nat), .int .u32 (moreS 0 d : Nat)] ∧ w4.heap.size ≤ wr.heap.size) (fun _ at_ _ => 40000 - (intOf at_).toNat)
  case atStart => exact ⟨0, O, by congr 1, rfl, .inl rfl, hdsk.below b4, Eff.of b4, fun k hk => .inl hk, mr4, mb4', Nat.le_refl _⟩
  case round =>
    obtain ⟨k, O', rfl, rfl, hk, hD, hE, hOO, mr, mb, hle⟩ := hrel
    have hmr := hm.eff hE fun hO => hnoZ hO
    have hno : ∀ q, q ≤ w.heap.size + 1 → w.heap.size ≤ q → ¬ O' q := fun q h4 h5 hO => (hOO q hO).elim (fun h => by have := hOlt q h; omega) fun h => by omega
    have hcnt := snapW_cnt S (2 + sd * 48) d k
    have hup := snapW_up hu (2 + sd * 48) d k
    by_cases hkl : k * 512 < d.length
    · have hkx : ((k * 512 : Nat) : Int) < (d.length : Int) := by omega
      obtain ⟨e, m, he1, he2, he3, he4⟩ : ∃ e m : Nat, min (((k * 512 : Nat) : Int) + 512) (d.length : Int) = (e : Int) ∧ k * 512 + m = e ∧ e ≤ d.length ∧ m = (chk d k).length := by
        rw [chk_len]
        by_cases hlt : d.length < k * 512 + 512
        · exact ⟨d.length, d.length - k * 512, by omega, by omega, by omega, by omega⟩
        · exact ⟨k * 512 + 512, 512, by omega, by omega, by omega, by omega⟩
      have hsl : ∀ W, (Instr.slice 34 (.slice A d.length c) (some (.int .i64 ((k * 512 : Nat) : Int))) (some (.int .i64 (e : Nat))) none).run Try.prog W = .ok (sliced A (k * 512) e c 1) W := by
        intro W
        have := HC1.out
        have h1 := run_slice_lh (P := Try.prog) (w := W) 34 A d.length c (by kernel_rfl) .i64 .i64 ((k * 512 : Nat) : Int) (e : Int) (by omega) (by omega) (by omega)
        rw [h1, show Try.prog.elem 34 = 5 by kernel_rfl, show (sizeOf 5).run Try.prog W = .ok 1 W by simp [sizeOf, typeInfo, hi, hz1]]
        simp only [Result.andThen]
        rw [show (((k * 512 : Nat) : Int)).toNat = k * 512 by omega, show ((e : Nat) : Int).toNat = e by omega]
      have hvr : Sl wr w.heap.size (.slice A d.length c) d.length (bs d) := sl_eff HV.out hE (Nat.le_refl _) fun q _ hq hO => hvO q hq hO
      have hpc := sl_piece hvr (k * 512) m (by omega)
      rw [he2] at hpc
      have hbc : ((bs d).drop (k * 512)).take m = bs (chk d k) := by
        have h1 : m = min 512 (d.length - k * 512) := by rw [he4, chk_len]
        have h2 : m = min 512 ((d.drop (k * 512)).length) := by rw [List.length_drop]; exact h1
        unfold bs chk
        rw [← List.map_drop, ← List.map_take, h2, ← List.take_eq_take_min]
      rw [hbc] at hpc
      have hown : ∀ q, (sliced A (k * 512) e c 1).ownBlock = some q → (Value.slice A d.length c).ownBlock = some q := fun q hq => sliced_own hq
      generalize sliced A (k * 512) e c 1 = sv' at *
      subst he4
      have hcl := chk_len d k
      have c1 : ∀ W, Below wr.heap.size wr W → Calls Try.prog 21 #[.pointer (some ⟨X, 0, none⟩), .int .i64 ((2 + sd * 48 + k : Nat) : Int), sv'] W fun e w' => ∃ O2, e = .returned (.int .i64 0) ∧ Dsk o w' X O2 (snapW S (2 + sd * 48) d (k + 1)) ∧ Eff O w w' ∧ (∀ q, O2 q → O q ∨ w4.heap.size ≤ q) ∧ Mem w' w.heap.size 57 #[.int .u64 0, .int .u64 0, .int .u64 0, .int .i64 0, .int .u32 0, .int .i64 0, .int .i64 0, .int .u32 0] ∧ Mem w' (w.heap.size + 1) 57 #[.int .u64 (r.epoch : Nat), .int .u64 (r.base : Nat), .int .u64 (r.first : Nat), .int .i64 (r.place : Nat), .int .u32 (r.life : Nat), .int .i64 (sd : Nat), .int .i64 (d.length : Nat), .int .u32 (moreS 0 d : Nat)] ∧ w4.heap.size ≤ w'.heap.size := by
        intro W hb
        have hdd := HD.out
        have hsdd := HSD.out
        have hes := hE.size
        have hbs := hb.size
        refine (d_write (hD.below hb) hup (2 + sd * 48 + k) (by rw [snapW_len, hl]; omega) (by omega) (by omega) sv' (chk d k) w.heap.size (Nat.le_trans hes hb.size) (hpc.below (hb.mono hes)) (by omega) ?_).mono ?_
        · intro q hq hk2 hO
          exact (hOO q hO).elim (hvO q (hown q hk2)) fun h => by omega
        · rintro e w' ⟨O2, rfl, h1, h2, h3⟩
          exact ⟨O2, rfl, h1, (hE.trans (Eff.of (S := O) hb) fun _ _ h => h).trans h2 fun i hi hO => (hOO i hO).elim id fun h => absurd hi (by omega), fun q hq => (h3 q hq).elim (hOO q) fun h => .inr (by omega), (mr.below hb mr.lt).eff h2 (hno _ (by omega) (by omega)), (mb.below hb mb.lt).eff h2 (hno _ (by omega) (by omega)), by have := h2.size; omega⟩
      have hnx : ((2 + sd * 48 + k : Nat) : Int) + 1 = ((2 + sd * 48 + (k + 1) : Nat) : Int) := by omega
      have hax : ((k * 512 : Nat) : Int) + 512 = (((k + 1) * 512 : Nat) : Int) := by omega
      have hmb : ((2 + sd * 48 + k : Nat) : Int) ≤ 200 := by have := HSD.out; have := HD.out; omega
      have hm0 : (0 : Int) ≤ ((2 + sd * 48 + k : Nat) : Int) := by omega
      have hk0 : (0 : Int) ≤ ((k * 512 : Nat) : Int) := by omega
      have HNX := Lib.hid hnx
      have HAX := Lib.hid hax
      have HKL := Lib.hid hkl
      obtain ⟨mm, hmm⟩ : ∃ mm, 2 + sd * 48 + k = mm := ⟨_, rfl⟩
      obtain ⟨kk, hkk⟩ : ∃ kk, k * 512 = kk := ⟨_, rfl⟩
      rw [hmm] at c1 HNX hmb hm0 ⊢
      rw [hkk] at hkx he1 hsl HAX hk0 ⊢
      clear hnx hax hkl hmm hkk hcl hown hpc hbc hvr he2 hk hD hE hOO mr mb hcnt hup hno b4 mr4 mb4' k45
      go_wp2
      apply calm_tail 13 [.is _, .is _, .is _, .is _, .is _, .is _, .is _, .is _, .is _, .is _, .is _, .is _, .is sv'] [[], [0], [1], [2], [], [], [], [], [7], [], [9], [8, 10], [5, 6, 11]] (by kernel_rfl) (by kernel_rfl) (by kernel_rfl) rfl
      intro f a1 ha1
      simp only [List.take_succ_cons, List.take_zero, putL, Act.put, List.setIfInBounds_toArray, List.set_cons_succ, List.set_cons_zero] at ha1
      subst ha1
      refine ⟨?_, ?_⟩
      · refine AllCalm.cons (fun W hB hd => ?_) ?_
        · go_wp2_with (fail)
          exact CalmQ.mk rfl _ rfl (Below.refl _ _) rfl
        refine AllCalm.cons (fun W hB hd => ?_) ?_
        · obtain ⟨h0, -⟩ := hd
          have h0 : f 0 = _ := h0
          rw [h0]
          go_wp2_with (fail)
          exact CalmQ.mk rfl _ rfl (Below.refl _ _) rfl
        refine AllCalm.cons (fun W hB hd => ?_) ?_
        · obtain ⟨h1, -⟩ := hd
          have h1 : f 1 = _ := h1
          rw [h1]
          go_wp2_with (fail)
          exact CalmQ.mk rfl _ rfl (Below.refl _ _) rfl
        refine AllCalm.cons (fun W hB hd => ?_) ?_
        · obtain ⟨h2, -⟩ := hd
          have h2 : f 2 = _ := h2
          rw [h2]
          have y0 : W.cell? ⟨Z, 0, none⟩ = some (.pointer (some ⟨X, 0, none⟩)) := (hmr.below hB hmr.lt).cell 0
          go_wp2_with (fail)
          exact CalmQ.mk rfl _ rfl (Below.refl _ _) rfl
        refine AllCalm.cons (fun W hB hd => ?_) ?_
        · go_wp2_with (fail)
          exact CalmQ.mk rfl _ rfl (Below.refl _ _) rfl
        refine AllCalm.cons (fun W hB hd => ?_) ?_
        · go_wp2_with (fail)
          exact CalmQ.mk rfl _ rfl (Below.refl _ _) rfl
        refine AllCalm.cons (fun W hB hd => ?_) ?_
        · go_wp2_with (fail)
          exact CalmQ.mk rfl _ rfl (Below.refl _ _) rfl
        refine AllCalm.cons (fun W hB hd => ?_) ?_
        · go_wp2_with (fail)
          exact CalmQ.mk rfl _ rfl (Below.refl _ _) rfl
        refine AllCalm.cons (fun W hB hd => ?_) ?_
        · obtain ⟨h7, -⟩ := hd
          have h7 : f 7 = _ := h7
          rw [h7]
          go_wp2_with (fail)
          exact CalmQ.mk rfl _ rfl (Below.refl _ _) rfl
        refine AllCalm.cons (fun W hB hd => ?_) ?_
        · go_wp2_with (fail)
          exact CalmQ.mk rfl _ rfl (Below.refl _ _) rfl
        refine AllCalm.cons (fun W hB hd => ?_) ?_
        · obtain ⟨h9, -⟩ := hd
          have h9 : f 9 = _ := h9
          rw [h9]
          go_wp2_with (fail)
          exact CalmQ.mk rfl _ rfl (Below.refl _ _) rfl
        refine AllCalm.cons (fun W hB hd => ?_) ?_
        · obtain ⟨h8, h10, -⟩ := hd
          have h8 : f 8 = _ := h8
          have h10 : f 10 = _ := h10
          rw [h8, h10]
          go_wp2_with (fail)
          exact CalmQ.mk rfl _ rfl (Below.refl _ _) rfl
        refine AllCalm.cons (fun W hB hd => ?_) ?_
        · obtain ⟨h5, h6, h11, -⟩ := hd
          have h5 : f 5 = _ := h5
          have h6 : f 6 = _ := h6
          have h11 : f 11 = _ := h11
          rw [h5, h6, h11]
          go_wp2_with (fail)
          exact CalmQ.mk rfl _ rfl (Below.refl _ _) rfl
        exact AllCalm.nil
      · intro W hB hT
        obtain ⟨h0, h1, h2, h3, h4, h5, h6, h7, h8, h9, h10, h11, h12, -⟩ := hT
        have h0 : f 0 = _ := h0
        have h1 : f 1 = _ := h1
        have h2 : f 2 = _ := h2
        have h3 : f 3 = _ := h3
        have h4 : f 4 = _ := h4
        have h5 : f 5 = _ := h5
        have h6 : f 6 = _ := h6
        have h7 : f 7 = _ := h7
        have h8 : f 8 = _ := h8
        have h9 : f 9 = _ := h9
        have h10 : f 10 = _ := h10
        have h11 : f 11 = _ := h11
        have h12 : f 12 = _ := h12
        rw [h0, h1, h2, h3, h4, h5, h6, h7, h8, h9, h10, h11, h12]
        clear h0 h1 h2 h3 h4 h5 h6 h7 h8 h9 h10 h11 h12
        simp only [List.drop_succ_cons, List.drop_zero]
        have c1W := c1 W hB
        go_wp2_with (go_at_call 21; (with_reducible refine c1W.mono ?_); rintro e w2 ⟨O2, rfl, hD2, hE2, hO2, hmr2, hmb2, hle2⟩)
        exact ⟨⟨k + 1, O2, by rw [HNX.out], by rw [HAX.out], .inr (by have := HKL.out; rw [Nat.add_sub_cancel]; exact this), hD2, hE2, hO2, hmr2, hmb2, hle2⟩, by have := HAX.out; simp only [intOf]; omega⟩
    · have hkn : k = snapN d := by unfold snapN; omega
      have hkx : ¬ ((k * 512 : Nat) : Int) < (d.length : Int) := by omega
      obtain ⟨kk, hkk⟩ : ∃ kk, k * 512 = kk := ⟨_, rfl⟩
      obtain ⟨mm, hmm⟩ : ∃ mm, 2 + sd * 48 + k = mm := ⟨_, rfl⟩
      have hkb : k ≤ 48 := by have := HD.out; omega
      rw [hkk] at hkx ⊢
      rw [hmm]
      have cf : ∀ W, Eff O' wr W → Below wr.heap.size wr W → Calls Try.prog 49 #[.pointer (some ⟨X, 0, none⟩)] W fun e w' => e = .returned (.int .i64 0) ∧ Dsk o w' X O' (snapS S (2 + sd * 48) d) ∧ Eff O' W w' := fun W _ hW => by
        have q := d_flush (hD.below hW) hup (by omega) (by omega)
        rw [hkn] at q
        exact q
      clear hkl hkn hkk hmm hkb hk hcnt hup b4 mr4 mb4' k45
      go_wp2
      apply CalmR.calm_tail (R := effR (fun k => O' k)) 6 [.is _, .is _, .is _, .is _, .is _, .frail (fun x W => x = .int .i64 0 ∧ Dsk o W X O' (snapS S (2 + sd * 48) d) ∧ Eff O' wr W) (fun x W W' hb hx => ⟨hx.1, hx.2.1.below hb, hx.2.2.trans (Eff.of (S := O') hb) fun _ _ h => h⟩)] [[], [], [1], [2], [3], [4]] (by kernel_rfl) (by kernel_rfl) (by kernel_rfl) rfl rfl
      intro f a1 ha1
      simp only [List.take_succ_cons, List.take_zero, putL, Act.put, List.setIfInBounds_toArray, List.set_cons_succ, List.set_cons_zero] at ha1
      subst ha1
      refine ⟨?_, ?_⟩
      · refine CalmR.AllCalm.cons (fun W hB hd => ?_) ?_
        · have hB : Eff (fun k => O' k) _ W := hB
          have kb := mb.eff hB (hno _ (by omega) (by omega)); have k0 := kb.cell 0; have k1 := kb.cell 1; have k2 := kb.cell 2; have k3 := kb.cell 3; have k4 := kb.cell 4; have k5 := kb.cell 5; have k6 := kb.cell 6; have k7 := kb.cell 7
          go_wp2_with (fail)
          exact CalmR.CalmQ.mk rfl _ rfl (Below.refl _ _) rfl
        refine CalmR.AllCalm.cons (fun W hB hd => ?_) ?_
        · have hB : Eff (fun k => O' k) _ W := hB
          go_wp2_with (fail)
          exact CalmR.CalmQ.mk rfl _ rfl (Below.refl _ _) rfl
        refine CalmR.AllCalm.cons (fun W hB hd => ?_) ?_
        · have hB : Eff (fun k => O' k) _ W := hB
          obtain ⟨h1, -⟩ := hd
          have h1 : f 1 = _ := h1
          rw [h1]
          go_wp2_with (fail)
          exact CalmR.CalmQ.mk rfl _ rfl (Below.refl _ _) rfl
        refine CalmR.AllCalm.cons (fun W hB hd => ?_) ?_
        · have hB : Eff (fun k => O' k) _ W := hB
          obtain ⟨h2, -⟩ := hd
          have h2 : f 2 = _ := h2
          rw [h2]
          go_wp2_with (fail)
          exact CalmR.CalmQ.mk rfl _ rfl (Below.refl _ _) rfl
        refine CalmR.AllCalm.cons (fun W hB hd => ?_) ?_
        · have hB : Eff (fun k => O' k) _ W := hB
          obtain ⟨h3, -⟩ := hd
          have h3 : f 3 = _ := h3
          rw [h3]
          have y0 : W.cell? ⟨Z, 0, none⟩ = some (.pointer (some ⟨X, 0, none⟩)) := (hm.eff (hE.trans hB fun i hi hO => (hOO i hO).elim id fun h => absurd hi (by omega)) fun hO => hnoZ hO).cell 0
          go_wp2_with (fail)
          exact CalmR.CalmQ.mk rfl _ rfl (Below.refl _ _) rfl
        refine CalmR.AllCalm.cons (fun W hB hd => ?_) ?_
        · have hB : Below _ _ W := hB
          obtain ⟨h4, -⟩ := hd
          have h4 : f 4 = _ := h4
          rw [h4]
          have cfW := cf W (Eff.of hB) hB
          go_wp2_with ((go_at_call 49; (with_reducible refine cfW.mono ?_); rintro e w3 ⟨rfl, s3, f3⟩))
          exact CalmR.CalmQ.mk rfl _ rfl f3 ⟨rfl, s3, (Eff.of (S := O') hB).trans f3 fun _ _ h => h⟩
        exact CalmR.AllCalm.nil
      · intro W hB hT
        have hB : Eff (fun k => O' k) _ W := hB
        obtain ⟨h0, h1, h2, h3, h4, h5, -⟩ := hT
        have h0 : f 0 = _ := h0
        have h1 : f 1 = _ := h1
        have h2 : f 2 = _ := h2
        have h3 : f 3 = _ := h3
        have h4 : f 4 = _ := h4
        rw [h0, h1, h2, h3, h4]
        clear h0 h1 h2 h3 h4
        simp only [List.drop_succ_cons, List.drop_zero]
        obtain ⟨e5, s5, e5'⟩ := h5
        rw [e5]
        have mrW := mr.eff e5' (hno _ (by omega) (by omega))
        go_wp2_with (refine wpList_store_row rfl 57 (.tmp 4) (.tmp 54) rfl w.heap.size #[.int .u64 (r.epoch : Nat), .int .u64 (r.base : Nat), .int .u64 (r.first : Nat), .int .i64 (r.place : Nat), .int .u32 (r.life : Nat), .int .i64 (sd : Nat), .int .i64 (d.length : Nat), .int .u32 (moreS 0 d : Nat)] rfl rfl 57 #[.int .u64 0, .int .u64 0, .int .u64 0, .int .i64 0, .int .u32 0, .int .i64 0, .int .i64 0, .int .u32 0] mrW (by kernel_rfl) (by kernel_rfl) (by kernel_rfl) ?_)
        have EF := eff_setRow W w.heap.size #[.int .u64 (r.epoch : Nat), .int .u64 (r.base : Nat), .int .u64 (r.first : Nat), .int .i64 (r.place : Nat), .int .u32 (r.life : Nat), .int .i64 (sd : Nat), .int .i64 (d.length : Nat), .int .u32 (moreS 0 d : Nat)]
        have eW : Eff O w W := hE.trans e5' fun i hi hO => (hOO i hO).elim id fun h => absurd hi (by omega)
        refine bodyPost_ret (v := .tuple #[.agg #[.int .u64 (r.epoch : Nat), .int .u64 (r.base : Nat), .int .u64 (r.first : Nat), .int .i64 (r.place : Nat), .int .u32 (r.life : Nat), .int .i64 (sd : Nat), .int .i64 (d.length : Nat), .int .u32 (moreS 0 d : Nat)], .int .i64 0]) ?_ rfl ⟨O', rfl, s5.effO EF (fun q _ hO e => hno q (by omega) (by omega) hO) (fun q _ e => by have := hdsk.bl.size; omega), eW.trans EF (fun i hi e => by omega), fun q hq => (hOO q hq).imp id fun h => by omega⟩
        exact (results_cell2 (p := 4) (a := 5) (ty := 57) rfl _ _ w.heap.size 57 _ (0, 0) _ rfl (mrW.row #[.int .u64 (r.epoch : Nat), .int .u64 (r.base : Nat), .int .u64 (r.first : Nat), .int .i64 (r.place : Nat), .int .u32 (r.life : Nat), .int .i64 (sd : Nat), .int .i64 (d.length : Nat), .int .u32 (moreS 0 d : Nat)]) Try.underlying57 rfl (by kernel_rfl)).trans rfl
end
end Se
end Go.Proofs.Ytpfackjnnkjjdaa
/- Package store: what a snapshot written, and a Compact, make of the disk (pure). -/
namespace Go.Proofs.Ytpfackjnnkjjdaa
open Go.ChangeShapes Go.WideShapes Go.ChangeAt Go.RowKit Go.Lib
set_option linter.unusedVariables false
set_option linter.unusedSimpArgs false
set_option maxRecDepth 100000
namespace Se
open Crc Dk Tw Rg
theorem snapN_le {d : List UInt8} (hd : d.length ≤ 24576) : snapN d ≤ 48 := by unfold snapN; omega
theorem snapW_fine {S : DS} (hF : Fine S) (hl : S.last.length = 610) (a : Nat) (ha : a ≤ 50) (d : List UInt8) : ∀ k, k ≤ 48 → Fine (snapW S a d k) := fun k => by
  induction k with
  | zero => exact fun _ => hF
  | succ k ih => exact fun hk => (ih (by omega)).wr (by rw [snapW_len]; omega) _
theorem snapW_now {S : DS} (hF : Fine S) (hl : S.last.length = 610) (a : Nat) (ha : a ≤ 50) (d : List UInt8) (i : Nat) : ∀ k, k ≤ 48 → (snapW S a d k).now i = if a ≤ i ∧ i < a + k then chk d (i - a) else S.now i := fun k => by
  induction k with
  | zero => intro _; rw [if_neg (by omega)]; rfl
  | succ k ih =>
    intro hk
    have e : snapW S a d (k + 1) = (snapW S a d k).wr (a + k) (chk d k) := rfl
    rw [e, Rg.now_wr (snapW_fine hF hl a ha d k (by omega)) (by rw [snapW_len]; omega), ih (by omega)]
    by_cases h : i = a + k
    · rw [if_pos h, if_pos (by omega), show i - a = k by omega]
    · rw [if_neg h]
      by_cases h2 : a ≤ i ∧ i < a + k
      · rw [if_pos h2, if_pos (by omega)]
      · rw [if_neg h2, if_neg (by omega)]
theorem snapS_now {S : DS} (hF : Fine S) (hl : S.last.length = 610) (a : Nat) (ha : a ≤ 50) {d : List UInt8} (hd : d.length ≤ 24576) (i : Nat) : (snapS S a d).now i = if a ≤ i ∧ i < a + snapN d then chk d (i - a) else S.now i := by
  unfold snapS
  rw [Rg.flushed_now (snapW_fine hF hl a ha d _ (snapN_le hd))]
  exact snapW_now hF hl a ha d i _ (snapN_le hd)
theorem snapS_len (S : DS) (a : Nat) (d : List UInt8) : (snapS S a d).last.length = S.last.length := by
  have e : (snapS S a d).last.length = (snapW S a d (snapN d)).last.length := flsh_len ..
  rw [e, snapW_len]
theorem rd_snap {S : DS} (hF : Fine S) (hl : S.last.length = 610) (a : Nat) (ha : a ≤ 50) {d : List UInt8} (hd : d.length ≤ 24576) (T : RS) (hT : 98 ≤ T.at_) (i : Nat) : rdU (snapS S a d) T i = rdU S T i := by
  unfold rdU
  rw [snapS_now hF hl a ha hd, if_neg (by have := snapN_le hd; unfold RS.sec; omega)]
theorem Pu.snap {S : DS} {n : Nat} {r : Rt} {l d : List UInt8} (h : Pu S n r l) {sd : Nat} (hsd : r.side + sd = 1) (hd : d.length ≤ 24576) : Pu (snapS S (2 + sd * 48) d) n r l ∧ SnapOn (snapS S (2 + sd * 48) d) sd d := by
  have hF := snapW_fine h.fine h.len (2 + sd * 48) (by omega) d _ (snapN_le hd)
  have hn := snapS_now h.fine h.len (2 + sd * 48) (by omega) hd
  have hN := snapN_le hd
  have hrs := h.rok.size
  refine ⟨⟨hF.flushed, fl_up (snapW_up h.up _ _ _), by rw [snapS_len]; exact h.len, fun i => flushed_wa hF i, fl_wtg _, ?_, h.rok, h.sz, h.sum, fun i hi => ?_⟩, fun i hi => ?_⟩
  · rw [bestTo_two, hn 0, hn (0 + 1), if_neg (by omega), if_neg (by omega), ← bestTo_two]
    exact h.tw
  · have := h.sz
    rw [hn, if_neg (by omega)]
    exact h.on i hi
  · rw [hn, if_pos (by unfold snapN; omega), show 2 + sd * 48 + i - (2 + sd * 48) = i by omega]
theorem Pu.base {S : DS} {n : Nat} {r r' : Rt} {l d : List UInt8} (h : Pu S n r l) (hn : n + 1 < 18446744073709551616) (hr : r'.Ok) (h2 : d.length = r'.size) (h3 : moreS 0 d = r'.sum) (h4 : SnapOn S r'.side d) : Pu (Tw.putS S 0 (n + 1) (rootB r')) (n + 1) r' d := by
  have hlt : 0 + (n + 1) % 2 < S.last.length := by have := h.len; omega
  have hF : Fine (Tw.putS S 0 (n + 1) (rootB r')) := (h.fine.wr hlt _).flushed
  exact ⟨hF, ⟨h.up.dead, h.up.off, h.up.arm⟩, by rw [putS_len]; exact h.len, fun i => flushed_wa (h.fine.wr hlt _) i, rfl, best_put h.fine (by have := h.len; omega) hn (by rw [rootB_len]; decide) h.tw, hr, h2, h3, fun i hi => by rw [put_now h.fine h.len _ _ _ (by omega)]; exact h4 i hi⟩
/-- The root that a Compact makes. -/
def cRoot (r : Rt) (sd : Nat) (d : List UInt8) (m f p : Nat) : Rt := { r with side := sd, size := d.length, sum := moreS 0 d, base := m, first := f, place := p }
/-- The disk behind a Compact. -/
def cS (S : DS) (n : Nat) (r : Rt) (sd : Nat) (d : List UInt8) (m f p : Nat) : DS := Tw.putS (snapS S (2 + sd * 48) d) 0 (n + 1) (rootB (cRoot r sd d m f p))
theorem cRoot_ok {r : Rt} (h : r.Ok) {sd : Nat} (hsd : r.side + sd = 1) {d : List UInt8} (hd : d.length ≤ 24576) {m f p : Nat} (hm : m ≤ 900000) (hf : f ≤ 900000) (hp : p < 512) : (cRoot r sd d m f p).Ok := ⟨h.epoch, by show m < _; omega, by show f < _; omega, hp, h.life, by show sd < 2; omega, by show d.length < _; omega, moreS_lt 0 d⟩
theorem Pu.comp {S : DS} {n : Nat} {r : Rt} {l d : List UInt8} (h : Pu S n r l) (hn : n ≤ 900000) {sd : Nat} (hsd : r.side + sd = 1) (hd : d.length ≤ 24576) {m f p : Nat} (hm : m ≤ 900000) (hf : f ≤ 900000) (hp : p < 512) : Pu (cS S n r sd d m f p) (n + 1) (cRoot r sd d m f p) d := (h.snap hsd hd).1.base (by omega) (cRoot_ok h.rok hsd hd hm hf hp) rfl rfl (h.snap hsd hd).2
theorem rd_comp {S : DS} {n : Nat} {r : Rt} {l d : List UInt8} (h : Pu S n r l) {sd : Nat} (hsd : r.side + sd = 1) (hd : d.length ≤ 24576) (m f p : Nat) (T : RS) (hT : T.at_ = 98) (i : Nat) : rdU (cS S n r sd d m f p) T i = rdU S T i := by
  have hp := (h.snap hsd hd).1
  have e : rdU (cS S n r sd d m f p) T i = rdU (snapS S (2 + sd * 48) d) T i := rd_put hp.fine hp.len _ _ T (by omega) i
  rw [e]
  exact rd_snap h.fine h.len _ (by omega) hd T (by omega) i
theorem cS_calls (S : DS) (n : Nat) (r : Rt) (sd : Nat) {d : List UInt8} (hd : d.length ≤ 24576) (m f p : Nat) : (cS S n r sd d m f p).calls ≤ S.calls + 51 := by
  have h1 := (snapW_cnt S (2 + sd * 48) d (snapN d)).2
  have h2 := snapN_le hd
  have e1 : (cS S n r sd d m f p).calls = (snapS S (2 + sd * 48) d).calls + 2 := rfl
  have e2 : (snapS S (2 + sd * 48) d).calls = (snapW S (2 + sd * 48) d (snapN d)).calls + 1 := rfl
  omega
end Se
namespace Rg
open Crc Dk
theorem sums_cons (l : List UInt8) (L : List (List UInt8)) : RS.sums (l :: L) = need l.length + RS.sums L := by unfold RS.sums; simp
theorem cutN_all (k : Nat) : ∀ (T : RS), k ≤ T.recs.length → (T.cutN k).first = T.first + k ∧ (T.cutN k).recs = T.recs.drop k ∧ (T.cutN k).at_ = T.at_ ∧ (T.cutN k).n = T.n ∧ (T.cutN k).life = T.life ∧ (T.place < T.n → (T.cutN k).place = (T.place + RS.sums (T.recs.take k)) % T.n) ∧ (T.cutN k).used = T.used - RS.sums (T.recs.take k) := by
  induction k with
  | zero =>
    intro T _
    have e : T.cutN 0 = T := rfl
    rw [e]
    refine ⟨rfl, by simp, rfl, rfl, rfl, fun hp => ?_, ?_⟩
    · rw [List.take_zero, show RS.sums [] = 0 from rfl, Nat.add_zero, Nat.mod_eq_of_lt hp]
    · rw [List.take_zero, show RS.sums [] = 0 from rfl, Nat.sub_zero]
  | succ k ih =>
    intro T hk
    obtain ⟨l, L, hL⟩ : ∃ l L, T.recs = l :: L := by
      cases hr : T.recs with
      | nil => rw [hr] at hk; simp at hk
      | cons l L => exact ⟨l, L, rfl⟩
    rw [hL] at hk
    obtain ⟨h1, h2, h3, h4, h5, h6, h7⟩ := ih (T.cut l L) (by show k ≤ L.length; simpa using hk)
    rw [cutN_succ hL]
    have e6 : RS.sums (T.recs.take (k + 1)) = need l.length + RS.sums (L.take k) := by rw [hL, List.take_succ_cons, sums_cons]
    refine ⟨h1.trans (by show T.first + 1 + k = _; omega), h2.trans (by rw [hL]; rfl), h3, h4, h5, fun hp => ?_, h7.trans ?_⟩
    · have hlt : (T.cut l L).place < (T.cut l L).n := Nat.mod_lt _ (show 0 < T.n by omega)
      rw [h6 hlt, e6]
      show ((T.place + need l.length) % T.n + RS.sums (L.take k)) % T.n = _
      rw [Nat.mod_add_mod, Nat.add_assoc]
    · show T.used - need l.length - RS.sums (L.take k) = _
      omega
end Rg
end Go.Proofs.Ytpfackjnnkjjdaa
/- Package store: Compact. Written by tools/gen-set.py. -/
namespace Go.Proofs.Ytpfackjnnkjjdaa
open Go.ChangeShapes Go.WideShapes Go.ChangeAt Go.RowKit Go.Lib
set_option linter.unusedVariables false
set_option linter.unusedSimpArgs false
set_option maxRecDepth 100000
namespace Se
open Crc Dk Tw Rg
section
variable {o w w' : World} {X Yt n Z Yr : Nat} {O O' G R R' : Nat → Prop} {S S' : DS} {r rz r' : Rt} {l d : List UInt8} {jp : Value} {T : RS}
/-- The store over a disk that goes on, its journal as it was. -/
theorem Sto.dsk' (h : Sto o w X O S Yt n Z r l Yr R T) (hd : Dsk o w' X O' S') (he : Eff O w w') (hO : ∀ k, O' k → O k ∨ w.heap.size ≤ k) (hl : S'.last.length = S.last.length) : Sto o w' X O' S' Yt n Z r l Yr R T := by
  obtain ⟨rv, D, hM⟩ := h.rg
  have hM' := hM.eff he fun k _ hR hk => h.st.gO k hR hk
  exact ⟨h.st.ring (he.mono fun k _ hk => .inl hk) hd (fun k hk => hk.elim (fun hk => (hO k hk).imp id .inr) fun hk => .inr (.inl hk)) (fun k hR hk => (hO k hk).elim (h.st.gO k hR) fun h2 => by have := h.st.glt k hR; omega) hM'.lt, ⟨rv, D, hM'⟩, hl ▸ h.ok, h.rfrom⟩
/-- .. and with a journal that goes on. -/
theorem Sto.rg' {T' : RS} (h : Sto o w X O S Yt n Z r l Yr R T) (hg : ∃ rv D, RgM w' Yr X R T' rv D) (he : Eff R w w') (hk : T'.Ok S.last.length) : Sto o w' X O S Yt n Z r l Yr R T' := by
  obtain ⟨rv, D, hM⟩ := hg
  have hd := h.st.dsk.effO he (fun k _ hO hR => h.st.gO k hR hO) (fun k _ hR => h.rfrom k hR)
  exact ⟨h.st.ring (he.mono fun k _ hk => .inr hk) hd (fun k hk => hk.elim .inl fun hk => .inr (.inl hk)) h.st.gO hM.lt, ⟨rv, D, hM⟩, hk, h.rfrom⟩
/-- A block of a root turns that is none of the store's. -/
theorem Sto.box {g : Nat} (h : Sto o w X O S Yt n Z r l Yr R T) (ht : Tag w g 57) (hO : ¬ O g) (hR : ¬ R g) (hog : o.heap.size ≤ g) (he : Eff (fun q => q = g) w w') : Sto o w' X O S Yt n Z r l Yr R T := by
  obtain ⟨⟨h1, ⟨v, h2, h2'⟩, ⟨sv, h3, h4, h5⟩, h6, h7, h8, h9, h10, h11⟩, ⟨rv, D, hM⟩, hk, hf⟩ := h
  exact ⟨⟨h1.effO he (fun q _ hq e => hO (e ▸ hq)) (fun q _ e => e ▸ hog), ⟨v, ⟨h2.mem.eff he fun e => (mem_tag h2.mem).ne ht (by decide) e, owns_eff h2.row he fun k hk e => (own_tag h2.row k hk).2.2.ne ht (by decide) e, h2.from_, h2.noY, h2.noV, h2.fit, h2.few⟩, h2'⟩, ⟨sv, h3.eff he fun e => (mem_tag h3).ne ht (by decide) e, owns_eff h4 he fun k hk e => (own_tag h4 k hk).2.2.ne ht (by decide) e, h5⟩, h6, h7, h8, h9, h10, fun k hk => Nat.lt_of_lt_of_le (h11 k hk) he.size⟩, ⟨rv, D, hM.eff he fun k _ hk e => hR (e ▸ hk)⟩, hk, hf⟩
set_option maxHeartbeats 4000000 in
theorem compact_any (h : Sto o w X O S Yt n Z r l Yr R T) (hP : Pu S n r l) (hF : Fit T) (hc : S.calls ≤ 90000) (hn : n ≤ 900000) (hf : T.first = r.first) (hnx : T.next ≤ 800000) (hb : r.base ≤ 800000) (k m : Nat) (hk : k ≤ T.recs.length) (hm : r.base + k = m) (tf tp : Nat) (htf : (T.cutN k).first = tf) (htp : (T.cutN k).place = tp) (hok : (T.cutN k).Ok S.last.length) (hp5 : tp < 512) (sd : Nat) (hsd : r.side + sd = 1) (vd : Value) (hv : Sl w w.heap.size vd d.length (bs d)) (hd : d.length ≤ 24576) (hvO : ∀ q, vd.ownBlock = some q → q < w.heap.size ∧ ¬ (O q ∨ R q ∨ q = Yt ∨ q = Z)) : Calls Try.prog 12 #[.pointer (some ⟨Z, 0, none⟩), .int .u64 (m : Nat), vd] w fun e w' => ∃ O', e = .returned (.int .i64 0) ∧ Sto o w' X O' (cS S n r sd d m tf tp) Yt (n + 1) Z (cRoot r sd d m tf tp) d Yr R (T.cutN k) := by
  obtain ⟨A, c, rfl, hc1, hc2⟩ := hv.form
  have hnext : T.next = T.first + T.recs.length := rfl
  have hS0 := h
  obtain ⟨tt, htt⟩ : ∃ tt, T.first + k = tt := ⟨_, rfl⟩
  obtain ⟨q, hq⟩ : ∃ q, r.base + T.recs.length = q := ⟨_, rfl⟩
  have cl := fun W (hW : Below w.heap.size w W) => last_any (h.below hW) hf hnx hb
  rw [hq] at cl
  have hPs := (hP.snap hsd hd).1
  have hrO := cRoot_ok hP.rok hsd hd (m := m) (f := tf) (p := tp) (by have := h.ok.few; omega) (by have := hok.fs; rw [htf] at this; have := (cutN_all k T hk).1; rw [htf] at this; omega) hp5
  have hcs := (snapW_cnt S (2 + sd * 48) d (snapN d)).2
  have hsn := snapN_le hd
  have hscalls : (snapS S (2 + sd * 48) d).calls ≤ 100000 := by
    have e2 : (snapS S (2 + sd * 48) d).calls = (snapW S (2 + sd * 48) d (snapN d)).calls + 1 := rfl
    omega
  have cs := fun W (hW : Below w.heap.size w W) => wsnap_any (h.below hW) hP.up hP.len (by rw [hP.wtg]; decide) (by omega) hP.rok sd hsd (.slice A d.length c) (hv.now hW) hd fun q hq hO => (hvO q hq).2 (.inl hO)
  have ct : ∀ W rv D, RgM W Yr X R T rv D → Calls Try.prog 34 #[.pointer (some ⟨Yr, 0, none⟩), .int .u64 (tt : Nat)] W fun e w' => e = .returned (.int .i64 0) ∧ (∃ rv' D', RgM w' Yr X R (T.cutN k) rv' D') ∧ Eff R W w' := fun W rv D hM => trim_many hM hF k tt htt hk (by omega)
  have cf : ∀ W rv D, RgM W Yr X R (T.cutN k) rv D → Calls Try.prog 35 #[.pointer (some ⟨Yr, 0, none⟩)] W fun e w' => e = .returned (.tuple #[.int .u64 (tf : Nat), .int .i64 (tp : Nat)]) ∧ ∃ k, w' = W.drewN k := fun W rv D hM => by
    have q := first_any hM
    rw [htf, htp] at q
    exact q
  have cr : ∀ W O', Sto o W X O' (snapS S (2 + sd * 48) d) Yt n Z r l Yr R (T.cutN k) → Eff (fun q => O q ∨ R q) w W → (∀ q, O' q → O q ∨ w.heap.size ≤ q) → Calls Try.prog 36 #[.pointer (some ⟨Z, 0, none⟩), .agg #[.int .u64 (r.epoch : Nat), .int .u64 (m : Nat), .int .u64 (tf : Nat), .int .i64 (tp : Nat), .int .u32 (r.life : Nat), .int .i64 (sd : Nat), .int .i64 (d.length : Nat), .int .u32 (moreS 0 d : Nat)], .slice A d.length c] W fun e w' => ∃ O', e = .returned (.int .i64 0) ∧ Sto o w' X O' (cS S n r sd d m tf tp) Yt (n + 1) Z (cRoot r sd d m tf tp) d Yr R (T.cutN k) := fun W O' hW hE hO => rebase_any (r' := cRoot r sd d m tf tp) hW hPs.up hPs.len (by rw [hPs.wtg]; decide) (by omega) (by omega) hrO (.slice A d.length c) ((sl_eff hv hE (Nat.le_refl _) fun q _ hq hS => (hvO q hq).2 (hS.elim .inl fun h => .inr (.inl h))).more hE.size) (by omega) fun q hq hS => by
    have h1 := hvO q hq
    rcases hS with h2 | h2 | h2
    · exact (hO q h2).elim (fun h3 => h1.2 (.inl h3)) fun h3 => by omega
    · exact h1.2 (.inr (.inr (.inl h2)))
    · exact h1.2 (.inr (.inr (.inr h2)))
  have hw1 : IntKind.u64.wrap ((r.first : Int) + (m : Int)) = ((r.first + m : Nat) : Int) := by show ((r.first : Int) + (m : Int)) % 18446744073709551616 = _; omega
  have hw2 : IntKind.u64.wrap (((r.first + m : Nat) : Int) - (r.base : Int)) = (tt : Int) := by show (((r.first + m : Nat) : Int) - (r.base : Int)) % 18446744073709551616 = _; omega
  have hx1 : ¬ (m : Int) < (r.base : Int) := by omega
  have hx2 : ¬ (q : Int) < (m : Int) := by omega
  have hdx : (d.length : Int) ≤ 24576 := by omega
  have hlen := snapS_len S (2 + sd * 48) d
  have hok' : (T.cutN k).Ok (snapS S (2 + sd * 48) d).last.length := by rw [hlen]; exact hok
  generalize r.first + m = u at *
  have HW1 := Lib.hid hw1
  clear hf hnx hb hk hm htf htp htt hq hnext hc hn hcs hsn hscalls hPs hrO hok hp5 hc1 hc2 hsd hd hF hP hv
  obtain ⟨sv, hm0, _⟩ := h.st.mem
  have z3 : w.cell? ⟨Z, 3, none⟩ = some (.int .u64 (r.base : Nat)) := hm0.cell 3
  have cl0 := cl w (Below.refl _ _)
  go_enter Try.func12, Try.ntmps12
  go_upto_region 5 with (go_at_call 14; (with_reducible refine cl0.mono ?_); rintro e' w1 ⟨rfl, b1⟩)
  have cs1 := cs w1 b1
  have s1 := h.below b1
  go_upto_region 6 with (go_at_call 33; (with_reducible refine cs1.mono ?_); rintro e' w2 ⟨O2, rfl, d2, E2, hO2⟩)
  have s2 := s1.dsk' d2 E2 hO2 hlen
  obtain ⟨w3, e3, mb3, b3⟩ : ∃ w3, w3 = w2.alloc (.cells #[.int .u64 (r.epoch : Nat), .int .u64 (r.base : Nat), .int .u64 (r.first : Nat), .int .i64 (r.place : Nat), .int .u32 (r.life : Nat), .int .i64 (sd : Nat), .int .i64 (d.length : Nat), .int .u32 (moreS 0 d : Nat)] 57) ∧ Mem w3 w2.heap.size 57 #[.int .u64 (r.epoch : Nat), .int .u64 (r.base : Nat), .int .u64 (r.first : Nat), .int .i64 (r.place : Nat), .int .u32 (r.life : Nat), .int .i64 (sd : Nat), .int .i64 (d.length : Nat), .int .u32 (moreS 0 d : Nat)] ∧ Below w2.heap.size w2 w3 := ⟨_, rfl, Mem.new w2 _ _, (Below.refl _ w2).alloc (Nat.le_refl _) _⟩
  rw [← e3]
  clear e3
  have s3 := s2.below b3
  have E3 : Eff O w w3 := ((Eff.of (S := O) b1).trans E2 fun _ _ h => h).trans (Eff.of (S := O) b3) fun _ _ h => h
  obtain ⟨sv3, hm3, _⟩ := s3.st.mem
  obtain ⟨rv3, D3, hM3⟩ := s3.rg
  have hRlt : ∀ q, R q → q < w2.heap.size := s2.st.glt
  have hw1 := HW1.out
  clear cl cl0 cs cs1 z3 hdx hx1 hx2
  go_wp2
  apply calm_tail 11 [.is _, .is _, .is _, .is _, .is _, .is _, .is _, .is _, .is _, .is _, .is _] [[], [0], [1], [2], [], [4], [], [5, 6], [], [8], [7, 9]] (by kernel_rfl) (by kernel_rfl) (by kernel_rfl) rfl
  intro f a1 ha1
  simp only [List.take_succ_cons, List.take_zero, putL, Act.put, List.setIfInBounds_toArray, List.set_cons_succ, List.set_cons_zero] at ha1
  subst ha1
  refine ⟨?_, ?_⟩
  · refine AllCalm.cons (fun W hB hd => ?_) ?_
    · go_wp2_with (fail)
      exact CalmQ.mk rfl _ rfl (Below.refl _ _) rfl
    refine AllCalm.cons (fun W hB hd => ?_) ?_
    · obtain ⟨h0, -⟩ := hd
      have h0 : f 0 = _ := h0
      rw [h0]
      go_wp2_with (fail)
      exact CalmQ.mk rfl _ rfl (Below.refl _ _) rfl
    refine AllCalm.cons (fun W hB hd => ?_) ?_
    · obtain ⟨h1, -⟩ := hd
      have h1 : f 1 = _ := h1
      rw [h1]
      go_wp2_with (fail)
      exact CalmQ.mk rfl _ rfl (Below.refl _ _) rfl
    refine AllCalm.cons (fun W hB hd => ?_) ?_
    · obtain ⟨h2, -⟩ := hd
      have h2 : f 2 = _ := h2
      rw [h2]
      have k0 : W.cell? ⟨Z, 11, none⟩ = some (.pointer (some ⟨Yr, 0, none⟩)) := (hm3.below hB hm3.lt).cell 11
      go_wp2_with (fail)
      exact CalmQ.mk rfl _ rfl (Below.refl _ _) rfl
    refine AllCalm.cons (fun W hB hd => ?_) ?_
    · go_wp2_with (fail)
      exact CalmQ.mk rfl _ rfl (Below.refl _ _) rfl
    refine AllCalm.cons (fun W hB hd => ?_) ?_
    · obtain ⟨h4, -⟩ := hd
      have h4 : f 4 = _ := h4
      rw [h4]
      have k0 := (mb3.below hB mb3.lt).cell 2
      go_wp2_with (fail)
      exact CalmQ.mk rfl _ rfl (Below.refl _ _) rfl
    refine AllCalm.cons (fun W hB hd => ?_) ?_
    · go_wp2_with (fail)
      exact CalmQ.mk rfl _ rfl (Below.refl _ _) rfl
    refine AllCalm.cons (fun W hB hd => ?_) ?_
    · obtain ⟨h5, h6, -⟩ := hd
      have h5 : f 5 = _ := h5
      have h6 : f 6 = _ := h6
      rw [h5, h6]
      go_wp2_with (fail)
      exact CalmQ.mk rfl _ rfl (Below.refl _ _) rfl
    refine AllCalm.cons (fun W hB hd => ?_) ?_
    · go_wp2_with (fail)
      exact CalmQ.mk rfl _ rfl (Below.refl _ _) rfl
    refine AllCalm.cons (fun W hB hd => ?_) ?_
    · obtain ⟨h8, -⟩ := hd
      have h8 : f 8 = _ := h8
      rw [h8]
      have k0 := (mb3.below hB mb3.lt).cell 1
      go_wp2_with (fail)
      exact CalmQ.mk rfl _ rfl (Below.refl _ _) rfl
    refine AllCalm.cons (fun W hB hd => ?_) ?_
    · obtain ⟨h7, h9, -⟩ := hd
      have h7 : f 7 = _ := h7
      have h9 : f 9 = _ := h9
      rw [h7, h9]
      go_wp2_with (fail)
      exact CalmQ.mk rfl _ rfl (Below.refl _ _) rfl
    exact AllCalm.nil
  · intro W hB hT
    obtain ⟨h0, h1, h2, h3, h4, h5, h6, h7, h8, h9, h10, -⟩ := hT
    have h0 : f 0 = _ := h0
    have h1 : f 1 = _ := h1
    have h2 : f 2 = _ := h2
    have h3 : f 3 = _ := h3
    have h4 : f 4 = _ := h4
    have h5 : f 5 = _ := h5
    have h6 : f 6 = _ := h6
    have h7 : f 7 = _ := h7
    have h8 : f 8 = _ := h8
    have h9 : f 9 = _ := h9
    have h10 : f 10 = _ := h10
    rw [h0, h1, h2, h3, h4, h5, h6, h7, h8, h9, h10]
    clear h0 h1 h2 h3 h4 h5 h6 h7 h8 h9 h10
    simp only [List.drop_succ_cons, List.drop_zero]
    have ctW := ct W _ _ (hM3.below hB)
    have mbW := mb3.below hB mb3.lt
    have sW := s3.below hB
    have EW : Eff O w W := E3.trans (Eff.of (S := O) hB) fun _ _ h => h
    clear hw1 hw2 hB
    go_upto_region 11 with (go_at_call 34; (with_reducible refine ctW.mono ?_); rintro e' w4 ⟨rfl, M4, E4⟩)
    have s4 := sW.rg' M4 E4 hok'
    have mb4 := mbW.eff E4 fun hR => by have := hRlt _ hR; omega
    have E5 : Eff (fun q => O q ∨ R q) w w4 := (EW.mono fun _ _ h => .inl h).trans E4 fun _ _ h => .inr h
    have k41 := mb4.cell 1
    have f41 := mb4.free 1
    have hsz4 := E4.size
    have hsz2 : w.heap.size ≤ w2.heap.size := Nat.le_trans b1.size E2.size
    obtain ⟨w5, e5, mb5, b5⟩ : ∃ w5, w5 = w4.setCell ⟨w2.heap.size, 1, none⟩ (.int .u64 (m : Nat)) ∧ Mem w5 w2.heap.size 57 #[.int .u64 (r.epoch : Nat), .int .u64 (m : Nat), .int .u64 (r.first : Nat), .int .i64 (r.place : Nat), .int .u32 (r.life : Nat), .int .i64 (sd : Nat), .int .i64 (d.length : Nat), .int .u32 (moreS 0 d : Nat)] ∧ Eff (fun q => q = w2.heap.size) w4 w5 := ⟨_, rfl, mb4.put 1 _, Eff.setCell (S := fun q => q = w2.heap.size) (Eff.refl _ _) (p := ⟨w2.heap.size, 1, none⟩) rfl _⟩
    go_upto_region 12 with (fail)
    rw [← e5]
    clear e5 k41 f41
    have hO2lt : ∀ q, O2 q → q < w2.heap.size := s2.st.oLt
    have hog : o.heap.size ≤ w2.heap.size := s2.st.dsk.bl.size
    have s5 := s4.box (mem_tag mb4) (fun hO => by have := hO2lt _ hO; omega) (fun hR => by have := hRlt _ hR; omega) hog b5
    obtain ⟨sv5, hm5, _⟩ := s5.st.mem
    obtain ⟨rv5, D5, hM5⟩ := s5.rg
    have k0 : w5.cell? ⟨Z, 11, none⟩ = some (.pointer (some ⟨Yr, 0, none⟩)) := hm5.cell 11
    have cf5 := cf w5 _ _ hM5
    go_upto_region 13 with (go_at_call 35; (with_reducible refine cf5.mono ?_); rintro e' w6 ⟨rfl, k6, rfl⟩; have b6 := below_drewN (Below.refl w5.heap.size w5) k6; have mb6 := mb5.below b6 mb5.lt; have f62 := mb6.free 2; have k62 := mb6.cell 2; have mb7 := mb6.put 2 (.int .u64 (tf : Nat)); have f73 := mb7.free 3; have k73 := mb7.cell 3)
    have s6 := s5.below b6
    obtain ⟨w7, e7, mb8, b8⟩ : ∃ w7, w7 = ((w5.drewN k6).setCell ⟨w2.heap.size, 2, none⟩ (.int .u64 (tf : Nat))).setCell ⟨w2.heap.size, 3, none⟩ (.int .i64 (tp : Nat)) ∧ Mem w7 w2.heap.size 57 #[.int .u64 (r.epoch : Nat), .int .u64 (m : Nat), .int .u64 (tf : Nat), .int .i64 (tp : Nat), .int .u32 (r.life : Nat), .int .i64 (sd : Nat), .int .i64 (d.length : Nat), .int .u32 (moreS 0 d : Nat)] ∧ Eff (fun q => q = w2.heap.size) (w5.drewN k6) w7 := ⟨_, rfl, mb7.put 3 _, Eff.setCell (S := fun q => q = w2.heap.size) (Eff.setCell (S := fun q => q = w2.heap.size) (Eff.refl _ _) (p := ⟨w2.heap.size, 2, none⟩) rfl _) (p := ⟨w2.heap.size, 3, none⟩) rfl _⟩
    rw [← e7]
    clear e7
    have s7 := s6.box (mem_tag mb6) (fun hO => by have := hO2lt _ hO; omega) (fun hR => by have := hRlt _ hR; omega) hog b8
    have E7 : Eff (fun q => O q ∨ R q) w w7 := ((E5.trans b5 fun i hi e => by omega).trans (Eff.of (S := fun _ => False) b6) fun _ _ h => h.elim).trans b8 fun i hi e => by omega
    have hO27 : ∀ q, O2 q → O q ∨ w.heap.size ≤ q := fun q hq => (hO2 q hq).imp id fun h => Nat.le_trans b1.size h
    have cr7 := cr w7 O2 s7 E7 hO27
    clear cr cf cf5 ct ctW s1 s2 s3 s4 s5 s6 sW f62 k62 f73 k73 k0 mb3 mb4 mb5 mb6 mb7 mbW
    go_wp2_with (first
      | (refine wpList_load_row rfl 57 (.tmp 7) rfl w2.heap.size rfl 57 #[.int .u64 (r.epoch : Nat), .int .u64 (m : Nat), .int .u64 (tf : Nat), .int .i64 (tp : Nat), .int .u32 (r.life : Nat), .int .i64 (sd : Nat), .int .i64 (d.length : Nat), .int .u32 (moreS 0 d : Nat)] (0, 0) _ mb8 Try.underlying57 rfl (by kernel_rfl) ?_)
      | (go_at_call 36; (with_reducible refine cr7.mono ?_); rintro e' w8 ⟨O8, rfl, s8⟩))
    go_ret
    exact ⟨O8, rfl, s8⟩
end
end Se
end Go.Proofs.Ytpfackjnnkjjdaa
/- gemellaw22: known. -/
namespace Go.Proofs.Ytpfackjnnkjjdaa
open Go.ChangeShapes Go.WideShapes Go.ChangeAt Go.RowKit Go.Lib
set_option linter.unusedVariables false
set_option linter.unusedSimpArgs false
set_option maxRecDepth 100000
namespace Se
open Crc Dk Tw Rg
def kF : DS := fmtS (blankTo (DS.new 610) 512) 0 (rootB r0)
def kT1 : RS := RS.new 98 512 1 0 0
def kT2 : RS := RS.new 98 512 2 0 0
def kr1 : Rt := r0.lived
def kr3 : Rt := { kr1 with epoch := 5 }
def kS1 : DS := openS' kF 1 r0
def krec : List UInt8 := recB 1 2 [97]
def kS2 : DS := (apS kS1 kT1 krec 1).flushed
def kS3 : DS := Tw.putS kS2 0 3 (rootB kr3)
def kS5 : DS := onS (kS3.crashed [])
def kS6 : DS := openS' kS5 3 kr3
theorem n_fine : Fine (DS.new 610) := Fine.new 610 (by decide)
theorem n_len : (DS.new 610).last.length = 610 := by simp [DS.new]
theorem kF_pu : Pu kF 1 r0 [] := Pu.fmt n_fine ⟨rfl, rfl, rfl⟩ n_len
theorem kr1_ok : kr1.Ok := ⟨by decide, by decide, by decide, by decide, by decide, by decide, by decide, by decide⟩
theorem kr3_ok : kr3.Ok := ⟨by decide, by decide, by decide, by decide, by decide, by decide, by decide, by decide⟩
theorem kS1_pu : Pu kS1 2 kr1 [] := kF_pu.put (by decide) kr1_ok rfl rfl rfl
theorem kT1_ok (S : DS) (h : S.last.length = 610) : kT1.Ok S.last.length := by
  rw [h]
  exact ⟨by decide, by decide, by decide, by decide, by decide, fun l h => by simp [kT1, RS.new] at h, by decide, by decide⟩
theorem kT2_ok (S : DS) (h : S.last.length = 610) : kT2.Ok S.last.length := by
  rw [h]
  exact ⟨by decide, by decide, by decide, by decide, by decide, fun l h => by simp [kT2, RS.new] at h, by decide, by decide⟩
theorem kS1_jr : Jr kS1 kT1 [] := (Jr.fmt n_fine n_len (rootB r0) kT1 rfl rfl).put kF_pu.fine kF_pu.len 2 _ (by decide)
theorem krec_len : krec.length = 17 := recB_len 1 2 [97]
theorem kneed : need 17 = 1 := by decide
theorem kS2_pu : Pu kS2 2 kr1 [] := kS1_pu.app (kT1_ok _ kS1_pu.len) rfl (by decide) (by decide)
theorem kS2_jr : Jr kS2 kT1 [(1, krec)] := by
  have h := Jr.app (l := krec) kS1_jr kS1_pu.fine (kT1_ok _ kS1_pu.len) (by decide) (by rw [krec_len]; decide) (by rw [krec_len]; decide) (by decide) (by decide)
  rw [krec_len, kneed] at h
  exact h
theorem kS3_pu : Pu kS3 3 kr3 [] := kS2_pu.put (by decide) kr3_ok rfl rfl rfl
theorem kS3_jr : Jr kS3 kT1 [(1, krec)] := kS2_jr.put kS2_pu.fine kS2_pu.len 3 _ (by decide)
theorem kS5_jr : Jr kS5 kT1 [(1, krec)] := kS3_jr.crash kS3_pu.fine kS3_pu.still
theorem cr_dead (S : DS) : (S.crashed []).dead = S.dead := rfl
theorem pu_crash {S S' : DS} {n : Nat} {r : Rt} {l : List UInt8} (h : Pu S n r l) (e : S' = onS (S.crashed [])) (hF : Fine S') : Pu S' n r l := by
  subst e
  exact h.crash hF ((cr_dead S).trans h.up.dead)
theorem kS5_pu (hF : Fine kS5) : Pu kS5 3 kr3 [] := pu_crash kS3_pu (by unfold kS5; rfl) hF
theorem kS6_jr (hF : Fine kS5) : Jr kS6 kT2 [(1, krec)] := (kS5_jr.put hF (kS5_pu hF).len 4 (rootB kr3.lived) (by decide)).to (fun i => rfl) rfl rfl (by decide)
theorem k_recs : Recs 0 [(1, krec)] := fun j f b h => by
  cases j with
  | zero =>
    obtain ⟨rfl, rfl⟩ : 1 = f ∧ krec = b := by simpa using h
    exact ⟨by rw [krec_len]; decide, by rw [krec_len]; decide, by decide +kernel⟩
  | succ j => simp at h
theorem no_recs (b : Nat) : Recs b [] := fun j f b h => by simp at h
theorem k_calls : kF.calls ≤ 1000 ∧ kS1.calls ≤ 2000 ∧ kS2.calls ≤ 3000 ∧ kS3.calls ≤ 4000 ∧ kS5.calls ≤ 5000 := by
  have h0 : (DS.new 610).calls = 0 := rfl
  have h1 := (blank_cnt (DS.new 610) 512).2
  have e1 : kF.calls = (blankTo (DS.new 610) 512).calls + 3 := rfl
  have e2 : kS1.calls = kF.calls + 2 := rfl
  have h3 := (aps_cnt kS1 kT1 krec 1).2
  have e3 : kS2.calls = (apS kS1 kT1 krec 1).calls + 1 := rfl
  have e4 : kS3.calls = kS2.calls + 2 := rfl
  have e5 : kS5.calls = kS3.calls := rfl
  omega
theorem a_fresh (W : World) (fr : Nat × Nat) (c : Nat) (hc : 1 ≤ c ∧ c ≤ 100) : Sl (W.alloc (.cells #[.int .u8 97] 5 fr)) (W.alloc (.cells #[.int .u8 97] 5 fr)).heap.size (.slice (some ⟨W.heap.size, 0, none⟩) 1 c) ([97] : List UInt8).length (bs [97]) := Sl.freshM (c := c) W #[.int .u8 97] _ _ rfl hc.1 (by unfold maxLen; omega)
theorem un17 : need (16 + ([97] : List UInt8).length) = 1 := by decide
set_option maxHeartbeats 4000000 in
theorem known_any (w : World) : Calls Try.prog 5 #[] w fun e w' => e = .returned (.bool true) ∧ Below w.heap.size w w' := by
  have kc := fun (W : World) (C : Array Value) (n c : Nat) => Lib.run_convert_bytes_const (P := Try.prog) W 34 5 C n c Try.underlying34 Try.underlying5
  have hcl := k_calls
  have cLe : ∀ W, Calls Try.prog 7 #[] W fun e w' => e = .returned (.int .i64 610) ∧ W = w' := fun W => least_any W
  have cNew : Calls Try.prog 6 #[.int .i64 610] w fun e w' => ∃ X O, e = .returned (.tuple #[.pointer (some ⟨X, 0, none⟩), .int .i64 0]) ∧ Dsk w w' X O (DS.new 610) ∧ (∀ k, O k → w.heap.size ≤ k) ∧ Below w.heap.size w w' := d_new (o := w) 610 (by omega) (by omega) (Below.refl w.heap.size w)
  have cFm : ∀ W X O, Dsk w W X O (DS.new 610) → Calls Try.prog 8 #[.pointer (some ⟨X, 0, none⟩)] W fun e w' => ∃ O', e = .returned (.int .i64 0) ∧ Dsk w w' X O' kF := fun W X O h => (format_any h ⟨rfl, rfl, rfl⟩ n_len (by decide) (by decide)).mono fun e w' ⟨O', h1, h2, _⟩ => ⟨O', h1, h2⟩
  have cO1 : ∀ W X O, Dsk w W X O kF → Calls Try.prog 9 #[.pointer (some ⟨X, 0, none⟩)] W fun e w' => ∃ O' Yt Z Yr R, e = .returned (.tuple #[.pointer (some ⟨Z, 0, none⟩), .int .i64 0]) ∧ Sto w w' X O' kS1 Yt 2 Z kr1 [] Yr R kT1 := fun W X O h => sopen_any (Ls := []) h kF_pu.up kF_pu.len (by rw [kF_pu.wtg]; decide) (by omega) kF_pu.tw (by decide) kF_pu.rok kF_pu.sz kF_pu.sum kF_pu.on (by decide) (by decide) (by decide) (by rw [kF_pu.len]; exact (n_len ▸ kT1_ok _ n_len)) kS1_jr.done (no_recs _)
  have cAp : ∀ W X O Yt Z Yr R, Sto w W X O kS1 Yt 2 Z kr1 [] Yr R kT1 → Calls Try.prog 10 #[.pointer (some ⟨Z, 0, none⟩), .agg #[.int .u64 1, .int .u64 2, .slice (some ⟨W.heap.size, 0, none⟩) 1 1]] (W.alloc (.cells #[.int .u8 97] 5 (1, 2))) fun e w' => ∃ O' R', e = .returned (.int .i64 0) ∧ Sto w w' X O' kS2 Yt 2 Z kr1 [] Yr R' (kT1.app krec) := fun W X O Yt Z Yr R h => by
    have hb := (Below.refl _ W).alloc (Nat.le_refl _) (.cells #[.int .u8 97] 5 (1, 2))
    have q := append_any (h.below hb) kS1_pu.up kS1_pu.len (by rw [kS1_pu.wtg]; decide) (by omega) rfl (by decide) (by decide) (by decide) 2 (by decide) _ [97] (a_fresh W (1, 2) 1 (by decide)) (by decide) (by rw [un17]; decide) 0 rfl
    rw [un17] at q
    exact q
  have cSe : ∀ W X O Yt Z Yr R, Sto w W X O kS2 Yt 2 Z kr1 [] Yr R (kT1.app krec) → Calls Try.prog 18 #[.pointer (some ⟨Z, 0, none⟩), .int .u64 5] W fun e w' => ∃ O', e = .returned (.int .i64 0) ∧ Sto w w' X O' kS3 Yt 3 Z kr3 [] Yr R (kT1.app krec) := fun W X O Yt Z Yr R h => setepoch_any h kS2_pu.up kS2_pu.len (by rw [kS2_pu.wtg]; decide) (by omega) (by decide) kr1_ok 5 (by decide) (by decide)
  have cCr : ∀ W X O, Dsk w W X O kS3 → Calls Try.prog 15 #[.pointer (some ⟨X, 0, none⟩), .slice none 0 0] W fun e w' => e = .returned (.tuple #[]) ∧ Dsk w w' X O (kS3.crashed []) ∧ Eff O W w' := fun W X O h => d_crash h kS3_pu.up.off (by rw [kS3_pu.wtg]; decide) (.slice none 0 0) [] (by simp) Sl.nil_
  have cOn : ∀ W X O, Dsk w W X O (kS3.crashed []) → Calls Try.prog 16 #[.pointer (some ⟨X, 0, none⟩)] W fun e w' => e = .returned (.tuple #[]) ∧ Dsk w w' X O kS5 ∧ Eff O W w' := fun W X O h => d_on h
  have cO2 : ∀ W X O, Dsk w W X O kS5 → Calls Try.prog 9 #[.pointer (some ⟨X, 0, none⟩)] W fun e w' => ∃ O' Yt Z Yr R, e = .returned (.tuple #[.pointer (some ⟨Z, 0, none⟩), .int .i64 0]) ∧ Sto w w' X O' kS6 Yt 4 Z kr3.lived [] Yr R (kT2.got [(1, krec)] 1) := fun W X O h => by
    have hp := kS5_pu h.fine
    exact sopen_any (Ls := [(1, krec)]) h hp.up hp.len (by rw [hp.wtg]; decide) (by omega) hp.tw (by decide) hp.rok hp.sz hp.sum hp.on (by decide) (by decide) (by decide) (by rw [hp.len]; exact (n_len ▸ kT2_ok _ n_len)) (kS6_jr h.fine).done k_recs
  have hb2 : beVal ((krec.drop 8).take 8) = 2 := by decide +kernel
  have hd16 : krec.drop 16 = [97] := by decide +kernel
  have cEn : ∀ W X O Yt Z Yr R, Sto w W X O kS6 Yt 4 Z kr3.lived [] Yr R (kT2.got [(1, krec)] 1) → Calls Try.prog 17 #[.pointer (some ⟨Z, 0, none⟩), .int .u64 1] W fun e w' => ∃ A c, e = .returned (.tuple #[.agg #[.int .u64 1, .int .u64 2, .slice A 1 c], .bool true]) ∧ w'.ownsRow W.heap.size 5 1 (.slice A 1 c) 1 (bs [97]) ∧ Below W.heap.size W w' := fun W X O Yt Z Yr R h => by
    have q := entry_any h rfl (by decide) (by decide) 0 krec rfl (by rw [krec_len]; decide) (by rw [krec_len]; decide) 1 rfl
    rw [krec_len, hb2, hd16] at q
    exact q
  have cEp : ∀ W X O Yt Z Yr R, Sto w W X O kS6 Yt 4 Z kr3.lived [] Yr R (kT2.got [(1, krec)] 1) → Calls Try.prog 19 #[.pointer (some ⟨Z, 0, none⟩)] W fun e w' => e = .returned (.int .u64 5) ∧ W = w' := fun W X O Yt Z Yr R h => epoch_any h
  have cLa : ∀ W X O Yt Z Yr R, Sto w W X O kS6 Yt 4 Z kr3.lived [] Yr R (kT2.got [(1, krec)] 1) → Calls Try.prog 14 #[.pointer (some ⟨Z, 0, none⟩)] W fun e w' => e = .returned (.int .u64 1) ∧ Below W.heap.size W w' := fun W X O Yt Z Yr R h => last_any h rfl (by decide) (by decide)
  clear hb2 hd16 hcl
  have hstr : ∀ (W : World) (B : Nat) (A : Option Addr) (c : Nat), W.ownsRow B 5 1 (.slice A 1 c) 1 (bs [97]) → ∀ x, (convert 34 9 (.slice A 1 c)).run Try.prog (W.alloc x) = .ok (.string ⟨#[97]⟩) (W.alloc x) := fun W B A c h x => Tw.str (l := [97]) ((Sl.of_own h).now ((Below.refl _ W).alloc (Nat.le_refl _) x))
  have hsta : ∀ (W : World) X O Yt Z Yr R, Sto w W X O kS6 Yt 4 Z kr3.lived [] Yr R (kT2.got [(1, krec)] 1) → ∀ x, Sto w (W.alloc x) X O kS6 Yt 4 Z kr3.lived [] Yr R (kT2.got [(1, krec)] 1) := fun W X O Yt Z Yr R h x => h.below ((Below.refl _ W).alloc (Nat.le_refl _) x)
  go_enter Try.func5, Try.ntmps5
  go_wp2_with (first
    | (go_at_call 7; (with_reducible refine (cLe _).mono ?_); rintro e w1 ⟨rfl, rfl⟩)
    | (go_at_call 6; (with_reducible refine cNew.mono ?_); rintro e w1 ⟨X, O1, rfl, s1, _, _⟩)
    | (go_at_call 8; (with_reducible refine (cFm _ _ _ s1).mono ?_); rintro e w2 ⟨O2, rfl, s2⟩)
    | (go_at_call 9; (with_reducible refine (cO2 _ _ _ s7).mono ?_); rintro e w8 ⟨O8, Yt8, Z8, Yr8, R8, rfl, s8⟩)
    | (go_at_call 9; (with_reducible refine (cO1 _ _ _ s2).mono ?_); rintro e w3 ⟨O3, Yt, Z, Yr, R, rfl, s3⟩)
    | (go_at_call 10; (with_reducible refine (cAp _ _ _ _ _ _ _ s3).mono ?_); rintro e w4 ⟨O4, R4, rfl, s4⟩)
    | (go_at_call 18; (with_reducible refine (cSe _ _ _ _ _ _ _ s4).mono ?_); rintro e w5 ⟨O5, rfl, s5⟩; have s5d := s5.st.dsk)
    | (go_at_call 15; (with_reducible refine (cCr _ _ _ s5d).mono ?_); rintro e w6 ⟨rfl, s6, _⟩)
    | (go_at_call 16; (with_reducible refine (cOn _ _ _ s6).mono ?_); rintro e w7 ⟨rfl, s7, _⟩)
    | (go_at_call 17; (with_reducible refine (cEn _ _ _ _ _ _ _ s8).mono ?_); rintro e w9 ⟨A9, c9, rfl, o9, b9⟩; have hst9 := hstr _ _ _ _ o9; have s9 := s8.below b9; have s9a := hsta _ _ _ _ _ _ _ s9)
    | (go_at_call 19; (with_reducible refine (cEp _ _ _ _ _ _ _ (s9a _)).mono ?_); rintro e w10 ⟨rfl, rfl⟩)
    | (go_at_call 14; (with_reducible refine (cLa _ _ _ _ _ _ _ (s9a _)).mono ?_); rintro e w11 ⟨rfl, b11⟩))
  go_ret
  have b8 := s8.st.dsk.bl
  have b9a := b9.trans (((Below.refl _ w9).alloc (Nat.le_refl _) (.cells #[.int .u64 1, .int .u64 2, .slice A9 1 c9] 37)).mono b9.size)
  exact ⟨rfl, b8.trans ((b9a.trans (b11.mono b9a.size)).mono b8.size)⟩
end Se
end Go.Proofs.Ytpfackjnnkjjdaa
/- gemellaw22, StoreRoom: a store whose ring goes round: what lies in its sectors is old (pure); the store with what is told of it. -/
namespace Go.Proofs.Ytpfackjnnkjjdaa
open Go.ChangeShapes Go.WideShapes Go.ChangeAt Go.RowKit Go.Lib
set_option linter.unusedVariables false
set_option linter.unusedSimpArgs false
set_option maxRecDepth 100000
namespace Se
open Crc Dk Tw Rg
def RB : RS := RS.new 98 512 0 0 0
theorem rd_rb (S : DS) {T : RS} (hat : T.at_ = 98) (hn : T.n = 512) (i : Nat) : rdU S T i = rdU S RB ((T.place + i) % 512) := by
  have e : T.sec i = RB.sec ((T.place + i) % 512) := by
    unfold RS.sec
    rw [hat, hn]
    show 98 + (T.place + i) % 512 = 98 + (0 + (T.place + i) % 512) % 512
    omega
  unfold rdU
  rw [e]
/-- Each of the journal's sectors is bad or tells a number below b. -/
def Old (S : DS) (b : Nat) : Prop := ∀ i, i < 512 → (rdU S RB i).err ≠ 0 ∨ ((rdU S RB i).err = 0 ∧ (rdU S RB i).num < b)
theorem Old.fmt {S : DS} (hF : Fine S) (hl : S.last.length = 610) (b : List UInt8) (k : Nat) : Old (fmtS (blankTo S 512) 0 b) k := fun i hi => by
  left
  unfold rdU
  rw [fmt_now hF hl b _ (by unfold RS.sec; show 98 ≤ 98 + _; omega) (by
    unfold RS.sec
    show 98 + (0 + i) % 512 < 610
    omega)]
  exact un_blank
theorem Old.congr {S S' : DS} {b : Nat} (h : Old S b) (hr : ∀ i, rdU S' RB i = rdU S RB i) : Old S' b := fun i hi => by rw [hr]; exact h i hi
theorem Old.app {S : DS} {T : RS} {l : List UInt8} (h : Old S T.next) (hF : Fine S) (hk : T.Ok S.last.length) (hat : T.at_ = 98) (hn5 : T.n = 512) (hn : T.next ≤ 1000000) (hl : l.length ≤ 32768) (hr : T.used + need l.length ≤ T.n) : Old (apS S T l (need l.length)).flushed (T.next + 1) := by
  have hF2 : Fine (apS S T l (need l.length)) := aps_fine hF hk _
  intro i hi
  have hp := hk.pl
  have e2 : rdU (apS S T l (need l.length)).flushed RB i = rdU (apS S T l (need l.length)) RB i := rd_now (fun j => Rg.flushed_now hF2 j) i
  rw [e2]
  obtain ⟨j, hj, hji⟩ : ∃ j, j < 512 ∧ (T.place + j) % 512 = i := by
    by_cases h1 : T.place ≤ i
    · exact ⟨i - T.place, by omega, by omega⟩
    · exact ⟨i + 512 - T.place, by omega, by omega⟩
  have e3 : rdU (apS S T l (need l.length)) RB i = rdU (apS S T l (need l.length)) T j := by rw [rd_rb _ hat hn5, hji]
  rw [e3]
  by_cases hjo : j < T.used ∨ T.used + need l.length ≤ j
  · rw [rd_aps_no hF hk _ _ (by omega) hr hjo, rd_rb _ hat hn5, hji]
    exact (h i hi).imp id fun h => ⟨h.1, by omega⟩
  · obtain ⟨q, rfl⟩ : ∃ q, j = T.used + q := ⟨j - T.used, by omega⟩
    rw [rd_aps hF hk hn hl hr q (by omega)]
    exact .inr ⟨rfl, Nat.lt_succ_self _⟩
theorem Old.lay {S : DS} {b : Nat} (h : Old S b) {T : RS} (hat : T.at_ = 98) (hn5 : T.n = 512) (hf : T.first = b) : Lay S T [] := by
  refine (LayP.nil_ S T).lay ?_
  have e : usedTo [] ([] : List (Nat × List UInt8)).length = 0 := rfl
  rw [e, rd_rb S hat hn5]
  rcases h ((T.place + 0) % 512) (Nat.mod_lt _ (by decide)) with h1 | h1
  · exact .inr (.inl h1)
  · exact .inr (.inr (.inr ⟨h1.1, by rw [hf]; show _ ≠ b + 0; omega⟩))
theorem sums_all {L : List (List UInt8)} {m : Nat} (h : ∀ l ∈ L, l.length = m) : RS.sums L = L.length * need m := by
  induction L with
  | nil => simp [RS.sums]
  | cons l L ih =>
    rw [sums_cons, ih fun x hx => h x (List.mem_cons_of_mem _ hx), h l List.mem_cons_self, List.length_cons, Nat.succ_mul]
    omega
/-- A store made since o, compacted c times, with i entries of ss bytes behind the base b; l: its snapshot. -/
structure Rm (o w : World) (X Z b ss : Nat) (l : List UInt8) (c i : Nat) : Prop where
  ex : ∃ O S Yt r Yr R T, Sto o w X O S Yt (2 + c) Z r l Yr R T ∧ Pu S (2 + c) r l ∧ r.life = 1 ∧ r.base = b ∧ r.first = b ∧ T.first = b ∧ T.at_ = 98 ∧ T.n = 512 ∧ T.place < 512 ∧ T.place = r.place ∧ T.recs.length = i ∧ (∀ m ∈ T.recs, m.length = 16 + ss) ∧ T.used = RS.sums T.recs ∧ Old S (b + i) ∧ S.calls ≤ 2000 + 3 * (b + i) + 60 * c
section
variable {o w w' : World} {X Z b ss c i : Nat} {l : List UInt8}
theorem Rm.below (h : Rm o w X Z b ss l c i) (hb : Below w.heap.size w w') : Rm o w' X Z b ss l c i := by
  obtain ⟨O, S, Yt, r, Yr, R, T, h1, h2⟩ := h.ex
  exact ⟨⟨O, S, Yt, r, Yr, R, T, h1.below hb, h2⟩⟩
theorem Rm.bl (h : Rm o w X Z b ss l c i) : Below o.heap.size o w := by
  obtain ⟨O, S, Yt, r, Yr, R, T, h1, h2⟩ := h.ex
  exact h1.st.dsk.bl
theorem need_528 (hs : ss ≤ 512) : need (16 + ss) ≤ 2 ∧ 1 ≤ need (16 + ss) := by
  unfold need
  split
  · omega
  · omega
theorem Rm.append (h : Rm o w X Z b ss l c i) (hs : ss ≤ 512) (hi : i < 64) (hb : b ≤ 1000) (hc : c ≤ 10) (m : Nat) (hm : b + i = m) (vd : Value) (d : List UInt8) (hd : d.length = ss) (hv : Sl w w.heap.size vd ss (bs d)) : Calls Try.prog 10 #[.pointer (some ⟨Z, 0, none⟩), .agg #[.int .u64 ((m : Int) + 1), .int .u64 1, vd]] w fun e w' => e = .returned (.int .i64 0) ∧ Rm o w' X Z b ss l c (i + 1) := by
  obtain ⟨O, S, Yt, r, Yr, R, T, h1, hP, q1, q2, q3, q4, q5, q6, q7, q8, q9, q10, q11, hO, hcl⟩ := h.ex
  subst hd
  have hn := need_528 hs
  have hu : RS.sums T.recs = i * need (16 + d.length) := by rw [sums_all q10, q9]
  have hu2 : T.used ≤ 2 * i := by rw [q11, hu]; have := Nat.mul_le_mul_left i hn.1; omega
  have hnx : T.next = b + i := by unfold RS.next; omega
  have q := append_any h1 hP.up hP.len (by rw [hP.wtg]; decide) (by omega) (by omega) (by omega) (by omega) (by omega) 1 (by decide) vd d hv (by omega) (by omega) m (by omega)
  refine q.mono ?_
  rintro e w' ⟨O', R', rfl, h2⟩
  have hl := recB_len (m + 1) 1 d
  have hP2 := hP.app (rec := recB (m + 1) 1 d) (k := need (16 + d.length)) h1.ok q5 hP.rok.side (by have := hP.sz; have := hP.rok.size; omega)
  have hO2 := Old.app (l := recB (m + 1) 1 d) (by rw [hnx]; exact hO) hP.fine h1.ok q5 q6 (by omega) (by rw [hl]; omega) (by rw [hl]; omega)
  rw [hl, hnx] at hO2
  have hcnt := (aps_cnt S T (recB (m + 1) 1 d) (need (16 + d.length))).2
  have e2 : (apS S T (recB (m + 1) 1 d) (need (16 + d.length))).flushed.calls = (apS S T (recB (m + 1) 1 d) (need (16 + d.length))).calls + 1 := rfl
  refine ⟨rfl, ⟨O', _, Yt, r, Yr, R', _, h2, hP2, q1, q2, q3, q4, q5, q6, q7, q8, ?_, ?_, ?_, hO2, by omega⟩⟩
  · show (T.recs ++ [_]).length = _
    rw [List.length_append, List.length_singleton, q9]
  · intro x hx
    rcases List.mem_append.1 hx with hx | hx
    · exact q10 x hx
    · rw [List.mem_singleton.1 hx, hl]
  · show T.used + need _ = RS.sums (T.recs ++ [_])
    rw [q11]
    unfold RS.sums
    rw [List.map_append, List.sum_append]
    simp
theorem Rm.compact (h : Rm o w X Z b ss l c i) (hs : ss ≤ 512) (hi : i ≤ 64) (hb : b ≤ 1000) (hc : c ≤ 10) (m : Nat) (hm : b + i = m) (vd : Value) (d : List UInt8) (hv : w.ownsRow w'.heap.size 5 1 vd d.length (bs d)) (h0 : Rm o w' X Z b ss l c i) (hw : Below w'.heap.size w' w) (hd : d.length ≤ 24576) : Calls Try.prog 12 #[.pointer (some ⟨Z, 0, none⟩), .int .u64 (m : Nat), vd] w fun e w' => e = .returned (.int .i64 0) ∧ Rm o w' X Z m ss d (c + 1) 0 := by
  obtain ⟨O, S, Yt, r, Yr, R, T, h1', hP, q1, q2, q3, q4, q5, q6, q7, q8, q9, q10, q11, hO, hcl⟩ := h0.ex
  have h1 := h1'.below hw
  have hOlt := h1'.st.oLt
  have hRlt := h1'.st.glt
  obtain ⟨tv, htw, _⟩ := h1'.st.tw
  obtain ⟨sv, hmm, _⟩ := h1'.st.mem
  have hYl := htw.mem.lt
  have hZl := hmm.lt
  have hu : RS.sums T.recs = i * need (16 + ss) := by rw [sums_all q10, q9]
  have hn := need_528 hs
  have hu2 : T.used ≤ 2 * i := by rw [q11, hu]; have := Nat.mul_le_mul_left i hn.1; omega
  have hnx : T.next = b + i := by unfold RS.next; omega
  obtain ⟨c1, c2, c3, c4, c5, c6, c7⟩ := cutN_all i T (by omega)
  have e2 : T.recs.drop i = [] := by rw [← q9, List.drop_length]
  have e7 : T.recs.take i = T.recs := by rw [← q9, List.take_length]
  rw [e2] at c2
  rw [e7] at c6 c7
  have hpl := c6 (by omega)
  have hp5 : (T.cutN i).place < 512 := by rw [hpl, q6]; exact Nat.mod_lt _ (by decide)
  have hF : Fit T := ⟨by omega, by omega, by omega, by omega, by omega, fun x hx => by rw [q10 x hx]; omega⟩
  have hok : (T.cutN i).Ok S.last.length := ⟨by omega, by rw [c3, c4, hP.len]; omega, by omega, by omega, by rw [c2]; decide, fun x hx => by rw [c2] at hx; simp at hx, by rw [c5]; exact h1.ok.lf, by omega⟩
  obtain ⟨sd, hsd⟩ : ∃ sd, r.side + sd = 1 := ⟨1 - r.side, by have := hP.rok.side; omega⟩
  have q := compact_any h1 hP hF (by omega) (by omega) (by omega) (by omega) (by omega) i m (by omega) (by omega) m (T.cutN i).place (by omega) rfl hok hp5 sd hsd vd (Sl.of_own hv) hd fun q hq => by
    have t := own_tag hv q hq
    exact ⟨t.2.1, fun hh => by
      rcases hh with hh | hh | hh | hh
      · have := hOlt q hh; omega
      · have := hRlt q hh; omega
      · omega
      · omega⟩
  refine q.mono ?_
  rintro e w9 ⟨O', rfl, h2⟩
  have hP2 := hP.comp (n := 2 + c) (by omega) hsd hd (m := m) (f := m) (p := (T.cutN i).place) (by omega) (by omega) hp5
  have hO2 : Old (cS S (2 + c) r sd d m m (T.cutN i).place) (m + 0) := by
    rw [← hm]
    exact hO.congr fun j => rd_comp hP hsd hd _ _ _ RB rfl j
  have hcc := cS_calls S (2 + c) r sd hd m m (T.cutN i).place
  exact ⟨rfl, ⟨O', _, Yt, _, Yr, R, _, h2, hP2, q1, rfl, rfl, by omega, by omega, by omega, by omega, rfl, by rw [c2]; rfl, fun x hx => by rw [c2] at hx; simp at hx, by rw [c7, c2, q11]; simp [RS.sums], hO2, by omega⟩⟩
/-- A store found at the base b. -/
structure Rz (o w : World) (X Z b : Nat) (l : List UInt8) : Prop where
  ex : ∃ O S Yt n r Yr R T, Sto o w X O S Yt n Z r l Yr R T ∧ r.base = b ∧ T.first = r.first ∧ T.recs = [] ∧ T.first ≤ 700000
theorem Rz.below (h : Rz o w X Z b l) (hb : Below w.heap.size w w') : Rz o w' X Z b l := by
  obtain ⟨O, S, Yt, n, r, Yr, R, T, h1, h2⟩ := h.ex
  exact ⟨⟨O, S, Yt, n, r, Yr, R, T, h1.below hb, h2⟩⟩
theorem Rz.bl (h : Rz o w X Z b l) : Below o.heap.size o w := by
  obtain ⟨O, S, Yt, n, r, Yr, R, T, h1, h2⟩ := h.ex
  exact h1.st.dsk.bl
theorem Rm.open_ (h : Rm o w X Z b ss l c 0) (hb : b ≤ 1000) (hc : c ≤ 10) : Calls Try.prog 9 #[.pointer (some ⟨X, 0, none⟩)] w fun e w' => ∃ Z', e = .returned (.tuple #[.pointer (some ⟨Z', 0, none⟩), .int .i64 0]) ∧ Rz o w' X Z' b l := by
  obtain ⟨O, S, Yt, r, Yr, R, T, h1, hP, q1, q2, q3, q4, q5, q6, q7, q8, q9, q10, q11, hO, hcl⟩ := h.ex
  have hok : (RS.new 98 512 (r.life + 1) r.first r.place).Ok S.last.length := ⟨by show 2 ≤ 512; decide, by rw [hP.len]; show 98 + 512 ≤ 610; decide, by show r.place < 512; omega, by show 0 ≤ 512; decide, by show 0 ≤ 4096; decide, fun l h => by simp [RS.new] at h, by show r.life + 1 ≤ 1000000; omega, by show r.first ≤ 1000000; omega⟩
  have hLay : Lay (openS' S (2 + c) r) (RS.new 98 512 (r.life + 1) r.first r.place) [] := by
    refine Old.lay (b := b + 0) (hO.congr fun j => ?_) rfl rfl (by show r.first = _; omega)
    exact rd_put hP.fine hP.len _ _ RB (by show 2 ≤ 98; decide) j
  refine (sopen_any (Ls := []) h1.st.dsk hP.up hP.len (by rw [hP.wtg]; decide) (by omega) hP.tw (by omega) hP.rok hP.sz hP.sum hP.on (by omega) (by omega) (by omega) hok hLay (no_recs _)).mono ?_
  rintro e w' ⟨O', Yt', Z', Yr', R', rfl, h2⟩
  exact ⟨Z', rfl, ⟨O', _, Yt', _, _, Yr', R', _, h2, q2, rfl, rfl, by show r.first ≤ _; omega⟩⟩
theorem Rz.base (h : Rz o w X Z b l) (hl : l.length ≤ 100000) : Calls Try.prog 13 #[.pointer (some ⟨Z, 0, none⟩)] w fun e w' => ∃ A c, e = .returned (.tuple #[.int .u64 (b : Nat), .slice A l.length c]) ∧ w'.ownsRow w.heap.size 5 1 (.slice A l.length c) l.length (bs l) ∧ Below w.heap.size w w' := by
  obtain ⟨O, S, Yt, n, r, Yr, R, T, h1, h2, _⟩ := h.ex
  have q := base_any h1 hl
  rw [h2] at q
  exact q
theorem Rz.last (h : Rz o w X Z b l) (hb : b ≤ 1000) : Calls Try.prog 14 #[.pointer (some ⟨Z, 0, none⟩)] w fun e w' => e = .returned (.int .u64 (b : Nat)) ∧ Below w.heap.size w w' := by
  obtain ⟨O, S, Yt, n, r, Yr, R, T, h1, h2, h3, h4, h5⟩ := h.ex
  have q := last_any h1 h3 (by unfold RS.next; rw [h4]; show T.first + 0 ≤ _; omega) (by omega)
  rw [h2, h4] at q
  exact q
end
end Se
end Go.Proofs.Ytpfackjnnkjjdaa
