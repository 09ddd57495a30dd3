/- Package lu: Decode of the bytes that known makes. -/
import Derived.Test.YtpkebbibafldkaaUnB
import Derived.Test.YtpkebbibafldkaaUnC
import Derived.Test.YtpkebbibafldkaaUnD
import Derived.Deep.MidRow
namespace Go.Proofs.Ytpkebbibafldkaa
open Go.ChangeShapes Go.WideShapes Go.ChangeAt Go.RowKit Go.Lib
set_option linter.unusedVariables false
set_option linter.unusedSimpArgs false
set_option maxRecDepth 100000
namespace Un
open Rv
def putAll (cs : Array Value) : Nat → List Value → Array Value
  | _, [] => cs
  | o, v :: r => putAll (cs.setIfInBounds o v) (o + 1) r
theorem mem_setCells {g t : Nat} (vs : List Value) : ∀ (o : Nat) (w : World) (cs : Array Value), Mem w g t cs → Mem (w.setCells g o vs) g t (putAll cs o vs) := by
  induction vs with
  | nil => exact fun o w cs h => h
  | cons v r ih => exact fun o w cs h => ih (o + 1) _ _ (h.put o v)
theorem eff_setCells {g : Nat} (vs : List Value) : ∀ (o : Nat) (w : World), Eff (fun k => k = g) w (w.setCells g o vs) := by
  induction vs with
  | nil => exact fun o w => Eff.refl _ w
  | cons v r ih => exact fun o w => (Eff.setCell (S := fun k => k = g) (Eff.refl _ w) (p := ⟨g, o, none⟩) rfl v).trans (ih (o + 1) _) fun _ _ h => h
theorem unRow_set (X Y k : Nat) (hs : List Value) (v : Value) : (unRow X Y hs).setIfInBounds (k + 2) v = unRow X Y (hs.set k v) := by
  unfold unRow
  rw [List.setIfInBounds_toArray]
  rfl
def kB : List UInt8 := uB kSP
theorem kB_len : kB.length = 183 := by decide +kernel
def posH (i : Nat) : Nat := if i = 0 then 85 else 103 + 10 * i
theorem kB_one : ∀ j, j < 28 → kB[85 + j]? = hb0[j]? := by decide +kernel
theorem kB_none (i : Nat) (h1 : 1 ≤ i) (h8 : i < 8) : beVal ((kB.drop (posH i)).take 8) = 0 ∧ beVal ((kB.drop (posH i + 8)).take 1) = 0 ∧ beVal ((kB.drop (posH i + 8 + 1)).take 1) = 0 := by
  have : i = 1 ∨ i = 2 ∨ i = 3 ∨ i = 4 ∨ i = 5 ∨ i = 6 ∨ i = 7 := by omega
  rcases this with rfl | rfl | rfl | rfl | rfl | rfl | rfl <;> decide +kernel
section
variable {w w' : World} {B B' X g h N : Nat} {D M : List UInt8}
theorem SpInv.base (hn : SpInv w B X g h N D M) (hB : B' ≤ B) : SpInv w B' X g h N D M := ⟨Nat.le_trans hB hn.bX, Nat.le_trans hB hn.bg, Nat.le_trans hB hn.bh, hn.gX, hn.hX, hn.gh, hn.mem, hn.data, hn.map, hn.lenD, hn.lenM, hn.pos, hn.few⟩
def hsTo (hs : List Value) (i : Nat) (tv : Value) : List Value := ((hs.set (3 * i) (.slice none 0 0)).set (3 * i + 1) (.int .u64 0)).set (3 * i + 2) tv
theorem hsTo_len (hs : List Value) (i : Nat) (tv : Value) : (hsTo hs i tv).length = hs.length := by simp [hsTo]
theorem hsTo_at {hs : List Value} (hl : hs.length = 24) (i : Nat) (tv : Value) (h : ∀ H, H < 8 → hs[3 * H]? = some (.slice none 0 0)) : ∀ H, H < 8 → (hsTo hs i tv)[3 * H]? = some (.slice none 0 0) := by
  intro H hH
  unfold hsTo
  rw [List.getElem?_set_ne (by omega), List.getElem?_set_ne (by omega)]
  by_cases e : i = H
  · subst e
    rw [List.getElem?_set_self (by omega)]
  · rw [List.getElem?_set_ne (by omega)]
    exact h H hH
theorem un_host {N : Nat} {D M : List UInt8} {B Z X g h Y : Nat} {t : RT} {hs : List Value} (hu : UnM w B Z X g h Y N D M t hs) {i : Nat} (hi : i < 8) (tv : Value) : UnM (w.setCells Z (2 + i * 3) [.slice none 0 0, .int .u64 0, tv]) B Z X g h Y N D M t (hsTo hs i tv) ∧ Eff (fun k => k = Z) w (w.setCells Z (2 + i * 3) [.slice none 0 0, .int .u64 0, tv]) ∧ w.there Z (2 + i * 3) 3 := by
  have hl := hu.len
  have E := eff_setCells (g := Z) [.slice none 0 0, .int .u64 0, tv] (2 + i * 3) w
  refine ⟨hu.hosts ?_ (by rw [hsTo_len]; exact hl) E, E, ?_⟩
  · have e : putAll (unRow X Y hs) (2 + i * 3) [.slice none 0 0, .int .u64 0, tv] = unRow X Y (hsTo hs i tv) := by
      simp only [putAll]
      rw [show 2 + i * 3 + 1 + 1 = (3 * i + 2) + 2 by omega, show 2 + i * 3 + 1 = (3 * i + 1) + 2 by omega, show 2 + i * 3 = 3 * i + 2 by omega, unRow_set, unRow_set, unRow_set]
      rfl
    rw [← e]
    exact mem_setCells _ _ _ _ hu.mem
  · intro j hj
    refine ⟨?_, hu.mem.free _⟩
    rw [show 2 + i * 3 + j = 2 + (3 * i + j) by omega, hu.ch, List.getElem?_eq_getElem (by omega)]
    rfl
set_option maxHeartbeats 8000000 in
theorem udec_any (v : Value) (hv : Sl w w.heap.size v kB.length (bs kB)) : Calls Try.prog 9 #[v] w fun e w' => ∃ Z X g h Y hs, e = .returned (.tuple #[.pointer (some ⟨Z, 0, none⟩), .int .i64 0]) ∧ UnM w' w.heap.size Z X g h Y 4 kD [2] RT.zero hs ∧ (∀ H, H < 8 → hs[3 * H]? = some (.slice none 0 0)) ∧ Below w.heap.size w w' := by
  obtain ⟨A, c, rfl, _, _⟩ := hv.form
  obtain ⟨w1, e1, m1, b1⟩ : ∃ w1, w1 = w.alloc (.cells #[.slice A kB.length c, .int .i64 0, .bool false] 51) ∧ Mem w1 w.heap.size 51 #[.slice A kB.length c, .int .i64 0, .bool false] ∧ Below w.heap.size w w1 := ⟨_, rfl, Mem.new w _ _, (Below.refl _ w).alloc (Nat.le_refl _) _⟩
  have H1 : CurM w1 w.heap.size A c kB 0 := ⟨m1, hv.below b1, by rw [kB_len]; decide, Nat.zero_le _⟩
  have cR1 : ∀ W, CurM W w.heap.size A c kB 0 → Calls Try.prog 19 #[.pointer (some ⟨w.heap.size, 0, none⟩)] W fun e w' => ∃ A' c', e = .returned (.slice A' 11 c') ∧ w'.ownsRow W.heap.size 5 1 (.slice A' 11 c') 11 (bs kSP) ∧ CurM w' w.heap.size A c kB 13 ∧ Eff (fun q => q = w.heap.size) W w' := fun W hW => by
    have q := row_any hW 11 (by decide +kernel) (by rw [kB_len]; decide)
    rw [show (kB.drop (0 + 2)).take 11 = kSP by decide +kernel] at q
    exact q
  have cR2 : ∀ W, CurM W w.heap.size A c kB 13 → Calls Try.prog 19 #[.pointer (some ⟨w.heap.size, 0, none⟩)] W fun e w' => ∃ A' c', e = .returned (.slice A' 70 c') ∧ w'.ownsRow W.heap.size 5 1 (.slice A' 70 c') 70 (bs tabB) ∧ CurM w' w.heap.size A c kB (posH 0) ∧ Eff (fun q => q = w.heap.size) W w' := fun W hW => by
    have q := row_any hW 70 (by decide +kernel) (by rw [kB_len]; decide)
    rw [show (kB.drop (13 + 2)).take 70 = tabB by decide +kernel] at q
    exact q
  have cS := fun W A' c' (ho : W.ownsRow w.heap.size 5 1 (.slice A' 11 c') 11 (bs kSP)) => sdec_any (w := W) (.slice A' 11 c') (Sl.of_own ho)
  have cT := fun W A' c' (ho : W.ownsRow w.heap.size 5 1 (.slice A' 70 c') 70 (bs tabB)) => rdec_any (w := W) (.slice A' 70 c') (Sl.of_own ho)
  have cH0 : ∀ W, CurM W w.heap.size A c kB (posH 0) → Calls Try.prog 21 #[.pointer (some ⟨w.heap.size, 0, none⟩)] W fun e w' => ∃ TA TN TC, e = .returned (.tuple #[.agg #[.slice none 0 0, .int .u64 0, .slice TA TN TC], .bool true]) ∧ CurM w' w.heap.size A c kB (posH (0 + 1)) ∧ Eff (fun q => q = w.heap.size) W w' := fun W hW => host_one hW kB_one
  have cH1 : ∀ W i, 1 ≤ i → i < 8 → CurM W w.heap.size A c kB (posH i) → Calls Try.prog 21 #[.pointer (some ⟨w.heap.size, 0, none⟩)] W fun e w' => ∃ TA TN TC, e = .returned (.tuple #[.agg #[.slice none 0 0, .int .u64 0, .slice TA TN TC], .bool true]) ∧ CurM w' w.heap.size A c kB (posH (i + 1)) ∧ Eff (fun q => q = w.heap.size) W w' := fun W i h1 h8 hW => by
    obtain ⟨q1, q2, q3⟩ := kB_none i h1 h8
    have hp : posH i + 8 + 1 + 1 = posH (i + 1) := by unfold posH; rw [if_neg (by omega), if_neg (by omega)]; omega
    have q := host_none hW q1 q2 q3 (by rw [kB_len, hp]; unfold posH; rw [if_neg (by omega)]; omega)
    rw [hp] at q
    exact q.mono fun e w' ⟨a1, a2, a3⟩ => ⟨_, _, _, a1, a2, a3⟩
  have hend : posH 8 = kB.length := by rw [kB_len]; rfl
  have hlen := kB_len
  have hlx : (kB.length : Int) ≤ 200 := by omega
  have HEND := Lib.hid hend
  clear hv hend hlen
  generalize kB = KB at *
  go_enter Try.func9, Try.ntmps9
  go_upto_region 2 with (fail)
  rw [← e1]
  clear e1
  have cA := cR1 w1 H1
  go_upto_region 5 with (first
    | (go_at_call 19; (with_reducible refine cA.mono ?_); rintro e' w2 ⟨A2, c2, rfl, o2, H2, E2⟩; have cSS := cS w2 A2 c2 (owns_mono o2 b1.size))
    | (go_at_call 18; (with_reducible refine cSS.mono ?_); rintro e' w3 ⟨X, g, h, rfl, S3, b3⟩))
  have H3 := H2.below b3
  have cB := cR2 w3 H3
  have hs2 := E2.size
  have hs3 := b3.size
  have hs1 := b1.size
  go_upto_region 8 with (first
    | (go_at_call 19; (with_reducible refine cB.mono ?_); rintro e' w4 ⟨A4, c4, rfl, o4, H4, E4⟩; have cTT := cT w4 A4 c4 (owns_mono o4 (by omega)))
    | (go_at_call 20; (with_reducible refine cTT.mono ?_); rintro e' w5 ⟨Y, rfl, T5, hY, b5⟩))
  have H5 := H4.below b5
  have hs4 := E4.size
  have hs5 := b5.size
  have hlt1 := m1.lt
  have S4 := SpInv.base (B' := w.heap.size) (SpInv.eff S3 E4 (fun e => by have := S3.bX; omega) (fun e => by have := S3.bg; omega) (fun e => by have := S3.bh; omega)) (by omega)
  have S5 := S4.below b5
  have B5 : Below w.heap.size w w5 := (Eff.below (S := fun q => q = w.heap.size) ((((E2.trans (Eff.of (S := fun q => q = w.heap.size) b3) fun _ _ h => h).trans E4 fun _ _ h => h).trans (Eff.of (S := fun q => q = w.heap.size) b5) fun _ _ h => h)) b1 b1.size fun q _ e => Nat.le_of_eq e.symm)
  obtain ⟨w6, e6, m6, b6⟩ : ∃ w6, w6 = w5.alloc (.cells (unRow X Y hs0) 63) ∧ Mem w6 w5.heap.size 63 (unRow X Y hs0) ∧ Below w5.heap.size w5 w6 := ⟨_, rfl, Mem.new w5 _ _, (Below.refl _ w5).alloc (Nat.le_refl _) _⟩
  have e6' : w6 = w5.alloc (.cells #[.pointer (some ⟨X, 0, none⟩), .pointer (some ⟨Y, 0, none⟩), .slice none 0 0, .int .u64 0, .slice none 0 0, .slice none 0 0, .int .u64 0, .slice none 0 0, .slice none 0 0, .int .u64 0, .slice none 0 0, .slice none 0 0, .int .u64 0, .slice none 0 0, .slice none 0 0, .int .u64 0, .slice none 0 0, .slice none 0 0, .int .u64 0, .slice none 0 0, .slice none 0 0, .int .u64 0, .slice none 0 0, .slice none 0 0, .int .u64 0, .slice none 0 0] 63) := e6
  clear e6
  have U6 : UnM w6 w.heap.size w5.heap.size X g h Y 4 kD [2] RT.zero hs0 := ⟨m6, rfl, S5.below b6, T5.below b6, by omega, by omega⟩
  have B6 := B5.trans (b6.mono B5.size)
  have H6 := H5.below b6
  generalize hZ : w5.heap.size = Z at *
  have hZx : w.heap.size < Z := by omega
  go_upto_region 9 with (fail)
  rw [← e6']
  clear e6' cR1 cR2 cS cT
  go_wp2
  go_loopw [35] (fun x wr => ∃ (i : Nat) (hs : List Value), x = .int .i64 (i : Nat) ∧ i ≤ 8 ∧ CurM wr w.heap.size A c KB (posH i) ∧ UnM wr w.heap.size Z X g h Y 4 kD [2] RT.zero hs ∧ (∀ H, H < 8 → hs[3 * H]? = some (.slice none 0 0)) ∧ Below w.heap.size w wr) (fun x _ => 8 - (intOf x).toNat)
  case atStart => exact ⟨0, hs0, rfl, by omega, H6, U6, hs0_at, B6⟩
  case round =>
    obtain ⟨i, hs, rfl, hi, HI, UI, hsI, BI⟩ := hrel
    generalize wr = wo at *
    by_cases hi8 : i < 8
    · have hix : (i : Int) < 8 := by omega
      have cH : Calls Try.prog 21 #[.pointer (some ⟨w.heap.size, 0, none⟩)] wo fun e w' => ∃ TA TN TC, e = .returned (.tuple #[.agg #[.slice none 0 0, .int .u64 0, .slice TA TN TC], .bool true]) ∧ CurM w' w.heap.size A c KB (posH (i + 1)) ∧ Eff (fun q => q = w.heap.size) wo w' := by
        rcases Nat.eq_zero_or_pos i with rfl | h1
        · exact cH0 wo HI
        · exact cH1 wo i h1 hi8 HI
      have HI8 := Lib.hid hi8
      clear hi hi8
      go_upto_region 13 with (go_at_call 21; (with_reducible refine cH.mono ?_); rintro e' w7 ⟨TA, TN, TC, rfl, H7, E7⟩)
      obtain ⟨w8, e8, m8, b8⟩ : ∃ w8, w8 = w7.alloc (.cells #[.slice none 0 0, .int .u64 0, .slice TA TN TC] 60) ∧ Mem w8 w7.heap.size 60 #[.slice none 0 0, .int .u64 0, .slice TA TN TC] ∧ Below w7.heap.size w7 w8 := ⟨_, rfl, Mem.new w7 _ _, (Below.refl _ w7).alloc (Nat.le_refl _) _⟩
      rw [← e8]
      clear e8
      have hsz7 := E7.size
      have hsz8 := b8.size
      have hszo := BI.size
      have H8 := H7.below b8
      have U8 := (UnM.box UI (mem_tag HI.mem) (by decide) (by decide) (by decide) (by decide) E7).below b8
      go_upto_region 15 with (fail)
      apply calm_tail 6 [.is _, .is _, .is _, .is _, .is _, .is _] [[], [], [], [0], [3], [4, 1, 0, 1, 2]] (by kernel_rfl) (by kernel_rfl) (by kernel_rfl) rfl
      intro f a1 ha1
      simp only [List.take_succ_cons, List.take_zero, putL, Act.put, List.setIfInBounds_toArray, List.set_cons_succ, List.set_cons_zero] at ha1
      subst ha1
      refine ⟨?_, ?_⟩
      · refine AllCalm.cons (fun W hB hd => ?_) ?_
        · go_wp2_with (fail)
          exact CalmQ.mk rfl _ rfl (Below.refl _ _) rfl
        refine AllCalm.cons (fun W hB hd => ?_) ?_
        · go_wp2_with (fail)
          exact CalmQ.mk rfl _ rfl (Below.refl _ _) rfl
        refine AllCalm.cons (fun W hB hd => ?_) ?_
        · have k0 := (m8.below hB m8.lt).cell 0; have k1 := (m8.below hB m8.lt).cell 1; have k2 := (m8.below hB m8.lt).cell 2
          go_wp2_with (fail)
          exact CalmQ.mk rfl _ rfl (Below.refl _ _) rfl
        refine AllCalm.cons (fun W hB hd => ?_) ?_
        · obtain ⟨h0, -⟩ := hd
          have h0 : f 0 = _ := h0
          rw [h0]
          go_wp2_with (fail)
          exact CalmQ.mk rfl _ rfl (Below.refl _ _) rfl
        refine AllCalm.cons (fun W hB hd => ?_) ?_
        · obtain ⟨h3, -⟩ := hd
          have h3 : f 3 = _ := h3
          rw [h3]
          go_wp2_with (fail)
          exact CalmQ.mk rfl _ rfl (Below.refl _ _) rfl
        refine AllCalm.cons (fun W hB hd => ?_) ?_
        · obtain ⟨h4, h1, h0, -, h2, -⟩ := hd
          have h4 : f 4 = _ := h4
          have h1 : f 1 = _ := h1
          have h0 : f 0 = _ := h0
          have h2 : f 2 = _ := h2
          rw [h4, h1, h0, h2]
          go_wp2_with (fail)
          exact CalmQ.mk rfl _ rfl (Below.refl _ _) rfl
        exact AllCalm.nil
      · intro W hB hT
        obtain ⟨h0, h1, h2, h3, h4, h5, -⟩ := hT
        have h0 : f 0 = _ := h0
        have h1 : f 1 = _ := h1
        have h2 : f 2 = _ := h2
        have h3 : f 3 = _ := h3
        have h4 : f 4 = _ := h4
        have h5 : f 5 = _ := h5
        rw [h0, h1, h2, h3, h4, h5]
        clear h0 h1 h2 h3 h4 h5
        simp only [List.drop_succ_cons, List.drop_zero]
        obtain ⟨UF, EF, TF⟩ := un_host (U8.below hB) HI8.out (.slice TA TN TC)
        have hsF := hsTo_at UI.len i (.slice TA TN TC) hsI
        have HF := (H8.below hB).eff EF (fun q hq e => by omega)
        have BF : Below w.heap.size w (W.setCells Z (2 + i * 3) [.slice none 0 0, .int .u64 0, .slice TA TN TC]) := Eff.below (S := fun q => q = w.heap.size ∨ q = Z) ((((E7.mono fun _ _ h => .inl h).trans (Eff.of (S := fun _ => False) b8) fun _ _ h => h.elim).trans (Eff.of (S := fun _ => False) hB) fun _ _ h => h.elim).trans EF fun _ _ h => .inr h) BI BI.size fun q _ e => e.elim (fun e => Nat.le_of_eq e.symm) (fun e => by omega)
        go_wp2_with (refine wpList_store_mid rfl 60 (.tmp 50) (.tmp 47) rfl Z (2 + i * 3) #[.slice none 0 0, .int .u64 0, .slice TA TN TC] rfl rfl TF (by kernel_rfl) (by kernel_rfl) ?_)
        have hi9 := HI8.out
        exact ⟨⟨i + 1, _, rfl, hi9, HF, UF, hsF, BF⟩, by show 8 - ((i : Int) + 1).toNat < 8 - ((i : Int)).toNat; omega⟩
    · obtain rfl : i = 8 := by omega
      have q1 := HI.mem.cell 1
      have hend := HEND.out
      rw [hend] at q1
      clear hend
      go_wp2
      go_ret2
      exact ⟨Z, X, g, h, Y, hs, rfl, UI, hsI, BI⟩
end
end Un
end Go.Proofs.Ytpkebbibafldkaa
