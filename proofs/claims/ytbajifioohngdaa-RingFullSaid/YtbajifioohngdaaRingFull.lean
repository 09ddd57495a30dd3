/- RingFull: for all numbers and lists of numbers the statement's function tells true and turns nothing that was there. No condition. -/
import Derived.Test.YtbajifioohngdaaRrF
namespace Go.Proofs.Ytbajifioohngdaa
open Go.ChangeShapes Go.WideShapes Go.ChangeAt Go.RowKit Go.Lib
set_option linter.unusedVariables false
set_option linter.unusedSimpArgs false
namespace Rg
open Crc Dk
def meas (v x : Value) : Nat := match v, x with | .slice _ n _, .int _ 7 => n + 1 | _, _ => 0
theorem meas_le (A : Option Addr) (n c : Nat) (x : Value) : meas (.slice A n c) x ≤ n + 1 := by
  unfold meas
  split <;> simp_all
theorem zs_len (n : Nat) : (zs n).length = n := by simp [zs]
set_option maxRecDepth 100000 in
theorem walk_out (s : Int) (v : Value) (ls : List Int) (w : World) (hv : Sl w w.heap.size v ls.length (ls.map (Value.int .u16))) (ho : s < 2 ∨ 20 < s ∨ 60 < ls.length) :
    Calls Try.prog 3 #[.int .i64 s, v] w fun e w' => e = .returned (.bool true) ∧ Below w.heap.size w w' := by
  obtain ⟨A, c, rfl, _, _⟩ := hv.form
  by_cases h1 : s < 2
  · go_enter Try.func3, Try.ntmps3
    go_wp2_with (go_at_call 6; refine (known_any _).mono ?_; rintro e w1 ⟨rfl, hb1⟩)
    go_ret
    exact ⟨rfl, hb1⟩
  by_cases h2 : 20 < s
  · go_enter Try.func3, Try.ntmps3
    go_wp2_with (go_at_call 6; refine (known_any _).mono ?_; rintro e w1 ⟨rfl, hb1⟩)
    go_ret
    exact ⟨rfl, hb1⟩
  · have h4 : (60 : Int) < (ls.length : Int) := by omega
    clear ho
    go_enter Try.func3, Try.ntmps3
    go_wp2_with (go_at_call 6; refine (known_any _).mono ?_; rintro e w1 ⟨rfl, hb1⟩)
    go_ret
    exact ⟨rfl, hb1⟩
set_option maxRecDepth 100000 in
set_option maxHeartbeats 4000000 in
theorem walk_in (s : Nat) (v : Value) (ls : List Int) (w : World) (hv : Sl w w.heap.size v ls.length (ls.map (Value.int .u16))) (hwf : ∀ n ∈ ls, (Lit.int .u16 n).wf = true) (hs2 : 2 ≤ s) (hs20 : s ≤ 20) (hl60 : ls.length ≤ 60) :
    Calls Try.prog 3 #[.int .i64 (s : Nat), v] w fun e w' => e = .returned (.bool true) ∧ Below w.heap.size w w' := by
  obtain ⟨i0, hi, hz0, hz1, hz2⟩ := info_parts (show (Try.prog.info? 5).map (fun i => (i.zero, i.size, i.bytes)) = some (some (.int .u8 0), 1, 1) by kernel_rfl)
  obtain ⟨i2, hi2, hq0, hq1, hq2⟩ := info_parts int_info
  obtain ⟨A0, c0, rfl, _, _⟩ := hv.form
  have hsx : (s : Int) ≤ 20 := by omega
  have hsy : ¬ (s : Int) < 2 := by omega
  have hlx : ¬ (60 : Int) < (ls.length : Int) := by omega
  have cNew : ∀ W, Below w.heap.size w W → Calls Try.prog 7 #[.int .i64 (s : Nat)] W fun e w' => ∃ X O, e = .returned (.tuple #[.pointer (some ⟨X, 0, none⟩), .int .i64 0]) ∧ Dsk w w' X O (DS.new s) := fun W hW => (d_new (o := w) s (by omega) (by omega) hW).mono fun e w' ⟨X, O, h1, h2, _⟩ => ⟨X, O, h1, h2⟩
  have cOpen : ∀ W X O, Dsk w W X O (DS.new s) → Calls Try.prog 8 #[.pointer (some ⟨X, 0, none⟩), .int .i64 0, .int .i64 (s : Nat), .int .u64 1, .int .i64 0, .int .u32 1] W fun e w' => ∃ Y v R, e = .returned (.tuple #[.pointer (some ⟨Y, 0, none⟩), v, .int .i64 0]) ∧ Rng w w' X O (DS.new s) Y R (RS.new 0 s 1 1 0) ∧ (∀ k, R k → W.heap.size ≤ k) ∧ (∃ A c, v = .slice A 0 c) ∧ Below W.heap.size W w' := fun W X O h => open_blank s (by omega) h 0 s 1 1 0 hs2 (by omega) (by omega) (by decide) (by decide)
  have HS2 := Lib.hid hs2
  have HS20 := Lib.hid hs20
  have HL60 := Lib.hid hl60
  clear hs2 hs20 hl60
  go_enter Try.func3, Try.ntmps3
  go_wp2_with (first
    | (go_at_call 6; refine (known_any _).mono ?_; rintro e w1 ⟨rfl, hb1⟩)
    | (go_at_call 7; (with_reducible refine (cNew _ hb1).mono ?_); rintro e w2 ⟨X, O, rfl, s2⟩)
    | (go_at_call 8; (with_reducible refine (cOpen _ _ _ s2).mono ?_); rintro e w3 ⟨Y, v3, R, rfl, r3, hR3, ⟨A3, c3, rfl⟩, b3⟩))
  have hfl := Fl.start r3
  clear cNew cOpen
  go_loopw [10, 11, 12] (fun s10 s11 s12 wr => ∃ (j : Nat) (T : RS) (A : Option Addr) (c : Nat) (L : List Nat), j ≤ ls.length ∧ s10 = .slice A L.length c ∧ s11 = .int .i64 (T.used : Nat) ∧ s12 = .int .i64 (j : Nat) ∧ Hid (L = needs T) ∧ Fl w wr s X Y j T A c L) (fun _ _ s12 _ => ls.length - (intOf s12).toNat)
  case atStart => exact ⟨0, _, none, 0, [], Nat.zero_le _, rfl, rfl, rfl, Lib.hid rfl, hfl⟩
  case round =>
    obtain ⟨j, T, A, c, L, hj, rfl, rfl, rfl, HL, hF⟩ := hrel
    generalize wr = wo at *
    by_cases hjl : j < ls.length
    · have hjx : (j : Int) < (ls.length : Int) := by omega
      obtain ⟨b1, o1, rfl, hb1l, hcell⟩ := hv.at_ (by omega)
      obtain ⟨x, hx⟩ : ∃ x, ls[j]? = some x := ⟨_, List.getElem?_eq_getElem hjl⟩
      have hc0 := hcell j (.int .u16 x) (by rw [List.getElem?_map, hx]; rfl)
      have hcj : wo.cell? ⟨b1, o1 + j, none⟩ = some (.int .u16 x) := (hF.bl.cell (p := ⟨b1, o1 + j, none⟩) hb1l).trans hc0
      have hxw := hwf x (List.mem_of_getElem? hx)
      have hx0 : 0 ≤ x ∧ x ≤ 65535 := by simpa [Lit.wf, IntKind.min, IntKind.max, IntKind.bits, IntKind.signed] using hxw
      obtain ⟨m, rfl⟩ : ∃ m : Nat, x = (m : Int) := ⟨x.toNat, by omega⟩
      obtain ⟨n, hn⟩ : ∃ n, m % 3000 = n := ⟨_, rfl⟩
      have hrm : ((m : Int)).tmod 3000 = (n : Int) := by rw [Int.tmod_eq_emod_of_nonneg (by omega)]; omega
      have hn3 : n ≤ 3000 := by omega
      have hmx : (m : Int) ≤ 65535 := by omega
      have hnx : (n : Int) ≤ 3000 := by omega
      obtain ⟨k, hk⟩ : ∃ k, need n = k := ⟨_, rfl⟩
      have hk69 := need_le n (by omega)
      have hk1 := need_pos n
      rw [hk] at hk69 hk1
      have hkx : (k : Int) ≤ 69 := by omega
      have cr : ∀ W, Calls Try.prog 9 #[.int .i64 (n : Nat)] W fun e w' => e = .returned (.int .i64 (k : Nat)) ∧ W = w' := fun W => hk ▸ rneed_any n (by omega) W
      have cn : ∀ W, Calls Try.prog 10 #[.int .i64 (n : Nat)] W fun e w' => e = .returned (.int .i64 (k : Nat)) ∧ W = w' := fun W => hk ▸ need_any n (by omega) W
      have hj100 : j ≤ 100 := by have := HL60.out; omega
      have HB48 : Hid (i0.bytes * n ≤ 281474976710656) := Lib.hid (by rw [hz2]; omega)
      have HML : Hid (n ≤ maxLen) := Lib.hid (by unfold maxLen; omega)
      have capp : ∀ (W0 W : World) T A c L, Fl w W0 s X Y j T A c L → W.ownsRow W0.heap.size 5 1 (.slice (some ⟨W0.heap.size, 0, none⟩) n n) n (madeCells (Value.int .u8 0).cells (n * 1)).toList → W0.grownBy W none → Calls Try.prog 11 #[.pointer (some ⟨Y, 0, none⟩), .slice (some ⟨W0.heap.size, 0, none⟩) n n] W fun e w' => ∃ x r : Int, e = .returned (.tuple #[.int .u64 x, .int .i64 r]) ∧ ((r = 7 ∧ s < T.used + k ∧ Fl w w' s X Y j T A c L) ∨ (r = 0 ∧ T.used + k ≤ s ∧ Fl w w' s X Y (j + 1) (T.app (zs n)) A c L)) := by
        intro W0 W T A c L h ho hg
        have hb := (Below.refl _ W0).grown hg (Nat.le_refl _) (fun k hk => by cases hk)
        have hrow := row_of_own ho rfl
        rw [made_bytes] at hrow
        have hm : Mem W W0.heap.size 5 (bs (zs n)).toArray := by
          have : bs (zs n) = List.replicate n (.int .u8 0) := by simp [bs, zs]
          rw [this]; exact hrow
        have := fl_any h hb HS20.out hj100 n W0.heap.size hn3 hm (Nat.le_refl _)
        rw [hk] at this
        exact this
      have HN := Lib.hid hn3
      have HK := Lib.hid hk
      clear hn hx hxw hx0 hn3 hk hc0
      go_wp2_with (first
        | (go_at_call 9; (with_reducible refine (cr _).mono ?_); rintro e w4 ⟨rfl, rfl⟩)
        | (go_at_call 10; (with_reducible refine (cn _).mono ?_); rintro e w4 ⟨rfl, rfl⟩)
        | (at_make; (refine wpList_make_full _ rfl (.tmp 66) (.tmp 66) 39 rfl wo.heap.size 5 i0 _ 1 Try.underlying39 hi hz0 hz1 .i64 .i64 _ _ n rfl rfl rfl rfl HB48.out HML.out (Nat.le_refl _) ?_; intro w4 ho4 hg4; have cap4 := capp _ _ _ _ _ _ hF ho4 hg4))
        | (go_at_call 11; (with_reducible refine cap4.mono ?_); rintro e w5 ⟨x5, r5, rfl, hr5⟩))
      go_loopw [10, 11, 16] (fun s10 s11 s16 wr => ∃ (r : Int) (T : RS) (A : Option Addr) (c : Nat) (L : List Nat), s10 = .slice A L.length c ∧ s11 = .int .i64 (T.used : Nat) ∧ s16 = .int .i64 r ∧ Hid (L = needs T) ∧ ((r = 7 ∧ s < T.used + k ∧ Fl w wr s X Y j T A c L) ∨ (r = 0 ∧ T.used + k ≤ s ∧ Fl w wr s X Y (j + 1) (T.app (zs n)) A c L))) (fun s10 _ s16 _ => meas s10 s16)
      case atStart => exact ⟨r5, T, A, c, L, rfl, rfl, rfl, HL, hr5⟩
      case round =>
        obtain ⟨r, T1, A1, c1, L1, rfl, rfl, rfl, HL1, hr⟩ := hrel
        rcases hr with ⟨rfl, hfull, hF1⟩ | ⟨rfl, hfit, hF1⟩
        · have hux : (T1.used : Int) ≤ 20 := by have := (fl_ok hF1).us; have := hF1.n; have := HS20.out; omega
          by_cases hks : k ≤ s
          · have hkx2 : (k : Int) ≤ (s : Int) := by omega
            have hfx : ¬ (T1.used : Int) + (k : Int) ≤ (s : Int) := by omega
            have hsum := hF1.sum
            obtain ⟨l, M, hrec⟩ : ∃ l M, T1.recs = l :: M := by
              cases hr : T1.recs with
              | nil =>
                rw [show needs T1 = [] by unfold needs; rw [hr]; rfl] at hsum
                have : T1.used = 0 := hsum
                omega
              | cons l M => exact ⟨l, M, rfl⟩
            obtain ⟨L2, hL2⟩ : ∃ L2, M.map (fun l => need l.length) = L2 := ⟨_, rfl⟩
            obtain ⟨nd, hnd⟩ : ∃ nd, need l.length = nd := ⟨_, rfl⟩
            have hL1 : L1 = nd :: L2 := by rw [HL1.out, ← hL2, ← hnd]; unfold needs; rw [hrec]; rfl
            have hle : nd ≤ T1.used := by
              rw [hsum, ← HL1.out, hL1]
              exact Nat.le_add_right _ _
            have HL2 : Hid (L2 = needs (T1.cut l M)) := Lib.hid hL2.symm
            have hud : (T1.used : Int) - (nd : Int) = (((T1.cut l M).used : Nat) : Int) := by
              show _ = ((T1.used - need l.length : Nat) : Int)
              rw [hnd]
              omega
            have HUD : Hid (Value.int .i64 ((T1.used : Int) - (nd : Int)) = .int .i64 (((T1.cut l M).used : Nat) : Int)) := Lib.hid (by rw [hud])
            subst hL1
            obtain ⟨g, off, cc, hee, hcc, _, _, _, _, _⟩ := hF1.row.at_ (by simp)
            simp only [Value.slice.injEq, true_and] at hee
            obtain ⟨rfl, rfl⟩ := hee
            have hfst : (T1.first : Int) ≤ 200 := by have := hF1.nx; unfold RS.next at this; omega
            have cF := fl_first hF1
            have cT : ∀ q, Calls Try.prog 13 #[.pointer (some ⟨Y, 0, none⟩), .int .u64 ((T1.first : Int) + 1)] (wr.drewN q) fun e w' => e = .returned (.int .i64 0) ∧ Fl w w' s X Y j (T1.cut l M) (some ⟨g, off, none⟩) c1 (nd :: L2) := fun q => fl_trim (hF1.below (below_drewN (Below.refl _ _) q)) HS20.out hj100 l M hrec
            have cy : ∀ W, Fl w W s X Y j (T1.cut l M) (some ⟨g, off, none⟩) c1 (nd :: L2) → W.cell? ⟨g, off, none⟩ = some (.int .i64 (nd : Nat)) := fun W h => by
              obtain ⟨g', o', c', he, _, _, _, _, _, hcl⟩ := h.row.at_ (by simp)
              simp only [Value.slice.injEq, Option.some.injEq, Addr.mk.injEq, and_true, true_and] at he
              obtain ⟨⟨rfl, rfl⟩, rfl⟩ := he
              exact hcl 0 _ rfl
            have hndx : (nd : Int) ≤ 20 := by omega
            have hlen : ((nd :: L2).length : Int) = (L2.length : Int) + 1 := by simp
            clear hsum hrec hL2 hnd hle hfull hF1 hud
            by_cases hc1 : c1 = 1
            · subst hc1
              go_wp2_with (first
                | (go_at_call 12; (with_reducible refine cF.mono ?_); rintro e w6 ⟨rfl, k6, rfl⟩; have cT6 := cT k6)
                | (go_at_call 13; (with_reducible refine cT6.mono ?_); rintro e w7 ⟨rfl, hF7⟩; have y7 := cy w7 hF7; have hT7 := hF7.tail 0 rfl off (.inr ⟨rfl, rfl⟩))
                | (at_make; (refine wpList_make_full _ rfl (.tmp 107) (.tmp 107) 39 rfl w7.heap.size 5 i0 _ 1 Try.underlying39 hi hz0 hz1 .i64 .i64 _ _ n rfl rfl rfl rfl HB48.out HML.out (Nat.le_refl _) ?_; intro w9 ho9 hg9; have cap9 := capp _ _ _ _ _ _ hT7 ho9 hg9))
                | (go_at_call 11; (with_reducible refine cap9.mono ?_); rintro e w10 ⟨x10, r10, rfl, hr10⟩))
              all_goals exact ⟨⟨r10, T1.cut l M, some ⟨g, off, none⟩, 0, L2, rfl, HUD.out, rfl, HL2, hr10⟩, Nat.lt_of_le_of_lt (meas_le _ _ _ _) (by show _ < L2.length + 1 + 1; omega)⟩
            · obtain ⟨d, rfl⟩ : ∃ d, c1 = d + 1 := ⟨c1 - 1, by have : (nd :: L2).length = L2.length + 1 := rfl; omega⟩
              have hd0 : ¬ d = 0 := by omega
              go_wp2_with (first
                | (go_at_call 12; (with_reducible refine cF.mono ?_); rintro e w6 ⟨rfl, k6, rfl⟩; have cT6 := cT k6)
                | (go_at_call 13; (with_reducible refine cT6.mono ?_); rintro e w7 ⟨rfl, hF7⟩; have y7 := cy w7 hF7; have hT7 := hF7.tail d rfl (off + 1) (.inl rfl))
                | (at_make; (refine wpList_make_full _ rfl (.tmp 107) (.tmp 107) 39 rfl w7.heap.size 5 i0 _ 1 Try.underlying39 hi hz0 hz1 .i64 .i64 _ _ n rfl rfl rfl rfl HB48.out HML.out (Nat.le_refl _) ?_; intro w9 ho9 hg9; have cap9 := capp _ _ _ _ _ _ hT7 ho9 hg9))
                | (go_at_call 11; (with_reducible refine cap9.mono ?_); rintro e w10 ⟨x10, r10, rfl, hr10⟩))
              all_goals exact ⟨⟨r10, T1.cut l M, some ⟨g, (off + 1), none⟩, d, L2, rfl, HUD.out, rfl, HL2, hr10⟩, Nat.lt_of_le_of_lt (meas_le _ _ _ _) (by show _ < L2.length + 1 + 1; omega)⟩
          · have hkx2 : (s : Int) < (k : Int) := by omega
            have cR := fl_room hF1 HS20.out
            clear hks hfull
            go_wp2_with (go_at_call 14; (with_reducible refine cR.mono ?_); rintro e w6 ⟨rfl, k6, rfl⟩)
            all_goals exact ⟨⟨j + 1, T1, A1, c1, L1, hjl, rfl, rfl, by go_num, HL1, (hF1.below (below_drewN (Below.refl _ _) _)).more⟩, by simp [intOf]; omega⟩
        · have hkx2 : ¬ (s : Int) < (k : Int) := by omega
          have hLl : L1.length + 1 ≤ 1000000 := by
            have h1 := hF1.nx
            have h2 : L1.length = T1.recs.length := by rw [HL1.out]; unfold needs; rw [List.length_map]
            have h3 : (T1.app (zs n)).next = T1.first + (T1.recs.length + 1) := by
              show T1.first + (T1.recs ++ [zs n]).length = _
              rw [List.length_append]; rfl
            omega
          have hrow := fun ob => hF1.row.below ((Below.refl _ wr).alloc (Nat.le_refl _) ob)
          have hu : (T1.app (zs n)).used = T1.used + k := by show T1.used + need (zs n).length = _; rw [zs_len, HK.out]
          have hux : (T1.used : Int) ≤ 20 := by have := (fl_ok hF1).us; have := hF1.n; have := HS20.out; have h5 : (T1.app (zs n)).n = T1.n := rfl; omega
          have hpu : ∀ (w6 : World) g6 o6 d6, RowO w6 (fun q => (Value.slice A1 L1.length c1).ownBlock = some q ∨ q = (wr.alloc (.cells #[.int .i64 (k : Nat)] 3)).heap.size) 3 (.slice (some ⟨g6, o6, none⟩) (L1.length + 1) d6) (L1.length + 1) (ints L1 ++ [.int .i64 (k : Nat)]) → Eff (fun q => (Value.slice A1 L1.length c1).ownBlock = some q) (wr.alloc (.cells #[.int .i64 (k : Nat)] 3)) w6 → Fl w w6 s X Y (j + 1) (T1.app (zs n)) (some ⟨g6, o6, none⟩) d6 (L1 ++ [k]) := fun w6 g6 o6 d6 ho he => by
            have hba : Below wr.heap.size wr (wr.alloc (.cells #[.int .i64 (k : Nat)] 3)) := (Below.refl _ _).alloc (Nat.le_refl _) _
            exact hF1.push ((Eff.of hba).trans he fun _ _ h => h) (ho.more fun q hq => hq.imp id fun h => by have := hba.size; omega)
          have cR : ∀ W g6 o6 d6, Fl w W s X Y (j + 1) (T1.app (zs n)) (some ⟨g6, o6, none⟩) d6 (L1 ++ [k]) → Calls Try.prog 14 #[.pointer (some ⟨Y, 0, none⟩)] W fun e w' => e = .returned (.int .i64 ((s : Int) - ((T1.used : Int) + (k : Int)))) ∧ ∃ k, w' = W.drewN k := fun W g6 o6 d6 h => by
            have := fl_room h HS20.out
            rw [hu, show ((T1.used + k : Nat) : Int) = (T1.used : Int) + (k : Int) by omega] at this
            exact this
          clear hfit
          go_wp2_with (first
            | (at_builtin; (refine wpList_append_ro _ rfl (.tmp 128) (.tmp 130) _ rfl 3 i2 _ 8 Try.underlying34 hi2 hq0 hq1 hq2 rfl (.slice A1 L1.length c1) L1.length (ints L1) rfl (hrow _) wr.heap.size 1 (.int .i64 (k : Nat)) rfl (Mem.new wr _ _) rfl hLl (by omega) ?_); intro v6 w6 ho6 he6 hat6 hf6; obtain ⟨g6, o6, d6, rfl⟩ := hf6; have hF6 := hpu _ _ _ _ ho6 he6; have cR6 := cR _ _ _ _ hF6)
            | (go_at_call 14; (with_reducible refine cR6.mono ?_); rintro e w7 ⟨rfl, k7, rfl⟩))
          all_goals exact ⟨⟨j + 1, T1.app (zs n), some ⟨g6, o6, none⟩, d6, L1 ++ [k], hjl, by rw [List.length_append]; rfl, by rw [hu]; go_num, by go_num, Lib.hid (by rw [needs_app, HK.out, HL1.out]), hF6.below (below_drewN (Below.refl _ _) _)⟩, by simp [intOf]; omega⟩
    · obtain rfl : j = ls.length := by omega
      have hbl := hF.bl
      go_wp2
      go_ret
      exact ⟨rfl, hbl⟩
theorem walk (s : Int) (v : Value) (ls : List Int) (w : World) (_ : -9223372036854775808 ≤ s) (_ : s ≤ 9223372036854775807) (hv : Sl w w.heap.size v ls.length (ls.map (Value.int .u16))) (hw : ∀ n ∈ ls, (Lit.int .u16 n).wf = true) :
    Calls Try.prog 3 #[.int .i64 s, v] w fun e w' => e = .returned (.bool true) ∧ Below w.heap.size w w' := by
  by_cases ho : s < 2 ∨ 20 < s ∨ 60 < ls.length
  · exact walk_out s v ls w hv ho
  · obtain ⟨n, rfl⟩ : ∃ n : Nat, s = n := ⟨s.toNat, by omega⟩
    exact walk_in n v ls w hv hw (by omega) (by omega) (by omega)
set_option maxRecDepth 100000 in
theorem lifted (os : Os) (started : os.Started) (H : Type) (enc : TypeId × Value → H) :
    ReturnsInHanded {} Try.checked os 3 .any (Rows.ringFullSpec.pre6 enc Try.prog Try.f3 Rows.ringFullRow.domain false) (Rows.ringFullSpec.post enc Try.prog Try.f3 false true false false) := by
  refine returnsInHanded_of_change (C := Try.checked) own started (by kernel_rfl) Try.func3
    (ChangeSpec.witness6 (enc := enc) (C := Try.checked) false ⟨#[], #[.int .i64 0, .slice none 0 0], []⟩ 8 (by kernel_rfl) (by kernel_rfl) (by kernel_rfl) (by kernel_rfl)) ?_
  intro W base args ds gs before hval0 hW hcnd _
  have hval : ∀ (j : Nat) t v, Try.f3.params[j]? = some t → args[j]? = some v → Value.okWide Try.prog W .any base t v := hval0
  have hW' := hW
  obtain ⟨p, q, hA0, hV, rfl, hfz, hnd⟩ := hW
  have hA : DataW.TrodAll enc Try.prog W 0 (fun _ => true) true Try.f3.params.toList args.toList ds p := hA0
  rw [Try.params3] at hA hval
  obtain ⟨v0, vs0, d0, ds0, p0, q0, hargs, rfl, rfl, h0, r0⟩ := trodAll_cons hA
  obtain ⟨v1, vs1, d1, ds1, p1, q1, rfl, rfl, rfl, h1, r1⟩ := trodAll_cons r0
  obtain ⟨rfl, rfl, rfl⟩ := trodAll_nil r1
  obtain rfl : args = #[v0, v1] := by cases args; simp_all
  obtain ⟨rfl, rfl⟩ := trodVars_none hV
  obtain ⟨a0, rfl, _, _, w0⟩ := open_int Try.underlying3 (hval 0 3 v0 rfl rfl) h0
  have b0 := bounds_i64 w0
  obtain ⟨z1, s1, w1, e1⟩ := open_sl Try.underlying22 Try.underlying35 (by kernel_rfl) (hval 1 22 v1 rfl rfl) h1
  refine (walk a0 v1 z1 W b0.1 b0.2 s1 w1).mono fun e W' ⟨he, hb⟩ => ?_
  subst he
  exact ⟨_, rfl, law_post laidOut (by kernel_rfl) rfl (by kernel_rfl) Try.underlying4 rfl rfl rfl hW' hb⟩

theorem proved : Rows.RingFullSaid :=
  OpenClaim.holds_of_wide 3 Try.f3 rfl rfl rfl rfl rfl rfl rfl ⟨rfl, rfl, rfl, rfl, rfl⟩ rfl rfl rfl rfl rfl (by kernel_rfl) Try.func3 (by kernel_rfl)
    (of_decide_eq_true (by kernel_rfl)) (by unfold Func.isWrapper; first | (rw [if_pos (by decide +kernel)]; kernel_rfl) | (rw [if_neg (by decide +kernel)]; exact ⟨rfl, rfl⟩))
    (fun os started H enc _ => lifted os started H enc)
end Rg
end Go.Proofs.Ytbajifioohngdaa
