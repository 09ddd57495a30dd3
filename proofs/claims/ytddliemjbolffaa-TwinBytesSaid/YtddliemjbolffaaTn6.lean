/- The reference's Put onto a constant's bytes; gemelref11's Pack. -/
import Derived.Test.YtddliemjbolffaaTn5
import Derived.Test.YtddliemjbolffaaPadB
namespace Go.Proofs.Ytddliemjbolffaa
open Go.ChangeShapes Go.WideShapes Go.ChangeAt Go.RowKit Go.Lib
set_option linter.unusedVariables false
set_option linter.unusedSimpArgs false
section
variable {P : Program} (w : World)
/-- append onto a full row, whoever owns it: nothing old turns. -/
theorem wpList_append_full {ops : Array Oper} {rest : List Oper} {o : Oper} {a : Act} {Q : Exit → Act → World → Prop} (hgd : o.guard = none) (s x : Operand) (t : TypeId)
    (ho : o.op = .call { callee := .builtin .append, args := #[s, x], argTypes := #[t, t] })
    (e : TypeId) (i : TypeInfo) (z : Value) (ht : P.underlying t = some (.slice e)) (hi : P.info? e = some i) (hz : i.zero = some z)
    (hsize : i.size = 1) (hby : i.bytes = 1) (hzs : z.cells.size = 1)
    (g n : Nat) (xs : List Value) (hs : a.eval s = .slice (some ⟨g, 0, none⟩) n n) (hx1 : xs.length = n) (holds : ∀ j u, xs[j]? = some u → w.cell? ⟨g, j, none⟩ = some u)
    (h m c : Nat) (news : List Value) (hx : a.eval x = .slice (some ⟨h, 0, none⟩) m c) (hl : news.length = m) (hnews : ∀ j u, news[j]? = some u → w.cell? ⟨h, j, none⟩ = some u)
    (hm : 0 < m) (h63 : n + m ≤ 17592186044416)
    (hk : ∀ v' w', w'.ownsRow w.heap.size e 1 v' (n + m) (xs ++ news) → Below w.heap.size w w' → wpList P ops Q rest (a.put o.dst v') w') : wpList P ops Q (o :: rest) a w := by
  have hlen : (xs ++ news).length = (n + m) * 1 := by rw [List.length_append, hx1, hl, Nat.mul_one]
  have hr := run_append_grow (P := P) w t o.type e i z ht hi hz ⟨g, 0, none⟩ n n xs (by rw [hsize]; omega) (fun j u hu => by rw [add_plain, Nat.zero_add]; exact holds j u hu) ⟨h, 0, none⟩ m c news (by rw [hsize]; omega) (fun j u hu => by rw [add_plain, Nat.zero_add]; exact hnews j u hu) (by omega) (by omega) (growslice_fits (by omega) (by rw [hby]; omega))
  have hge := grownCap_ge w (n + m) n e
  have hcm : grownCap w (n + m) n e ≤ maxLen := grownCap_le_maxLen w (n + m) n e (by unfold maxLen; omega)
  refine wpList_plain hgd fun K hK => ?_
  unfold Oper.wp execOp
  simp only [ho, resolve, invoke, builtin, Sem.run_bind, Sem.run_pure, Result.andThen_ok, List.map_toArray, List.map_cons, List.map_nil, hs, hx, hr]
  refine hK _ _ (hk _ _ ⟨hlen, .inr ⟨w.heap.size, _, _, rfl, Nat.le_refl _, heap_alloc_new w.drew _, hge, hcm, ?_, ?_⟩⟩ (((Below.refl _ _).drew).alloc (Nat.le_refl _) _))
  · simp only [Array.size_append, List.size_toArray, size_zeroCells, hzs, hx1, hl]
    omega
  · simp only [Array.toList_append, List.append_assoc]
    rw [← List.append_assoc, ← hlen]
    exact List.take_left
end
theorem rput_full (g : Nat) (l : List UInt8) (x m : Nat) (w : World) (hv : Sl w w.heap.size (.slice (some ⟨g, 0, none⟩) l.length l.length) l.length (bs l)) (hne : l ≠ []) (hx : x < 18446744073709551616) (hl : l.length ≤ 8796093022208) (hm1 : 1 ≤ m) (hm8 : m ≤ 8) :
    Calls Try.prog 19 #[.slice (some ⟨g, 0, none⟩) l.length l.length, .int .u64 x, .int .i64 (m : Nat)] w fun e w' => ∃ v', e = .returned v' ∧ w'.ownsRow w.heap.size 5 1 v' (l.length + m) (bs (l ++ be x m)) ∧ Below w.heap.size w w' := by
  obtain ⟨i0, hi, hz0, hz1, hz2⟩ := info_parts info_u8
  have hl0 : 0 < l.length := List.length_pos_iff.2 hne
  clear hne
  go_enter Try.func19, Try.ntmps19
  go_wp2
  go_loopw [0, 7] (fun v i wr => ∃ k : Nat, k ≤ m ∧ i = .int .i64 ((m : Int) - 1 - k) ∧ (k = 0 → v = .slice (some ⟨g, 0, none⟩) l.length l.length) ∧ (1 ≤ k → wr.ownsRow w.heap.size 5 1 v (l.length + k) (bs (l ++ beTo x m k))) ∧ Below w.heap.size w wr) (fun _ i _ => (intOf i + 1).toNat)
  case atStart => exact ⟨0, by omega, by simp, fun _ => rfl, fun h => by omega, Below.refl _ _⟩
  case round =>
    obtain ⟨k, hk, rfl, hv0, hown, hbw⟩ := hrel
    by_cases hlt : k < m
    · have hsl := Sl.fresh wr #[.int .u8 ((x : Int) / 2 ^ (8 * (m - 1 - k)) % 256)] 5 (n := 1) rfl (by unfold maxLen; omega)
      have hbs : (#[Value.int .u8 ((x : Int) / 2 ^ (8 * (m - 1 - k)) % 256)] : Array Value).toList = bs [UInt8.ofNat (x / 256 ^ (m - 1 - k))] := by
        simp only [bs, List.map_cons, List.map_nil]; rw [byte_val]
      rw [hbs] at hsl
      clear hbs
      have hbs := hbw.size
      by_cases hk0 : k = 0
      · have hv1 := hv0 hk0
        subst hv1
        have HK0 := Lib.hid hk0
        clear hk0
        have hcells : ∀ j u, (bs l)[j]? = some u → (wr.alloc (.cells #[.int .u8 ((x : Int) / 2 ^ (8 * (m - 1 - k)) % 256)] 5)).cell? ⟨g, j, none⟩ = some u := by
          have h2 := hv.below (hbw.alloc hbw.size (.cells #[.int .u8 ((x : Int) / 2 ^ (8 * (m - 1 - k)) % 256)] 5))
          obtain ⟨b, off, e, _, h5⟩ := h2.at_ hl0
          injection e with e1
          injection e1 with e2 e3
          subst e2; subst e3
          intro j u hu
          have := h5 j u hu
          rwa [Nat.zero_add] at this
        have hnw : ∀ j u, (bs [UInt8.ofNat (x / 256 ^ (m - 1 - k))])[j]? = some u → (wr.alloc (.cells #[.int .u8 ((x : Int) / 2 ^ (8 * (m - 1 - k)) % 256)] 5)).cell? ⟨wr.heap.size, j, none⟩ = some u := by
          obtain ⟨b, off, e, _, h5⟩ := hsl.at_ (by omega)
          injection e with e1
          injection e1 with e2 e3
          subst e2; subst e3
          intro j u hu
          have := h5 j u hu
          rwa [Nat.zero_add] at this
        go_wp2_with (at_builtin; (refine wpList_append_full _ rfl (.tmp 21) (.tmp 28) _ rfl 5 i0 _ Try.underlying23 hi hz0 hz1 hz2 rfl g l.length (bs l) rfl (by simp) hcells wr.heap.size 1 _ _ rfl (by simp) hnw (by omega) (by omega) ?_); intro v2 w2 hown3 hb3)
        have hb2 := (hbw.alloc hbw.size (.cells #[.int .u8 ((x : Int) / 2 ^ (8 * (m - 1 - k)) % 256)] 5)).trans (hb3.mono (by simp; omega))
        have hown4 := owns_mono (base' := w.heap.size) hown3 (by simp; omega)
        clear hsl hcells hnw hv0 hown
        go_roundw
        case rel => exact ⟨k + 1, by omega, by congr 1; omega, fun h => by omega, fun _ => ownsRow_len hown4 (by have := HK0.out; omega) (by rw [beTo_succ, ← List.append_assoc, bs_app (l ++ beTo x m k), HK0.out]; simp [beTo]), hb2⟩
        case measure => simp [intOf]; omega
      · have hown := hown (by omega)
        obtain ⟨A', c', rfl, hc1', hc2'⟩ := (Sl.of_own hown).form
        have hown2 := hown.alloc (.cells #[.int .u8 ((x : Int) / 2 ^ (8 * (m - 1 - k)) % 256)] 5)
        clear hv0
        go_wp2_with (at_builtin; refine wpList_append_sl _ rfl (.tmp 21) (.tmp 28) _ rfl w.heap.size 5 i0 _ Try.underlying23 hi hz0 hz1 (by omega) rfl _ (l.length + k) (bs (l ++ beTo x m k)) rfl hown2 _ _ 1 _ rfl hsl bs_one (by omega) (by simp; omega) ?_; intro v2 w2 hown3 hg3 hat3)
        have hb2 : Below w.heap.size w w2 := below_own (hbw.alloc (by omega) _) hg3 (by simp; omega) (fun k hk => (hown2.lt k hk).1)
        clear hat3 hg3 hsl hown2
        go_roundw
        case rel => exact ⟨k + 1, by omega, by congr 1; omega, fun h => by omega, fun _ => ownsRow_len hown3 (by omega) (by rw [beTo_succ, ← List.append_assoc, bs_app (l ++ beTo x m k)]), hb2⟩
        case measure => simp [intOf]; omega
    · have hkm : k = m := by omega
      have hown := hown (by omega)
      obtain ⟨A', c', rfl, hc1', hc2'⟩ := (Sl.of_own hown).form
      clear hv0
      go_wp2_with fail
      go_ret
      subst hkm
      have hp : l ++ be x k = l ++ beTo x k k := by unfold be; simp
      exact ⟨_, rfl, by rw [hp]; exact hown, hbw⟩
namespace Tw
open Dk Crc
theorem rpack_long (n : Nat) (v : Value) (l : List UInt8) (w : World) (hv : Sl w w.heap.size v l.length (bs l)) (hl : 488 < l.length) :
    Calls Try.prog 7 #[.int .u64 (n : Nat), v] w fun e w' => e = .returned (.tuple #[.slice none 0 0, .int .i64 5]) ∧ w = w' := by
  obtain ⟨A, c, rfl, _, _⟩ := hv.form
  have hlx : (488 : Int) < (l.length : Int) := by omega
  go_enter Try.func7, Try.ntmps7
  go_wp2
  go_ret2
  exact ⟨rfl, rfl⟩
set_option maxRecDepth 100000 in
set_option maxHeartbeats 1000000 in
theorem rpack_ok (n : Nat) (hn : n < 18446744073709551616) (v : Value) (l : List UInt8) (w : World) (hv : Sl w w.heap.size v l.length (bs l)) (hl : l.length ≤ 488) :
    Calls Try.prog 7 #[.int .u64 (n : Nat), v] w fun e w' => ∃ v', e = .returned (.tuple #[v', .int .i64 0]) ∧ w'.ownsRow w.heap.size 5 1 v' 512 (bs (packS n l)) ∧ Below w.heap.size w w' := by
  obtain ⟨i0, hi, hz0, hz1, hz2⟩ := info_parts (show (Try.prog.info? 5).map (fun i => (i.zero, i.size, i.bytes)) = some (some (.int .u8 0), 1, 1) by kernel_rfl)
  obtain ⟨A, c, rfl, _, _⟩ := hv.form
  have hlx : (l.length : Int) ≤ 488 := by omega
  have kc := fun (W : World) (C : Array Value) (n c : Nat) => Lib.run_convert_bytes_const (P := Try.prog) W 23 5 C n c Try.underlying23 Try.underlying5
  have hb1 : Below w.heap.size w (w.alloc (.cells #[.int .u8 84, .int .u8 87, .int .u8 73, .int .u8 78] 5 (4, 5))) := (Below.refl _ w).alloc (Nat.le_refl _) _
  have hsm : Sl (w.alloc (.cells #[.int .u8 84, .int .u8 87, .int .u8 73, .int .u8 78] 5 (4, 5))) (w.alloc (.cells #[.int .u8 84, .int .u8 87, .int .u8 73, .int .u8 78] 5 (4, 5))).heap.size (.slice (some ⟨w.heap.size, 0, none⟩) 4 4) mark.length (bs mark) := Sl.freshM w #[.int .u8 84, .int .u8 87, .int .u8 73, .int .u8 78] _ _ rfl (Nat.le_refl _) (by unfold maxLen; omega)
  have hput1 : Calls Try.prog 19 #[.slice (some ⟨w.heap.size, 0, none⟩) 4 4, .int .u64 (n : Nat), .int .i64 8] (w.alloc (.cells #[.int .u8 84, .int .u8 87, .int .u8 73, .int .u8 78] 5 (4, 5))) fun e w' => ∃ v', e = .returned v' ∧ w'.ownsRow w.heap.size 5 1 v' (mark ++ be n 8).length (bs (mark ++ be n 8)) ∧ Below w.heap.size w w' := (rput_full w.heap.size mark n 8 _ hsm (by decide) hn (by decide) (by omega) (by omega)).mono fun e w' ⟨v', h1, h2, h3⟩ => ⟨v', h1, owns_mono (ownsRow_len h2 (by simp) rfl) (by simp), hb1.trans (h3.mono (by simp))⟩
  have hput2 : ∀ W v', W.ownsRow w.heap.size 5 1 v' (mark ++ be n 8).length (bs (mark ++ be n 8)) → Below w.heap.size w W → Calls Try.prog 19 #[v', .int .u64 (l.length : Nat), .int .i64 2] W fun e w' => ∃ v'', e = .returned v'' ∧ w'.ownsRow w.heap.size 5 1 v'' 14 (bs (mark ++ be n 8 ++ be l.length 2)) ∧ Below w.heap.size w w' := fun W v' ho hb => (rput_any v' (mark ++ be n 8) l.length 2 W w.heap.size ho hb.size (by omega) (by simp [mark]) (by omega) (by omega)).mono fun e w' ⟨v'', h1, h2, h3⟩ => by
    have hp := putS_is (mark ++ be n 8) l.length 2 (by omega)
    rw [show ((2 : Nat) : Int) = 2 by rfl] at hp
    rw [hp] at h2
    exact ⟨v'', h1, ownsRow_len h2 (by simp [mark]) rfl, hb.trans h3⟩
  have hvW : ∀ W, Below w.heap.size w W → Sl W W.heap.size (.slice A l.length c) l.length (bs l) := fun W hb => hv.now hb
  have hml := moreS_lt 0 (packP n l)
  have hpl := packP_len (n := n) hl
  have hsum := fun W v (ho : W.ownsRow w.heap.size 5 1 v 508 (bs (packP n l))) => rsum_any v (packP n l) W (by rw [hpl]; exact Sl.of_own ho)
  have hfour := fun W => four_any (moreS 0 (packP n l)) W hml
  have hseal : packS n l = packP n l ++ le4 (moreS 0 (packP n l)) := rfl
  have hpadE : packP n l = packB n l ++ List.replicate (494 - l.length) 0 := rfl
  have hB : packB n l = mark ++ be n 8 ++ be l.length 2 ++ l := rfl
  have HS := Lib.hid hseal
  have HP := Lib.hid hpadE
  have HB := Lib.hid hB
  clear hseal hpadE hB hn hsm
  generalize moreS 0 (packP n l) = M at *
  go_enter Try.func7, Try.ntmps7
  go_wp2_with (first
    | (go_at_call 19; (with_reducible refine (hput2 _ _ o2 b2).mono ?_); rintro e w3 ⟨v3, rfl, o3, b3⟩; have hs3 := hvW _ b3)
    | (go_at_call 19; (with_reducible refine hput1.mono ?_); rintro e w2 ⟨v2, rfl, o2, b2⟩)
    | (at_builtin; (refine wpList_append_sl _ rfl (.tmp 19) (.tmp 20) _ rfl w.heap.size 5 i0 _ Try.underlying23 hi hz0 hz1 (by omega) rfl v3 14 (bs (mark ++ be n 8 ++ be l.length 2)) rfl o3 _ (.slice A l.length c) l.length (bs l) rfl hs3 bs_one (by omega) b3.size ?_); intro v4 w4 o4 g4 at4; have b4 := below_own b3 g4 b3.size (fun k hk => (own_tag o3 k hk).1)))
  have o4' : w4.ownsRow w.heap.size 5 1 v4 (14 + l.length) (bs (packB n l)) := by rw [HB.out, bs_app]; exact o4
  obtain ⟨A4, c4, rfl, _, _⟩ := own_form o4'
  clear o4 hput1 hput2
  go_loopw [6] (fun v wr => ∃ (L : Nat) (A : Option Addr) (c : Nat), v = .slice A L c ∧ 14 + l.length ≤ L ∧ L ≤ 508 ∧ wr.ownsRow w.heap.size 5 1 v L (bs (packB n l ++ List.replicate (L - (14 + l.length)) 0)) ∧ Below w.heap.size w wr) (fun v _ => 508 - lenV v)
  case atStart => exact ⟨14 + l.length, A4, c4, rfl, by omega, by omega, by simpa using o4', b4⟩
  case round =>
    obtain ⟨L, A5, c5, rfl, hL1, hL2, ho, hb⟩ := hrel
    have hbs := hb.size
    by_cases hlt : L < 508
    · have hLx : (L : Int) < 508 := by omega
      have ho2 := ho.alloc (.cells #[.int .u8 0] 5)
      have hsl := Sl.fresh wr #[.int .u8 0] 5 (n := 1) rfl (by unfold maxLen; omega)
      rw [show (#[Value.int .u8 0] : Array Value).toList = bs [0] by rfl] at hsl
      go_wp2_with (at_builtin; (refine wpList_append_sl _ rfl (.tmp 25) (.tmp 26) _ rfl w.heap.size 5 i0 _ Try.underlying23 hi hz0 hz1 (by omega) rfl _ L _ rfl ho2 _ _ 1 _ rfl hsl bs_one (by omega) (by simp; omega) ?_); intro v6 w6 o6 g6 at6)
      have b6 : Below w.heap.size w w6 := below_own (hb.alloc (by omega) _) g6 (by simp; omega) (fun k hk => (own_tag ho2 k hk).1)
      obtain ⟨A6, c6, rfl, _, _⟩ := own_form o6
      have o6' : w6.ownsRow w.heap.size 5 1 (.slice A6 (L + 1) c6) (L + 1) (bs (packB n l ++ List.replicate (L + 1 - (14 + l.length)) 0)) := by
        rw [show L + 1 - (14 + l.length) = (L - (14 + l.length)) + 1 by omega, List.replicate_succ', ← List.append_assoc, bs_app _ [0]]
        exact o6
      go_roundw
      case rel => exact ⟨L + 1, A6, c6, rfl, by omega, by omega, o6', b6⟩
      case measure => simp [lenV]; omega
    · obtain rfl : L = 508 := by omega
      have ho5 : wr.ownsRow w.heap.size 5 1 (.slice A5 508 c5) 508 (bs (packP n l)) := by
        rw [HP.out, show 494 - l.length = 508 - (14 + l.length) by omega]
        exact ho
      have hsu := hsum wr _ ho5
      clear ho hsum
      go_wp2_with (first
        | (go_at_call 21; (with_reducible refine hsu.mono ?_); rintro e w6 ⟨rfl, rfl⟩)
        | (go_at_call 20; (with_reducible refine (hfour _).mono ?_); rintro e w7 ⟨v7, rfl, o7, b7⟩; have ho7 := own_below ho5 b7; have hs7 := b7.size)
        | (at_builtin; (refine wpList_append_sl _ rfl (.tmp 28) (.tmp 31) _ rfl w.heap.size 5 i0 _ Try.underlying23 hi hz0 hz1 (by omega) rfl (.slice A5 508 c5) 508 (bs (packP n l)) rfl ho7 _ v7 4 (bs (le4 M)) rfl (Sl.of_own o7) bs_one (by omega) (by omega) ?_); intro v8 w8 o8 g8 at8; have b8 := below_own (hb.trans (b7.mono hbs)) g8 (by omega) (fun k hk => (own_tag ho7 k hk).1)))
      go_ret2
      exact ⟨_, rfl, by rw [HS.out, bs_app]; exact o8, b8⟩
end Tw
end Go.Proofs.Ytddliemjbolffaa
