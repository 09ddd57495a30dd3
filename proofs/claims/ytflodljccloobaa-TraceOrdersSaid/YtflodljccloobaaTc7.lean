/- Package trace: Check. Written by tools/gen-tc7.py. -/
import Derived.Test.YtflodljccloobaaTc6
namespace Go.Proofs.Ytflodljccloobaa
open Go.ChangeShapes Go.WideShapes Go.ChangeAt Go.RowKit Go.Lib Go.WideMaps
set_option linter.unusedVariables false
set_option linter.unusedSimpArgs false
set_option maxRecDepth 100000
namespace Tc
open Un Rv
theorem look_in {w : World} {r : Nat} {E : List NM} (m : MapAt w r E) {h : Int} {i v : Nat} (hk : NOk h i) (hin : ((h, i), v) ∈ E) (hone : ∀ v', ((h, i), v') ∈ E → v' = v) : (Instr.lookup 47 (.map (some r)) (.agg #[.int .i64 h, .int .u64 (i : Int)]) false).run Try.prog w = .ok (.int .i64 (v : Int)) w := by
  obtain ⟨es, clock, hb, e⟩ := m.is
  obtain ⟨l, hl⟩ := nk_key hk
  have ht := Try.underlying47
  show (Instr.lookup 47 (.map (some r)) (nk h i) false).run Try.prog w = _
  rcases law.find w hl es.toList (MapAt.keys e m.ok) with ⟨h1, h2⟩ | ⟨j, x, h1, h2, h3⟩
  · exfalso
    have h4 : (nk h i, Value.int .i64 (v : Int)) ∈ es.toList.map (fun e => (e.key, e.val)) := by rw [e]; exact List.mem_map.2 ⟨((h, i), v), hin, rfl⟩
    obtain ⟨x, hx, h5⟩ := List.mem_map.1 h4
    obtain ⟨h6, -⟩ := Prod.mk.inj h5
    exact h2 x hx h6
  · have h4 : (x.key, x.val) ∈ es.toList.map (fun e => (e.key, e.val)) := List.mem_map.2 ⟨x, List.mem_of_getElem? h2, rfl⟩
    rw [e] at h4
    obtain ⟨p, hp, h5⟩ := List.mem_map.1 h4
    obtain ⟨h6, h7⟩ := Prod.mk.inj h5
    rw [h3] at h6
    obtain ⟨h8, h9⟩ := nk_inj h6
    have h10 : p.2 = v := hone _ (by rw [← h8, ← h9]; exact hp)
    simp [Instr.lookup, run_underlying ht, MapKept.run_getObj_map hb, law.check w _ hl, h1, ← h7, h10, Result.andThen]
theorem own_at0 {W : World} {b e sz n : Nat} {v : Value} {xs : List Value} (ho : W.ownsRow b e sz v n xs) (hn : 0 < n) : ∃ G p, v = .slice (some ⟨G, 0, none⟩) n p := by
  rcases ho.2 with ⟨_, h0⟩ | ⟨G, p, cur, hv, _⟩
  · omega
  · exact ⟨G, p, hv⟩
/-- Replies of unlike status. -/
theorem same_not (s1 k1 c1 i1 s2 k2 c2 i2 : Int) (A1 A2 : Option Addr) (n1 p1 n2 p2 : Nat) (hs : ¬ s1 = s2) (w : World) : Calls Try.prog 10 #[.agg #[.int .i64 s1, .int .i64 k1, .int .i64 c1, .slice A1 n1 p1, .int .i64 i1], .agg #[.int .i64 s2, .int .i64 k2, .int .i64 c2, .slice A2 n2 p2, .int .i64 i2]] w fun e w' => e = .returned (.bool false) ∧ Below w.heap.size w w' := by
  obtain ⟨w2, e2, m1, m2, b2⟩ := box2 w 31 31 #[.int .i64 s1, .int .i64 k1, .int .i64 c1, .slice A1 n1 p1, .int .i64 i1] #[.int .i64 s2, .int .i64 k2, .int .i64 c2, .slice A2 n2 p2, .int .i64 i2]
  have a0 := m1.cell 0
  have d0 := m2.cell 0
  go_enter Try.func10, Try.ntmps10
  go_upto_region 1 with (fail)
  rw [← e2]
  clear e2
  go_wp2
  go_ret
  exact ⟨by simp, b2⟩
set_option maxHeartbeats 4000000 in
/-- Where Order finds a fault, Check tells it. -/
theorem check_order {w : World} {v1 v2 v3 : Value} {ins : List Iv} {rows : List Cm} {outs : List Co} (s : Seen w v1 v2 v3 ins rows outs) (n er : Int) (he : ¬ er = 0) (hc : Calls Try.prog 7 #[v1, v2, v3] w fun e w' => e = .returned (.tuple #[.int .i64 n, .int .i64 er]) ∧ Below w.heap.size w w') : Calls Try.prog 5 #[.int .i64 4, v1, v2, v3] w fun e w' => e = .returned (.tuple #[.int .i64 n, .int .i64 er]) ∧ Below w.heap.size w w' := by
  go_enter Try.func5, Try.ntmps5
  obtain ⟨A1, c1, rfl⟩ := s.i.form
  obtain ⟨A2, c2, rfl⟩ := s.r.form
  obtain ⟨A3, c3, rfl⟩ := s.o.form
  go_wp2
  go_step3
  go_wp2_with (go_at_call 7; (with_reducible refine hc.mono ?_); rintro e w2 ⟨rfl, b2⟩)
  rw [Exit.noGoto_ret]
  refine bodyPost_ret (v := .tuple #[.int .i64 n, .int .i64 er]) (by simp [results, Try.results5, go_sem]; try rfl) rfl ⟨rfl, b2⟩
set_option maxHeartbeats 8000000 in
/-- All is right, all replies are told without data. -/
theorem check_ok {w : World} {v1 v2 v3 : Value} {ins : List Iv} {rows : List Cm} {outs : List Co} (s : Seen w v1 v2 v3 ins rows outs) (hok : RowOk ins rows rows.length) (hoo : OutOk rows rows.length outs outs.length) (hp : ∀ x ∈ ins, Plain w x) (he : ∀ x ∈ outs, x.s = 0 ∧ x.k = 0 ∧ x.c = 0 ∧ x.vn = 0 ∧ x.vc ≤ maxLen ∧ x.f = 0) : Calls Try.prog 5 #[.int .i64 4, v1, v2, v3] w fun e w' => e = .returned (.tuple #[.int .i64 0, .int .i64 0]) ∧ Below w.heap.size w w' := by
  obtain ⟨A1, c1, rfl⟩ := s.i.form
  obtain ⟨A2, c2, rfl⟩ := s.r.form
  obtain ⟨A3, c3, rfl⟩ := s.o.form
  have cO : Calls Try.prog 7 #[.slice A1 ins.length c1, .slice A2 rows.length c2, .slice A3 outs.length c3] w fun e w' => e = .returned (.tuple #[.int .i64 0, .int .i64 0]) ∧ Below w.heap.size w w' := (order_any s outs.length 0 hok (Nat.le_refl _) hoo (fun h => absurd h (by omega))).mono fun e w' ⟨q1, q2⟩ => ⟨by rw [q1, if_neg (by omega), if_neg (by omega)]; rfl, q2⟩
  have cR := fun W (hb : Below w.heap.size w W) => replay_any (s.below hb).i (s.below hb).r s.li s.lr s.ki s.kr s.ni hok (fun x hx => (hp x hx).below hb)
  have cP := fun W (hb : Below w.heap.size w W) => places_any _ ins (s.below hb).i s.li s.ki s.ni
  have cW : ∀ W r, Below w.heap.size w W → MapAt W r (ent (ins.map nmI) ins.length) → Calls Try.prog 9 #[.slice A1 ins.length c1, .map (some r), .slice A2 rows.length c2] W fun e w' => ∃ r2, e = .returned (.tuple #[.map (some r2), .int .i64 ((rows.length - 1 : Nat) : Int), .int .i64 0]) ∧ MapAt w' r2 (ent (rows.map nmC) rows.length) ∧ Below W.heap.size W w' := fun W r hb ma => (rowOrder_any _ _ ins rows r rows.length (s.below hb).i (s.below hb).r s.li s.lr s.ki s.kr s.ni s.nr ma (Nat.le_refl _) hok (fun h => absurd h (by omega))).mono fun e w' ⟨r2, q1, q2, q3, q4⟩ => ⟨r2, by rw [q1, if_neg (by omega), if_neg (by omega)], q2, q4⟩
  have HO := Lib.hid hoo
  have HE := Lib.hid he
  clear he
  have hlr : ((rows.length - 1 : Nat) : Int) = ((rows.length - 1 : Nat) : Int) := rfl
  clear hok hoo hp
  go_enter Try.func5, Try.ntmps5
  go_wp2
  go_step3
  generalize ((rows.length - 1 : Nat) : Int) = rl at *
  go_upto_region 4 with (go_at_call 7; (with_reducible refine cO.mono ?_); rintro e w2 ⟨rfl, b2⟩)
  have cR2 := cR _ b2
  go_upto_region 7 with (go_at_call 6; (with_reducible refine cR2.mono ?_); rintro e w3 ⟨lv, Ls, rfl, hLs, oL, hLm, b3⟩)
  have B3 := b2.trans (b3.mono b2.size)
  have cP3 := cP _ B3
  go_upto_region 8 with (go_at_call 8; (with_reducible refine cP3.mono ?_); rintro e w4 ⟨r4, rfl, M4, -, b4⟩)
  have B4 := B3.trans (b4.mono B3.size)
  have cW4 := cW _ _ B4 M4
  go_upto_region 9 with (go_at_call 9; (with_reducible refine cW4.mono ?_); rintro e w5 ⟨r5, rfl, M5, b5⟩)
  have B5 := B4.trans (b5.mono B4.size)
  have o5 := owns_below oL (b4.trans (b5.mono b4.size))
  have HLs := Lib.hid hLs
  have HLm := Lib.hid hLm
  have HSN := Lib.hid s
  clear cO cR cP cW cR2 cP3 cW4 M4 oL hLs hLm b2 b3 b4 b5 B3 B4 s
  go_wp2
  go_step3
  go_wp2
  go_loopw [57] (fun x wr => ∃ k : Nat, x = .int .i64 (k : Nat) ∧ k ≤ outs.length ∧ Below w5.heap.size w5 wr) (fun x _ => outs.length - (intOf x).toNat)
  case atStart => exact ⟨0, rfl, Nat.zero_le _, Below.refl _ _⟩
  case round =>
    obtain ⟨k, rfl, hkl, BW⟩ := hrel
    generalize wr = wo at *
    have B0 := B5.trans (BW.mono B5.size)
    by_cases hlt : k < outs.length
    case neg =>
      obtain rfl : k = outs.length := by omega
      clear hlt hkl
      go_wp2
      rw [Exit.noGoto_ret]
      refine bodyPost_ret (v := .tuple #[.int .i64 0, .int .i64 0]) (by simp [results, Try.results5, go_sem]; try rfl) rfl ⟨rfl, B0⟩
    have hltx : (k : Int) < (outs.length : Int) := by omega
    have hkx : (k : Int) < 1000 := by have := HSN.out.lo; omega
    obtain ⟨b, off, rfl, hb, hc⟩ := (HSN.out.below B0).o.at_ coc_len hlt
    have hok2 := HSN.out.ko _ (List.getElem_mem hlt)
    have hx : outs[k]? = some outs[k] := List.getElem?_eq_getElem hlt
    obtain ⟨j, y, hjl, hy, hny, -⟩ := HO.out k _ hlt hx
    have hE := HE.out _ (List.getElem_mem hlt)
    generalize outs[k] = x at *
    obtain ⟨xh, xi, xs, xk, xc, vA, vn, vc, xf, xt⟩ := x
    dsimp only at hok2 hE
    have hny' : nmC y = (xh, xi) := hny
    have hrg : wo.rangeAt b (off + k * 8) (coc ⟨xh, xi, xs, xk, xc, vA, vn, vc, xf, xt⟩) := fun j u hu => hc j u hu
    unfold coc at hrg
    clear hc hx hny
    skip
    obtain ⟨W1, e1, mC, b6⟩ : ∃ W1, W1 = wo.alloc (.cells #[.int .i64 xh, .int .u64 (xi : Int), .int .i64 xs, .int .i64 xk, .int .i64 xc, .slice vA vn vc, .int .i64 xf, .int .i64 xt] 33) ∧ Mem W1 wo.heap.size 33 #[.int .i64 xh, .int .u64 (xi : Int), .int .i64 xs, .int .i64 xk, .int .i64 xc, .slice vA vn vc, .int .i64 xf, .int .i64 xt] ∧ Below wo.heap.size wo W1 := ⟨_, rfl, Mem.new wo _ _, (Below.refl _ wo).alloc (Nat.le_refl _) _⟩
    have B6 := BW.trans (b6.mono BW.size)
    have M6 := M5.below B6
    have o6 := owns_below o5 B6
    have lk : ∀ W, Below W1.heap.size W1 W → (Instr.lookup 47 (.map (some r5)) (.agg #[.int .i64 xh, .int .u64 (xi : Int)]) false).run Try.prog W = .ok (.int .i64 (j : Int)) W := fun W hW => look_in (M6.below hW) hok2 (ent_has hjl (by rw [get_map hy, hny'])) fun v' h => nodup_same HSN.out.nr (ent_mem h).2 (by rw [get_map hy, hny'])
    have hjx : (j : Int) < (rows.length : Int) := by omega
    have hjy : (j : Int) < 1000 := by have := HSN.out.lr; omega
    obtain ⟨lg, lp, rfl⟩ := own_at0 o6 (by omega)
    have hjL : j < Ls.length := by rw [HLs.out]; exact hjl
    obtain ⟨P, hP⟩ : ∃ P, Ls[j]? = some P := ⟨_, List.getElem?_eq_getElem hjL⟩
    have hPm := HLm.out P (List.mem_of_getElem? hP)
    have lr : ∀ W, Below W1.heap.size W1 W → W.rangeAt lg (j * 5) (rpc P) := fun W hW q u hu => by
      have h5 : q < 5 := (List.getElem?_eq_some_iff.1 hu).1
      exact own_cells (owns_below o6 hW) (j * 5 + q) u (by rw [flat_get rpc 5 rpc_len Ls j q P hP h5]; exact hu)
    unfold rpc at lr
    have cS : ∀ W, Calls Try.prog 10 #[.agg #[.int .i64 xs, .int .i64 xk, .int .i64 xc, .slice vA vn vc, .int .i64 xf], .agg #[.int .i64 0, .int .i64 0, .int .i64 0, .slice P.1 0 P.2, .int .i64 0]] W fun e w' => e = .returned (.bool true) ∧ Below W.heap.size W w' := fun W => by
      obtain ⟨rfl, rfl, rfl, rfl, hvc, rfl⟩ := hE
      exact same_any 0 0 0 0 [] (A := vA) (A' := P.1) (ca := vc) (ca' := P.2) ⟨rfl, vA, vc, rfl, Nat.zero_le _, hvc, fun h => absurd rfl h⟩ ⟨rfl, P.1, P.2, rfl, Nat.zero_le _, hPm, fun h => absurd rfl h⟩
    obtain ⟨PA, PC⟩ := P
    dsimp only at lr cS
    have rgx : ∀ W, Below W1.heap.size W1 W → W.rangeAt wo.heap.size 2 [.int .i64 xs, .int .i64 xk, .int .i64 xc, .slice vA vn vc, .int .i64 xf] := fun W hW q u hu => by
      have h5 : q < 5 := (List.getElem?_eq_some_iff.1 hu).1
      have e2 := (mC.below hW mC.lt).cell (2 + q)
      rw [e2]
      match q, hu with
      | 0, h => exact h
      | 1, h => exact h
      | 2, h => exact h
      | 3, h => exact h
      | 4, h => exact h
    have HI := Lib.hid hlt
    have HB := Lib.hid B6
    clear hlt hkl hok2 hy hny' hE hP hPm hjL o6 M6 B6 BW hjl
    go_upto_region 12 with (refine wpList_load_mid rfl 33 (.tmp 60) rfl b (off + k * 8) rfl [.int .i64 xh, .int .u64 (xi : Int), .int .i64 xs, .int .i64 xk, .int .i64 xc, .slice vA vn vc, .int .i64 xf, .int .i64 xt] _ hrg Try.underlying33 rfl (by kernel_rfl) ?_)
    rw [← e1]
    clear e1 hrg
    apply calm_region [.is _, .is _, .is _, .is _, .is _, .is _, .is _, .is _, .is _, .is _, .is _, .is _, .is _] [[], [0], [], [], [], [4], [], [6], [5, 7], [3, 8], [2, 9], [10], [1, 11]] (by kernel_rfl) (by kernel_rfl) (by kernel_rfl) rfl
    intro f a1 ha1
    simp only [putL, Act.put, List.setIfInBounds_toArray, List.set_cons_succ, List.set_cons_zero] at ha1
    subst ha1
    refine ⟨?_, ?_⟩
    · refine AllCalm.cons (fun W hB hd => ?_) ?_
      · go_wp2_with (fail)
        exact CalmQ.mk rfl _ rfl (Below.refl _ _) rfl
      refine AllCalm.cons (fun W hB hd => ?_) ?_
      · obtain ⟨h0, -⟩ := hd
        have h0 : f 0 = _ := h0
        rw [h0]
        have q0 := rgx W hB
        go_wp2_with ((refine wpList_load_mid rfl 31 (.tmp 62) rfl wo.heap.size 2 rfl [.int .i64 xs, .int .i64 xk, .int .i64 xc, .slice vA vn vc, .int .i64 xf] _ q0 Try.underlying31 rfl (by kernel_rfl) ?_))
        exact CalmQ.mk rfl _ rfl (Below.refl _ _) rfl
      refine AllCalm.cons (fun W hB hd => ?_) ?_
      · go_wp2_with (fail)
        exact CalmQ.mk rfl _ rfl (Below.refl _ _) rfl
      refine AllCalm.cons (fun W hB hd => ?_) ?_
      · go_wp2_with (fail)
        exact CalmQ.mk rfl _ rfl (Below.refl _ _) rfl
      refine AllCalm.cons (fun W hB hd => ?_) ?_
      · go_wp2_with (fail)
        exact CalmQ.mk rfl _ rfl (Below.refl _ _) rfl
      refine AllCalm.cons (fun W hB hd => ?_) ?_
      · obtain ⟨h4, -⟩ := hd
        have h4 : f 4 = _ := h4
        rw [h4]
        have q0 := (mC.below hB mC.lt).cell 0
        go_wp2_with (fail)
        exact CalmQ.mk rfl _ rfl (Below.refl _ _) rfl
      refine AllCalm.cons (fun W hB hd => ?_) ?_
      · go_wp2_with (fail)
        exact CalmQ.mk rfl _ rfl (Below.refl _ _) rfl
      refine AllCalm.cons (fun W hB hd => ?_) ?_
      · obtain ⟨h6, -⟩ := hd
        have h6 : f 6 = _ := h6
        rw [h6]
        have q0 := (mC.below hB mC.lt).cell 1
        go_wp2_with (fail)
        exact CalmQ.mk rfl _ rfl (Below.refl _ _) rfl
      refine AllCalm.cons (fun W hB hd => ?_) ?_
      · obtain ⟨h5, h7, -⟩ := hd
        have h5 : f 5 = _ := h5
        have h7 : f 7 = _ := h7
        rw [h5, h7]
        go_wp2_with (fail)
        exact CalmQ.mk rfl _ rfl (Below.refl _ _) rfl
      refine AllCalm.cons (fun W hB hd => ?_) ?_
      · obtain ⟨h3, h8, -⟩ := hd
        have h3 : f 3 = _ := h3
        have h8 : f 8 = _ := h8
        rw [h3, h8]
        have q0 := lk W hB
        go_wp2_with (fail)
        exact CalmQ.mk rfl _ rfl (Below.refl _ _) rfl
      refine AllCalm.cons (fun W hB hd => ?_) ?_
      · obtain ⟨h2, h9, -⟩ := hd
        have h2 : f 2 = _ := h2
        have h9 : f 9 = _ := h9
        rw [h2, h9]
        go_wp2_with (fail)
        exact CalmQ.mk rfl _ rfl (Below.refl _ _) rfl
      refine AllCalm.cons (fun W hB hd => ?_) ?_
      · obtain ⟨h10, -⟩ := hd
        have h10 : f 10 = _ := h10
        rw [h10]
        have q0 := lr W hB
        go_wp2_with ((refine wpList_load_mid rfl 31 (.tmp 72) rfl lg (j * 5) rfl [.int .i64 0, .int .i64 0, .int .i64 0, .slice PA 0 PC, .int .i64 0] _ q0 Try.underlying31 rfl (by kernel_rfl) ?_))
        exact CalmQ.mk rfl _ rfl (Below.refl _ _) rfl
      refine AllCalm.cons (fun W hB hd => ?_) ?_
      · obtain ⟨h1, h11, -⟩ := hd
        have h1 : f 1 = _ := h1
        have h11 : f 11 = _ := h11
        rw [h1, h11]
        have cW := cS W
        go_wp2_with ((go_at_call 10; (with_reducible refine cW.mono ?_); rintro e' w9 ⟨rfl, b9⟩))
        exact CalmQ.mk rfl _ rfl b9 rfl
      exact AllCalm.nil
    · intro W hB hT
      obtain ⟨h0, h1, h2, h3, h4, h5, h6, h7, h8, h9, h10, h11, h12, -⟩ := hT
      have h0 : f 0 = _ := h0
      have h1 : f 1 = _ := h1
      have h2 : f 2 = _ := h2
      have h3 : f 3 = _ := h3
      have h4 : f 4 = _ := h4
      have h5 : f 5 = _ := h5
      have h6 : f 6 = _ := h6
      have h7 : f 7 = _ := h7
      have h8 : f 8 = _ := h8
      have h9 : f 9 = _ := h9
      have h10 : f 10 = _ := h10
      have h11 : f 11 = _ := h11
      have h12 : f 12 = _ := h12
      rw [h0, h1, h2, h3, h4, h5, h6, h7, h8, h9, h10, h11, h12]
      clear h0 h1 h2 h3 h4 h5 h6 h7 h8 h9 h10 h11 h12
      have HB2 := Lib.hid hB
      go_wp2
      exact ⟨⟨k + 1, rfl, HI.out, HB.out.trans (HB2.out.mono HB.out.size)⟩, by have := HI.out; simp [intOf]; omega⟩
set_option maxHeartbeats 8000000 in
/-- The first reply is of another status. -/
theorem check_sum {w : World} {v1 v2 v3 : Value} {ins : List Iv} {rows : List Cm} {outs : List Co} (s : Seen w v1 v2 v3 ins rows outs) (hok : RowOk ins rows rows.length) (hoo : OutOk rows rows.length outs outs.length) (hp : ∀ x ∈ ins, Plain w x) (h0 : 0 < outs.length) (he : ∀ x ∈ outs, ¬ x.s = 0) : Calls Try.prog 5 #[.int .i64 4, v1, v2, v3] w fun e w' => e = .returned (.tuple #[.int .i64 0, .int .i64 4]) ∧ Below w.heap.size w w' := by
  obtain ⟨A1, c1, rfl⟩ := s.i.form
  obtain ⟨A2, c2, rfl⟩ := s.r.form
  obtain ⟨A3, c3, rfl⟩ := s.o.form
  have cO : Calls Try.prog 7 #[.slice A1 ins.length c1, .slice A2 rows.length c2, .slice A3 outs.length c3] w fun e w' => e = .returned (.tuple #[.int .i64 0, .int .i64 0]) ∧ Below w.heap.size w w' := (order_any s outs.length 0 hok (Nat.le_refl _) hoo (fun h => absurd h (by omega))).mono fun e w' ⟨q1, q2⟩ => ⟨by rw [q1, if_neg (by omega), if_neg (by omega)]; rfl, q2⟩
  have cR := fun W (hb : Below w.heap.size w W) => replay_any (s.below hb).i (s.below hb).r s.li s.lr s.ki s.kr s.ni hok (fun x hx => (hp x hx).below hb)
  have cP := fun W (hb : Below w.heap.size w W) => places_any _ ins (s.below hb).i s.li s.ki s.ni
  have cW : ∀ W r, Below w.heap.size w W → MapAt W r (ent (ins.map nmI) ins.length) → Calls Try.prog 9 #[.slice A1 ins.length c1, .map (some r), .slice A2 rows.length c2] W fun e w' => ∃ r2, e = .returned (.tuple #[.map (some r2), .int .i64 ((rows.length - 1 : Nat) : Int), .int .i64 0]) ∧ MapAt w' r2 (ent (rows.map nmC) rows.length) ∧ Below W.heap.size W w' := fun W r hb ma => (rowOrder_any _ _ ins rows r rows.length (s.below hb).i (s.below hb).r s.li s.lr s.ki s.kr s.ni s.nr ma (Nat.le_refl _) hok (fun h => absurd h (by omega))).mono fun e w' ⟨r2, q1, q2, q3, q4⟩ => ⟨r2, by rw [q1, if_neg (by omega), if_neg (by omega)], q2, q4⟩
  have HO := Lib.hid hoo
  have HE := Lib.hid he
  have H0 := Lib.hid h0
  clear he h0
  have hlr : ((rows.length - 1 : Nat) : Int) = ((rows.length - 1 : Nat) : Int) := rfl
  clear hok hoo hp
  go_enter Try.func5, Try.ntmps5
  go_wp2
  go_step3
  generalize ((rows.length - 1 : Nat) : Int) = rl at *
  go_upto_region 4 with (go_at_call 7; (with_reducible refine cO.mono ?_); rintro e w2 ⟨rfl, b2⟩)
  have cR2 := cR _ b2
  go_upto_region 7 with (go_at_call 6; (with_reducible refine cR2.mono ?_); rintro e w3 ⟨lv, Ls, rfl, hLs, oL, hLm, b3⟩)
  have B3 := b2.trans (b3.mono b2.size)
  have cP3 := cP _ B3
  go_upto_region 8 with (go_at_call 8; (with_reducible refine cP3.mono ?_); rintro e w4 ⟨r4, rfl, M4, -, b4⟩)
  have B4 := B3.trans (b4.mono B3.size)
  have cW4 := cW _ _ B4 M4
  go_upto_region 9 with (go_at_call 9; (with_reducible refine cW4.mono ?_); rintro e w5 ⟨r5, rfl, M5, b5⟩)
  have B5 := B4.trans (b5.mono B4.size)
  have o5 := owns_below oL (b4.trans (b5.mono b4.size))
  have HLs := Lib.hid hLs
  have HLm := Lib.hid hLm
  have HSN := Lib.hid s
  clear cO cR cP cW cR2 cP3 cW4 M4 oL hLs hLm b2 b3 b4 b5 B3 B4 s
  go_wp2
  go_step3
  go_wp2
  go_loopw [57] (fun x wr => ∃ k : Nat, x = .int .i64 (k : Nat) ∧ k = 0 ∧ k ≤ outs.length ∧ Below w5.heap.size w5 wr) (fun x _ => outs.length - (intOf x).toNat)
  case atStart => exact ⟨0, rfl, rfl, Nat.zero_le _, Below.refl _ _⟩
  case round =>
    obtain ⟨k, rfl, hk0, hkl, BW⟩ := hrel
    generalize wr = wo at *
    have B0 := B5.trans (BW.mono B5.size)
    by_cases hlt : k < outs.length
    case neg =>
      obtain rfl : k = outs.length := by omega
      exact absurd H0.out (by omega)
    have hltx : (k : Int) < (outs.length : Int) := by omega
    have hkx : (k : Int) < 1000 := by have := HSN.out.lo; omega
    obtain ⟨b, off, rfl, hb, hc⟩ := (HSN.out.below B0).o.at_ coc_len hlt
    have hok2 := HSN.out.ko _ (List.getElem_mem hlt)
    have hx : outs[k]? = some outs[k] := List.getElem?_eq_getElem hlt
    obtain ⟨j, y, hjl, hy, hny, -⟩ := HO.out k _ hlt hx
    have hE := HE.out _ (List.getElem_mem hlt)
    generalize outs[k] = x at *
    obtain ⟨xh, xi, xs, xk, xc, vA, vn, vc, xf, xt⟩ := x
    dsimp only at hok2 hE
    have hny' : nmC y = (xh, xi) := hny
    have hrg : wo.rangeAt b (off + k * 8) (coc ⟨xh, xi, xs, xk, xc, vA, vn, vc, xf, xt⟩) := fun j u hu => hc j u hu
    unfold coc at hrg
    clear hc hx hny
    have HK0 := Lib.hid hk0
    clear hk0
    obtain ⟨W1, e1, mC, b6⟩ : ∃ W1, W1 = wo.alloc (.cells #[.int .i64 xh, .int .u64 (xi : Int), .int .i64 xs, .int .i64 xk, .int .i64 xc, .slice vA vn vc, .int .i64 xf, .int .i64 xt] 33) ∧ Mem W1 wo.heap.size 33 #[.int .i64 xh, .int .u64 (xi : Int), .int .i64 xs, .int .i64 xk, .int .i64 xc, .slice vA vn vc, .int .i64 xf, .int .i64 xt] ∧ Below wo.heap.size wo W1 := ⟨_, rfl, Mem.new wo _ _, (Below.refl _ wo).alloc (Nat.le_refl _) _⟩
    have B6 := BW.trans (b6.mono BW.size)
    have M6 := M5.below B6
    have o6 := owns_below o5 B6
    have lk : ∀ W, Below W1.heap.size W1 W → (Instr.lookup 47 (.map (some r5)) (.agg #[.int .i64 xh, .int .u64 (xi : Int)]) false).run Try.prog W = .ok (.int .i64 (j : Int)) W := fun W hW => look_in (M6.below hW) hok2 (ent_has hjl (by rw [get_map hy, hny'])) fun v' h => nodup_same HSN.out.nr (ent_mem h).2 (by rw [get_map hy, hny'])
    have hjx : (j : Int) < (rows.length : Int) := by omega
    have hjy : (j : Int) < 1000 := by have := HSN.out.lr; omega
    obtain ⟨lg, lp, rfl⟩ := own_at0 o6 (by omega)
    have hjL : j < Ls.length := by rw [HLs.out]; exact hjl
    obtain ⟨P, hP⟩ : ∃ P, Ls[j]? = some P := ⟨_, List.getElem?_eq_getElem hjL⟩
    have hPm := HLm.out P (List.mem_of_getElem? hP)
    have lr : ∀ W, Below W1.heap.size W1 W → W.rangeAt lg (j * 5) (rpc P) := fun W hW q u hu => by
      have h5 : q < 5 := (List.getElem?_eq_some_iff.1 hu).1
      exact own_cells (owns_below o6 hW) (j * 5 + q) u (by rw [flat_get rpc 5 rpc_len Ls j q P hP h5]; exact hu)
    unfold rpc at lr
    have cS : ∀ W, Calls Try.prog 10 #[.agg #[.int .i64 xs, .int .i64 xk, .int .i64 xc, .slice vA vn vc, .int .i64 xf], .agg #[.int .i64 0, .int .i64 0, .int .i64 0, .slice P.1 0 P.2, .int .i64 0]] W fun e w' => e = .returned (.bool false) ∧ Below W.heap.size W w' := fun W => same_not xs xk xc xf 0 0 0 0 vA P.1 vn vc 0 P.2 hE W
    obtain ⟨PA, PC⟩ := P
    dsimp only at lr cS
    have rgx : ∀ W, Below W1.heap.size W1 W → W.rangeAt wo.heap.size 2 [.int .i64 xs, .int .i64 xk, .int .i64 xc, .slice vA vn vc, .int .i64 xf] := fun W hW q u hu => by
      have h5 : q < 5 := (List.getElem?_eq_some_iff.1 hu).1
      have e2 := (mC.below hW mC.lt).cell (2 + q)
      rw [e2]
      match q, hu with
      | 0, h => exact h
      | 1, h => exact h
      | 2, h => exact h
      | 3, h => exact h
      | 4, h => exact h
    have HI := Lib.hid hlt
    have HB := Lib.hid B6
    clear hlt hkl hok2 hy hny' hE hP hPm hjL o6 M6 B6 BW hjl
    go_upto_region 12 with (refine wpList_load_mid rfl 33 (.tmp 60) rfl b (off + k * 8) rfl [.int .i64 xh, .int .u64 (xi : Int), .int .i64 xs, .int .i64 xk, .int .i64 xc, .slice vA vn vc, .int .i64 xf, .int .i64 xt] _ hrg Try.underlying33 rfl (by kernel_rfl) ?_)
    rw [← e1]
    clear e1 hrg
    apply calm_region [.is _, .is _, .is _, .is _, .is _, .is _, .is _, .is _, .is _, .is _, .is _, .is _, .is _] [[], [0], [], [], [], [4], [], [6], [5, 7], [3, 8], [2, 9], [10], [1, 11]] (by kernel_rfl) (by kernel_rfl) (by kernel_rfl) rfl
    intro f a1 ha1
    simp only [putL, Act.put, List.setIfInBounds_toArray, List.set_cons_succ, List.set_cons_zero] at ha1
    subst ha1
    refine ⟨?_, ?_⟩
    · refine AllCalm.cons (fun W hB hd => ?_) ?_
      · go_wp2_with (fail)
        exact CalmQ.mk rfl _ rfl (Below.refl _ _) rfl
      refine AllCalm.cons (fun W hB hd => ?_) ?_
      · obtain ⟨h0, -⟩ := hd
        have h0 : f 0 = _ := h0
        rw [h0]
        have q0 := rgx W hB
        go_wp2_with ((refine wpList_load_mid rfl 31 (.tmp 62) rfl wo.heap.size 2 rfl [.int .i64 xs, .int .i64 xk, .int .i64 xc, .slice vA vn vc, .int .i64 xf] _ q0 Try.underlying31 rfl (by kernel_rfl) ?_))
        exact CalmQ.mk rfl _ rfl (Below.refl _ _) rfl
      refine AllCalm.cons (fun W hB hd => ?_) ?_
      · go_wp2_with (fail)
        exact CalmQ.mk rfl _ rfl (Below.refl _ _) rfl
      refine AllCalm.cons (fun W hB hd => ?_) ?_
      · go_wp2_with (fail)
        exact CalmQ.mk rfl _ rfl (Below.refl _ _) rfl
      refine AllCalm.cons (fun W hB hd => ?_) ?_
      · go_wp2_with (fail)
        exact CalmQ.mk rfl _ rfl (Below.refl _ _) rfl
      refine AllCalm.cons (fun W hB hd => ?_) ?_
      · obtain ⟨h4, -⟩ := hd
        have h4 : f 4 = _ := h4
        rw [h4]
        have q0 := (mC.below hB mC.lt).cell 0
        go_wp2_with (fail)
        exact CalmQ.mk rfl _ rfl (Below.refl _ _) rfl
      refine AllCalm.cons (fun W hB hd => ?_) ?_
      · go_wp2_with (fail)
        exact CalmQ.mk rfl _ rfl (Below.refl _ _) rfl
      refine AllCalm.cons (fun W hB hd => ?_) ?_
      · obtain ⟨h6, -⟩ := hd
        have h6 : f 6 = _ := h6
        rw [h6]
        have q0 := (mC.below hB mC.lt).cell 1
        go_wp2_with (fail)
        exact CalmQ.mk rfl _ rfl (Below.refl _ _) rfl
      refine AllCalm.cons (fun W hB hd => ?_) ?_
      · obtain ⟨h5, h7, -⟩ := hd
        have h5 : f 5 = _ := h5
        have h7 : f 7 = _ := h7
        rw [h5, h7]
        go_wp2_with (fail)
        exact CalmQ.mk rfl _ rfl (Below.refl _ _) rfl
      refine AllCalm.cons (fun W hB hd => ?_) ?_
      · obtain ⟨h3, h8, -⟩ := hd
        have h3 : f 3 = _ := h3
        have h8 : f 8 = _ := h8
        rw [h3, h8]
        have q0 := lk W hB
        go_wp2_with (fail)
        exact CalmQ.mk rfl _ rfl (Below.refl _ _) rfl
      refine AllCalm.cons (fun W hB hd => ?_) ?_
      · obtain ⟨h2, h9, -⟩ := hd
        have h2 : f 2 = _ := h2
        have h9 : f 9 = _ := h9
        rw [h2, h9]
        go_wp2_with (fail)
        exact CalmQ.mk rfl _ rfl (Below.refl _ _) rfl
      refine AllCalm.cons (fun W hB hd => ?_) ?_
      · obtain ⟨h10, -⟩ := hd
        have h10 : f 10 = _ := h10
        rw [h10]
        have q0 := lr W hB
        go_wp2_with ((refine wpList_load_mid rfl 31 (.tmp 72) rfl lg (j * 5) rfl [.int .i64 0, .int .i64 0, .int .i64 0, .slice PA 0 PC, .int .i64 0] _ q0 Try.underlying31 rfl (by kernel_rfl) ?_))
        exact CalmQ.mk rfl _ rfl (Below.refl _ _) rfl
      refine AllCalm.cons (fun W hB hd => ?_) ?_
      · obtain ⟨h1, h11, -⟩ := hd
        have h1 : f 1 = _ := h1
        have h11 : f 11 = _ := h11
        rw [h1, h11]
        have cW := cS W
        go_wp2_with ((go_at_call 10; (with_reducible refine cW.mono ?_); rintro e' w9 ⟨rfl, b9⟩))
        exact CalmQ.mk rfl _ rfl b9 rfl
      exact AllCalm.nil
    · intro W hB hT
      obtain ⟨h0, h1, h2, h3, h4, h5, h6, h7, h8, h9, h10, h11, h12, -⟩ := hT
      have h0 : f 0 = _ := h0
      have h1 : f 1 = _ := h1
      have h2 : f 2 = _ := h2
      have h3 : f 3 = _ := h3
      have h4 : f 4 = _ := h4
      have h5 : f 5 = _ := h5
      have h6 : f 6 = _ := h6
      have h7 : f 7 = _ := h7
      have h8 : f 8 = _ := h8
      have h9 : f 9 = _ := h9
      have h10 : f 10 = _ := h10
      have h11 : f 11 = _ := h11
      have h12 : f 12 = _ := h12
      rw [h0, h1, h2, h3, h4, h5, h6, h7, h8, h9, h10, h11, h12]
      clear h0 h1 h2 h3 h4 h5 h6 h7 h8 h9 h10 h11 h12
      have HB2 := Lib.hid hB
      go_wp2
      rw [Exit.noGoto_ret]
      refine bodyPost_ret (v := .tuple #[.int .i64 (k : Int), .int .i64 4]) (by simp [results, Try.results5, go_sem]; try rfl) rfl ⟨by rw [HK0.out]; rfl, B5.trans ((HB.out.trans (HB2.out.mono HB.out.size)).mono B5.size)⟩
end Tc
end Go.Proofs.Ytflodljccloobaa
