/- Package ring: scan: contract. -/
import Derived.Test.YtpfackjnnkjjdaaRr4
namespace Go.Proofs.Ytpfackjnnkjjdaa
open Go.ChangeShapes Go.WideShapes Go.ChangeAt Go.RowKit Go.Lib
set_option linter.unusedVariables false
set_option linter.unusedSimpArgs false
namespace Rg
open Crc Dk
/-- What the i-th sector from the first record on tells. -/
def rdU (S : DS) (T : RS) (i : Nat) : RU := unS (full (S.now (T.sec i)))
def usedTo (Ls : List (Nat × List UInt8)) (j : Nat) : Nat := ((Ls.take j).map fun p => need p.2.length).sum
def leastTo (Ls : List (Nat × List UInt8)) : Nat → Nat
  | 0 => 0
  | k + 1 => (Ls[k]?.map (·.1)).getD 0
theorem usedTo_succ {Ls : List (Nat × List UInt8)} {j f : Nat} {l : List UInt8} (h : Ls[j]? = some (f, l)) : usedTo Ls (j + 1) = usedTo Ls j + need l.length := by
  unfold usedTo
  obtain ⟨hj, e⟩ := List.getElem?_eq_some_iff.1 h
  rw [List.take_succ_eq_append_getElem hj, List.map_append, List.sum_append, e]
  simp
theorem usedTo_le (Ls : List (Nat × List UInt8)) (j : Nat) (hj : j ≤ Ls.length) : usedTo Ls j ≤ usedTo Ls Ls.length := by
  obtain ⟨d, hd⟩ : ∃ d, Ls.length = j + d := ⟨Ls.length - j, by omega⟩
  rw [hd]
  clear hj
  induction d generalizing j with
  | zero => exact Nat.le_refl _
  | succ d ih =>
    have hjl : j < Ls.length := by omega
    have h1 := usedTo_succ (Ls := Ls) (j := j) (f := Ls[j].1) (l := Ls[j].2) (List.getElem?_eq_getElem hjl)
    have h2 := ih (j + 1) (by omega)
    rw [show j + 1 + d = j + (d + 1) by omega] at h2
    omega
/-- The records that lie there, and why they end. -/
structure Lay (S : DS) (T : RS) (Ls : List (Nat × List UInt8)) : Prop where
  part : ∀ (j f : Nat) (l : List UInt8), Ls[j]? = some (f, l) → ∀ i, i < need l.length → rdU S T (usedTo Ls j + i) = ⟨T.first + j, f, i, need l.length, chunk l i, 0⟩
  lf : ∀ (j f : Nat) (l : List UInt8), Ls[j]? = some (f, l) → f ≤ T.life
  mono : ∀ (j f : Nat) (l : List UInt8), Ls[j]? = some (f, l) → leastTo Ls j ≤ f
  long : ∀ (j f : Nat) (l : List UInt8), Ls[j]? = some (f, l) → l.length ≤ 32768
  few : Ls.length ≤ 4000
  fits : usedTo Ls Ls.length ≤ T.n
  stop : usedTo Ls Ls.length = T.n ∨ (rdU S T (usedTo Ls Ls.length)).err ≠ 0 ∨ ((rdU S T (usedTo Ls Ls.length)).err = 0 ∧ (rdU S T (usedTo Ls Ls.length)).num = T.first + Ls.length ∧ (rdU S T (usedTo Ls Ls.length)).part = 0 ∧ (rdU S T (usedTo Ls Ls.length)).life ≤ T.life ∧ (rdU S T (usedTo Ls Ls.length)).life < leastTo Ls Ls.length) ∨ ((rdU S T (usedTo Ls Ls.length)).err = 0 ∧ (rdU S T (usedTo Ls Ls.length)).num ≠ T.first + Ls.length)
/-- The ring that has found the first j. -/
def RS.got (T : RS) (Ls : List (Nat × List UInt8)) (j : Nat) : RS := { T with recs := (Ls.take j).map (·.2), used := usedTo Ls j }
theorem now_len {o w : World} {X : Nat} {O : Nat → Prop} {S : DS} (h : Dsk o w X O S) (n : Nat) (hn : n < S.last.length) : (full (S.now n)).length = 512 := by
  refine full_len ?_
  obtain ⟨V, hV⟩ := h.is
  show ((S.wa n).getLast?.getD (S.la n)).length ≤ 512
  cases hg : (S.wa n).getLast? with
  | none =>
    show (S.la n).length ≤ 512
    unfold DS.la
    obtain ⟨u, hu, hd⟩ := hV.last.get (j := n) (by omega)
    rw [List.getElem?_eq_getElem (by omega)]
    exact hd.few
  | some y =>
    show y.length ≤ 512
    have hm := List.mem_of_getLast? hg
    obtain ⟨k, hk⟩ := List.mem_iff_getElem?.1 hm
    have hW : S.wts[n]? = some (S.wa n) := by unfold DS.wa; rw [List.getElem?_eq_getElem (by have := h.fine.lens; omega)]; rfl
    obtain ⟨u, hu⟩ : ∃ u, V.wl[n]? = some u := ⟨_, List.getElem?_eq_getElem (by have := hV.waits.row.len; have := h.fine.lens; omega)⟩
    obtain ⟨D, hD⟩ := hV.waits.one n u _ hu hW
    have hkl := (List.getElem?_eq_some_iff.1 hk).1
    obtain ⟨x, hx, hdx⟩ := hD.get hkl
    have : (S.wa n)[k] = y := by rw [List.getElem?_eq_getElem hkl] at hk; exact Option.some.inj hk
    rw [← this]
    exact hdx.few
section
variable {o w : World} {X Y j : Nat} {O R : Nat → Prop} {S : DS} {T : RS} {Ls : List (Nat × List UInt8)}
set_option maxRecDepth 100000 in
theorem take_chunk (l : List UInt8) (i : Nat) : l.take (i * 480) ++ chunk l i = l.take ((i + 1) * 480) := by
  unfold chunk
  rw [Nat.add_mul, Nat.one_mul, List.take_add]
theorem got_ok {N : Nat} (h : T.Ok N) (hL : Lay S T Ls) (j : Nat) (hj : j ≤ Ls.length) : (T.got Ls j).Ok N := by
  refine ⟨h.n2, h.fit, h.pl, Nat.le_trans (usedTo_le Ls j hj) hL.fits, ?_, ?_, h.lf, h.fs⟩
  · show ((Ls.take j).map _).length ≤ 4096
    have := hL.few
    rw [List.length_map, List.length_take]
    omega
  · intro l hl
    obtain ⟨p, hp, rfl⟩ := List.mem_map.1 hl
    obtain ⟨k, hk⟩ := List.mem_iff_getElem?.1 (List.mem_of_mem_take hp)
    exact hL.long k p.1 p.2 hk
theorem got_next (hj : j ≤ Ls.length) : (T.got Ls j).next = T.first + j := by
  show T.first + ((Ls.take j).map _).length = _
  rw [List.length_map, List.length_take]
  omega
theorem got_succ {f : Nat} {l : List UInt8} (h : Ls[j]? = some (f, l)) : ({ T.got Ls j with recs := (T.got Ls j).recs ++ [l], used := usedTo Ls j + need l.length } : RS) = T.got Ls (j + 1) := by
  obtain ⟨hj, e⟩ := List.getElem?_eq_some_iff.1 h
  unfold RS.got
  rw [usedTo_succ h, List.take_succ_eq_append_getElem hj, List.map_append, e]
  rfl
theorem least_succ {f : Nat} {l : List UInt8} (h : Ls[j]? = some (f, l)) : leastTo Ls (j + 1) = f := by
  show (Ls[j]?.map (·.1)).getD 0 = f
  rw [h]
  rfl
set_option maxRecDepth 100000 in
set_option maxHeartbeats 4000000 in
theorem scan_any (hdk : Dsk o w X O S) (hdd : S.dead = false) (hof : S.off = false) (hw : S.wtg ≤ 1000000) (hN : S.last.length ≤ 4096) {rv : Value} {D : List Value} (hM : RgM w Y X R (T.got Ls 0) rv D) (hok0 : T.Ok S.last.length) (hRo : ∀ k, R k → o.heap.size ≤ k) (hRO : ∀ k, R k → ¬ O k) (hLay : Lay S T Ls) (hfst : T.first ≤ 900000) :
    Calls Try.prog 66 #[.pointer (some ⟨Y, 0, none⟩)] w fun e w' => e = .returned (.int .i64 0) ∧ ∃ R' rv' D', RgM w' Y X R' (T.got Ls Ls.length) rv' D' ∧ Eff R w w' ∧ ∀ k, R' k → R k ∨ w.heap.size ≤ k := by
  obtain ⟨i0, hi, hz0, hz1, hz2⟩ := info_parts (show (Try.prog.info? 5).map (fun i => (i.zero, i.size, i.bytes)) = some (some (.int .u8 0), 1, 1) by kernel_rfl)
  obtain ⟨i1, hi1, hy0, hy1, hy2⟩ := info_parts tb_info
  obtain ⟨V, hV⟩ := hdk.is
  have hOlt := hV.lt
  have hn2 := hok0.n2
  have hfit := hok0.fit
  have hnx : (T.n : Int) ≤ 4096 := by omega
  have HN2 := Lib.hid hn2
  have HFST := Lib.hid hfst
  clear hV hn2 hfst
  go_enter Try.func66, Try.ntmps66
  go_wp2
  go_step3
  go_wp2
  go_step3
  go_wp2
  go_loopw [3] (fun s wr => ∃ (j : Nat) (R' : Nat → Prop) (rv' : Value) (D' : List Value), j ≤ Ls.length ∧ s = .int .u32 (leastTo Ls j : Nat) ∧ RgM wr Y X R' (T.got Ls j) rv' D' ∧ Eff R w wr ∧ ∀ k, R' k → R k ∨ w.heap.size ≤ k) (fun _ wr => T.n - (intOf ((wr.cell? ⟨Y, 7, none⟩).getD (.int .i64 0))).toNat)
  case atStart => exact ⟨0, R, rv, D, Nat.zero_le _, rfl, hM, Eff.refl _ _, fun k hk => .inl hk⟩
  case round =>
    obtain ⟨j, R', rv', D', hj, rfl, hMo, hE, hRR⟩ := hrel
    generalize wr = wo at *
    have hEs := hE.size
    have hso : Dsk o wo X O S := hdk.effN hE (fun k _ hO hR => hRO k hR hO) fun k _ hR => hRo k hR
    have hoki := got_ok hok0 hLay j hj
    have hnxt := fun W (hW : RgM W Y X R' (T.got Ls j) rv' D') => next_any hW (by rw [got_next hj]; have := HFST.out; have := hLay.few; omega)
    rw [got_next hj] at hnxt
    have hule := Nat.le_trans (usedTo_le Ls j hj) hLay.fits
    have x2 : wo.cell? ⟨Y, 2, none⟩ = some (.int .i64 (T.n : Nat)) := hMo.c2
    have x7 : wo.cell? ⟨Y, 7, none⟩ = some (.int .i64 (usedTo Ls j : Nat)) := hMo.c7
    have hgs := fun f l (h : Ls[j]? = some (f, l)) => got_succ (T := T) h
    have hpt := hLay.part j
    by_cases hjl : j < Ls.length
    case neg =>
      have hjL : j = Ls.length := by omega
      have hst := hLay.stop
      rw [← hjL] at hst
      have HJL := Lib.hid hjL
      clear hjL
      rcases hst with hst | hst
      · have h7x : (usedTo Ls j : Int) = (T.n : Int) := by omega
        rw [h7x] at x7
        have HM := Lib.hid hMo
        clear hnxt hgs hpt hMo hM hLay hst h7x
        go_wp2
        go_quiet (fail)
        go_wp2
        rw [Exit.noGoto_ret]
        go_ret
        exact ⟨rfl, R', rv', D', HJL.out ▸ HM.out.below (below_drewN (Below.refl _ _) _), hE.trans (Eff.of (S := R) (below_drewN (Below.refl _ _) _)) fun _ _ h => h, hRR⟩
      · obtain ⟨ud, hud⟩ : ∃ ud, usedTo Ls j = ud := ⟨_, rfl⟩
        obtain ⟨lst, hlst⟩ : ∃ lst, leastTo Ls j = lst := ⟨_, rfl⟩
        by_cases hful : ud = T.n
        · have h7x : (usedTo Ls j : Int) = (T.n : Int) := by omega
          rw [h7x] at x7
          have HM := Lib.hid hMo
          clear hnxt hgs hpt hMo hM hLay hst h7x
          go_wp2
          go_quiet (fail)
          go_wp2
          rw [Exit.noGoto_ret]
          go_ret
          exact ⟨rfl, R', rv', D', HJL.out ▸ HM.out.below (below_drewN (Below.refl _ _) _), hE.trans (Eff.of (S := R) (below_drewN (Below.refl _ _) _)) fun _ _ h => h, hRR⟩
        · have hltx : (ud : Int) < (T.n : Int) := by omega
          have hlv := hok0.lf
          rw [hud] at x7 hst hule
          rw [hlst] at hst
          have hux : (ud : Int) ≤ 4096 := by omega
          have HS := Lib.hid hst
          have HLY := Lib.hid hLay
          have HM := Lib.hid hMo
          have HOK := Lib.hid hoki
          have HUD := Lib.hid hud
          clear hgs hpt hM hLay hst hful hoki hMo hjl
          go_wp2
          go_quiet (fail)
          rename_i nq _
          go_wp2
          rw [hlst]
          have hb0 : Below wo.heap.size wo (wo.drewN nq) := below_drewN (Below.refl _ _) _
          generalize wo.drewN nq = wq at *
          clear x2 x7
          go_loopw [3, 4, 5, 6] (fun s3 s4 s5 s6 wr => s3 = .int .u32 (lst : Nat) ∧ s4 = .slice none 0 0 ∧ s5 = .int .i64 1 ∧ s6 = .int .i64 0 ∧ Below wo.heap.size wo wr) (fun _ _ _ _ _ => 0)
          case atStart => exact ⟨rfl, rfl, rfl, rfl, hb0⟩
          case round =>
            obtain ⟨rfl, rfl, rfl, rfl, hb⟩ := hrel
            have hoki := HOK.out
            have hMi := HM.out.below hb
            have hsr := hso.below hb
            have hc7 : ∀ W, Below wr.heap.size wr W → W.cell? ⟨Y, 7, none⟩ = some (.int .i64 (ud : Nat)) := fun W h => by
              have h2 := (hMi.below h).c7
              rw [show (T.got Ls j).used = ud from hud] at h2
              exact h2
            obtain ⟨sx, hsx⟩ : ∃ sx, full (S.now (T.sec (ud + 0))) = sx := ⟨_, rfl⟩
            have hsl : sx.length = 512 := by rw [← hsx]; exact now_len hsr _ (sec_lt hok0 _)
            obtain ⟨sc, hsc⟩ : ∃ sc, T.sec (ud + 0) = sc := ⟨_, rfl⟩
            have hsec : ∀ W, Below wr.heap.size wr W → Calls Try.prog 59 #[.pointer (some ⟨Y, 0, none⟩), .int .i64 (ud : Nat)] W fun e w' => e = .returned (.int .i64 (sc : Nat)) ∧ ∃ k, w' = W.drewN k := fun W hW => by
              have := sector_any (hMi.below hW) hoki hN (ud + 0) (by omega)
              rw [show (T.got Ls j).sec (ud + 0) = sc from hsc] at this
              exact this
            have hrd : ∀ W, Below wr.heap.size wr W → Calls Try.prog 50 #[.pointer (some ⟨X, 0, none⟩), .int .i64 (sc : Nat)] W fun e w' => ∃ g, e = .returned (.tuple #[.slice (some ⟨g, 0, none⟩) 512 512, .int .i64 0]) ∧ Mem w' g 5 (bs sx).toArray ∧ Below W.heap.size W w' := fun W hW => (d_read (hsr.below hW) hdd hof sc (by rw [← hsc]; exact sec_lt hok0 _) hw).mono fun e w' ⟨g, h1, h2, h3, h4, h5⟩ => ⟨g, h1, by rw [← hsx, hsc]; exact h3, h5⟩
            have hup : ∀ W g, Mem W g 5 (bs sx).toArray → Calls Try.prog 80 #[.slice (some ⟨g, 0, none⟩) 512 512] W fun e w' => ∃ v', e = .returned (.tuple #[.int .u64 ((rdU S T (ud + 0)).num : Nat), .int .u32 ((rdU S T (ud + 0)).life : Nat), .int .i64 ((rdU S T (ud + 0)).part : Nat), .int .i64 ((rdU S T (ud + 0)).parts : Nat), v', .int .i64 ((rdU S T (ud + 0)).err : Nat)]) ∧ w'.ownsRow W.heap.size 5 1 v' (rdU S T (ud + 0)).dat.length (bs (rdU S T (ud + 0)).dat) ∧ Below W.heap.size W w' := fun W g hm => by
              have := unpack_any (.slice (some ⟨g, 0, none⟩) 512 512) sx W (by rw [hsl]; exact sl_of_row (n := 512) hm (by rw [bs_len, hsl]) (by unfold maxLen; omega)) (by omega)
              rw [← hsx] at this
              exact this
            have hfi := hfit
            go_wp2
            refine wp_region_any (by kernel_rfl) ?_
            change wpAny _ _ _ _ _ _ _ (World.drew _)
            refine wpAny_take (i := 0) (oi := { dst := some 31, op := Op.move (Operand.tmp 0), type := 64, pos := "ring.go:78", after := #[], guard := none }) (v := (.pointer (some ⟨Y, 0, none⟩))) rfl (by kernel_rfl) (by kernel_rfl) (by kernel_rfl) (fun _ _ _ h => h) (Or.inl ⟨by rfl, by intro w; go_simp⟩) ?_
            try dsimp only [Act.put]
            try simp only [List.setIfInBounds_toArray, List.set_cons_succ, List.set_cons_zero]
            apply calm_tailK 17 [0] [.is (.pointer (some ⟨Y, 0, none⟩)), .is (.pointer (some ⟨Y, 0, none⟩)), .is (.pointer (some ⟨Y, 0, none⟩)), .is (.pointer (some ⟨X, 0, none⟩)), .is (.pointer (some ⟨Y, 0, none⟩)), .is (.pointer (some ⟨Y, 0, none⟩)), .is (.pointer (some ⟨Y, 0, none⟩)), .is (.pointer (some ⟨Y, 7, none⟩)), .is (.int .i64 (ud : Nat)), .is (.int .i64 (0)), .is (.int .i64 (ud : Nat)), .is (.int .i64 (sc : Nat)), .of (fun x W => ∃ g, x = .tuple #[.slice (some ⟨g, 0, none⟩) 512 512, .int .i64 0] ∧ Mem W g 5 (bs sx).toArray) (fun x W W' hb ⟨g, hx, hm⟩ => ⟨g, hx, hm.below hb hm.lt⟩), .of (fun x W => ∃ g, x = .tuple #[.slice (some ⟨g, 0, none⟩) 512 512, .int .i64 0] ∧ Mem W g 5 (bs sx).toArray) (fun x W W' hb ⟨g, hx, hm⟩ => ⟨g, hx, hm.below hb hm.lt⟩), .of (fun x W => ∃ g, x = .slice (some ⟨g, 0, none⟩) 512 512 ∧ Mem W g 5 (bs sx).toArray) (fun x W W' hb ⟨g, hx, hm⟩ => ⟨g, hx, hm.below hb hm.lt⟩), .is (.int .i64 0), .of (fun x W => ∃ g, x = .slice (some ⟨g, 0, none⟩) 512 512 ∧ Mem W g 5 (bs sx).toArray) (fun x W W' hb ⟨g, hx, hm⟩ => ⟨g, hx, hm.below hb hm.lt⟩)] [[], [0], [1], [2], [], [], [5], [6], [7], [], [8, 9], [4, 10], [3, 11, 11], [12], [13], [13], [14, 12, 0, 1, 2, 3, 4, 5, 6, 7, 8, 9, 10, 11, 12, 13, 14]] (by kernel_rfl) (by kernel_rfl) rfl (by decide) (by intro i hi o ho; obtain rfl := List.mem_singleton.1 hi; obtain rfl := Option.some.inj ho; exact rfl)
            intro f a1 ha1
            simp only [List.take_succ_cons, List.take_zero, putL, Act.put, List.setIfInBounds_toArray, List.set_cons_succ, List.set_cons_zero] at ha1
            subst ha1
            refine ⟨?_, ?_⟩
            · refine AllCalm.cons (fun W hB hd => ?_) ?_
              · go_wp2_with (fail)
                exact CalmQ.mk rfl _ rfl (Below.refl _ _) rfl
              refine AllCalm.cons (fun W hB hd => ?_) ?_
              · obtain ⟨h0, -⟩ := hd
                have h0 : f 0 = _ := h0
                rw [h0]
                go_wp2_with (fail)
                exact CalmQ.mk rfl _ rfl (Below.refl _ _) rfl
              refine AllCalm.cons (fun W hB hd => ?_) ?_
              · obtain ⟨h1, -⟩ := hd
                have h1 : f 1 = _ := h1
                rw [h1]
                go_wp2_with (fail)
                exact CalmQ.mk rfl _ rfl (Below.refl _ _) rfl
              refine AllCalm.cons (fun W hB hd => ?_) ?_
              · obtain ⟨h2, -⟩ := hd
                have h2 : f 2 = _ := h2
                rw [h2]
                have y0 := (hMi.below ((Below.refl _ wr).drew.trans hB)).c0
                go_wp2_with (fail)
                exact CalmQ.mk rfl _ rfl (Below.refl _ _) rfl
              refine AllCalm.cons (fun W hB hd => ?_) ?_
              · go_wp2_with (fail)
                exact CalmQ.mk rfl _ rfl (Below.refl _ _) rfl
              refine AllCalm.cons (fun W hB hd => ?_) ?_
              · go_wp2_with (fail)
                exact CalmQ.mk rfl _ rfl (Below.refl _ _) rfl
              refine AllCalm.cons (fun W hB hd => ?_) ?_
              · obtain ⟨h5, -⟩ := hd
                have h5 : f 5 = _ := h5
                rw [h5]
                go_wp2_with (fail)
                exact CalmQ.mk rfl _ rfl (Below.refl _ _) rfl
              refine AllCalm.cons (fun W hB hd => ?_) ?_
              · obtain ⟨h6, -⟩ := hd
                have h6 : f 6 = _ := h6
                rw [h6]
                go_wp2_with (fail)
                exact CalmQ.mk rfl _ rfl (Below.refl _ _) rfl
              refine AllCalm.cons (fun W hB hd => ?_) ?_
              · obtain ⟨h7, -⟩ := hd
                have h7 : f 7 = _ := h7
                rw [h7]
                have y7 := hc7 W ((Below.refl _ wr).drew.trans hB)
                go_wp2_with (fail)
                exact CalmQ.mk rfl _ rfl (Below.refl _ _) rfl
              refine AllCalm.cons (fun W hB hd => ?_) ?_
              · go_wp2_with (fail)
                exact CalmQ.mk rfl _ rfl (Below.refl _ _) rfl
              refine AllCalm.cons (fun W hB hd => ?_) ?_
              · obtain ⟨h8, h9, -⟩ := hd
                have h8 : f 8 = _ := h8
                have h9 : f 9 = _ := h9
                rw [h8, h9]
                go_wp2_with (fail)
                exact CalmQ.mk rfl _ rfl (Below.refl _ _) rfl
              refine AllCalm.cons (fun W hB hd => ?_) ?_
              · obtain ⟨h4, h10, -⟩ := hd
                have h4 : f 4 = _ := h4
                have h10 : f 10 = _ := h10
                rw [h4, h10]
                have hse := hsec W ((Below.refl _ wr).drew.trans hB)
                go_wp2_with ((go_at_call 59; (with_reducible refine hse.mono ?_); rintro e w1 ⟨rfl, k1, rfl⟩))
                exact CalmQ.mk rfl _ rfl (below_drewN (Below.refl _ _) _) rfl
              refine AllCalm.cons (fun W hB hd => ?_) ?_
              · obtain ⟨h3, h11, -, -⟩ := hd
                have h3 : f 3 = _ := h3
                have h11 : f 11 = _ := h11
                rw [h3, h11]
                have hrdW := hrd W ((Below.refl _ wr).drew.trans hB)
                go_wp2_with ((go_at_call 50; (with_reducible refine hrdW.mono ?_); rintro e w2 ⟨g2, rfl, hm2, hb2⟩))
                exact CalmQ.mk rfl _ rfl hb2 ⟨g2, rfl, hm2⟩
              refine AllCalm.cons (fun W hB hd => ?_) ?_
              · obtain ⟨h12, -⟩ := hd
                go_wp2_with (fail)
                exact CalmQ.mk rfl _ rfl (Below.refl _ _) h12
              refine AllCalm.cons (fun W hB hd => ?_) ?_
              · obtain ⟨h13, -⟩ := hd
                obtain ⟨g8, e8, m8⟩ := h13; rw [e8]
                go_wp2_with (fail)
                exact CalmQ.mk rfl _ rfl (Below.refl _ _) ⟨g8, rfl, m8⟩
              refine AllCalm.cons (fun W hB hd => ?_) ?_
              · obtain ⟨h13, -⟩ := hd
                obtain ⟨g8, e8, m8⟩ := h13; rw [e8]
                go_wp2_with (fail)
                exact CalmQ.mk rfl _ rfl (Below.refl _ _) rfl
              refine AllCalm.cons (fun W hB hd => ?_) ?_
              · obtain ⟨h14, h12, h0, h1, h2, h3, h4, h5, h6, h7, h8, h9, h10, h11, -, h13, -, -⟩ := hd
                have h0 : f 0 = _ := h0
                have h1 : f 1 = _ := h1
                have h2 : f 2 = _ := h2
                have h3 : f 3 = _ := h3
                have h4 : f 4 = _ := h4
                have h5 : f 5 = _ := h5
                have h6 : f 6 = _ := h6
                have h7 : f 7 = _ := h7
                have h8 : f 8 = _ := h8
                have h9 : f 9 = _ := h9
                have h10 : f 10 = _ := h10
                have h11 : f 11 = _ := h11
                rw [h0, h1, h2, h3, h4, h5, h6, h7, h8, h9, h10, h11]
                go_wp2_with (fail)
                exact CalmQ.mk rfl _ rfl (Below.refl _ _) h14
              exact AllCalm.nil
            · intro W hB hT
              obtain ⟨h0, h1, h2, h3, h4, h5, h6, h7, h8, h9, h10, h11, h12, h13, h14, h15, h16, -⟩ := hT
              have h0 : f 0 = _ := h0
              have h1 : f 1 = _ := h1
              have h2 : f 2 = _ := h2
              have h3 : f 3 = _ := h3
              have h4 : f 4 = _ := h4
              have h5 : f 5 = _ := h5
              have h6 : f 6 = _ := h6
              have h7 : f 7 = _ := h7
              have h8 : f 8 = _ := h8
              have h9 : f 9 = _ := h9
              have h10 : f 10 = _ := h10
              have h11 : f 11 = _ := h11
              have h15 : f 15 = _ := h15
              rw [h0, h1, h2, h3, h4, h5, h6, h7, h8, h9, h10, h11, h15]
              clear h0 h1 h2 h3 h4 h5 h6 h7 h8 h9 h10 h11 h15
              simp only [List.drop_succ_cons, List.drop_zero]
              obtain ⟨g2, e16, m2⟩ := h16
              have e16 : f 16 = _ := e16
              rw [e16]
              have hbW : Below wr.heap.size wr W := (Below.refl _ wr).drew.trans hB
              have hst : ((rdU S T (ud + 0)).err ≠ 0) ∨ ((rdU S T (ud + 0)).err = 0 ∧ (rdU S T (ud + 0)).num = T.first + j ∧ (rdU S T (ud + 0)).part = 0 ∧ (rdU S T (ud + 0)).life ≤ T.life ∧ (rdU S T (ud + 0)).life < lst) ∨ ((rdU S T (ud + 0)).err = 0 ∧ (rdU S T (ud + 0)).num ≠ T.first + j) := HS.out
              have hup2 := hup W g2 m2
              clear hup hrd hsec m2
              generalize rdU S T (ud + 0) = U at *
              obtain ⟨nu, li, pa, ps, da, er⟩ := U
              simp only at hup2 hst
              rcases hst with hst | ⟨rfl, rfl, rfl, hl1, hl2⟩ | ⟨rfl, hnn⟩
              · have hEx : ¬ (er : Int) = 0 := by omega
                clear hst
                go_wp2_with (go_at_call 80; (with_reducible refine hup2.mono ?_); rintro e w8 ⟨v8, rfl, o8, b8⟩)
                rw [Exit.noGoto_ret]
                go_ret
                have hbf := hb.trans ((hbW.trans (b8.mono hbW.size)).mono hb.size)
                exact ⟨rfl, R', rv', D', HJL.out ▸ HM.out.below hbf, hE.trans (Eff.of (S := R) hbf) fun _ _ h => h, hRR⟩
              · have hx1 : ¬ (T.life : Int) < (li : Int) := by omega
                have hx2 : (li : Int) < (lst : Int) := by omega
                clear hl1 hl2
                have c3 : ∀ W1, Below W.heap.size W W1 → W1.cell? ⟨Y, 3, none⟩ = some (.int .u32 (T.life : Nat)) := fun W1 h1 => (HM.out.below (hb.trans ((hbW.trans (h1.mono hbW.size)).mono hb.size))).c3
                have hn8 := fun W1 (h1 : Below W.heap.size W W1) => hnxt W1 (HM.out.below (hb.trans ((hbW.trans (h1.mono hbW.size)).mono hb.size)))
                go_wp2_with (first
                  | (go_at_call 80; (with_reducible refine hup2.mono ?_); rintro e w8 ⟨v8, rfl, o8, b8⟩; have hn9 := hn8 w8 b8)
                  | (go_at_call 37; (with_reducible refine hn9.mono ?_); rintro e w9 ⟨rfl, k9, rfl⟩; have y3 := c3 (w8.drewN k9) (below_drewN b8 _)))
                all_goals rw [Exit.noGoto_ret]
                all_goals go_ret
                all_goals have hbf := hb.trans ((hbW.trans ((below_drewN b8 k9).mono hbW.size)).mono hb.size)
                all_goals exact ⟨rfl, R', rv', D', HJL.out ▸ HM.out.below hbf, hE.trans (Eff.of (S := R) hbf) fun _ _ h => h, hRR⟩
              · have hx1 : ¬ (nu : Int) = ((T.first + j : Nat) : Int) := by omega
                have hx2 : ¬ (nu : Int) = (T.first : Int) + (j : Int) := by omega
                have hn8 := fun W1 (h1 : Below W.heap.size W W1) => hnxt W1 (HM.out.below (hb.trans ((hbW.trans (h1.mono hbW.size)).mono hb.size)))
                go_wp2_with (first
                  | (go_at_call 80; (with_reducible refine hup2.mono ?_); rintro e w8 ⟨v8, rfl, o8, b8⟩; have hn9 := hn8 w8 b8)
                  | (go_at_call 37; (with_reducible refine hn9.mono ?_); rintro e w9 ⟨rfl, k9, rfl⟩))
                all_goals rw [Exit.noGoto_ret]
                all_goals go_ret
                all_goals have hbf := hb.trans ((hbW.trans ((below_drewN b8 k9).mono hbW.size)).mono hb.size)
                all_goals exact ⟨rfl, R', rv', D', HJL.out ▸ HM.out.below hbf, hE.trans (Eff.of (S := R) hbf) fun _ _ h => h, hRR⟩
    case pos =>
      obtain ⟨⟨fl, l⟩, hfl⟩ : ∃ p, Ls[j]? = some p := ⟨_, List.getElem?_eq_getElem hjl⟩
      obtain ⟨ud, hud⟩ : ∃ ud, usedTo Ls j = ud := ⟨_, rfl⟩
      obtain ⟨lst, hlst⟩ : ∃ lst, leastTo Ls j = lst := ⟨_, rfl⟩
      obtain ⟨cnt, hcnt⟩ : ∃ cnt, need l.length = cnt := ⟨_, rfl⟩
      have hsucc := usedTo_succ hfl
      have hmore := Nat.le_trans (usedTo_le Ls (j + 1) hjl) hLay.fits
      rw [hud] at x7 hule hsucc
      rw [hcnt] at hsucc
      rw [hsucc] at hmore
      have hpos := need_pos l.length
      have hlong := hLay.long j fl l hfl
      have hcle := need_le l.length hlong
      have hdef : (l.length = 0 ∧ cnt = 1) ∨ (0 < l.length ∧ (cnt - 1) * 480 < l.length ∧ l.length ≤ cnt * 480) := by
        rw [← hcnt]
        unfold need
        split
        · exact .inl ⟨by assumption, rfl⟩
        · right
          omega
      rw [hcnt] at hpos hcle
      have hlf := hLay.lf j fl l hfl
      have hmono := hLay.mono j fl l hfl
      rw [hlst] at hmono
      have hpart := hpt fl l hfl
      rw [hud, hcnt] at hpart
      have hltx : (ud : Int) < (T.n : Int) := by omega
      have hux : (ud : Int) ≤ 4096 := by omega
      have hcx : (cnt : Int) ≤ 69 := by omega
      have hfi := hfit
      have hll := least_succ hfl
      have hgs := hgs fl l hfl
      rw [hud, hcnt] at hgs
      have HLY := Lib.hid hLay
      have HM := Lib.hid hMo
      have HOK := Lib.hid hoki
      have HUD := Lib.hid hud
      have HGS := Lib.hid hgs
      have HPT := Lib.hid hpart
      have HLL := Lib.hid hll
      have HSU := Lib.hid hsucc
      have HLG := Lib.hid hlong
      have HDF := Lib.hid hdef
      clear hgs hpt hM hLay hoki hMo hpart hll hsucc hlong hdef hcnt hfl
      go_wp2
      go_quiet (fail)
      rename_i nq _
      go_wp2
      try rw [hlst]
      have hb0 : Below wo.heap.size wo (wo.drewN nq) := below_drewN (Below.refl _ _) _
      generalize wo.drewN nq = wq at *
      clear x2 x7
      go_loopw [3, 4, 5, 6] (fun s3 s4 s5 s6 wr => (s3 = .int .u32 (lst : Nat) ∧ s4 = .slice none 0 0 ∧ s5 = .int .i64 1 ∧ s6 = .int .i64 0 ∧ Below wo.heap.size wo wr) ∨ ∃ (i : Nat) (A : Option Addr) (c : Nat) (pre : List UInt8), Hid (pre = l.take (i * 480)) ∧ 1 ≤ i ∧ i ≤ cnt ∧ s3 = .int .u32 (fl : Nat) ∧ s4 = .slice A pre.length c ∧ s5 = .int .i64 (cnt : Nat) ∧ s6 = .int .i64 (i : Nat) ∧ wr.ownsRow wo.heap.size 5 1 (.slice A pre.length c) pre.length (bs pre) ∧ Below wo.heap.size wo wr) (fun _ _ _ s6 _ => cnt - (intOf s6).toNat)
      case atStart => exact .inl ⟨rfl, rfl, rfl, rfl, hb0⟩
      case round =>
        have hud := HUD.out
        rcases hrel with ⟨rfl, rfl, rfl, rfl, hb⟩ | ⟨i, A, c, pre, HPR, hge1, hic, rfl, rfl, rfl, rfl, hown, hb⟩
        · have hoki := HOK.out
          have hMi := HM.out.below hb
          have hsr := hso.below hb
          have hc7 : ∀ W, Below wr.heap.size wr W → W.cell? ⟨Y, 7, none⟩ = some (.int .i64 (ud : Nat)) := fun W h => by
            have h2 := (hMi.below h).c7
            rw [show (T.got Ls j).used = ud from hud] at h2
            exact h2
          obtain ⟨sx, hsx⟩ : ∃ sx, full (S.now (T.sec (ud + 0))) = sx := ⟨_, rfl⟩
          have hsl : sx.length = 512 := by rw [← hsx]; exact now_len hsr _ (sec_lt hok0 _)
          obtain ⟨sc, hsc⟩ : ∃ sc, T.sec (ud + 0) = sc := ⟨_, rfl⟩
          have hsec : ∀ W, Below wr.heap.size wr W → Calls Try.prog 59 #[.pointer (some ⟨Y, 0, none⟩), .int .i64 (ud : Nat)] W fun e w' => e = .returned (.int .i64 (sc : Nat)) ∧ ∃ k, w' = W.drewN k := fun W hW => by
            have := sector_any (hMi.below hW) hoki hN (ud + 0) (by omega)
            rw [show (T.got Ls j).sec (ud + 0) = sc from hsc] at this
            exact this
          have hrd : ∀ W, Below wr.heap.size wr W → Calls Try.prog 50 #[.pointer (some ⟨X, 0, none⟩), .int .i64 (sc : Nat)] W fun e w' => ∃ g, e = .returned (.tuple #[.slice (some ⟨g, 0, none⟩) 512 512, .int .i64 0]) ∧ Mem w' g 5 (bs sx).toArray ∧ Below W.heap.size W w' := fun W hW => (d_read (hsr.below hW) hdd hof sc (by rw [← hsc]; exact sec_lt hok0 _) hw).mono fun e w' ⟨g, h1, h2, h3, h4, h5⟩ => ⟨g, h1, by rw [← hsx, hsc]; exact h3, h5⟩
          have hup : ∀ W g, Mem W g 5 (bs sx).toArray → Calls Try.prog 80 #[.slice (some ⟨g, 0, none⟩) 512 512] W fun e w' => ∃ v', e = .returned (.tuple #[.int .u64 ((rdU S T (ud + 0)).num : Nat), .int .u32 ((rdU S T (ud + 0)).life : Nat), .int .i64 ((rdU S T (ud + 0)).part : Nat), .int .i64 ((rdU S T (ud + 0)).parts : Nat), v', .int .i64 ((rdU S T (ud + 0)).err : Nat)]) ∧ w'.ownsRow W.heap.size 5 1 v' (rdU S T (ud + 0)).dat.length (bs (rdU S T (ud + 0)).dat) ∧ Below W.heap.size W w' := fun W g hm => by
            have := unpack_any (.slice (some ⟨g, 0, none⟩) 512 512) sx W (by rw [hsl]; exact sl_of_row (n := 512) hm (by rw [bs_len, hsl]) (by unfold maxLen; omega)) (by omega)
            rw [← hsx] at this
            exact this
          have hp := HPT.out 0 (by omega)
          rw [hp] at hup
          simp only at hup
          have hchl := chunk_len l 0
          have hdef := HDF.out
          have hlng := HLG.out
          have htk := take_chunk l 0
          rw [Nat.zero_mul, List.take_zero, List.nil_append, Nat.zero_add] at htk
          have hx1 : ¬ (T.life : Int) < (fl : Int) := by omega
          have hx2 : ¬ (fl : Int) < (lst : Int) := by omega
          have hx3 : ¬ (T.n : Int) - (ud : Int) < (cnt : Int) := by omega
          have c3 : ∀ W1, Below wr.heap.size wr W1 → W1.cell? ⟨Y, 3, none⟩ = some (.int .u32 (T.life : Nat)) := fun W1 h1 => (HM.out.below (hb.trans (h1.mono hb.size))).c3
          have hn8 := fun W1 (h1 : Below wr.heap.size wr W1) => hnxt W1 (HM.out.below (hb.trans (h1.mono hb.size)))
          have hr8 : ∀ W1 (h1 : Below wr.heap.size wr W1), Calls Try.prog 57 #[.pointer (some ⟨Y, 0, none⟩)] W1 fun e w' => e = .returned (.int .i64 ((T.n : Int) - (ud : Int))) ∧ ∃ k, w' = W1.drewN k := fun W1 h1 => by
            have := room_any (HM.out.below (hb.trans (h1.mono hb.size))) hoki hN
            rw [show (T.got Ls j).used = ud from hud] at this
            exact this
          go_wp2
          refine wp_region_any (by kernel_rfl) ?_
          change wpAny _ _ _ _ _ _ _ (World.drew _)
          refine wpAny_take (i := 0) (oi := { dst := some 31, op := Op.move (Operand.tmp 0), type := 64, pos := "ring.go:78", after := #[], guard := none }) (v := (.pointer (some ⟨Y, 0, none⟩))) rfl (by kernel_rfl) (by kernel_rfl) (by kernel_rfl) (fun _ _ _ h => h) (Or.inl ⟨by rfl, by intro w; go_simp⟩) ?_
          try dsimp only [Act.put]
          try simp only [List.setIfInBounds_toArray, List.set_cons_succ, List.set_cons_zero]
          apply calm_tailK 17 [0] [.is (.pointer (some ⟨Y, 0, none⟩)), .is (.pointer (some ⟨Y, 0, none⟩)), .is (.pointer (some ⟨Y, 0, none⟩)), .is (.pointer (some ⟨X, 0, none⟩)), .is (.pointer (some ⟨Y, 0, none⟩)), .is (.pointer (some ⟨Y, 0, none⟩)), .is (.pointer (some ⟨Y, 0, none⟩)), .is (.pointer (some ⟨Y, 7, none⟩)), .is (.int .i64 (ud : Nat)), .is (.int .i64 (0)), .is (.int .i64 (ud : Nat)), .is (.int .i64 (sc : Nat)), .of (fun x W => ∃ g, x = .tuple #[.slice (some ⟨g, 0, none⟩) 512 512, .int .i64 0] ∧ Mem W g 5 (bs sx).toArray) (fun x W W' hb ⟨g, hx, hm⟩ => ⟨g, hx, hm.below hb hm.lt⟩), .of (fun x W => ∃ g, x = .tuple #[.slice (some ⟨g, 0, none⟩) 512 512, .int .i64 0] ∧ Mem W g 5 (bs sx).toArray) (fun x W W' hb ⟨g, hx, hm⟩ => ⟨g, hx, hm.below hb hm.lt⟩), .of (fun x W => ∃ g, x = .slice (some ⟨g, 0, none⟩) 512 512 ∧ Mem W g 5 (bs sx).toArray) (fun x W W' hb ⟨g, hx, hm⟩ => ⟨g, hx, hm.below hb hm.lt⟩), .is (.int .i64 0), .of (fun x W => ∃ g, x = .slice (some ⟨g, 0, none⟩) 512 512 ∧ Mem W g 5 (bs sx).toArray) (fun x W W' hb ⟨g, hx, hm⟩ => ⟨g, hx, hm.below hb hm.lt⟩)] [[], [0], [1], [2], [], [], [5], [6], [7], [], [8, 9], [4, 10], [3, 11, 11], [12], [13], [13], [14, 12, 0, 1, 2, 3, 4, 5, 6, 7, 8, 9, 10, 11, 12, 13, 14]] (by kernel_rfl) (by kernel_rfl) rfl (by decide) (by intro i hi o ho; obtain rfl := List.mem_singleton.1 hi; obtain rfl := Option.some.inj ho; exact rfl)
          intro f a1 ha1
          simp only [List.take_succ_cons, List.take_zero, putL, Act.put, List.setIfInBounds_toArray, List.set_cons_succ, List.set_cons_zero] at ha1
          subst ha1
          refine ⟨?_, ?_⟩
          · refine AllCalm.cons (fun W hB hd => ?_) ?_
            · go_wp2_with (fail)
              exact CalmQ.mk rfl _ rfl (Below.refl _ _) rfl
            refine AllCalm.cons (fun W hB hd => ?_) ?_
            · obtain ⟨h0, -⟩ := hd
              have h0 : f 0 = _ := h0
              rw [h0]
              go_wp2_with (fail)
              exact CalmQ.mk rfl _ rfl (Below.refl _ _) rfl
            refine AllCalm.cons (fun W hB hd => ?_) ?_
            · obtain ⟨h1, -⟩ := hd
              have h1 : f 1 = _ := h1
              rw [h1]
              go_wp2_with (fail)
              exact CalmQ.mk rfl _ rfl (Below.refl _ _) rfl
            refine AllCalm.cons (fun W hB hd => ?_) ?_
            · obtain ⟨h2, -⟩ := hd
              have h2 : f 2 = _ := h2
              rw [h2]
              have y0 := (hMi.below ((Below.refl _ wr).drew.trans hB)).c0
              go_wp2_with (fail)
              exact CalmQ.mk rfl _ rfl (Below.refl _ _) rfl
            refine AllCalm.cons (fun W hB hd => ?_) ?_
            · go_wp2_with (fail)
              exact CalmQ.mk rfl _ rfl (Below.refl _ _) rfl
            refine AllCalm.cons (fun W hB hd => ?_) ?_
            · go_wp2_with (fail)
              exact CalmQ.mk rfl _ rfl (Below.refl _ _) rfl
            refine AllCalm.cons (fun W hB hd => ?_) ?_
            · obtain ⟨h5, -⟩ := hd
              have h5 : f 5 = _ := h5
              rw [h5]
              go_wp2_with (fail)
              exact CalmQ.mk rfl _ rfl (Below.refl _ _) rfl
            refine AllCalm.cons (fun W hB hd => ?_) ?_
            · obtain ⟨h6, -⟩ := hd
              have h6 : f 6 = _ := h6
              rw [h6]
              go_wp2_with (fail)
              exact CalmQ.mk rfl _ rfl (Below.refl _ _) rfl
            refine AllCalm.cons (fun W hB hd => ?_) ?_
            · obtain ⟨h7, -⟩ := hd
              have h7 : f 7 = _ := h7
              rw [h7]
              have y7 := hc7 W ((Below.refl _ wr).drew.trans hB)
              go_wp2_with (fail)
              exact CalmQ.mk rfl _ rfl (Below.refl _ _) rfl
            refine AllCalm.cons (fun W hB hd => ?_) ?_
            · go_wp2_with (fail)
              exact CalmQ.mk rfl _ rfl (Below.refl _ _) rfl
            refine AllCalm.cons (fun W hB hd => ?_) ?_
            · obtain ⟨h8, h9, -⟩ := hd
              have h8 : f 8 = _ := h8
              have h9 : f 9 = _ := h9
              rw [h8, h9]
              go_wp2_with (fail)
              exact CalmQ.mk rfl _ rfl (Below.refl _ _) rfl
            refine AllCalm.cons (fun W hB hd => ?_) ?_
            · obtain ⟨h4, h10, -⟩ := hd
              have h4 : f 4 = _ := h4
              have h10 : f 10 = _ := h10
              rw [h4, h10]
              have hse := hsec W ((Below.refl _ wr).drew.trans hB)
              go_wp2_with ((go_at_call 59; (with_reducible refine hse.mono ?_); rintro e w1 ⟨rfl, k1, rfl⟩))
              exact CalmQ.mk rfl _ rfl (below_drewN (Below.refl _ _) _) rfl
            refine AllCalm.cons (fun W hB hd => ?_) ?_
            · obtain ⟨h3, h11, -, -⟩ := hd
              have h3 : f 3 = _ := h3
              have h11 : f 11 = _ := h11
              rw [h3, h11]
              have hrdW := hrd W ((Below.refl _ wr).drew.trans hB)
              go_wp2_with ((go_at_call 50; (with_reducible refine hrdW.mono ?_); rintro e w2 ⟨g2, rfl, hm2, hb2⟩))
              exact CalmQ.mk rfl _ rfl hb2 ⟨g2, rfl, hm2⟩
            refine AllCalm.cons (fun W hB hd => ?_) ?_
            · obtain ⟨h12, -⟩ := hd
              go_wp2_with (fail)
              exact CalmQ.mk rfl _ rfl (Below.refl _ _) h12
            refine AllCalm.cons (fun W hB hd => ?_) ?_
            · obtain ⟨h13, -⟩ := hd
              obtain ⟨g8, e8, m8⟩ := h13; rw [e8]
              go_wp2_with (fail)
              exact CalmQ.mk rfl _ rfl (Below.refl _ _) ⟨g8, rfl, m8⟩
            refine AllCalm.cons (fun W hB hd => ?_) ?_
            · obtain ⟨h13, -⟩ := hd
              obtain ⟨g8, e8, m8⟩ := h13; rw [e8]
              go_wp2_with (fail)
              exact CalmQ.mk rfl _ rfl (Below.refl _ _) rfl
            refine AllCalm.cons (fun W hB hd => ?_) ?_
            · obtain ⟨h14, h12, h0, h1, h2, h3, h4, h5, h6, h7, h8, h9, h10, h11, -, h13, -, -⟩ := hd
              have h0 : f 0 = _ := h0
              have h1 : f 1 = _ := h1
              have h2 : f 2 = _ := h2
              have h3 : f 3 = _ := h3
              have h4 : f 4 = _ := h4
              have h5 : f 5 = _ := h5
              have h6 : f 6 = _ := h6
              have h7 : f 7 = _ := h7
              have h8 : f 8 = _ := h8
              have h9 : f 9 = _ := h9
              have h10 : f 10 = _ := h10
              have h11 : f 11 = _ := h11
              rw [h0, h1, h2, h3, h4, h5, h6, h7, h8, h9, h10, h11]
              go_wp2_with (fail)
              exact CalmQ.mk rfl _ rfl (Below.refl _ _) h14
            exact AllCalm.nil
          · intro W hB hT
            obtain ⟨h0, h1, h2, h3, h4, h5, h6, h7, h8, h9, h10, h11, h12, h13, h14, h15, h16, -⟩ := hT
            have h0 : f 0 = _ := h0
            have h1 : f 1 = _ := h1
            have h2 : f 2 = _ := h2
            have h3 : f 3 = _ := h3
            have h4 : f 4 = _ := h4
            have h5 : f 5 = _ := h5
            have h6 : f 6 = _ := h6
            have h7 : f 7 = _ := h7
            have h8 : f 8 = _ := h8
            have h9 : f 9 = _ := h9
            have h10 : f 10 = _ := h10
            have h11 : f 11 = _ := h11
            have h15 : f 15 = _ := h15
            rw [h0, h1, h2, h3, h4, h5, h6, h7, h8, h9, h10, h11, h15]
            clear h0 h1 h2 h3 h4 h5 h6 h7 h8 h9 h10 h11 h15
            simp only [List.drop_succ_cons, List.drop_zero]
            obtain ⟨g2, e16, m2⟩ := h16
            have e16 : _ = Value.slice (some ⟨g2, 0, none⟩) 512 512 := e16
            rw [e16]
            have hbW : Below wr.heap.size wr W := (Below.refl _ wr).drew.trans hB
            have hup2 := hup W g2 m2
            have hmx : ((chunk l 0).length : Int) ≤ 480 := by omega
            have hm480 : 1 < cnt → (chunk l 0).length = 480 := fun h => by omega
            clear hup hrd hsec m2 hchl hdef hlng hp
            generalize chunk l 0 = ck at *
            have hbwo : Below wo.heap.size wo W := hb.trans (hbW.mono hb.size)
            have HTK := Lib.hid htk
            clear htk
            by_cases hlast : cnt = 1
            · have hxl2 : (cnt : Int) - 1 = 0 := by omega
              clear hm480
              go_wp2_with (first
                | (go_at_call 80; (with_reducible refine hup2.mono ?_); rintro e w8 ⟨v8, rfl, o8, b8⟩; obtain ⟨A8, c8, rfl, _, _⟩ := own_form o8; have hn9 := hn8 w8 (hbW.trans (b8.mono hbW.size)))
                | (go_at_call 37; (with_reducible refine hn9.mono ?_); rintro e w9 ⟨rfl, k9, rfl⟩; have b9 := below_drewN b8 k9; have y3 := c3 _ (hbW.trans (b9.mono hbW.size)); have hr9 := hr8 _ (hbW.trans (b9.mono hbW.size)))
                | (go_at_call 57; (with_reducible refine hr9.mono ?_); rintro e w10 ⟨rfl, k10, rfl⟩; have hs8 := (Sl.of_own o8).drewN (k9 + k10); have b10 := below_drewN b8 (k9 + k10); have hsz := Nat.le_trans hbwo.size b10.size)
                | (at_builtin; (refine wpList_append_sl _ rfl (.tmp 129) (.tmp 130) _ rfl wo.heap.size 5 i0 _ Try.underlying34 hi hz0 hz1 (by omega) rfl (.slice none 0 0) 0 [] rfl (World.ownsRow_nil _ _ _ _) _ (.slice A8 ck.length c8) ck.length (bs ck) rfl hs8 bs_one (by omega) hsz ?_); intro v12 w12 ho12 hg12 hat12; obtain ⟨A12, c12, rfl, _, _⟩ := own_form ho12; have hb12 := below_own (hbwo.trans (b10.mono hbwo.size)) hg12 hsz (fun k hk => by cases hk)))
              all_goals
                have ho13 : w12.ownsRow wo.heap.size 5 1 (.slice A12 ck.length c12) ck.length (bs ck) := by simpa using ho12
                exact ⟨.inr ⟨1, A12, c12, ck, HTK, Nat.le_refl _, hpos, rfl, rfl, (by first | rfl | (rw [hlast]; rfl)), rfl, ho13, hb12⟩, by simp [intOf]; omega⟩
            · have hxl : ¬ (0 : Int) = (cnt : Int) - 1 := by omega
              have hxl2 : ((0 : Int) == (cnt : Int) - 1) = false := by simpa using hxl
              have hxm : ¬ (ck.length : Int) < 480 := by have := hm480 (by omega); omega
              clear hm480
              go_wp2_with (first
                | (go_at_call 80; (with_reducible refine hup2.mono ?_); rintro e w8 ⟨v8, rfl, o8, b8⟩; obtain ⟨A8, c8, rfl, _, _⟩ := own_form o8; have hn9 := hn8 w8 (hbW.trans (b8.mono hbW.size)))
                | (go_at_call 37; (with_reducible refine hn9.mono ?_); rintro e w9 ⟨rfl, k9, rfl⟩; have b9 := below_drewN b8 k9; have y3 := c3 _ (hbW.trans (b9.mono hbW.size)); have hr9 := hr8 _ (hbW.trans (b9.mono hbW.size)))
                | (go_at_call 57; (with_reducible refine hr9.mono ?_); rintro e w10 ⟨rfl, k10, rfl⟩; have hs8 := (Sl.of_own o8).drewN (k9 + k10); have b10 := below_drewN b8 (k9 + k10); have hsz := Nat.le_trans hbwo.size b10.size)
                | (at_builtin; (refine wpList_append_sl _ rfl (.tmp 129) (.tmp 130) _ rfl wo.heap.size 5 i0 _ Try.underlying34 hi hz0 hz1 (by omega) rfl (.slice none 0 0) 0 [] rfl (World.ownsRow_nil _ _ _ _) _ (.slice A8 ck.length c8) ck.length (bs ck) rfl hs8 bs_one (by omega) hsz ?_); intro v12 w12 ho12 hg12 hat12; obtain ⟨A12, c12, rfl, _, _⟩ := own_form ho12; have hb12 := below_own (hbwo.trans (b10.mono hbwo.size)) hg12 hsz (fun k hk => by cases hk)))
              all_goals
                have ho13 : w12.ownsRow wo.heap.size 5 1 (.slice A12 ck.length c12) ck.length (bs ck) := by simpa using ho12
                exact ⟨.inr ⟨1, A12, c12, ck, HTK, Nat.le_refl _, hpos, rfl, rfl, (by first | rfl | (rw [hlast]; rfl)), rfl, ho13, hb12⟩, by simp [intOf]; omega⟩
        · have hoki := HOK.out
          have hMi := HM.out.below hb
          have hsr := hso.below hb
          have hdef := HDF.out
          have hlng := HLG.out
          by_cases hilt : i < cnt
          · have hix : (i : Int) < (cnt : Int) := by omega
            have hc7 : ∀ W, Below wr.heap.size wr W → W.cell? ⟨Y, 7, none⟩ = some (.int .i64 (ud : Nat)) := fun W h => by
              have h2 := (hMi.below h).c7
              rw [show (T.got Ls j).used = ud from hud] at h2
              exact h2
            obtain ⟨sx, hsx⟩ : ∃ sx, full (S.now (T.sec (ud + i))) = sx := ⟨_, rfl⟩
            have hsl : sx.length = 512 := by rw [← hsx]; exact now_len hsr _ (sec_lt hok0 _)
            obtain ⟨sc, hsc⟩ : ∃ sc, T.sec (ud + i) = sc := ⟨_, rfl⟩
            have hsec : ∀ W, Below wr.heap.size wr W → Calls Try.prog 59 #[.pointer (some ⟨Y, 0, none⟩), .int .i64 ((ud : Int) + (i : Nat))] W fun e w' => e = .returned (.int .i64 (sc : Nat)) ∧ ∃ k, w' = W.drewN k := fun W hW => by
              have := sector_any (hMi.below hW) hoki hN (ud + i) (by omega)
              rw [show (T.got Ls j).sec (ud + i) = sc from hsc] at this
              exact this
            have hrd : ∀ W, Below wr.heap.size wr W → Calls Try.prog 50 #[.pointer (some ⟨X, 0, none⟩), .int .i64 (sc : Nat)] W fun e w' => ∃ g, e = .returned (.tuple #[.slice (some ⟨g, 0, none⟩) 512 512, .int .i64 0]) ∧ Mem w' g 5 (bs sx).toArray ∧ Below W.heap.size W w' := fun W hW => (d_read (hsr.below hW) hdd hof sc (by rw [← hsc]; exact sec_lt hok0 _) hw).mono fun e w' ⟨g, h1, h2, h3, h4, h5⟩ => ⟨g, h1, by rw [← hsx, hsc]; exact h3, h5⟩
            have hup : ∀ W g, Mem W g 5 (bs sx).toArray → Calls Try.prog 80 #[.slice (some ⟨g, 0, none⟩) 512 512] W fun e w' => ∃ v', e = .returned (.tuple #[.int .u64 ((rdU S T (ud + i)).num : Nat), .int .u32 ((rdU S T (ud + i)).life : Nat), .int .i64 ((rdU S T (ud + i)).part : Nat), .int .i64 ((rdU S T (ud + i)).parts : Nat), v', .int .i64 ((rdU S T (ud + i)).err : Nat)]) ∧ w'.ownsRow W.heap.size 5 1 v' (rdU S T (ud + i)).dat.length (bs (rdU S T (ud + i)).dat) ∧ Below W.heap.size W w' := fun W g hm => by
              have := unpack_any (.slice (some ⟨g, 0, none⟩) 512 512) sx W (by rw [hsl]; exact sl_of_row (n := 512) hm (by rw [bs_len, hsl]) (by unfold maxLen; omega)) (by omega)
              rw [← hsx] at this
              exact this
            have hp := HPT.out i hilt
            rw [hp] at hup
            simp only at hup
            have hchl := chunk_len l i
            have htk := take_chunk l i
            have hx1 : ¬ (T.life : Int) < (fl : Int) := by omega
            have c3 : ∀ W1, Below wr.heap.size wr W1 → W1.cell? ⟨Y, 3, none⟩ = some (.int .u32 (T.life : Nat)) := fun W1 h1 => (HM.out.below (hb.trans (h1.mono hb.size))).c3
            have hn8 := fun W1 (h1 : Below wr.heap.size wr W1) => hnxt W1 (HM.out.below (hb.trans (h1.mono hb.size)))
            have hi0 : ¬ (i : Int) = 0 := by omega
            have hi02 : ((i : Int) == 0) = false := by simpa using hi0
            have hi03 : (0 : Int) < (i : Int) := by omega
            go_wp2
            refine wp_region_any (by kernel_rfl) ?_
            change wpAny _ _ _ _ _ _ _ (World.drew _)
            refine wpAny_take (i := 0) (oi := { dst := some 31, op := Op.move (Operand.tmp 0), type := 64, pos := "ring.go:78", after := #[], guard := none }) (v := (.pointer (some ⟨Y, 0, none⟩))) rfl (by kernel_rfl) (by kernel_rfl) (by kernel_rfl) (fun _ _ _ h => h) (Or.inl ⟨by rfl, by intro w; go_simp⟩) ?_
            try dsimp only [Act.put]
            try simp only [List.setIfInBounds_toArray, List.set_cons_succ, List.set_cons_zero]
            apply calm_tailK 17 [0] [.is (.pointer (some ⟨Y, 0, none⟩)), .is (.pointer (some ⟨Y, 0, none⟩)), .is (.pointer (some ⟨Y, 0, none⟩)), .is (.pointer (some ⟨X, 0, none⟩)), .is (.pointer (some ⟨Y, 0, none⟩)), .is (.pointer (some ⟨Y, 0, none⟩)), .is (.pointer (some ⟨Y, 0, none⟩)), .is (.pointer (some ⟨Y, 7, none⟩)), .is (.int .i64 (ud : Nat)), .is (.int .i64 (i : Nat)), .is (.int .i64 ((ud : Int) + (i : Nat))), .is (.int .i64 (sc : Nat)), .of (fun x W => ∃ g, x = .tuple #[.slice (some ⟨g, 0, none⟩) 512 512, .int .i64 0] ∧ Mem W g 5 (bs sx).toArray) (fun x W W' hb ⟨g, hx, hm⟩ => ⟨g, hx, hm.below hb hm.lt⟩), .of (fun x W => ∃ g, x = .tuple #[.slice (some ⟨g, 0, none⟩) 512 512, .int .i64 0] ∧ Mem W g 5 (bs sx).toArray) (fun x W W' hb ⟨g, hx, hm⟩ => ⟨g, hx, hm.below hb hm.lt⟩), .of (fun x W => ∃ g, x = .slice (some ⟨g, 0, none⟩) 512 512 ∧ Mem W g 5 (bs sx).toArray) (fun x W W' hb ⟨g, hx, hm⟩ => ⟨g, hx, hm.below hb hm.lt⟩), .is (.int .i64 0), .of (fun x W => ∃ g, x = .slice (some ⟨g, 0, none⟩) 512 512 ∧ Mem W g 5 (bs sx).toArray) (fun x W W' hb ⟨g, hx, hm⟩ => ⟨g, hx, hm.below hb hm.lt⟩)] [[], [0], [1], [2], [], [], [5], [6], [7], [], [8, 9], [4, 10], [3, 11, 11], [12], [13], [13], [14, 12, 0, 1, 2, 3, 4, 5, 6, 7, 8, 9, 10, 11, 12, 13, 14]] (by kernel_rfl) (by kernel_rfl) rfl (by decide) (by intro i hi o ho; obtain rfl := List.mem_singleton.1 hi; obtain rfl := Option.some.inj ho; exact rfl)
            intro f a1 ha1
            simp only [List.take_succ_cons, List.take_zero, putL, Act.put, List.setIfInBounds_toArray, List.set_cons_succ, List.set_cons_zero] at ha1
            subst ha1
            refine ⟨?_, ?_⟩
            · refine AllCalm.cons (fun W hB hd => ?_) ?_
              · go_wp2_with (fail)
                exact CalmQ.mk rfl _ rfl (Below.refl _ _) rfl
              refine AllCalm.cons (fun W hB hd => ?_) ?_
              · obtain ⟨h0, -⟩ := hd
                have h0 : f 0 = _ := h0
                rw [h0]
                go_wp2_with (fail)
                exact CalmQ.mk rfl _ rfl (Below.refl _ _) rfl
              refine AllCalm.cons (fun W hB hd => ?_) ?_
              · obtain ⟨h1, -⟩ := hd
                have h1 : f 1 = _ := h1
                rw [h1]
                go_wp2_with (fail)
                exact CalmQ.mk rfl _ rfl (Below.refl _ _) rfl
              refine AllCalm.cons (fun W hB hd => ?_) ?_
              · obtain ⟨h2, -⟩ := hd
                have h2 : f 2 = _ := h2
                rw [h2]
                have y0 := (hMi.below ((Below.refl _ wr).drew.trans hB)).c0
                go_wp2_with (fail)
                exact CalmQ.mk rfl _ rfl (Below.refl _ _) rfl
              refine AllCalm.cons (fun W hB hd => ?_) ?_
              · go_wp2_with (fail)
                exact CalmQ.mk rfl _ rfl (Below.refl _ _) rfl
              refine AllCalm.cons (fun W hB hd => ?_) ?_
              · go_wp2_with (fail)
                exact CalmQ.mk rfl _ rfl (Below.refl _ _) rfl
              refine AllCalm.cons (fun W hB hd => ?_) ?_
              · obtain ⟨h5, -⟩ := hd
                have h5 : f 5 = _ := h5
                rw [h5]
                go_wp2_with (fail)
                exact CalmQ.mk rfl _ rfl (Below.refl _ _) rfl
              refine AllCalm.cons (fun W hB hd => ?_) ?_
              · obtain ⟨h6, -⟩ := hd
                have h6 : f 6 = _ := h6
                rw [h6]
                go_wp2_with (fail)
                exact CalmQ.mk rfl _ rfl (Below.refl _ _) rfl
              refine AllCalm.cons (fun W hB hd => ?_) ?_
              · obtain ⟨h7, -⟩ := hd
                have h7 : f 7 = _ := h7
                rw [h7]
                have y7 := hc7 W ((Below.refl _ wr).drew.trans hB)
                go_wp2_with (fail)
                exact CalmQ.mk rfl _ rfl (Below.refl _ _) rfl
              refine AllCalm.cons (fun W hB hd => ?_) ?_
              · go_wp2_with (fail)
                exact CalmQ.mk rfl _ rfl (Below.refl _ _) rfl
              refine AllCalm.cons (fun W hB hd => ?_) ?_
              · obtain ⟨h8, h9, -⟩ := hd
                have h8 : f 8 = _ := h8
                have h9 : f 9 = _ := h9
                rw [h8, h9]
                go_wp2_with (fail)
                exact CalmQ.mk rfl _ rfl (Below.refl _ _) rfl
              refine AllCalm.cons (fun W hB hd => ?_) ?_
              · obtain ⟨h4, h10, -⟩ := hd
                have h4 : f 4 = _ := h4
                have h10 : f 10 = _ := h10
                rw [h4, h10]
                have hse := hsec W ((Below.refl _ wr).drew.trans hB)
                go_wp2_with ((go_at_call 59; (with_reducible refine hse.mono ?_); rintro e w1 ⟨rfl, k1, rfl⟩))
                exact CalmQ.mk rfl _ rfl (below_drewN (Below.refl _ _) _) rfl
              refine AllCalm.cons (fun W hB hd => ?_) ?_
              · obtain ⟨h3, h11, -, -⟩ := hd
                have h3 : f 3 = _ := h3
                have h11 : f 11 = _ := h11
                rw [h3, h11]
                have hrdW := hrd W ((Below.refl _ wr).drew.trans hB)
                go_wp2_with ((go_at_call 50; (with_reducible refine hrdW.mono ?_); rintro e w2 ⟨g2, rfl, hm2, hb2⟩))
                exact CalmQ.mk rfl _ rfl hb2 ⟨g2, rfl, hm2⟩
              refine AllCalm.cons (fun W hB hd => ?_) ?_
              · obtain ⟨h12, -⟩ := hd
                go_wp2_with (fail)
                exact CalmQ.mk rfl _ rfl (Below.refl _ _) h12
              refine AllCalm.cons (fun W hB hd => ?_) ?_
              · obtain ⟨h13, -⟩ := hd
                obtain ⟨g8, e8, m8⟩ := h13; rw [e8]
                go_wp2_with (fail)
                exact CalmQ.mk rfl _ rfl (Below.refl _ _) ⟨g8, rfl, m8⟩
              refine AllCalm.cons (fun W hB hd => ?_) ?_
              · obtain ⟨h13, -⟩ := hd
                obtain ⟨g8, e8, m8⟩ := h13; rw [e8]
                go_wp2_with (fail)
                exact CalmQ.mk rfl _ rfl (Below.refl _ _) rfl
              refine AllCalm.cons (fun W hB hd => ?_) ?_
              · obtain ⟨h14, h12, h0, h1, h2, h3, h4, h5, h6, h7, h8, h9, h10, h11, -, h13, -, -⟩ := hd
                have h0 : f 0 = _ := h0
                have h1 : f 1 = _ := h1
                have h2 : f 2 = _ := h2
                have h3 : f 3 = _ := h3
                have h4 : f 4 = _ := h4
                have h5 : f 5 = _ := h5
                have h6 : f 6 = _ := h6
                have h7 : f 7 = _ := h7
                have h8 : f 8 = _ := h8
                have h9 : f 9 = _ := h9
                have h10 : f 10 = _ := h10
                have h11 : f 11 = _ := h11
                rw [h0, h1, h2, h3, h4, h5, h6, h7, h8, h9, h10, h11]
                go_wp2_with (fail)
                exact CalmQ.mk rfl _ rfl (Below.refl _ _) h14
              exact AllCalm.nil
            · intro W hB hT
              obtain ⟨h0, h1, h2, h3, h4, h5, h6, h7, h8, h9, h10, h11, h12, h13, h14, h15, h16, -⟩ := hT
              have h0 : f 0 = _ := h0
              have h1 : f 1 = _ := h1
              have h2 : f 2 = _ := h2
              have h3 : f 3 = _ := h3
              have h4 : f 4 = _ := h4
              have h5 : f 5 = _ := h5
              have h6 : f 6 = _ := h6
              have h7 : f 7 = _ := h7
              have h8 : f 8 = _ := h8
              have h9 : f 9 = _ := h9
              have h10 : f 10 = _ := h10
              have h11 : f 11 = _ := h11
              have h15 : f 15 = _ := h15
              rw [h0, h1, h2, h3, h4, h5, h6, h7, h8, h9, h10, h11, h15]
              clear h0 h1 h2 h3 h4 h5 h6 h7 h8 h9 h10 h11 h15
              simp only [List.drop_succ_cons, List.drop_zero]
              obtain ⟨g2, e16, m2⟩ := h16
              have e16 : _ = Value.slice (some ⟨g2, 0, none⟩) 512 512 := e16
              rw [e16]
              have hbW : Below wr.heap.size wr W := (Below.refl _ wr).drew.trans hB
              have hup2 := hup W g2 m2
              have hmx : (chunk l i).length ≤ 480 := by omega
              have hm480 : i + 1 < cnt → (chunk l i).length = 480 := fun h => by omega
              have hm0 : (chunk l i).length ≠ 0 := by omega
              have htl : pre.length ≤ 32768 := by rw [HPR.out, List.length_take]; omega
              have HTK : Hid (pre ++ chunk l i = l.take ((i + 1) * 480)) := Lib.hid (by rw [HPR.out]; exact htk)
              clear hup hrd hsec m2 hchl hdef hlng hp htk
              generalize chunk l i = ck at *
              have hbwo : Below wo.heap.size wo W := hb.trans (hbW.mono hb.size)
              have hckx : (ck.length : Int) ≤ 480 := by omega
              have htlx := Lib.hid htl
              by_cases hlast : i + 1 = cnt
              · have hxl2 : (cnt : Int) - 1 = (i : Int) := by omega
                have hck0 : ¬ (ck.length : Int) = 0 := by omega
                have hck1 : ((ck.length : Int) == 0) = false := by simpa using hck0
                have hck2 : ck ≠ [] := by rintro rfl; exact hm0 rfl
                clear hm480
                go_wp2_with (first
                  | (go_at_call 80; (with_reducible refine hup2.mono ?_); rintro e w8 ⟨v8, rfl, o8, b8⟩; obtain ⟨A8, c8, rfl, _, _⟩ := own_form o8; have hn9 := hn8 w8 (hbW.trans (b8.mono hbW.size)))
                  | (go_at_call 37; (with_reducible refine hn9.mono ?_); rintro e w9 ⟨rfl, k9, rfl⟩; have y3 := c3 _ (hbW.trans ((below_drewN b8 k9).mono hbW.size)); have hs8 := (Sl.of_own o8).drewN k9; have b10 := below_drewN b8 k9; have hsz := Nat.le_trans hbwo.size b10.size; have hwn := owns_below hown (hbW.trans (b10.mono hbW.size)))
                  | (at_builtin; (refine wpList_append_sl _ rfl (.tmp 129) (.tmp 130) _ rfl wo.heap.size 5 i0 _ Try.underlying34 hi hz0 hz1 (by omega) rfl (.slice A pre.length c) pre.length (bs pre) rfl hwn _ (.slice A8 ck.length c8) ck.length (bs ck) rfl hs8 bs_one (by omega) hsz ?_); intro v12 w12 ho12 hg12 hat12; have ho13 : w12.ownsRow wo.heap.size 5 1 v12 (pre ++ ck).length (bs (pre ++ ck)) := (by rw [bs_app, List.length_append]; exact ho12); obtain ⟨q, hq⟩ : ∃ q, pre ++ ck = q := ⟨_, rfl⟩; rw [hq] at ho13 HTK; clear hq; obtain ⟨A12, c12, rfl, _, _⟩ := own_form ho13; have hb12 := below_own (hbwo.trans (b10.mono hbwo.size)) hg12 hsz (fun k hk => (own_tag hown k hk).1)))
                all_goals exact ⟨.inr ⟨i + 1, A12, c12, q, HTK, by omega, by omega, rfl, rfl, rfl, by go_num, ho13, hb12⟩, by simp [intOf]; omega⟩
              · have hxl : ¬ (i : Int) = (cnt : Int) - 1 := by omega
                have hxl2 : ((i : Int) == (cnt : Int) - 1) = false := by simpa using hxl
                have hxm : ¬ (ck.length : Int) < 480 := by have := hm480 (by omega); omega
                clear hm480
                go_wp2_with (first
                  | (go_at_call 80; (with_reducible refine hup2.mono ?_); rintro e w8 ⟨v8, rfl, o8, b8⟩; obtain ⟨A8, c8, rfl, _, _⟩ := own_form o8; have hn9 := hn8 w8 (hbW.trans (b8.mono hbW.size)))
                  | (go_at_call 37; (with_reducible refine hn9.mono ?_); rintro e w9 ⟨rfl, k9, rfl⟩; have y3 := c3 _ (hbW.trans ((below_drewN b8 k9).mono hbW.size)); have hs8 := (Sl.of_own o8).drewN k9; have b10 := below_drewN b8 k9; have hsz := Nat.le_trans hbwo.size b10.size; have hwn := owns_below hown (hbW.trans (b10.mono hbW.size)))
                  | (at_builtin; (refine wpList_append_sl _ rfl (.tmp 129) (.tmp 130) _ rfl wo.heap.size 5 i0 _ Try.underlying34 hi hz0 hz1 (by omega) rfl (.slice A pre.length c) pre.length (bs pre) rfl hwn _ (.slice A8 ck.length c8) ck.length (bs ck) rfl hs8 bs_one (by omega) hsz ?_); intro v12 w12 ho12 hg12 hat12; have ho13 : w12.ownsRow wo.heap.size 5 1 v12 (pre ++ ck).length (bs (pre ++ ck)) := (by rw [bs_app, List.length_append]; exact ho12); obtain ⟨q, hq⟩ : ∃ q, pre ++ ck = q := ⟨_, rfl⟩; rw [hq] at ho13 HTK; clear hq; obtain ⟨A12, c12, rfl, _, _⟩ := own_form ho13; have hb12 := below_own (hbwo.trans (b10.mono hbwo.size)) hg12 hsz (fun k hk => (own_tag hown k hk).1)))
                all_goals exact ⟨.inr ⟨i + 1, A12, c12, q, HTK, by omega, by omega, rfl, rfl, rfl, by go_num, ho13, hb12⟩, by simp [intOf]; omega⟩
          · have hic2 : i = cnt := by omega
            have hix : ¬ (i : Int) < (cnt : Int) := by omega
            have hpre : pre = l := by rw [HPR.out, hic2, List.take_of_length_le (by omega)]
            clear HPR hdef
            subst hpre
            have hplx : (pre.length : Int) ≤ 32768 := by omega
            have hnr : (T.got Ls j).recs.length = j := by
              show ((Ls.take j).map _).length = j
              rw [List.length_map, List.length_take]
              omega
            have hrow : RowO wr R' 34 rv' j D' := by
              have h1 := hMi.row
              rw [hnr] at h1
              exact h1
            obtain ⟨Ar, cr, rfl, _, _⟩ := hrow.form
            have hfewj := HLY.out.few
            have hj6 : j + 1 ≤ 1000000 := by omega
            have hrowA := fun ob => hrow.below ((Below.refl _ wr).alloc (Nat.le_refl _) ob)
            have y6 : wr.cell? ⟨Y, 6, none⟩ = some (.slice Ar j cr) := hMi.c6
            have hpu : ∀ (w13 : World) v13, Eff (fun k => (Value.slice Ar j cr).ownBlock = some k) (wr.alloc (.cells #[.slice A pre.length c] 34)) w13 → RowO w13 (fun k => R' k ∨ k = (wr.alloc (.cells #[.slice A pre.length c] 34)).heap.size) 34 v13 (j + 1) (D' ++ [.slice A pre.length c]) → RgM (w13.setCell ⟨Y, 6, none⟩ v13) Y X (OM R' wo w13) { T.got Ls j with recs := (T.got Ls j).recs ++ [pre] } v13 (D' ++ [.slice A pre.length c]) ∧ Eff R' wo (w13.setCell ⟨Y, 6, none⟩ v13) ∧ w13.cell? ⟨Y, 6, none⟩ = some (.slice Ar j cr) ∧ w13.frozen? ⟨Y, 6, none⟩ = false := by
              intro w13 v13 he hr
              have hba : Below wr.heap.size wr (wr.alloc (.cells #[.slice A pre.length c] 34)) := (Below.refl _ wr).alloc (Nat.le_refl _) _
              have hbs := hba.size
              have hb2 := hb.size
              have hMo := HM.out
              refine hMo.push (u := .slice A pre.length c) (l := pre) ?_ ?_ ?_
              · exact (Eff.of (hb.trans (hba.mono hb.size))).trans he fun _ _ h => h
              · refine owns_eff (owns_below hown hba) he fun k hk hS => ?_
                have h1 := (own_tag hown k hk).1
                have h2 := hMo.row.lt hS
                omega
              · rw [hnr]
                exact hr.more fun k hk => hk.imp id fun h => by omega
            go_wp2_with (at_builtin; (refine wpList_append_ro _ rfl (.tmp 136) (.tmp 138) _ rfl 34 i1 _ 24 Try.underlying43 hi1 hy0 hy1 hy2 rfl (.slice Ar j cr) j D' rfl (hrowA _) wr.heap.size 1 (.slice A pre.length c) rfl (Mem.new wr _ _) rfl hj6 (by omega) ?_); intro v13 w13 ho13 he13 hat13 hf13; obtain ⟨q1, q2, q3, q4⟩ := hpu w13 v13 he13 ho13; obtain ⟨g13, o13, d13, rfl⟩ := hf13; have z7 : (w13.setCell ⟨Y, 6, none⟩ (.slice (some ⟨g13, o13, none⟩) (j + 1) d13)).cell? ⟨Y, 7, none⟩ = some (.int .i64 (ud : Nat)) := (by have h7 := q1.c7; rw [show ({ T.got Ls j with recs := (T.got Ls j).recs ++ [pre] } : RS).used = ud from hud] at h7; exact h7); have f7 := q1.mem.free 7)
            have q7 := q1.setY 7 (.int .i64 ((ud : Int) + (cnt : Int))) (T' := { T.got Ls j with recs := (T.got Ls j).recs ++ [pre], used := ud + cnt }) rfl rfl
            have q8 := effOX (i := 7) (u := .int .i64 ((ud : Int) + (cnt : Int))) q2 HM.out.ry
            have hgo := HGS.out
            have q9 : RgM _ Y X (OM R' wo w13) (T.got Ls (j + 1)) _ _ := hgo ▸ q7
            have o7 : wo.cell? ⟨Y, 7, none⟩ = some (.int .i64 (ud : Nat)) := by
              have h7 := HM.out.c7
              rw [show (T.got Ls j).used = ud from hud] at h7
              exact h7
            have n7 : ((w13.setCell ⟨Y, 6, none⟩ (.slice (some ⟨g13, o13, none⟩) (j + 1) d13)).setCell ⟨Y, 7, none⟩ (.int .i64 ((ud : Int) + (cnt : Int)))).cell? ⟨Y, 7, none⟩ = some (.int .i64 ((ud + cnt : Nat) : Int)) := q7.c7
            refine ⟨⟨j + 1, _, _, _, hjl, by rw [HLL.out], q9, hE.trans q8 fun k hk h => ?_, fun k hk => ?_⟩, ?_⟩
            · exact (hRR k h).elim id fun h2 => absurd hk (by omega)
            · rcases hk with hk | hk
              · exact hRR k hk
              · exact .inr (by omega)
            · rw [o7, n7]
              show T.n - ((ud + cnt : Nat) : Int).toNat < T.n - ((ud : Nat) : Int).toNat
              omega
end
end Rg
end Go.Proofs.Ytpfackjnnkjjdaa
