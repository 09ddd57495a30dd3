/- Package trace: rowOrder (up to the first commit whose time goes back), outOrder. Written by tools/gen-tc3.py. -/
import Derived.Test.YtflodljccloobaaTc2
import Derived.BigQuiet
import Derived.Deep.QuietTactic
namespace Go.Proofs.Ytflodljccloobaa
open Go.ChangeShapes Go.WideShapes Go.ChangeAt Go.RowKit Go.Lib
set_option linter.unusedVariables false
set_option linter.unusedSimpArgs false
set_option maxRecDepth 100000
namespace Tc
theorem nodup_same {l : List (Int × Nat)} (h : l.Nodup) {i j : Nat} {x : Int × Nat} (h1 : l[i]? = some x) (h2 : l[j]? = some x) : i = j := by
  rcases Nat.lt_trichotomy i j with q | q | q
  · exact (nodup_apart h q h1 h2).elim
  · exact q
  · exact (nodup_apart h q h2 h1).elim
theorem get_map {α : Type} {l : List α} {f : α → Int × Nat} {j : Nat} {y : α} (h : l[j]? = some y) : (l.map f)[j]? = some (f y) := by rw [List.getElem?_map, h]; rfl
/-- The first m commits are right: each was asked for, no later than it stands there, and not ahead of the one before. -/
def RowOk (ins : List Iv) (rows : List Cm) (m : Nat) : Prop := ∀ k x, k < m → rows[k]? = some x → ∃ (j : Nat) (y : Iv), ins[j]? = some y ∧ nmI y = nmC x ∧ ¬ x.t < y.t ∧ ∀ z, 0 < k → rows[k - 1]? = some z → ¬ x.t < z.t
/-- The commit at m goes back. -/
def RowBack (ins : List Iv) (rows : List Cm) (m : Nat) : Prop := ∀ x, rows[m]? = some x → ∃ (j : Nat) (y : Iv) (z : Cm), ins[j]? = some y ∧ nmI y = nmC x ∧ 0 < m ∧ rows[m - 1]? = some z ∧ x.t < z.t
set_option maxHeartbeats 8000000 in
theorem rowOrder_any {w : World} (v1 v2 : Value) (ins : List Iv) (rows : List Cm) (ra m : Nat) (h1 : Rw w v1 ins.length 11 (ins.flatMap ivc)) (h2 : Rw w v2 rows.length 3 (rows.flatMap cmc)) (hl1 : ins.length ≤ 1000) (hl2 : rows.length ≤ 1000) (hk1 : ∀ x ∈ ins, NOk x.h x.i) (hk2 : ∀ x ∈ rows, NOk x.h x.i) (hn1 : (ins.map nmI).Nodup) (hn2 : (rows.map nmC).Nodup) (ma : MapAt w ra (ent (ins.map nmI) ins.length)) (hm : m ≤ rows.length) (hok : RowOk ins rows m) (hb : m < rows.length → RowBack ins rows m) : Calls Try.prog 9 #[v1, .map (some ra), v2] w fun e w' => ∃ r, e = .returned (.tuple #[.map (some r), .int .i64 ((if m < rows.length then m else rows.length - 1 : Nat) : Int), .int .i64 (if m < rows.length then 2 else 0)]) ∧ MapAt w' r (ent (rows.map nmC) m) ∧ w.heap.size ≤ r ∧ Below w.heap.size w w' := by
  obtain ⟨A1, c1, rfl⟩ := h1.form
  obtain ⟨A2, c2, rfl⟩ := h2.form
  obtain ⟨w1, e1, mk1, m1, b1, r1⟩ : ∃ w1, w1 = w.alloc (.map #[] 0) ∧ (Instr.makeMap 47 none).run Try.prog w = .ok (.map (some w.heap.size)) w1 ∧ MapAt w1 w.heap.size [] ∧ Below w.heap.size w w1 ∧ w.heap.size < w1.heap.size := ⟨_, rfl, (made_map w).1, (made_map w).2, (Below.refl _ w).alloc (Nat.le_refl _) _, (made_map w).2.lt⟩
  clear e1
  have hra := ma.lt
  have HN1 := Lib.hid hn1
  have HN2 := Lib.hid hn2
  have HK1 := Lib.hid hk1
  have HK2 := Lib.hid hk2
  have HL1 := Lib.hid hl1
  have HL2 := Lib.hid hl2
  have HOK := Lib.hid hok
  have HBK := Lib.hid hb
  have HM := Lib.hid hm
  clear hn1 hn2 hk1 hk2 hl1 hl2 hok hb hm
  go_enter Try.func9, Try.ntmps9
  go_wp2
  go_step3
  go_wp2
  go_step3
  go_wp2
  go_loopw [7, 8, 19] (fun ag er x wr => er = .int .i64 0 ∧ ∃ k : Nat, x = .int .i64 (k : Nat) ∧ ag = .int .i64 ((k - 1 : Nat) : Int) ∧ k ≤ m ∧ MapAt wr w.heap.size (ent (rows.map nmC) k) ∧ Below w.heap.size w wr) (fun _ _ x _ => rows.length - (intOf x).toNat)
  case atStart => exact ⟨rfl, 0, rfl, rfl, Nat.zero_le _, m1, b1⟩
  case round =>
    obtain ⟨rfl, k, rfl, rfl, hkm, MA, BW⟩ := hrel
    generalize wr = wo at *
    have hmr := HM.out
    by_cases hlt : k < rows.length
    case neg =>
      obtain rfl : k = rows.length := by omega
      obtain rfl : m = rows.length := by omega
      have HMA := Lib.hid MA
      clear hlt hkm hmr MA
      go_wp2
      rw [Exit.noGoto_ret]
      refine bodyPost_ret (v := .tuple #[.map (some w.heap.size), .int .i64 ((rows.length - 1 : Nat) : Int), .int .i64 0]) (by simp [results, Try.results9, go_sem]; try rfl) rfl ⟨w.heap.size, by rw [if_neg (by omega), if_neg (by omega)], HMA.out, Nat.le_refl _, BW⟩
    have hltx : (k : Int) < (rows.length : Int) := by omega
    have hkx : (k : Int) < 1000 := by have := HL2.out; omega
    obtain ⟨b, off, rfl, hb, hc⟩ := (h2.below BW).at_ cmc_len hlt
    have hok2 := HK2.out _ (List.getElem_mem hlt)
    have hnm : (rows.map nmC)[k]? = some (rows[k].h, rows[k].i) := by rw [List.getElem?_map, List.getElem?_eq_getElem hlt]; rfl
    have hnew : ∀ p ∈ ent (rows.map nmC) k, p.1 ≠ (rows[k].h, rows[k].i) := fun p hp e => by
      obtain ⟨q1, q2⟩ := ent_mem hp
      exact nodup_apart HN2.out q1 (q2.trans (congrArg some e)) hnm
    have hmore := ent_more hnm
    have hx : rows[k]? = some rows[k] := List.getElem?_eq_getElem hlt
    generalize rows[k] = x at *
    obtain ⟨h, i, t⟩ := x
    dsimp only at hnew hok2 hnm hmore
    have hrg : wo.rangeAt b (off + k * 3) (cmc ⟨h, i, t⟩) := fun j u hu => hc j u hu
    unfold cmc at hrg
    clear hc hnm
    obtain ⟨W2, e2, mC, mN, b2⟩ := box2 wo 40 54 #[.int .i64 h, .int .u64 (i : Int), .int .i64 t] #[.int .i64 h, .int .u64 (i : Int)]
    have MA2 := MA.below b2
    have B2 := BW.trans (b2.mono BW.size)
    have AS2 := ma.below B2
    -- what was asked under this name
    have hask : ∃ (j : Nat) (y : Iv), ins[j]? = some y ∧ nmI y = (h, i) ∧ ((k < m ∧ ¬ t < y.t ∧ (0 < k → ∃ z, rows[k - 1]? = some z ∧ ¬ t < z.t)) ∨ (k = m ∧ 0 < k ∧ ∃ z, rows[k - 1]? = some z ∧ t < z.t)) := by
      by_cases hq : k < m
      · obtain ⟨j, y, q1, q2, q3, q4⟩ := HOK.out k _ hq hx
        refine ⟨j, y, q1, q2, .inl ⟨hq, q3, fun hp => ?_⟩⟩
        obtain ⟨z, hz⟩ : ∃ z, rows[k - 1]? = some z := ⟨_, List.getElem?_eq_getElem (show k - 1 < rows.length by omega)⟩
        exact ⟨z, hz, q4 z hp hz⟩
      · obtain rfl : k = m := by omega
        obtain ⟨j, y, z, q1, q2, q3, q4, q5⟩ := HBK.out hlt _ hx
        exact ⟨j, y, q1, q2, .inr ⟨rfl, q3, z, q4, q5⟩⟩
    obtain ⟨j, y, hy, hny, hcase⟩ := hask
    have hjl : j < ins.length := (List.getElem?_eq_some_iff.1 hy).1
    have lk1 : (Instr.lookup 47 (.map (some ra)) (.agg #[.int .i64 h, .int .u64 (i : Int)]) true).run Try.prog W2 = .ok (.tuple #[.int .i64 (j : Int), .bool true]) W2 := by
      rcases look AS2 hok2 with ⟨v, q1, q2⟩ | ⟨q1, q2⟩
      · obtain rfl : v = j := nodup_same HN1.out (ent_mem q1).2 (by rw [get_map hy, hny])
        exact q2
      · exact absurd rfl (q1 _ (ent_has hjl (by rw [get_map hy, hny])))
    have lk2 : (Instr.lookup 47 (.map (some w.heap.size)) (.agg #[.int .i64 h, .int .u64 (i : Int)]) true).run Try.prog W2 = .ok (.tuple #[.int .i64 0, .bool false]) W2 := by
      rcases look MA2 hok2 with ⟨v, q1, q2⟩ | ⟨q1, q2⟩
      · exact absurd rfl (hnew _ q1)
      · exact q2
    have hjx : (j : Int) < (ins.length : Int) := by omega
    have hjy : (j : Int) < 1000 := by have := HL1.out; omega
    obtain ⟨gb, gof, rfl, hgb, hgc⟩ := (h1.below B2).at_ ivc_len hjl
    have yt : W2.cell? ⟨gb, gof + j * 11 + 10, none⟩ = some (.int .i64 y.t) := hgc 10 _ (by rw [List.getElem?_eq_getElem hjl] at hy; injection hy with hy; rw [hy]; rfl)
    have z0 := mC.cell 0
    have z1 := mC.cell 1
    have z2 := mC.cell 2
    have n0 := mN.cell 0
    have n1 := mN.cell 1
    have HI := Lib.hid hlt
    have HZ := Lib.hid hcase
    have HSt := fun W (q : MapAt W w.heap.size (ent (rows.map nmC) k)) => store_new q hok2 hnew k
    rw [← hmore] at HSt
    have HS := Lib.hid HSt
    have HY := Lib.hid hy
    have h2B := h2.below B2
    clear hlt hkm hmr MA hnew hmore hok2 m1 mk1 HSt hgc hx hy hny hcase
    generalize y.t = yt_ at *
    go_upto_region 7 with (refine wpList_load_mid rfl 40 (.tmp 22) rfl b (off + k * 3) rfl [.int .i64 h, .int .u64 (i : Int), .int .i64 t] _ hrg Try.underlying40 rfl (by kernel_rfl) ?_)
    rw [← e2]
    clear e2 hrg
    go_upto_region 11 with (fail)
    have HSn := fun n => HS.out _ (MA2.below (below_drewN (Below.refl _ W2) n))
    obtain ⟨W3, hW3⟩ : ∃ W3 : Nat → World, ∀ n, (Instr.mapUpdate 47 (.map (some w.heap.size)) (.agg #[.int .i64 h, .int .u64 (i : Int)]) (.int .i64 (k : Int))).run Try.prog (W2.drewN n) = .ok () (W3 n) ∧ MapAt (W3 n) w.heap.size (ent (rows.map nmC) (k + 1)) ∧ Eff (fun q => q = w.heap.size) (W2.drewN n) (W3 n) := ⟨fun n => Classical.choose (HSn n), fun n => Classical.choose_spec (HSn n)⟩
    have st' := fun n => (hW3 n).1
    clear HSn
    rcases HZ.out with ⟨q1, q2, q3⟩ | ⟨q1, q2, z, q3, q4⟩
    · by_cases hk0 : k = 0
      · subst hk0
        clear q3
        have st0 : ∀ n, (Instr.mapUpdate 47 (.map (some w.heap.size)) (.agg #[.int .i64 h, .int .u64 (i : Int)]) (.int .i64 0)).run Try.prog (W2.drewN n) = .ok () (W3 n) := st'
        clear st'
        go_quiet (fail)
        go_wp2
        exact ⟨⟨rfl, 0 + 1, rfl, rfl, q1, (hW3 _).2.1, (hW3 _).2.2.below (below_drewN B2 _) B2.size fun q _ e => (by omega)⟩, by have := HI.out; simp [intOf]; omega⟩
      · obtain ⟨z, q3, q4⟩ := q3 (by omega)
        obtain ⟨pz, hpz⟩ : ∃ pz : Nat, k = pz + 1 := ⟨k - 1, by omega⟩
        have hpl : pz < rows.length := by have := HI.out; omega
        rw [show k - 1 = pz by omega] at q3
        obtain ⟨b9, off9, e9, hb9, hc9⟩ := h2B.at_ cmc_len hpl
        injection e9 with e9
        injection e9 with e9a e9b
        subst e9a e9b
        have zt : W2.cell? ⟨b, off + pz * 3 + 2, none⟩ = some (.int .i64 z.t) := hc9 2 _ (by rw [List.getElem?_eq_getElem hpl] at q3; injection q3 with q3; rw [q3]; rfl)
        generalize z.t = zt_ at *
        have W9 : IntKind.i64.wrap ((k : Int) - 1) = (pz : Nat) := by rw [IntWalk.i64_in _ (by omega)]; omega
        have g1 : (0 : Int) < (k : Int) := by omega
        have g0 : 0 < k := by omega
        have gd : decide (0 < k) = true := decide_eq_true g0
        have gp : pz < rows.length := hpl
        have g2 : (pz : Int) < (rows.length : Int) := by omega
        have HPZ := Lib.hid hpz
        clear hc9 hpl hpz q3
        clear hk0
        go_quiet (fail)
        go_wp2
        exact ⟨⟨rfl, k + 1, rfl, rfl, q1, (hW3 _).2.1, (hW3 _).2.2.below (below_drewN B2 _) B2.size fun q _ e => (by omega)⟩, by have := HI.out; simp [intOf]; omega⟩
    · subst q1
      have hk0 : 0 < k := q2
      obtain ⟨pz, hpz⟩ : ∃ pz : Nat, k = pz + 1 := ⟨k - 1, by omega⟩
      have hpl : pz < rows.length := by have := HI.out; omega
      rw [show k - 1 = pz by omega] at q3
      obtain ⟨b9, off9, e9, hb9, hc9⟩ := h2B.at_ cmc_len hpl
      injection e9 with e9
      injection e9 with e9a e9b
      subst e9a e9b
      have zt : W2.cell? ⟨b, off + pz * 3 + 2, none⟩ = some (.int .i64 z.t) := hc9 2 _ (by rw [List.getElem?_eq_getElem hpl] at q3; injection q3 with q3; rw [q3]; rfl)
      generalize z.t = zt_ at *
      have W9 : IntKind.i64.wrap ((k : Int) - 1) = (pz : Nat) := by rw [IntWalk.i64_in _ (by omega)]; omega
      have g1 : (0 : Int) < (k : Int) := by omega
      have g0 : 0 < k := by omega
      have gd : decide (0 < k) = true := decide_eq_true g0
      have gp : pz < rows.length := hpl
      have g2 : (pz : Int) < (rows.length : Int) := by omega
      have HPZ := Lib.hid hpz
      clear hc9 hpl hpz q3
      clear hk0 q2 st'
      go_quiet (fail)
      go_wp2
      have hlt := HI.out
      refine bodyPost_ret (v := .tuple #[.map (some w.heap.size), .int .i64 (k : Int), .int .i64 2]) (by simp [results, Try.results9, go_sem]; try rfl) rfl ⟨w.heap.size, by first | rfl | rw [if_pos hlt, if_pos hlt], MA2.below (below_drewN (Below.refl _ W2) _), Nat.le_refl _, below_drewN B2 _⟩
end Tc
end Go.Proofs.Ytflodljccloobaa
