/- Package trace: outOrder (up to the first completion that is none's, or comes too early). Written by tools/gen-tc4.py. -/
import Derived.Test.YtflodljccloobaaTc3
namespace Go.Proofs.Ytflodljccloobaa
open Go.ChangeShapes Go.WideShapes Go.ChangeAt Go.RowKit Go.Lib
set_option linter.unusedVariables false
set_option linter.unusedSimpArgs false
set_option maxRecDepth 100000
namespace Tc
/-- The first m completions are right: each is of one of the first nd commits, no earlier than it. -/
def OutOk (rows : List Cm) (nd : Nat) (outs : List Co) (m : Nat) : Prop := ∀ k x, k < m → outs[k]? = some x → ∃ (j : Nat) (y : Cm), j < nd ∧ rows[j]? = some y ∧ nmC y = nmO x ∧ ¬ x.t < y.t
/-- Why the completion at m is wrong. -/
def OutBad (rows : List Cm) (nd : Nat) (outs : List Co) (m : Nat) (er : Int) : Prop := ∀ x, outs[m]? = some x → (er = 6 ∧ ∀ (j : Nat) (y : Cm), j < nd → rows[j]? = some y → nmC y ≠ nmO x) ∨ (er = 2 ∧ ∃ (j : Nat) (y : Cm), j < nd ∧ rows[j]? = some y ∧ nmC y = nmO x ∧ x.t < y.t)
set_option maxHeartbeats 8000000 in
theorem outOrder_any {w : World} (v1 v2 : Value) (rows : List Cm) (outs : List Co) (ra nd m : Nat) (er : Int) (h1 : Rw w v1 rows.length 3 (rows.flatMap cmc)) (h2 : Rw w v2 outs.length 8 (outs.flatMap coc)) (hl1 : rows.length ≤ 1000) (hl2 : outs.length ≤ 1000) (hk2 : ∀ x ∈ outs, NOk x.h x.i) (hn1 : (rows.map nmC).Nodup) (hn2 : (outs.map nmO).Nodup) (ma : MapAt w ra (ent (rows.map nmC) nd)) (hnd : nd ≤ rows.length) (hm : m ≤ outs.length) (hok : OutOk rows nd outs m) (hb : m < outs.length → OutBad rows nd outs m er) : Calls Try.prog 13 #[v1, .map (some ra), v2] w fun e w' => e = .returned (.tuple #[.int .i64 ((if m < outs.length then m else 0 : Nat) : Int), .int .i64 (if m < outs.length then er else 0)]) ∧ Below w.heap.size w w' := by
  obtain ⟨A1, c1, rfl⟩ := h1.form
  obtain ⟨A2, c2, rfl⟩ := h2.form
  obtain ⟨w1, e1, mk1, m1, b1, r1⟩ : ∃ w1, w1 = w.alloc (.map #[] 0) ∧ (Instr.makeMap 47 none).run Try.prog w = .ok (.map (some w.heap.size)) w1 ∧ MapAt w1 w.heap.size [] ∧ Below w.heap.size w w1 ∧ w.heap.size < w1.heap.size := ⟨_, rfl, (made_map w).1, (made_map w).2, (Below.refl _ w).alloc (Nat.le_refl _) _, (made_map w).2.lt⟩
  clear e1
  have hra := ma.lt
  have HN1 := Lib.hid hn1
  have HN2 := Lib.hid hn2
  have HK2 := Lib.hid hk2
  have HL1 := Lib.hid hl1
  have HL2 := Lib.hid hl2
  have HOK := Lib.hid hok
  have HBK := Lib.hid hb
  have HM := Lib.hid hm
  have HND := Lib.hid hnd
  clear hn1 hn2 hk2 hl1 hl2 hok hb hm hnd
  go_enter Try.func13, Try.ntmps13
  go_wp2
  go_step3
  go_wp2
  go_step3
  go_wp2
  go_loopw [6, 7, 19] (fun ag eg x wr => ag = .int .i64 0 ∧ eg = .int .i64 0 ∧ ∃ k : Nat, x = .int .i64 (k : Nat) ∧ k ≤ m ∧ MapAt wr w.heap.size (ent (outs.map nmO) k) ∧ Below w.heap.size w wr) (fun _ _ x _ => outs.length - (intOf x).toNat)
  case atStart => exact ⟨rfl, rfl, 0, rfl, Nat.zero_le _, m1, b1⟩
  case round =>
    obtain ⟨rfl, rfl, k, rfl, hkm, MA, BW⟩ := hrel
    generalize wr = wo at *
    have hmr := HM.out
    by_cases hlt : k < outs.length
    case neg =>
      obtain rfl : k = outs.length := by omega
      obtain rfl : m = outs.length := by omega
      clear hlt hkm hmr MA
      go_wp2
      rw [Exit.noGoto_ret]
      refine bodyPost_ret (v := .tuple #[.int .i64 0, .int .i64 0]) (by simp [results, Try.results13, go_sem]; try rfl) rfl ⟨by rw [if_neg (by omega), if_neg (by omega)]; rfl, BW⟩
    have hltx : (k : Int) < (outs.length : Int) := by omega
    have hkx : (k : Int) < 1000 := by have := HL2.out; omega
    obtain ⟨b, off, rfl, hb, hc⟩ := (h2.below BW).at_ coc_len hlt
    have hok2 := HK2.out _ (List.getElem_mem hlt)
    have hnm : (outs.map nmO)[k]? = some (outs[k].h, outs[k].i) := by rw [List.getElem?_map, List.getElem?_eq_getElem hlt]; rfl
    have hnew : ∀ p ∈ ent (outs.map nmO) k, p.1 ≠ (outs[k].h, outs[k].i) := fun p hp e => by
      obtain ⟨q1, q2⟩ := ent_mem hp
      exact nodup_apart HN2.out q1 (q2.trans (congrArg some e)) hnm
    have hmore := ent_more hnm
    have hx : outs[k]? = some outs[k] := List.getElem?_eq_getElem hlt
    generalize outs[k] = x at *
    obtain ⟨h, i, s, ky, c, vA, vn, vc, f, t⟩ := x
    dsimp only at hnew hok2 hnm hmore
    have hrg : wo.rangeAt b (off + k * 8) (coc ⟨h, i, s, ky, c, vA, vn, vc, f, t⟩) := fun j u hu => hc j u hu
    unfold coc at hrg
    clear hc hnm
    obtain ⟨W2, e2, mC, mN, b2⟩ := box2 wo 33 54 #[.int .i64 h, .int .u64 (i : Int), .int .i64 s, .int .i64 ky, .int .i64 c, .slice vA vn vc, .int .i64 f, .int .i64 t] #[.int .i64 h, .int .u64 (i : Int)]
    have MA2 := MA.below b2
    have B2 := BW.trans (b2.mono BW.size)
    have AS2 := ma.below B2
    have lk2 : (Instr.lookup 47 (.map (some w.heap.size)) (.agg #[.int .i64 h, .int .u64 (i : Int)]) true).run Try.prog W2 = .ok (.tuple #[.int .i64 0, .bool false]) W2 := by
      rcases look MA2 hok2 with ⟨v, q1, q2⟩ | ⟨q1, q2⟩
      · exact absurd rfl (hnew _ q1)
      · exact q2
    have z0 := mC.cell 0
    have z1 := mC.cell 1
    have z7 := mC.cell 7
    have n0 := mN.cell 0
    have n1 := mN.cell 1
    have HI := Lib.hid hlt
    have HSt := fun W (q : MapAt W w.heap.size (ent (outs.map nmO) k)) => store_new q hok2 hnew k
    rw [← hmore] at HSt
    have HS := Lib.hid HSt
    have h1B := h1.below B2
    -- which way
    have hask : (k = m ∧ er = 6 ∧ ∀ (j : Nat) (y : Cm), j < nd → rows[j]? = some y → nmC y ≠ (h, i)) ∨ ∃ (j : Nat) (y : Cm), j < nd ∧ rows[j]? = some y ∧ nmC y = (h, i) ∧ ((k < m ∧ ¬ t < y.t) ∨ (k = m ∧ er = 2 ∧ t < y.t)) := by
      by_cases hq : k < m
      · obtain ⟨j, y, q1, q2, q3, q4⟩ := HOK.out k _ hq hx
        exact .inr ⟨j, y, q1, q2, q3, .inl ⟨hq, q4⟩⟩
      · obtain rfl : k = m := by omega
        rcases HBK.out hlt _ hx with ⟨q1, q2⟩ | ⟨q1, j, y, q2, q3, q4, q5⟩
        · exact .inl ⟨rfl, q1, q2⟩
        · exact .inr ⟨j, y, q2, q3, q4, .inr ⟨rfl, q1, q5⟩⟩
    have HOK2 := Lib.hid hok2
    clear hlt hkm hmr MA hnew hmore m1 mk1 HSt hx hok2
    rcases hask with ⟨rfl, rfl, hno⟩ | ⟨j, y, hjn, hy, hny, hcase⟩
    · have lk1 : (Instr.lookup 47 (.map (some ra)) (.agg #[.int .i64 h, .int .u64 (i : Int)]) true).run Try.prog W2 = .ok (.tuple #[.int .i64 0, .bool false]) W2 := by
        rcases look AS2 HOK2.out with ⟨v, q1, q2⟩ | ⟨q1, q2⟩
        · obtain ⟨q3, q4⟩ := ent_mem q1
          rw [List.getElem?_map] at q4
          cases hr : rows[v]? with
          | none => rw [hr] at q4; cases q4
          | some y =>
            rw [hr] at q4
            exact absurd (by simpa using q4) (hno v y q3 hr)
        · exact q2
      clear hno
      go_upto_region 6 with (refine wpList_load_mid rfl 33 (.tmp 22) rfl b (off + k * 8) rfl [.int .i64 h, .int .u64 (i : Int), .int .i64 s, .int .i64 ky, .int .i64 c, .slice vA vn vc, .int .i64 f, .int .i64 t] _ hrg Try.underlying33 rfl (by kernel_rfl) ?_)
      rw [← e2]
      clear e2 hrg
      go_wp2
      rw [Exit.noGoto_ret]
      have hlt := HI.out
      refine bodyPost_ret (v := .tuple #[.int .i64 (k : Int), .int .i64 6]) (by simp [results, Try.results13, go_sem]; try rfl) rfl ⟨by first | rfl | (rw [if_pos hlt, if_pos hlt]) | simp [hlt], B2⟩
    have hjl : j < rows.length := by have := HND.out; omega
    have lk1 : (Instr.lookup 47 (.map (some ra)) (.agg #[.int .i64 h, .int .u64 (i : Int)]) true).run Try.prog W2 = .ok (.tuple #[.int .i64 (j : Int), .bool true]) W2 := by
      rcases look AS2 HOK2.out with ⟨v, q1, q2⟩ | ⟨q1, q2⟩
      · obtain rfl : v = j := nodup_same HN1.out (ent_mem q1).2 (by rw [get_map hy, hny])
        exact q2
      · exact absurd rfl (q1 _ (ent_has hjn (by rw [get_map hy, hny])))
    have hjx : (j : Int) < (rows.length : Int) := by omega
    have hjy : (j : Int) < 1000 := by have := HL1.out; omega
    obtain ⟨gb, gof, rfl, hgb, hgc⟩ := h1B.at_ cmc_len hjl
    have yt : W2.cell? ⟨gb, gof + j * 3 + 2, none⟩ = some (.int .i64 y.t) := hgc 2 _ (by rw [List.getElem?_eq_getElem hjl] at hy; injection hy with hy; rw [hy]; rfl)
    have HZ := Lib.hid hcase
    clear hgc hy hny hcase hjn
    generalize y.t = yt_ at *
    go_upto_region 6 with (refine wpList_load_mid rfl 33 (.tmp 22) rfl b (off + k * 8) rfl [.int .i64 h, .int .u64 (i : Int), .int .i64 s, .int .i64 ky, .int .i64 c, .slice vA vn vc, .int .i64 f, .int .i64 t] _ hrg Try.underlying33 rfl (by kernel_rfl) ?_)
    rw [← e2]
    clear e2 hrg
    go_upto_region 10 with (fail)
    have HSn := fun n => HS.out _ (MA2.below (below_drewN (Below.refl _ W2) n))
    obtain ⟨W3, hW3⟩ : ∃ W3 : Nat → World, ∀ n, (Instr.mapUpdate 47 (.map (some w.heap.size)) (.agg #[.int .i64 h, .int .u64 (i : Int)]) (.int .i64 (k : Int))).run Try.prog (W2.drewN n) = .ok () (W3 n) ∧ MapAt (W3 n) w.heap.size (ent (outs.map nmO) (k + 1)) ∧ Eff (fun q => q = w.heap.size) (W2.drewN n) (W3 n) := ⟨fun n => Classical.choose (HSn n), fun n => Classical.choose_spec (HSn n)⟩
    have st' := fun n => (hW3 n).1
    clear HSn
    rcases HZ.out with ⟨q1, q2⟩ | ⟨rfl, rfl, q2⟩
    · go_quiet (fail)
      go_wp2
      exact ⟨⟨rfl, rfl, k + 1, rfl, q1, (hW3 _).2.1, (hW3 _).2.2.below (below_drewN B2 _) B2.size fun q _ e => (by omega)⟩, by have := HI.out; simp [intOf]; omega⟩
    · clear st'
      go_quiet (fail)
      go_wp2
      have hlt := HI.out
      refine bodyPost_ret (v := .tuple #[.int .i64 (k : Int), .int .i64 2]) (by simp [results, Try.results13, go_sem]; try rfl) rfl ⟨by first | rfl | (rw [if_pos hlt, if_pos hlt]) | simp [hlt], below_drewN B2 _⟩
end Tc
end Go.Proofs.Ytflodljccloobaa
