/- Package trace: Replay of commands that are told without data. -/
import Derived.Test.YtflodljccloobaaTc5
import Derived.Test.YtflodljccloobaaUnS
import Derived.Deep.RegionLaw
namespace Go.Proofs.Ytflodljccloobaa
open Go.ChangeShapes Go.WideShapes Go.ChangeAt Go.RowKit Go.Lib
set_option linter.unusedVariables false
set_option linter.unusedSimpArgs false
set_option maxRecDepth 100000
namespace Tc
open Un Rv
theorem unm_eff {w w' : World} {B Z X g h Y N : Nat} {D M : List UInt8} {t : RT} {hs : List Value} {S : Nat → Prop} (hu : UnM w B Z X g h Y N D M t hs) (he : Eff S w w') (hZ : ¬ S Z) (hX : ¬ S X) (hY : ¬ S Y) (hg : ¬ S g) (hh : ¬ S h) : UnM w' B Z X g h Y N D M t hs := ⟨hu.mem.eff he hZ, hu.len, SpInv.eff hu.sp he hX hg hh, ⟨hu.tab.mem.eff he hY, hu.tab.len⟩, hu.bZ, hu.bY⟩
/-- A unit of four blocks whose own blocks lie in lo .. hi; nobody waits. -/
structure KT (lo hi : Nat) (W : World) (Z X g h Y : Nat) (D : List UInt8) : Prop where
  un : ∃ M, UnM W lo Z X g h Y 4 D M RT.zero hs0
  le : hi ≤ W.heap.size
  lZ : Z < hi
  lX : X < hi
  lY : Y < hi
  lg : g < hi
  lh : h < hi
  len : D.length = 32
/-- A command that is done, and told so without data. -/
def Plain (w : World) (x : Iv) : Prop := 0 ≤ x.h ∧ x.h < 8 ∧ (x.k = 1 ∨ (x.k = 3 ∧ ∃ (a n : Nat) (l : List UInt8), x.a = a ∧ x.n = n ∧ n ≤ 4 ∧ a + n ≤ 4 ∧ x.vn = l.length ∧ l.length = n * 8 ∧ Sl w w.heap.size (.slice x.vA x.vn x.vc) l.length (bs l)))
section
variable {lo hi : Nat} {w W W' : World} {Z X g h Y : Nat} {D D' : List UInt8}
theorem KT.below (k : KT lo hi W Z X g h Y D) (hb : Below W.heap.size W W') : KT lo hi W' Z X g h Y D := by
  obtain ⟨M, u⟩ := k.un
  exact ⟨⟨M, u.below hb⟩, Nat.le_trans k.le hb.size, k.lZ, k.lX, k.lY, k.lg, k.lh, k.len⟩
theorem KT.off {S : Nat → Prop} (k : KT lo hi W Z X g h Y D) (he : Eff S W W') (hd : ∀ q, q < hi → ¬ S q) : KT lo hi W' Z X g h Y D := by
  obtain ⟨M, u⟩ := k.un
  exact ⟨⟨M, unm_eff u he (hd _ k.lZ) (hd _ k.lX) (hd _ k.lY) (hd _ k.lg) (hd _ k.lh)⟩, Nat.le_trans k.le he.size, k.lZ, k.lX, k.lY, k.lg, k.lh, k.len⟩
theorem new4 (W : World) : Calls Try.prog 11 #[.int .i64 4] W fun e w' => ∃ Z X g h Y, e = .returned (.tuple #[.pointer (some ⟨Z, 0, none⟩), .int .i64 0]) ∧ KT W.heap.size w'.heap.size w' Z X g h Y (List.replicate 32 0) ∧ Below W.heap.size W w' := (unew_any 4 (by decide) (by decide) W).mono fun e w' ⟨Z, X, g, h, Y, a1, a2, a3⟩ => ⟨Z, X, g, h, Y, a1, ⟨⟨_, a2⟩, Nat.le_refl _, a2.mem.lt, a2.sp.mem.lt, a2.tab.mem.lt, a2.sp.data.lt, a2.sp.map.lt, rfl⟩, a3⟩
theorem Plain.below {x : Iv} (p : Plain w x) (hb : Below w.heap.size w W) : Plain W x := by
  obtain ⟨h1, h2, h3⟩ := p
  refine ⟨h1, h2, h3.elim .inl fun ⟨q1, a, n, l, q2, q3, q4, q5, q6, q7, q8⟩ => .inr ⟨q1, a, n, l, q2, q3, q4, q5, q6, q7, q8.now hb⟩⟩
theorem do_plain (k : KT lo hi W Z X g h Y D) (x : Iv) (p : Plain W x) : Calls Try.prog 12 #[.pointer (some ⟨Z, 0, none⟩), .int .i64 x.h, .agg #[.int .i64 x.k, .int .i64 x.a, .int .i64 x.n, .slice x.vA x.vn x.vc, .int .u64 x.ck, .int .u64 x.cn, .int .i64 x.ct, .bool x.cf]] W fun e w' => ∃ A c D', e = .returned (.agg #[.int .i64 0, .int .i64 0, .int .i64 0, .slice A 0 c, .int .i64 0]) ∧ c ≤ maxLen ∧ KT lo hi w' Z X g h Y D' ∧ Eff (fun q => lo ≤ q ∧ q < hi) W w' := by
  obtain ⟨M, u⟩ := k.un
  have hD := k.len
  obtain ⟨h1, h2, h3⟩ := p
  obtain ⟨xh, xi, xk, xa, xn, vA, vn, vc, ck, cn, ct, cf, t⟩ := x
  dsimp only at h1 h2 h3 ⊢
  obtain ⟨H, rfl⟩ : ∃ H : Nat, xh = H := ⟨xh.toNat, by omega⟩
  have out : ∀ {D' : List UInt8} {QM : List UInt8 → Prop} (hl : D'.length = 32) {e : Ending} {w' : World}, (∃ v M', e = .returned v ∧ Rep w' W.heap.size v 0 0 0 0 [] ∧ QM M' ∧ UnM w' lo Z X g h Y 4 D' M' RT.zero hs0 ∧ Eff (SpS g h) W w') → ∃ A c D', e = .returned (.agg #[.int .i64 0, .int .i64 0, .int .i64 0, .slice A 0 c, .int .i64 0]) ∧ c ≤ maxLen ∧ KT lo hi w' Z X g h Y D' ∧ Eff (fun q => lo ≤ q ∧ q < hi) W w' := by
    rintro D' QM hl e w' ⟨v, M', rfl, ⟨A, c, rfl, o⟩, hM, u', E⟩
    obtain ⟨A2, c2, e2, _, hc⟩ := own_form o
    injection e2 with _ _ e3
    exact ⟨A, c, D', rfl, by rw [e3]; exact hc, ⟨⟨M', u'⟩, Nat.le_trans k.le E.size, k.lZ, k.lX, k.lY, k.lg, k.lh, hl⟩, E.mono fun q _ hq => hq.elim (fun e => e ▸ ⟨u.sp.bg, k.lg⟩) (fun e => e ▸ ⟨u.sp.bh, k.lh⟩)⟩
  rcases h3 with rfl | ⟨rfl, a, n, l, rfl, rfl, q3, q4, rfl, q6, q7⟩
  · exact (do_blk1 u H (by omega) (hs0_at H (by omega)) rfl xa xn (.slice vA vn vc) ck cn ct cf (OnB.ready u xa xn)).mono fun e w' r => out hD r
  · exact (do_blk3 u H (by omega) (hs0_at H (by omega)) rfl a n (.slice vA l.length vc) ck cn ct cf (OnB.write u a n (by omega) q4 q7 q6)).mono fun e w' r => out (by rw [laid_len (by omega)]; exact hD) r
end
theorem map_row {w : World} {r t : Nat} {E : List NM} (m : MapAt w r E) (h : Tag w r t) : False := by
  obtain ⟨es, c, h1, -⟩ := m.is
  obtain ⟨cs, fr, h2⟩ := h
  rw [h1] at h2
  cases h2
def rpc (p : Option Addr × Nat) : List Value := [.int .i64 0, .int .i64 0, .int .i64 0, .slice p.1 0 p.2, .int .i64 0]
theorem rpc_len (p : Option Addr × Nat) : (rpc p).length = 5 := rfl
theorem info_reply : (Try.prog.info? 31).map (fun i => (i.zero, i.size, i.bytes)) = some (some (.agg #[.int .i64 0, .int .i64 0, .int .i64 0, .slice none 0 0, .int .i64 0]), 5, 56) := by kernel_rfl
theorem rpc_one (p : Option Addr × Nat) : ∀ u ∈ rpc p, u.oneCell' = true := by
  intro u hu
  simp only [rpc, List.mem_cons, List.not_mem_nil, or_false] at hu
  rcases hu with rfl | rfl | rfl | rfl | rfl <;> rfl
theorem cells_newL (w : World) (t : TypeId) (l : List Value) : ∀ j u, l[j]? = some u → (w.alloc (.cells l.toArray t)).cell? ((⟨w.heap.size, 0, none⟩ : Addr).add j) = some u := by
  intro j u hu
  have hb : (w.alloc (.cells l.toArray t)).heap[w.heap.size]? = some (.cells l.toArray t (0, 0)) := heap_alloc_new w _
  rw [add_plain, Nat.zero_add, cell_of_row _ _ j _ t (0, 0) hb, List.getElem?_toArray]
  exact hu
set_option maxHeartbeats 8000000 in
theorem replay_any {w : World} {v1 v2 : Value} {ins : List Iv} {rows : List Cm} (h1 : Rw w v1 ins.length 11 (ins.flatMap ivc)) (h2 : Rw w v2 rows.length 3 (rows.flatMap cmc)) (hl1 : ins.length ≤ 1000) (hl2 : rows.length ≤ 1000) (hk1 : ∀ x ∈ ins, NOk x.h x.i) (hk2 : ∀ x ∈ rows, NOk x.h x.i) (hn1 : (ins.map nmI).Nodup) (hok : RowOk ins rows rows.length) (hp : ∀ x ∈ ins, Plain w x) : Calls Try.prog 6 #[.int .i64 4, v1, v2] w fun e w' => ∃ (v : Value) (Ls : List (Option Addr × Nat)), e = .returned (.tuple #[v, .int .i64 0]) ∧ Ls.length = rows.length ∧ w'.ownsRow w.heap.size 31 5 v rows.length (Ls.flatMap rpc) ∧ (∀ p ∈ Ls, p.2 ≤ maxLen) ∧ Below w.heap.size w w' := by
  obtain ⟨ir, hir, hrz0, hrz1, hrz2⟩ := info_parts info_reply
  obtain ⟨A1, c1, rfl⟩ := h1.form
  obtain ⟨A2, c2, rfl⟩ := h2.form
  have cN := new4 w
  have cP := fun W (hb : Below w.heap.size w W) => places_any _ ins (h1.below hb) hl1 hk1 hn1
  have HN1 := Lib.hid hn1
  have HK1 := Lib.hid hk1
  have HK2 := Lib.hid hk2
  have HL1 := Lib.hid hl1
  have HL2 := Lib.hid hl2
  have HOK := Lib.hid hok
  have HP := Lib.hid hp
  clear hn1 hk1 hk2 hl1 hl2 hok hp
  go_enter Try.func6, Try.ntmps6
  go_upto_region 2 with (go_at_call 11; (with_reducible refine cN.mono ?_); rintro e1 w1 ⟨Z, X, g, h, Y, rfl, K1, b1⟩)
  have cP1 := cP _ b1
  go_upto_region 5 with (go_at_call 8; (with_reducible refine cP1.mono ?_); rintro e2 w2 ⟨ra, rfl, M2, hra, b2⟩)
  have K2 := K1.below b2
  have B2 := b1.trans (b2.mono b1.size)
  have s1 := b1.size
  have s2 := b2.size
  generalize hlo : w.heap.size = lo at *
  generalize hhi : w1.heap.size = hi at *
  go_wp2
  go_loopw [12, 32] (fun lv x wr => ∃ (k : Nat) (D : List UInt8) (Ls : List (Option Addr × Nat)) (l0 : Value), x = .int .i64 (k : Nat) ∧ l0 = lv ∧ k ≤ rows.length ∧ KT lo hi wr Z X g h Y D ∧ wr.ownsRow hi 31 5 l0 k (Ls.flatMap rpc) ∧ Ls.length = k ∧ (∀ p ∈ Ls, p.2 ≤ maxLen) ∧ MapAt wr ra (ent (ins.map nmI) ins.length) ∧ Below lo w wr) (fun _ x _ => rows.length - (intOf x).toNat)
  case atStart => exact ⟨0, _, [], _, rfl, rfl, Nat.zero_le _, K2, World.ownsRow_nil _ _ _ _, rfl, fun p hp => (by cases hp), M2, B2⟩
  case round =>
    obtain ⟨k, D, Ls, lv, rfl, rfl, hkl, KW, oL, hLs, hLm, MA, BW⟩ := hrel
    generalize wr = wo at *
    by_cases hlt : k < rows.length
    case neg =>
      obtain rfl : k = rows.length := by omega
      have H1 := Lib.hid oL
      have H2 := Lib.hid hLs
      have H3 := Lib.hid hLm
      clear hlt hkl oL hLs hLm MA
      go_wp2
      go_ret2
      subst hlo
      exact ⟨_, Ls, rfl, H2.out, owns_mono H1.out s1, H3.out, BW⟩
    have hltx : (k : Int) < (rows.length : Int) := by omega
    have hkx : (k : Int) < 1000 := by have := HL2.out; omega
    have hBW := hlo ▸ BW
    obtain ⟨b, off, rfl, hb, hc⟩ := (h2.below hBW).at_ cmc_len hlt
    have hok2 := HK2.out _ (List.getElem_mem hlt)
    have hx : rows[k]? = some rows[k] := List.getElem?_eq_getElem hlt
    obtain ⟨j, y, hy, hny, -⟩ := HOK.out k _ hlt hx
    generalize rows[k] = x at *
    obtain ⟨xh, xi, xt⟩ := x
    dsimp only at hok2
    have hny' : nmI y = (xh, xi) := hny
    have hrg : wo.rangeAt b (off + k * 3) (cmc ⟨xh, xi, xt⟩) := fun j u hu => hc j u hu
    unfold cmc at hrg
    clear hc hx hny
    obtain ⟨W1, e1, mC, b3⟩ : ∃ W1, W1 = wo.alloc (.cells #[.int .i64 xh, .int .u64 (xi : Int), .int .i64 xt] 40) ∧ Mem W1 wo.heap.size 40 #[.int .i64 xh, .int .u64 (xi : Int), .int .i64 xt] ∧ Below wo.heap.size wo W1 := ⟨_, rfl, Mem.new wo _ _, (Below.refl _ wo).alloc (Nat.le_refl _) _⟩
    have B3 := BW.trans (b3.mono (by have := hBW.size; omega))
    have hB3 : Below w.heap.size w W1 := hlo ▸ B3
    have MA3 := MA.below b3
    have hjl : j < ins.length := (List.getElem?_eq_some_iff.1 hy).1
    have lk1 : (Instr.lookup 47 (.map (some ra)) (.agg #[.int .i64 xh, .int .u64 (xi : Int)]) true).run Try.prog W1 = .ok (.tuple #[.int .i64 (j : Int), .bool true]) W1 := by
      rcases look MA3 hok2 with ⟨v, q1, q2⟩ | ⟨q1, q2⟩
      · obtain rfl : v = j := nodup_same HN1.out (ent_mem q1).2 (by rw [get_map hy, hny'])
        exact q2
      · exact absurd rfl (q1 _ (ent_has hjl (by rw [get_map hy, hny'])))
    have hjx : (j : Int) < (ins.length : Int) := by omega
    have hjy : (j : Int) < 1000 := by have := HL1.out; omega
    obtain ⟨gb, gof, rfl, hgb, hgc⟩ := (h1.below hB3).at_ ivc_len hjl
    have hyE : ins[j] = y := by rw [List.getElem?_eq_getElem hjl] at hy; injection hy
    rw [hyE] at hgc
    have hpy := (HP.out y (hyE ▸ List.getElem_mem hjl)).below hB3
    have hxh : y.h = xh := congrArg Prod.fst hny'
    have K3 := KW.below b3
    have oL3 := owns_below oL b3
    have z0 := mC.cell 0
    have z1 := mC.cell 1
    have k3 := KW.le
    have hbW : w.heap.size ≤ W1.heap.size := hB3.size
    have cD : Calls Try.prog 12 #[.pointer (some ⟨Z, 0, none⟩), .int .i64 xh, .agg #[.int .i64 y.k, .int .i64 y.a, .int .i64 y.n, .slice y.vA y.vn y.vc, .int .u64 y.ck, .int .u64 y.cn, .int .i64 y.ct, .bool y.cf]] W1.drew fun e w' => ∃ A c D', e = .returned (.agg #[.int .i64 0, .int .i64 0, .int .i64 0, .slice A 0 c, .int .i64 0]) ∧ c ≤ maxLen ∧ KT lo hi w' Z X g h Y D' ∧ Eff (fun q => lo ≤ q ∧ q < hi) W1 w' := by
      have q := do_plain (K3.below (Below.refl _ W1).drew) y (hpy.below (Below.refl _ W1).drew)
      rw [hxh] at q
      exact q.mono fun e w' ⟨A, c, D', q1, q2, q3, q4⟩ => ⟨A, c, D', q1, q2, q3, (Eff.of (Below.refl _ W1).drew).trans q4 fun _ _ h => h⟩
    have y2 : W1.drew.cell? ⟨gb, gof + j * 11 + 2, none⟩ = some (.int .i64 y.k) := hgc 2 _ rfl
    have y3 : W1.drew.cell? ⟨gb, gof + j * 11 + 3, none⟩ = some (.int .i64 y.a) := hgc 3 _ rfl
    have y4 : W1.drew.cell? ⟨gb, gof + j * 11 + 4, none⟩ = some (.int .i64 y.n) := hgc 4 _ rfl
    have y5 : W1.drew.cell? ⟨gb, gof + j * 11 + 5, none⟩ = some (.slice y.vA y.vn y.vc) := hgc 5 _ rfl
    have y6 : W1.drew.cell? ⟨gb, gof + j * 11 + 6, none⟩ = some (.int .u64 y.ck) := hgc 6 _ rfl
    have y7 : W1.drew.cell? ⟨gb, gof + j * 11 + 7, none⟩ = some (.int .u64 y.cn) := hgc 7 _ rfl
    have y8 : W1.drew.cell? ⟨gb, gof + j * 11 + 8, none⟩ = some (.int .i64 y.ct) := hgc 8 _ rfl
    have y9 : W1.drew.cell? ⟨gb, gof + j * 11 + 9, none⟩ = some (.bool y.cf) := hgc 9 _ rfl
    have hA : ∀ w9 A9 c9, Eff (fun q => lo ≤ q ∧ q < hi) W1 w9 → (w9.alloc (.cells #[.int .i64 0, .int .i64 0, .int .i64 0, .slice A9 0 c9, .int .i64 0] 31)).ownsRow hi 31 5 lv k (Ls.flatMap rpc) ∧ (∀ j u, (rpc (A9, c9))[j]? = some u → (w9.alloc (.cells #[.int .i64 0, .int .i64 0, .int .i64 0, .slice A9 0 c9, .int .i64 0] 31)).cell? ((⟨w9.heap.size, 0, none⟩ : Addr).add j) = some u) ∧ hi ≤ (w9.alloc (.cells #[.int .i64 0, .int .i64 0, .int .i64 0, .slice A9 0 c9, .int .i64 0] 31)).heap.size := fun w9 A9 c9 E9 => ⟨owns_below (owns_eff oL3 E9 fun q hq e => (by have := (own_tag oL3 q hq).1; omega)) ((Below.refl _ w9).alloc (Nat.le_refl _) _), cells_newL w9 _ (rpc (A9, c9)), by rw [World.size_alloc]; have := E9.size; have := b3.size; omega⟩
    have hkm : k + 1 ≤ maxLen := by have := HL2.out; unfold maxLen; omega
    have hkb : (k + 1) * 56 ≤ 140737488355328 := by have := HL2.out; omega
    have HI := Lib.hid hlt
    have HLs := Lib.hid hLs
    have HLm := Lib.hid hLm
    have HMA := Lib.hid MA3
    have HB := Lib.hid B3
    clear hlt hkl hok2 hy hny' hyE hgc hpy hxh K3 hLs hLm MA MA3 oL hBW hB3 B3 BW b3
    go_upto_region 9 with (refine wpList_load_mid rfl 40 (.tmp 34) rfl b (off + k * 3) rfl [.int .i64 xh, .int .u64 (xi : Int), .int .i64 xt] _ hrg Try.underlying40 rfl (by kernel_rfl) ?_)
    rw [← e1]
    clear e1 hrg
    go_upto_region 12 with (fail)
    go_region_law (first
      | (rw [if_pos (by rfl)]; go_simp; go_at_call 12; (with_reducible refine cD.mono ?_); rintro e' w9 ⟨A9, c9, D9, rfl, q9, K9, E9⟩; have a9 := hA w9 A9 c9 E9; obtain ⟨a91, a92, a93⟩ := a9; dsimp only)
      | (rw [if_pos (by rfl)]; (refine wp_append_at _ (.tmp 48) (.tmp 58) 43 rfl hi 31 ir _ 5 56 Try.underlying43 hir hrz0 hrz1 hrz2 rfl (by decide) lv k (Ls.flatMap rpc) rfl a91 ⟨w9.heap.size, 0, none⟩ 1 1 (rpc (A9, c9)) rfl rfl a92 (rpc_one _) hkm hkb a93 ?_); intro v10 w10 o10 g10 t10))
    all_goals
      have hw9 : lo ≤ w9.heap.size := by have := E9.size; have := K9.le; omega
      have hra9 : hi ≤ ra := hra
      have BA := (Below.refl w9.heap.size w9).alloc (Nat.le_refl _) (.cells #[.int .i64 0, .int .i64 0, .int .i64 0, .slice A9 0 c9, .int .i64 0] 31)
      have KA := (K9.below BA).off (eff_grown g10) fun q hq e => (by have := (own_tag a91 q e).1; omega)
      have MB := ((HMA.out.eff E9 (by omega)).below BA)
      have MC := MB.eff (eff_grown g10) fun e => map_row MB (own_tag a91 ra e).2.2
      have BB := (((E9.below HB.out (by have := HB.out.size; omega) fun q _ hq => hq.1).trans (BA.mono hw9)).grown g10 (by rw [World.size_alloc]; omega) fun q hq => (by have := (own_tag a91 q hq).1; omega))
      have OL : w10.ownsRow hi 31 5 v10 (k + 1) ((Ls ++ [(A9, c9)]).flatMap rpc) := by
        rw [List.flatMap_append, List.flatMap_singleton]
        exact o10
      have H1 := Lib.hid KA
      have H2 := Lib.hid MC
      have H3 := Lib.hid BB
      have H4 := Lib.hid OL
      have H5 := Lib.hid q9
      clear KA MB MC BB OL q9 o10 g10 t10 a91 a92 a93 K9 E9 BA hw9 hra9
      go_wp2
      exact ⟨⟨k + 1, D9, Ls ++ [(A9, c9)], v10, rfl, rfl, HI.out, H1.out, H4.out, by rw [List.length_append, HLs.out]; rfl, fun p hp => (List.mem_append.1 hp).elim (HLm.out p) (fun h => by obtain rfl := List.mem_singleton.1 h; exact H5.out), H2.out, H3.out⟩, by have := HI.out; simp [intOf]; omega⟩
end Tc
end Go.Proofs.Ytflodljccloobaa
