/- Package mpath: a path of blocks of its own; Submit. -/
import Derived.Test.YtoogmdokcndieaaMp2
import Derived.Test.YtoogmdokcndieaaCalmK
namespace Go.Proofs.Ytoogmdokcndieaa
open Go.ChangeShapes Go.WideShapes Go.ChangeAt Go.RowKit Go.Lib
set_option linter.unusedVariables false
set_option linter.unusedSimpArgs false
set_option maxRecDepth 100000
/-- A store into an own row of elements of any size. -/
theorem own_putN {w : World} {B e sz n c g i : Nat} {xs : List Value} (ho : w.ownsRow B e sz (.slice (some ⟨g, 0, none⟩) n c) n xs) (hi : i < n * sz) (u : Value) : (w.setCell ⟨g, i, none⟩ u).ownsRow B e sz (.slice (some ⟨g, 0, none⟩) n c) n (xs.set i u) := by
  rcases ho.2 with ⟨hv, h0⟩ | ⟨g', cap, cur, hv, hBg, hg, hnc, hcm, hcs, htk⟩
  · cases hv
  simp only [Value.slice.injEq, Option.some.injEq, Addr.mk.injEq, and_true, true_and] at hv
  obtain ⟨rfl, rfl⟩ := hv
  have hm : Mem w g e cur := hg
  refine ⟨by rw [List.length_set]; exact ho.1, .inr ⟨g, c, cur.setIfInBounds i u, rfl, hBg, hm.put i u, hnc, hcm, by simpa using hcs, ?_⟩⟩
  rw [Array.toList_setIfInBounds, List.take_set, htk]
/-- Timers whose blocks are of O: those of S are set. -/
def TmO (w : World) (O : Nat → Prop) (X : Nat) (S : List One) (now : Int) : Prop := ∃ v H, TmInv w 0 X v H now ∧ (∀ k, TS X v k → O k) ∧ Heap H ∧ H.Perm S ∧ Fine S now
section
variable {w w' : World} {O T : Nat → Prop} {X : Nat} {S : List One} {now : Int}
theorem TmO.eff (h : TmO w O X S now) (he : Eff T w w') (hd : ∀ k, k < w.heap.size → O k → ¬ T k) : TmO w' O X S now := by
  obtain ⟨v, H, h1, h2, h3⟩ := h
  refine ⟨v, H, h1.eff he (hd X h1.mem.lt (h2 X (.inl rfl))) (fun k hk => hd k (own_tag h1.row k hk).2.1 (h2 k (.inr hk))), h2, h3⟩
theorem TmO.below (h : TmO w O X S now) (hb : Below w.heap.size w w') : TmO w' O X S now := by
  obtain ⟨v, H, h1, h2⟩ := h
  exact ⟨v, H, h1.below hb, h2⟩
theorem TmO.more {O' : Nat → Prop} (h : TmO w O X S now) (hO : ∀ k, k < w.heap.size → O k → O' k) : TmO w O' X S now := by
  obtain ⟨v, H, h1, h2, h3⟩ := h
  exact ⟨v, H, h1, fun k hk => hO k (h1.ns k hk).1 (h2 k hk), h3⟩
theorem TmO.fine (h : TmO w O X S now) : Fine S now := by
  obtain ⟨v, H, _, _, _, _, h2⟩ := h
  exact h2
theorem new_o (w : World) : Calls Try.prog 12 #[] w fun e w' => e = .returned (.pointer (some ⟨w.heap.size, 0, none⟩)) ∧ TmO w' (fun k => w.heap.size ≤ k) w.heap.size [] 0 ∧ Below w.heap.size w w' := by
  refine (new_any w).mono ?_
  rintro e w' ⟨rfl, hn, hb2⟩
  exact ⟨rfl, ⟨_, [], ⟨Nat.zero_le _, hn.mem, World.ownsRow_nil _ _ _ _⟩, (fun k hk => by
    rcases hk with rfl | hk
    · exact Nat.le_refl _
    · cases hk), by intro j _ h; simp at h, .refl _, ⟨by simp [ids], by simp, by simp, by omega, by omega⟩⟩, hb2⟩
/-- A thing's blocks and those that are new. -/
def Ext (O : Nat → Prop) (w : World) : Nat → Prop := fun k => O k ∨ w.heap.size ≤ k
theorem TmStep.tmo {H' U : List One} {v : Value} {H : List One} {n' : Int} (hs : TmStep w w' 0 X v H' n') (hn : TmInv w 0 X v H now) (hO : ∀ k, TS X v k → O k) (hh : Heap H') (hp : H'.Perm U) (hf : Fine U n') : TmO w' (Ext O w) X U n' ∧ Eff O w w' := by
  obtain ⟨v', h1, h2, h3⟩ := hs
  refine ⟨⟨v', H', h1, ?_, hh, hp, hf⟩, h2.mono fun k _ hk => hO k hk⟩
  rintro k (rfl | hk)
  · exact .inl (hO _ (.inl rfl))
  · rcases h3 k hk with h | h
    · exact .inl (hO _ (.inr h))
    · exact .inr h
/-- Set of a timer that is not set, where there is room. -/
theorem set_fresh (h : TmO w O X S now) (id after : Int) (h1 : 1 ≤ after) (h2 : after ≤ 1073741824) (hin : id ∉ ids S) (hl : S.length < 256) : Calls Try.prog 13 #[.pointer (some ⟨X, 0, none⟩), .int .i64 id, .int .i64 after] w fun e w' => e = .returned (.int .i64 0) ∧ TmO w' (Ext O w) X ((id, now + after) :: S) now ∧ Eff O w w' ∧ Fr w w' := by
  obtain ⟨v, H, hn, hO, hh, hp, hf⟩ := h
  have hfH := hf.perm hp
  have hfew := hfH.few
  have hlow := hfH.low
  have hhigh := hfH.high
  have hlen := hp.length_eq
  have hmem : ∀ i, i ∈ ids H ↔ i ∈ ids S := fun i => (hp.map _).mem_iff
  have hi : ¬ ix H id < H.length := fun hi => hin ((hmem id).1 ((ix_mem H id).1 hi))
  refine (set_new 0 X v H now id after w (by omega) (Nat.zero_le _) hn hh (by omega) (by omega) (by omega) (by omega) hi (by omega)).mono ?_
  rintro e w' ⟨rfl, H', hp', hh', hs⟩
  have := hs.tmo (U := (id, now + after) :: S) hn hO hh' (hp'.trans (hp.cons _)) (by have := hf.put id after (by omega) (by omega) (by rw [rm_no hin]; omega); rwa [rm_no hin] at this)
  obtain ⟨v', q1, q2, q3⟩ := hs
  exact ⟨rfl, this.1, this.2, hn.fr q2⟩
theorem Fr.mem {g t : Nat} {cs : Array Value} (h : Fr w w') (hm : Mem w g t cs) (h1 : t ≠ 68) (h2 : t ≠ 72) : Mem w' g t cs := (h g hm.lt ⟨t, mem_tag hm, h1, h2⟩).trans hm
theorem Fr.owns {B e sz n : Nat} {v : Value} {xs : List Value} (h : Fr w w') (ho : w.ownsRow B e sz v n xs) (h1 : e ≠ 68) (h2 : e ≠ 72) : w'.ownsRow B e sz v n xs := by
  refine ⟨ho.1, ?_⟩
  rcases ho.2 with hn | ⟨g, cap, cur, rfl, hg, hgg, rest⟩
  · exact .inl hn
  · refine .inr ⟨g, cap, cur, rfl, hg, ?_, rest⟩
    rw [h g (Array.getElem?_eq_some_iff.1 hgg).1 ⟨e, ⟨_, _, hgg⟩, h1, h2⟩]
    exact hgg
theorem TmO.effT (h : TmO w O X S now) (he : Eff T w w') (hd : ∀ k, T k → ∃ t, Tag w k t ∧ t ≠ 68 ∧ t ≠ 72) : TmO w' O X S now := by
  obtain ⟨v, H, h1, h2, h3⟩ := h
  have key : ∀ k, TS X v k → ¬ T k := fun k hk ht => by
    obtain ⟨t, q, q1, q2⟩ := hd k ht
    rcases (h1.ns k hk).2.2 with h | h
    · exact q.ne h q1 rfl
    · exact q.ne h q2 rfl
  exact ⟨v, H, h1.eff he (key X (.inl rfl)) (fun k hk => key k (.inr hk)), h2, h3⟩
end
namespace Nw
theorem rowW_at (l : List It) (i j : Nat) (x : It) (h : l[i]? = some x) (hj : j < 10) : (rowW l)[i * 10 + j]? = (x.cells)[j]? := by
  induction l generalizing i with
  | nil => simp at h
  | cons a l ih =>
    have e : rowW (a :: l) = a.cells ++ rowW l := rfl
    have ea : a.cells.length = 10 := rfl
    cases i with
    | zero =>
      rw [e, List.getElem?_append_left (by omega)]
      obtain rfl : a = x := by simpa using h
      simp
    | succ i =>
      rw [e, List.getElem?_append_right (by omega), show (i + 1) * 10 + j - a.cells.length = i * 10 + j by omega, ih i (by simpa using h)]
theorem rowW_snoc (l : List It) (x : It) : rowW (l ++ [x]) = rowW l ++ x.cells := by simp [rowW]
theorem rowW_off (l : List It) (i : Nat) (h : i < l.length) (b : Bool) : (rowW l).set (i * 10 + 9) (.bool b) = rowW (l.set i { l[i] with due := b }) := by
  induction l generalizing i with
  | nil => simp at h
  | cons a l ih =>
    have e : rowW (a :: l) = a.cells ++ rowW l := rfl
    have ea : a.cells.length = 10 := rfl
    cases i with
    | zero => rfl
    | succ i =>
      rw [e, List.set_append_right _ _ (by omega), show (i + 1) * 10 + 9 - a.cells.length = i * 10 + 9 by omega, ih i (by simpa using h)]
      rfl
/-- A path whose blocks are of O, to which nothing was told and for which no time went by. -/
structure Pt (w : World) (O : Nat → Prop) (X Y host : Nat) (its : List It) (S : List One) : Prop where
  x : O X
  is : ∃ v, Mem w X 50 #[.int .i64 (host : Nat), .int .u64 (its.length : Nat), v, .slice none 0 0, .int .i64 0, .int .i64 0, .pointer (some ⟨Y, 0, none⟩)] ∧ w.ownsRow 0 52 10 v its.length (rowW its) ∧ ∀ k, v.ownBlock = some k → O k
  dat : ∀ x ∈ its, OwnR w O 5 x.v x.d.length (bs x.d)
  tm : TmO w O Y S 0
  few : ∀ i ∈ ids S, 1 ≤ i ∧ i ≤ (its.length : Nat)
  cnt : S.length ≤ its.length
  ids : ∀ i x, its[i]? = some x → x.id = i + 1
section
variable {w w' : World} {O T O' : Nat → Prop} {X Y host : Nat} {its : List It} {S : List One}
theorem Pt.below (h : Pt w O X Y host its S) (hb : Below w.heap.size w w') : Pt w' O X Y host its S := ⟨h.x, h.is.imp fun v hv => ⟨hv.1.below hb hv.1.lt, owns_below hv.2.1 hb, hv.2.2⟩, fun x hx => (h.dat x hx).below hb, h.tm.below hb, h.few, h.cnt, h.ids⟩
theorem Pt.eff (h : Pt w O X Y host its S) (he : Eff T w w') (hd : ∀ k, k < w.heap.size → O k → ¬ T k) : Pt w' O X Y host its S := by
  obtain ⟨v, h1, h2, h3⟩ := h.is
  exact ⟨h.x, ⟨v, h1.eff he (hd X h1.lt h.x), owns_eff h2 he fun k hk => hd k (own_tag h2 k hk).2.1 (h3 k hk), h3⟩, fun x hx => (h.dat x hx).eff he fun k hk => hd k ((h.dat x hx).lt hk) ((h.dat x hx).own k hk), h.tm.eff he hd, h.few, h.cnt, h.ids⟩
theorem OwnR.moreLt {e n : Nat} {v : Value} {xs : List Value} (h : OwnR w O e v n xs) (hO : ∀ k, k < w.heap.size → O k → O' k) : OwnR w O' e v n xs := ⟨h.row, fun k hk => hO k (h.lt hk) (h.own k hk)⟩
theorem Pt.more (h : Pt w O X Y host its S) (hO : ∀ k, k < w.heap.size → O k → O' k) : Pt w O' X Y host its S := by
  obtain ⟨v, h1, h2, h3⟩ := h.is
  exact ⟨hO X h1.lt h.x, ⟨v, h1, h2, fun k hk => hO k (own_tag h2 k hk).2.1 (h3 k hk)⟩, fun x hx => OwnR.moreLt (h.dat x hx) hO, h.tm.more hO, h.few, h.cnt, h.ids⟩
theorem pt_new (w : World) (host : Nat) (hh : host ≤ 7) : Calls Try.prog 5 #[.int .i64 (host : Nat)] w fun e' w' => ∃ X Y, e' = .returned (.tuple #[.pointer (some ⟨X, 0, none⟩), .int .i64 0]) ∧ Pt w' (fun k => w.heap.size ≤ k) X Y host [] [] ∧ Below w.heap.size w w' := by
  have c1 := new_o w
  have hhx : (host : Int) ≤ 7 := by omega
  go_enter Try.func5, Try.ntmps5
  go_wp2_with (go_at_call 12; (with_reducible refine c1.mono ?_); rintro e' w1 ⟨rfl, t1, b1⟩)
  have B1 : Below w1.heap.size w1 (w1.alloc (.cells #[.int .i64 (host : Nat), .int .u64 0, .slice none 0 0, .slice none 0 0, .int .i64 0, .int .i64 0, .pointer (some ⟨w.heap.size, 0, none⟩)] 50)) := (Below.refl _ w1).alloc (Nat.le_refl _) _
  refine bodyPost_ret (v := .tuple #[.pointer (some ⟨w1.heap.size, 0, none⟩), .int .i64 0]) (by simp [results, Try.results5, go_sem]) rfl ⟨_, _, rfl, ⟨b1.size, ⟨_, Mem.new w1 _ _, World.ownsRow_nil _ _ _ _, fun k hk => (by cases hk)⟩, fun x hx => (by cases hx), t1.below B1, fun i h => (by cases h), Nat.le_refl _, fun i x h => (by simp at h)⟩, b1.trans (B1.mono b1.size)⟩
end
section
variable {w w' : World} {O T O' : Nat → Prop} {X Y host : Nat} {its : List It} {S : List One}
theorem wait_info : (Try.prog.info? 52).map (fun i => (i.zero, i.size, i.bytes)) = some (some (.agg #[.int .u64 0, .int .i64 0, .int .i64 0, .int .i64 0, .slice none 0 0, .int .u64 0, .int .u64 0, .int .i64 0, .bool false, .bool false]), 10, 96) := by kernel_rfl
theorem cells_newN {w : World} {g t : Nat} {l : List Value} (h : Mem w g t l.toArray) : ∀ j u, l[j]? = some u → w.cell? ((⟨g, 0, none⟩ : Addr).add j) = some u := by
  intro j u hu
  rw [add_plain, Nat.zero_add, h.cell j]
  simpa using hu
theorem sl_effB {w w' : World} {B : Nat} {T : Nat → Prop} {v : Value} {n : Nat} {xs : List Value} (h : Sl w B v n xs) (he : Eff T w w') (hB : B ≤ w.heap.size) (hT : ∀ k, T k → B ≤ k) : Sl w' B v n xs := by
  obtain ⟨h0, A, c, rfl, h1, h2, h3⟩ := h
  refine ⟨h0, A, c, rfl, h1, h2, fun hne => ?_⟩
  obtain ⟨b, off, rfl, h4, h5⟩ := h3 hne
  exact ⟨b, off, rfl, h4, fun j u hu => (he.cell (p := ⟨b, off + j, none⟩) (Nat.lt_of_lt_of_le h4 hB) (fun ht => by have := hT b ht; omega)).trans (h5 j u hu)⟩
set_option maxHeartbeats 4000000 in
theorem submit_any (h : Pt w O X Y host its S) (hn : its.length ≤ 3) (c : Cm) (hk : 1 ≤ c.kind ∧ c.kind ≤ 18) (vd : Value) (d : List UInt8) (Bd : Nat) (hBd : Bd ≤ w.heap.size) (hOB : ∀ k, O k → Bd ≤ k) (hv : Sl w Bd vd d.length (bs d)) (hd : d.length ≤ 1024) : Calls Try.prog 6 #[.pointer (some ⟨X, 0, none⟩), .agg #[.int .i64 c.kind, .int .i64 c.at', .int .i64 c.n, vd, .int .u64 (c.key : Nat), .int .u64 (c.new : Nat), .int .i64 c.typ, .bool c.force]] w fun e' w' => e' = .returned (.tuple #[.int .u64 ((its.length : Int) + 1), .int .i64 0]) ∧ ∃ v S', Pt w' (Ext O w) X Y host (its ++ [⟨its.length + 1, c, v, d, true⟩]) S' ∧ Eff O w w' := by
  obtain ⟨i0, hi, hz0, hz1, hz2⟩ := info_parts info_u8
  obtain ⟨i1, hi1, hy0, hy1, hy2⟩ := info_parts wait_info
  obtain ⟨hX, ⟨v, hm, hr, hO⟩, hdat, htm, hfew, hcnt, hids⟩ := h
  obtain ⟨A, cv, rfl, hc1, hc2⟩ := own_form hr
  obtain ⟨Ad, cd, rfl, hc3, hc4⟩ := hv.form
  have hk1 : ¬ c.kind < 1 := by omega
  have hk2 : ¬ 18 < c.kind := by omega
  have hdx : (d.length : Int) ≤ 1024 := by omega
  obtain ⟨w1, e1, hb1, b1⟩ : ∃ w1, w1 = w.alloc (.cells #[.int .i64 c.kind, .int .i64 c.at', .int .i64 c.n, .slice Ad d.length cd, .int .u64 (c.key : Nat), .int .u64 (c.new : Nat), .int .i64 c.typ, .bool c.force] 31) ∧ Mem w1 w.heap.size 31 #[.int .i64 c.kind, .int .i64 c.at', .int .i64 c.n, .slice Ad d.length cd, .int .u64 (c.key : Nat), .int .u64 (c.new : Nat), .int .i64 c.typ, .bool c.force] ∧ Below w.heap.size w w1 := ⟨_, rfl, Mem.new w _ _, (Below.refl _ w).alloc (Nat.le_refl _) _⟩
  have m1 := hm.below b1 hm.lt
  have x1 := m1.cell 1
  have x2 := m1.cell 2
  have hnx : (its.length : Int) ≤ 3 := by omega
  have wr1 : IntKind.u64.wrap ((its.length : Int) + 1) = (its.length : Int) + 1 := by
    show ((its.length : Int) + 1) % 18446744073709551616 = _
    omega
  have wr4 : IntKind.u64.wrap (1 + 4) = 5 := by decide
  have HR := Lib.hid hr
  have hE : (¬ 0 < its.length) ∨ ∃ g, A = some ⟨g, 0, none⟩ ∧ w1.cell? ⟨g, 0, none⟩ = some (.int .u64 1) ∧ 0 < its.length := by
    rcases Nat.eq_zero_or_pos its.length with h0 | h0
    · exact .inl (by omega)
    · rcases hr.2 with ⟨hv, h1⟩ | ⟨g, cap, cur, hv, _⟩
      · omega
      · simp only [Value.slice.injEq] at hv
        obtain ⟨rfl, _, rfl⟩ := hv
        obtain ⟨x, hx⟩ : ∃ x, its[0]? = some x := ⟨_, List.getElem?_eq_getElem h0⟩
        have e0 := rowW_at its 0 0 x hx (by omega)
        have q := own_cells (owns_below hr b1) 0 (.int .u64 (x.id : Nat)) (by rw [e0]; rfl)
        rw [hids 0 x hx] at q
        exact .inr ⟨g, rfl, q, by omega⟩
  generalize hN : its.length = N at *
  have HN := Lib.hid hN
  clear hN hr
  have hp5 : ¬ (5 : Int) ≤ (N : Int) + 1 := by omega
  have hXne : X ≠ w.heap.size := by have := hm.lt; omega
  go_enter Try.func6, Try.ntmps6
  go_upto_region 1 with (fail)
  rw [← e1]
  clear e1
  rcases hE with hp0 | ⟨g, rfl, hg, hp0⟩
  · go_quiet (fail)
    have hbU := below_drewN b1 nq
    have mbU := hb1.drewN nq
    generalize w1.drewN nq = U at *
    clear hp0 hp5
    have mU := hm.below hbU hm.lt
    have p0 := mbU.cell 0
    have p3 := mbU.cell 3
    have x1 := mU.cell 1
    have f1 := mU.free 1
    obtain ⟨W5, e5, m5, mb5, E5⟩ : ∃ W5, W5 = U.setCell ⟨X, 1, none⟩ (.int .u64 ((N : Int) + 1)) ∧ Mem W5 X 50 #[.int .i64 (host : Nat), .int .u64 ((N : Int) + 1), .slice A N cv, .slice none 0 0, .int .i64 0, .int .i64 0, .pointer (some ⟨Y, 0, none⟩)] ∧ Mem W5 w.heap.size 31 #[.int .i64 c.kind, .int .i64 c.at', .int .i64 c.n, .slice Ad d.length cd, .int .u64 (c.key : Nat), .int .u64 (c.new : Nat), .int .i64 c.typ, .bool c.force] ∧ Eff (fun k => k = X) U W5 := ⟨_, rfl, mU.put 1 _, mbU.far (by intro e; exact hXne e.symm) _, Eff.setCell (S := fun k => k = X) (Eff.refl _ _) (p := ⟨X, 1, none⟩) rfl _⟩
    have hX5 : Eff (fun k => k = X) w W5 := (Eff.of hbU).trans E5 fun _ _ h => h
    have hv5 := sl_effB hv hX5 hBd (fun k hk => hk ▸ hOB X hX)
    have hs5 : w.heap.size ≤ W5.heap.size := hX5.size
    go_upto_region 6 with (fail)
    rw [← e5]
    clear e5
    have p3 := mb5.cell 3
    go_wp2_with (at_builtin; (refine wpList_append_sl _ rfl (.const (.slice none 0 0)) (.tmp 50) _ rfl w.heap.size 5 i0 _ Try.underlying28 hi hz0 hz1 (by omega) rfl (.slice none 0 0) 0 [] rfl (World.ownsRow_nil _ _ _ _) Bd (.slice Ad d.length cd) d.length (bs d) rfl hv5 bs_one (by omega) hs5 ?_); intro v6 w6 ho6 hg6 hat6; have he6 := eff_grown hg6; have m6 := m5.eff he6 (fun h => (by cases h)); have mb6 := mb5.eff he6 (fun h => (by cases h)); have f6 := mb6.free 3; have q6 := mb6.cell 3; obtain ⟨A6, c6, rfl, _, _⟩ := own_form ho6)
    have mb7 := mb6.put 3 (.slice A6 d.length c6)
    have m7 := m6.far (p := ⟨w.heap.size, 3, none⟩) hXne (.slice A6 d.length c6)
    have E7 : Eff (fun k => k = w.heap.size) w6 (w6.setCell ⟨w.heap.size, 3, none⟩ (.slice A6 d.length c6)) := Eff.setCell (S := fun k => k = w.heap.size) (Eff.refl _ _) (p := ⟨w.heap.size, 3, none⟩) rfl _
    have hX7 : Eff (fun k => k = X) w (w6.setCell ⟨w.heap.size, 3, none⟩ (.slice A6 d.length c6)) := (hX5.trans he6 fun k hk h => (by cases h)).trans E7 fun k hk h => absurd hk (by rw [h]; exact Nat.lt_irrefl _)
    have hd7 := owns_eff ho6 E7 fun k hk e => (own_tag ho6 k hk).2.2.ne (mem_tag mb6) (by decide) e
    have hr7 := owns_eff HR.out hX7 fun k hk e => (own_tag HR.out k hk).2.2.ne (mem_tag hm) (by decide) e
    generalize w6.setCell ⟨w.heap.size, 3, none⟩ (.slice A6 d.length c6) = W7 at *
    clear f1 p0 p3 q6 f6 x1 x2
    refine wp_region_any (by kernel_rfl) ?_
    change wpAny _ _ _ _ _ _ _ (World.drew _)
    refine wpAny_take (i := 0) (oi := { dst := some 53, op := Op.move (Operand.tmp 0), type := 24, pos := "mpath.go:58", after := #[], guard := none }) (v := (.pointer (some ⟨X, 0, none⟩))) rfl (by kernel_rfl) (by kernel_rfl) (by kernel_rfl) (fun _ _ _ h => h) (Or.inl ⟨by rfl, by intro w; go_simp⟩) ?_
    try dsimp only [Act.put]
    try simp only [List.setIfInBounds_toArray, List.set_cons_succ, List.set_cons_zero]
    apply calm_tailI 12 [0] [.is (.pointer (some ⟨X, 0, none⟩)), .is _, .is _, .is _, .is _, .is _, .is _, .is _, .is _, .is _, .is _, .of (fun v W => ∃ g, v = .slice (some ⟨g, 0, none⟩) 1 1 ∧ Mem W g 52 #[.int .u64 ((N : Int) + 1), .int .i64 c.kind, .int .i64 c.at', .int .i64 c.n, .slice A6 d.length c6, .int .u64 (c.key : Nat), .int .u64 (c.new : Nat), .int .i64 c.typ, .bool c.force, .bool true]) (fun v W W' hb ⟨g, h1, h3⟩ => ⟨g, h1, h3.below hb h3.lt⟩)] [[], [], [1], [2], [3], [], [5], [6], [7], [], [8, 9], [10]] (by kernel_rfl) (by kernel_rfl) rfl (by decide) (by intro i hi o ho; obtain rfl := List.mem_singleton.1 hi; obtain rfl := Option.some.inj ho; exact rfl)
    intro f a1 ha1
    simp only [List.take_succ_cons, List.take_zero, putL, Act.put, List.setIfInBounds_toArray, List.set_cons_succ, List.set_cons_zero] at ha1
    subst ha1
    refine ⟨?_, ?_⟩
    · refine AllCalm.cons (fun W hB hd => ?_) ?_
      · go_wp2_with (fail)
        exact CalmQ.mk rfl _ rfl (Below.refl _ _) rfl
      refine AllCalm.cons (fun W hB hd => ?_) ?_
      · go_wp2_with (fail)
        exact CalmQ.mk rfl _ rfl (Below.refl _ _) rfl
      refine AllCalm.cons (fun W hB hd => ?_) ?_
      · obtain ⟨h1, -⟩ := hd
        have h1 : f 1 = _ := h1
        rw [h1]
        go_wp2_with (fail)
        exact CalmQ.mk rfl _ rfl (Below.refl _ _) rfl
      refine AllCalm.cons (fun W hB hd => ?_) ?_
      · obtain ⟨h2, -⟩ := hd
        have h2 : f 2 = _ := h2
        rw [h2]
        go_wp2_with (fail)
        exact CalmQ.mk rfl _ rfl (Below.refl _ _) rfl
      refine AllCalm.cons (fun W hB hd => ?_) ?_
      · obtain ⟨h3, -⟩ := hd
        have h3 : f 3 = _ := h3
        rw [h3]
        have k0 := (m7.below ((Below.refl _ W7).drew.trans hB) m7.lt).cell 2
        go_wp2_with (fail)
        exact CalmQ.mk rfl _ rfl (Below.refl _ _) rfl
      refine AllCalm.cons (fun W hB hd => ?_) ?_
      · go_wp2_with (fail)
        exact CalmQ.mk rfl _ rfl (Below.refl _ _) rfl
      refine AllCalm.cons (fun W hB hd => ?_) ?_
      · obtain ⟨h5, -⟩ := hd
        have h5 : f 5 = _ := h5
        rw [h5]
        go_wp2_with (fail)
        exact CalmQ.mk rfl _ rfl (Below.refl _ _) rfl
      refine AllCalm.cons (fun W hB hd => ?_) ?_
      · obtain ⟨h6, -⟩ := hd
        have h6 : f 6 = _ := h6
        rw [h6]
        go_wp2_with (fail)
        exact CalmQ.mk rfl _ rfl (Below.refl _ _) rfl
      refine AllCalm.cons (fun W hB hd => ?_) ?_
      · obtain ⟨h7, -⟩ := hd
        have h7 : f 7 = _ := h7
        rw [h7]
        have k0 := (m7.below ((Below.refl _ W7).drew.trans hB) m7.lt).cell 1
        go_wp2_with (fail)
        exact CalmQ.mk rfl _ rfl (Below.refl _ _) rfl
      refine AllCalm.cons (fun W hB hd => ?_) ?_
      · have kb := mb7.below ((Below.refl _ W7).drew.trans hB) mb7.lt; have k0 := kb.cell 0; have k1 := kb.cell 1; have k2 := kb.cell 2; have k3 := kb.cell 3; have k4 := kb.cell 4; have k5 := kb.cell 5; have k6 := kb.cell 6; have k7 := kb.cell 7
        go_wp2_with (fail)
        exact CalmQ.mk rfl _ rfl (Below.refl _ _) rfl
      refine AllCalm.cons (fun W hB hd => ?_) ?_
      · obtain ⟨h8, h9, -⟩ := hd
        have h8 : f 8 = _ := h8
        have h9 : f 9 = _ := h9
        rw [h8, h9]
        go_wp2_with (fail)
        exact CalmQ.mk rfl _ rfl (Below.refl _ _) rfl
      refine AllCalm.cons (fun W hB hd => ?_) ?_
      · obtain ⟨h10, -⟩ := hd
        have h10 : f 10 = _ := h10
        rw [h10]
        go_wp2_with (fail)
        exact CalmQ.mk rfl _ rfl ((Below.refl _ _).alloc (Nat.le_refl _) _) ⟨_, rfl, Mem.new _ _ _⟩
      exact AllCalm.nil
    · intro W hB hT
      obtain ⟨h0, h1, h2, h3, h4, h5, h6, h7, h8, h9, h10, h11, -⟩ := hT
      have h0 : f 0 = _ := h0
      have h1 : f 1 = _ := h1
      have h2 : f 2 = _ := h2
      have h3 : f 3 = _ := h3
      have h4 : f 4 = _ := h4
      have h5 : f 5 = _ := h5
      have h6 : f 6 = _ := h6
      have h7 : f 7 = _ := h7
      have h8 : f 8 = _ := h8
      have h9 : f 9 = _ := h9
      have h10 : f 10 = _ := h10
      rw [h0, h1, h2, h3, h4, h5, h6, h7, h8, h9, h10]
      clear h0 h1 h2 h3 h4 h5 h6 h7 h8 h9 h10
      simp only [List.drop_succ_cons, List.drop_zero]
      have hb8 := (Below.refl _ W7).drew.trans hB
      obtain ⟨g8, e8, m8⟩ := h11
      rw [e8]
      clear e8
      have m8p := m7.below hb8 m7.lt
      have hr8 := owns_below hr7 hb8
      have hd8 := owns_below hd7 hb8
      have bN1 : N + 1 ≤ maxLen := by unfold maxLen; omega
      have bN2 : (N + 1) * 96 ≤ 140737488355328 := by omega
      go_wp2_with (at_builtin; (refine wpList_append_at _ rfl (.tmp 57) (.tmp 64) _ rfl 0 52 i1 _ 10 96 Try.underlying48 hi1 hy0 hy1 hy2 rfl (by decide) (.slice A N cv) N (rowW its) rfl hr8 ⟨g8, 0, none⟩ 1 1 [.int .u64 ((N : Int) + 1), .int .i64 c.kind, .int .i64 c.at', .int .i64 c.n, .slice A6 d.length c6, .int .u64 (c.key : Nat), .int .u64 (c.new : Nat), .int .i64 c.typ, .bool c.force, .bool true] rfl rfl (cells_newN m8) (by intro u hu; simp at hu; rcases hu with rfl | rfl | rfl | rfl | rfl | rfl | rfl | rfl | rfl | rfl <;> rfl) bN1 bN2 (Nat.zero_le _) ?_); intro v9 w9 ho9 hg9 hat9; have he9 := eff_grown hg9; have m9 := m8p.eff he9 (fun e => (own_tag hr8 _ e).2.2.ne (mem_tag m8p) (by decide) rfl); have f9 := m9.free 2; have q9 := m9.cell 2; obtain ⟨A9, c9, rfl, _, _⟩ := own_form ho9)
      have m10 := m9.put 2 (.slice A9 (N + 1) c9)
      have E10 : Eff (fun k => k = X) w9 (w9.setCell ⟨X, 2, none⟩ (.slice A9 (N + 1) c9)) := Eff.setCell (S := fun k => k = X) (Eff.refl _ _) (p := ⟨X, 2, none⟩) rfl _
      have hT8 : Eff (fun k => k = X ∨ (Value.slice A N cv).ownBlock = some k) w _ := (hX7.mono fun k _ e => Or.inl e).trans (Eff.of (S := fun _ => False) hb8) fun k _ h => h.elim
      have hT9 := hT8.trans he9 fun k _ h => Or.inr h
      have hT10 := hT9.trans E10 fun k _ h => Or.inl h
      have hr10 := owns_eff ho9 E10 fun k hk e => (own_tag ho9 k hk).2.2.ne (mem_tag m9) (by decide) e
      have hd10 := owns_eff (owns_eff hd8 he9 fun k hk e => (own_tag hd8 k hk).2.2.ne (own_tag hr8 k e).2.2 (by decide) rfl) E10 fun k hk e => by
        have hd9 := owns_eff hd8 he9 fun k hk e => (own_tag hd8 k hk).2.2.ne (own_tag hr8 k e).2.2 (by decide) rfl
        exact (own_tag hd9 k hk).2.2.ne (mem_tag m9) (by decide) e
      have hTag : ∀ k, (k = X ∨ (Value.slice A N cv).ownBlock = some k) → ∃ t, Tag w k t ∧ t ≠ 68 ∧ t ≠ 72 := fun k hk => hk.elim (fun e => ⟨_, e ▸ mem_tag hm, by decide, by decide⟩) fun e => ⟨_, (own_tag HR.out k e).2.2, by decide, by decide⟩
      have hdT : ∀ x ∈ its, OwnR (w9.setCell ⟨X, 2, none⟩ (.slice A9 (N + 1) c9)) O 5 x.v x.d.length (bs x.d) := fun x hx => (hdat x hx).eff hT10 fun k hk e => e.elim (fun e => (own_tag (hdat x hx).row k hk).2.2.ne (mem_tag hm) (by decide) e) fun e => (own_tag (hdat x hx).row k hk).2.2.ne (own_tag HR.out k e).2.2 (by decide) rfl
      have tm10 := htm.effT hT10 hTag
      have hat : ∀ k, (Value.slice A9 (N + 1) c9).ownBlock = some k → O k ∨ w.heap.size ≤ k := fun k hk => by
        rcases hat9 with e | e
        · exact .inl (hO k (e ▸ hk))
        · rw [hk] at e
          injection e with e
          have := hT8.size
          exact .inr (by omega)
      generalize w9.setCell ⟨X, 2, none⟩ (.slice A9 (N + 1) c9) = W10 at *
      have wr2 : IntKind.i64.wrap ((N : Int) + 1) = (N : Int) + 1 := IntWalk.i64_in _ (by omega)
      have hnid : ((N : Int) + 1) ∉ ids S := fun hq => by have := (hfew _ hq).2; omega
      have hS4 : S.length < 256 := by omega
      have c10 : ∀ W, Below W10.heap.size W10 W → Calls Try.prog 13 #[.pointer (some ⟨Y, 0, none⟩), .int .i64 ((N : Int) + 1), .int .i64 4] W fun e w' => e = .returned (.int .i64 0) ∧ TmO w' (Ext O W) Y (((N : Int) + 1, 0 + 4) :: S) 0 ∧ Eff O W w' ∧ Fr W w' := fun W hW => set_fresh (tm10.below hW) _ 4 (by decide) (by decide) hnid hS4
      clear f9 q9 he9 hX7 hX5
      apply calm_tail 9 [.is _, .is _, .is _, .is _, .is _, .is _, .is _, .is _, .is _] [[], [0], [1], [2], [], [4], [5], [6], [7]] (by kernel_rfl) (by kernel_rfl) (by kernel_rfl) rfl
      intro f a1 ha1
      simp only [List.take_succ_cons, List.take_zero, putL, Act.put, List.setIfInBounds_toArray, List.set_cons_succ, List.set_cons_zero] at ha1
      subst ha1
      refine ⟨?_, ?_⟩
      · refine AllCalm.cons (fun W hB hd => ?_) ?_
        · go_wp2_with (fail)
          exact CalmQ.mk rfl _ rfl (Below.refl _ _) rfl
        refine AllCalm.cons (fun W hB hd => ?_) ?_
        · obtain ⟨h0, -⟩ := hd
          have h0 : f 0 = _ := h0
          rw [h0]
          go_wp2_with (fail)
          exact CalmQ.mk rfl _ rfl (Below.refl _ _) rfl
        refine AllCalm.cons (fun W hB hd => ?_) ?_
        · obtain ⟨h1, -⟩ := hd
          have h1 : f 1 = _ := h1
          rw [h1]
          go_wp2_with (fail)
          exact CalmQ.mk rfl _ rfl (Below.refl _ _) rfl
        refine AllCalm.cons (fun W hB hd => ?_) ?_
        · obtain ⟨h2, -⟩ := hd
          have h2 : f 2 = _ := h2
          rw [h2]
          have k0 := (m10.below hB m10.lt).cell 6
          go_wp2_with (fail)
          exact CalmQ.mk rfl _ rfl (Below.refl _ _) rfl
        refine AllCalm.cons (fun W hB hd => ?_) ?_
        · go_wp2_with (fail)
          exact CalmQ.mk rfl _ rfl (Below.refl _ _) rfl
        refine AllCalm.cons (fun W hB hd => ?_) ?_
        · obtain ⟨h4, -⟩ := hd
          have h4 : f 4 = _ := h4
          rw [h4]
          go_wp2_with (fail)
          exact CalmQ.mk rfl _ rfl (Below.refl _ _) rfl
        refine AllCalm.cons (fun W hB hd => ?_) ?_
        · obtain ⟨h5, -⟩ := hd
          have h5 : f 5 = _ := h5
          rw [h5]
          go_wp2_with (fail)
          exact CalmQ.mk rfl _ rfl (Below.refl _ _) rfl
        refine AllCalm.cons (fun W hB hd => ?_) ?_
        · obtain ⟨h6, -⟩ := hd
          have h6 : f 6 = _ := h6
          rw [h6]
          have k0 := (m10.below hB m10.lt).cell 1
          go_wp2_with (fail)
          exact CalmQ.mk rfl _ rfl (Below.refl _ _) rfl
        refine AllCalm.cons (fun W hB hd => ?_) ?_
        · obtain ⟨h7, -⟩ := hd
          have h7 : f 7 = _ := h7
          rw [h7]
          go_wp2_with (fail)
          exact CalmQ.mk rfl _ rfl (Below.refl _ _) rfl
        exact AllCalm.nil
      · intro W hB hT
        obtain ⟨h0, h1, h2, h3, h4, h5, h6, h7, h8, -⟩ := hT
        have h0 : f 0 = _ := h0
        have h1 : f 1 = _ := h1
        have h2 : f 2 = _ := h2
        have h3 : f 3 = _ := h3
        have h4 : f 4 = _ := h4
        have h5 : f 5 = _ := h5
        have h6 : f 6 = _ := h6
        have h7 : f 7 = _ := h7
        have h8 : f 8 = _ := h8
        rw [h0, h1, h2, h3, h4, h5, h6, h7, h8]
        clear h0 h1 h2 h3 h4 h5 h6 h7 h8
        simp only [List.drop_succ_cons, List.drop_zero]
        have hb11 := hB
        have c11 := c10 _ hb11
        have m11 := m10.below hb11 m10.lt
        have hr11 := owns_below hr10 hb11
        have hd11 := owns_below hd10 hb11
        have hdT11 := fun x hx => (hdT x hx).below hb11
        have hT11 := hT10.trans (Eff.of (S := fun _ => False) hb11) fun k _ h => h.elim
        clear c10
        go_wp2_with (go_at_call 13; (with_reducible refine c11.mono ?_); rintro e' w12 ⟨rfl, t12, E12, F12⟩; have m12 := F12.mem m11 (by decide) (by decide); have q12 := m12.cell 1)
        have L1 : (its ++ [(⟨N + 1, c, .slice A6 d.length c6, d, true⟩ : It)]).length = N + 1 := by rw [List.length_append, HN.out]; rfl
        have hr12 := F12.owns hr11 (by decide) (by decide)
        have hd12 := F12.owns hd11 (by decide) (by decide)
        refine bodyPost_ret (v := .tuple #[.int .u64 ((N : Int) + 1), .int .i64 0]) (by simp [results, Try.results6, go_sem]) rfl ⟨rfl, .slice A6 d.length c6, ((N : Int) + 1, 0 + 4) :: S, ⟨.inl hX, ⟨.slice A9 (N + 1) c9, ?_, ?_, fun k hk => hat k hk⟩, ?_, ?_, ?_, ?_, ?_⟩, ?_⟩
        · rw [L1]
          exact m12
        · rw [L1, rowW_snoc]
          exact hr12
        · intro x hx
          rcases List.mem_append.1 hx with hx | hx
          · have q := hdT11 x hx
            exact ⟨F12.owns q.row (by decide) (by decide), fun k hk => .inl (q.own k hk)⟩
          · obtain rfl := List.mem_singleton.1 hx
            exact ⟨by simpa using owns_mono hd12 (Nat.zero_le _), fun k hk => .inr (own_tag hd12 k (by cases A6 <;> exact hk)).1⟩
        · exact t12.more fun k _ hk => hk.imp id fun h => Nat.le_trans (Nat.le_trans hT10.size hb11.size) h
        · intro i hi
          rw [L1]
          rcases List.mem_cons.1 (show i ∈ ((N : Int) + 1) :: ids S from hi) with rfl | hi
          · omega
          · have := hfew i hi
            omega
        · rw [L1]
          simp only [List.length_cons]
          omega
        · intro i x hx
          by_cases hiN : i < its.length
          · rw [List.getElem?_append_left hiN] at hx
            exact hids i x hx
          · have hlt := (List.getElem?_eq_some_iff.1 hx).1
            rw [L1] at hlt
            have hNo := HN.out
            rw [List.getElem?_append_right (by omega), show i - its.length = 0 by omega] at hx
            obtain rfl : _ = x := Option.some.inj hx
            show N + 1 = i + 1
            omega
        · exact (hT11.mono fun k _ hk => hk.elim (fun e => e ▸ hX) (hO k)).trans E12 fun _ _ h => h
  · go_quiet (fail)
    have hbU := below_drewN b1 nq
    have mbU := hb1.drewN nq
    generalize w1.drewN nq = U at *
    clear hp0 hp5
    have mU := hm.below hbU hm.lt
    have p0 := mbU.cell 0
    have p3 := mbU.cell 3
    have x1 := mU.cell 1
    have f1 := mU.free 1
    obtain ⟨W5, e5, m5, mb5, E5⟩ : ∃ W5, W5 = U.setCell ⟨X, 1, none⟩ (.int .u64 ((N : Int) + 1)) ∧ Mem W5 X 50 #[.int .i64 (host : Nat), .int .u64 ((N : Int) + 1), .slice (some ⟨g, 0, none⟩) N cv, .slice none 0 0, .int .i64 0, .int .i64 0, .pointer (some ⟨Y, 0, none⟩)] ∧ Mem W5 w.heap.size 31 #[.int .i64 c.kind, .int .i64 c.at', .int .i64 c.n, .slice Ad d.length cd, .int .u64 (c.key : Nat), .int .u64 (c.new : Nat), .int .i64 c.typ, .bool c.force] ∧ Eff (fun k => k = X) U W5 := ⟨_, rfl, mU.put 1 _, mbU.far (by intro e; exact hXne e.symm) _, Eff.setCell (S := fun k => k = X) (Eff.refl _ _) (p := ⟨X, 1, none⟩) rfl _⟩
    have hX5 : Eff (fun k => k = X) w W5 := (Eff.of hbU).trans E5 fun _ _ h => h
    have hv5 := sl_effB hv hX5 hBd (fun k hk => hk ▸ hOB X hX)
    have hs5 : w.heap.size ≤ W5.heap.size := hX5.size
    go_upto_region 6 with (fail)
    rw [← e5]
    clear e5
    have p3 := mb5.cell 3
    go_wp2_with (at_builtin; (refine wpList_append_sl _ rfl (.const (.slice none 0 0)) (.tmp 50) _ rfl w.heap.size 5 i0 _ Try.underlying28 hi hz0 hz1 (by omega) rfl (.slice none 0 0) 0 [] rfl (World.ownsRow_nil _ _ _ _) Bd (.slice Ad d.length cd) d.length (bs d) rfl hv5 bs_one (by omega) hs5 ?_); intro v6 w6 ho6 hg6 hat6; have he6 := eff_grown hg6; have m6 := m5.eff he6 (fun h => (by cases h)); have mb6 := mb5.eff he6 (fun h => (by cases h)); have f6 := mb6.free 3; have q6 := mb6.cell 3; obtain ⟨A6, c6, rfl, _, _⟩ := own_form ho6)
    have mb7 := mb6.put 3 (.slice A6 d.length c6)
    have m7 := m6.far (p := ⟨w.heap.size, 3, none⟩) hXne (.slice A6 d.length c6)
    have E7 : Eff (fun k => k = w.heap.size) w6 (w6.setCell ⟨w.heap.size, 3, none⟩ (.slice A6 d.length c6)) := Eff.setCell (S := fun k => k = w.heap.size) (Eff.refl _ _) (p := ⟨w.heap.size, 3, none⟩) rfl _
    have hX7 : Eff (fun k => k = X) w (w6.setCell ⟨w.heap.size, 3, none⟩ (.slice A6 d.length c6)) := (hX5.trans he6 fun k hk h => (by cases h)).trans E7 fun k hk h => absurd hk (by rw [h]; exact Nat.lt_irrefl _)
    have hd7 := owns_eff ho6 E7 fun k hk e => (own_tag ho6 k hk).2.2.ne (mem_tag mb6) (by decide) e
    have hr7 := owns_eff HR.out hX7 fun k hk e => (own_tag HR.out k hk).2.2.ne (mem_tag hm) (by decide) e
    generalize w6.setCell ⟨w.heap.size, 3, none⟩ (.slice A6 d.length c6) = W7 at *
    clear f1 p0 p3 q6 f6 x1 x2
    refine wp_region_any (by kernel_rfl) ?_
    change wpAny _ _ _ _ _ _ _ (World.drew _)
    refine wpAny_take (i := 0) (oi := { dst := some 53, op := Op.move (Operand.tmp 0), type := 24, pos := "mpath.go:58", after := #[], guard := none }) (v := (.pointer (some ⟨X, 0, none⟩))) rfl (by kernel_rfl) (by kernel_rfl) (by kernel_rfl) (fun _ _ _ h => h) (Or.inl ⟨by rfl, by intro w; go_simp⟩) ?_
    try dsimp only [Act.put]
    try simp only [List.setIfInBounds_toArray, List.set_cons_succ, List.set_cons_zero]
    apply calm_tailI 12 [0] [.is (.pointer (some ⟨X, 0, none⟩)), .is _, .is _, .is _, .is _, .is _, .is _, .is _, .is _, .is _, .is _, .of (fun v W => ∃ g, v = .slice (some ⟨g, 0, none⟩) 1 1 ∧ Mem W g 52 #[.int .u64 ((N : Int) + 1), .int .i64 c.kind, .int .i64 c.at', .int .i64 c.n, .slice A6 d.length c6, .int .u64 (c.key : Nat), .int .u64 (c.new : Nat), .int .i64 c.typ, .bool c.force, .bool true]) (fun v W W' hb ⟨g, h1, h3⟩ => ⟨g, h1, h3.below hb h3.lt⟩)] [[], [], [1], [2], [3], [], [5], [6], [7], [], [8, 9], [10]] (by kernel_rfl) (by kernel_rfl) rfl (by decide) (by intro i hi o ho; obtain rfl := List.mem_singleton.1 hi; obtain rfl := Option.some.inj ho; exact rfl)
    intro f a1 ha1
    simp only [List.take_succ_cons, List.take_zero, putL, Act.put, List.setIfInBounds_toArray, List.set_cons_succ, List.set_cons_zero] at ha1
    subst ha1
    refine ⟨?_, ?_⟩
    · refine AllCalm.cons (fun W hB hd => ?_) ?_
      · go_wp2_with (fail)
        exact CalmQ.mk rfl _ rfl (Below.refl _ _) rfl
      refine AllCalm.cons (fun W hB hd => ?_) ?_
      · go_wp2_with (fail)
        exact CalmQ.mk rfl _ rfl (Below.refl _ _) rfl
      refine AllCalm.cons (fun W hB hd => ?_) ?_
      · obtain ⟨h1, -⟩ := hd
        have h1 : f 1 = _ := h1
        rw [h1]
        go_wp2_with (fail)
        exact CalmQ.mk rfl _ rfl (Below.refl _ _) rfl
      refine AllCalm.cons (fun W hB hd => ?_) ?_
      · obtain ⟨h2, -⟩ := hd
        have h2 : f 2 = _ := h2
        rw [h2]
        go_wp2_with (fail)
        exact CalmQ.mk rfl _ rfl (Below.refl _ _) rfl
      refine AllCalm.cons (fun W hB hd => ?_) ?_
      · obtain ⟨h3, -⟩ := hd
        have h3 : f 3 = _ := h3
        rw [h3]
        have k0 := (m7.below ((Below.refl _ W7).drew.trans hB) m7.lt).cell 2
        go_wp2_with (fail)
        exact CalmQ.mk rfl _ rfl (Below.refl _ _) rfl
      refine AllCalm.cons (fun W hB hd => ?_) ?_
      · go_wp2_with (fail)
        exact CalmQ.mk rfl _ rfl (Below.refl _ _) rfl
      refine AllCalm.cons (fun W hB hd => ?_) ?_
      · obtain ⟨h5, -⟩ := hd
        have h5 : f 5 = _ := h5
        rw [h5]
        go_wp2_with (fail)
        exact CalmQ.mk rfl _ rfl (Below.refl _ _) rfl
      refine AllCalm.cons (fun W hB hd => ?_) ?_
      · obtain ⟨h6, -⟩ := hd
        have h6 : f 6 = _ := h6
        rw [h6]
        go_wp2_with (fail)
        exact CalmQ.mk rfl _ rfl (Below.refl _ _) rfl
      refine AllCalm.cons (fun W hB hd => ?_) ?_
      · obtain ⟨h7, -⟩ := hd
        have h7 : f 7 = _ := h7
        rw [h7]
        have k0 := (m7.below ((Below.refl _ W7).drew.trans hB) m7.lt).cell 1
        go_wp2_with (fail)
        exact CalmQ.mk rfl _ rfl (Below.refl _ _) rfl
      refine AllCalm.cons (fun W hB hd => ?_) ?_
      · have kb := mb7.below ((Below.refl _ W7).drew.trans hB) mb7.lt; have k0 := kb.cell 0; have k1 := kb.cell 1; have k2 := kb.cell 2; have k3 := kb.cell 3; have k4 := kb.cell 4; have k5 := kb.cell 5; have k6 := kb.cell 6; have k7 := kb.cell 7
        go_wp2_with (fail)
        exact CalmQ.mk rfl _ rfl (Below.refl _ _) rfl
      refine AllCalm.cons (fun W hB hd => ?_) ?_
      · obtain ⟨h8, h9, -⟩ := hd
        have h8 : f 8 = _ := h8
        have h9 : f 9 = _ := h9
        rw [h8, h9]
        go_wp2_with (fail)
        exact CalmQ.mk rfl _ rfl (Below.refl _ _) rfl
      refine AllCalm.cons (fun W hB hd => ?_) ?_
      · obtain ⟨h10, -⟩ := hd
        have h10 : f 10 = _ := h10
        rw [h10]
        go_wp2_with (fail)
        exact CalmQ.mk rfl _ rfl ((Below.refl _ _).alloc (Nat.le_refl _) _) ⟨_, rfl, Mem.new _ _ _⟩
      exact AllCalm.nil
    · intro W hB hT
      obtain ⟨h0, h1, h2, h3, h4, h5, h6, h7, h8, h9, h10, h11, -⟩ := hT
      have h0 : f 0 = _ := h0
      have h1 : f 1 = _ := h1
      have h2 : f 2 = _ := h2
      have h3 : f 3 = _ := h3
      have h4 : f 4 = _ := h4
      have h5 : f 5 = _ := h5
      have h6 : f 6 = _ := h6
      have h7 : f 7 = _ := h7
      have h8 : f 8 = _ := h8
      have h9 : f 9 = _ := h9
      have h10 : f 10 = _ := h10
      rw [h0, h1, h2, h3, h4, h5, h6, h7, h8, h9, h10]
      clear h0 h1 h2 h3 h4 h5 h6 h7 h8 h9 h10
      simp only [List.drop_succ_cons, List.drop_zero]
      have hb8 := (Below.refl _ W7).drew.trans hB
      obtain ⟨g8, e8, m8⟩ := h11
      rw [e8]
      clear e8
      have m8p := m7.below hb8 m7.lt
      have hr8 := owns_below hr7 hb8
      have hd8 := owns_below hd7 hb8
      have bN1 : N + 1 ≤ maxLen := by unfold maxLen; omega
      have bN2 : (N + 1) * 96 ≤ 140737488355328 := by omega
      go_wp2_with (at_builtin; (refine wpList_append_at _ rfl (.tmp 57) (.tmp 64) _ rfl 0 52 i1 _ 10 96 Try.underlying48 hi1 hy0 hy1 hy2 rfl (by decide) (.slice (some ⟨g, 0, none⟩) N cv) N (rowW its) rfl hr8 ⟨g8, 0, none⟩ 1 1 [.int .u64 ((N : Int) + 1), .int .i64 c.kind, .int .i64 c.at', .int .i64 c.n, .slice A6 d.length c6, .int .u64 (c.key : Nat), .int .u64 (c.new : Nat), .int .i64 c.typ, .bool c.force, .bool true] rfl rfl (cells_newN m8) (by intro u hu; simp at hu; rcases hu with rfl | rfl | rfl | rfl | rfl | rfl | rfl | rfl | rfl | rfl <;> rfl) bN1 bN2 (Nat.zero_le _) ?_); intro v9 w9 ho9 hg9 hat9; have he9 := eff_grown hg9; have m9 := m8p.eff he9 (fun e => (own_tag hr8 _ e).2.2.ne (mem_tag m8p) (by decide) rfl); have f9 := m9.free 2; have q9 := m9.cell 2; obtain ⟨A9, c9, rfl, _, _⟩ := own_form ho9)
      have m10 := m9.put 2 (.slice A9 (N + 1) c9)
      have E10 : Eff (fun k => k = X) w9 (w9.setCell ⟨X, 2, none⟩ (.slice A9 (N + 1) c9)) := Eff.setCell (S := fun k => k = X) (Eff.refl _ _) (p := ⟨X, 2, none⟩) rfl _
      have hT8 : Eff (fun k => k = X ∨ (Value.slice (some ⟨g, 0, none⟩) N cv).ownBlock = some k) w _ := (hX7.mono fun k _ e => Or.inl e).trans (Eff.of (S := fun _ => False) hb8) fun k _ h => h.elim
      have hT9 := hT8.trans he9 fun k _ h => Or.inr h
      have hT10 := hT9.trans E10 fun k _ h => Or.inl h
      have hr10 := owns_eff ho9 E10 fun k hk e => (own_tag ho9 k hk).2.2.ne (mem_tag m9) (by decide) e
      have hd10 := owns_eff (owns_eff hd8 he9 fun k hk e => (own_tag hd8 k hk).2.2.ne (own_tag hr8 k e).2.2 (by decide) rfl) E10 fun k hk e => by
        have hd9 := owns_eff hd8 he9 fun k hk e => (own_tag hd8 k hk).2.2.ne (own_tag hr8 k e).2.2 (by decide) rfl
        exact (own_tag hd9 k hk).2.2.ne (mem_tag m9) (by decide) e
      have hTag : ∀ k, (k = X ∨ (Value.slice (some ⟨g, 0, none⟩) N cv).ownBlock = some k) → ∃ t, Tag w k t ∧ t ≠ 68 ∧ t ≠ 72 := fun k hk => hk.elim (fun e => ⟨_, e ▸ mem_tag hm, by decide, by decide⟩) fun e => ⟨_, (own_tag HR.out k e).2.2, by decide, by decide⟩
      have hdT : ∀ x ∈ its, OwnR (w9.setCell ⟨X, 2, none⟩ (.slice A9 (N + 1) c9)) O 5 x.v x.d.length (bs x.d) := fun x hx => (hdat x hx).eff hT10 fun k hk e => e.elim (fun e => (own_tag (hdat x hx).row k hk).2.2.ne (mem_tag hm) (by decide) e) fun e => (own_tag (hdat x hx).row k hk).2.2.ne (own_tag HR.out k e).2.2 (by decide) rfl
      have tm10 := htm.effT hT10 hTag
      have hat : ∀ k, (Value.slice A9 (N + 1) c9).ownBlock = some k → O k ∨ w.heap.size ≤ k := fun k hk => by
        rcases hat9 with e | e
        · exact .inl (hO k (e ▸ hk))
        · rw [hk] at e
          injection e with e
          have := hT8.size
          exact .inr (by omega)
      generalize w9.setCell ⟨X, 2, none⟩ (.slice A9 (N + 1) c9) = W10 at *
      have wr2 : IntKind.i64.wrap ((N : Int) + 1) = (N : Int) + 1 := IntWalk.i64_in _ (by omega)
      have hnid : ((N : Int) + 1) ∉ ids S := fun hq => by have := (hfew _ hq).2; omega
      have hS4 : S.length < 256 := by omega
      have c10 : ∀ W, Below W10.heap.size W10 W → Calls Try.prog 13 #[.pointer (some ⟨Y, 0, none⟩), .int .i64 ((N : Int) + 1), .int .i64 4] W fun e w' => e = .returned (.int .i64 0) ∧ TmO w' (Ext O W) Y (((N : Int) + 1, 0 + 4) :: S) 0 ∧ Eff O W w' ∧ Fr W w' := fun W hW => set_fresh (tm10.below hW) _ 4 (by decide) (by decide) hnid hS4
      clear f9 q9 he9 hX7 hX5
      apply calm_tail 9 [.is _, .is _, .is _, .is _, .is _, .is _, .is _, .is _, .is _] [[], [0], [1], [2], [], [4], [5], [6], [7]] (by kernel_rfl) (by kernel_rfl) (by kernel_rfl) rfl
      intro f a1 ha1
      simp only [List.take_succ_cons, List.take_zero, putL, Act.put, List.setIfInBounds_toArray, List.set_cons_succ, List.set_cons_zero] at ha1
      subst ha1
      refine ⟨?_, ?_⟩
      · refine AllCalm.cons (fun W hB hd => ?_) ?_
        · go_wp2_with (fail)
          exact CalmQ.mk rfl _ rfl (Below.refl _ _) rfl
        refine AllCalm.cons (fun W hB hd => ?_) ?_
        · obtain ⟨h0, -⟩ := hd
          have h0 : f 0 = _ := h0
          rw [h0]
          go_wp2_with (fail)
          exact CalmQ.mk rfl _ rfl (Below.refl _ _) rfl
        refine AllCalm.cons (fun W hB hd => ?_) ?_
        · obtain ⟨h1, -⟩ := hd
          have h1 : f 1 = _ := h1
          rw [h1]
          go_wp2_with (fail)
          exact CalmQ.mk rfl _ rfl (Below.refl _ _) rfl
        refine AllCalm.cons (fun W hB hd => ?_) ?_
        · obtain ⟨h2, -⟩ := hd
          have h2 : f 2 = _ := h2
          rw [h2]
          have k0 := (m10.below hB m10.lt).cell 6
          go_wp2_with (fail)
          exact CalmQ.mk rfl _ rfl (Below.refl _ _) rfl
        refine AllCalm.cons (fun W hB hd => ?_) ?_
        · go_wp2_with (fail)
          exact CalmQ.mk rfl _ rfl (Below.refl _ _) rfl
        refine AllCalm.cons (fun W hB hd => ?_) ?_
        · obtain ⟨h4, -⟩ := hd
          have h4 : f 4 = _ := h4
          rw [h4]
          go_wp2_with (fail)
          exact CalmQ.mk rfl _ rfl (Below.refl _ _) rfl
        refine AllCalm.cons (fun W hB hd => ?_) ?_
        · obtain ⟨h5, -⟩ := hd
          have h5 : f 5 = _ := h5
          rw [h5]
          go_wp2_with (fail)
          exact CalmQ.mk rfl _ rfl (Below.refl _ _) rfl
        refine AllCalm.cons (fun W hB hd => ?_) ?_
        · obtain ⟨h6, -⟩ := hd
          have h6 : f 6 = _ := h6
          rw [h6]
          have k0 := (m10.below hB m10.lt).cell 1
          go_wp2_with (fail)
          exact CalmQ.mk rfl _ rfl (Below.refl _ _) rfl
        refine AllCalm.cons (fun W hB hd => ?_) ?_
        · obtain ⟨h7, -⟩ := hd
          have h7 : f 7 = _ := h7
          rw [h7]
          go_wp2_with (fail)
          exact CalmQ.mk rfl _ rfl (Below.refl _ _) rfl
        exact AllCalm.nil
      · intro W hB hT
        obtain ⟨h0, h1, h2, h3, h4, h5, h6, h7, h8, -⟩ := hT
        have h0 : f 0 = _ := h0
        have h1 : f 1 = _ := h1
        have h2 : f 2 = _ := h2
        have h3 : f 3 = _ := h3
        have h4 : f 4 = _ := h4
        have h5 : f 5 = _ := h5
        have h6 : f 6 = _ := h6
        have h7 : f 7 = _ := h7
        have h8 : f 8 = _ := h8
        rw [h0, h1, h2, h3, h4, h5, h6, h7, h8]
        clear h0 h1 h2 h3 h4 h5 h6 h7 h8
        simp only [List.drop_succ_cons, List.drop_zero]
        have hb11 := hB
        have c11 := c10 _ hb11
        have m11 := m10.below hb11 m10.lt
        have hr11 := owns_below hr10 hb11
        have hd11 := owns_below hd10 hb11
        have hdT11 := fun x hx => (hdT x hx).below hb11
        have hT11 := hT10.trans (Eff.of (S := fun _ => False) hb11) fun k _ h => h.elim
        clear c10
        go_wp2_with (go_at_call 13; (with_reducible refine c11.mono ?_); rintro e' w12 ⟨rfl, t12, E12, F12⟩; have m12 := F12.mem m11 (by decide) (by decide); have q12 := m12.cell 1)
        have L1 : (its ++ [(⟨N + 1, c, .slice A6 d.length c6, d, true⟩ : It)]).length = N + 1 := by rw [List.length_append, HN.out]; rfl
        have hr12 := F12.owns hr11 (by decide) (by decide)
        have hd12 := F12.owns hd11 (by decide) (by decide)
        refine bodyPost_ret (v := .tuple #[.int .u64 ((N : Int) + 1), .int .i64 0]) (by simp [results, Try.results6, go_sem]) rfl ⟨rfl, .slice A6 d.length c6, ((N : Int) + 1, 0 + 4) :: S, ⟨.inl hX, ⟨.slice A9 (N + 1) c9, ?_, ?_, fun k hk => hat k hk⟩, ?_, ?_, ?_, ?_, ?_⟩, ?_⟩
        · rw [L1]
          exact m12
        · rw [L1, rowW_snoc]
          exact hr12
        · intro x hx
          rcases List.mem_append.1 hx with hx | hx
          · have q := hdT11 x hx
            exact ⟨F12.owns q.row (by decide) (by decide), fun k hk => .inl (q.own k hk)⟩
          · obtain rfl := List.mem_singleton.1 hx
            exact ⟨by simpa using owns_mono hd12 (Nat.zero_le _), fun k hk => .inr (own_tag hd12 k (by cases A6 <;> exact hk)).1⟩
        · exact t12.more fun k _ hk => hk.imp id fun h => Nat.le_trans (Nat.le_trans hT10.size hb11.size) h
        · intro i hi
          rw [L1]
          rcases List.mem_cons.1 (show i ∈ ((N : Int) + 1) :: ids S from hi) with rfl | hi
          · omega
          · have := hfew i hi
            omega
        · rw [L1]
          simp only [List.length_cons]
          omega
        · intro i x hx
          by_cases hiN : i < its.length
          · rw [List.getElem?_append_left hiN] at hx
            exact hids i x hx
          · have hlt := (List.getElem?_eq_some_iff.1 hx).1
            rw [L1] at hlt
            have hNo := HN.out
            rw [List.getElem?_append_right (by omega), show i - its.length = 0 by omega] at hx
            obtain rfl : _ = x := Option.some.inj hx
            show N + 1 = i + 1
            omega
        · exact (hT11.mono fun k _ hk => hk.elim (fun e => e ▸ hX) (hO k)).trans E12 fun _ _ h => h
end
end Nw
end Go.Proofs.Ytoogmdokcndieaa
