/- (made by tools/dedupe.py out of XSp6; encode_gen: by hand) Package space: Encode: contract; the rows of a map are one only. -/
import Derived.Test.YtpkebbibafldkaaMm
import Derived.Test.YtpkebbibafldkaaUSp5
import Derived.Test.YtpkebbibafldkaaBt7
import Derived.Test.YtpkebbibafldkaaPutB
namespace Go.Proofs.Ytpkebbibafldkaa
open Go.ChangeShapes Go.WideShapes Go.ChangeAt Go.RowKit Go.Lib
set_option linter.unusedVariables false
set_option linter.unusedSimpArgs false
/-- Rows that cover the same places are the same. -/
theorem cover_uniq : ∀ (R R' : List (Nat × Nat)), (∀ r ∈ R, 1 ≤ r.2) → (∀ r ∈ R', 1 ≤ r.2) → (R.Pairwise fun a b => a.1 + a.2 < b.1) → (R'.Pairwise fun a b => a.1 + a.2 < b.1) → (∀ j, (∃ r ∈ R, r.1 ≤ j ∧ j < r.1 + r.2) ↔ ∃ r ∈ R', r.1 ≤ j ∧ j < r.1 + r.2) → R = R'
  | [], [], _, _, _, _, _ => rfl
  | [], b :: T', _, h2, _, _, h => by
    have := h2 b (by simp)
    obtain ⟨r, hr, _⟩ := (h b.1).2 ⟨b, by simp, Nat.le_refl _, by omega⟩
    simp at hr
  | a :: T, [], h1, _, _, _, h => by
    have := h1 a (by simp)
    obtain ⟨r, hr, _⟩ := (h a.1).1 ⟨a, by simp, Nat.le_refl _, by omega⟩
    simp at hr
  | a :: T, b :: T', h1, h2, p1, p2, h => by
    have ha := h1 a (by simp)
    have hb := h2 b (by simp)
    rw [List.pairwise_cons] at p1 p2
    have e1 : a.1 = b.1 := by
      obtain ⟨r, hr, hr1, hr2⟩ := (h a.1).1 ⟨a, by simp, Nat.le_refl _, by omega⟩
      obtain ⟨q, hq, hq1, hq2⟩ := (h b.1).2 ⟨b, by simp, Nat.le_refl _, by omega⟩
      have : b.1 ≤ r.1 := by
        rcases List.mem_cons.1 hr with rfl | hr
        · exact Nat.le_refl _
        · have := p2.1 r hr; omega
      have : a.1 ≤ q.1 := by
        rcases List.mem_cons.1 hq with rfl | hq
        · exact Nat.le_refl _
        · have := p1.1 q hq; omega
      omega
    have e2 : a.2 = b.2 := by
      rcases Nat.lt_trichotomy a.2 b.2 with hlt | heq | hlt
      · obtain ⟨q, hq, hq1, hq2⟩ := (h (a.1 + a.2)).2 ⟨b, by simp, by omega, by omega⟩
        rcases List.mem_cons.1 hq with rfl | hq
        · omega
        · have := p1.1 q hq; omega
      · exact heq
      · obtain ⟨q, hq, hq1, hq2⟩ := (h (b.1 + b.2)).1 ⟨a, by simp, by omega, by omega⟩
        rcases List.mem_cons.1 hq with rfl | hq
        · omega
        · have := p2.1 q hq; omega
    have eab : a = b := Prod.ext e1 e2
    subst eab
    congr 1
    refine cover_uniq T T' (fun r hr => h1 r (by simp [hr])) (fun r hr => h2 r (by simp [hr])) p1.2 p2.2 fun j => ?_
    constructor
    · rintro ⟨r, hr, hr1, hr2⟩
      obtain ⟨q, hq, hq1, hq2⟩ := (h j).1 ⟨r, by simp [hr], hr1, hr2⟩
      rcases List.mem_cons.1 hq with rfl | hq
      · have := p1.1 r hr; omega
      · exact ⟨q, hq, hq1, hq2⟩
    · rintro ⟨r, hr, hr1, hr2⟩
      obtain ⟨q, hq, hq1, hq2⟩ := (h j).2 ⟨r, by simp [hr], hr1, hr2⟩
      rcases List.mem_cons.1 hq with rfl | hq
      · have := p2.1 r hr; omega
      · exact ⟨q, hq, hq1, hq2⟩
theorem RunsOf.unique {l : List UInt8} {t t' : Nat} {R R' : List (Nat × Nat)} (h : RunsOf l t R) (h2 : ∀ j, t ≤ j → j < 8 * l.length → bit l j = false) (k : RunsOf l t' R') (k2 : ∀ j, t' ≤ j → j < 8 * l.length → bit l j = false) : R = R' := by
  refine cover_uniq R R' (fun r hr => (h.each r hr).1) (fun r hr => (k.each r hr).1) h.apart k.apart fun j => ?_
  rw [← (h.done h2).2 j, ← (k.done k2).2 j]
section
variable {P : Program} (w : World)
theorem append_tx (t tx e e' ty : TypeId) (ht : P.underlying t = some (.slice e)) (htx : P.underlying tx = some (.slice e')) (A : Option Addr) (n c : Nat) (y : Value) : (Builtin.append_ #[t, tx] ty #[.slice A n c, y]).run P w = (Builtin.append_ #[t, t] ty #[.slice A n c, y]).run P w := by
  simp [Builtin.append_, run_underlying ht, run_underlying htx]
/-- append of a slice of another name. -/
theorem wpList_append_slx {ops : Array Oper} {rest : List Oper} {o : Oper} {a : Act} {Q : Exit → Act → World → Prop} (hgd : o.guard = none) (s x : Operand) (t tx e' : TypeId) (htx : P.underlying tx = some (.slice e'))
    (ho : o.op = .call { callee := .builtin .append, args := #[s, x], argTypes := #[t, tx] })
    (base : Nat) (e : TypeId) (i : TypeInfo) (z : Value) (ht : P.underlying t = some (.slice e)) (hi : P.info? e = some i) (hz : i.zero = some z)
    (hsize : i.size = 1) (hby : i.bytes ≤ 8) (hzs : z.cells.size = 1)
    (v : Value) (n : Nat) (xs : List Value) (hs : a.eval s = v) (hown : w.ownsRow base e 1 v n xs)
    (B : Nat) (y : Value) (m : Nat) (news : List Value) (hx : a.eval x = y) (hr : Sl w B y m news) (h1 : ∀ u ∈ news, u.oneCell' = true)
    (hbytes : n + m ≤ 17592186044416) (hbase : base ≤ w.heap.size)
    (h : ∀ v' w', w'.ownsRow base e 1 v' (n + m) (xs ++ news) → w.grownBy w' v.ownBlock → (v'.ownBlock = v.ownBlock ∨ v'.ownBlock = some w.heap.size) → wpList P ops Q rest (a.put o.dst v') w') : wpList P ops Q (o :: rest) a w := by
  obtain ⟨v', w', hrun, h2, h3, h4⟩ := append_sl (P := P) w base t o.type e i z ht hi hz hsize hby hzs v n xs hown B y m news hr h1 hbytes hbase
  obtain ⟨A, c, rfl⟩ := formOf hown
  rw [← append_tx w t tx e e' o.type ht htx] at hrun
  refine wpList_plain hgd fun K hK => ?_
  unfold Oper.wp execOp
  simp only [ho, resolve, invoke, builtin, Sem.run_bind, Sem.run_pure, Result.andThen_ok, List.map_toArray, List.map_cons, List.map_nil, hs, hx, hrun]
  exact hK _ _ (h v' w' h2 h3 h4)
end
/-- A space's bytes. -/
def encS (N : Nat) (D M : List UInt8) (R : List (Nat × Nat)) : List UInt8 := be N 2 ++ M ++ R.flatMap fun r => piece D r.1 r.2
theorem pflat_at (R : List (Nat × Nat)) (i : Nat) (h : i < R.length) : (pflat R)[i * 2]? = some (.int .i64 ((R[i]).1 : Nat)) ∧ (pflat R)[i * 2 + 1]? = some (.int .i64 ((R[i]).2 : Nat)) := by
  induction R generalizing i with
  | nil => simp at h
  | cons r R ih =>
    have e : pflat (r :: R) = [.int .i64 (r.1 : Nat), .int .i64 (r.2 : Nat)] ++ pflat R := rfl
    rw [e]
    cases i with
    | zero => exact ⟨rfl, rfl⟩
    | succ i =>
      have := ih i (by simpa using h)
      rw [List.getElem?_append_right (by simp; omega), List.getElem?_append_right (by simp; omega)]
      simp only [List.length_cons, List.length_nil, List.getElem_cons_succ]
      rw [show (i + 1) * 2 - (0 + 1 + 1) = i * 2 by omega, show (i + 1) * 2 + 1 - (0 + 1 + 1) = i * 2 + 1 by omega]
      exact this
section
variable {w : World} {B X g h N : Nat} {D M : List UInt8}
set_option maxRecDepth 100000 in
set_option maxHeartbeats 2000000 in
theorem encode_gen (hn : SpInv w B X g h N D M) (hz : ∀ j, N ≤ j → bit M j = false) : Calls Try.prog 41 #[.pointer (some ⟨X, 0, none⟩)] w fun e w' => ∃ v R t, e = .returned v ∧ RunsOf M t R ∧ (∀ j, t ≤ j → j < 8 * M.length → bit M j = false) ∧ Sl w' w'.heap.size v (encS N D M R).length (bs (encS N D M R)) ∧ Below w.heap.size w w' := by
  obtain ⟨i0, hi0, hz0, hz1, hz2⟩ := info_parts (show (Try.prog.info? 5).map (fun i => (i.zero, i.size, i.bytes)) = some (some (.int .u8 0), 1, 1) by kernel_rfl)
  have hlens := hn.lens
  have hfew := hn.few
  have hbl := blocks_any hn
  have hput := put_any (.slice none 0 0) [] N 2 w Sl.nil_ (by omega) (by simp) (by omega) (by omega)
  have hx1 : ∀ W, Below w.heap.size w W → W.cell? ⟨X, 1, none⟩ = some (.slice (some ⟨h, 0, none⟩) M.length M.length) := fun W hW => (hn.below hW).mem.cell 1
  have hruns := fun W (hW : Below w.heap.size w W) => runs_any (.slice (some ⟨h, 0, none⟩) M.length M.length) M W (by omega) (hn.below hW).slM
  have hps : putS [] N 2 = be N 2 := by unfold putS; rw [if_neg (by omega)]; rfl
  rw [hps] at hput
  have hbe : (be N 2).length = 2 := be_len N 2
  have hMx : (M.length : Int) ≤ 129 := by omega
  obtain ⟨p0, hp0⟩ : ∃ p0, be N 2 = p0 := ⟨_, rfl⟩
  have HP := Lib.hid hp0
  rw [hp0] at hput hbe
  clear hp0 hps
  go_enter Try.func41, Try.ntmps41
  go_wp2_with (first
    | (go_at_call 33; (with_reducible refine hbl.mono ?_); rintro e w1 ⟨rfl, rfl⟩)
    | (go_at_call 43; (with_reducible refine hput.mono ?_); rintro e w2 ⟨v2, rfl, ho2, hb2⟩; have hx2 := hx1 w2 hb2; have hM2 := (hn.below hb2).slM; have hs2 := hb2.size)
    | (at_builtin; (refine wpList_append_slx _ rfl (.tmp 10) (.tmp 14) _ _ 5 Try.underlying95 rfl w.heap.size 5 i0 _ Try.underlying22 hi0 hz0 hz1 (by omega) rfl v2 p0.length (bs p0) rfl ho2 _ (.slice (some ⟨h, 0, none⟩) M.length M.length) M.length (bs M) rfl hM2 bs_one (by omega) hs2 ?_); intro v3 w3 ho3 hg3 hat3; have hb3 := below_own hb2 hg3 hs2 (own_from ho2); have hx3 := hx1 w3 hb3)
    | (go_at_call 48; (with_reducible refine (hruns _ hb3).mono ?_); rintro e w4 ⟨u, R, t, rfl, hR, ht, hoR, hRl, hb4⟩; obtain ⟨Au, cu, rfl⟩ := formOf hoR))
  have hb4w : Below w.heap.size w w4 := hb3.trans (hb4.mono hb3.size)
  have ho4 := own_below ho3 hb4
  have hs4 := hb4w.size
  have hRin : ∀ r ∈ R, r.1 + r.2 ≤ N := fun r hr => by
    have h1 := hR.each r hr
    by_cases hc : r.1 + r.2 ≤ N
    · exact hc
    · have h2 := (hR.all (r.1 + r.2 - 1) (by omega)).2 ⟨r, hr, by omega, by omega⟩
      rw [hz _ (by omega)] at h2
      cases h2
  have e0 : ∀ L : List UInt8, bs (p0 ++ M ++ L) = bs p0 ++ bs M ++ bs L := fun L => by rw [bs_app, bs_app]
  obtain ⟨k0, hk0⟩ : ∃ k0 : List UInt8, p0 ++ M = k0 := ⟨_, rfl⟩
  have hk0l : k0.length ≤ 200 := by rw [← hk0, List.length_append]; omega
  have hk0b : bs p0 ++ bs M = bs k0 := by rw [← hk0, bs_app]
  have hk0n : p0.length + M.length = k0.length := by rw [← hk0, List.length_append]
  rw [hk0b, hk0n] at ho4
  obtain ⟨A3, c3, rfl⟩ := formOf ho4
  have hRl2 : (R.length : Int) ≤ 8000 := by omega
  go_loopw [3, 22] (fun u i wr => ∃ (j : Nat) (L : List UInt8) (A5 : Option Addr) (c5 : Nat), j ≤ R.length ∧ i = .int .i64 j ∧ u = .slice A5 L.length c5 ∧ Hid (L = k0 ++ (R.take j).flatMap fun r => piece D r.1 r.2) ∧ L.length ≤ 200 + 8192 * j ∧ wr.ownsRow w.heap.size 5 1 (.slice A5 L.length c5) L.length (bs L) ∧ Below w.heap.size w wr ∧ wr.ownsRow w3.heap.size 101 2 (.slice Au R.length cu) R.length (pflat R)) (fun _ i _ => R.length - (intOf i).toNat)
  case atStart => exact ⟨0, k0, A3, c3, by omega, rfl, rfl, Lib.hid (by simp), by omega, hk0n ▸ ho4, hb4w, hoR⟩
  case round =>
    obtain ⟨j, L, A5, c5, hj, rfl, rfl, HL, hLl, hoL, hbr, hoR5⟩ := hrel
    by_cases hjl : j < R.length
    · have hin := hRin R[j] (List.getElem_mem hjl)
      obtain ⟨hy1, hy2⟩ := pflat_at R j hjl
      rcases hoR5.2 with ⟨_, hh⟩ | ⟨gR, capR, curR, hgR, hBR, hgh, hg1, hg2, hg3, hg4⟩
      · omega
      simp only [Value.slice.injEq] at hgR
      obtain ⟨rfl, -, rfl⟩ := hgR
      have hcR : ∀ k u, (pflat R)[k]? = some u → wr.cell? ⟨gR, k, none⟩ = some u := by
        intro k u hu
        have hkl := (List.getElem?_eq_some_iff.1 hu).1
        rw [hoR5.1] at hkl
        rw [cell_of_row wr gR k curR _ _ hgh, ← hu, ← hg4, List.getElem?_take, if_pos hkl, Array.getElem?_toList]
      have x1 := hcR _ _ hy1
      have x2 := hcR _ _ hy2
      have hjx : (j : Int) < (R.length : Int) := by omega
      have hHL := HL.out
      have hnext : Hid (L ++ piece D (R[j]).1 (R[j]).2 = k0 ++ (R.take (j + 1)).flatMap fun r => piece D r.1 r.2) := Lib.hid (by rw [hHL, ← List.take_append_getElem hjl, List.flatMap_append, List.append_assoc]; simp)
      have hby := fun W (hW : Below w.heap.size w W) => bytes_any (R[j]).1 (R[j]).2 (hn.below hW) hin
      have hps2 := fun W (hW : Below w.heap.size w W) off c h1 h2 h3 => (hn.below hW).piece_sl (off := off) (c := c) hin h1 h2 h3
      have hpl : (piece D (R[j]).1 (R[j]).2).length = (R[j]).2 * 8 := piece_len (by have := hn.lenD; omega)
      have hdl : 8 * N ≤ 8192 := by omega
      have hp8 : (R[j]).2 * 8 ≤ 8192 := by omega
      have hkeepR : ∀ w7, (wr.alloc (.cells #[.int .i64 ((R[j]).1 : Nat), .int .i64 ((R[j]).2 : Nat)] 101)).grownBy w7 (Value.slice A5 L.length c5).ownBlock → w7.ownsRow w3.heap.size 101 2 (.slice (some ⟨gR, 0, none⟩) R.length cu) R.length (pflat R) := by
        intro w7 hg7
        have hgl := (Array.getElem?_eq_some_iff.1 hgh).1
        have hga : (wr.alloc (.cells #[.int .i64 ((R[j]).1 : Nat), .int .i64 ((R[j]).2 : Nat)] 101)).heap[gR]? = some (.cells curR 101 (0, 0)) := (Below.heap_alloc wr _ gR hgl).trans hgh
        have hne : some gR ≠ (Value.slice A5 L.length c5).ownBlock := by
          intro e
          have hoL6 := own_below hoL ((Below.refl _ wr).alloc (Nat.le_refl _) (.cells #[.int .i64 ((R[j]).1 : Nat), .int .i64 ((R[j]).2 : Nat)] 101))
          rcases hoL6.2 with ⟨hv, _⟩ | ⟨g', cap', cur', hv, _, hg', _⟩
          · rw [hv] at e; cases e
          · rw [hv] at e
            obtain rfl : gR = g' := Option.some.inj e
            rw [hga] at hg'
            injection hg' with hg'
            injection hg' with _ h2 _
            exact absurd h2 (by decide)
        exact ⟨hoR5.1, .inr ⟨gR, cu, curR, rfl, hBR, (hg7.block gR (by simp; omega) hne).trans hga, hg1, hg2, hg3, hg4⟩⟩
      clear hHL hcR hy1 hy2 hg4 hruns hRin hput hbl HL
      have hm5 := (Mem.new wr 101 #[.int .i64 ((R[j]).1 : Nat), .int .i64 ((R[j]).2 : Nat)])
      have hb5 : Below wr.heap.size wr (wr.alloc (.cells #[.int .i64 ((R[j]).1 : Nat), .int .i64 ((R[j]).2 : Nat)] 101)) := (Below.refl _ wr).alloc (Nat.le_refl _) _
      have z0 := hm5.cell 0
      have z1 := hm5.cell 1
      have hbw5 := hbr.trans (hb5.mono hbr.size)
      have hcall := hby _ hbw5
      have hslp := hps2 _ hbw5
      have hoL5 := own_below hoL hb5
      have hs5 : w.heap.size ≤ wr.heap.size := hbr.size
      clear hby hps2 hin
      generalize piece D (R[j]).1 (R[j]).2 = pc at *
      generalize (R[j]).1 = ra at *
      generalize (R[j]).2 = rb at *
      go_wp2_with (first
        | (go_at_call 49; (with_reducible refine hcall.mono ?_); rintro e w6 ⟨off, c, rfl, h5, h6, h7, h8', rfl⟩; have hsl := hslp off c h5 h6 h7)
        | (at_builtin; (refine wpList_append_sl _ rfl (.tmp 26) (.tmp 32) _ rfl w.heap.size 5 i0 _ Try.underlying22 hi0 hz0 hz1 (by omega) rfl (.slice A5 L.length c5) L.length (bs L) rfl hoL5 _ (.slice (some ⟨g, off, none⟩) (rb * 8) c) (rb * 8) (bs pc) rfl hsl bs_one (by omega) hbw5.size ?_); intro v7 w7 ho7 hg7 hat7; have hb7 := below_own hbw5 hg7 hbw5.size (own_from hoL5)))
      have hlen : (L ++ pc).length = L.length + rb * 8 := by rw [List.length_append, hpl]
      rw [← bs_app] at ho7
      obtain ⟨A7, c7, rfl⟩ := formOf ho7
      refine ⟨⟨j + 1, L ++ pc, A7, c7, by omega, by go_num, by rw [hlen], hnext, by omega, by rw [hlen]; exact ho7, hb7, ?_⟩, by simp [intOf]; omega⟩
      exact hkeepR w7 hg7
    · obtain rfl : j = R.length := by omega
      have hHL := HL.out
      go_wp2
      go_ret
      have hfin : L = encS N D M R := by rw [hHL, ← hk0, List.take_length]; unfold encS; rw [HP.out]
      exact ⟨_, R, t, rfl, hR, ht, hfin ▸ Sl.of_own hoL, hbr⟩
end
end Go.Proofs.Ytpkebbibafldkaa
