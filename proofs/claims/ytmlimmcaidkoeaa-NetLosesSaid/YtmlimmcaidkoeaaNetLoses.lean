/- NetLoses: for all acts the statement's function tells true and turns nothing that was there. No condition. -/
import Derived.Test.YtmlimmcaidkoeaaAct
import Derived.BigQuiet
import Derived.LoopTactic
namespace Go.Proofs.Ytmlimmcaidkoeaa
open Go.ChangeShapes Go.WideShapes Go.ChangeAt Go.RowKit Go.Lib
set_option linter.unusedVariables false
def acells (a : Act9) : List Value := [.int .i64 a.op, .int .i64 a.fr, .int .i64 a.to, .int .i64 a.n, a.d]
def aflat (L : List Act9) : List Value := L.flatMap acells
theorem aflat_snoc (L : List Act9) (a : Act9) : aflat (L ++ [a]) = aflat L ++ acells a := by simp [aflat]
theorem aflat_at (L : List Act9) (i : Nat) (h : i < L.length) (j : Nat) (hj : j < 5) : (aflat L)[5 * i + j]? = (acells L[i])[j]? := by
  induction L generalizing i with
  | nil => simp at h
  | cons p L ih =>
    have e : aflat (p :: L) = acells p ++ aflat L := rfl
    rw [e]
    cases i with
    | zero => rw [List.getElem?_append_left (by simp [acells]; omega)]; simp
    | succ i =>
      rw [List.getElem?_append_right (by simp [acells]; omega)]
      have := ih i (by simpa using h)
      simp only [List.getElem_cons_succ]
      rw [← this]
      congr 1
      simp [acells]; omega
theorem arow_at {w : World} {B c : Nat} {A : Option Addr} {L : List Act9} (ho : w.ownsRow B 35 5 (.slice A L.length c) L.length (aflat L)) {i : Nat} (hi : i < L.length) :
    ∃ g, A = some ⟨g, 0, none⟩ ∧ w.cell? ⟨g, i * 5 + 1, none⟩ = some (.int .i64 L[i].fr) ∧ w.cell? ⟨g, i * 5 + 2, none⟩ = some (.int .i64 L[i].to) ∧ w.cell? ⟨g, i * 5 + 4, none⟩ = some L[i].d := by
  rcases ho.2 with ⟨hv, h0⟩ | ⟨g, cap, cur, hv, hBg, hg, hnc, hcm, hcs, htk⟩
  · omega
  simp only [Value.slice.injEq] at hv
  obtain ⟨rfl, _, rfl⟩ := hv
  have hcur : ∀ k, k < 5 → w.cell? ⟨g, 5 * i + k, none⟩ = (acells L[i])[k]? := by
    intro k hk
    rw [cell_of_row w g _ cur _ _ hg, ← aflat_at L i hi k hk, ← htk, List.getElem?_take, if_pos (by omega), Array.getElem?_toList]
  refine ⟨g, rfl, ?_, ?_, ?_⟩
  · rw [show i * 5 + 1 = 5 * i + 1 by omega, hcur 1 (by omega)]; rfl
  · rw [show i * 5 + 2 = 5 * i + 2 by omega, hcur 2 (by omega)]; rfl
  · rw [show i * 5 + 4 = 5 * i + 4 by omega, hcur 4 (by omega)]; rfl
theorem own_frameA {w W w' : World} {B e sz n : Nat} {v : Value} {xs : List Value} (h : W.ownsRow B e sz v n xs) (hf : Frame w W w') (h1 : e ≠ 58) (h2 : e ≠ 41) : w'.ownsRow B e sz v n xs := by
  refine ⟨h.1, ?_⟩
  rcases h.2 with hn | ⟨g, cap, cur, rfl, hg, hgg, rest⟩
  · exact .inl hn
  · exact .inr ⟨g, cap, cur, rfl, hg, (hf g (Array.getElem?_eq_some_iff.1 hgg).1 (.inr ⟨_, ⟨_, _, hgg⟩, h1, h2⟩)).trans hgg, rest⟩
def One (a : Act9) (p : Pk) : Prop := a.fr = p.fr ∧ a.to = p.to ∧ a.l = p.l
def Was (S : List Act9) (L : List Pk) : Prop := ∀ p ∈ L, ∃ a ∈ S, One a p
theorem Was.erase {S : List Act9} {L : List Pk} (h : Was S L) (i : Nat) : Was S (L.eraseIdx i) := fun p hp => h p (List.mem_of_mem_eraseIdx hp)
theorem act_info : (Try.prog.info? 35).map (fun i => (i.zero, i.size, i.bytes)) = some (some (.agg #[.int .i64 0, .int .i64 0, .int .i64 0, .int .i64 0, .slice none 0 0]), 5, 56) := by kernel_rfl
theorem cells_new5 (w : World) (t : TypeId) (a b c d e : Value) : ∀ j u, [a, b, c, d, e][j]? = some u → (w.alloc (.cells #[a, b, c, d, e] t)).cell? ((⟨w.heap.size, 0, none⟩ : Addr).add j) = some u := by
  intro j u hu
  have hb : (w.alloc (.cells #[a, b, c, d, e] t)).heap[w.heap.size]? = some (.cells #[a, b, c, d, e] t (0, 0)) := heap_alloc_new w _
  rw [add_plain, Nat.zero_add, cell_of_row _ _ j _ t (0, 0) hb, ← List.getElem?_toArray] at *
  exact hu
theorem NetGo.grownT {o w w' : World} {X h s : Nat} {L : List Pk} (hg : NetGo o w X h L s) {row : Option Nat} (he : w.grownBy w' row) {t : Nat} (ht1 : t ≠ 58) (ht2 : t ≠ 41) (ht3 : t ≠ 5) (hr : ∀ k, row = some k → Tag w k t ∧ o.heap.size ≤ k) : NetGo o w' X h L s := by
  obtain ⟨v, hn, hb⟩ := hg
  have hE := eff_grown he
  refine ⟨v, hn.eff hE (fun e => (hr X e).1.ne (mem_tag hn.mem) ht1 rfl) (fun k hk e => (hr k e).1.ne (own_tag hn.row k hk).2.2 ht2 rfl) (fun k _ e => (hr k e).1.not ht3), hE.below hb hb.size fun k _ e => (hr k e).2⟩
theorem NetStep.free {o w W w' : World} {X h s h2 s2 : Nat} {v : Value} {L L2 : List Pk} (hs : NetStep W w' o.heap.size X v h2 L2 s2) (hn : NetInv w o.heap.size X v h L s) (hb : Below o.heap.size o w) (hW : Below w.heap.size w W) {k : Nat} (h1 : w.heap.size ≤ k) (h2' : k < W.heap.size) (ht : Tag W k 41) (cs : Array Value) : NetGo o (w'.setRow k cs) X h2 L2 s2 := by
  obtain ⟨v', g1, g2, g3⟩ := hs
  have hnW := hn.below hW
  have hk : ¬ NS X v k := fun e => by have := (hn.ns k e).1; omega
  have htk : Tag w' k 41 := by
    obtain ⟨cs, fr, h⟩ := ht
    exact ⟨cs, fr, (g2.block k h2' hk).trans h⟩
  have hE : Eff (fun j => j = k) w' (w'.setRow k cs) := Eff.setRow (S := fun j => j = k) (Eff.refl _ _) rfl _
  have hbW := hb.trans (hW.mono hb.size)
  refine ⟨v', g1.eff hE (fun e => htk.ne (e ▸ mem_tag g1.mem) (by decide) rfl) (fun j hj e => ?_) (fun j _ e => e ▸ htk.not (by decide)), hE.below (g2.below hbW hbW.size fun k _ hk => (hnW.ns k hk).2.1) (Nat.le_trans hbW.size g2.size) fun j _ e => by have := hb.size; omega⟩
  rcases g3 j hj with h | h
  · have := (own_tag hn.row j h).2.1
    omega
  · omega
section
variable {o : World} {X h s : Nat} {L : List Pk} {w W : World}
theorem del_f (hg : NetGo o w X h L s) (hW : Below w.heap.size w W) {i : Nat} (hi : i < L.length) :
    Calls Try.prog 24 #[.pointer (some ⟨X, 0, none⟩), .int .i64 (i : Nat)] W fun e w' => e = .returned (.tuple #[L[i].val, .bool true]) ∧ (∀ k cs, w.heap.size ≤ k → k < W.heap.size → Tag W k 41 → NetGo o (w'.setRow k cs) X h (L.eraseIdx i) s) ∧ DOk w' o.heap.size L[i] ∧ Frame w W w' := by
  obtain ⟨v, hn, hb⟩ := hg
  have hbW := hb.trans (hW.mono hb.size)
  refine (deliver_ok o.heap.size X h s v L i hi W (hn.below hW) hbW.size).mono ?_
  rintro e w' ⟨v', rfl, h1, h2, h3⟩
  have hs : NetStep W w' o.heap.size X v h (L.eraseIdx i) s := ⟨v', h1, h2, fun k hk => .inl (h3 ▸ hk)⟩
  exact ⟨rfl, fun k cs a b c => NetStep.free hs hn hb hW a b c cs, step_data (hn.below hW) hs (List.getElem_mem hi), hn.frame hW h2⟩
theorem take_f (hg : NetGo o w X h L s) (hW : Below w.heap.size w W) {to : Int} {k : Nat} (hk : k < L.length) (hk1 : L[k].to = to) (hk2 : ∀ j (hj : j < L.length), j < k → L[j].to ≠ to) :
    Calls Try.prog 22 #[.pointer (some ⟨X, 0, none⟩), .int .i64 to] W fun e w' => e = .returned (.tuple #[L[k].val, .bool true]) ∧ (∀ j cs, w.heap.size ≤ j → j < W.heap.size → Tag W j 41 → NetGo o (w'.setRow j cs) X h (L.eraseIdx k) s) ∧ DOk w' o.heap.size L[k] ∧ Frame w W w' := by
  obtain ⟨v, hn, hb⟩ := hg
  have hbW := hb.trans (hW.mono hb.size)
  refine (take_ok o.heap.size X h s v L to k hk hk1 hk2 W hbW.size (hn.below hW)).mono ?_
  rintro e w' ⟨rfl, hs⟩
  exact ⟨rfl, fun k cs a b c => NetStep.free hs hn hb hW a b c cs, step_data (hn.below hW) hs (List.getElem_mem hk), hs.frame hn hW⟩
end
theorem first_to (t : Int) : ∀ (L : List Pk), (∃ k, ∃ hk : k < L.length, L[k].to = t ∧ ∀ j (hj : j < L.length), j < k → L[j].to ≠ t) ∨ ∀ j (hj : j < L.length), L[j].to ≠ t
  | [] => .inr fun j hj => by simp at hj
  | p :: L => by
    by_cases hp : p.to = t
    · exact .inl ⟨0, by simp, hp, fun j _ h => by omega⟩
    · rcases first_to t L with ⟨k, hk, h1, h2⟩ | h
      · refine .inl ⟨k + 1, by simp; omega, h1, fun j hj hjk => ?_⟩
        cases j with
        | zero => exact hp
        | succ j => exact h2 j (by simpa using hj) (by omega)
      · refine .inr fun j hj => ?_
        cases j with
        | zero => exact hp
        | succ j => exact h j (by simpa using hj)
namespace Loses
set_option maxRecDepth 100000 in
set_option maxHeartbeats 4000000 in
theorem walk (v : Value) (acs : List Act9) (w : World) (hv : Acts w w.heap.size v acs) :
    Calls Try.prog 8 #[v] w fun e w' => e = .returned (.bool true) ∧ Below w.heap.size w w' := by
  obtain ⟨i0, hi, hz0, hz1, hz2⟩ := info_parts act_info
  obtain ⟨A0, c0, rfl, hc1, hc2⟩ := hv.form
  have hfew : ∀ W, Below w.heap.size w W → Calls Try.prog 10 #[.slice A0 acs.length c0] W fun e w' => e = .returned (.bool (fewB acs)) ∧ W = w' := fun W hW => few_any _ acs W ⟨A0, c0, rfl, hc1, hc2, fun a ha => ⟨(hv.ok a ha).op, (hv.ok a ha).fr, (hv.ok a ha).to, (hv.ok a ha).n, (hv.ok a ha).sl.now hW⟩, fun hne => by
    obtain ⟨A', c', e, _, _, _, h4⟩ := hv.below hW
    injection e with e1 e2 e3
    subst e1
    obtain ⟨b, off, e5, hlt, hc⟩ := h4 hne
    exact ⟨b, off, e5, Nat.lt_of_lt_of_le hlt hW.size, hc⟩⟩
  cases hfw : fewB acs with
  | false =>
    rw [hfw] at hfew
    go_enter Try.func8, Try.ntmps8
    go_wp2_with (first
      | (go_at_call 9; refine (known_any _).mono ?_; rintro e w1 ⟨rfl, hb1⟩)
      | (go_at_call 10; with_reducible refine (hfew _ hb1).mono ?_; rintro e w2 ⟨rfl, rfl⟩))
    go_ret
    exact ⟨rfl, hb1⟩
  | true =>
    rw [hfw] at hfew
    have hlen : acs.length ≤ 150 := by
      unfold fewB at hfw
      rw [Bool.and_eq_true] at hfw
      exact of_decide_eq_true hfw.1
    have hlenx : (acs.length : Int) ≤ 150 := by omega
    clear hfw
    have hnew : ∀ W, Below w.heap.size w W → Calls Try.prog 11 #[.int .i64 4] W fun e w' => e = .returned (.tuple #[.pointer (some ⟨W.heap.size, 0, none⟩), .int .i64 0]) ∧ NetGo w w' W.heap.size 4 [] 0 := fun W hW => new_go w 4 (by omega) (by omega) W hW
    go_enter Try.func8, Try.ntmps8
    go_wp2_with (first
      | (go_at_call 9; refine (known_any _).mono ?_; rintro e w1 ⟨rfl, hb1⟩)
      | (go_at_call 10; with_reducible refine (hfew _ hb1).mono ?_; rintro e w2 ⟨rfl, rfl⟩)
      | (go_at_call 11; with_reducible refine (hnew _ hb1).mono ?_; rintro e w2 ⟨rfl, hg2⟩))
    clear hnew hfew
    generalize w1.heap.size = X at *
    go_loopw [5, 6] (fun sv i wr => ∃ (L : List Pk) (S : List Act9) (k : Nat), k ≤ acs.length ∧ i = .int .i64 k ∧ Hid (S.length ≤ k ∧ Was S L ∧ ∀ a ∈ S, a ∈ acs) ∧ wr.ownsRow w.heap.size 35 5 sv S.length (aflat S) ∧ NetGo w wr X 4 L S.length) (fun _ i _ => acs.length - (intOf i).toNat)
    case atStart => exact ⟨[], [], 0, by omega, rfl, Lib.hid ⟨by simp, fun p hp => by simp at hp, fun a ha => by simp at ha⟩, World.ownsRow_nil _ _ _ _, hg2⟩
    case round =>
      clear hg2 hb1
      obtain ⟨L, S, k, hk, rfl, HL, hw, hg⟩ := hrel
      obtain ⟨A1, c1, rfl, hc3, hc4⟩ := own_form hw
      by_cases hlt : k < acs.length
      · have hltx : (k : Int) < (acs.length : Int) := by omega
        obtain ⟨b0, f0, rfl, hb0, x0, x1, x2, x3, x4⟩ := hv.at_ hlt
        have hok := hv.ok _ (List.getElem_mem hlt)
        have hmem : acs[k] ∈ acs := List.getElem_mem hlt
        generalize acs[k] = a at *
        obtain ⟨op, fr, to, n, d, l⟩ := a
        obtain ⟨k0, k1, k2, k3, hsl⟩ := hok
        simp only at x0 x1 x2 x3 x4 k0 k1 k2 k3 hsl
        obtain ⟨Ad, cd, rfl, hcd1, hcd2⟩ := hsl.form
        have hbl := hg.bl
        have y0 := (hbl.cell (p := ⟨b0, f0 + k * 5, none⟩) hb0).trans x0
        have y1 := (hbl.cell (p := ⟨b0, f0 + k * 5 + 1, none⟩) hb0).trans x1
        have y2 := (hbl.cell (p := ⟨b0, f0 + k * 5 + 2, none⟩) hb0).trans x2
        have y3 := (hbl.cell (p := ⟨b0, f0 + k * 5 + 3, none⟩) hb0).trans x3
        have y4 := (hbl.cell (p := ⟨b0, f0 + k * 5 + 4, none⟩) hb0).trans x4
        clear x0 x1 x2 x3 x4
        have hM0 := Mem.new wr 35 #[.int .i64 0, .int .i64 0, .int .i64 0, .int .i64 0, .slice none 0 0]
        have hM := hM0.row #[.int .i64 op, .int .i64 fr, .int .i64 to, .int .i64 n, .slice Ad l.length cd]
        have hbW : Below wr.heap.size wr ((wr.alloc (.cells #[.int .i64 0, .int .i64 0, .int .i64 0, .int .i64 0, .slice none 0 0] 35)).setRow wr.heap.size #[.int .i64 op, .int .i64 fr, .int .i64 to, .int .i64 n, .slice Ad l.length cd]) := below_setRow ((Below.refl _ _).alloc (Nat.le_refl _) _) (Nat.le_refl _) _
        generalize hWW : ((wr.alloc (.cells #[.int .i64 0, .int .i64 0, .int .i64 0, .int .i64 0, .slice none 0 0] 35)).setRow wr.heap.size #[.int .i64 op, .int .i64 fr, .int .i64 to, .int .i64 n, .slice Ad l.length cd]) = W0 at *
        have z0 := hM.cell 0
        have z1 := hM.cell 1
        have z2 := hM.cell 2
        have z3 := hM.cell 3
        have z4 := hM.cell 4
        by_cases hop1 : op = 1
        · subst hop1
          by_cases hgood : sendC 4 L.length fr to l.length = 0
          · have hcond : 0 ≤ fr ∧ fr < 4 ∧ 0 ≤ to ∧ to < 4 ∧ l.length ≤ 8192 ∧ L.length < 4096 := by
              unfold sendC at hgood
              by_cases q1 : ¬ (0 ≤ fr ∧ fr < ((4 : Nat) : Int) ∧ 0 ≤ to ∧ to < ((4 : Nat) : Int))
              · rw [if_pos q1] at hgood; omega
              · rw [if_neg q1] at hgood
                by_cases q2 : 8192 < l.length
                · rw [if_pos q2] at hgood; omega
                · rw [if_neg q2] at hgood
                  by_cases q3 : 4096 ≤ L.length
                  · rw [if_pos q3] at hgood; omega
                  · omega
            clear hgood
            obtain ⟨q1, q2, q3, q4, q5, q6⟩ := hcond
            have hs := send_go hg hbW q1 q2 q3 q4 q5 q6 (by have := HL.out.1; omega) (hsl.now (hbl.trans (hbW.mono hbl.size)))
            have hone : ∀ u ∈ ([.int .i64 1, .int .i64 fr, .int .i64 to, .int .i64 n, .slice Ad l.length cd] : List Value), u.oneCell' = true := by
              intro u hu
              simp at hu
              rcases hu with rfl | rfl | rfl | rfl | rfl <;> rfl
            have hSk := HL.out.1
            have b1 : S.length + 1 ≤ maxLen := by unfold maxLen; omega
            have b2 : (S.length + 1) * 56 ≤ 140737488355328 := by omega
            have hwW := owns_below hw hbW
            have hal : ∀ W', Below w.heap.size w W' → ∀ o, w.heap.size ≤ (W'.alloc o).heap.size := fun W' h o => (h.alloc h.size o).size
            clear hSk
            have hFr : ∀ w4, Frame wr W0 w4 → w4.ownsRow w.heap.size 35 5 (.slice A1 S.length c1) S.length (aflat S) := fun w4 h => own_frameA hwW h (by decide) (by decide)
            go_wp2_with (first
              | (refine wpList_store_row rfl 35 (.tmp 7) (.tmp 30) rfl wr.heap.size #[.int .i64 1, .int .i64 fr, .int .i64 to, .int .i64 n, .slice Ad l.length cd] rfl rfl 35 #[.int .i64 0, .int .i64 0, .int .i64 0, .int .i64 0, .slice none 0 0] hM0 (by kernel_rfl) (by kernel_rfl) (by kernel_rfl) ?_; rw [hWW])
              | (refine wpList_load_row rfl 35 (.tmp 7) rfl wr.heap.size rfl 35 #[.int .i64 1, .int .i64 fr, .int .i64 to, .int .i64 n, .slice Ad l.length cd] (0, 0) _ hm4 Try.underlying35 rfl (by kernel_rfl) ?_)
              | (go_at_call 20; (with_reducible refine hs.mono ?_); rintro e w4 ⟨d', rfl, hg4, hf4, hd4⟩; have hbl4 := hg4.bl; have hw4 := hFr _ hf4; have hm4 := (hf4 wr.heap.size hM.lt (.inl (Nat.le_refl _))).trans hM)
              | (at_builtin; with_reducible refine wpList_append_at _ rfl (.tmp 44) (.tmp 46) _ rfl w.heap.size 35 i0 _ 5 56 Try.underlying22 hi hz0 hz1 hz2 rfl (by decide) (.slice A1 S.length c1) S.length (aflat S) rfl (hw4.alloc _) ⟨w4.heap.size, 0, none⟩ 1 1 [.int .i64 1, .int .i64 fr, .int .i64 to, .int .i64 n, .slice Ad l.length cd] rfl rfl (cells_new5 _ _ _ _ _ _ _) hone b1 b2 (hal _ hbl4 _) ?_; intro v6 w6 ho6 hg6 hat6))
            have hg7 : NetGo w w6 X 4 (L ++ [⟨fr, to, d', l⟩]) (S.length + 1) := (hg4.below ((Below.refl _ _).alloc (Nat.le_refl _) _)).grownT hg6 (t := 35) (by decide) (by decide) (by decide) fun b hb => ⟨(own_tag (hw4.alloc _) b hb).2.2, (own_tag hw4 b hb).1⟩
            obtain ⟨e1, e2, e3⟩ := HL.out
            refine ⟨⟨L ++ [⟨fr, to, d', l⟩], S ++ [⟨1, fr, to, n, .slice Ad l.length cd, l⟩], k + 1, by omega, by go_num, Lib.hid ⟨by simp; omega, ?_, ?_⟩, ?_, ?_⟩, by simp [intOf]; omega⟩
            · intro p hp
              rw [List.mem_append, List.mem_singleton] at hp
              rcases hp with hp | rfl
              · obtain ⟨a, ha, h1⟩ := e2 p hp
                exact ⟨a, by simp [ha], h1⟩
              · exact ⟨⟨1, fr, to, n, .slice Ad l.length cd, l⟩, by simp, rfl, rfl, rfl⟩
            · intro a ha
              rw [List.mem_append, List.mem_singleton] at ha
              rcases ha with ha | rfl
              · exact e3 a ha
              · exact hmem
            · rw [aflat_snoc, List.length_append]
              exact ho6
            · rw [List.length_append]
              exact hg7
          · have hs := sendno_go (hg.below hbW) hgood (hsl.now (hbl.trans (hbW.mono hbl.size)))
            have hne : (sendC 4 L.length fr to l.length == 0) = false := by rw [beq_eq_false_iff_ne]; exact hgood
            generalize sendC 4 L.length fr to l.length = code at *
            go_wp2_with (first
              | (refine wpList_store_row rfl 35 (.tmp 7) (.tmp 30) rfl wr.heap.size #[.int .i64 1, .int .i64 fr, .int .i64 to, .int .i64 n, .slice Ad l.length cd] rfl rfl 35 #[.int .i64 0, .int .i64 0, .int .i64 0, .int .i64 0, .slice none 0 0] hM0 (by kernel_rfl) (by kernel_rfl) (by kernel_rfl) ?_; rw [hWW])
              | (go_at_call 20; (with_reducible refine hs.mono ?_); rintro e w4 ⟨rfl, rfl⟩))
            obtain ⟨e1, e2, e3⟩ := HL.out
            exact ⟨⟨L, S, k + 1, by omega, by go_num, Lib.hid ⟨by omega, e2, e3⟩, owns_below hw hbW, hg.below hbW⟩, by simp [intOf]; omega⟩
        · have hn1 : (op == 1) = false := by rw [beq_eq_false_iff_ne]; exact hop1
          by_cases hop3 : op = 3
          · subst hop3
            by_cases hin : 0 ≤ n ∧ n < L.length
            · obtain ⟨m, rfl⟩ : ∃ m : Nat, n = m := ⟨n.toNat, by omega⟩
              have hs := drop_go hg hbW (i := m) (by omega)
              have hwW := owns_below hw hbW
              go_wp2_with (first
                | (refine wpList_store_row rfl 35 (.tmp 7) (.tmp 30) rfl wr.heap.size #[.int .i64 3, .int .i64 fr, .int .i64 to, .int .i64 (m : Int), .slice Ad l.length cd] rfl rfl 35 #[.int .i64 0, .int .i64 0, .int .i64 0, .int .i64 0, .slice none 0 0] hM0 (by kernel_rfl) (by kernel_rfl) (by kernel_rfl) ?_; rw [hWW])
                | (go_at_call 23; (with_reducible refine hs.mono ?_); rintro e w4 ⟨rfl, hg4, hf4⟩))
              obtain ⟨e1, e2, e3⟩ := HL.out
              exact ⟨⟨_, S, k + 1, by omega, by go_num, Lib.hid ⟨by omega, e2.erase m, e3⟩, own_frameA hwW hf4 (by decide) (by decide), hg4⟩, by simp [intOf]; omega⟩
            · have hs := dropno_go (hg.below hbW) hin
              go_wp2_with (first
                | (refine wpList_store_row rfl 35 (.tmp 7) (.tmp 30) rfl wr.heap.size #[.int .i64 3, .int .i64 fr, .int .i64 to, .int .i64 n, .slice Ad l.length cd] rfl rfl 35 #[.int .i64 0, .int .i64 0, .int .i64 0, .int .i64 0, .slice none 0 0] hM0 (by kernel_rfl) (by kernel_rfl) (by kernel_rfl) ?_; rw [hWW])
                | (go_at_call 23; (with_reducible refine hs.mono ?_); rintro e w4 ⟨rfl, hb4⟩))
              obtain ⟨e1, e2, e3⟩ := HL.out
              have hb5 := hbW.trans (hb4.mono hbW.size)
              exact ⟨⟨L, S, k + 1, by omega, by go_num, Lib.hid ⟨by omega, e2, e3⟩, owns_below hw hb5, hg.below hb5⟩, by simp [intOf]; omega⟩
          · have hn3 : (op == 3) = false := by rw [beq_eq_false_iff_ne]; exact hop3
            by_cases hop4 : op = 4
            · subst hop4
              by_cases hin : 0 ≤ n ∧ n < L.length ∧ L.length < 4096
              · obtain ⟨m, rfl⟩ : ∃ m : Nat, n = m := ⟨n.toNat, by omega⟩
                have hm : m < L.length := by omega
                have hs := copy_go hg hbW (i := m) hm hin.2.2
                have hwW := owns_below hw hbW
                go_wp2_with (first
                  | (refine wpList_store_row rfl 35 (.tmp 7) (.tmp 30) rfl wr.heap.size #[.int .i64 4, .int .i64 fr, .int .i64 to, .int .i64 (m : Int), .slice Ad l.length cd] rfl rfl 35 #[.int .i64 0, .int .i64 0, .int .i64 0, .int .i64 0, .slice none 0 0] hM0 (by kernel_rfl) (by kernel_rfl) (by kernel_rfl) ?_; rw [hWW])
                  | (go_at_call 21; (with_reducible refine hs.mono ?_); rintro e w4 ⟨d', rfl, hg4, hf4⟩))
                obtain ⟨e1, e2, e3⟩ := HL.out
                refine ⟨⟨_, S, k + 1, by omega, by go_num, Lib.hid ⟨by omega, ?_, e3⟩, own_frameA hwW hf4 (by decide) (by decide), hg4⟩, by simp [intOf]; omega⟩
                intro p hp
                rw [List.mem_append, List.mem_singleton] at hp
                rcases hp with hp | rfl
                · exact e2 p hp
                · obtain ⟨a, ha, h1⟩ := e2 L[m] (List.getElem_mem hm)
                  exact ⟨a, ha, h1⟩
              · have hs := copyno_go (hg.below hbW) hin
                go_wp2_with (first
                  | (refine wpList_store_row rfl 35 (.tmp 7) (.tmp 30) rfl wr.heap.size #[.int .i64 4, .int .i64 fr, .int .i64 to, .int .i64 n, .slice Ad l.length cd] rfl rfl 35 #[.int .i64 0, .int .i64 0, .int .i64 0, .int .i64 0, .slice none 0 0] hM0 (by kernel_rfl) (by kernel_rfl) (by kernel_rfl) ?_; rw [hWW])
                  | (go_at_call 21; (with_reducible refine hs.mono ?_); rintro e w4 ⟨rfl, rfl⟩))
                obtain ⟨e1, e2, e3⟩ := HL.out
                exact ⟨⟨L, S, k + 1, by omega, by go_num, Lib.hid ⟨by omega, e2, e3⟩, owns_below hw hbW, hg.below hbW⟩, by simp [intOf]; omega⟩
            · have hn4 : (op == 4) = false := by rw [beq_eq_false_iff_ne]; exact hop4
              by_cases hop2 : op = 2
              · subst hop2
                by_cases hin : 0 ≤ n ∧ n < L.length
                · obtain ⟨m, rfl⟩ : ∃ m : Nat, n = m := ⟨n.toNat, by omega⟩
                  have hm : m < L.length := by omega
                  clear hin
                  have hMP := Mem.new W0 41 #[.int .i64 0, .int .i64 0, .slice none 0 0]
                  have hbW1 : Below wr.heap.size wr (W0.alloc (.cells #[.int .i64 0, .int .i64 0, .slice none 0 0] 41)) := hbW.alloc hbW.size _
                  have za0 := fun o => Lib.cell?_alloc_some o z0
                  have za2 := fun o => Lib.cell?_alloc_some o z2
                  have za3 := fun o => Lib.cell?_alloc_some o z3
                  have hs := del_f hg hbW1 hm
                  have hpm : L[m] ∈ L := List.getElem_mem hm
                  generalize L[m] = P at *
                  obtain ⟨pf, pt, pd, pl⟩ := P
                  unfold Pk.val at hs
                  have hs2 : Calls Try.prog 24 #[.pointer (some ⟨X, 0, none⟩), .int .i64 (m : Nat)] (W0.alloc (.cells #[.int .i64 0, .int .i64 0, .slice none 0 0] 41)) fun e w4 => ∃ Ap cp, e = .returned (.tuple #[.agg #[.int .i64 pf, .int .i64 pt, .slice Ap pl.length cp], .bool true]) ∧ pd = .slice Ap pl.length cp ∧ DOk w4 w.heap.size ⟨pf, pt, .slice Ap pl.length cp, pl⟩ ∧ Mem w4 W0.heap.size 41 #[.int .i64 0, .int .i64 0, .slice none 0 0] ∧ (∀ k cs, wr.heap.size ≤ k → k < (W0.alloc (.cells #[.int .i64 0, .int .i64 0, .slice none 0 0] 41)).heap.size → Tag (W0.alloc (.cells #[.int .i64 0, .int .i64 0, .slice none 0 0] 41)) k 41 → NetGo w (w4.setRow k cs) X 4 (L.eraseIdx m) S.length) ∧ Frame wr (W0.alloc (.cells #[.int .i64 0, .int .i64 0, .slice none 0 0] 41)) w4 := by
                    refine hs.mono ?_
                    rintro e w4 ⟨rfl, g1, g2, g3⟩
                    obtain ⟨Ap, cp, hpv, _⟩ := own_form g2.1
                    simp only at hpv
                    subst hpv
                    exact ⟨Ap, cp, rfl, rfl, g2, (g3 W0.heap.size (by simp) (.inl hbW.size)).trans hMP, g1, g3⟩
                  clear hs
                  go_wp2_with (first
                    | (refine wpList_store_row rfl 35 (.tmp 7) (.tmp 30) rfl wr.heap.size #[.int .i64 2, .int .i64 fr, .int .i64 to, .int .i64 (m : Int), .slice Ad l.length cd] rfl rfl 35 #[.int .i64 0, .int .i64 0, .int .i64 0, .int .i64 0, .slice none 0 0] hM0 (by kernel_rfl) (by kernel_rfl) (by kernel_rfl) ?_; rw [hWW])
                    | (refine wpList_store_row rfl 41 (.tmp 8) (.tmp 66) rfl W0.heap.size #[.int .i64 pf, .int .i64 pt, .slice Ap pl.length cp] rfl rfl 41 #[.int .i64 0, .int .i64 0, .slice none 0 0] hm4 (by kernel_rfl) (by kernel_rfl) (by kernel_rfl) ?_)
                    | (go_at_call 24; (with_reducible refine hs2.mono ?_); rintro e w4 ⟨Ap, cp, rfl, hpv, hd4, hm4, hN4, hf4⟩))
                  subst hpv
                  have hwW := owns_below hw hbW1
                  have hE5 : Eff (fun j => j = W0.heap.size) w4 (w4.setRow W0.heap.size #[.int .i64 pf, .int .i64 pt, .slice Ap pl.length cp]) := Eff.setRow (S := fun j => j = W0.heap.size) (Eff.refl _ _) rfl _
                  have hw5 := owns_eff (own_frameA hwW hf4 (by decide) (by decide)) hE5 fun j hj e => (own_tag (own_frameA hwW hf4 (by decide) (by decide)) j hj).2.2.ne (e ▸ mem_tag hm4) (by decide) rfl
                  have hd5 := hd4.eff hE5 fun j _ e => e ▸ (mem_tag hm4).not (by decide)
                  have hg5 := hN4 W0.heap.size #[.int .i64 pf, .int .i64 pt, .slice Ap pl.length cp] hbW.size (by simp) (mem_tag hMP)
                  have hm5 := hm4.row #[.int .i64 pf, .int .i64 pt, .slice Ap pl.length cp]
                  generalize w4.setRow W0.heap.size #[.int .i64 pf, .int .i64 pt, .slice Ap pl.length cp] = W5 at *
                  clear hE5 hN4 hm4 hf4 hd4 hs2 hwW hM0 hM hWW hMP
                  go_loopw [10, 11] (fun wv i w3 => ∃ (q : Nat) (wb : Bool), q ≤ S.length ∧ wv = .bool wb ∧ i = .int .i64 q ∧ Hid (∀ j (h : j < S.length), j < q → One S[j] ⟨pf, pt, .slice Ap pl.length cp, pl⟩ → wb = true) ∧ Below W5.heap.size W5 w3) (fun _ i _ => S.length - (intOf i).toNat)
                  case atStart => exact ⟨0, false, by omega, rfl, rfl, Lib.hid fun j _ h => by omega, Below.refl _ _⟩
                  case round =>
                    obtain ⟨q, wb, hq, rfl, rfl, HQ, hb3⟩ := hrel
                    have hm3 := hm5.below hb3 hm5.lt
                    have p0 := hm3.cell 0
                    have p1 := hm3.cell 1
                    have p2 := hm3.cell 2
                    have hg3 := hg5.below hb3
                    have hw3 := owns_below hw5 hb3
                    by_cases hlq : q < S.length
                    · have hlqx : (q : Int) < (S.length : Int) := by omega
                      have hS150 : (S.length : Int) ≤ 150 := by have := HL.out.1; omega
                      obtain ⟨gs, hAs, s1, s2, s4⟩ := arow_at hw3 hlq
                      have hsa := (hv.ok _ (HL.out.2.2 S[q] (List.getElem_mem hlq))).sl.now hg3.bl
                      obtain ⟨sa, hsq⟩ : ∃ sa, S[q] = sa := ⟨_, rfl⟩
                      have HN : ∀ wb', (wb = true → wb' = true) → (One sa ⟨pf, pt, .slice Ap pl.length cp, pl⟩ → wb' = true) → ∀ j (h : j < S.length), j < q + 1 → One S[j] ⟨pf, pt, .slice Ap pl.length cp, pl⟩ → wb' = true := by
                        intro wb' h1 h2 j hj hjq ho
                        rcases Nat.lt_or_ge j q with h | h
                        · exact h1 (HQ.out j hj h ho)
                        · obtain rfl : j = q := by omega
                          exact h2 (hsq ▸ ho)
                      rw [hsq] at s1 s2 s4 hsa
                      clear hsq
                      obtain ⟨aop, af, at_, an, ad, al⟩ := sa
                      simp only at s1 s2 s4 hsa
                      obtain ⟨Aa, ca, rfl, _, _⟩ := hsa.form
                      have ks1 := fun n => bytes_str (P := Try.prog) (wr.drewN n) 33 9 5 Try.underlying33 Try.underlying5 Try.underlying9 _ _ al al.length (hsa.drewN n)
                      have ks2 := fun n => bytes_str (P := Try.prog) (wr.drewN n) 33 9 5 Try.underlying33 Try.underlying5 Try.underlying9 _ _ pl pl.length ((hd5.sl.now hb3).drewN n)
                      subst hAs
                      cases wb with
                      | true =>
                        go_wp2_with fail
                        go_quiet (fail)
                        go_wp2_with fail
                        exact ⟨⟨q + 1, true, by omega, rfl, by go_num, Lib.hid (HN true (fun _ => rfl) (fun _ => rfl)), below_drewN hb3 nq⟩, by simp [intOf]; omega⟩
                      | false =>
                        by_cases e1 : af = pf
                        · subst e1
                          by_cases e2 : at_ = pt
                          · subst e2
                            by_cases e3 : al = pl
                            · subst e3
                              go_wp2_with fail
                              go_quiet (fail)
                              go_wp2_with fail
                              exact ⟨⟨q + 1, true, by omega, rfl, by go_num, Lib.hid (HN true (fun h => rfl) (fun _ => rfl)), below_drewN hb3 nq⟩, by simp [intOf]; omega⟩
                            · have e3b : (al == pl) = false := by rw [beq_eq_false_iff_ne]; exact e3
                              go_wp2_with fail
                              go_quiet (fail)
                              go_wp2_with fail
                              exact ⟨⟨q + 1, false, by omega, rfl, by go_num, Lib.hid (HN false (fun h => h) (fun h => absurd h.2.2 e3)), below_drewN hb3 nq⟩, by simp [intOf]; omega⟩
                          · have e2b : (at_ == pt) = false := by rw [beq_eq_false_iff_ne]; exact e2
                            go_wp2_with fail
                            go_quiet (fail)
                            go_wp2_with fail
                            exact ⟨⟨q + 1, false, by omega, rfl, by go_num, Lib.hid (HN false (fun h => h) (fun h => absurd h.2.1 e2)), below_drewN hb3 nq⟩, by simp [intOf]; omega⟩
                        · have e1b : (af == pf) = false := by rw [beq_eq_false_iff_ne]; exact e1
                          go_wp2_with fail
                          go_quiet (fail)
                          go_wp2_with fail
                          exact ⟨⟨q + 1, false, by omega, rfl, by go_num, Lib.hid (HN false (fun h => h) (fun h => absurd h.1 e1)), below_drewN hb3 nq⟩, by simp [intOf]; omega⟩
                    · obtain rfl : q = S.length := by omega
                      obtain rfl : wb = true := by
                        obtain ⟨a, ha, h1⟩ := HL.out.2.1 _ hpm
                        obtain ⟨j, hj, rfl⟩ := List.getElem_of_mem ha
                        exact HQ.out j hj hj h1
                      go_wp2_with fail
                      obtain ⟨f1, f2, f3⟩ := HL.out
                      exact ⟨⟨_, S, k + 1, by omega, by go_num, Lib.hid ⟨by omega, f2.erase m, f3⟩, hw3, hg3⟩, by simp [intOf]; omega⟩
                · have hMP := Mem.new W0 41 #[.int .i64 0, .int .i64 0, .slice none 0 0]
                  have hbW1 : Below wr.heap.size wr (W0.alloc (.cells #[.int .i64 0, .int .i64 0, .slice none 0 0] 41)) := hbW.alloc hbW.size _
                  have za0 := fun o => Lib.cell?_alloc_some o z0
                  have za2 := fun o => Lib.cell?_alloc_some o z2
                  have za3 := fun o => Lib.cell?_alloc_some o z3
                  have hs := deliverno_go (hg.below hbW1) hin
                  unfold pk0 at hs
                  have hMB : ∀ w4, Below (W0.alloc (.cells #[.int .i64 0, .int .i64 0, .slice none 0 0] 41)).heap.size (W0.alloc (.cells #[.int .i64 0, .int .i64 0, .slice none 0 0] 41)) w4 → Mem w4 W0.heap.size 41 #[.int .i64 0, .int .i64 0, .slice none 0 0] := fun w4 h => hMP.below h (by simp)
                  go_wp2_with (first
                    | (refine wpList_store_row rfl 35 (.tmp 7) (.tmp 30) rfl wr.heap.size #[.int .i64 2, .int .i64 fr, .int .i64 to, .int .i64 n, .slice Ad l.length cd] rfl rfl 35 #[.int .i64 0, .int .i64 0, .int .i64 0, .int .i64 0, .slice none 0 0] hM0 (by kernel_rfl) (by kernel_rfl) (by kernel_rfl) ?_; rw [hWW])
                    | (refine wpList_store_row rfl 41 (.tmp 8) (.tmp 66) rfl W0.heap.size #[.int .i64 0, .int .i64 0, .slice none 0 0] rfl rfl 41 #[.int .i64 0, .int .i64 0, .slice none 0 0] hm4 (by kernel_rfl) (by kernel_rfl) (by kernel_rfl) ?_)
                    | (go_at_call 24; (with_reducible refine hs.mono ?_); rintro e w4 ⟨rfl, hb4⟩; have hm4 := hMB _ hb4))
                  obtain ⟨f1, f2, f3⟩ := HL.out
                  have hb5 : Below wr.heap.size wr (w4.setRow W0.heap.size #[.int .i64 0, .int .i64 0, .slice none 0 0]) := below_setRow (hbW1.trans (hb4.mono hbW1.size)) hbW.size _
                  exact ⟨⟨L, S, k + 1, by omega, by go_num, Lib.hid ⟨by omega, f2, f3⟩, owns_below hw hb5, hg.below hb5⟩, by simp [intOf]; omega⟩
              · have hn2 : (op == 2) = false := by rw [beq_eq_false_iff_ne]; exact hop2
                by_cases hop5 : op = 5
                · subst hop5
                  rcases first_to to L with ⟨m, hm, hm1, hm2⟩ | hno
                  · have hMP := Mem.new W0 41 #[.int .i64 0, .int .i64 0, .slice none 0 0]
                    have hbW1 : Below wr.heap.size wr (W0.alloc (.cells #[.int .i64 0, .int .i64 0, .slice none 0 0] 41)) := hbW.alloc hbW.size _
                    have za0 := fun o => Lib.cell?_alloc_some o z0
                    have za2 := fun o => Lib.cell?_alloc_some o z2
                    have za3 := fun o => Lib.cell?_alloc_some o z3
                    have hs := take_f hg hbW1 hm hm1 hm2
                    have hpm : L[m] ∈ L := List.getElem_mem hm
                    generalize L[m] = P at *
                    obtain ⟨pf, pt, pd, pl⟩ := P
                    unfold Pk.val at hs
                    have hs2 : Calls Try.prog 22 #[.pointer (some ⟨X, 0, none⟩), .int .i64 to] (W0.alloc (.cells #[.int .i64 0, .int .i64 0, .slice none 0 0] 41)) fun e w4 => ∃ Ap cp, e = .returned (.tuple #[.agg #[.int .i64 pf, .int .i64 pt, .slice Ap pl.length cp], .bool true]) ∧ pd = .slice Ap pl.length cp ∧ DOk w4 w.heap.size ⟨pf, pt, .slice Ap pl.length cp, pl⟩ ∧ Mem w4 W0.heap.size 41 #[.int .i64 0, .int .i64 0, .slice none 0 0] ∧ (∀ k cs, wr.heap.size ≤ k → k < (W0.alloc (.cells #[.int .i64 0, .int .i64 0, .slice none 0 0] 41)).heap.size → Tag (W0.alloc (.cells #[.int .i64 0, .int .i64 0, .slice none 0 0] 41)) k 41 → NetGo w (w4.setRow k cs) X 4 (L.eraseIdx m) S.length) ∧ Frame wr (W0.alloc (.cells #[.int .i64 0, .int .i64 0, .slice none 0 0] 41)) w4 := by
                      refine hs.mono ?_
                      rintro e w4 ⟨rfl, g1, g2, g3⟩
                      obtain ⟨Ap, cp, hpv, _⟩ := own_form g2.1
                      simp only at hpv
                      subst hpv
                      exact ⟨Ap, cp, rfl, rfl, g2, (g3 W0.heap.size (by simp) (.inl hbW.size)).trans hMP, g1, g3⟩
                    clear hs hm1 hm2
                    go_wp2_with (first
                      | (refine wpList_store_row rfl 35 (.tmp 7) (.tmp 30) rfl wr.heap.size #[.int .i64 5, .int .i64 fr, .int .i64 to, .int .i64 n, .slice Ad l.length cd] rfl rfl 35 #[.int .i64 0, .int .i64 0, .int .i64 0, .int .i64 0, .slice none 0 0] hM0 (by kernel_rfl) (by kernel_rfl) (by kernel_rfl) ?_; rw [hWW])
                      | (refine wpList_store_row rfl 41 (.tmp 8) (.tmp 59) rfl W0.heap.size #[.int .i64 pf, .int .i64 pt, .slice Ap pl.length cp] rfl rfl 41 #[.int .i64 0, .int .i64 0, .slice none 0 0] hm4 (by kernel_rfl) (by kernel_rfl) (by kernel_rfl) ?_)
                      | (go_at_call 22; (with_reducible refine hs2.mono ?_); rintro e w4 ⟨Ap, cp, rfl, hpv, hd4, hm4, hN4, hf4⟩))
                    subst hpv
                    have hwW := owns_below hw hbW1
                    have hE5 : Eff (fun j => j = W0.heap.size) w4 (w4.setRow W0.heap.size #[.int .i64 pf, .int .i64 pt, .slice Ap pl.length cp]) := Eff.setRow (S := fun j => j = W0.heap.size) (Eff.refl _ _) rfl _
                    have hw5 := owns_eff (own_frameA hwW hf4 (by decide) (by decide)) hE5 fun j hj e => (own_tag (own_frameA hwW hf4 (by decide) (by decide)) j hj).2.2.ne (e ▸ mem_tag hm4) (by decide) rfl
                    have hd5 := hd4.eff hE5 fun j _ e => e ▸ (mem_tag hm4).not (by decide)
                    have hg5 := hN4 W0.heap.size #[.int .i64 pf, .int .i64 pt, .slice Ap pl.length cp] hbW.size (by simp) (mem_tag hMP)
                    have hm5 := hm4.row #[.int .i64 pf, .int .i64 pt, .slice Ap pl.length cp]
                    generalize w4.setRow W0.heap.size #[.int .i64 pf, .int .i64 pt, .slice Ap pl.length cp] = W5 at *
                    clear hE5 hN4 hm4 hf4 hd4 hs2 hwW hM0 hM hWW hMP
                    go_loopw [10, 11] (fun wv i w3 => ∃ (q : Nat) (wb : Bool), q ≤ S.length ∧ wv = .bool wb ∧ i = .int .i64 q ∧ Hid (∀ j (h : j < S.length), j < q → One S[j] ⟨pf, pt, .slice Ap pl.length cp, pl⟩ → wb = true) ∧ Below W5.heap.size W5 w3) (fun _ i _ => S.length - (intOf i).toNat)
                    case atStart => exact ⟨0, false, by omega, rfl, rfl, Lib.hid fun j _ h => by omega, Below.refl _ _⟩
                    case round =>
                      obtain ⟨q, wb, hq, rfl, rfl, HQ, hb3⟩ := hrel
                      have hm3 := hm5.below hb3 hm5.lt
                      have p0 := hm3.cell 0
                      have p1 := hm3.cell 1
                      have p2 := hm3.cell 2
                      have hg3 := hg5.below hb3
                      have hw3 := owns_below hw5 hb3
                      by_cases hlq : q < S.length
                      · have hlqx : (q : Int) < (S.length : Int) := by omega
                        have hS150 : (S.length : Int) ≤ 150 := by have := HL.out.1; omega
                        obtain ⟨gs, hAs, s1, s2, s4⟩ := arow_at hw3 hlq
                        have hsa := (hv.ok _ (HL.out.2.2 S[q] (List.getElem_mem hlq))).sl.now hg3.bl
                        obtain ⟨sa, hsq⟩ : ∃ sa, S[q] = sa := ⟨_, rfl⟩
                        have HN : ∀ wb', (wb = true → wb' = true) → (One sa ⟨pf, pt, .slice Ap pl.length cp, pl⟩ → wb' = true) → ∀ j (h : j < S.length), j < q + 1 → One S[j] ⟨pf, pt, .slice Ap pl.length cp, pl⟩ → wb' = true := by
                          intro wb' h1 h2 j hj hjq ho
                          rcases Nat.lt_or_ge j q with h | h
                          · exact h1 (HQ.out j hj h ho)
                          · obtain rfl : j = q := by omega
                            exact h2 (hsq ▸ ho)
                        rw [hsq] at s1 s2 s4 hsa
                        clear hsq
                        obtain ⟨aop, af, at_, an, ad, al⟩ := sa
                        simp only at s1 s2 s4 hsa
                        obtain ⟨Aa, ca, rfl, _, _⟩ := hsa.form
                        have ks1 := fun n => bytes_str (P := Try.prog) (wr.drewN n) 33 9 5 Try.underlying33 Try.underlying5 Try.underlying9 _ _ al al.length (hsa.drewN n)
                        have ks2 := fun n => bytes_str (P := Try.prog) (wr.drewN n) 33 9 5 Try.underlying33 Try.underlying5 Try.underlying9 _ _ pl pl.length ((hd5.sl.now hb3).drewN n)
                        subst hAs
                        cases wb with
                        | true =>
                          go_wp2_with fail
                          go_quiet (fail)
                          go_wp2_with fail
                          exact ⟨⟨q + 1, true, by omega, rfl, by go_num, Lib.hid (HN true (fun _ => rfl) (fun _ => rfl)), below_drewN hb3 nq⟩, by simp [intOf]; omega⟩
                        | false =>
                          by_cases e1 : af = pf
                          · subst e1
                            by_cases e2 : at_ = pt
                            · subst e2
                              by_cases e3 : al = pl
                              · subst e3
                                go_wp2_with fail
                                go_quiet (fail)
                                go_wp2_with fail
                                exact ⟨⟨q + 1, true, by omega, rfl, by go_num, Lib.hid (HN true (fun h => rfl) (fun _ => rfl)), below_drewN hb3 nq⟩, by simp [intOf]; omega⟩
                              · have e3b : (al == pl) = false := by rw [beq_eq_false_iff_ne]; exact e3
                                go_wp2_with fail
                                go_quiet (fail)
                                go_wp2_with fail
                                exact ⟨⟨q + 1, false, by omega, rfl, by go_num, Lib.hid (HN false (fun h => h) (fun h => absurd h.2.2 e3)), below_drewN hb3 nq⟩, by simp [intOf]; omega⟩
                            · have e2b : (at_ == pt) = false := by rw [beq_eq_false_iff_ne]; exact e2
                              go_wp2_with fail
                              go_quiet (fail)
                              go_wp2_with fail
                              exact ⟨⟨q + 1, false, by omega, rfl, by go_num, Lib.hid (HN false (fun h => h) (fun h => absurd h.2.1 e2)), below_drewN hb3 nq⟩, by simp [intOf]; omega⟩
                          · have e1b : (af == pf) = false := by rw [beq_eq_false_iff_ne]; exact e1
                            go_wp2_with fail
                            go_quiet (fail)
                            go_wp2_with fail
                            exact ⟨⟨q + 1, false, by omega, rfl, by go_num, Lib.hid (HN false (fun h => h) (fun h => absurd h.1 e1)), below_drewN hb3 nq⟩, by simp [intOf]; omega⟩
                      · obtain rfl : q = S.length := by omega
                        obtain rfl : wb = true := by
                          obtain ⟨a, ha, h1⟩ := HL.out.2.1 _ hpm
                          obtain ⟨j, hj, rfl⟩ := List.getElem_of_mem ha
                          exact HQ.out j hj hj h1
                        go_wp2_with fail
                        obtain ⟨f1, f2, f3⟩ := HL.out
                        exact ⟨⟨_, S, k + 1, by omega, by go_num, Lib.hid ⟨by omega, f2.erase m, f3⟩, hw3, hg3⟩, by simp [intOf]; omega⟩
                  · have hMP := Mem.new W0 41 #[.int .i64 0, .int .i64 0, .slice none 0 0]
                    have hbW1 : Below wr.heap.size wr (W0.alloc (.cells #[.int .i64 0, .int .i64 0, .slice none 0 0] 41)) := hbW.alloc hbW.size _
                    have za0 := fun o => Lib.cell?_alloc_some o z0
                    have za2 := fun o => Lib.cell?_alloc_some o z2
                    have za3 := fun o => Lib.cell?_alloc_some o z3
                    have hs := takeno_go (hg.below hbW1) hno
                    unfold pk0 at hs
                    have hMB : ∀ w4, Below (W0.alloc (.cells #[.int .i64 0, .int .i64 0, .slice none 0 0] 41)).heap.size (W0.alloc (.cells #[.int .i64 0, .int .i64 0, .slice none 0 0] 41)) w4 → Mem w4 W0.heap.size 41 #[.int .i64 0, .int .i64 0, .slice none 0 0] := fun w4 h => hMP.below h (by simp)
                    go_wp2_with (first
                      | (refine wpList_store_row rfl 35 (.tmp 7) (.tmp 30) rfl wr.heap.size #[.int .i64 5, .int .i64 fr, .int .i64 to, .int .i64 n, .slice Ad l.length cd] rfl rfl 35 #[.int .i64 0, .int .i64 0, .int .i64 0, .int .i64 0, .slice none 0 0] hM0 (by kernel_rfl) (by kernel_rfl) (by kernel_rfl) ?_; rw [hWW])
                      | (refine wpList_store_row rfl 41 (.tmp 8) (.tmp 59) rfl W0.heap.size #[.int .i64 0, .int .i64 0, .slice none 0 0] rfl rfl 41 #[.int .i64 0, .int .i64 0, .slice none 0 0] hm4 (by kernel_rfl) (by kernel_rfl) (by kernel_rfl) ?_)
                      | (go_at_call 22; (with_reducible refine hs.mono ?_); rintro e w4 ⟨rfl, hb4⟩; have hm4 := hMB _ hb4))
                    obtain ⟨f1, f2, f3⟩ := HL.out
                    have hb5 : Below wr.heap.size wr (w4.setRow W0.heap.size #[.int .i64 0, .int .i64 0, .slice none 0 0]) := below_setRow (hbW1.trans (hb4.mono hbW1.size)) hbW.size _
                    exact ⟨⟨L, S, k + 1, by omega, by go_num, Lib.hid ⟨by omega, f2, f3⟩, owns_below hw hb5, hg.below hb5⟩, by simp [intOf]; omega⟩
                · have hn5 : (op == 5) = false := by rw [beq_eq_false_iff_ne]; exact hop5
                  go_wp2_with (refine wpList_store_row rfl 35 (.tmp 7) (.tmp 30) rfl wr.heap.size #[.int .i64 op, .int .i64 fr, .int .i64 to, .int .i64 n, .slice Ad l.length cd] rfl rfl 35 #[.int .i64 0, .int .i64 0, .int .i64 0, .int .i64 0, .slice none 0 0] hM0 (by kernel_rfl) (by kernel_rfl) (by kernel_rfl) ?_; rw [hWW])
                  obtain ⟨e1, e2, e3⟩ := HL.out
                  exact ⟨⟨L, S, k + 1, by omega, by go_num, Lib.hid ⟨by omega, e2, e3⟩, owns_below hw hbW, hg.below hbW⟩, by simp [intOf]; omega⟩
      · obtain rfl : k = acs.length := by omega
        have hse := sent_go hg
        have hbl := hg.bl
        go_wp2_with (go_at_call 15; with_reducible refine hse.mono ?_; rintro e w' ⟨rfl, rfl⟩)
        go_ret
        exact ⟨rfl, hbl⟩
set_option maxRecDepth 100000 in
theorem lifted (os : Os) (started : os.Started) (H : Type) (enc : TypeId × Value → H) :
    ReturnsInHanded {} Try.checked os 8 .any (Rows.netLosesSpec.pre6 enc Try.prog Try.f8 Rows.netLosesRow.domain false) (Rows.netLosesSpec.post enc Try.prog Try.f8 false true false false) := by
  refine returnsInHanded_of_change (C := Try.checked) own started (by kernel_rfl) Try.func8
    (ChangeSpec.witness6 (enc := enc) (C := Try.checked) false ⟨#[], #[.slice none 0 0], []⟩ 8 (by kernel_rfl) (by kernel_rfl) (by kernel_rfl) (by kernel_rfl)) ?_
  intro W base args ds gs before hval0 hW hcnd _
  have hval : ∀ (j : Nat) t v, Try.f8.params[j]? = some t → args[j]? = some v → Value.okWide Try.prog W .any base t v := hval0
  have hW' := hW
  obtain ⟨p, q, hA0, hV, rfl, hfz, hnd⟩ := hW
  have hA : DataW.TrodAll enc Try.prog W 0 (fun _ => true) true Try.f8.params.toList args.toList ds p := hA0
  rw [Try.params8] at hA hval
  obtain ⟨v0, vs0, d0, ds0, p0, q0, hargs, rfl, rfl, h0, r0⟩ := trodAll_cons hA
  obtain ⟨rfl, rfl, rfl⟩ := trodAll_nil r0
  obtain rfl : args = #[v0] := by cases args; simp_all
  obtain ⟨rfl, rfl⟩ := trodVars_none hV
  obtain ⟨acs0, s0⟩ := open_acts (hval 0 22 v0 rfl rfl) h0
  refine (walk v0 acs0 W s0).mono fun e W' ⟨he, hb⟩ => ?_
  subst he
  exact ⟨_, rfl, law_post laidOut (by kernel_rfl) rfl (by kernel_rfl) Try.underlying4 rfl rfl rfl hW' hb⟩

theorem proved : Rows.NetLosesSaid :=
  OpenClaim.holds_of_wide 8 Try.f8 rfl rfl rfl rfl rfl rfl rfl ⟨rfl, rfl, rfl, rfl, rfl⟩ rfl rfl rfl rfl rfl (by kernel_rfl) Try.func8 (by kernel_rfl)
    (of_decide_eq_true (by kernel_rfl)) (by unfold Func.isWrapper; first | (rw [if_pos (by decide +kernel)]; kernel_rfl) | (rw [if_neg (by decide +kernel)]; exact ⟨rfl, rfl⟩))
    (fun os started H enc _ => lifted os started H enc)
end Loses
end Go.Proofs.Ytmlimmcaidkoeaa
