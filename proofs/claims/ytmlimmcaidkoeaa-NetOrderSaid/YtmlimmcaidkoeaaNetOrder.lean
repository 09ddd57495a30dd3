/- NetOrder: for all bytes and every number the statement's function tells true and turns nothing that was there. No condition. -/
import Derived.Test.YtmlimmcaidkoeaaNtL
import Derived.Test.YtmlimmcaidkoeaaCalmT
import Derived.Laws.BitsAllLaws
import Derived.LoopTactic
import Derived.BigQuiet
namespace Go.Proofs.Ytmlimmcaidkoeaa
open Go.ChangeShapes Go.WideShapes Go.ChangeAt Go.RowKit Go.Lib
set_option linter.unusedVariables false
theorem NetGo.grown {o w w' : World} {X h s : Nat} {L : List Pk} (hg : NetGo o w X h L s) {row : Option Nat} (he : w.grownBy w' row) (hr : ∀ k, row = some k → Tag w k 5 ∧ o.heap.size ≤ k ∧ ∀ p ∈ L, p.d.ownBlock ≠ some k) : NetGo o w' X h L s := by
  obtain ⟨v, hn, hb⟩ := hg
  have hE := eff_grown he
  have n1 : ¬ (row = some X) := fun e => (hr X e).1.ne (mem_tag hn.mem) (by decide) rfl
  refine ⟨v, ⟨hn.base, hn.mem.eff hE n1, owns_eff hn.row hE fun k hk e => (hr k e).1.ne (own_tag hn.row k hk).2.2 (by decide) rfl, fun p hp => ⟨owns_eff (hn.data p hp).1 hE fun k hk e => (hr k e).2.2 p hp hk, (hn.data p hp).2⟩, hn.few⟩, hE.below hb hb.size fun k _ e => (hr k e).2.1⟩
theorem own_frame {w W w' : World} {B n : Nat} {v : Value} {xs : List Value} (h : W.ownsRow B 5 1 v n xs) (hf : Frame w W w') : w'.ownsRow B 5 1 v n xs := by
  refine ⟨h.1, ?_⟩
  rcases h.2 with hn | ⟨g, cap, cur, rfl, hg, hgg, rest⟩
  · exact .inl hn
  · exact .inr ⟨g, cap, cur, rfl, hg, (hf g (Array.getElem?_eq_some_iff.1 hgg).1 (.inr ⟨_, ⟨_, _, hgg⟩, by decide, by decide⟩)).trans hgg, rest⟩
theorem cells_new1 (w : World) (t : TypeId) (a : Value) : ∀ j u, [a][j]? = some u → (w.alloc (.cells #[a] t)).cell? ((⟨w.heap.size, 0, none⟩ : Addr).add j) = some u := by
  intro j u hu
  have hb : (w.alloc (.cells #[a] t)).heap[w.heap.size]? = some (.cells #[a] t (0, 0)) := heap_alloc_new w _
  rw [add_plain, Nat.zero_add, cell_of_row _ _ j _ t (0, 0) hb, ← List.getElem?_toArray] at *
  exact hu
namespace Order
/-- The packet p was sent as the t-th. -/
def Fit (l : List UInt8) (p : Pk) (t : Nat) : Prop := ∃ h : t < l.length, p.fr = ((l[t].toNat / 4 % 4 : Nat) : Int) ∧ p.l = [l[t], UInt8.ofNat t]
def Fits (l : List UInt8) : List Pk → List Nat → Prop
  | [], [] => True
  | p :: P, t :: T => Fit l p t ∧ Fits l P T
  | _, _ => False
theorem Fits.snoc {l : List UInt8} {p : Pk} {t : Nat} (hp : Fit l p t) : ∀ {P : List Pk} {T : List Nat}, Fits l P T → Fits l (P ++ [p]) (T ++ [t])
  | [], [], _ => ⟨hp, trivial⟩
  | _ :: _, _ :: _, h => ⟨h.1, Fits.snoc hp h.2⟩
  | [], _ :: _, h => h.elim
  | _ :: _, [], h => h.elim
theorem Fits.nil {l : List UInt8} {P : List Pk} (h : Fits l P []) : P = [] := by
  cases P with
  | nil => rfl
  | cons p P => exact h.elim
theorem Fits.cons {l : List UInt8} {P : List Pk} {t : Nat} {T : List Nat} (h : Fits l P (t :: T)) : ∃ p Q, P = p :: Q ∧ Fit l p t ∧ Fits l Q T := by
  cases P with
  | nil => exact h.elim
  | cons p P => exact ⟨p, P, rfl, h⟩
def isTo (t : Int) (p : Pk) : Bool := decide (p.to = t)
theorem first_match (t : Int) : ∀ (L : List Pk) (p : Pk) (P : List Pk), L.filter (isTo t) = p :: P → ∃ k, ∃ hk : k < L.length, L[k] = p ∧ p.to = t ∧ (∀ j (hj : j < L.length), j < k → L[j].to ≠ t) ∧ (L.eraseIdx k).filter (isTo t) = P
  | [], _, _, h => by simp at h
  | q :: L, p, P, h => by
    by_cases hq : q.to = t
    · rw [List.filter_cons_of_pos (by simp [isTo, hq])] at h
      injection h with h1 h2
      subst h1
      exact ⟨0, by simp, rfl, hq, fun j _ hj => by omega, by simpa using h2⟩
    · have hqf : isTo t q = false := by simp [isTo, hq]
      rw [List.filter_cons_of_neg (by simp [hqf])] at h
      obtain ⟨k, hk, h1, h2, h3, h4⟩ := first_match t L p P h
      refine ⟨k + 1, by simp; omega, by simpa using h1, h2, fun j hj hjk => ?_, ?_⟩
      · cases j with
        | zero => exact hq
        | succ j => simpa using h3 j (by simpa using hj) (by omega)
      · rw [List.eraseIdx_cons_succ, List.filter_cons_of_neg (by simp [hqf])]
        exact h4
theorem no_match {t : Int} {L : List Pk} (h : L.filter (isTo t) = []) : ∀ j (hj : j < L.length), L[j].to ≠ t := by
  intro j hj e
  rw [List.filter_eq_nil_iff] at h
  exact h L[j] (List.getElem_mem hj) (by simp [isTo, e])
theorem and3 (x : Nat) (h : x < 256) : bits BinOp.and IntKind.u8 (x : Int) 3 = ((x % 4 : Nat) : Int) := by
  have : ∀ j : Fin 256, bits BinOp.and IntKind.u8 ((j : Nat) : Int) 3 = (((j : Nat) % 4 : Nat) : Int) := by decide +kernel
  exact this ⟨x, h⟩
theorem shand3 (x : Nat) (h : x < 256) : bits BinOp.and IntKind.u8 ((x : Int) / 4) 3 = ((x / 4 % 4 : Nat) : Int) := by
  have := and3 (x / 4) (by omega)
  rwa [show ((x / 4 : Nat) : Int) = (x : Int) / 4 by omega] at this
set_option maxRecDepth 100000 in
set_option maxHeartbeats 4000000 in
theorem walk (v : Value) (l : List UInt8) (to : Int) (w : World) (hv : Sl w w.heap.size v l.length (bs l)) (ht1 : 0 ≤ to) (ht2 : to ≤ 255) :
    Calls Try.prog 6 #[v, .int .u8 to] w fun e w' => e = .returned (.bool true) ∧ Below w.heap.size w w' := by
  obtain ⟨i0, hi, hz0, hz1, hz2⟩ := info_parts info_u8
  obtain ⟨A0, c0, rfl, hc1, hc2⟩ := hv.form
  obtain ⟨T, rfl⟩ : ∃ T : Nat, to = T := ⟨to.toNat, by omega⟩
  by_cases hl : l.length ≤ 100
  · have hlx : (l.length : Int) ≤ 100 := by omega
    have hnew : ∀ W, Below w.heap.size w W → Calls Try.prog 11 #[.int .i64 4] W fun e w' => e = .returned (.tuple #[.pointer (some ⟨W.heap.size, 0, none⟩), .int .i64 0]) ∧ NetGo w w' W.heap.size 4 [] 0 := fun W hW => new_go w 4 (by omega) (by omega) W hW
    obtain ⟨t0, ht0, hT⟩ : ∃ t0 : Nat, t0 < 4 ∧ bits BinOp.and IntKind.u8 (T : Int) 3 = (t0 : Int) := ⟨T % 4, by omega, and3 T (by omega)⟩
    go_enter Try.func6, Try.ntmps6
    go_wp2_with (first
      | (go_at_call 9; refine (known_any _).mono ?_; rintro e w1 ⟨rfl, hb1⟩)
      | (go_at_call 11; with_reducible refine (hnew _ hb1).mono ?_; rintro e w2 ⟨rfl, hg2⟩))
    clear hnew
    generalize w1.heap.size = X at *
    go_loopw [7, 8] (fun wv i wr => ∃ (L : List Pk) (K : List Nat) (k : Nat), k ≤ l.length ∧ i = .int .i64 k ∧ Hid (L.length = k ∧ K.length ≤ k ∧ Fits l (L.filter (isTo t0)) K ∧ ∀ p ∈ L, ∀ b, p.d.ownBlock = some b → wv.ownBlock ≠ some b) ∧ wr.ownsRow w.heap.size 5 1 wv K.length (bs (K.map UInt8.ofNat)) ∧ NetGo w wr X 4 L k) (fun _ i _ => l.length - (intOf i).toNat)
    case atStart => exact ⟨[], [], 0, by omega, rfl, Lib.hid ⟨rfl, by simp, trivial, by simp⟩, World.ownsRow_nil _ _ _ _, hg2⟩
    case round =>
      clear hg2 hb1
      obtain ⟨L, K, k, hk, rfl, HL, hw, hg⟩ := hrel
      by_cases hlt : k < l.length
      · have hlx2 : (k : Int) < (l.length : Int) := by omega
        have hlf : ((l.length - 1 : Nat) : Int) = (l.length : Int) - 1 := by omega
        clear hlf
        obtain ⟨b0, f0, rfl, hb0, hcell⟩ := hv.at_ (by omega)
        have hx : ∀ W, Below w.heap.size w W → W.cell? ⟨b0, f0 + k, none⟩ = some (.int .u8 (l[k].toNat : Int)) := fun W hW => (hW.cell (p := ⟨b0, f0 + k, none⟩) hb0).trans (hcell k _ (bs_get hlt))
        clear hcell
        have hx256 : l[k].toNat < 256 := UInt8.toNat_lt _
        obtain ⟨x, hxx⟩ : ∃ x, x = l[k].toNat := ⟨_, rfl⟩
        have HX : Hid (x = l[k].toNat) := Lib.hid hxx
        rw [← hxx] at hx hx256
        clear hxx
        obtain ⟨fr, tt, hfr, htt, h1, h2, HFT⟩ : ∃ fr tt : Nat, fr < 4 ∧ tt < 4 ∧ bits BinOp.and IntKind.u8 ((x : Int) / 4) 3 = (fr : Int) ∧ bits BinOp.and IntKind.u8 (x : Int) 3 = (tt : Int) ∧ Hid (fr = x / 4 % 4) := ⟨x / 4 % 4, x % 4, by omega, by omega, shand3 x hx256, and3 x hx256, Lib.hid rfl⟩
        have hk256 : k ≤ 255 := by omega
        have hbl := hg.bl
        have hsend : ∀ W sv, Below wr.heap.size wr W → Sl W W.heap.size sv 2 [.int .u8 x, .int .u8 k] → Calls Try.prog 20 #[.pointer (some ⟨X, 0, none⟩), .int .i64 fr, .int .i64 tt, sv] W fun e w' => ∃ p : Pk, e = .returned (.int .i64 0) ∧ NetGo w w' X 4 (L ++ [p]) (k + 1) ∧ Frame wr W w' ∧ (∀ b, p.d.ownBlock = some b → W.heap.size ≤ b) ∧ p.to = tt ∧ Fit l p k := by
          intro W sv hB hs
          have e : ([.int .u8 x, .int .u8 k] : List Value) = bs [l[k], UInt8.ofNat k] := by
            simp only [bs, List.map_cons, List.map_nil, ← HX.out, UInt8.toNat_ofNat']
            rw [show k % 256 = k by omega]
          rw [e] at hs
          refine (send_go hg hB (fr := fr) (to := tt) (by omega) (by omega) (by omega) (by omega) (l := [l[k], UInt8.ofNat k]) (by simp) (by have := HL.out.1; omega) (by omega) hs).mono ?_
          rintro e w' ⟨d', rfl, g1, g2, g3⟩
          exact ⟨_, rfl, g1, g2, g3, rfl, hlt, by rw [← HX.out, ← HFT.out], rfl⟩
        obtain ⟨A1, c1, rfl, hc3, hc4⟩ := own_form hw
        go_wp2_with fail
        apply calm_tail 21 [.is _, .is _, .is _, .is _, .is _, .is _, .is _, .is _, .is _, .is _, .is _, .is _, .is _, .is _, .is _, .is _, .is _, .is _, .is _, .is _, .sl 2 [.int .u8 x, .int .u8 k]] [[], [], [], [1, 2], [3], [4], [5], [6], [], [], [8, 9], [10], [11], [12], [], [], [14, 15], [16], [], [18], [17, 19]] (by kernel_rfl) (by kernel_rfl) (by kernel_rfl) rfl
        intro f a1 ha1
        simp only [List.take_succ_cons, List.take_zero, putL, Act.put, List.setIfInBounds_toArray, List.set_cons_succ, List.set_cons_zero] at ha1
        subst ha1
        refine ⟨?_, ?_⟩
        · refine AllCalm.cons (fun W hB hd => ?_) ?_
          · go_wp2_with (fail)
            exact CalmQ.mk rfl _ rfl (Below.refl _ _) rfl
          refine AllCalm.cons (fun W hB hd => ?_) ?_
          · go_wp2_with (fail)
            exact CalmQ.mk rfl _ rfl (Below.refl _ _) rfl
          refine AllCalm.cons (fun W hB hd => ?_) ?_
          · go_wp2_with (fail)
            exact CalmQ.mk rfl _ rfl (Below.refl _ _) rfl
          refine AllCalm.cons (fun W hB hd => ?_) ?_
          · obtain ⟨h1, h2, -⟩ := hd
            have h1 : f 1 = _ := h1
            have h2 : f 2 = _ := h2
            rw [h1, h2]
            go_wp2_with (fail)
            exact CalmQ.mk rfl _ rfl (Below.refl _ _) rfl
          refine AllCalm.cons (fun W hB hd => ?_) ?_
          · obtain ⟨h3, -⟩ := hd
            have h3 : f 3 = _ := h3
            rw [h3]
            have q := hx W (hbl.trans (hB.mono hbl.size))
            go_wp2_with (fail)
            exact CalmQ.mk rfl _ rfl (Below.refl _ _) rfl
          refine AllCalm.cons (fun W hB hd => ?_) ?_
          · obtain ⟨h4, -⟩ := hd
            have h4 : f 4 = _ := h4
            rw [h4]
            go_wp2_with (fail)
            exact CalmQ.mk rfl _ rfl (Below.refl _ _) rfl
          refine AllCalm.cons (fun W hB hd => ?_) ?_
          · obtain ⟨h5, -⟩ := hd
            have h5 : f 5 = _ := h5
            rw [h5]
            go_wp2_with (fail)
            exact CalmQ.mk rfl _ rfl (Below.refl _ _) rfl
          refine AllCalm.cons (fun W hB hd => ?_) ?_
          · obtain ⟨h6, -⟩ := hd
            have h6 : f 6 = _ := h6
            rw [h6]
            go_wp2_with (fail)
            exact CalmQ.mk rfl _ rfl (Below.refl _ _) rfl
          refine AllCalm.cons (fun W hB hd => ?_) ?_
          · go_wp2_with (fail)
            exact CalmQ.mk rfl _ rfl (Below.refl _ _) rfl
          refine AllCalm.cons (fun W hB hd => ?_) ?_
          · go_wp2_with (fail)
            exact CalmQ.mk rfl _ rfl (Below.refl _ _) rfl
          refine AllCalm.cons (fun W hB hd => ?_) ?_
          · obtain ⟨h8, h9, -⟩ := hd
            have h8 : f 8 = _ := h8
            have h9 : f 9 = _ := h9
            rw [h8, h9]
            go_wp2_with (fail)
            exact CalmQ.mk rfl _ rfl (Below.refl _ _) rfl
          refine AllCalm.cons (fun W hB hd => ?_) ?_
          · obtain ⟨h10, -⟩ := hd
            have h10 : f 10 = _ := h10
            rw [h10]
            have q := hx W (hbl.trans (hB.mono hbl.size))
            go_wp2_with (fail)
            exact CalmQ.mk rfl _ rfl (Below.refl _ _) rfl
          refine AllCalm.cons (fun W hB hd => ?_) ?_
          · obtain ⟨h11, -⟩ := hd
            have h11 : f 11 = _ := h11
            rw [h11]
            go_wp2_with (fail)
            exact CalmQ.mk rfl _ rfl (Below.refl _ _) rfl
          refine AllCalm.cons (fun W hB hd => ?_) ?_
          · obtain ⟨h12, -⟩ := hd
            have h12 : f 12 = _ := h12
            rw [h12]
            go_wp2_with (fail)
            exact CalmQ.mk rfl _ rfl (Below.refl _ _) rfl
          refine AllCalm.cons (fun W hB hd => ?_) ?_
          · go_wp2_with (fail)
            exact CalmQ.mk rfl _ rfl (Below.refl _ _) rfl
          refine AllCalm.cons (fun W hB hd => ?_) ?_
          · go_wp2_with (fail)
            exact CalmQ.mk rfl _ rfl (Below.refl _ _) rfl
          refine AllCalm.cons (fun W hB hd => ?_) ?_
          · obtain ⟨h14, h15, -⟩ := hd
            have h14 : f 14 = _ := h14
            have h15 : f 15 = _ := h15
            rw [h14, h15]
            go_wp2_with (fail)
            exact CalmQ.mk rfl _ rfl (Below.refl _ _) rfl
          refine AllCalm.cons (fun W hB hd => ?_) ?_
          · obtain ⟨h16, -⟩ := hd
            have h16 : f 16 = _ := h16
            rw [h16]
            have q := hx W (hbl.trans (hB.mono hbl.size))
            go_wp2_with (fail)
            exact CalmQ.mk rfl _ rfl (Below.refl _ _) rfl
          refine AllCalm.cons (fun W hB hd => ?_) ?_
          · go_wp2_with (fail)
            exact CalmQ.mk rfl _ rfl (Below.refl _ _) rfl
          refine AllCalm.cons (fun W hB hd => ?_) ?_
          · obtain ⟨h18, -⟩ := hd
            have h18 : f 18 = _ := h18
            rw [h18]
            go_wp2_with (fail)
            exact CalmQ.mk rfl _ rfl (Below.refl _ _) rfl
          refine AllCalm.cons (fun W hB hd => ?_) ?_
          · obtain ⟨h17, h19, -⟩ := hd
            have h17 : f 17 = _ := h17
            have h19 : f 19 = _ := h19
            rw [h17, h19]
            go_wp2_with (fail)
            exact CalmQ.mk rfl _ rfl ((Below.refl _ _).alloc (Nat.le_refl _) _) (Sl.fresh W #[.int .u8 x, .int .u8 k] _ rfl (by unfold maxLen; omega))
          exact AllCalm.nil
        · intro W hB hT
          obtain ⟨h0, h1, h2, h3, h4, h5, h6, h7, h8, h9, h10, h11, h12, h13, h14, h15, h16, h17, h18, h19, h20, -⟩ := hT
          have h0 : f 0 = _ := h0
          have h1 : f 1 = _ := h1
          have h2 : f 2 = _ := h2
          have h3 : f 3 = _ := h3
          have h4 : f 4 = _ := h4
          have h5 : f 5 = _ := h5
          have h6 : f 6 = _ := h6
          have h7 : f 7 = _ := h7
          have h8 : f 8 = _ := h8
          have h9 : f 9 = _ := h9
          have h10 : f 10 = _ := h10
          have h11 : f 11 = _ := h11
          have h12 : f 12 = _ := h12
          have h13 : f 13 = _ := h13
          have h14 : f 14 = _ := h14
          have h15 : f 15 = _ := h15
          have h16 : f 16 = _ := h16
          have h17 : f 17 = _ := h17
          have h18 : f 18 = _ := h18
          have h19 : f 19 = _ := h19
          have h20 : Sl W W.heap.size (f 20) _ _ := h20
          rw [h0, h1, h2, h3, h4, h5, h6, h7, h8, h9, h10, h11, h12, h13, h14, h15, h16, h17, h18, h19]
          clear h0 h1 h2 h3 h4 h5 h6 h7 h8 h9 h10 h11 h12 h13 h14 h15 h16 h17 h18 h19
          simp only [List.drop_succ_cons, List.drop_zero]
          obtain ⟨A6, c6, e6, _, _⟩ := h20.form
          rw [e6] at h20 ⊢
          have hs := hsend W _ hB h20
          have hwW := owns_below hw hB
          have HLs := HL.out
          by_cases htt2 : tt = t0
          · subst htt2
            have hone : ∀ u ∈ ([.int .u8 (k : Int)] : List Value), u.oneCell' = true := by
              intro u hu
              simp at hu
              subst hu
              rfl
            have hK := HLs.2.1
            have b1 : K.length + 1 ≤ maxLen := by unfold maxLen; omega
            have b2 : (K.length + 1) * 1 ≤ 140737488355328 := by omega
            have hal : ∀ W', Below w.heap.size w W' → ∀ o, w.heap.size ≤ (W'.alloc o).heap.size := fun W' h o => (h.alloc h.size o).size
            clear HLs hK
            go_wp2_with (first
              | (go_at_call 20; with_reducible refine hs.mono ?_; rintro e w4 ⟨p, rfl, hg4, hf4, hd4, hp4, hfit⟩; have hbl4 := hg4.bl; have hx4 := hx w4 hbl4; have hw4 := own_frame hwW hf4)
              | (at_builtin; with_reducible refine wpList_append_at _ rfl (.tmp 60) (.tmp 63) _ rfl w.heap.size 5 i0 _ 1 1 Try.underlying33 hi hz0 hz1 hz2 rfl (by decide) (.slice A1 K.length c1) K.length (bs (K.map UInt8.ofNat)) rfl (hw4.alloc _) ⟨w4.heap.size, 0, none⟩ 1 1 [.int .u8 (k : Int)] rfl rfl (cells_new1 _ _ _) hone b1 b2 (hal _ hbl4 _) ?_; intro v6 w6 ho6 hg6 hat6))
            obtain ⟨e1, e2, e3, e4⟩ := HL.out
            have hdis : ∀ q ∈ L ++ [p], ∀ b, q.d.ownBlock = some b → (Value.slice A1 K.length c1).ownBlock ≠ some b := by
              intro q hq b hqb hb
              rw [List.mem_append, List.mem_singleton] at hq
              rcases hq with hq | rfl
              · exact e4 q hq b hqb hb
              · have := hd4 b hqb
                have := (own_tag hwW b hb).2.1
                omega
            have hg6' : NetGo w w6 X 4 (L ++ [p]) (k + 1) := (hg4.below ((Below.refl _ _).alloc (Nat.le_refl _) _)).grown hg6 fun b hb => ⟨(own_tag (hw4.alloc _) b hb).2.2, (own_tag hw4 b hb).1, fun q hq hqb => hdis q hq b hqb hb⟩
            refine ⟨⟨L ++ [p], K ++ [k], k + 1, by omega, by go_num, Lib.hid ⟨by simp [e1], by simp; omega, ?_, ?_⟩, ?_, hg6'⟩, by simp [intOf]; omega⟩
            · rw [List.filter_append, List.filter_cons_of_pos (by simp [isTo, hp4]), List.filter_nil]
              exact Fits.snoc hfit e3
            · intro q hq b hqb hvb
              rcases hat6 with h6 | h6
              · exact hdis q hq b hqb (h6 ▸ hvb)
              · have hdq := (own_tag (hg4.choose_spec.1.data q hq).1 b hqb).2.1
                rw [hvb] at h6
                injection h6 with h6
                subst h6
                simp at hdq
                omega
            · rw [List.map_append, bs_app, List.length_append]
              have e : bs ([k].map UInt8.ofNat) = [.int .u8 (k : Int)] := by
                simp only [bs, List.map_cons, List.map_nil, UInt8.toNat_ofNat']
                rw [show k % 2 ^ 8 = k by omega]
              rw [e]
              exact ho6
          · have hne : ((tt : Int) == (t0 : Int)) = false := by rw [beq_eq_false_iff_ne]; omega
            clear HLs
            go_wp2_with (first
              | (go_at_call 20; with_reducible refine hs.mono ?_; rintro e w4 ⟨p, rfl, hg4, hf4, hd4, hp4, hfit⟩; have hbl4 := hg4.bl; have hx4 := hx w4 hbl4; have hw4 := own_frame hwW hf4))
            obtain ⟨e1, e2, e3, e4⟩ := HL.out
            refine ⟨⟨L ++ [p], K, k + 1, by omega, by go_num, Lib.hid ⟨by simp [e1], by omega, ?_, ?_⟩, hw4, hg4⟩, by simp [intOf]; omega⟩
            · rw [List.filter_append, List.filter_cons_of_neg (by simp [isTo, hp4]; omega), List.filter_nil, List.append_nil]
              exact e3
            · intro q hq b hqb hb
              rw [List.mem_append, List.mem_singleton] at hq
              rcases hq with hq | rfl
              · exact e4 q hq b hqb hb
              · have := hd4 b hqb
                have := (own_tag hwW b hb).2.1
                omega
      · obtain rfl : k = l.length := by omega
        obtain ⟨A1, c1, rfl, hc3, hc4⟩ := own_form hw
        go_wp2_with fail
        go_loopw [9] (fun i w2 => ∃ (M : List Pk) (j : Nat), j ≤ K.length ∧ i = .int .i64 j ∧ Hid (M.length = l.length - j ∧ Fits l (M.filter (isTo t0)) (K.drop j)) ∧ w2.ownsRow w.heap.size 5 1 (.slice A1 K.length c1) K.length (bs (K.map UInt8.ofNat)) ∧ NetGo w w2 X 4 M l.length) (fun i _ => K.length - (intOf i).toNat)
        case atStart =>
          obtain ⟨e1, e2, e3, e4⟩ := HL.out
          exact ⟨L, 0, by omega, rfl, Lib.hid ⟨by omega, e3⟩, hw, hg⟩
        case round =>
          have hKn := HL.out.2.1
          clear HL hw hg L
          obtain ⟨L, j, hj, rfl, HL, hw, hg⟩ := hrel
          by_cases hlt2 : j < K.length
          · have hlx2 : (j : Int) < (K.length : Int) := by omega
            obtain ⟨e1, e2⟩ := HL.out
            rw [List.drop_eq_getElem_cons hlt2] at e2
            obtain ⟨p, Q, e3, hfit, e4⟩ := e2.cons
            obtain ⟨kk, hkk, hp1, hp2, hp3, hp4⟩ := first_match t0 L p Q e3
            have htk := take_go hg (Below.refl _ _) hkk (hp1 ▸ hp2) hp3
            have HK : Hid (Fits l ((L.eraseIdx kk).filter (isTo t0)) (K.drop (j + 1)) ∧ (L.eraseIdx kk).length = l.length - (j + 1)) := Lib.hid ⟨by rw [hp4]; exact e4, by rw [List.length_eraseIdx_of_lt hkk]; omega⟩
            have hwant := (Sl.of_own hw)
            have hwc := bs_get (l := K.map UInt8.ofNat) (i := j) (by simpa using hlt2)
            rw [List.getElem_map] at hwc
            generalize L[kk] = q at *
            subst hp1
            generalize K[j] = t at *
            obtain ⟨hq, hq2, hq3⟩ := hfit
            obtain ⟨fr, to, d, dl⟩ := q
            simp only at hp2 hq2 hq3
            subst hp2; subst hq3
            have ht256 : (UInt8.ofNat t).toNat = t := by rw [UInt8.toNat_ofNat']; omega
            rw [ht256] at hwc
            obtain ⟨b0, f0, rfl, hb0, hcell⟩ := hv.at_ (by omega)
            have hx : ∀ W, Below w.heap.size w W → W.cell? ⟨b0, f0 + t, none⟩ = some (.int .u8 (l[t].toNat : Int)) := fun W hW => (hW.cell (p := ⟨b0, f0 + t, none⟩) hb0).trans (hcell t _ (bs_get hq))
            clear hcell
            have hx256 : l[t].toNat < 256 := UInt8.toNat_lt _
            have hbs : bs [l[t], UInt8.ofNat t] = [.int .u8 (l[t].toNat : Int), .int .u8 (t : Int)] := by simp only [bs, List.map_cons, List.map_nil, ht256]
            have htake : Calls Try.prog 22 #[.pointer (some ⟨X, 0, none⟩), .int .i64 t0] wr fun e w' => ∃ A c b1 o1, e = .returned (.tuple #[.agg #[.int .i64 fr, .int .i64 t0, .slice (some ⟨b1, o1, none⟩) 2 c], .bool true]) ∧ A = (some (⟨b1, o1, none⟩ : Addr)) ∧ NetGo w w' X 4 (L.eraseIdx kk) l.length ∧ w'.cell? ⟨b1, o1 + 1, none⟩ = some (.int .u8 (t : Int)) ∧ b1 < w'.heap.size ∧ (2 ≤ c ∧ c ≤ maxLen) ∧ Frame wr wr w' := by
              refine htk.mono ?_
              rintro e w' ⟨rfl, g1, g2, g3⟩
              obtain ⟨A, c, hv2, hcc⟩ := own_form g2.1
              change d = .slice A 2 c at hv2
              subst hv2
              have hsl := g2.sl
              simp only [hbs] at hsl
              obtain ⟨b1, o1, rfl, hb1, hcl⟩ := Sl.at_ (n := 2) hsl (by omega)
              exact ⟨_, c, b1, o1, rfl, rfl, g1, hcl 1 _ rfl, hb1, hcc, g3⟩
            clear htk
            generalize l[t].toNat = x at *
            have hsh := shand3 x hx256
            rw [← hq2] at hsh
            obtain ⟨F, hF4, hF⟩ : ∃ F : Nat, F < 4 ∧ fr = (F : Int) := ⟨x / 4 % 4, by omega, hq2⟩
            subst hF
            clear hq2 e1 e2 e3 e4 hp3 hp4
            obtain ⟨bw, ow, rfl, hbw, _⟩ := hwant.at_ (by omega)
            have hwF : ∀ W' : World, W'.ownsRow w.heap.size 5 1 (.slice (some ⟨bw, ow, none⟩) K.length c1) K.length (bs (K.map UInt8.ofNat)) → W'.cell? ⟨bw, ow + j, none⟩ = some (.int .u8 (t : Int)) := by
              intro W' h'
              obtain ⟨b', o', e, _, hc⟩ := (Sl.of_own h').at_ (by omega)
              injection e with e
              injection e with e5 e6
              subst e5; subst e6
              exact hc j _ hwc
            clear hwant hwc
            have hal1 : ∀ (W : World) o a u, W.cell? a = some u → (W.alloc o).cell? a = some u := fun W o a u h => Lib.cell?_alloc_some o h
            have htlx : (t : Int) < (l.length : Int) := by omega
            go_wp2_with (first
              | (go_at_call 22; with_reducible refine htake.mono ?_; rintro e w4 ⟨A4, c4, b4, o4, rfl, _, hg4, hd4, hb4, hcc4, hf4⟩; have hw4 := own_frame hw hf4; have hy1 := fun o => hal1 _ o _ _ (hwF _ hw4); have hy2 := fun o => hal1 _ o _ _ hd4; have hy3 := fun o => hal1 _ o _ _ (hx _ hg4.bl)))
            go_quiet (fail)
            go_wp2_with fail
            have hbq : Below w4.heap.size w4 ((w4.alloc (.cells #[.int .i64 F, .int .i64 t0, .slice (some ⟨b4, o4, none⟩) 2 c4] 41)).drewN nq) := below_drewN ((Below.refl _ _).alloc (Nat.le_refl _) _) nq
            exact ⟨⟨L.eraseIdx kk, j + 1, by omega, by go_num, Lib.hid ⟨HK.out.2, HK.out.1⟩, owns_below hw4 hbq, hg4.below hbq⟩, by simp [intOf]; omega⟩
          · obtain rfl : j = K.length := by omega
            obtain ⟨e1, e2⟩ := HL.out
            rw [List.drop_length] at e2
            have hno := takeno_go hg (no_match e2.nil)
            have hwS : ∀ W, Below wr.heap.size wr W → Calls Try.prog 14 #[.pointer (some ⟨X, 0, none⟩)] W fun e w' => e = .returned (.int .i64 ((l.length : Int) - K.length)) ∧ W = w' := by
              intro W hW
              have := waiting_go (hg.below hW)
              rwa [show ((L.length : Nat) : Int) = (l.length : Int) - K.length by omega] at this
            have hse : ∀ W, Below wr.heap.size wr W → Calls Try.prog 15 #[.pointer (some ⟨X, 0, none⟩)] W fun e w' => e = .returned (.int .i64 (l.length : Int)) ∧ W = w' := fun W hW => sent_go (hg.below hW)
            have hbl := hg.bl
            have hKx : (K.length : Int) ≤ l.length := by omega
            unfold pk0 at hno
            clear e1 e2
            go_wp2_with (first
              | (go_at_call 22; with_reducible refine hno.mono ?_; rintro e w4 ⟨rfl, hb4⟩; have hb5 := fun o => hb4.alloc hb4.size o; have hw5 := fun o => hwS _ (hb5 o); have hs5 := fun o => hse _ (hb5 o))
              | (go_at_call 14; with_reducible refine (hw5 _).mono ?_; rintro e w' ⟨rfl, rfl⟩)
              | (go_at_call 15; with_reducible refine (hs5 _).mono ?_; rintro e w' ⟨rfl, rfl⟩))
            go_ret
            exact ⟨rfl, hbl.trans ((hb5 _).mono hbl.size)⟩
  · have hlx : 100 < (l.length : Int) := by omega
    go_enter Try.func6, Try.ntmps6
    go_wp2_with (go_at_call 9; refine (known_any _).mono ?_; rintro e w1 ⟨rfl, hb1⟩)
    go_ret
    exact ⟨rfl, hb1⟩
set_option maxRecDepth 100000 in
theorem lifted (os : Os) (started : os.Started) (H : Type) (enc : TypeId × Value → H) :
    ReturnsInHanded {} Try.checked os 6 .any (Rows.netOrderSpec.pre6 enc Try.prog Try.f6 Rows.netOrderRow.domain false) (Rows.netOrderSpec.post enc Try.prog Try.f6 false true false false) := by
  refine returnsInHanded_of_change (C := Try.checked) own started (by kernel_rfl) Try.func6
    (ChangeSpec.witness6 (enc := enc) (C := Try.checked) false ⟨#[], #[.slice none 0 0, .int .u8 0], []⟩ 8 (by kernel_rfl) (by kernel_rfl) (by kernel_rfl) (by kernel_rfl)) ?_
  intro W base args ds gs before hval0 hW hcnd _
  have hval : ∀ (j : Nat) t v, Try.f6.params[j]? = some t → args[j]? = some v → Value.okWide Try.prog W .any base t v := hval0
  have hW' := hW
  obtain ⟨p, q, hA0, hV, rfl, hfz, hnd⟩ := hW
  have hA : DataW.TrodAll enc Try.prog W 0 (fun _ => true) true Try.f6.params.toList args.toList ds p := hA0
  rw [Try.params6] at hA hval
  obtain ⟨v0, vs0, d0, ds0, p0, q0, hargs, rfl, rfl, h0, r0⟩ := trodAll_cons hA
  obtain ⟨v1, vs1, d1, ds1, p1, q1, rfl, rfl, rfl, h1, r1⟩ := trodAll_cons r0
  obtain ⟨rfl, rfl, rfl⟩ := trodAll_nil r1
  obtain rfl : args = #[v0, v1] := by cases args; simp_all
  obtain ⟨rfl, rfl⟩ := trodVars_none hV
  obtain ⟨l0, s0, e0⟩ := open_bytes Try.underlying33 Try.underlying5 (by kernel_rfl) (hval 0 33 v0 rfl rfl) h0
  obtain ⟨a1, rfl, _, _, w1⟩ := open_int Try.underlying5 (hval 1 5 v1 rfl rfl) h1
  have b1 := bounds_u8 w1
  refine (walk v0 l0 a1 W s0 b1.1 b1.2).mono fun e W' ⟨he, hb⟩ => ?_
  subst he
  exact ⟨_, rfl, law_post laidOut (by kernel_rfl) rfl (by kernel_rfl) Try.underlying4 rfl rfl rfl hW' hb⟩

theorem proved : Rows.NetOrderSaid :=
  OpenClaim.holds_of_wide 6 Try.f6 rfl rfl rfl rfl rfl rfl rfl ⟨rfl, rfl, rfl, rfl, rfl⟩ rfl rfl rfl rfl rfl (by kernel_rfl) Try.func6 (by kernel_rfl)
    (of_decide_eq_true (by kernel_rfl)) (by unfold Func.isWrapper; first | (rw [if_pos (by decide +kernel)]; kernel_rfl) | (rw [if_neg (by decide +kernel)]; exact ⟨rfl, rfl⟩))
    (fun os started H enc _ => lifted os started H enc)
end Order
end Go.Proofs.Ytmlimmcaidkoeaa
