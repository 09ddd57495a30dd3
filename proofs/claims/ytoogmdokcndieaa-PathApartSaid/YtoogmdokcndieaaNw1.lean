/- Package node, wire: the writer: number, begin, flag, row, seal. -/
import Derived.Test.YtoogmdokcndieaaPutB
import Derived.Test.YtoogmdokcndieaaSealP
import Derived.Test.YtoogmdokcndieaaMm
import Derived.Test.YtoogmdokcndieaaCalmT
import Derived.Test.YtoogmdokcndieaaCalmI
namespace Go.Proofs.Ytoogmdokcndieaa
open Go.ChangeShapes Go.WideShapes Go.ChangeAt Go.RowKit Go.Lib
set_option linter.unusedVariables false
set_option linter.unusedSimpArgs false
set_option maxRecDepth 100000
namespace Nw
/-- A writer made since o. -/
structure Wr (o w : World) (X : Nat) (l : List UInt8) : Prop where
  from_ : o.heap.size ≤ X
  bl : Below o.heap.size o w
  is : ∃ v, Mem w X 88 #[v] ∧ w.ownsRow o.heap.size 5 1 v l.length (bs l)
/-- All but writers and bytes stays. -/
def FrW (w w' : World) : Prop := w.heap.size ≤ w'.heap.size ∧ ∀ k, k < w.heap.size → (∃ t, Tag w k t ∧ t ≠ 88 ∧ t ≠ 5) → w'.heap[k]? = w.heap[k]?
theorem FrW.of {w w' : World} (h : Below w.heap.size w w') : FrW w w' := ⟨h.size, fun k hk _ => h.block k hk⟩
theorem FrW.mem {w w' : World} (h : FrW w w') {g t : Nat} {cs : Array Value} (hm : Mem w g t cs) (h1 : t ≠ 88) (h2 : t ≠ 5) : Mem w' g t cs := (h.2 g hm.lt ⟨t, mem_tag hm, h1, h2⟩).trans hm
theorem FrW.trans {a b c : World} (h : FrW a b) (k : FrW b c) : FrW a c := ⟨Nat.le_trans h.1 k.1, fun i hi ht => by
  obtain ⟨t, ⟨cs, fr, hT⟩, h1, h2⟩ := ht
  have e := h.2 i hi ⟨t, ⟨cs, fr, hT⟩, h1, h2⟩
  exact (k.2 i (Nat.lt_of_lt_of_le hi h.1) ⟨t, ⟨cs, fr, e.trans hT⟩, h1, h2⟩).trans e⟩
section
variable {o w w' : World} {X : Nat} {l : List UInt8}
theorem Wr.below (h : Wr o w X l) (hb : Below w.heap.size w w') : Wr o w' X l := ⟨h.from_, h.bl.trans (hb.mono h.bl.size), h.is.imp fun v hv => ⟨hv.1.below hb hv.1.lt, owns_below hv.2 hb⟩⟩
set_option maxHeartbeats 2000000 in
theorem number_any (h : Wr o w X l) (x n : Nat) (hx : x < 18446744073709551616) (hn : 1 ≤ n ∧ n ≤ 8) (hl : l.length ≤ 1000000) : Calls Try.prog 36 #[.pointer (some ⟨X, 0, none⟩), .int .u64 (x : Nat), .int .i64 (n : Nat)] w fun e' w' => e' = .returned (.tuple #[]) ∧ Wr o w' X (l ++ be x n) ∧ FrW w w' := by
  obtain ⟨i0, hi, hz0, hz1, hz2⟩ := info_parts info_u8
  obtain ⟨v, hm, ho⟩ := h.is
  obtain ⟨A, c, rfl, hc1, hc2⟩ := own_form ho
  have hbl := h.bl
  have hX := h.from_
  have hlen : (be x n).length = n := be_len x n
  have hp : ∀ W, Calls Try.prog 43 #[.slice none 0 0, .int .u64 (x : Nat), .int .i64 (n : Nat)] W fun e' w' => ∃ v', e' = .returned v' ∧ w'.ownsRow W.heap.size 5 1 v' n (bs (be x n)) ∧ Below W.heap.size W w' := fun W => (put_any (.slice none 0 0) [] x n W Sl.nil_ hx (by simp) (by omega) (by omega)).mono fun e' w' ⟨v', h1, h2, h3⟩ => ⟨v', h1, by
    have e1 : putS [] x (n : Int) = be x n := by unfold putS; rw [if_neg (by omega)]; simp
    rw [e1, hlen] at h2
    exact h2, h3⟩
  have hnx : (n : Int) ≤ 8 := by omega
  have HX := Lib.hid hx
  have HL := Lib.hid hlen
  have HN := Lib.hid hn
  clear hx hlen hn h
  go_enter Try.func36, Try.ntmps36
  go_wp2
  refine wp_region_any (by kernel_rfl) ?_
  change wpAny _ _ _ _ _ _ _ (World.drew _)
  refine wpAny_take (i := 0) (oi := { dst := some 6, op := Op.move (Operand.tmp 0), type := 73, pos := "wire.go:36", after := #[], guard := none }) (v := (.pointer (some ⟨X, 0, none⟩))) rfl (by kernel_rfl) (by kernel_rfl) (by kernel_rfl) (fun _ _ _ h => h) (Or.inl ⟨by rfl, by intro w; go_simp⟩) ?_
  try dsimp only [Act.put]
  try simp only [List.setIfInBounds_toArray, List.set_cons_succ, List.set_cons_zero]
  apply calm_tailI 8 [0] [.is (.pointer (some ⟨X, 0, none⟩)), .is _, .is _, .is _, .is _, .is _, .is _, .of (fun u W => ∃ A c, u = .slice A n c ∧ W.ownsRow w.heap.size 5 1 u n (bs (be x n))) (fun u W W' hb ⟨A, c, hu, h1⟩ => ⟨A, c, hu, owns_below h1 hb⟩)] [[], [], [1], [2], [3], [], [], [5, 6]] (by kernel_rfl) (by kernel_rfl) rfl (by decide) (by intro i hi o ho; obtain rfl := List.mem_singleton.1 hi; obtain rfl := Option.some.inj ho; exact rfl)
  intro f a1 ha1
  simp only [List.take_succ_cons, List.take_zero, putL, Act.put, List.setIfInBounds_toArray, List.set_cons_succ, List.set_cons_zero] at ha1
  subst ha1
  refine ⟨?_, ?_⟩
  · refine AllCalm.cons (fun W hB hd => ?_) ?_
    · go_wp2_with (fail)
      exact CalmQ.mk rfl _ rfl (Below.refl _ _) rfl
    refine AllCalm.cons (fun W hB hd => ?_) ?_
    · go_wp2_with (fail)
      exact CalmQ.mk rfl _ rfl (Below.refl _ _) rfl
    refine AllCalm.cons (fun W hB hd => ?_) ?_
    · obtain ⟨h1, -⟩ := hd
      have h1 : f 1 = _ := h1
      rw [h1]
      go_wp2_with (fail)
      exact CalmQ.mk rfl _ rfl (Below.refl _ _) rfl
    refine AllCalm.cons (fun W hB hd => ?_) ?_
    · obtain ⟨h2, -⟩ := hd
      have h2 : f 2 = _ := h2
      rw [h2]
      go_wp2_with (fail)
      exact CalmQ.mk rfl _ rfl (Below.refl _ _) rfl
    refine AllCalm.cons (fun W hB hd => ?_) ?_
    · obtain ⟨h3, -⟩ := hd
      have h3 : f 3 = _ := h3
      rw [h3]
      have k0 := (hm.below ((Below.refl _ w).drew.trans hB) hm.lt).cell 0
      go_wp2_with (fail)
      exact CalmQ.mk rfl _ rfl (Below.refl _ _) rfl
    refine AllCalm.cons (fun W hB hd => ?_) ?_
    · go_wp2_with (fail)
      exact CalmQ.mk rfl _ rfl (Below.refl _ _) rfl
    refine AllCalm.cons (fun W hB hd => ?_) ?_
    · go_wp2_with (fail)
      exact CalmQ.mk rfl _ rfl (Below.refl _ _) rfl
    refine AllCalm.cons (fun W hB hd => ?_) ?_
    · obtain ⟨h5, h6, -⟩ := hd
      have h5 : f 5 = _ := h5
      have h6 : f 6 = _ := h6
      rw [h5, h6]
      go_wp2_with ((go_at_call 43; (with_reducible refine (hp _).mono ?_); rintro e' w3 ⟨v3, rfl, ho3, hb3⟩; obtain ⟨A3, c3, rfl, _, _⟩ := own_form ho3; have ho3' := owns_mono ho3 hB.size))
      exact CalmQ.mk rfl _ rfl hb3 ⟨A3, c3, rfl, ho3'⟩
    exact AllCalm.nil
  · intro W hB hT
    obtain ⟨h0, h1, h2, h3, h4, h5, h6, h7, -⟩ := hT
    have h0 : f 0 = _ := h0
    have h1 : f 1 = _ := h1
    have h2 : f 2 = _ := h2
    have h3 : f 3 = _ := h3
    have h4 : f 4 = _ := h4
    have h5 : f 5 = _ := h5
    have h6 : f 6 = _ := h6
    rw [h0, h1, h2, h3, h4, h5, h6]
    clear h0 h1 h2 h3 h4 h5 h6
    simp only [List.drop_succ_cons, List.drop_zero]
    have hB := (Below.refl _ w).drew.trans hB
    obtain ⟨A7, c7, e7, ho7⟩ := h7
    rw [e7] at ho7 ⊢
    have hmW := hm.below hB hm.lt
    have hoW := owns_below ho hB
    have hbW := hbl.trans (hB.mono hbl.size)
    have hs7 := Sl.of_own ho7
    clear h1 h2 h3 h4 h5 h6 e7
    go_wp2_with (at_builtin; (refine wpList_append_sl _ rfl (.tmp 10) (.tmp 13) _ rfl o.heap.size 5 i0 _ Try.underlying28 hi hz0 hz1 (by omega) rfl (.slice A l.length c) l.length (bs l) rfl hoW W.heap.size (.slice A7 n c7) n (bs (be x n)) rfl hs7 bs_one (by omega) hbW.size ?_); intro v8 w8 ho8 hg8 hat8; have he8 := eff_grown hg8; have m8 := hmW.eff he8 (fun hk => (own_tag hoW _ hk).2.2.ne (mem_tag hmW) (by decide) rfl); have b8 := below_own hbW hg8 hbW.size (fun k hk => (own_tag hoW k hk).1); have u8 := m8.cell 0; have f8 := m8.free 0; obtain ⟨A8, c8, rfl, _, _⟩ := own_form ho8)
    refine bodyPost_end (v := .tuple #[]) (by simp [results, Try.results36, go_sem]) rfl ?_
    have ho9 := ownsRow_len ho8 (show _ = (l ++ be x n).length by rw [List.length_append, HL.out]) (show _ = bs (l ++ be x n) by rw [bs_app])
    have heX : Eff (fun k => k = X) w8 (w8.setCell ⟨X, 0, none⟩ (.slice A8 (l.length + n) c8)) := Eff.setCell (S := fun k => k = X) (Eff.refl _ _) (p := ⟨X, 0, none⟩) rfl _
    refine ⟨rfl, ⟨hX, b8.setCell hX _, _, m8.put 0 _, ?_⟩, Nat.le_trans hB.size (Nat.le_trans he8.size heX.size), fun k hk ht => ?_⟩
    · exact owns_eff ho9 heX fun k hk hX' => by
        subst hX'
        exact (own_tag ho9 _ hk).2.2.ne (mem_tag m8) (by decide) rfl
    · obtain ⟨t, ht, h1, h2⟩ := ht
      have htW : Tag W k t := by obtain ⟨cs, fr, q⟩ := ht; exact ⟨cs, fr, (hB.block k hk).trans q⟩
      have e1 := he8.block k (Nat.lt_of_lt_of_le hk hB.size) fun q => htW.ne (own_tag hoW k q).2.2 h2 rfl
      have ht8 : Tag w8 k t := by obtain ⟨cs, fr, q⟩ := htW; exact ⟨cs, fr, e1.trans q⟩
      have e2 := heX.block k (Nat.lt_of_lt_of_le hk (Nat.le_trans hB.size he8.size)) fun q => by subst q; exact ht8.ne (mem_tag m8) h1 rfl
      exact e2.trans (e1.trans (hB.block k hk))
end
end Nw
end Go.Proofs.Ytoogmdokcndieaa
