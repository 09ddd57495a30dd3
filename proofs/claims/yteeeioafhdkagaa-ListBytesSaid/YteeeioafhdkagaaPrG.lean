/- The document's second telling of keys (gemelref6): ParseKeys. -/
import Derived.Test.YteeeioafhdkagaaPrF
namespace Go.Proofs.Yteeeioafhdkagaa
open Go.ChangeShapes Go.WideShapes Go.ChangeAt Go.RowKit
set_option linter.unusedVariables false
theorem catK_firstK (r : List UInt8) : ∀ k, 8 * k ≤ r.length → catK (firstK r k) = r.take (8 * k) := by
  intro k
  induction k with
  | zero => intro _; rfl
  | succ k ih =>
    intro h
    rw [firstK_succ, catK_snoc, ih (by omega), be_beVal (by rw [List.length_take, List.length_drop]; omega), show 8 * (k + 1) = 8 * k + 8 by omega, List.take_add]
theorem pkE_short {l : List UInt8} (h : l.length < 8 ∨ l.length - 8 < beVal ((l.drop 4).take 4)) : pkE l = 3 := by
  have hf : frontE l = 3 := by
    unfold frontE
    by_cases h8 : l.length < 8
    · rw [if_pos h8]
    · rw [if_neg h8, if_pos (h.resolve_left h8)]
  unfold pkE
  rw [hf, if_pos (by omega)]
theorem pk_two {l : List UInt8} (h8 : 8 ≤ l.length) (hm : beVal ((l.drop 4).take 4) ≤ l.length - 8) : pkE l = 0 ∨ pkE l = 2 := by
  unfold pkE
  rcases frontE_long h8 hm with h | h
  · rw [if_neg (by omega)]
    split
    · right; rfl
    · left; rfl
  · right; rw [h.1, if_pos (by omega)]
theorem pk_same {l : List UInt8} {k : Nat} (h8 : 8 ≤ l.length) (hm : beVal ((l.drop 4).take 4) ≤ l.length - 8) (hk : (k = 17 ∧ 136 ≤ l.length - 8) ∨ (k ≤ 16 ∧ k = (l.length - 8) / 8)) (h0 : pkE l = 0) :
    keysS (beVal (l.take 4)) ((firstK (l.drop 8) k).take 16) = l ∧ firstK (l.drop 8) k = cutK (l.drop 8) := by
  unfold pkE at h0
  rcases frontE_long h8 hm with h | h
  · rw [if_neg (by omega)] at h0
    by_cases hc : (l.length - 8) % 8 ≠ 0 ∨ 128 < l.length - 8
    · rw [if_pos hc] at h0; cases h0
    · have hk2 : k = (l.length - 8) / 8 ∧ k ≤ 16 := by omega
      have hrl : (l.drop 8).length = l.length - 8 := List.length_drop ..
      have hb := head_back h8
      refine ⟨?_, ?_⟩
      · have ht : (firstK (l.drop 8) k).take 16 = firstK (l.drop 8) k := List.take_of_length_le (by rw [firstK_len]; omega)
        have ht2 : (l.drop 8).take (l.length - 8) = l.drop 8 := List.take_of_length_le (by omega)
        rw [ht]
        unfold keysS
        rw [firstK_len, catK_firstK _ _ (by rw [hrl]; omega), show 8 * k = l.length - 8 by omega, ht2]
        rw [h.2] at hb
        exact hb
      · unfold cutK firstK
        rw [hrl, hk2.1]
  · rw [h.1, if_pos (by omega)] at h0
    cases h0
theorem pk_back {l : List UInt8} {g : Nat} {L : List Nat} (hL : L.length ≤ 16) (h : keysS g L = l) : pkE l = 0 := by
  have := keysS_pk g L hL
  rw [h] at this
  exact this
set_option maxHeartbeats 4000000 in
theorem rParseKeys_any (v : Value) (l : List UInt8) (w : World) (hv : Sl w w.heap.size v l.length (bs l)) (hl : l.length ≤ 100000) :
    Calls Try.prog 18 #[v] w fun e w' => ∃ (g : Nat) (vr : Value) (err : Nat), e = .returned (.tuple #[.int .u32 g, vr, .int .i64 err]) ∧ err = pkE l ∧ (pkE l = 0 → g = beVal (l.take 4) ∧ Sl w' w'.heap.size vr (cutK (l.drop 8)).length (u64s (cutK (l.drop 8)))) ∧ (pkE l ≠ 0 → g = 0 ∧ vr = .slice none 0 0) ∧ Below w.heap.size w w' := by
  obtain ⟨A, c, rfl, hc1, hc2⟩ := hv.form
  unfold maxLen at hc2
  obtain ⟨i0, hi, hz0, hz1, hz2⟩ := info_parts (show (Try.prog.info? 25).map (fun i => (i.zero, i.size, i.bytes)) = some (some (.int .u64 0), 1, 8) by kernel_rfl)
  have hno3 : ∀ W, Below w.heap.size w W → pkE l = 3 → ∃ (g : Nat) (vr : Value) (err : Nat), Ending.returned (.tuple #[.int .u32 0, .slice none 0 0, .int .i64 3]) = .returned (.tuple #[.int .u32 g, vr, .int .i64 err]) ∧ err = pkE l ∧ (pkE l = 0 → g = beVal (l.take 4) ∧ Sl W W.heap.size vr (cutK (l.drop 8)).length (u64s (cutK (l.drop 8)))) ∧ (pkE l ≠ 0 → g = 0 ∧ vr = .slice none 0 0) ∧ Below w.heap.size w W :=
    fun W hB h => ⟨0, _, 3, rfl, h.symm, fun h2 => (by rw [h] at h2; cases h2), fun _ => ⟨rfl, rfl⟩, hB⟩
  have hno2 : ∀ W, Below w.heap.size w W → pkE l = 2 → ∃ (g : Nat) (vr : Value) (err : Nat), Ending.returned (.tuple #[.int .u32 0, .slice none 0 0, .int .i64 2]) = .returned (.tuple #[.int .u32 g, vr, .int .i64 err]) ∧ err = pkE l ∧ (pkE l = 0 → g = beVal (l.take 4) ∧ Sl W W.heap.size vr (cutK (l.drop 8)).length (u64s (cutK (l.drop 8)))) ∧ (pkE l ≠ 0 → g = 0 ∧ vr = .slice none 0 0) ∧ Below w.heap.size w W :=
    fun W hB h => ⟨0, _, 2, rfl, h.symm, fun h2 => (by rw [h] at h2; cases h2), fun _ => ⟨rfl, rfl⟩, hB⟩
  by_cases h8 : l.length < 8
  · have h8' : (l.length : Int) < 8 := by omega
    have HP := Lib.hid (hno3 w (Below.refl _ _) (pkE_short (.inl h8)))
    clear hno3 hno2
    go_enter Try.func18, Try.ntmps18
    go_wp2
    exact bodyPost_ret (v := .tuple #[.int .u32 0, .slice none 0 0, .int .i64 3]) (by simp [results, Try.results18, go_sem]) rfl HP.out
  · have h8' : ¬ (l.length : Int) < 8 := by omega
    have g1 := rget_b _ l 0 4 0 4 rfl rfl _ hv (by omega) (by omega) (by omega) (by omega)
    have g2 := rget_b _ l 4 4 4 4 rfl rfl _ hv (by omega) (by omega) (by omega) (by omega)
    rw [List.drop_zero] at g1
    have hg : beVal (l.take 4) < 4294967296 := beVal_lt' 4 _ (by simp; omega)
    have hm : beVal ((l.drop 4).take 4) < 4294967296 := beVal_lt' 4 _ (by simp; omega)
    have f1 := fun h => pkE_short (l := l) (.inr h)
    have f2 := pk_two (l := l) (by omega)
    have f3 := fun k => pk_same (l := l) (k := k) (by omega)
    have hrl : (l.drop 8).length = l.length - 8 := List.length_drop ..
    have hdd : ∀ k, (l.drop (8 + 8 * k)).take 8 = ((l.drop 8).drop (8 * k)).take 8 := fun k => by rw [List.drop_drop]
    have hgets : ∀ W k, Below w.heap.size w W → 8 + 8 * k + 8 ≤ l.length → Calls Try.prog 38 #[.slice A l.length c, .int .i64 (8 + 8 * (k : Int)), .int .i64 8] W fun e w' => e = .returned (.tuple #[.int .u64 (beVal (((l.drop 8).drop (8 * k)).take 8)), .bool true]) ∧ W = w' := by
      intro W k hB hk
      have h := rget_b _ l (8 + 8 * (k : Int)) 8 (8 + 8 * k) 8 (by omega) rfl W (hv.now hB) (by omega) (by omega) (by omega) (by omega)
      rw [hdd] at h
      exact h
    have kv : ∀ W, Below w.heap.size w W → (convert 24 9 (.slice A l.length c)).run Try.prog W = .ok (.string ⟨l.toArray⟩) W := fun W hW =>
      bytes_str _ _ _ _ Try.underlying24 Try.underlying5 Try.underlying9 _ _ l _ (hv.now hW)
    generalize l.drop 8 = r at *
    generalize beVal (l.take 4) = G at *
    generalize beVal ((l.drop 4).take 4) = M at *
    have hw1 : IntKind.i64.wrap ((l.length : Int) - 8) = (l.length : Int) - 8 := IntWalk.i64_in _ (by omega)
    have hw2 : IntKind.u64.wrap ((l.length : Int) - 8) = (l.length : Int) - 8 := by rw [IntKind.wrap_u64]; omega
    have hwg : IntKind.u32.wrap (G : Int) = G := by rw [IntKind.wrap_u32]; omega
    by_cases hM : l.length - 8 < M
    · have hM' : (l.length : Int) - 8 < M := by omega
      have HP := Lib.hid (hno3 w (Below.refl _ _) (f1 hM))
      clear f1 f2 f3 hno3 hno2 hgets hdd kv
      go_enter Try.func18, Try.ntmps18
      go_wp2_with (first
        | (go_at_call 38; with_reducible refine g1.mono ?_; rintro e w' ⟨rfl, rfl⟩)
        | (go_at_call 38; with_reducible refine g2.mono ?_; rintro e w' ⟨rfl, rfl⟩))
      exact bodyPost_ret (v := .tuple #[.int .u32 0, .slice none 0 0, .int .i64 3]) (by simp [results, Try.results18, go_sem]) rfl HP.out
    · have hM' : ¬ (l.length : Int) - 8 < M := by omega
      have F2 := Lib.hid (f2 (by omega))
      have F3 := Lib.hid (fun k => f3 k (by omega))
      have N2 := Lib.hid hno2
      have RL := Lib.hid hrl
      clear f1 f2 f3 hno3 hno2 hdd hrl
      go_enter Try.func18, Try.ntmps18
      go_wp2_with (first
        | (go_at_call 38; with_reducible refine g1.mono ?_; rintro e w' ⟨rfl, rfl⟩)
        | (go_at_call 38; with_reducible refine g2.mono ?_; rintro e w' ⟨rfl, rfl⟩))
      go_loopw [9, 10] (fun lv at_ wr => ∃ k : Nat, at_ = .int .i64 (8 + 8 * k) ∧ 8 * k ≤ r.length ∧ k ≤ 17 ∧ wr.ownsRow w.heap.size 25 1 lv k (u64s (firstK r k)) ∧ Below w.heap.size w wr) (fun _ at_ _ => l.length + 8 - (intOf at_).toNat)
      case atStart => exact ⟨0, rfl, by omega, by omega, World.ownsRow_nil _ _ _ _, Below.refl _ _⟩
      case round =>
        obtain ⟨k, rfl, hk, hk17, hown, hb⟩ := hrel
        obtain ⟨A1, c1, rfl, hc3, hc4⟩ := (Sl.of_own hown).form
        have hrl := RL.out
        have hw8 : IntKind.i64.wrap (8 + 8 * (k : Int) + 8) = 8 + 8 * (k : Int) + 8 := IntWalk.i64_in _ (by omega)
        by_cases hmore : 8 + 8 * k + 8 ≤ l.length ∧ k ≤ 16
        · have gn := hgets wr k hb hmore.1
          have hm1 : 8 + 8 * (k : Int) + 8 ≤ l.length := by omega
          have hm2 : (k : Int) ≤ 16 := by omega
          have hsc := firstK_succ r k
          generalize beVal ((r.drop (8 * k)).take 8) = key at *
          have hal : w.heap.size ≤ (wr.alloc (.cells #[.int .u64 (key : Int)] 25)).heap.size := (hb.alloc hb.size _).size
          have hnw := cells_new1 wr 25 (.int .u64 (key : Int))
          have hk8 : 8 * (k + 1) ≤ r.length := by omega
          have hk1 : k + 1 ≤ 17 := by omega
          clear hmore hrl kv hgets
          go_wp2_with (first
            | (go_at_call 38; with_reducible refine gn.mono ?_; rintro e w' ⟨rfl, rfl⟩)
            | (at_builtin; (with_reducible refine wpList_append_own _ rfl (.tmp 50) (.tmp 52) _ rfl w.heap.size 25 i0 _ 1 8 Try.underlying43 hi hz0 hz1 hz2 rfl (by decide) (.slice A1 k c1) k (u64s (firstK r k)) rfl (hown.alloc _) ⟨wr.heap.size, 0, none⟩ 1 1 [.int .u64 (key : Int)] rfl rfl hnw (by simp [Value.oneCell']) (by unfold maxLen; omega) (by omega) hal ?_; intro v1 w1 ho1 hg1 _)))
          have hb1 : Below w.heap.size w w1 := below_own (hb.alloc hb.size _) hg1 hal (fun k hk => (hown.lt k hk).1)
          have ho2 : w1.ownsRow w.heap.size 25 1 v1 (k + 1) (u64s (firstK r (k + 1))) := by
            rw [hsc, u64s_app]
            exact ho1
          refine ⟨⟨k + 1, by go_num, hk8, hk1, ho2, hb1⟩, by simp [intOf]; omega⟩
        · have hK : (k = 17 ∧ 136 ≤ l.length - 8) ∨ (k ≤ 16 ∧ k = (l.length - 8) / 8) := by omega
          have hs := Sl.of_own hown
          have h64 : ∀ x ∈ firstK r k, x < 18446744073709551616 := by
            intro x hx
            unfold firstK at hx
            obtain ⟨i, _, rfl⟩ := List.mem_map.1 hx
            exact beVal_lt' 8 _ (by simp; omega)
          have h16 : ((firstK r k).take 16).length ≤ 16 := by rw [List.length_take]; omega
          have cK : ∀ W, Below wr.heap.size wr W → Calls Try.prog 25 #[.int .u32 G, .slice A1 k c1] W fun e w' => ∃ v', e = .returned v' ∧ Sl w' w'.heap.size v' (keysS G ((firstK r k).take 16)).length (bs (keysS G ((firstK r k).take 16))) ∧ Below W.heap.size W w' :=
            fun W hB => rKeys_any G _ (firstK r k) W hg (by rw [firstK_len]; exact hs.now hB) h64
          have F4 := Lib.hid (pk_back (l := l) (g := G) h16)
          have hkv : ∀ W, Below wr.heap.size wr W → (convert 24 9 (.slice A l.length c)).run Try.prog W = .ok (.string ⟨l.toArray⟩) W := fun W hW => kv W (hb.trans (hW.mono hb.size))
          have HK := Lib.hid hK
          have hs1 : Sl wr wr.heap.size (.slice A1 k c1) (firstK r k).length (u64s (firstK r k)) := by rw [firstK_len]; exact hs
          have F5 : Hid (pkE l = 0 → firstK r k = cutK r) := Lib.hid fun h => (F3.out k hK h).2
          have hdec : (keysS G ((firstK r k).take 16) == l) = true ∧ pkE l = 0 ∨ (keysS G ((firstK r k).take 16) == l) = false ∧ pkE l = 2 := by
            rcases F2.out with h | h
            · left; exact ⟨by rw [beq_iff_eq]; exact (F3.out k hK h).1, h⟩
            · right
              refine ⟨?_, h⟩
              rw [beq_eq_false_iff_ne]
              intro he
              have := F4.out he
              omega
          generalize keysS G ((firstK r k).take 16) = ks at *
          have kr : ∀ W v, Sl W W.heap.size v ks.length (bs ks) → (convert 24 9 v).run Try.prog W = .ok (.string ⟨ks.toArray⟩) W := fun W v h =>
            bytes_str _ _ _ _ Try.underlying24 Try.underlying5 Try.underlying9 _ _ ks _ h
          have HC : Hid (∀ W, Below wr.heap.size wr W → pkE l = 0 → ∃ (g : Nat) (vr : Value) (err : Nat), Ending.returned (.tuple #[.int .u32 (G : Nat), .slice A1 k c1, .int .i64 0]) = .returned (.tuple #[.int .u32 g, vr, .int .i64 err]) ∧ err = pkE l ∧ (pkE l = 0 → g = G ∧ Sl W W.heap.size vr (cutK r).length (u64s (cutK r))) ∧ (pkE l ≠ 0 → g = 0 ∧ vr = .slice none 0 0) ∧ Below w.heap.size w W) := Lib.hid fun W hW h => by
            refine ⟨G, _, 0, rfl, h.symm, fun _ => ⟨rfl, ?_⟩, fun h2 => absurd h h2, hb.trans (hW.mono hb.size)⟩
            rw [← F5.out h]
            exact hs1.now hW
          have HN : Hid (∀ W, Below wr.heap.size wr W → pkE l = 2 → ∃ (g : Nat) (vr : Value) (err : Nat), Ending.returned (.tuple #[.int .u32 0, .slice none 0 0, .int .i64 2]) = .returned (.tuple #[.int .u32 g, vr, .int .i64 err]) ∧ err = pkE l ∧ (pkE l = 0 → g = G ∧ Sl W W.heap.size vr (cutK r).length (u64s (cutK r))) ∧ (pkE l ≠ 0 → g = 0 ∧ vr = .slice none 0 0) ∧ Below w.heap.size w W) := Lib.hid fun W hW h => N2.out W (hb.trans (hW.mono hb.size)) h
          clear hs hs1 h64 F4 kv hgets hK F5 F3 F2 N2 h16
          have hend : (8 + 8 * (k : Int) + 8 ≤ l.length ∧ ¬ (k : Int) ≤ 16) ∨ ¬ 8 + 8 * (k : Int) + 8 ≤ l.length := by omega
          rcases hdec with ⟨hq, hp⟩ | ⟨hq, hp⟩
          · have HP := Lib.hid hp
            clear hp HN
            rcases hend with ⟨he1, he2⟩ | he1
            · go_wp2_with fail
              apply calm_region [.is _, .is _, .is _, .sl ks.length (bs ks), .is _, .is _, .is _, .is _] [[], [0], [], [1, 2], [3], [], [5], [4, 6]] (by kernel_rfl) (by kernel_rfl) (by kernel_rfl) rfl
              intro f a1 ha1
              simp only [putL, Act.put, List.setIfInBounds_toArray, List.set_cons_succ, List.set_cons_zero] at ha1
              subst ha1
              refine ⟨?_, ?_⟩
              · refine AllCalm.cons (fun W hB hd => ?_) ?_
                · go_wp2_with (fail)
                  exact CalmQ.mk rfl _ rfl (Below.refl _ _) rfl
                refine AllCalm.cons (fun W hB hd => ?_) ?_
                · obtain ⟨h0, -⟩ := hd
                  have h0 : f 0 = _ := h0
                  rw [h0]
                  go_wp2_with (fail)
                  exact CalmQ.mk rfl _ rfl (Below.refl _ _) rfl
                refine AllCalm.cons (fun W hB hd => ?_) ?_
                · go_wp2_with (fail)
                  exact CalmQ.mk rfl _ rfl (Below.refl _ _) rfl
                refine AllCalm.cons (fun W hB hd => ?_) ?_
                · obtain ⟨h1, h2, -⟩ := hd
                  have h1 : f 1 = _ := h1
                  have h2 : f 2 = _ := h2
                  rw [h1, h2]
                  go_wp2_with ((go_at_call 25; with_reducible refine (cK W hB).mono ?_; rintro e w2 ⟨v2, rfl, hs2, hb2⟩))
                  exact CalmQ.mk rfl _ rfl hb2 hs2
                refine AllCalm.cons (fun W hB hd => ?_) ?_
                · obtain ⟨h3, -⟩ := hd
                  have h3 : Sl W W.heap.size (f 3) _ _ := h3
                  have kx := kr _ _ h3
                  go_wp2_with (fail)
                  exact CalmQ.mk rfl _ rfl (Below.refl _ _) rfl
                refine AllCalm.cons (fun W hB hd => ?_) ?_
                · go_wp2_with (fail)
                  exact CalmQ.mk rfl _ rfl (Below.refl _ _) rfl
                refine AllCalm.cons (fun W hB hd => ?_) ?_
                · obtain ⟨h5, -⟩ := hd
                  have h5 : f 5 = _ := h5
                  rw [h5]
                  have kx := hkv W hB
                  go_wp2_with (fail)
                  exact CalmQ.mk rfl _ rfl (Below.refl _ _) rfl
                refine AllCalm.cons (fun W hB hd => ?_) ?_
                · obtain ⟨h4, h6, -⟩ := hd
                  have h4 : f 4 = _ := h4
                  have h6 : f 6 = _ := h6
                  rw [h4, h6]
                  go_wp2_with (fail)
                  exact CalmQ.mk rfl _ rfl (Below.refl _ _) rfl
                exact AllCalm.nil
              · intro W hB hT
                obtain ⟨h0, h1, h2, h3, h4, h5, h6, h7, -⟩ := hT
                have h0 : f 0 = _ := h0
                have h1 : f 1 = _ := h1
                have h2 : f 2 = _ := h2
                have h3 : Sl W W.heap.size (f 3) _ _ := h3
                have h4 : f 4 = _ := h4
                have h5 : f 5 = _ := h5
                have h6 : f 6 = _ := h6
                have h7 : f 7 = _ := h7
                rw [h0, h1, h2, h4, h5, h6, h7]
                clear h0 h1 h2 h4 h5 h6 h7
                go_wp2_with fail
                exact bodyPost_ret (v := .tuple #[.int .u32 (G : Nat), .slice A1 k c1, .int .i64 0]) (by simp [results, Try.results18, go_sem]) rfl (HC.out W hB HP.out)
            · go_wp2_with fail
              apply calm_region [.is _, .is _, .is _, .sl ks.length (bs ks), .is _, .is _, .is _, .is _] [[], [0], [], [1, 2], [3], [], [5], [4, 6]] (by kernel_rfl) (by kernel_rfl) (by kernel_rfl) rfl
              intro f a1 ha1
              simp only [putL, Act.put, List.setIfInBounds_toArray, List.set_cons_succ, List.set_cons_zero] at ha1
              subst ha1
              refine ⟨?_, ?_⟩
              · refine AllCalm.cons (fun W hB hd => ?_) ?_
                · go_wp2_with (fail)
                  exact CalmQ.mk rfl _ rfl (Below.refl _ _) rfl
                refine AllCalm.cons (fun W hB hd => ?_) ?_
                · obtain ⟨h0, -⟩ := hd
                  have h0 : f 0 = _ := h0
                  rw [h0]
                  go_wp2_with (fail)
                  exact CalmQ.mk rfl _ rfl (Below.refl _ _) rfl
                refine AllCalm.cons (fun W hB hd => ?_) ?_
                · go_wp2_with (fail)
                  exact CalmQ.mk rfl _ rfl (Below.refl _ _) rfl
                refine AllCalm.cons (fun W hB hd => ?_) ?_
                · obtain ⟨h1, h2, -⟩ := hd
                  have h1 : f 1 = _ := h1
                  have h2 : f 2 = _ := h2
                  rw [h1, h2]
                  go_wp2_with ((go_at_call 25; with_reducible refine (cK W hB).mono ?_; rintro e w2 ⟨v2, rfl, hs2, hb2⟩))
                  exact CalmQ.mk rfl _ rfl hb2 hs2
                refine AllCalm.cons (fun W hB hd => ?_) ?_
                · obtain ⟨h3, -⟩ := hd
                  have h3 : Sl W W.heap.size (f 3) _ _ := h3
                  have kx := kr _ _ h3
                  go_wp2_with (fail)
                  exact CalmQ.mk rfl _ rfl (Below.refl _ _) rfl
                refine AllCalm.cons (fun W hB hd => ?_) ?_
                · go_wp2_with (fail)
                  exact CalmQ.mk rfl _ rfl (Below.refl _ _) rfl
                refine AllCalm.cons (fun W hB hd => ?_) ?_
                · obtain ⟨h5, -⟩ := hd
                  have h5 : f 5 = _ := h5
                  rw [h5]
                  have kx := hkv W hB
                  go_wp2_with (fail)
                  exact CalmQ.mk rfl _ rfl (Below.refl _ _) rfl
                refine AllCalm.cons (fun W hB hd => ?_) ?_
                · obtain ⟨h4, h6, -⟩ := hd
                  have h4 : f 4 = _ := h4
                  have h6 : f 6 = _ := h6
                  rw [h4, h6]
                  go_wp2_with (fail)
                  exact CalmQ.mk rfl _ rfl (Below.refl _ _) rfl
                exact AllCalm.nil
              · intro W hB hT
                obtain ⟨h0, h1, h2, h3, h4, h5, h6, h7, -⟩ := hT
                have h0 : f 0 = _ := h0
                have h1 : f 1 = _ := h1
                have h2 : f 2 = _ := h2
                have h3 : Sl W W.heap.size (f 3) _ _ := h3
                have h4 : f 4 = _ := h4
                have h5 : f 5 = _ := h5
                have h6 : f 6 = _ := h6
                have h7 : f 7 = _ := h7
                rw [h0, h1, h2, h4, h5, h6, h7]
                clear h0 h1 h2 h4 h5 h6 h7
                go_wp2_with fail
                exact bodyPost_ret (v := .tuple #[.int .u32 (G : Nat), .slice A1 k c1, .int .i64 0]) (by simp [results, Try.results18, go_sem]) rfl (HC.out W hB HP.out)
          · have HP := Lib.hid hp
            clear hp HC
            rcases hend with ⟨he1, he2⟩ | he1
            · go_wp2_with fail
              apply calm_region [.is _, .is _, .is _, .sl ks.length (bs ks), .is _, .is _, .is _, .is _] [[], [0], [], [1, 2], [3], [], [5], [4, 6]] (by kernel_rfl) (by kernel_rfl) (by kernel_rfl) rfl
              intro f a1 ha1
              simp only [putL, Act.put, List.setIfInBounds_toArray, List.set_cons_succ, List.set_cons_zero] at ha1
              subst ha1
              refine ⟨?_, ?_⟩
              · refine AllCalm.cons (fun W hB hd => ?_) ?_
                · go_wp2_with (fail)
                  exact CalmQ.mk rfl _ rfl (Below.refl _ _) rfl
                refine AllCalm.cons (fun W hB hd => ?_) ?_
                · obtain ⟨h0, -⟩ := hd
                  have h0 : f 0 = _ := h0
                  rw [h0]
                  go_wp2_with (fail)
                  exact CalmQ.mk rfl _ rfl (Below.refl _ _) rfl
                refine AllCalm.cons (fun W hB hd => ?_) ?_
                · go_wp2_with (fail)
                  exact CalmQ.mk rfl _ rfl (Below.refl _ _) rfl
                refine AllCalm.cons (fun W hB hd => ?_) ?_
                · obtain ⟨h1, h2, -⟩ := hd
                  have h1 : f 1 = _ := h1
                  have h2 : f 2 = _ := h2
                  rw [h1, h2]
                  go_wp2_with ((go_at_call 25; with_reducible refine (cK W hB).mono ?_; rintro e w2 ⟨v2, rfl, hs2, hb2⟩))
                  exact CalmQ.mk rfl _ rfl hb2 hs2
                refine AllCalm.cons (fun W hB hd => ?_) ?_
                · obtain ⟨h3, -⟩ := hd
                  have h3 : Sl W W.heap.size (f 3) _ _ := h3
                  have kx := kr _ _ h3
                  go_wp2_with (fail)
                  exact CalmQ.mk rfl _ rfl (Below.refl _ _) rfl
                refine AllCalm.cons (fun W hB hd => ?_) ?_
                · go_wp2_with (fail)
                  exact CalmQ.mk rfl _ rfl (Below.refl _ _) rfl
                refine AllCalm.cons (fun W hB hd => ?_) ?_
                · obtain ⟨h5, -⟩ := hd
                  have h5 : f 5 = _ := h5
                  rw [h5]
                  have kx := hkv W hB
                  go_wp2_with (fail)
                  exact CalmQ.mk rfl _ rfl (Below.refl _ _) rfl
                refine AllCalm.cons (fun W hB hd => ?_) ?_
                · obtain ⟨h4, h6, -⟩ := hd
                  have h4 : f 4 = _ := h4
                  have h6 : f 6 = _ := h6
                  rw [h4, h6]
                  go_wp2_with (fail)
                  exact CalmQ.mk rfl _ rfl (Below.refl _ _) rfl
                exact AllCalm.nil
              · intro W hB hT
                obtain ⟨h0, h1, h2, h3, h4, h5, h6, h7, -⟩ := hT
                have h0 : f 0 = _ := h0
                have h1 : f 1 = _ := h1
                have h2 : f 2 = _ := h2
                have h3 : Sl W W.heap.size (f 3) _ _ := h3
                have h4 : f 4 = _ := h4
                have h5 : f 5 = _ := h5
                have h6 : f 6 = _ := h6
                have h7 : f 7 = _ := h7
                rw [h0, h1, h2, h4, h5, h6, h7]
                clear h0 h1 h2 h4 h5 h6 h7
                go_wp2_with fail
                exact bodyPost_ret (v := .tuple #[.int .u32 0, .slice none 0 0, .int .i64 2]) (by simp [results, Try.results18, go_sem]) rfl (HN.out W hB HP.out)
            · go_wp2_with fail
              apply calm_region [.is _, .is _, .is _, .sl ks.length (bs ks), .is _, .is _, .is _, .is _] [[], [0], [], [1, 2], [3], [], [5], [4, 6]] (by kernel_rfl) (by kernel_rfl) (by kernel_rfl) rfl
              intro f a1 ha1
              simp only [putL, Act.put, List.setIfInBounds_toArray, List.set_cons_succ, List.set_cons_zero] at ha1
              subst ha1
              refine ⟨?_, ?_⟩
              · refine AllCalm.cons (fun W hB hd => ?_) ?_
                · go_wp2_with (fail)
                  exact CalmQ.mk rfl _ rfl (Below.refl _ _) rfl
                refine AllCalm.cons (fun W hB hd => ?_) ?_
                · obtain ⟨h0, -⟩ := hd
                  have h0 : f 0 = _ := h0
                  rw [h0]
                  go_wp2_with (fail)
                  exact CalmQ.mk rfl _ rfl (Below.refl _ _) rfl
                refine AllCalm.cons (fun W hB hd => ?_) ?_
                · go_wp2_with (fail)
                  exact CalmQ.mk rfl _ rfl (Below.refl _ _) rfl
                refine AllCalm.cons (fun W hB hd => ?_) ?_
                · obtain ⟨h1, h2, -⟩ := hd
                  have h1 : f 1 = _ := h1
                  have h2 : f 2 = _ := h2
                  rw [h1, h2]
                  go_wp2_with ((go_at_call 25; with_reducible refine (cK W hB).mono ?_; rintro e w2 ⟨v2, rfl, hs2, hb2⟩))
                  exact CalmQ.mk rfl _ rfl hb2 hs2
                refine AllCalm.cons (fun W hB hd => ?_) ?_
                · obtain ⟨h3, -⟩ := hd
                  have h3 : Sl W W.heap.size (f 3) _ _ := h3
                  have kx := kr _ _ h3
                  go_wp2_with (fail)
                  exact CalmQ.mk rfl _ rfl (Below.refl _ _) rfl
                refine AllCalm.cons (fun W hB hd => ?_) ?_
                · go_wp2_with (fail)
                  exact CalmQ.mk rfl _ rfl (Below.refl _ _) rfl
                refine AllCalm.cons (fun W hB hd => ?_) ?_
                · obtain ⟨h5, -⟩ := hd
                  have h5 : f 5 = _ := h5
                  rw [h5]
                  have kx := hkv W hB
                  go_wp2_with (fail)
                  exact CalmQ.mk rfl _ rfl (Below.refl _ _) rfl
                refine AllCalm.cons (fun W hB hd => ?_) ?_
                · obtain ⟨h4, h6, -⟩ := hd
                  have h4 : f 4 = _ := h4
                  have h6 : f 6 = _ := h6
                  rw [h4, h6]
                  go_wp2_with (fail)
                  exact CalmQ.mk rfl _ rfl (Below.refl _ _) rfl
                exact AllCalm.nil
              · intro W hB hT
                obtain ⟨h0, h1, h2, h3, h4, h5, h6, h7, -⟩ := hT
                have h0 : f 0 = _ := h0
                have h1 : f 1 = _ := h1
                have h2 : f 2 = _ := h2
                have h3 : Sl W W.heap.size (f 3) _ _ := h3
                have h4 : f 4 = _ := h4
                have h5 : f 5 = _ := h5
                have h6 : f 6 = _ := h6
                have h7 : f 7 = _ := h7
                rw [h0, h1, h2, h4, h5, h6, h7]
                clear h0 h1 h2 h4 h5 h6 h7
                go_wp2_with fail
                exact bodyPost_ret (v := .tuple #[.int .u32 0, .slice none 0 0, .int .i64 2]) (by simp [results, Try.results18, go_sem]) rfl (HN.out W hB HP.out)
end Go.Proofs.Yteeeioafhdkagaa
