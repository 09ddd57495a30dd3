/- Package ring: Unpack: contract. -/
import Derived.Test.YtpfackjnnkjjdaaRg2
namespace Go.Proofs.Ytpfackjnnkjjdaa
open Go.ChangeShapes Go.WideShapes Go.ChangeAt Go.RowKit Go.Lib
set_option linter.unusedVariables false
set_option linter.unusedSimpArgs false
namespace Rg
open Crc
theorem results_tmp6 {fn : Func} {a b c d f g : Tmp} (h : fn.results = #[.tmp a, .tmp b, .tmp c, .tmp d, .tmp f, .tmp g]) (tmps : Array Value) (P : Program) (w : World) :
    (results fn tmps).run P w = .ok (.tuple #[tmps.getD a undef, tmps.getD b undef, tmps.getD c undef, tmps.getD d undef, tmps.getD f undef, tmps.getD g undef]) w := by
  simp [results, h]
theorem Sl_cut {w : World} {B n c b off : Nat} {xs : List Value} (h : Sl w B (.slice (some ⟨b, off, none⟩) n c) n xs) (a m : Nat) (ham : a + m ≤ n) : Sl w B (.slice (some ⟨b, off + a, none⟩) m (c - a)) m ((xs.drop a).take m) := by
  obtain ⟨h0, A, c', hv, h1, h2, h3⟩ := h
  simp only [Value.slice.injEq] at hv
  obtain ⟨rfl, -, rfl⟩ := hv
  refine ⟨by rw [List.length_take, List.length_drop]; omega, _, _, rfl, by omega, by omega, fun hne => ?_⟩
  have hx : xs ≠ [] := by
    rintro rfl
    simp at hne
  obtain ⟨b', off', e, h4, h5⟩ := h3 hx
  simp only [Option.some.injEq, Addr.mk.injEq, and_true] at e
  obtain ⟨rfl, rfl⟩ := e
  refine ⟨b, off + a, rfl, h4, fun j u hu => ?_⟩
  rw [List.getElem?_take] at hu
  split at hu
  · rw [List.getElem?_drop] at hu
    have := h5 (a + j) u hu
    rwa [← Nat.add_assoc] at this
  · cases hu
theorem fld_lt (b : List UInt8) (t n : Nat) (hn : n ≤ 8) : fld b t n < 256 ^ n := by
  unfold fld
  exact beVal_lt' n _ (by simp; omega)
theorem str {w : World} {v : Value} {n : Nat} {l : List UInt8} (h : Sl w w.heap.size v n (bs l)) : (convert 34 9 v).run Try.prog w = .ok (.string ⟨l.toArray⟩) w :=
  bytes_str (P := Try.prog) w 34 9 5 Try.underlying34 Try.underlying5 Try.underlying9 _ _ l n h
theorem openS_len {s : List UInt8} (h : s.length = 512) (h2 : (openS s).2 = 0) : (openS s).1.length = 508 := by
  unfold openS at h2 ⊢
  rw [if_neg (by omega)] at h2 ⊢
  split
  · rename_i hc
    rw [if_pos hc] at h2
    cases h2
  · simp
    omega
theorem openS_err (s : List UInt8) : (openS s).2 ≤ 4 := by
  unfold openS
  split
  · exact show 3 ≤ 4 by decide
  · split
    · exact show 4 ≤ 4 by decide
    · exact Nat.zero_le _
set_option maxRecDepth 100000 in
set_option maxHeartbeats 1000000 in
theorem unpack_any (v : Value) (s : List UInt8) (w : World) (hv : Sl w w.heap.size v s.length (bs s)) (hs : s.length ≤ 1000000) :
    Calls Try.prog 80 #[v] w fun e w' => ∃ v', e = .returned (.tuple #[.int .u64 ((unS s).num : Nat), .int .u32 ((unS s).life : Nat), .int .i64 ((unS s).part : Nat), .int .i64 ((unS s).parts : Nat), v', .int .i64 ((unS s).err : Nat)]) ∧ w'.ownsRow w.heap.size 5 1 v' (unS s).dat.length (bs (unS s).dat) ∧ Below w.heap.size w w' := by
  obtain ⟨i0, hi, hz0, hz1, hz2⟩ := info_parts (show (Try.prog.info? 5).map (fun i => (i.zero, i.size, i.bytes)) = some (some (.int .u8 0), 1, 1) by kernel_rfl)
  obtain ⟨A, c, rfl, _, _⟩ := hv.form
  have hop := open_any (.slice A s.length c) s w hv (by omega)
  have hsx : (s.length : Int) ≤ 1000000 := by omega
  obtain ⟨U, hU⟩ : ∃ U, U = unS s := ⟨_, rfl⟩
  rw [← hU]
  unfold unS at hU
  by_cases h5 : s.length = 512
  case neg =>
    rw [if_pos h5] at hU
    have HU := Lib.hid hU
    clear hU
    have h5x : ¬ (s.length : Int) = 512 := by omega
    clear hop
    go_enter Try.func80, Try.ntmps80
    go_wp2
    (try simp only [Exit.inBlock, Exit.then])
    refine bodyPost_ret (results_tmp6 rfl _ _ _) rfl ?_
    rw [HU.out]
    exact ⟨_, rfl, World.ownsRow_nil _ _ _ _, Below.refl _ _⟩
  rw [if_neg (by omega)] at hU
  have hol := openS_len h5
  have hoe := openS_err s
  have H5 := Lib.hid h5
  have h5x : (s.length : Int) = 512 := by omega
  clear h5 hv
  generalize openS s = q at *
  obtain ⟨b, E⟩ := q
  simp only at hol hoe hU
  have hop : Calls Try.prog 64 #[.slice A s.length c] w fun e w' => ∃ v', e = .returned (.tuple #[v', .int .i64 (E : Nat)]) ∧ Sl w' w'.heap.size v' b.length (bs b) ∧ Below w.heap.size w w' := hop
  by_cases hE : E = 0
  case neg =>
    rw [if_pos hE] at hU
    have HU := Lib.hid hU
    clear hU
    have hEx : ¬ (E : Int) = 0 := by omega
    have hEl : (E : Int) ≤ 4 := by omega
    go_enter Try.func80, Try.ntmps80
    go_wp2_with (go_at_call 64; (with_reducible refine hop.mono ?_); rintro e w2 ⟨v2, rfl, hs2, hb2⟩; obtain ⟨A2, c2, rfl, _, _⟩ := hs2.form)
    (try simp only [Exit.inBlock, Exit.then])
    refine bodyPost_ret (results_tmp6 rfl _ _ _) rfl ?_
    rw [HU.out]
    exact ⟨_, rfl, World.ownsRow_nil _ _ _ _, hb2.alloc hb2.size _⟩
  subst hE
  rw [if_neg (by simp)] at hU
  have hbl := hol rfl
  unfold unB at hU
  have hop2 : Calls Try.prog 64 #[.slice A s.length c] w fun e w' => ∃ b0 o0 c2, e = .returned (.tuple #[.slice (some ⟨b0, o0, none⟩) 508 c2, .int .i64 0]) ∧ 508 ≤ c2 ∧ Sl w' w'.heap.size (.slice (some ⟨b0, o0, none⟩) 508 c2) 508 (bs b) ∧ Below w.heap.size w w' := hop.mono fun e w' ⟨v', e1, h1, h2⟩ => by
    rw [hbl] at h1
    obtain ⟨A2, c2, rfl, h3, _⟩ := h1.form
    obtain ⟨b0, o0, rfl, _, _⟩ := h1.at_ (by omega)
    exact ⟨b0, o0, c2, e1, h3, h1, h2⟩
  have hmf : ∀ (fn : Fn) (first cap : Array Value) (w : World), (Instr.makeFunc fn first cap).run Try.prog w = .ok (.func fn first cap) w := fun _ _ _ _ => rfl
  have cF : ∀ W2 v2, Sl W2 W2.heap.size v2 508 (bs b) → ∀ (T N : Int) (t n : Nat), T = t → N = n → 1 ≤ n ∧ n ≤ 8 → t + n ≤ 508 → Calls Try.prog 87 #[.int .i64 T, .int .i64 N, .pointer (some ⟨W2.heap.size, 0, none⟩)] (W2.alloc (.cells #[v2] 34)) fun e w' => e = .returned (.int .u64 (fld b t n : Nat)) ∧ (W2.alloc (.cells #[v2] 34)) = w' := fun W2 v2 h T N t n hT hN hn hh => field_any W2.heap.size v2 b T N t n hT hN _ ((Mem.new W2 _ #[v2]).cell 0) (by rw [hbl]; exact h.now ((Below.refl _ _).alloc (Nat.le_refl _) _)) (by omega) hn (by omega)
  have cF2 : ∀ W2 v2, Sl W2 W2.heap.size v2 508 (bs b) → ∀ W', Below (W2.alloc (.cells #[v2] 34)).heap.size (W2.alloc (.cells #[v2] 34)) W' → ∀ (T N : Int) (t n : Nat), T = t → N = n → 1 ≤ n ∧ n ≤ 8 → t + n ≤ 508 → Calls Try.prog 87 #[.int .i64 T, .int .i64 N, .pointer (some ⟨W2.heap.size, 0, none⟩)] W' fun e w' => e = .returned (.int .u64 (fld b t n : Nat)) ∧ W' = w' := fun W2 v2 h W' hW T N t n hT hN hn hh => field_any W2.heap.size v2 b T N t n hT hN _ (((Mem.new W2 _ #[v2]).below hW (Mem.new W2 _ #[v2]).lt).cell 0) (by rw [hbl]; exact (h.now ((Below.refl _ _).alloc (Nat.le_refl _) _)).now hW) (by omega) hn (by omega)
  have cS : ∀ W2 b0 o0 c2, Sl W2 W2.heap.size (.slice (some ⟨b0, o0, none⟩) 508 c2) 508 (bs b) → (convert 34 9 (.slice (some ⟨b0, o0, none⟩) 4 c2)).run Try.prog (W2.alloc (.cells #[.slice (some ⟨b0, o0, none⟩) 508 c2] 34)) = .ok (.string ⟨(b.take 4).toArray⟩) (W2.alloc (.cells #[.slice (some ⟨b0, o0, none⟩) 508 c2] 34)) := fun W2 b0 o0 c2 h => by
    have h2 := Sl_cut (h.now ((Below.refl _ _).alloc (Nat.le_refl _) (.cells #[.slice (some ⟨b0, o0, none⟩) 508 c2] 34))) 0 4 (by omega)
    rw [bs, ← List.map_drop, ← List.map_take, List.drop_zero] at h2
    exact str h2
  have cN : fld b 20 2 ≤ 480 → ∀ W2 b0 o0 c2, Sl W2 W2.heap.size (.slice (some ⟨b0, o0, none⟩) 508 c2) 508 (bs b) → Calls Try.prog 88 #[.slice (some ⟨b0, o0 + (22 + fld b 20 2), none⟩) (508 - (22 + fld b 20 2)) (c2 - (22 + fld b 20 2))] (W2.alloc (.cells #[.slice (some ⟨b0, o0, none⟩) 508 c2] 34)) fun e w' => e = .returned (.bool (nought (b.drop (22 + fld b 20 2)))) ∧ (W2.alloc (.cells #[.slice (some ⟨b0, o0, none⟩) 508 c2] 34)) = w' := fun hL W2 b0 o0 c2 h => by
    have h2 := Sl_cut (h.now ((Below.refl _ _).alloc (Nat.le_refl _) (.cells #[.slice (some ⟨b0, o0, none⟩) 508 c2] 34))) (22 + fld b 20 2) (508 - (22 + fld b 20 2)) (by omega)
    rw [bs, ← List.map_drop, ← List.map_take, List.take_of_length_le (by rw [List.length_drop]; omega)] at h2
    exact nought_any _ (b.drop (22 + fld b 20 2)) _ (by rw [List.length_drop, hbl]; exact h2) (by rw [List.length_drop]; omega)
  have hPm := fld_lt b 16 2 (by omega)
  have hQm := fld_lt b 18 2 (by omega)
  have hLm := fld_lt b 20 2 (by omega)
  have hFm := fld_lt b 12 4 (by omega)
  have hP : (fld b 16 2 : Int) ≤ 65535 := by omega
  have hQ : (fld b 18 2 : Int) ≤ 65535 := by omega
  have hL : (fld b 20 2 : Int) ≤ 65535 := by omega
  have hF : (fld b 12 4 : Int) % 4294967296 = (fld b 12 4 : Int) := by omega
  clear hPm hQm hLm hFm hol hoe hop
  by_cases hmk : b.take 4 = mark
  case neg =>
    rw [if_pos (.inl hmk)] at hU
    have HU := Lib.hid hU
    clear hU
    have hmkx : (b.take 4 == [82, 73, 78, 71]) = false := by rw [beq_eq_false_iff_ne]; exact hmk
    clear hmk cN
    go_enter Try.func80, Try.ntmps80
    go_wp2_with (first
      | (go_at_call 64; (with_reducible refine hop2.mono ?_); rintro e w2 ⟨b0, o0, c2, rfl, hc2, hs2, hb2⟩; have hc4 : ¬ c2 = 4 := (by omega); have f16 := cF w2 _ hs2 16 2 16 2 rfl rfl (by omega) (by omega); have f18 := cF w2 _ hs2 18 2 18 2 rfl rfl (by omega) (by omega); have f20 := cF w2 _ hs2 20 2 20 2 rfl rfl (by omega) (by omega); have st := cS w2 b0 o0 c2 hs2)
      | (go_at_call 87; (with_reducible refine f16.mono ?_); rintro e w3 ⟨rfl, rfl⟩)
      | (go_at_call 87; (with_reducible refine f18.mono ?_); rintro e w3 ⟨rfl, rfl⟩)
      | (go_at_call 87; (with_reducible refine f20.mono ?_); rintro e w3 ⟨rfl, rfl⟩))
    (try simp only [Exit.inBlock, Exit.then])
    refine bodyPost_ret (results_tmp6 rfl _ _ _) rfl ?_
    rw [HU.out]
    exact ⟨_, rfl, World.ownsRow_nil _ _ _ _, hb2.alloc hb2.size _⟩
  have hmkx : (b.take 4 == [82, 73, 78, 71]) = true := by rw [beq_iff_eq]; exact hmk
  have HMK := Lib.hid hmk
  clear hmk
  by_cases hpq : fld b 18 2 ≤ fld b 16 2
  case pos =>
    rw [if_pos (.inr (.inl hpq))] at hU
    have HU := Lib.hid hU
    have hpqx : (fld b 18 2 : Int) ≤ (fld b 16 2 : Int) := by omega
    clear hU hpq cN
    go_enter Try.func80, Try.ntmps80
    go_wp2_with (first
      | (go_at_call 64; (with_reducible refine hop2.mono ?_); rintro e w2 ⟨b0, o0, c2, rfl, hc2, hs2, hb2⟩; have hc4 : ¬ c2 = 4 := (by omega); have f16 := cF w2 _ hs2 16 2 16 2 rfl rfl (by omega) (by omega); have f18 := cF w2 _ hs2 18 2 18 2 rfl rfl (by omega) (by omega); have f20 := cF w2 _ hs2 20 2 20 2 rfl rfl (by omega) (by omega); have st := cS w2 b0 o0 c2 hs2)
      | (go_at_call 87; (with_reducible refine f16.mono ?_); rintro e w3 ⟨rfl, rfl⟩)
      | (go_at_call 87; (with_reducible refine f18.mono ?_); rintro e w3 ⟨rfl, rfl⟩)
      | (go_at_call 87; (with_reducible refine f20.mono ?_); rintro e w3 ⟨rfl, rfl⟩))
    (try simp only [Exit.inBlock, Exit.then])
    refine bodyPost_ret (results_tmp6 rfl _ _ _) rfl ?_
    rw [HU.out]
    exact ⟨_, rfl, World.ownsRow_nil _ _ _ _, hb2.alloc hb2.size _⟩
  have hpqx : ¬ (fld b 18 2 : Int) ≤ (fld b 16 2 : Int) := by omega
  by_cases hl : 480 < fld b 20 2
  case pos =>
    rw [if_pos (.inr (.inr (.inl hl)))] at hU
    have HU := Lib.hid hU
    have hlx : (480 : Int) < (fld b 20 2 : Int) := by omega
    clear hU hpq cN hl
    go_enter Try.func80, Try.ntmps80
    go_wp2_with (first
      | (go_at_call 64; (with_reducible refine hop2.mono ?_); rintro e w2 ⟨b0, o0, c2, rfl, hc2, hs2, hb2⟩; have hc4 : ¬ c2 = 4 := (by omega); have f16 := cF w2 _ hs2 16 2 16 2 rfl rfl (by omega) (by omega); have f18 := cF w2 _ hs2 18 2 18 2 rfl rfl (by omega) (by omega); have f20 := cF w2 _ hs2 20 2 20 2 rfl rfl (by omega) (by omega); have st := cS w2 b0 o0 c2 hs2)
      | (go_at_call 87; (with_reducible refine f16.mono ?_); rintro e w3 ⟨rfl, rfl⟩)
      | (go_at_call 87; (with_reducible refine f18.mono ?_); rintro e w3 ⟨rfl, rfl⟩)
      | (go_at_call 87; (with_reducible refine f20.mono ?_); rintro e w3 ⟨rfl, rfl⟩))
    (try simp only [Exit.inBlock, Exit.then])
    refine bodyPost_ret (results_tmp6 rfl _ _ _) rfl ?_
    rw [HU.out]
    exact ⟨_, rfl, World.ownsRow_nil _ _ _ _, hb2.alloc hb2.size _⟩
  have hlx : ¬ (480 : Int) < (fld b 20 2 : Int) := by omega
  have hly : (fld b 20 2 : Int) ≤ 480 := by omega
  have cn := cN (by omega)
  clear cN
  cases hno : nought (b.drop (22 + fld b 20 2)) with
  | false =>
    rw [if_pos (.inr (.inr (.inr hno)))] at hU
    rw [hno] at cn
    have HU := Lib.hid hU
    clear hU hpq hl hno
    go_enter Try.func80, Try.ntmps80
    go_wp2_with (first
      | (go_at_call 64; (with_reducible refine hop2.mono ?_); rintro e w2 ⟨b0, o0, c2, rfl, hc2, hs2, hb2⟩; have hc4 : ¬ c2 = 4 := (by omega); have f16 := cF w2 _ hs2 16 2 16 2 rfl rfl (by omega) (by omega); have f18 := cF w2 _ hs2 18 2 18 2 rfl rfl (by omega) (by omega); have f20 := cF w2 _ hs2 20 2 20 2 rfl rfl (by omega) (by omega); have st := cS w2 b0 o0 c2 hs2; have hc22 : ¬ c2 = 22 + fld b 20 2 := (by omega); have cn2 := cn w2 b0 o0 c2 hs2)
      | (go_at_call 87; (with_reducible refine f16.mono ?_); rintro e w3 ⟨rfl, rfl⟩)
      | (go_at_call 87; (with_reducible refine f18.mono ?_); rintro e w3 ⟨rfl, rfl⟩)
      | (go_at_call 87; (with_reducible refine f20.mono ?_); rintro e w3 ⟨rfl, rfl⟩)
      | (go_at_call 88; (with_reducible refine cn2.mono ?_); rintro e w4 ⟨rfl, rfl⟩))
    (try simp only [Exit.inBlock, Exit.then])
    refine bodyPost_ret (results_tmp6 rfl _ _ _) rfl ?_
    rw [HU.out]
    exact ⟨_, rfl, World.ownsRow_nil _ _ _ _, hb2.alloc hb2.size _⟩
  | true =>
    have hcond : ¬ (b.take 4 ≠ mark ∨ fld b 18 2 ≤ fld b 16 2 ∨ 480 < fld b 20 2 ∨ nought (b.drop (22 + fld b 20 2)) = false) := by rw [hno]; simp [HMK.out]; omega
    rw [if_neg hcond] at hU
    rw [hno] at cn
    have HU := Lib.hid hU
    have hDl : ((b.drop 22).take (fld b 20 2)).length = fld b 20 2 := by rw [List.length_take, List.length_drop]; omega
    have cD : ∀ W2 b0 o0 c2, Sl W2 W2.heap.size (.slice (some ⟨b0, o0, none⟩) 508 c2) 508 (bs b) → Sl (W2.alloc (.cells #[.slice (some ⟨b0, o0, none⟩) 508 c2] 34)) (W2.alloc (.cells #[.slice (some ⟨b0, o0, none⟩) 508 c2] 34)).heap.size (.slice (some ⟨b0, o0 + 22, none⟩) (22 + fld b 20 2 - 22) (c2 - 22)) (22 + fld b 20 2 - 22) (bs ((b.drop 22).take (fld b 20 2))) := fun W2 b0 o0 c2 h => by
      have h2 := Sl_cut (h.now ((Below.refl _ _).alloc (Nat.le_refl _) (.cells #[.slice (some ⟨b0, o0, none⟩) 508 c2] 34))) 22 (fld b 20 2) (by omega)
      rw [bs, ← List.map_drop, ← List.map_take] at h2
      rw [show 22 + fld b 20 2 - 22 = fld b 20 2 by omega]
      exact h2
    have HDL := Lib.hid hDl
    clear hU hpq hl hno hcond hDl
    generalize (b.drop 22).take (fld b 20 2) = D at *
    go_enter Try.func80, Try.ntmps80
    go_wp2_with (first
      | (go_at_call 64; (with_reducible refine hop2.mono ?_); rintro e w2 ⟨b0, o0, c2, rfl, hc2, hs2, hb2⟩; have hc4 : ¬ c2 = 4 := (by omega); have f16 := cF w2 _ hs2 16 2 16 2 rfl rfl (by omega) (by omega); have f18 := cF w2 _ hs2 18 2 18 2 rfl rfl (by omega) (by omega); have f20 := cF w2 _ hs2 20 2 20 2 rfl rfl (by omega) (by omega); have st := cS w2 b0 o0 c2 hs2; have hc22 : ¬ c2 = 22 + fld b 20 2 := (by omega); have cn2 := cn w2 b0 o0 c2 hs2; have hc3 : ¬ c2 = 22 := (by omega); have hcu := cD w2 b0 o0 c2 hs2; have hbW := hb2.alloc hb2.size (.cells #[.slice (some ⟨b0, o0, none⟩) 508 c2] 34))
      | (go_at_call 87; (with_reducible refine f16.mono ?_); rintro e w3 ⟨rfl, rfl⟩)
      | (go_at_call 87; (with_reducible refine f18.mono ?_); rintro e w3 ⟨rfl, rfl⟩)
      | (go_at_call 87; (with_reducible refine f20.mono ?_); rintro e w3 ⟨rfl, rfl⟩)
      | (go_at_call 88; (with_reducible refine cn2.mono ?_); rintro e w4 ⟨rfl, rfl⟩)
      | (at_builtin; (refine wpList_append_sl _ rfl (.const (.slice none 0 0)) (.tmp 56) _ rfl w.heap.size 5 i0 _ Try.underlying34 hi hz0 hz1 (by omega) rfl (.slice none 0 0) 0 [] rfl (World.ownsRow_nil _ _ _ _) _ (.slice (some ⟨b0, o0 + 22, none⟩) (22 + fld b 20 2 - 22) (c2 - 22)) (22 + fld b 20 2 - 22) (bs D) rfl hcu bs_one (by omega) hbW.size ?_); intro v6 w6 ho6 hg6 hat6; have hb6 := hbW.grown hg6 hbW.size (fun k hk => by cases hk); have hbx := (Below.refl _ _).grown hg6 (Nat.le_refl _) (fun k hk => by cases hk); have f4 := cF2 w2 _ hs2 w6 hbx 4 8 4 8 rfl rfl (by omega) (by omega); have f12 := cF2 w2 _ hs2 w6 hbx 12 4 12 4 rfl rfl (by omega) (by omega))
      | (go_at_call 87; (with_reducible refine f4.mono ?_); rintro e w7 ⟨rfl, rfl⟩)
      | (go_at_call 87; (with_reducible refine f12.mono ?_); rintro e w7 ⟨rfl, rfl⟩))
    (try simp only [Exit.inBlock, Exit.then])
    refine bodyPost_ret (results_tmp6 rfl _ _ _) rfl ?_
    rw [HU.out]
    refine ⟨v6, rfl, ?_, hb6⟩
    show w6.ownsRow _ _ _ _ D.length (bs D)
    rw [HDL.out]
    have e22 : 0 + (22 + fld b 20 2 - 22) = fld b 20 2 := by omega
    rw [e22] at ho6
    simpa using ho6
end Rg
end Go.Proofs.Ytpfackjnnkjjdaa
