/- Package node, wire: begin, flag, row, seal, long. -/
import Derived.Test.YtoogmdokcndieaaNw1
namespace Go.Proofs.Ytoogmdokcndieaa
open Go.ChangeShapes Go.WideShapes Go.ChangeAt Go.RowKit Go.Lib
set_option linter.unusedVariables false
set_option linter.unusedSimpArgs false
set_option maxRecDepth 100000
namespace Nw
section
variable {o w w' : World} {X : Nat} {l : List UInt8}
theorem begin_any (hb : Below o.heap.size o w) (k : Nat) (hk : k ≤ 255) : Calls Try.prog 23 #[.int .i64 (k : Nat)] w fun e' w' => e' = .returned (.pointer (some ⟨w.heap.size, 0, none⟩)) ∧ Wr o w' w.heap.size (be 18253 2 ++ be k 1) ∧ FrW w w' := by
  have h0 : Wr o (w.alloc (.cells #[.slice none 0 0] 88)) w.heap.size [] := ⟨hb.size, hb.alloc hb.size _, _, Mem.new w _ _, World.ownsRow_nil _ _ _ _⟩
  have b0 : Below w.heap.size w (w.alloc (.cells #[.slice none 0 0] 88)) := (Below.refl _ w).alloc (Nat.le_refl _) _
  have c1 : Calls Try.prog 36 #[.pointer (some ⟨w.heap.size, 0, none⟩), .int .u64 18253, .int .i64 2] (w.alloc (.cells #[.slice none 0 0] 88)) fun e' w' => e' = .returned (.tuple #[]) ∧ Wr o w' w.heap.size (be 18253 2) ∧ FrW (w.alloc (.cells #[.slice none 0 0] 88)) w' := number_any h0 18253 2 (by decide) (by decide) (by decide)
  have c2 : ∀ W, Wr o W w.heap.size (be 18253 2) → Calls Try.prog 36 #[.pointer (some ⟨w.heap.size, 0, none⟩), .int .u64 (k : Nat), .int .i64 1] W fun e' w' => e' = .returned (.tuple #[]) ∧ Wr o w' w.heap.size (be 18253 2 ++ be k 1) ∧ FrW W w' := fun W h => number_any h k 1 (by omega) (by decide) (by rw [be_len]; decide)
  have hkx : (k : Int) ≤ 255 := by omega
  clear h0 hk
  go_enter Try.func23, Try.ntmps23
  go_wp2_with (first
    | (go_at_call 36; (with_reducible refine c1.mono ?_); rintro e' w1 ⟨rfl, h1, f1⟩)
    | (go_at_call 36; (with_reducible refine (c2 _ h1).mono ?_); rintro e' w2 ⟨rfl, h2, f2⟩))
  go_ret
  exact ⟨rfl, h2, (FrW.of b0).trans (f1.trans f2)⟩
theorem flag_any (h : Wr o w X l) (b : Bool) (hl : l.length ≤ 1000000) : Calls Try.prog 38 #[.pointer (some ⟨X, 0, none⟩), .bool b] w fun e' w' => e' = .returned (.tuple #[]) ∧ Wr o w' X (l ++ be (if b then 1 else 0) 1) ∧ FrW w w' := by
  cases b with
  | true =>
    have c1 : Calls Try.prog 36 #[.pointer (some ⟨X, 0, none⟩), .int .u64 1, .int .i64 1] w fun e' w' => e' = .returned (.tuple #[]) ∧ Wr o w' X (l ++ be 1 1) ∧ FrW w w' := number_any h 1 1 (by decide) (by decide) hl
    go_enter Try.func38, Try.ntmps38
    go_wp2_with (go_at_call 36; (with_reducible refine c1.mono ?_); rintro e' w1 ⟨rfl, h1, f1⟩)
    exact bodyPost_end (v := .tuple #[]) (by simp [results, Try.results38, go_sem]) rfl ⟨rfl, h1, f1⟩
  | false =>
    have c1 : Calls Try.prog 36 #[.pointer (some ⟨X, 0, none⟩), .int .u64 0, .int .i64 1] w fun e' w' => e' = .returned (.tuple #[]) ∧ Wr o w' X (l ++ be 0 1) ∧ FrW w w' := number_any h 0 1 (by decide) (by decide) hl
    go_enter Try.func38, Try.ntmps38
    go_wp2_with (go_at_call 36; (with_reducible refine c1.mono ?_); rintro e' w1 ⟨rfl, h1, f1⟩)
    exact bodyPost_end (v := .tuple #[]) (by simp [results, Try.results38, go_sem]) rfl ⟨rfl, h1, f1⟩
theorem wseal_any (h : Wr o w X l) (hl : l.length ≤ 1000000) : Calls Try.prog 25 #[.pointer (some ⟨X, 0, none⟩)] w fun e' w' => ∃ v', e' = .returned v' ∧ w'.ownsRow w.heap.size 5 1 v' (Crc.sealS l).length (bs (Crc.sealS l)) ∧ Below w.heap.size w w' := by
  obtain ⟨v, hm, ho⟩ := h.is
  have c1 := Crc.seal_any v l w (Sl.of_own ho) (by omega)
  have k0 := hm.cell 0
  clear h ho
  go_enter Try.func25, Try.ntmps25
  go_wp2_with (go_at_call 40; (with_reducible refine c1.mono ?_); rintro e' w1 ⟨v1, rfl, h1, b1⟩)
  go_ret
  exact ⟨_, rfl, h1, b1⟩
set_option maxHeartbeats 2000000 in
theorem row_any (h : Wr o w X l) (v : Value) (d : List UInt8) (hv : Sl o o.heap.size v d.length (bs d)) (hd : d.length ≤ 1000000) (hl : l.length ≤ 900000) : Calls Try.prog 39 #[.pointer (some ⟨X, 0, none⟩), v] w fun e' w' => e' = .returned (.tuple #[]) ∧ Wr o w' X (l ++ be d.length 4 ++ d) ∧ FrW w w' := by
  obtain ⟨i0, hi, hz0, hz1, hz2⟩ := info_parts info_u8
  have c1 : Calls Try.prog 36 #[.pointer (some ⟨X, 0, none⟩), .int .u64 (d.length : Nat), .int .i64 4] w fun e' w' => e' = .returned (.tuple #[]) ∧ Wr o w' X (l ++ be d.length 4) ∧ FrW w w' := number_any h d.length 4 (by omega) (by decide) (by omega)
  have hlen : (l ++ be d.length 4).length ≤ 1000000 := by rw [List.length_append, be_len]; omega
  obtain ⟨A, c, rfl, hc1, hc2⟩ := hv.form
  have hdx : (d.length : Int) ≤ 1000000 := by omega
  generalize hL : l ++ be d.length 4 = L at *
  have HL := Lib.hid hL
  clear h hL
  go_enter Try.func39, Try.ntmps39
  go_wp2_with (first
    | (go_at_call 36; (with_reducible refine c1.mono ?_); rintro e' w1 ⟨rfl, h1, f1⟩; obtain ⟨v1, hm1, ho1⟩ := h1.is; obtain ⟨A1, c1', rfl, _, _⟩ := own_form ho1; have k1 := hm1.cell 0; have hs1 := hv.below h1.bl; have hX := h1.from_; have hb1 := h1.bl)
    | (at_builtin; (refine wpList_append_sl _ rfl (.tmp 13) (.tmp 14) _ rfl o.heap.size 5 i0 _ Try.underlying28 hi hz0 hz1 (by omega) rfl (.slice A1 L.length c1') L.length (bs L) rfl ho1 o.heap.size (.slice A d.length c) d.length (bs d) rfl hs1 bs_one (by omega) hb1.size ?_); intro v8 w8 ho8 hg8 hat8; have he8 := eff_grown hg8; have m8 := hm1.eff he8 (fun hk => (own_tag ho1 _ hk).2.2.ne (mem_tag hm1) (by decide) rfl); have b8 := below_own hb1 hg8 hb1.size (fun k hk => (own_tag ho1 k hk).1); have u8 := m8.cell 0; have g8 := m8.free 0; obtain ⟨A8, c8, rfl, _, _⟩ := own_form ho8))
  refine bodyPost_end (v := .tuple #[]) (by simp [results, Try.results39, go_sem]) rfl ?_
  have ho9 := ownsRow_len ho8 (show _ = (L ++ d).length by rw [List.length_append]) (show _ = bs (L ++ d) by rw [bs_app])
  have heX : Eff (fun k => k = X) w8 (w8.setCell ⟨X, 0, none⟩ (.slice A8 (L.length + d.length) c8)) := Eff.setCell (S := fun k => k = X) (Eff.refl _ _) (p := ⟨X, 0, none⟩) rfl _
  refine ⟨rfl, ⟨hX, b8.setCell hX _, _, m8.put 0 _, ?_⟩, f1.trans ⟨Nat.le_trans he8.size heX.size, fun k hk ht => ?_⟩⟩
  · exact owns_eff ho9 heX fun k hk hX' => by
      subst hX'
      exact (own_tag ho9 _ hk).2.2.ne (mem_tag m8) (by decide) rfl
  · obtain ⟨t, htW, t1, t2⟩ := ht
    have e1 := he8.block k hk fun q => htW.ne (own_tag ho1 k q).2.2 t2 rfl
    have ht8 : Tag w8 k t := by obtain ⟨cs, fr, q⟩ := htW; exact ⟨cs, fr, e1.trans q⟩
    have e2 := heX.block k (Nat.lt_of_lt_of_le hk he8.size) fun q => by subst q; exact ht8.ne (mem_tag m8) t1 rfl
    exact e2.trans e1
theorem long_any (h : Wr o w X l) (g : Nat) (ns : List Nat) (hg : Mem w g 29 (ns.map fun n : Nat => Value.int .u64 (n : Nat)).toArray) (hn : ∀ n ∈ ns, n < 18446744073709551616) (hns : ns.length ≤ 100) (hl : l.length ≤ 900000) : Calls Try.prog 37 #[.pointer (some ⟨X, 0, none⟩), .slice (some ⟨g, 0, none⟩) ns.length ns.length] w fun e' w' => e' = .returned (.tuple #[]) ∧ Wr o w' X (l ++ ns.flatMap fun n => be n 8) ∧ FrW w w' := by
  have HN := Lib.hid hn
  have hnx : (ns.length : Int) ≤ 100 := by omega
  have hlx : ∀ j, (l ++ (ns.take j).flatMap fun n => be n 8).length ≤ 1000000 := fun j => by
    have : ∀ q : List Nat, (q.flatMap fun n => be n 8).length = 8 * q.length := fun q => by induction q with
      | nil => rfl
      | cons a q ih => simp only [List.flatMap_cons, List.length_append, be_len, ih, List.length_cons]; omega
    rw [List.length_append, this, List.length_take]; omega
  clear hn
  go_enter Try.func37, Try.ntmps37
  go_wp2
  go_loopw [8] (fun s8 wr => ∃ j : Nat, j ≤ ns.length ∧ s8 = .int .i64 (j : Nat) ∧ Wr o wr X (l ++ (ns.take j).flatMap fun n => be n 8) ∧ FrW w wr) (fun s8 _ => ns.length - (intOf s8).toNat)
  case atStart => exact ⟨0, Nat.zero_le _, rfl, by simpa using h, FrW.of (Below.refl _ _)⟩
  case round =>
    obtain ⟨j, hj, rfl, hW, hF⟩ := hrel
    by_cases hlt : j < ns.length
    · have hltx : (j : Int) < (ns.length : Int) := by omega
      have mg := hF.mem hg (by decide) (by decide)
      have k0 : wr.cell? ⟨g, j, none⟩ = some (.int .u64 (ns[j] : Nat)) := (mg.cell j).trans (by simp [hlt])
      have c1 : Calls Try.prog 36 #[.pointer (some ⟨X, 0, none⟩), .int .u64 (ns[j] : Nat), .int .i64 8] wr fun e' w' => e' = .returned (.tuple #[]) ∧ Wr o w' X (l ++ (ns.take (j + 1)).flatMap fun n => be n 8) ∧ FrW wr w' := by
        have := number_any hW ns[j] 8 (HN.out _ (List.getElem_mem hlt)) (by decide) (hlx j)
        rw [List.append_assoc] at this
        rw [← List.take_append_getElem hlt, List.flatMap_append, List.flatMap_singleton]
        exact this
      generalize ns[j] = q at *
      go_wp2_with (go_at_call 36; (with_reducible refine c1.mono ?_); rintro e' w1 ⟨rfl, h1, f1⟩)
      exact ⟨⟨j + 1, hlt, by go_num, h1, hF.trans f1⟩, by simp [intOf]; omega⟩
    · obtain rfl : j = ns.length := by omega
      rw [List.take_length] at hW
      go_wp2
      exact bodyPost_end (v := .tuple #[]) (by simp [results, Try.results37, go_sem]) rfl ⟨rfl, hW, hF⟩
end
end Nw
end Go.Proofs.Ytoogmdokcndieaa
