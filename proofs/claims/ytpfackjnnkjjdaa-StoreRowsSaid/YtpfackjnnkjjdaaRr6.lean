/- Package ring: Open, Read: contracts. -/
import Derived.Test.YtpfackjnnkjjdaaRr5
namespace Go.Proofs.Ytpfackjnnkjjdaa
open Go.ChangeShapes Go.WideShapes Go.ChangeAt Go.RowKit Go.Lib
set_option linter.unusedVariables false
set_option linter.unusedSimpArgs false
namespace Rg
open Crc Dk
/-- A row of rows of bytes that a call has made. -/
structure LRow (w : World) (B : Nat) (v : Value) (L : List (List UInt8)) (D : List Value) : Prop where
  row : w.ownsRow B 34 1 v L.length D
  dat : ∀ (j : Nat) (u : Value) (l : List UInt8), D[j]? = some u → L[j]? = some l → w.ownsRow B 5 1 u l.length (bs l)
theorem results_tmp3 {fn : Func} {a b c : Tmp} (h : fn.results = #[.tmp a, .tmp b, .tmp c]) (tmps : Array Value) (P : Program) (w : World) :
    (results fn tmps).run P w = .ok (.tuple #[tmps.getD a undef, tmps.getD b undef, tmps.getD c undef]) w := by
  simp [results, h]
section
variable {o w w' : World} {X Y B : Nat} {O R : Nat → Prop} {S : DS} {T : RS} {v : Value} {L : List (List UInt8)} {D : List Value} {Ls : List (Nat × List UInt8)}
theorem LRow.below (h : LRow w B v L D) (hb : Below w.heap.size w w') : LRow w' B v L D := ⟨owns_below h.row hb, fun j u l hu hl => owns_below (h.dat j u l hu hl) hb⟩
theorem LRow.mono {B' : Nat} (h : LRow w B v L D) (hb : B' ≤ B) : LRow w B' v L D := ⟨owns_mono h.row hb, fun j u l hu hl => owns_mono (h.dat j u l hu hl) hb⟩
/-- What Open is told to begin with. -/
def RS.new (a n life first place : Nat) : RS := ⟨a, n, life, first, place, [], 0⟩
set_option maxRecDepth 100000 in
set_option maxHeartbeats 2000000 in
theorem open_any (h : Dsk o w X O S) (hdd : S.dead = false) (hof : S.off = false) (hw : S.wtg ≤ 1000000) (hN : S.last.length ≤ 4096) (a n life first place : Nat) (hok : (RS.new a n life first place).Ok S.last.length) (hf : first ≤ 900000) (hLay : Lay S (RS.new a n life first place) Ls) :
    Calls Try.prog 55 #[.pointer (some ⟨X, 0, none⟩), .int .i64 (a : Nat), .int .i64 (n : Nat), .int .u64 (first : Nat), .int .i64 (place : Nat), .int .u32 (life : Nat)] w fun e w' => ∃ Y v R D, e = .returned (.tuple #[.pointer (some ⟨Y, 0, none⟩), v, .int .i64 0]) ∧ Rng o w' X O S Y R ((RS.new a n life first place).got Ls Ls.length) ∧ (∀ k, R k → w.heap.size ≤ k) ∧ LRow w' w.heap.size v (Ls.map (·.2)) D ∧ (∀ k, R k → v.ownBlock ≠ some k) ∧ Below w.heap.size w w' := by
  obtain ⟨i0, hi, hz0, hz1, hz2⟩ := info_parts (show (Try.prog.info? 5).map (fun i => (i.zero, i.size, i.bytes)) = some (some (.int .u8 0), 1, 1) by kernel_rfl)
  obtain ⟨i1, hi1, hy0, hy1, hy2⟩ := info_parts tb_info
  obtain ⟨V, hV⟩ := h.is
  have hsc := sectors_any hV
  have hOlt := hV.lt
  have hn2 : 2 ≤ n := hok.n2
  have hfit : a + n ≤ S.last.length := hok.fit
  have hpl : place < n := hok.pl
  have f1 : ¬ (n : Int) < 2 := by omega
  have f2 : ¬ (S.last.length : Int) < (n : Int) := by omega
  have f3 : ¬ (a : Int) < 0 := by omega
  have f4 : ¬ (S.last.length : Int) - (n : Int) < (a : Int) := by omega
  have f5 : ¬ (place : Int) < 0 := by omega
  have f6 : ¬ (n : Int) ≤ (place : Int) := by omega
  have f7 : (first : Int) ≤ 900000 := by omega
  have f8 : (S.last.length : Int) ≤ 4096 := by omega
  have f9 : (n : Int) ≤ 4096 := by omega
  have HN2 := Lib.hid hn2
  have HFIT := Lib.hid hfit
  have HPL := Lib.hid hpl
  have HF := Lib.hid hf
  have HN := Lib.hid hN
  have HOK := Lib.hid hok
  have HL := Lib.hid hLay
  obtain ⟨L, hL⟩ : ∃ L, Ls.map (·.2) = L := ⟨_, rfl⟩
  have hLe : ((RS.new a n life first place).got Ls Ls.length).recs = L := by
    show (Ls.take Ls.length).map _ = L
    rw [List.take_length]; exact hL
  have hLf : L.length ≤ 4000 := by rw [← hL, List.length_map]; exact hLay.few
  have hLl : ∀ l ∈ L, l.length ≤ 32768 := by
    intro l hl
    rw [← hL] at hl
    obtain ⟨p, hp, rfl⟩ := List.mem_map.1 hl
    obtain ⟨k, hk⟩ := List.mem_iff_getElem?.1 hp
    exact hLay.long k p.1 p.2 hk
  rw [hL]
  have HLE := Lib.hid hLe
  have HLX := Lib.hid hL
  have HLL := Lib.hid hLl
  have hLx : (L.length : Int) ≤ 4000 := by omega
  clear hn2 hfit hpl hf hN hV hok hLay hL hLe hLl hLf
  go_enter Try.func55, Try.ntmps55
  have hw1 : Below w.heap.size w (w.alloc (.cells #[.pointer (some ⟨X, 0, none⟩), .int .i64 (a : Nat), .int .i64 (n : Nat), .int .u32 (life : Nat), .int .u64 (first : Nat), .int .i64 (place : Nat), .slice none 0 0, .int .i64 0] 101)) := (Below.refl _ w).alloc (Nat.le_refl _) _
  have hscan : Calls Try.prog 66 #[.pointer (some ⟨w.heap.size, 0, none⟩)] (w.alloc (.cells #[.pointer (some ⟨X, 0, none⟩), .int .i64 (a : Nat), .int .i64 (n : Nat), .int .u32 (life : Nat), .int .u64 (first : Nat), .int .i64 (place : Nat), .slice none 0 0, .int .i64 0] 101)) fun e w' => e = .returned (.int .i64 0) ∧ ∃ R' A c D', RgM w' w.heap.size X R' ((RS.new a n life first place).got Ls Ls.length) (.slice A L.length c) D' ∧ RowO w' R' 34 (.slice A L.length c) L.length D' ∧ (∀ k, R' k → w.heap.size ≤ k) ∧ Below w.heap.size w w' := by
    have hoo := h.bl.size
    refine (scan_any (T := RS.new a n life first place) (R := fun k => k = w.heap.size) (rv := .slice none 0 0) (D := []) (h.below hw1) hdd hof hw HN.out ⟨rfl, fun k hk => ?_, Mem.new w _ _, RowO.nil_ _ _ _, fun j u l hu => by cases hu⟩ HOK.out (fun k hk => by rw [hk]; exact hoo) (fun k hk hO => by have := hOlt k hO; omega) HL.out HF.out).mono ?_
    · rw [hk]; exact (Mem.new w _ _).lt
    · rintro e w' ⟨h1, R', rv', D', h2, h3, h4⟩
      have hrow : RowO w' R' 34 rv' L.length D' := by
        have h5 := h2.row
        rw [HLE.out] at h5
        exact h5
      obtain ⟨A, c, rfl, _, _⟩ := hrow.form
      refine ⟨h1, R', A, c, D', h2, hrow, fun k hk => ?_, ?_⟩
      · rcases h4 k hk with h5 | h5
        · omega
        · have := hw1.size; omega
      · exact h3.below hw1 hw1.size fun k _ hk => by omega
  go_wp2_with (first
    | (go_at_call 20; (with_reducible refine hsc.mono ?_); rintro e w1 ⟨rfl, rfl⟩)
    | (go_at_call 66; (with_reducible refine hscan.mono ?_); rintro e w2 ⟨rfl, R', Ar, cr, D', hM, hrow, hR, hb2⟩; have y6 := hM.c6))
  go_loopw [17, 69] (fun s17 s69 wr => ∃ (j : Nat) (A : Option Addr) (c : Nat) (D2 : List Value), j ≤ L.length ∧ s17 = .slice A j c ∧ s69 = .int .i64 (j : Nat) ∧ wr.ownsRow w2.heap.size 34 1 (.slice A j c) j D2 ∧ (∀ (k : Nat) (u : Value) (l : List UInt8), D2[k]? = some u → L[k]? = some l → wr.ownsRow w2.heap.size 5 1 u l.length (bs l)) ∧ Below w2.heap.size w2 wr) (fun _ s69 _ => L.length - (intOf s69).toNat)
  case atStart => exact ⟨0, none, 0, [], Nat.zero_le _, rfl, rfl, World.ownsRow_nil _ _ _ _, fun k u l hu => by simp at hu, Below.refl _ _⟩
  case round =>
    obtain ⟨j, A, c, D2, hj, rfl, rfl, ho, hd, hb⟩ := hrel
    by_cases hjl : j < L.length
    · have hjx : (j : Int) < (L.length : Int) := by omega
      obtain ⟨gr, or, cr', hee, _, _, hRg, hgl, _, hcell⟩ := hrow.at_ (by omega)
      simp only [Value.slice.injEq, true_and] at hee
      obtain ⟨rfl, rfl⟩ := hee
      obtain ⟨u, hu⟩ : ∃ u, D'[j]? = some u := ⟨_, List.getElem?_eq_getElem (by rw [hrow.1]; exact hjl)⟩
      have hcj : wr.cell? ⟨gr, or + j, none⟩ = some u := (hb.cell (p := ⟨gr, or + j, none⟩) hgl).trans (hcell j u hu)
      obtain ⟨l, hl⟩ : ∃ l, L[j]? = some l := ⟨_, List.getElem?_eq_getElem hjl⟩
      have hdu := (hM.below hb).dat j u l hu (by rw [HLE.out]; exact hl)
      obtain ⟨Au, cu, rfl, _, _⟩ := hdu.form
      have hll : l.length ≤ 32768 := HLL.out l (List.mem_of_getElem? hl)
      have hsu := hdu.sl
      have HLG := Lib.hid hll
      have hjm : j + 1 ≤ 1000000 := by omega
      have hbs := hb.size
      have hDl : D2.length = j := by have := ho.1; rw [Nat.mul_one] at this; exact this
      have key : ∀ (w6 : World) A6 c6, Below wr.heap.size wr w6 → w6.ownsRow w2.heap.size 5 1 (.slice A6 l.length c6) l.length (bs l) → ∀ (w9 : World), (w6.alloc (.cells #[.slice A6 l.length c6] 34)).grownBy w9 (Value.slice A j c).ownBlock → ∀ (k : Nat) (u : Value) (m : List UInt8), (D2 ++ [.slice A6 l.length c6])[k]? = some u → L[k]? = some m → w9.ownsRow w2.heap.size 5 1 u m.length (bs m) := by
        intro w6 A6 c6 hb6 ho6 w9 hg9 k u m hk hm
        have hba : Below w6.heap.size w6 (w6.alloc (.cells #[.slice A6 l.length c6] 34)) := (Below.refl _ _).alloc (Nat.le_refl _) _
        have hwr := hb6.trans (hba.mono hb6.size)
        have hov := owns_below ho hwr
        have fin : (w6.alloc (.cells #[.slice A6 l.length c6] 34)).ownsRow w2.heap.size 5 1 u m.length (bs m) → w9.ownsRow w2.heap.size 5 1 u m.length (bs m) := fun h9 => owns_eff h9 (eff_grown hg9) fun q hq e => (own_tag h9 q hq).2.2.ne (own_tag hov q e).2.2 (by decide) rfl
        apply fin
        by_cases hkj : k < j
        · rw [List.getElem?_append_left (by omega)] at hk
          exact owns_below (hd k u m hk hm) hwr
        · have hkj2 : k = j := by
            have := (List.getElem?_eq_some_iff.1 hk).1
            simp at this
            omega
          subst hkj2
          rw [List.getElem?_append_right (by omega), show k - D2.length = 0 by omega] at hk
          simp at hk
          subst hk
          rw [hl] at hm
          obtain rfl := Option.some.inj hm
          exact owns_below ho6 hba
      have hlx : (l.length : Int) ≤ 32768 := by omega
      have hl3 : l.length ≤ 32768 := hll
      have hl4 : l.length ≤ maxLen := by unfold maxLen; omega
      have HL4 := Lib.hid hl4
      clear hll hl3 hl4
      go_wp2_with (first
        | (at_builtin; (refine wpList_append_sl _ rfl (.const (.slice none 0 0)) (.tmp 74) _ rfl w2.heap.size 5 i0 _ Try.underlying34 hi hz0 hz1 (by omega) rfl (.slice none 0 0) 0 [] rfl (World.ownsRow_nil _ _ _ _) _ (.slice Au l.length cu) l.length (bs l) rfl hsu bs_one (by omega) hbs ?_); intro v6 w6 ho6 hg6 hat6; have ho7 : w6.ownsRow w2.heap.size 5 1 v6 l.length (bs l) := (by simpa using ho6); clear ho6; obtain ⟨A6, c6, rfl, _, _⟩ := own_form ho7; have hb6 := (Below.refl _ wr).grown hg6 (Nat.le_refl _) (fun k hk => by cases hk); have hb7 : Below wr.heap.size wr (w6.alloc (.cells #[.slice A6 l.length c6] 34)) := hb6.alloc hb6.size _; have hov := owns_below ho hb7; have hs7 := Nat.le_trans hbs hb7.size)
        | (at_builtin; (refine wpList_append_at _ rfl (.tmp 73) (.tmp 76) _ rfl w2.heap.size 34 i1 _ 1 24 Try.underlying43 hi1 hy0 hy1 hy2 rfl (by decide) (.slice A j c) j D2 rfl hov ⟨w6.heap.size, 0, none⟩ 1 1 [.slice A6 l.length c6] rfl rfl (cells_one (Mem.new w6 _ _)) (by simp [Value.oneCell']) (by unfold maxLen; omega) (by omega) hs7 ?_); intro v9 w9 ho9 hg9 hat9; obtain ⟨A9, c9, rfl, _, _⟩ := own_form ho9; have hk9 := key w6 A6 c6 hb6 ho7 w9 hg9; have hb9 := below_own (hb.trans (hb7.mono hbs)) hg9 hs7 (fun k hk => (own_tag ho k hk).1)))
      exact ⟨⟨j + 1, A9, c9, D2 ++ [.slice A6 l.length c6], hjl, rfl, by go_num, ho9, hk9, hb9⟩, by simp [intOf]; omega⟩
    · obtain rfl : j = L.length := by omega
      go_wp2
      (try simp only [Exit.inBlock, Exit.then])
      refine bodyPost_ret (results_tmp3 rfl _ _ _) rfl ?_
      have hbw := hb2.trans (hb.mono hb2.size)
      have hs2 := hb2.size
      have hos := h.bl.size
      refine ⟨w.heap.size, .slice A L.length c, R', D2, rfl, ⟨h.below hbw, ⟨_, _, hM.below hb⟩, got_ok HOK.out HL.out _ (Nat.le_refl _), fun k hk => Nat.le_trans hos (hR k hk), fun k hk hO => ?_⟩, hR, ⟨owns_mono ho hs2, fun k u l hu hl => owns_mono (hd k u l hu hl) hs2⟩, fun k hk e => ?_, hbw⟩
      · have := hR k hk
        have := hOlt k hO
        omega
      · have h1 := (own_tag ho k e).1
        have h2 := hM.lt k hk
        omega
end
end Rg
end Go.Proofs.Ytpfackjnnkjjdaa
