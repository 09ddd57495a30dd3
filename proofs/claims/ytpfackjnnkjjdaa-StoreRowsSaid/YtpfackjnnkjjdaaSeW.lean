/- gemellaw22, StoreRows: a store of rows, cut and found again. -/
import Derived.Test.YtpfackjnnkjjdaaSeX
namespace Go.Proofs.Ytpfackjnnkjjdaa
open Go.ChangeShapes Go.WideShapes Go.ChangeAt Go.RowKit Go.Lib
set_option linter.unusedVariables false
set_option linter.unusedSimpArgs false
set_option maxRecDepth 100000
namespace Rg
open Crc Dk
theorem usedTo_drop (Ls : List (Nat × List UInt8)) (k j : Nat) : usedTo (Ls.drop k) j + usedTo Ls k = usedTo Ls (k + j) := by
  unfold usedTo
  rw [List.take_add, List.map_append, List.sum_append]
  omega
/-- What lies behind the first k records. -/
theorem LayP.drop {S : DS} {T T' : RS} {Ls : List (Nat × List UInt8)} (h : LayP S T Ls) (k : Nat) (hk : k ≤ Ls.length) (h1 : T'.at_ = T.at_) (h2 : T'.n = T.n) (h3 : T'.place = (T.place + usedTo Ls k) % T.n) (h4 : T'.first = T.first + k) (h5 : T.life ≤ T'.life) : LayP S T' (Ls.drop k) ∧ ∀ i, rdU S T' i = rdU S T (usedTo Ls k + i) := by
  have hr : ∀ i, rdU S T' i = rdU S T (usedTo Ls k + i) := fun i => by
    have e : T'.sec i = T.sec (usedTo Ls k + i) := by
      unfold RS.sec
      rw [h1, h2, h3, Nat.mod_add_mod, Nat.add_assoc]
    unfold rdU
    rw [e]
  have hu := usedTo_drop Ls k
  refine ⟨⟨fun j f l hj i hi => ?_, fun j f l hj => ?_, fun j f l hj => ?_, fun j f l hj => ?_, ?_, ?_⟩, hr⟩
  · rw [List.getElem?_drop] at hj
    have := h.part (k + j) f l hj i hi
    rw [hr, h4, show usedTo Ls k + (usedTo (Ls.drop k) j + i) = usedTo Ls (k + j) + i by have := hu j; omega, this, Nat.add_assoc]
  · rw [List.getElem?_drop] at hj
    exact Nat.le_trans (h.lf _ f l hj) h5
  · rw [List.getElem?_drop] at hj
    have := h.mono _ f l hj
    cases j with
    | zero => exact Nat.zero_le _
    | succ j =>
      have e : leastTo (Ls.drop k) (j + 1) = leastTo Ls (k + (j + 1)) := by
        show ((Ls.drop k)[j]?.map (·.1)).getD 0 = (Ls[k + j]?.map (·.1)).getD 0
        rw [List.getElem?_drop]
      rw [e]
      exact this
  · rw [List.getElem?_drop] at hj
    exact h.long _ f l hj
  · rw [List.length_drop]
    have := h.few
    omega
  · have h6 := hu (Ls.length - k)
    have h7 := h.fits
    rw [List.length_drop, h2]
    rw [show k + (Ls.length - k) = Ls.length by omega] at h6
    omega
end Rg
namespace Se
open Crc Dk Tw Rg
/-- The rows as records. -/
def rowsN (F : List (List UInt8)) (i : Nat) : List (Nat × List UInt8) := (List.range i).map fun j => (1, recB (j + 1) (3 * j) (F[j]?.getD []))
theorem rowsN_len (F : List (List UInt8)) (i : Nat) : (rowsN F i).length = i := by simp [rowsN]
theorem rowsN_get (F : List (List UInt8)) (i j : Nat) (h : j < i) : (rowsN F i)[j]? = some (1, recB (j + 1) (3 * j) (F[j]?.getD [])) := by
  unfold rowsN
  rw [List.getElem?_map, List.getElem?_range h]
  rfl
theorem rowsN_succ {F : List (List UInt8)} {i : Nat} {l : List UInt8} (h : F[i]? = some l) : rowsN F (i + 1) = rowsN F i ++ [(1, recB (i + 1) (3 * i) l)] := by
  unfold rowsN
  rw [List.range_succ, List.map_append, List.map_singleton, h]
  rfl
theorem used_rows {F : List (List UInt8)} {i : Nat} (hs : ∀ j, j < i → (F[j]?.getD []).length ≤ 500) : usedTo (rowsN F i) i ≤ 2 * i := by
  have key : ∀ j, j ≤ i → usedTo (rowsN F i) j ≤ 2 * j := fun j => by
    induction j with
    | zero => exact fun _ => Nat.le_refl _
    | succ j ih =>
      intro hj
      have h1 := usedTo_succ (rowsN_get F i j (by omega))
      have h2 := ih (by omega)
      have h3 := hs j (by omega)
      have h4 : need (recB (j + 1) (3 * j) (F[j]?.getD [])).length ≤ 2 := by
        rw [recB_len]
        unfold need
        split <;> omega
      omega
  exact key i (Nat.le_refl _)
theorem least_rows (F : List (List UInt8)) (i : Nat) : leastTo (rowsN F i) i ≤ 1 := by
  cases i with
  | zero => exact Nat.zero_le _
  | succ j =>
    show ((rowsN F (j + 1))[j]?.map (·.1)).getD 0 ≤ 1
    rw [rowsN_get F _ j (by omega)]
    exact Nat.le_refl _
theorem got_snoc (T : RS) (Ls : List (Nat × List UInt8)) (l : List UInt8) (f : Nat) : (T.got Ls Ls.length).app l = T.got (Ls ++ [(f, l)]) (Ls ++ [(f, l)]).length := by
  unfold RS.app RS.got
  rw [usedTo_all, List.take_length, List.take_length, List.map_append]
  rfl
theorem rec_ep (i : Nat) {e : Nat} (he : e < 18446744073709551616) (d : List UInt8) : beVal (((recB i e d).drop 8).take 8) = e := by
  have h1 : (recB i e d).drop 8 = be e 8 ++ d := by
    unfold recB
    rw [List.append_assoc]
    have := List.drop_left (l₁ := be i 8) (l₂ := be e 8 ++ d)
    rw [be_len] at this
    exact this
  have h2 : ((recB i e d).drop 8).take 8 = be e 8 := by
    rw [h1]
    have := List.take_left (l₁ := be e 8) (l₂ := d)
    rw [be_len] at this
    exact this
  rw [h2, beVal_be]
  exact Nat.mod_eq_of_lt (by omega)
theorem rec_ix {i : Nat} (hi : i < 18446744073709551616) (e : Nat) (d : List UInt8) : beVal (((recB i e d).drop 0).take 8) = i := by
  have h2 : ((recB i e d).drop 0).take 8 = be i 8 := by
    rw [List.drop_zero]
    unfold recB
    rw [List.append_assoc]
    have := List.take_left (l₁ := be i 8) (l₂ := be e 8 ++ d)
    rw [be_len] at this
    exact this
  rw [h2, beVal_be]
  exact Nat.mod_eq_of_lt (by omega)
theorem rec_dt (i e : Nat) (d : List UInt8) : (recB i e d).drop 16 = d := by
  have h1 : (be i 8 ++ be e 8).length = 16 := by rw [List.length_append, be_len, be_len]
  have := List.drop_left (l₁ := be i 8 ++ be e 8) (l₂ := d)
  rw [h1] at this
  exact this
/-- The first i rows are appended. -/
structure Rw (o w : World) (X Z : Nat) (F : List (List UInt8)) (i : Nat) : Prop where
  ex : ∃ O S Yt Yr R, Sto o w X O S Yt 2 Z kr1 [] Yr R (kT1.got (rowsN F i) (rowsN F i).length) ∧ Pu S 2 kr1 [] ∧ Jr S kT1 (rowsN F i) ∧ S.calls ≤ 2000 + 3 * i
  sh : ∀ j, j < i → (F[j]?.getD []).length ≤ 500
/-- The disk of a store that was cut at the row k. -/
structure Pc (S : DS) (r : Rt) (F : List (List UInt8)) (k : Nat) (d : List UInt8) : Prop where
  pu : Pu S 3 r d
  life : r.life = 1
  base : r.base = k
  first : r.first = k
  place : r.place = usedTo (rowsN F F.length) k
  jr : Jr S kT1 (rowsN F F.length)
  calls : S.calls ≤ 3000
  sh : ∀ j, j < F.length → (F[j]?.getD []).length ≤ 500
structure Rd (o w : World) (X : Nat) (F : List (List UInt8)) (k : Nat) (d : List UInt8) (b : Bool) : Prop where
  ex : ∃ O S r, Dsk o w X O (if b then S else S.crashed []) ∧ Pc S r F k d
/-- A store found again: its rows are those from k on. -/
structure Ro (o w : World) (X Z : Nat) (F : List (List UInt8)) (k : Nat) (d : List UInt8) : Prop where
  ex : ∃ O S Yt n r Yr R T, Sto o w X O S Yt n Z r d Yr R T ∧ r.base = k ∧ T.first = k ∧ r.first = k ∧ T.recs = ((rowsN F F.length).drop k).map (·.2)
  sh : ∀ j, j < F.length → (F[j]?.getD []).length ≤ 500
section
variable {o w w' : World} {X Z i k : Nat} {F : List (List UInt8)} {d : List UInt8} {b : Bool}
theorem Rw.below (h : Rw o w X Z F i) (hb : Below w.heap.size w w') : Rw o w' X Z F i := by
  obtain ⟨O, S, Yt, Yr, R, h1, h2⟩ := h.ex
  exact ⟨⟨O, S, Yt, Yr, R, h1.below hb, h2⟩, h.sh⟩
theorem Rw.bl (h : Rw o w X Z F i) : Below o.heap.size o w := by
  obtain ⟨O, S, Yt, Yr, R, h1, h2⟩ := h.ex
  exact h1.st.dsk.bl
theorem Rd.bl (h : Rd o w X F k d b) : Below o.heap.size o w := by
  obtain ⟨O, S, r, h1, h2⟩ := h.ex
  exact h1.bl
theorem Ro.below (h : Ro o w X Z F k d) (hb : Below w.heap.size w w') : Ro o w' X Z F k d := by
  obtain ⟨O, S, Yt, n, r, Yr, R, T, h1, h2⟩ := h.ex
  exact ⟨⟨O, S, Yt, n, r, Yr, R, T, h1.below hb, h2⟩, h.sh⟩
theorem Ro.bl (h : Ro o w X Z F k d) : Below o.heap.size o w := by
  obtain ⟨O, S, Yt, n, r, Yr, R, T, h1, h2⟩ := h.ex
  exact h1.st.dsk.bl
theorem Rw.start {Yt Yr : Nat} {O R : Nat → Prop} (F : List (List UInt8)) (h : Sto o w X O kS1 Yt 2 Z kr1 [] Yr R kT1) : Rw o w X Z F 0 := by
  refine ⟨⟨O, kS1, Yt, Yr, R, h, kS1_pu, kS1_jr, ?_⟩, fun j hj => absurd hj (by omega)⟩
  have := k_calls.2.1
  omega
theorem Rw.append (h : Rw o w X Z F i) (hi : i < 40) {l : List UInt8} (hl : F[i]? = some l) (hl5 : l.length ≤ 500) (vd : Value) (hv : Sl w w.heap.size vd l.length (bs l)) : Calls Try.prog 10 #[.pointer (some ⟨Z, 0, none⟩), .agg #[.int .u64 ((i : Int) + 1), .int .u64 ((i : Int) * 3), vd]] w fun e w' => e = .returned (.int .i64 0) ∧ Rw o w' X Z F (i + 1) := by
  obtain ⟨O, S, Yt, Yr, R, h1, hP, hJ, hcl⟩ := h.ex
  have hlen := rowsN_len F i
  have hu := used_rows h.sh
  have hlr := recB_len (i + 1) (3 * i) l
  have hneed : need (16 + l.length) ≤ 2 := by unfold need; split <;> omega
  have hg : (kT1.got (rowsN F i) (rowsN F i).length).recs.length = i := by
    show ((rowsN F i).take _ |>.map _).length = i
    rw [List.take_length, List.length_map, hlen]
  have hnx : (kT1.got (rowsN F i) (rowsN F i).length).next = i := by
    unfold RS.next
    rw [hg]
    show 0 + i = i
    omega
  have hus : (kT1.got (rowsN F i) (rowsN F i).length).used = usedTo (rowsN F i) i := by show usedTo _ _ = _; rw [hlen]
  have q := append_any h1 hP.up hP.len (by rw [hP.wtg]; decide) (by omega) rfl (by omega) (by decide) (by omega) (3 * i) (by omega) vd l hv (by omega) (by rw [hus]; show _ ≤ 512; omega) i (by rw [hg]; show 0 + i = i; omega)
  rw [show ((3 * i : Nat) : Int) = (i : Int) * 3 by omega] at q
  refine q.mono ?_
  rintro e w' ⟨O', R', rfl, h2⟩
  have hok : kT1.Ok S.last.length := kT1_ok S hP.len
  have hP2 := hP.app (rec := recB (i + 1) (3 * i) l) (k := need (16 + l.length)) h1.ok rfl (by decide) (by decide)
  have hJ2 := Jr.app (l := recB (i + 1) (3 * i) l) hJ hP.fine hok (by decide) (by rw [hlr]; omega) (by rw [hlr, hlen]; show _ ≤ 512; omega) (by rw [hlen]; exact least_rows F i) (by omega)
  rw [hlr] at hJ2
  rw [got_snoc kT1 (rowsN F i) _ 1] at h2
  have e2 := rowsN_succ hl
  have hcnt := (aps_cnt S (kT1.got (rowsN F i) (rowsN F i).length) (recB (i + 1) (3 * i) l) (need (16 + l.length))).2
  have e3 : (apS S (kT1.got (rowsN F i) (rowsN F i).length) (recB (i + 1) (3 * i) l) (need (16 + l.length))).flushed.calls = (apS S (kT1.got (rowsN F i) (rowsN F i).length) (recB (i + 1) (3 * i) l) (need (16 + l.length))).calls + 1 := rfl
  refine ⟨rfl, ⟨O', _, Yt, Yr, R', by rw [e2]; exact h2, hP2, by rw [e2]; exact hJ2, by omega⟩, fun j hj => ?_⟩
  by_cases hji : j < i
  · exact h.sh j hji
  · obtain rfl : j = i := by omega
    rw [hl]
    exact hl5
theorem kT1_sums (Ls : List (Nat × List UInt8)) (k : Nat) : RS.sums ((Ls.map (·.2)).take k) = usedTo Ls k := by
  unfold RS.sums usedTo
  rw [← List.map_take, List.map_map]
  rfl
theorem Rw.compact (h0 : Rw o w' X Z F F.length) (hw : Below w'.heap.size w' w) (hF4 : F.length ≤ 40) (k : Nat) (hk : k ≤ F.length) (vd : Value) (d : List UInt8) (hv : Sl w w.heap.size vd d.length (bs d)) (hvb : ∀ q, vd.ownBlock = some q → w'.heap.size ≤ q ∧ q < w.heap.size) (hd : d.length ≤ 100) : Calls Try.prog 12 #[.pointer (some ⟨Z, 0, none⟩), .int .u64 (k : Nat), vd] w fun e w' => e = .returned (.int .i64 0) ∧ Rd o w' X F k d true := by
  obtain ⟨O, S, Yt, Yr, R, h1', hP, hJ, hcl⟩ := h0.ex
  have h1 := h1'.below hw
  have hOlt := h1'.st.oLt
  have hRlt := h1'.st.glt
  obtain ⟨tv, htw, _⟩ := h1'.st.tw
  obtain ⟨sv, hmm, _⟩ := h1'.st.mem
  have hYl := htw.mem.lt
  have hZl := hmm.lt
  have hlen := rowsN_len F F.length
  have hu := used_rows h0.sh
  have hrecs : (kT1.got (rowsN F F.length) (rowsN F F.length).length).recs = (rowsN F F.length).map (·.2) := by
    show ((rowsN F F.length).take _).map _ = _
    rw [List.take_length]
  have hrl : (kT1.got (rowsN F F.length) (rowsN F F.length).length).recs.length = F.length := by rw [hrecs, List.length_map, hlen]
  have hus : (kT1.got (rowsN F F.length) (rowsN F F.length).length).used = usedTo (rowsN F F.length) F.length := by show usedTo _ _ = _; rw [hlen]
  obtain ⟨c1, c2, c3, c4, c5, c6, c7⟩ := cutN_all k (kT1.got (rowsN F F.length) (rowsN F F.length).length) (by omega)
  rw [hrecs, kT1_sums] at c6 c7
  have huk : usedTo (rowsN F F.length) k ≤ usedTo (rowsN F F.length) F.length := by
    have := usedTo_le (rowsN F F.length) k (by omega)
    rw [hlen] at this
    exact this
  have hpl : ((kT1.got (rowsN F F.length) (rowsN F F.length).length).cutN k).place = usedTo (rowsN F F.length) k := by
    rw [c6 (by show 0 < 512; decide)]
    show (0 + _) % 512 = _
    omega
  have hsum : RS.sums (kT1.got (rowsN F F.length) (rowsN F F.length).length).recs = usedTo (rowsN F F.length) F.length := by
    rw [hrecs, ← kT1_sums, List.take_of_length_le (by rw [List.length_map, hlen]; exact Nat.le_refl _)]
  have hlong : ∀ x ∈ (kT1.got (rowsN F F.length) (rowsN F F.length).length).recs, x.length ≤ 32768 := h1.ok.long
  have hF : Fit (kT1.got (rowsN F F.length) (rowsN F F.length).length) := ⟨by show 2 ≤ 512; decide, by show 512 ≤ 4096; decide, by show 0 < 512; decide, by omega, by omega, hlong⟩
  have hok : ((kT1.got (rowsN F F.length) (rowsN F F.length).length).cutN k).Ok S.last.length := ⟨by rw [c4]; show 2 ≤ 512; decide, by rw [c3, c4, hP.len]; show 98 + 512 ≤ 610; decide, by rw [c4, hpl]; show _ < 512; omega, by rw [c4, c7, hus]; show _ ≤ 512; omega, by rw [c2, List.length_drop]; omega, fun x hx => hlong x (List.mem_of_mem_drop (by rw [c2] at hx; exact hx)), by rw [c5]; show 1 ≤ _; decide, by rw [c1]; show 0 + k ≤ _; omega⟩
  have q := compact_any h1 hP hF (by omega) (by omega) rfl (by unfold RS.next; rw [hrl]; show 0 + _ ≤ _; omega) (by decide) k k (by omega) (by show 0 + k = k; omega) k (usedTo (rowsN F F.length) k) (by rw [c1]; show 0 + k = k; omega) hpl hok (by omega) 1 rfl vd hv (by omega) fun q hq => by
    have t := hvb q hq
    exact ⟨t.2, fun hh => by
      rcases hh with hh | hh | hh | hh
      · have := hOlt q hh; omega
      · have := hRlt q hh; omega
      · omega
      · omega⟩
  refine q.mono ?_
  rintro e w9 ⟨O', rfl, h2⟩
  have hP2 := hP.comp (n := 2) (by omega) (sd := 1) rfl (d := d) (by omega) (m := k) (f := k) (p := usedTo (rowsN F F.length) k) (by omega) (by omega) (by omega)
  have hcc := cS_calls S 2 kr1 1 (d := d) (by omega) k k (usedTo (rowsN F F.length) k)
  have hJ2 : Jr (cS S 2 kr1 1 d k k (usedTo (rowsN F F.length) k)) kT1 (rowsN F F.length) := hJ.to (fun j => rd_comp hP rfl (by omega) _ _ _ kT1 rfl j) rfl rfl (Nat.le_refl _)
  exact ⟨rfl, ⟨O', _, _, h2.st.dsk, hP2, rfl, rfl, rfl, rfl, hJ2, Nat.le_trans hcc (by omega), h0.sh⟩⟩
theorem Rd.crash (h : Rd o w X F k d true) : Calls Try.prog 15 #[.pointer (some ⟨X, 0, none⟩), .slice none 0 0] w fun e w' => e = .returned (.tuple #[]) ∧ Rd o w' X F k d false := by
  obtain ⟨O, S, r, h1, hp⟩ := h.ex
  refine (d_crash (S := S) h1 hp.pu.up.off (by rw [hp.pu.wtg]; decide) (.slice none 0 0) [] (by simp) Sl.nil_).mono ?_
  rintro e w' ⟨h2, h3, _⟩
  exact ⟨h2, ⟨O, S, r, h3, hp⟩⟩
theorem Rd.on (h : Rd o w X F k d false) : Calls Try.prog 16 #[.pointer (some ⟨X, 0, none⟩)] w fun e w' => e = .returned (.tuple #[]) ∧ Rd o w' X F k d true := by
  obtain ⟨O, S, r, h1, hp⟩ := h.ex
  refine (d_on (S := S.crashed []) h1).mono ?_
  rintro e w' ⟨h2, h3, _⟩
  have h4 : Dsk o w' X O (onS (S.crashed [])) := h3
  exact ⟨h2, ⟨O, onS (S.crashed []), r, h4, ⟨hp.pu.crash h4.fine ((cr_dead S).trans hp.pu.up.dead), hp.life, hp.base, hp.first, hp.place, hp.jr.crash hp.pu.fine hp.pu.still, hp.calls, hp.sh⟩⟩⟩
theorem Rd.open_ (h : Rd o w X F k d true) (hF4 : F.length ≤ 40) (hk : k ≤ F.length) : Calls Try.prog 9 #[.pointer (some ⟨X, 0, none⟩)] w fun e w' => ∃ Z', e = .returned (.tuple #[.pointer (some ⟨Z', 0, none⟩), .int .i64 0]) ∧ Ro o w' X Z' F k d := by
  obtain ⟨O, S, r, h1', hp⟩ := h.ex
  have h1 : Dsk o w X O S := h1'
  have hP := hp.pu
  have hlen := rowsN_len F F.length
  have hu := used_rows hp.sh
  have hlf := hp.life
  have hfs := hp.first
  have hbs := hp.base
  have hpl := hp.place
  have hcl := hp.calls
  have huk : usedTo (rowsN F F.length) k ≤ usedTo (rowsN F F.length) F.length := by
    have := usedTo_le (rowsN F F.length) k (by omega)
    rw [hlen] at this
    exact this
  have hok : (RS.new 98 512 (r.life + 1) r.first r.place).Ok S.last.length := ⟨by show 2 ≤ 512; decide, by rw [hP.len]; show 98 + 512 ≤ 610; decide, by show r.place < 512; omega, by show 0 ≤ 512; decide, by show 0 ≤ 4096; decide, fun l h => by simp [RS.new] at h, by show r.life + 1 ≤ 1000000; omega, by show r.first ≤ 1000000; omega⟩
  have hJ2 : Jr (openS' S 3 r) kT1 (rowsN F F.length) := hp.jr.put hP.fine hP.len _ _ (by decide)
  have hD := LayP.drop (T' := RS.new 98 512 (r.life + 1) r.first r.place) hJ2.lay k (by omega) rfl rfl (by show r.place = (0 + _) % 512; omega) (by show r.first = 0 + k; omega) (by show 1 ≤ r.life + 1; omega)
  have hud := usedTo_drop (rowsN F F.length) k (F.length - k)
  rw [show k + (F.length - k) = F.length by omega] at hud
  have hLay : Lay (openS' S 3 r) (RS.new 98 512 (r.life + 1) r.first r.place) ((rowsN F F.length).drop k) := by
    refine hD.1.lay (.inr (.inl ?_))
    rw [hD.2, List.length_drop, hlen, show usedTo (rowsN F F.length) k + usedTo ((rowsN F F.length).drop k) (F.length - k) = usedTo (rowsN F F.length) F.length by omega]
    have := hJ2.bl (usedTo (rowsN F F.length) F.length) (by rw [hlen]; exact Nat.le_refl _) (by show _ < 512; omega)
    exact this
  have hrec : Recs r.base ((rowsN F F.length).drop k) := fun j f b hj => by
    rw [List.getElem?_drop] at hj
    have hlt : k + j < F.length := by
      have := (List.getElem?_eq_some_iff.1 hj).1
      omega
    rw [rowsN_get F F.length (k + j) hlt] at hj
    obtain ⟨rfl, rfl⟩ : 1 = f ∧ recB (k + j + 1) (3 * (k + j)) (F[k + j]?.getD []) = b := by simpa using hj
    have := hp.sh (k + j) hlt
    exact ⟨by rw [recB_len]; omega, by rw [recB_len]; omega, by rw [rec_ix (by omega)]; omega⟩
  refine (sopen_any (Ls := (rowsN F F.length).drop k) h1 hP.up hP.len (by rw [hP.wtg]; decide) (by omega) hP.tw (by omega) hP.rok hP.sz hP.sum hP.on (by omega) (by omega) (by omega) hok hLay hrec).mono ?_
  rintro e w' ⟨O', Yt', Z', Yr', R', rfl, h2⟩
  refine ⟨Z', rfl, ⟨O', _, Yt', _, _, Yr', R', _, h2, hbs, hfs, hfs, ?_⟩, hp.sh⟩
  show (((rowsN F F.length).drop k).take _).map _ = _
  rw [List.take_length]
theorem Ro.base (h : Ro o w X Z F k d) (hl : d.length ≤ 100000) : Calls Try.prog 13 #[.pointer (some ⟨Z, 0, none⟩)] w fun e w' => ∃ A c, e = .returned (.tuple #[.int .u64 (k : Nat), .slice A d.length c]) ∧ w'.ownsRow w.heap.size 5 1 (.slice A d.length c) d.length (bs d) ∧ Below w.heap.size w w' := by
  obtain ⟨O, S, Yt, n, r, Yr, R, T, h1, h2, _⟩ := h.ex
  have q := base_any h1 hl
  rw [h2] at q
  exact q
theorem Ro.last (h : Ro o w X Z F k d) (hF4 : F.length ≤ 40) (hk : k ≤ F.length) : Calls Try.prog 14 #[.pointer (some ⟨Z, 0, none⟩)] w fun e w' => e = .returned (.int .u64 (F.length : Nat)) ∧ Below w.heap.size w w' := by
  obtain ⟨O, S, Yt, n, r, Yr, R, T, h1, h2, h3, h4, h5⟩ := h.ex
  have hl : T.recs.length = F.length - k := by rw [h5, List.length_map, List.length_drop, rowsN_len]
  have q := last_any h1 (by omega) (by unfold RS.next; omega) (by omega)
  rw [h2, hl, show k + (F.length - k) = F.length by omega] at q
  exact q
theorem Ro.yes (h : Ro o w X Z F k d) (hF4 : F.length ≤ 40) (i : Nat) (hki : k ≤ i) (hi : i < F.length) {l : List UInt8} (hl : F[i]? = some l) : Calls Try.prog 17 #[.pointer (some ⟨Z, 0, none⟩), .int .u64 ((i : Int) + 1)] w fun e w' => ∃ A c, e = .returned (.tuple #[.agg #[.int .u64 ((i : Int) + 1), .int .u64 ((i : Int) * 3), .slice A l.length c], .bool true]) ∧ w'.ownsRow w.heap.size 5 1 (.slice A l.length c) l.length (bs l) ∧ Below w.heap.size w w' := by
  obtain ⟨O, S, Yt, n, r, Yr, R, T, h1, h2, h3, h4, h5⟩ := h.ex
  have hlr := recB_len (i + 1) (3 * i) l
  have hln : T.recs.length = F.length - k := by rw [h5, List.length_map, List.length_drop, rowsN_len]
  have hs := h.sh i hi
  rw [hl] at hs
  have hs' : l.length ≤ 500 := hs
  have hj : T.recs[i - k]? = some (recB (i + 1) (3 * i) l) := by
    rw [h5, List.getElem?_map, List.getElem?_drop, show k + (i - k) = i by omega, rowsN_get F _ i hi, hl]
    rfl
  have q := entry_any h1 (by omega) (by unfold RS.next; omega) (by omega) (i - k) (recB (i + 1) (3 * i) l) hj (by omega) (by omega) (i + 1) (by omega)
  rw [rec_ep _ (by omega), rec_dt, hlr, show 16 + l.length - 16 = l.length by omega, show ((i + 1 : Nat) : Int) = (i : Int) + 1 by omega, show ((3 * i : Nat) : Int) = (i : Int) * 3 by omega] at q
  exact q
set_option maxHeartbeats 2000000 in
theorem entry_no {Yt n Yr m : Nat} {O R : Nat → Prop} {S : DS} {r : Rt} {l : List UInt8} {T : RS} (h : Sto o w X O S Yt n Z r l Yr R T) (hm : m ≤ r.base) : Calls Try.prog 17 #[.pointer (some ⟨Z, 0, none⟩), .int .u64 (m : Nat)] w fun e w' => e = .returned (.tuple #[.agg #[.int .u64 0, .int .u64 0, .slice none 0 0], .bool false]) ∧ Below w.heap.size w w' := by
  obtain ⟨sv, hz, _⟩ := h.st.mem
  have z3 : ∀ o, (w.alloc o).cell? ⟨Z, 3, none⟩ = some (.int .u64 (r.base : Nat)) := fun o => (hz.below ((Below.refl _ w).alloc (Nat.le_refl _) o) hz.lt).cell 3
  have hmx : (m : Int) ≤ (r.base : Int) := by omega
  have m0 := Mem.new w 37 #[.int .u64 0, .int .u64 0, .slice none 0 0]
  have b0 : Below w.heap.size w (w.alloc (.cells #[.int .u64 0, .int .u64 0, .slice none 0 0] 37)) := (Below.refl _ w).alloc (Nat.le_refl _) _
  go_enter Try.func17, Try.ntmps17
  go_wp2_with (refine wpList_store_row rfl 37 (.tmp 4) (.tmp 23) rfl w.heap.size #[.int .u64 0, .int .u64 0, .slice none 0 0] rfl rfl 37 #[.int .u64 0, .int .u64 0, .slice none 0 0] m0 (by kernel_rfl) (by kernel_rfl) (by kernel_rfl) ?_)
  refine bodyPost_ret (v := .tuple #[.agg #[.int .u64 0, .int .u64 0, .slice none 0 0], .bool false]) ?_ rfl ⟨rfl, below_setRow b0 (Nat.le_refl _) _⟩
  exact (results_cell2 (p := 4) (a := 5) (ty := 37) rfl _ _ w.heap.size 37 _ (0, 0) _ rfl (m0.row #[.int .u64 0, .int .u64 0, .slice none 0 0]) Try.underlying37 rfl (by kernel_rfl)).trans rfl
theorem Ro.no (h : Ro o w X Z F k d) (i : Nat) (hki : i < k) : Calls Try.prog 17 #[.pointer (some ⟨Z, 0, none⟩), .int .u64 ((i : Int) + 1)] w fun e w' => e = .returned (.tuple #[.agg #[.int .u64 0, .int .u64 0, .slice none 0 0], .bool false]) ∧ Below w.heap.size w w' := by
  obtain ⟨O, S, Yt, n, r, Yr, R, T, h1, h2, h3, h4, h5⟩ := h.ex
  exact entry_no (m := i + 1) h1 (by omega)
end
end Se
end Go.Proofs.Ytpfackjnnkjjdaa
