/- Package witness: a round of Cas on a disk that may lose its power: whole contracts. -/
import Derived.Test.YtccknplmcnahbaaWt6
namespace Go.Proofs.Ytccknplmcnahbaa
open Go.ChangeShapes Go.WideShapes Go.ChangeAt Go.RowKit Go.Lib
set_option linter.unusedVariables false
set_option linter.unusedSimpArgs false
set_option maxRecDepth 100000
namespace Wt
open Dk Tw
theorem Cl.more {S : DS} {n c c' : Nat} {l : List UInt8} (h : Cl S n l c) (hc : c ≤ c') : Cl S n l c' := ⟨h.fine, h.dead, h.off, h.len, h.wtg, h.arm, h.pk, Nat.le_trans h.calls hc, h.best⟩
section
variable {o w w' : World} {X Y Z N g j n : Nat} {O O' : Nat → Prop} {S S' : DS} {l : List UInt8} {e p m P m' f : Nat}
theorem Wit.re (h : Wit o w Z Y X O S n l e p m) (hD : Dsk o w' X O' S') (he : Eff O w w') (hs : ∀ k, O' k → O k ∨ w.heap.size ≤ k) : Wit o w' Z Y X O' S' n l e p m := by
  obtain ⟨v, hv⟩ := h.tw
  exact ⟨hD, ⟨v, hv.eff he hs⟩, h.mem.eff he h.noZ, h.from_, fun hO => (hs _ hO).elim h.noZ fun hk => by have := h.mem.lt; omega⟩
def rw3 (e p m : Nat) : Array Value := #[.int .u64 (e : Nat), .int .i64 (p : Nat), .int .i64 (m : Nat)]
/-- Where the statement stands after j rounds: the witness, the disk at rest, the register 'now'. -/
structure Ph (o w : World) (Z Y X N j : Nat) (O : Nat → Prop) (S : DS) (n e p m : Nat) : Prop where
  wit : Wit o w Z Y X O S n (encS e p m) e p m
  cl : Cl S n (encS e p m) (10 + 2 * j)
  mN : Mem w N 24 (rw3 e p m)
  oN : ¬ O N
  fN : o.heap.size ≤ N
  ok : okR (p : Nat) (m : Nat) = true
  le : e ≤ j + 1
  ln : n ≤ j + 1
theorem Ph.below (h : Ph o w Z Y X N j O S n e p m) (hb : Below w.heap.size w w') : Ph o w' Z Y X N j O S n e p m := ⟨h.wit.below hb, h.cl, h.mN.below hb h.mN.lt, h.oN, h.fN, h.ok, h.le, h.ln⟩
theorem Ph.bl (h : Ph o w Z Y X N j O S n e p m) : Below o.heap.size o w := h.wit.dsk.bl
theorem Ph.fresh (h : Ph o w Z Y X N j O S n e p m) (hg : w.heap.size ≤ g) : ¬ O g := fun hO => by
  obtain ⟨V, hV⟩ := h.wit.dsk.is
  have := hV.lt g hO
  omega
/-- The same, with the register that is asked for in a box of its own. -/
structure Cut (o w : World) (Z Y X N g j : Nat) (O : Nat → Prop) (S : DS) (n e p m f P m' : Nat) : Prop where
  ph : Ph o w Z Y X N j O S n e p m
  mg : Mem w g 24 (rw3 f P m')
  og : ¬ O g
  ng : g ≠ N
  ne : f = e + 1
  ok' : okR (P : Nat) (m' : Nat) = true
theorem Ph.cut (h : Ph o w Z Y X N j O S n e p m) (hb : Below w.heap.size w w') (hg : w.heap.size ≤ g) (hm : Mem w' g 24 (rw3 (e + 1) P m')) (hok : okR (P : Nat) (m' : Nat) = true) : Cut o w' Z Y X N g j O S n e p m (e + 1) P m' := ⟨h.below hb, hm, h.fresh hg, fun q => by have := h.mN.lt; omega, rfl, hok⟩
theorem l3 (h : Mem w g 24 (rw3 e p m)) : Mem w g 24 #[.int .u64 (e : Nat), .int .i64 (p : Nat), .int .i64 (m : Nat)] := h
theorem box3 (w : World) (cs : Array Value) : ∃ W2, W2 = (w.alloc (.cells #[.int .u64 0, .int .i64 0, .int .i64 0] 24)).setRow w.heap.size cs ∧ Below w.heap.size w W2 :=
  ⟨_, rfl, below_setRow ((Below.refl _ w).alloc (Nat.le_refl _) _) (Nat.le_refl _) _⟩
theorem Cut.below (h : Cut o w Z Y X N g j O S n e p m f P m') (hb : Below w.heap.size w w') : Cut o w' Z Y X N g j O S n e p m f P m' := ⟨h.ph.below hb, h.mg.below hb h.mg.lt, h.og, h.ng, h.ne, h.ok'⟩
theorem Cut.may (h : Cut o w Z Y X N g j O S n e p m f P m') (hj : j ≤ 20) : mayB e e f (P : Nat) (m' : Nat) = true := decide_eq_true ⟨rfl, by have := h.ph.le; omega, h.ne, h.ok'⟩
/-- Kept by an operation of the witness. -/
theorem Cut.far (h : Cut o w Z Y X N g j O S n e p m f P m') (he : Eff (fun k => O k ∨ k = Y ∨ k = Z) w w') (hs : ∀ k, O' k → O k ∨ w.heap.size ≤ k) : Mem w' N 24 (rw3 e p m) ∧ Mem w' g 24 (rw3 f P m') ∧ ¬ O' N ∧ ¬ O' g := by
  obtain ⟨v, hv⟩ := h.ph.wit.tw
  have hT : ∀ k, Tag w k 24 → ¬ O k → ¬ (O k ∨ k = Y ∨ k = Z) := fun k hk hO q => by
    rcases q with q | q | q
    · exact hO q
    · exact hk.ne (mem_tag hv.mem) (by decide) q
    · exact hk.ne (mem_tag h.ph.wit.mem) (by decide) q
  exact ⟨h.ph.mN.eff he (hT _ (mem_tag h.ph.mN) h.ph.oN), h.mg.eff he (hT _ (mem_tag h.mg) h.og), fun hO => (hs _ hO).elim h.ph.oN fun q => by have := h.ph.mN.lt; omega, fun hO => (hs _ hO).elim h.og fun q => by have := h.mg.lt; omega⟩
/-- After a Cas that was done: 'now' still the elder one. -/
structure Up (o w : World) (Z Y X N g j : Nat) (O : Nat → Prop) (S : DS) (n e p m f P m' : Nat) : Prop where
  wit : Wit o w Z Y X O S n (encS f P m') f P m'
  cl : Cl S n (encS f P m') (10 + 2 * (j + 1))
  mN : Mem w N 24 (rw3 e p m)
  mg : Mem w g 24 (rw3 f P m')
  oN : ¬ O N
  fN : o.heap.size ≤ N
  ng : g ≠ N
  ok' : okR (P : Nat) (m' : Nat) = true
  le : f ≤ j + 1 + 1
  ln : n ≤ j + 1 + 1
theorem Up.below (h : Up o w Z Y X N g j O S n e p m f P m') (hb : Below w.heap.size w w') : Up o w' Z Y X N g j O S n e p m f P m' := ⟨h.wit.below hb, h.cl, h.mN.below hb h.mN.lt, h.mg.below hb h.mg.lt, h.oN, h.fN, h.ng, h.ok', h.le, h.ln⟩
theorem eff_row1 (w : World) (N : Nat) (cs : Array Value) : Eff (fun k => k = N) w (w.setRow N cs) := ⟨rfl, rfl, rfl, by simp [World.setRow], fun k _ hn => setRow_other w N k cs hn⟩
theorem Wit.row (h : Wit o w Z Y X O S n l e p m) (hN : ¬ O N) (hf : o.heap.size ≤ N) {cs : Array Value} (hm : Mem w N 24 cs) (cs' : Array Value) : Wit o (w.setRow N cs') Z Y X O S n l e p m := by
  have he := eff_row1 w N cs'
  obtain ⟨v, hv⟩ := h.tw
  have hYT : Y ≠ N := (mem_tag hv.mem).ne (mem_tag hm) (by decide)
  have hZT : Z ≠ N := (mem_tag h.mem).ne (mem_tag hm) (by decide)
  exact ⟨h.dsk.effO he (fun k hk hO hTk => by subst hTk; exact hN hO) (fun k hk hTk => by subst hTk; exact hf), ⟨v, hv.mem.eff he hYT, owns_eff hv.row he (fun k hk hTk => (own_tag hv.row k hk).2.2.ne (mem_tag hm) (by decide) hTk), hv.from_, hv.noY, hv.noV, hv.fit, hv.few⟩, h.mem.eff he hZT, h.from_, h.noZ⟩
/-- 'now' written anew. -/
theorem Up.now (h : Up o w Z Y X N g j O S n e p m f P m') : ∃ w2, w2 = w.setRow N #[.int .u64 (f : Nat), .int .i64 (P : Nat), .int .i64 (m' : Nat)] ∧ Ph o w2 Z Y X N (j + 1) O S n f P m' := ⟨_, rfl, h.wit.row h.oN h.fN h.mN _, h.cl, h.mN.row _, h.oN, h.fN, h.ok', h.le, h.ln⟩
/-- A Cas whose power stays. -/
theorem cas_up (h : Cut o w Z Y X N g j O S n e p m f P m') (hj : j ≤ 20) (h1 : S.arm ≠ 1) (h2 : S.arm ≠ 2) :
    Calls Try.prog 14 #[.pointer (some ⟨Z, 0, none⟩), .int .u64 (e : Nat), .agg #[.int .u64 (f : Nat), .int .i64 (P : Nat), .int .i64 (m' : Nat)]] w fun e' w' => e' = .returned (.tuple #[.agg #[.int .u64 (f : Nat), .int .i64 (P : Nat), .int .i64 (m' : Nat)], .bool true, .int .i64 0]) ∧ ∃ O' S' n', Up o w' Z Y X N g j O' S' n' e p m f P m' := by
  have hle := h.ph.le
  have hln := h.ph.ln
  have hne := h.ne
  have hput := puts_A0 h.ph.wit h.ph.cl (by omega) h1 h2 (by omega) f P m'
  have hcl := h.ph.cl.put (m := encS f P m') (by omega) (by rw [encS_len]; decide)
  refine (cas_ok h.ph.wit e f P m' (by omega) (by omega) (h.may hj) hput).mono ?_
  rintro e' w' ⟨q1, O', q2, q3, q4, q5⟩
  obtain ⟨r1, r2, r3, r4⟩ := h.far q4 q5
  exact ⟨q1, O', _, _, q2, hcl, r1, r2, r3, h.ph.fN, h.ng, h.ok', by omega, by omega⟩
/-- After a Cas that lost the power: the disk holds the elder register or the newer one. -/
structure Dn (o w : World) (X N g j : Nat) (O : Nat → Prop) (S : DS) (e p m f P m' : Nat) : Prop where
  dsk : Dsk o w X O S
  cl : ∃ n', n' ≤ j + 1 + 1 ∧ (Cl (DS.on S) n' (encS e p m) (10 + 2 * (j + 1)) ∨ Cl (DS.on S) n' (encS f P m') (10 + 2 * (j + 1)))
  mN : Mem w N 24 (rw3 e p m)
  mg : Mem w g 24 (rw3 f P m')
  oN : ¬ O N
  og : ¬ O g
  fN : o.heap.size ≤ N
theorem Dn.below (h : Dn o w X N g j O S e p m f P m') (hb : Below w.heap.size w w') : Dn o w' X N g j O S e p m f P m' := ⟨h.dsk.below hb, h.cl, h.mN.below hb h.mN.lt, h.mg.below hb h.mg.lt, h.oN, h.og, h.fN⟩
theorem cas_dn (h : Cut o w Z Y X N g j O S n e p m f P m') (hj : j ≤ 20) (hA : S.arm = 1 ∨ S.arm = 2) :
    Calls Try.prog 14 #[.pointer (some ⟨Z, 0, none⟩), .int .u64 (e : Nat), .agg #[.int .u64 (f : Nat), .int .i64 (P : Nat), .int .i64 (m' : Nat)]] w fun e' w' => e' = .returned (.tuple #[.agg #[.int .u64 (e : Nat), .int .i64 (p : Nat), .int .i64 (m : Nat)], .bool false, .int .i64 8]) ∧ ∃ O' S', Dn o w' X N g j O' S' e p m f P m' := by
  have hle := h.ph.le
  have hln := h.ph.ln
  have hne := h.ne
  rcases hA with h1 | h2
  · refine (cas_down h.ph.wit e f P m' (by omega) (by omega) (h.may hj) (puts_A1 h.ph.wit h.ph.cl (by omega) h1 (by omega) f P m')).mono ?_
    rintro e' w' ⟨q1, O', q2, q3, q4, q5⟩
    obtain ⟨r1, r2, r3, r4⟩ := h.far q4 q5
    exact ⟨q1, O', _, q2.dsk, ⟨n, by omega, .inl ((h.ph.cl.crash _).more (by omega))⟩, r1, r2, r3, r4, h.ph.fN⟩
  · refine (cas_down h.ph.wit e f P m' (by omega) (by omega) (h.may hj) (puts_A2 h.ph.wit h.ph.cl (by omega) h2 (by omega) f P m')).mono ?_
    rintro e' w' ⟨q1, O', q2, q3, q4, q5⟩
    obtain ⟨r1, r2, r3, r4⟩ := h.far q4 q5
    exact ⟨q1, O', _, q2.dsk, (h.ph.cl.crashW (m := encS f P m') _ (by omega) (by rw [encS_len]; decide)).elim (fun q => ⟨n, by omega, .inl q⟩) (fun q => ⟨n + 1, by omega, .inr q⟩), r1, r2, r3, r4, h.ph.fN⟩
/-- The power is there again, and the disk holds the register (a, b, d). -/
structure Rs (o w : World) (X N g j : Nat) (O : Nat → Prop) (S : DS) (n a b d e p m f P m' : Nat) : Prop where
  dsk : Dsk o w X O S
  cl : Cl S n (encS a b d) (10 + 2 * (j + 1))
  ln : n ≤ j + 1 + 1
  mN : Mem w N 24 (rw3 e p m)
  mg : Mem w g 24 (rw3 f P m')
  oN : ¬ O N
  fN : o.heap.size ≤ N
theorem dn_on (h : Dn o w X N g j O S e p m f P m') : Calls Try.prog 15 #[.pointer (some ⟨X, 0, none⟩)] w fun e' w' => e' = .returned (.tuple #[]) ∧ ∃ S' n', (Rs o w' X N g j O S' n' e p m e p m f P m' ∨ Rs o w' X N g j O S' n' f P m' e p m f P m') := by
  refine (d_on h.dsk).mono ?_
  rintro e' w' ⟨q1, q2, q3⟩
  obtain ⟨n', hn, hc⟩ := h.cl
  have mN := h.mN.eff q3 h.oN
  have mg := h.mg.eff q3 h.og
  exact ⟨q1, DS.on S, n', hc.elim (fun q => .inl ⟨q2, q, hn, mN, mg, h.oN, h.fN⟩) (fun q => .inr ⟨q2, q, hn, mN, mg, h.oN, h.fN⟩)⟩
/-- Opened again: 'now' still the elder one. -/
structure Op2 (o w : World) (Z Y X N g j : Nat) (O : Nat → Prop) (S : DS) (n a b d e p m f P m' : Nat) : Prop where
  wit : Wit o w Z Y X O S n (encS a b d) a b d
  cl : Cl S n (encS a b d) (10 + 2 * (j + 1))
  ln : n ≤ j + 1 + 1
  mN : Mem w N 24 (rw3 e p m)
  mg : Mem w g 24 (rw3 f P m')
  oN : ¬ O N
  fN : o.heap.size ≤ N
theorem Op2.below {a b d : Nat} (h : Op2 o w Z Y X N g j O S n a b d e p m f P m') (hb : Below w.heap.size w w') : Op2 o w' Z Y X N g j O S n a b d e p m f P m' := ⟨h.wit.below hb, h.cl, h.ln, h.mN.below hb h.mN.lt, h.mg.below hb h.mg.lt, h.oN, h.fN⟩
theorem rs_open {a b d : Nat} (h : Rs o w X N g j O S n a b d e p m f P m') (hok : okR (b : Nat) (d : Nat) = true) (ha : a ≤ 1000) : Calls Try.prog 12 #[.pointer (some ⟨X, 0, none⟩)] w fun e' w' => ∃ Z Y, e' = .returned (.tuple #[.pointer (some ⟨Z, 0, none⟩), .int .i64 0]) ∧ Op2 o w' Z Y X N g j O S n a b d e p m f P m' := by
  refine (wopen_is h.dsk h.cl.dead h.cl.off (by rw [h.cl.len]; decide) (by rw [h.cl.wtg]; decide) (by omega) hok h.cl.best).mono ?_
  rintro e' w' ⟨Z, Y, q1, q2, q3⟩
  exact ⟨Z, Y, q1, q2, h.cl, h.ln, h.mN.below q3 h.mN.lt, h.mg.below q3 h.mg.lt, h.oN, h.fN⟩
theorem Op2.now {a b d : Nat} (h : Op2 o w Z Y X N g j O S n a b d e p m f P m') (hok : okR (b : Nat) (d : Nat) = true) (ha : a ≤ j + 1 + 1) : ∃ w2, w2 = w.setRow N #[.int .u64 (a : Nat), .int .i64 (b : Nat), .int .i64 (d : Nat)] ∧ Ph o w2 Z Y X N (j + 1) O S n a b d := ⟨_, rfl, h.wit.row h.oN h.fN h.mN _, h.cl, h.mN.row _, h.oN, h.fN, hok, ha, h.ln⟩
/-- The start. -/
def S0 : DS := fmtS (DS.new 2) 0 (encS 1 0 3)
theorem S0_cl : Cl S0 1 (encS 1 0 3) 10 := by
  have f0 := Fine.new 2 (by decide)
  exact ⟨fmtS_fine f0 (by decide) _, rfl, rfl, by unfold S0; rw [fmt_last]; rfl, rfl, Nat.zero_le _, fun z hz => (by cases hz), by decide, best_fmt f0 (by decide) (by rw [encS_len]; decide)⟩
theorem Cl.armed {S : DS} {n c : Nat} {l : List UInt8} (h : Cl S n l c) (k : Nat) (hk : k ≤ 1000000) (zs : List Int) (hz : PkOk zs) : Cl { S with arm := k, picks := zs } n l c := ⟨⟨⟨h.fine.few, h.fine.inT, h.fine.nodup, h.fine.has, h.fine.cnt, h.fine.tcnt⟩, h.fine.lens⟩, h.dead, h.off, h.len, h.wtg, hk, hz, h.calls, h.best⟩
end
section
variable {o w w' : World} {X Y Z N j n : Nat} {O O' : Nat → Prop} {S S' : DS} {e p m : Nat}
/-- After the last power cut. -/
structure Lt (o w : World) (X N : Nat) (O : Nat → Prop) (S : DS) (n e p m : Nat) : Prop where
  dsk : Dsk o w X O S
  cl : Cl (DS.on S) n (encS e p m) 1000
  mN : Mem w N 24 (rw3 e p m)
  oN : ¬ O N
theorem ph_crash (h : Ph o w Z Y X N j O S n e p m) (hj : j ≤ 20) (pv : Value) (zs : List Int) (hz : PkOk zs) (hp : Sl w o.heap.size pv zs.length (zints zs)) : Calls Try.prog 17 #[.pointer (some ⟨X, 0, none⟩), pv] w fun e' w' => e' = .returned (.tuple #[]) ∧ Lt o w' X N O (S.crashed zs) n e p m := by
  refine (d_crash h.wit.dsk h.cl.off (by rw [h.cl.wtg]; decide) pv zs hz hp).mono ?_
  rintro e' w' ⟨q1, q2, q3⟩
  exact ⟨q1, q2, (h.cl.crash zs).more (by omega), h.mN.eff q3 h.oN, h.oN⟩
theorem lt_on (h : Lt o w X N O S n e p m) : Calls Try.prog 15 #[.pointer (some ⟨X, 0, none⟩)] w fun e' w' => e' = .returned (.tuple #[]) ∧ Dsk o w' X O (DS.on S) ∧ Cl (DS.on S) n (encS e p m) 1000 ∧ Mem w' N 24 (rw3 e p m) := by
  refine (d_on h.dsk).mono ?_
  rintro e' w' ⟨q1, q2, q3⟩
  exact ⟨q1, q2, h.cl, h.mN.eff q3 h.oN⟩
theorem last_open (h : Dsk o w X O S) (hc : Cl S n (encS e p m) 1000) (hok : okR (p : Nat) (m : Nat) = true) (he : e ≤ 1000) (hN : Mem w N 24 (rw3 e p m)) : Calls Try.prog 12 #[.pointer (some ⟨X, 0, none⟩)] w fun e' w' => ∃ Z Y, e' = .returned (.tuple #[.pointer (some ⟨Z, 0, none⟩), .int .i64 0]) ∧ Wit o w' Z Y X O S n (encS e p m) e p m ∧ Mem w' N 24 (rw3 e p m) := by
  refine (wopen_is h hc.dead hc.off (by rw [hc.len]; decide) (by rw [hc.wtg]; decide) (by omega) hok hc.best).mono ?_
  rintro e' w' ⟨Z, Y, q1, q2, q3⟩
  exact ⟨Z, Y, q1, q2, hN.below q3 hN.lt⟩
end
end Wt
end Go.Proofs.Ytccknplmcnahbaa
