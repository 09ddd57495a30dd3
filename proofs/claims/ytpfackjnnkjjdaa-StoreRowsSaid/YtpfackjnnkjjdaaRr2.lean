/- Package ring: sector, Next, First, Room, Read, Trim, Flush: contracts. -/
import Derived.Test.YtpfackjnnkjjdaaRr1
import Derived.BigQuiet
import Derived.Deep.QuietTactic
namespace Go.Proofs.Ytpfackjnnkjjdaa
open Go.ChangeShapes Go.WideShapes Go.ChangeAt Go.RowKit Go.Lib
set_option linter.unusedVariables false
set_option linter.unusedSimpArgs false
namespace Rg
open Crc Dk
def RS.next (T : RS) : Nat := T.first + T.recs.length
/-- Which sector is the i-th from the first record on. -/
def RS.sec (T : RS) (i : Nat) : Nat := T.at_ + (T.place + i) % T.n
section
variable {w : World} {Y X : Nat} {R : Nat → Prop} {T : RS} {rv : Value} {D : List Value}
theorem RgM.c0 (h : RgM w Y X R T rv D) : w.cell? ⟨Y, 0, none⟩ = some (.pointer (some ⟨X, 0, none⟩)) := h.mem.cell 0
theorem RgM.c1 (h : RgM w Y X R T rv D) : w.cell? ⟨Y, 1, none⟩ = some (.int .i64 (T.at_ : Nat)) := h.mem.cell 1
theorem RgM.c2 (h : RgM w Y X R T rv D) : w.cell? ⟨Y, 2, none⟩ = some (.int .i64 (T.n : Nat)) := h.mem.cell 2
theorem RgM.c3 (h : RgM w Y X R T rv D) : w.cell? ⟨Y, 3, none⟩ = some (.int .u32 (T.life : Nat)) := h.mem.cell 3
theorem RgM.c4 (h : RgM w Y X R T rv D) : w.cell? ⟨Y, 4, none⟩ = some (.int .u64 (T.first : Nat)) := h.mem.cell 4
theorem RgM.c5 (h : RgM w Y X R T rv D) : w.cell? ⟨Y, 5, none⟩ = some (.int .i64 (T.place : Nat)) := h.mem.cell 5
theorem RgM.c6 (h : RgM w Y X R T rv D) : w.cell? ⟨Y, 6, none⟩ = some rv := h.mem.cell 6
theorem RgM.c7 (h : RgM w Y X R T rv D) : w.cell? ⟨Y, 7, none⟩ = some (.int .i64 (T.used : Nat)) := h.mem.cell 7
set_option maxRecDepth 100000 in
theorem sector_any (h : RgM w Y X R T rv D) {N : Nat} (hk : T.Ok N) (hN : N ≤ 4096) (i : Nat) (hi : i ≤ 100000) : Calls Try.prog 59 #[.pointer (some ⟨Y, 0, none⟩), .int .i64 (i : Nat)] w fun e w' => e = .returned (.int .i64 (T.sec i : Nat)) ∧ ∃ k, w' = w.drewN k := by
  have x1 := h.c1
  have x2 := h.c2
  have x5 := h.c5
  have h1 := hk.n2
  have h2 := hk.fit
  have h3 := hk.pl
  unfold RS.sec
  have e1 : (((T.place + i) % T.n : Nat) : Int) = ((T.place : Int) + (i : Int)) % (T.n : Int) := by rw [Int.natCast_emod, Int.natCast_add]
  have e2 : ((T.place : Int) + (i : Int)).tmod (T.n : Int) = (((T.place + i) % T.n : Nat) : Int) := by rw [Int.tmod_eq_emod_of_nonneg (by omega)]; exact e1.symm
  have hm : (((T.place + i) % T.n : Nat) : Int) < 4096 := by
    have h := Nat.mod_lt (T.place + i) (show T.n > 0 by omega)
    generalize (T.place + i) % T.n = m at h
    omega
  rw [show ((T.at_ + (T.place + i) % T.n : Nat) : Int) = (T.at_ : Int) + (((T.place + i) % T.n : Nat) : Int) by omega]
  have hn0 : ¬ (T.n : Int) = 0 := by omega
  have ha : (T.at_ : Int) ≤ 4096 := by omega
  have hp : (T.place : Int) ≤ 4096 := by omega
  have hix : (i : Int) ≤ 100000 := by omega
  clear e1 h1 h2 h3
  generalize (T.place + i) % T.n = m at *
  go_enter Try.func59, Try.ntmps59
  go_wp2
  go_quiet (fail)
  go_wp2
  go_ret
  exact ⟨rfl, _, rfl⟩
theorem next_any (h : RgM w Y X R T rv D) (hf : T.next ≤ 1000000) : Calls Try.prog 37 #[.pointer (some ⟨Y, 0, none⟩)] w fun e w' => e = .returned (.int .u64 (T.next : Nat)) ∧ ∃ k, w' = w.drewN k := by
  have x4 := h.c4
  have x6 := h.c6
  obtain ⟨A, c, rfl, _, _⟩ := h.row.form
  unfold RS.next at *
  have hfx : (T.first : Int) + (T.recs.length : Int) ≤ 1000000 := by omega
  rw [show ((T.first + T.recs.length : Nat) : Int) = (T.first : Int) + (T.recs.length : Int) by omega]
  have e1 : IntKind.u64.wrap (T.recs.length : Int) = (T.recs.length : Int) := by rw [IntKind.wrap_u64]; omega
  go_enter Try.func37, Try.ntmps37
  go_wp2
  go_quiet (fail)
  go_wp2
  go_ret
  exact ⟨rfl, _, rfl⟩
theorem first_any (h : RgM w Y X R T rv D) : Calls Try.prog 35 #[.pointer (some ⟨Y, 0, none⟩)] w fun e w' => e = .returned (.tuple #[.int .u64 (T.first : Nat), .int .i64 (T.place : Nat)]) ∧ ∃ k, w' = w.drewN k := by
  have x4 := h.c4
  have x5 := h.c5
  go_enter Try.func35, Try.ntmps35
  go_wp2
  go_quiet (fail)
  go_wp2
  go_ret2
  exact ⟨rfl, _, rfl⟩
theorem room_any (h : RgM w Y X R T rv D) {N : Nat} (hk : T.Ok N) (hN : N ≤ 4096) : Calls Try.prog 57 #[.pointer (some ⟨Y, 0, none⟩)] w fun e w' => e = .returned (.int .i64 ((T.n : Int) - (T.used : Int))) ∧ ∃ k, w' = w.drewN k := by
  have x2 := h.c2
  have x7 := h.c7
  have h1 := hk.us
  have h2 := hk.fit
  have hn : (T.n : Int) ≤ 4096 := by omega
  have hu : (T.used : Int) ≤ (T.n : Int) := by omega
  go_enter Try.func57, Try.ntmps57
  go_wp2
  go_quiet (fail)
  go_wp2
  go_ret
  exact ⟨rfl, _, rfl⟩
end
end Rg
end Go.Proofs.Ytpfackjnnkjjdaa
