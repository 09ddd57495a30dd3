/- The table of strconv's powers of ten: out of the row's list, and kept below. -/
import Derived.Test.YtikehhcbjmcfdaaDoorTxtW
import Derived.Test.YtikehhcbjmcfdaaDoorTxtF
import Derived.Test.YtikehhcbjmcfdaaDoorTxtV
import Derived.Test.YtikehhcbjmcfdaaDoorRows
import Derived.Lib.LaidU8
import Derived.Lib.LaidTab
import Derived.Lib.AppendIntMem
import Derived.WalkSmall
namespace Go.Proofs.YtikehhcbjmcfdaaDoor
open Go.ChangeShapes Go.WideShapes Go.ChangeAt Go.RowKit
set_option linter.unusedVariables false
theorem tab_of_reads {P : Program} {W : World} {name : String} {k : IntKind} {zs : List Int} {g : Nat} {t e : TypeId} {n : Nat}
    (hg : P.globalNamed name = some g) (hty : (P.globals[g]?).map (·.type) = some t) (ht : P.underlying t = some (.array n e)) (he : P.underlying e = some (.int k)) (hce : P.cellsOf e = 1) (hct : P.cellsOf t = n)
    (h : Lib.VarReads P W name (Lib.tabData k zs)) : Lib.TabIs P W name k zs := by
  obtain ⟨g', t', cs, fuel, p, hg', ht', hvar, hd⟩ := h
  obtain rfl := Option.some.inj (hg.symm.trans hg')
  obtain rfl := Option.some.inj (hty.symm.trans ht')
  unfold Lib.TabIs
  rw [hvar, ← Lib.cells_of_tab ht he hce hct hd]
abbrev Tab (W : World) : Prop := Lib.TabIs Tryd.prog W "internal/strconv.uint64pow10" .u64 Lib.pow10Tab
theorem tab_of {W : World} {l : List (String × DataW Unit)} (hm : ("internal/strconv.uint64pow10", Rows.laid_internal_strconv_uint64pow10 (H := Unit)) ∈ l) (h : laidMet Tryd.prog l W) : Tab W :=
  tab_of_reads (g := 1) (t := 81) (e := 72) (n := 20) (by kernel_rfl) (by kernel_rfl) Tryd.underlying81 Tryd.underlying72 (by kernel_rfl) (by kernel_rfl)
    (by have h1 := Lib.laidMet.reads h hm
        rw [show Rows.laid_internal_strconv_uint64pow10 (H := Unit) = Lib.tabData .u64 Lib.pow10Tab by kernel_rfl] at h1
        exact h1)
theorem Tab.below {W W' : World} (h : Tab W) (hb : Below W.heap.size W W') : Tab W' := by
  have hg : Tryd.prog.globalNamed "internal/strconv.uint64pow10" = some 1 := by kernel_rfl
  exact var?_below hb hg (cell_block (h.cell hg 0 (by decide))) h
theorem decDigits_is (u : Nat) : Lib.decDigits u = decS u := by
  induction u using Nat.strongRecOn with
  | ind u ih =>
    rw [Lib.decDigits, decS]
    by_cases h : u < 10
    · rw [dif_pos h, if_pos h]; rfl
    · rw [dif_neg h, if_neg h, ih (u / 10) (by omega)]; rfl
/-- strconv.Itoa of a number that is not below 0. -/
theorem Itoa_any (v : Int) (h0 : 0 ≤ v) (h1 : v ≤ 999999999) (W : World) (ht : Tab W) :
    Calls Tryd.prog 41 #[.int .i64 v] W fun e w' => e = .returned (.string ⟨(decS v.toNat).toArray⟩) ∧ Below W.heap.size W w' := by
  refine (Go.Proofs.Tryd.strconv_Itoa v (by omega) (by omega) W ht).mono ?_
  rintro e w' ⟨rfl, k, os, rfl⟩
  refine ⟨?_, Lib.below_grow _ _ (Nat.le_refl _) k os⟩
  obtain ⟨u, rfl⟩ : ∃ u : Nat, v = u := ⟨v.toNat, by omega⟩
  rw [Lib.itoa_nonneg, decDigits_is]
  rfl
end Go.Proofs.YtikehhcbjmcfdaaDoor
