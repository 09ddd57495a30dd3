/- The document's second telling of two keys (gemelref6): Encode. -/
import Derived.Test.YteeeioafhdkagaaPrR
import Derived.Test.YteeeioafhdkagaaZ
namespace Go.Proofs.Yteeeioafhdkagaa
open Go.ChangeShapes Go.WideShapes Go.ChangeAt Go.RowKit
set_option linter.unusedVariables false
theorem bs_zeros (n : Nat) : List.replicate n (Value.int .u8 0) = bs (be 0 n) := by
  rw [be_zero]
  simp [bs]
theorem rEncode_any (k o : Nat) (w : World) (hk : k < 18446744073709551616) (ho : o < 18446744073709551616) :
    Calls Try.prog 24 #[.int .u64 k, .int .u64 o] w fun e w' => ∃ v', e = .returned v' ∧ Sl w' w'.heap.size v' (prEnc k o).length (bs (prEnc k o)) ∧ Below w.heap.size w w' := by
  have c1 := rput_b (.slice none 0 0) [] k 8 k 8 rfl rfl w w.heap.size (World.ownsRow_nil _ _ _ _) (Nat.le_refl _) hk (by simp) (by omega)
  rw [List.nil_append] at c1
  have c2 : ∀ W v, Below w.heap.size w W → W.ownsRow w.heap.size 5 1 v (be k 8).length (bs (be k 8)) → Calls Try.prog 40 #[v, .int .u64 o, .int .i64 8] W _ := fun W v hW h => rput_b v _ o 8 o 8 rfl rfl W w.heap.size h hW.size ho (by simp) (by omega)
  obtain ⟨i0, hi, hz0, hz1, hz2⟩ := info_parts (show (Try.prog.info? 5).map (fun i => (i.zero, i.size, i.bytes)) = some (some (.int .u8 0), 1, 1) by kernel_rfl)
  go_enter Try.func24, Try.ntmps24
  go_wp2_with (first
    | (go_at_call 40; with_reducible refine c1.mono ?_; rintro e w1 ⟨v1, rfl, hs1, hb1⟩)
    | (go_at_call 40; with_reducible refine (c2 _ _ hb1 hs1).mono ?_; rintro e w2 ⟨v2, rfl, hs2, hb2⟩; have hb12 := hb1.trans hb2)
    | (at_builtin; refine wpList_append_zeros w2 rfl (.tmp 8) _ _ _ rfl w.heap.size 5 i0 .u8 .i64 Try.underlying24 Try.underlying3 hi hz0 hz1 hz2 v2 _ _ rfl hs2 8 rfl (by omega) (by simp) hb12.size ?_; intro v3 w3 hown3 hg3
       have hb3 : Below w.heap.size w w3 := below_own hb12 hg3 hb12.size (fun k hk => (hs2.lt k hk).1)))
  go_ret
  refine ⟨_, rfl, ?_, hb3⟩
  rw [bs_zeros, ← bs_app] at hown3
  have h := Sl.of_own hown3
  unfold prEnc
  rw [List.length_append, be_len 0 8]
  exact h
end Go.Proofs.Yteeeioafhdkagaa
