/- SpaceSwaps: for all bytes the statement's function tells true and turns nothing that was there. No condition. -/
import Derived.Test.YtchlfadhlakgkaaSp5
import Derived.LoopTactic
import Derived.IntWalk
namespace Go.Proofs.Ytchlfadhlakgkaa
open Go.ChangeShapes Go.WideShapes Go.ChangeAt Go.RowKit Go.Lib
set_option linter.unusedVariables false
namespace Swaps
/-- A block with its first byte. -/
def oneB (x : UInt8) : List UInt8 := [x, 0, 0, 0, 0, 0, 0, 0]
def pairB (a b : UInt8) : List UInt8 := [a, 0, 0, 0, 0, 0, 0, 0, b, 0, 0, 0, 0, 0, 0, 0]
theorem laid_one (x y : UInt8) : laid (oneB x) 0 (oneB y) = oneB y := rfl
section
variable {o W : World} {X g h : Nat} {M : List UInt8} {x : UInt8}
theorem made (w : World) (hb : Below o.heap.size o w) : Calls Try.prog 8 #[.int .i64 1] w fun e w' => ∃ X g h, e = .returned (.tuple #[.pointer (some ⟨X, 0, none⟩), .int .i64 0]) ∧ Spc o w' X g h 1 (oneB 0) [0] := by
  refine (Spc.made 1 (by omega) (by omega) hb).mono ?_
  rintro e w' ⟨X, g, h, rfl, h1, _⟩
  exact ⟨X, g, h, rfl, h1⟩
theorem cmp_yes (a b : UInt8) (v : Value) (hs : Spc o W X g h 1 (oneB a) M) (hd : Sl W W.heap.size v 16 (bs (pairB a b))) : Calls Try.prog 10 #[.pointer (some ⟨X, 0, none⟩), .int .i64 0, v] W fun e w' => e = .returned (.tuple #[.int .i64 (-1), .int .i64 0]) ∧ ∃ M', Spc o w' X g h 1 (oneB b) M' := by
  refine (compare_yes 0 1 v (pairB a b) hs.inv hd rfl (by omega) (by omega) (by omega) ?_).mono ?_
  · intro j hj
    match j, hj with
    | 0, _ => rfl
    | 1, _ => rfl
    | 2, _ => rfl
    | 3, _ => rfl
    | 4, _ => rfl
    | 5, _ => rfl
    | 6, _ => rfl
    | 7, _ => rfl
  · rintro e w' ⟨rfl, M', _, h3, h4⟩
    exact ⟨rfl, M', hs.to h3 h4⟩
theorem cmp_no (a b : UInt8) (v : Value) (hne : x ≠ a) (hs : Spc o W X g h 1 (oneB x) M) (hd : Sl W W.heap.size v 16 (bs (pairB a b))) : Calls Try.prog 10 #[.pointer (some ⟨X, 0, none⟩), .int .i64 0, v] W fun e w' => e = .returned (.tuple #[.int .i64 0, .int .i64 0]) ∧ Spc o w' X g h 1 (oneB x) M := by
  refine (compare_no 0 1 0 v (pairB a b) hs.inv hd rfl (by omega) (by omega) (by omega) (fun j hj => by omega) ?_).mono ?_
  · intro e
    exact hne (Option.some.inj e)
  · rintro e w' ⟨rfl, rfl⟩
    exact ⟨rfl, hs⟩
theorem rd (hs : Spc o W X g h 1 (oneB x) M) : Calls Try.prog 11 #[.pointer (some ⟨X, 0, none⟩), .int .i64 0, .int .i64 1] W fun e w' => ∃ b c, e = .returned (.tuple #[.slice (some ⟨b, 0, none⟩) 8 c, .int .i64 0]) ∧ w'.cell? ⟨b, 0, none⟩ = some (.int .u8 (x.toNat : Int)) ∧ Spc o w' X g h 1 (oneB x) M := by
  refine (read_s 0 1 hs (by omega) (by omega) (by omega)).mono ?_
  rintro e w' ⟨b, c, rfl, h1, h2, h3, _⟩
  refine ⟨b, c, rfl, ?_, h3.spc⟩
  have := h3.row.cellAt 0 (by rw [piece_len (D := oneB x) (a := 0) (n := 1) (by simp [oneB])]; omega)
  rw [this]
  rfl
end
theorem and3 (x : Nat) (h : x < 256) : bits BinOp.and IntKind.u8 (x : Int) 3 = ((x % 4 : Nat) : Int) := by
  have : ∀ j : Fin 256, bits BinOp.and IntKind.u8 ((j : Nat) : Int) 3 = (((j : Nat) % 4 : Nat) : Int) := by decide +kernel
  exact this ⟨x, h⟩
theorem parts (y : Nat) (hy : y < 256) : ∃ q r : UInt8, q.toNat < 4 ∧ r.toNat < 4 ∧ bits BinOp.and IntKind.u8 (y : Int) 3 = (q.toNat : Int) ∧ bits BinOp.and IntKind.u8 ((y : Int) / 4) 3 = (r.toNat : Int) := by
  refine ⟨UInt8.ofNat (y % 4), UInt8.ofNat (y / 4 % 4), ?_, ?_, ?_, ?_⟩
  · simp; omega
  · simp; omega
  · rw [and3 y hy]; simp; omega
  · rw [show (y : Int) / 4 = ((y / 4 : Nat) : Int) by omega, and3 _ (by omega)]; simp; omega
set_option maxRecDepth 100000 in
set_option maxHeartbeats 1000000 in
theorem walk (v : Value) (l : List UInt8) (w : World) (hd : Sl w w.heap.size v l.length (bs l)) :
    Calls Try.prog 6 #[v] w fun e w' => e = .returned (.bool true) ∧ Below w.heap.size w w' := by
  obtain ⟨i0, hi, hz0, hz1, hz2⟩ := info_parts (show (Try.prog.info? 5).map (fun i => (i.zero, i.size, i.bytes)) = some (some (.int .u8 0), 1, 1) by kernel_rfl)
  obtain ⟨A, c, rfl, hc1, hc2⟩ := hd.form
  by_cases h60 : 60 < l.length
  · have h60x : (60 : Int) < (l.length : Int) := by omega
    go_enter Try.func6, Try.ntmps6
    go_wp2_with (go_at_call 7; refine (known_any _).mono ?_; rintro e w1 ⟨rfl, hb1⟩)
    go_ret
    exact ⟨rfl, hb1⟩
  have h60x : ¬ (60 : Int) < (l.length : Int) := by omega
  go_enter Try.func6, Try.ntmps6
  go_wp2_with (first
    | (go_at_call 7; refine (known_any _).mono ?_; rintro e w1 ⟨rfl, hb1⟩)
    | (go_at_call 8; (with_reducible refine (made _ hb1).mono ?_); rintro e w2 ⟨X, g, h, rfl, hs2⟩))
  go_loopw [5, 6] (fun nw i wr => ∃ (k : Nat) (x : UInt8) (M : List UInt8), k ≤ l.length ∧ i = .int .i64 k ∧ nw = .int .u8 (x.toNat : Int) ∧ x.toNat < 4 ∧ Spc w wr X g h 1 (oneB x) M) (fun _ i _ => l.length - (intOf i).toNat)
  case atStart => exact ⟨0, 0, [0], by omega, rfl, rfl, by decide, hs2⟩
  case round =>
    clear hs2
    obtain ⟨k, x, M, hk, rfl, rfl, hx4, hs⟩ := hrel
    by_cases hkl : k < l.length
    · have hkx : (k : Int) < (l.length : Int) := by omega
      obtain ⟨b, off, rfl, hbb, hat⟩ := hd.at_ (by omega)
      have x1 := (hs.bl.cell (p := ⟨b, off + k, none⟩) hbb).trans (hat k _ (bs_get hkl))
      have hy := (l[k]).toNat_lt
      generalize l[k] = y at *
      obtain ⟨q, r, hq4, hr4, h1, h2⟩ := parts y.toNat hy
      by_cases hqx : x = q
      · subst hqx
        go_wp2_with (first
          | (at_make; refine wpList_make_full _ rfl (.const (.int .i64 16)) (.const (.int .i64 16)) 22 rfl wr.heap.size 5 i0 _ 1 Try.underlying22 hi hz0 hz1 .i64 .i64 _ _ 16 rfl rfl rfl rfl (by rw [hz2]; omega) (by unfold maxLen; omega) (Nat.le_refl _) ?_; intro w3 hown3 hg3; replace hown3 : w3.ownsRow wr.heap.size 5 1 (.slice (some ⟨wr.heap.size, 0, none⟩) 16 16) 16 (List.replicate 16 (.int .u8 0)) := (made_bytes 16 ▸ hown3); have hq0 := hown3.frozenAt 0; have hq1 : w3.cell? ⟨wr.heap.size, 0, none⟩ = some (.int .u8 0) := hown3.cellAt 0 (by omega); have hown4 := (hown3.stored 0 (.int .u8 (x.toNat : Int))).1; have hq2 := hown4.frozenAt 8; have hq3 : (w3.setCell ⟨wr.heap.size, 0, none⟩ (.int .u8 (x.toNat : Int))).cell? ⟨wr.heap.size, 8, none⟩ = some (.int .u8 0) := hown4.cellAt 8 (by omega); have hown5 := (hown4.stored 8 (.int .u8 (r.toNat : Int))).1; have hb5 : Below wr.heap.size wr ((w3.setCell ⟨wr.heap.size, 0, none⟩ (.int .u8 (x.toNat : Int))).setCell ⟨wr.heap.size, 8, none⟩ (.int .u8 (r.toNat : Int))) := (((Below.refl _ wr).grown hg3 (Nat.le_refl _) (fun k hk => by cases hk)).setCell (p := ⟨wr.heap.size, 0, none⟩) (Nat.le_refl _) _).setCell (p := ⟨wr.heap.size, 8, none⟩) (Nat.le_refl _) _; have hs5 := hs.below hb5; have hd5 := Sl.of_own hown5; have hcm := cmp_yes x r _ hs5 hd5)
          | (go_at_call 10; (with_reducible refine hcm.mono ?_); rintro e w6 ⟨rfl, M6, hs6⟩)
          | (go_at_call 11; (with_reducible refine (rd hs6).mono ?_); rintro e w7 ⟨b7, c7, rfl, x7, hs7⟩))
        exact ⟨⟨k + 1, r, _, by omega, by simp, rfl, hr4, hs7⟩, by simp [intOf]; omega⟩
      · have hne : ¬ (q.toNat : Int) = (x.toNat : Int) := fun e => hqx (UInt8.toNat_inj.1 (by omega))
        have hbq : ((q.toNat : Int) == (x.toNat : Int)) = false := by simpa using hne
        go_wp2_with (first
          | (at_make; refine wpList_make_full _ rfl (.const (.int .i64 16)) (.const (.int .i64 16)) 22 rfl wr.heap.size 5 i0 _ 1 Try.underlying22 hi hz0 hz1 .i64 .i64 _ _ 16 rfl rfl rfl rfl (by rw [hz2]; omega) (by unfold maxLen; omega) (Nat.le_refl _) ?_; intro w3 hown3 hg3; replace hown3 : w3.ownsRow wr.heap.size 5 1 (.slice (some ⟨wr.heap.size, 0, none⟩) 16 16) 16 (List.replicate 16 (.int .u8 0)) := (made_bytes 16 ▸ hown3); have hq0 := hown3.frozenAt 0; have hq1 : w3.cell? ⟨wr.heap.size, 0, none⟩ = some (.int .u8 0) := hown3.cellAt 0 (by omega); have hown4 := (hown3.stored 0 (.int .u8 (q.toNat : Int))).1; have hq2 := hown4.frozenAt 8; have hq3 : (w3.setCell ⟨wr.heap.size, 0, none⟩ (.int .u8 (q.toNat : Int))).cell? ⟨wr.heap.size, 8, none⟩ = some (.int .u8 0) := hown4.cellAt 8 (by omega); have hown5 := (hown4.stored 8 (.int .u8 (r.toNat : Int))).1; have hb5 : Below wr.heap.size wr ((w3.setCell ⟨wr.heap.size, 0, none⟩ (.int .u8 (q.toNat : Int))).setCell ⟨wr.heap.size, 8, none⟩ (.int .u8 (r.toNat : Int))) := (((Below.refl _ wr).grown hg3 (Nat.le_refl _) (fun k hk => by cases hk)).setCell (p := ⟨wr.heap.size, 0, none⟩) (Nat.le_refl _) _).setCell (p := ⟨wr.heap.size, 8, none⟩) (Nat.le_refl _) _; have hs5 := hs.below hb5; have hd5 := Sl.of_own hown5; have hcm := cmp_no q r _ hqx hs5 hd5)
          | (go_at_call 10; (with_reducible refine hcm.mono ?_); rintro e w6 ⟨rfl, hs6⟩)
          | (go_at_call 11; (with_reducible refine (rd hs6).mono ?_); rintro e w7 ⟨b7, c7, rfl, x7, hs7⟩))
        exact ⟨⟨k + 1, x, _, by omega, by simp, rfl, hx4, hs7⟩, by simp [intOf]; omega⟩
    · obtain rfl : k = l.length := by omega
      go_wp2
      go_ret
      exact ⟨rfl, hs.bl⟩
set_option maxRecDepth 100000 in
theorem lifted (os : Os) (started : os.Started) (H : Type) (enc : TypeId × Value → H) :
    ReturnsInHanded {} Try.checked os 6 .any (Rows.spaceSwapsSpec.pre6 enc Try.prog Try.f6 Rows.spaceSwapsRow.domain false) (Rows.spaceSwapsSpec.post enc Try.prog Try.f6 false true false false) := by
  refine returnsInHanded_of_change (C := Try.checked) own started (by kernel_rfl) Try.func6
    (ChangeSpec.witness6 (enc := enc) (C := Try.checked) false ⟨#[], #[.slice none 0 0], []⟩ 8 (by kernel_rfl) (by kernel_rfl) (by kernel_rfl) (by kernel_rfl)) ?_
  intro W base args ds gs before hval0 hW hcnd _
  have hval : ∀ (j : Nat) t v, Try.f6.params[j]? = some t → args[j]? = some v → Value.okWide Try.prog W .any base t v := hval0
  have hW' := hW
  obtain ⟨p, q, hA0, hV, rfl, hfz, hnd⟩ := hW
  have hA : DataW.TrodAll enc Try.prog W 0 (fun _ => true) true Try.f6.params.toList args.toList ds p := hA0
  rw [Try.params6] at hA hval
  obtain ⟨v0, vs0, d0, ds0, p0, q0, hargs, rfl, rfl, h0, r0⟩ := trodAll_cons hA
  obtain ⟨rfl, rfl, rfl⟩ := trodAll_nil r0
  obtain rfl : args = #[v0] := by cases args; simp_all
  obtain ⟨rfl, rfl⟩ := trodVars_none hV
  obtain ⟨l0, s0, e0⟩ := open_bytes Try.underlying22 Try.underlying5 (by kernel_rfl) (hval 0 22 v0 rfl rfl) h0
  refine (walk v0 l0 W s0).mono fun e W' ⟨he, hb⟩ => ?_
  subst he
  exact ⟨_, rfl, law_post laidOut (by kernel_rfl) rfl (by kernel_rfl) Try.underlying4 rfl rfl rfl hW' hb⟩

theorem proved : Rows.SpaceSwapsSaid :=
  OpenClaim.holds_of_wide 6 Try.f6 rfl rfl rfl rfl rfl rfl rfl ⟨rfl, rfl, rfl, rfl, rfl⟩ rfl rfl rfl rfl rfl (by kernel_rfl) Try.func6 (by kernel_rfl)
    (of_decide_eq_true (by kernel_rfl)) (by unfold Func.isWrapper; first | (rw [if_pos (by decide +kernel)]; kernel_rfl) | (rw [if_neg (by decide +kernel)]; exact ⟨rfl, rfl⟩))
    (fun os started H enc _ => lifted os started H enc)
end Swaps
end Go.Proofs.Ytchlfadhlakgkaa
