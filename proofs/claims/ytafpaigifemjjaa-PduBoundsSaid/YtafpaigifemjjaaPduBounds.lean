/- PduBounds: for every number about the bound, and every length that a header says beyond it, the statement's function tells true and turns nothing that was there. No condition. -/
import Derived.Test.YtafpaigifemjjaaPd14
import Derived.Test.YtafpaigifemjjaaFlipL
import Derived.Deep.AppendLies
import Derived.Test.YtafpaigifemjjaaChecked
import Derived.Test.YtafpaigifemjjaaRows
namespace Go.Proofs.Ytafpaigifemjjaa
open Go.ChangeShapes Go.WideShapes Go.ChangeAt Go.RowKit
set_option linter.unusedVariables false
namespace PBounds
open Flips
def pz : Pdh := ⟨0, false, 0, 0, 0, 0, 0, 0, 0, 0, List.replicate 16 0⟩
theorem pz_fit : pz.Fit := ⟨by decide, by decide, by decide, by decide, by decide, by decide, by decide, by decide, by decide, by decide⟩
theorem pz_v (d : Value) : pz.v d = .agg #[Value.int .i64 0, .bool false, .int .i64 0, .int .i64 0, .int .u32 0, .int .u32 0, .int .u32 0, .int .u32 0, .int .u32 0, .int .u32 0, .int .u8 0, .int .u8 0, .int .u8 0, .int .u8 0, .int .u8 0, .int .u8 0, .int .u8 0, .int .u8 0, .int .u8 0, .int .u8 0, .int .u8 0, .int .u8 0, .int .u8 0, .int .u8 0, .int .u8 0, .int .u8 0, d] := rfl
theorem bs_zeros (n : Nat) : List.replicate n (Value.int .u8 0) = bs (List.replicate n 0) := by simp [bs]
set_option maxRecDepth 100000 in
set_option maxHeartbeats 1000000 in
theorem walkA (n : Int) (more : Value) (w : World) (h : n < 4090 ∨ 4100 < n) : Calls Try.prog 4 #[.int .i64 n, more] w fun e w' => e = .returned (.bool true) ∧ Below w.heap.size w w' := by
  rcases h with h | h
  all_goals
    have d1 := decide_eq_true h
    clear h
    go_enter Try.func4, Try.ntmps4
    go_wp2_with (go_at_call 5; refine (known7_any _).mono ?_; rintro e w1 ⟨rfl, hb1⟩)
    all_goals go_ret
    all_goals exact ⟨rfl, hb1⟩
set_option maxRecDepth 100000 in
set_option maxHeartbeats 1000000 in
theorem walkL (n : Nat) (more : Value) (w : World) (h1 : 4096 < n) (h2 : n ≤ 4100) : Calls Try.prog 4 #[.int .i64 (n : Nat), more] w fun e w' => e = .returned (.bool true) ∧ Below w.heap.size w w' := by
  obtain ⟨i0, hi, hz0, hz1, hz2⟩ := info_parts info_u8
  have d1 : decide ((n : Int) < 4090) = false := decide_eq_false (by omega)
  have d2 : decide ((4100 : Int) < (n : Int)) = false := decide_eq_false (by omega)
  have d3 : decide ((4096 : Int) < (n : Int)) = true := decide_eq_true (by omega)
  have hen : ∀ A c W, Calls Try.prog 6 #[.agg #[Value.int .i64 0, .bool false, .int .i64 0, .int .i64 0, .int .u32 0, .int .u32 0, .int .u32 0, .int .u32 0, .int .u32 0, .int .u32 0, .int .u8 0, .int .u8 0, .int .u8 0, .int .u8 0, .int .u8 0, .int .u8 0, .int .u8 0, .int .u8 0, .int .u8 0, .int .u8 0, .int .u8 0, .int .u8 0, .int .u8 0, .int .u8 0, .int .u8 0, .int .u8 0, .slice A n c]] W fun e w' => e = .returned (.tuple #[.slice none 0 0, .int .i64 5]) ∧ Below W.heap.size W w' := fun A c W => encode_long 0 0 0 0 0 0 0 0 0 false (List.replicate 16 0) rfl (by decide) (by decide) (by decide) (by decide) rfl A n c W h1
  have hnx : (n : Int) ≤ 4100 := by omega
  go_enter Try.func4, Try.ntmps4
  go_wp2_with (first
    | (go_at_call 5; refine (known7_any _).mono ?_; rintro e w1 ⟨rfl, hb1⟩)
    | (at_make; refine wpList_make_full _ rfl (.tmp 30) (.tmp 30) 24 rfl w1.heap.size 5 i0 _ 1 Try.underlying24 hi hz0 hz1 .i64 .i64 _ _ n rfl rfl rfl rfl (by rw [hz2]; omega) (by unfold maxLen; omega) (Nat.le_refl _) ?_; intro w2 hown2 hg2; have hb2 : Below w1.heap.size w1 w2 := (Below.refl _ w1).grown hg2 (Nat.le_refl _) (fun k hk => by cases hk))
    | (go_at_call 6; refine (hen _ _ _).mono ?_; rintro e w3 ⟨rfl, hb3⟩; have hb4 := hb1.trans ((hb2.trans (hb3.mono hb2.size)).mono hb1.size)))
  all_goals go_ret
  all_goals exact ⟨rfl, hb4⟩
/-- The header that says b bytes of data. -/
def HB (b : Nat) : List UInt8 := pz.bytes b
theorem HB_len (b : Nat) : (HB b).length = 48 := pz.bytes_len b pz_fit
theorem HB_is (b : Nat) : HB b = [0, 0, 0, 0, UInt8.ofNat (b / 16777216), UInt8.ofNat (b / 65536), UInt8.ofNat (b / 256), UInt8.ofNat b] ++ List.replicate 40 0 := by
  have h : be b 4 = [UInt8.ofNat (b / 16777216), UInt8.ofNat (b / 65536), UInt8.ofNat (b / 256), UInt8.ofNat b] := by
    show [UInt8.ofNat (b / 256 ^ 3), UInt8.ofNat (b / 256 ^ 2), UInt8.ofNat (b / 256 ^ 1), UInt8.ofNat (b / 256 ^ 0)] = _
    simp
  unfold HB Pdh.bytes pz
  rw [h]
  rfl
theorem big_row (b : Nat) (hb : b < 200000) (T : List UInt8) :
    ((((bs (List.replicate 48 0 ++ T)).set 4 (Value.int IntKind.u8 ((b : Int) / 16777216))).set 5 (Value.int IntKind.u8 ((b : Int) / 65536))).set 6 (Value.int IntKind.u8 ((b : Int) / 256 % 256))).set 7 (Value.int IntKind.u8 ((b : Int) % 256)) = bs (HB b ++ T) := by
  have e1 : (b : Int) / 16777216 = ((UInt8.ofNat (b / 16777216)).toNat : Int) := by rw [UInt8.toNat_ofNat']; omega
  have e2 : (b : Int) / 65536 = ((UInt8.ofNat (b / 65536)).toNat : Int) := by rw [UInt8.toNat_ofNat']; omega
  have e3 : (b : Int) / 256 % 256 = ((UInt8.ofNat (b / 256)).toNat : Int) := by rw [UInt8.toNat_ofNat']; omega
  have e4 : (b : Int) % 256 = ((UInt8.ofNat b).toNat : Int) := by rw [UInt8.toNat_ofNat']; omega
  rw [e1, e2, e3, e4, bs_set, bs_set, bs_set, bs_set, HB_is]
  rfl
theorem step48 (H a T : List UInt8) (hH : H.length = 48) (ha : a.length = 4) (hT : T.length = 4) (k : Nat) (hk : k < 4) (x : UInt8) (hx : a[k]? = some x) :
    (H ++ (a.take k ++ T.drop k)).set (48 + k) x = H ++ (a.take (k + 1) ++ T.drop (k + 1)) := by
  match a, ha, T, hT with
  | [a0, a1, a2, a3], _, [t0, t1, t2, t3], _ =>
    rw [← hH, List.set_append_right _ _ (by omega), Nat.add_sub_cancel_left]
    match k, hk with
    | 0, _ | 1, _ | 2, _ | 3, _ =>
      simp at hx
      subst hx
      rfl
theorem keeps_below {g : Nat} {a b c d : World} (h : Keeps g c d) (h1 : Below a.heap.size a b) (h2 : Below b.heap.size b c) (hg : a.heap.size ≤ g) : Below a.heap.size a d := by
  have h3 := h1.trans (h2.mono h1.size)
  exact h3.trans (h.below hg h3.size)
theorem own_cap {w : World} {base e g n cap : Nat} {xs : List Value} (h : w.ownsRow base e 1 (.slice (some ⟨g, 0, none⟩) n cap) n xs) : n ≤ cap ∧ cap ≤ maxLen := by
  obtain ⟨A, c, h1, h2, h3⟩ := (Sl.of_own h).form
  injection h1 with h4 h5 h6
  subst h6
  exact ⟨h2, h3⟩
theorem four_free {w : World} {base g n cap : Nat} {xs : List Value} (h : w.ownsRow base 5 1 (.slice (some ⟨g, 0, none⟩) n cap) n xs) (hn : 8 ≤ n) (hx : 8 ≤ xs.length) :
    (∃ x, w.cell? ⟨g, 4, none⟩ = some x) ∧ w.frozen? ⟨g, 4, none⟩ = false ∧ (∃ x, ∀ u, (w.setCell ⟨g, 4, none⟩ u).cell? ⟨g, 5, none⟩ = some x) ∧ (∀ u, (w.setCell ⟨g, 4, none⟩ u).frozen? ⟨g, 5, none⟩ = false) ∧
    (∃ x, ∀ u v, ((w.setCell ⟨g, 4, none⟩ u).setCell ⟨g, 5, none⟩ v).cell? ⟨g, 6, none⟩ = some x) ∧ (∀ u v, ((w.setCell ⟨g, 4, none⟩ u).setCell ⟨g, 5, none⟩ v).frozen? ⟨g, 6, none⟩ = false) ∧
    (∃ x, ∀ u v y, (((w.setCell ⟨g, 4, none⟩ u).setCell ⟨g, 5, none⟩ v).setCell ⟨g, 6, none⟩ y).cell? ⟨g, 7, none⟩ = some x) ∧ (∀ u v y, (((w.setCell ⟨g, 4, none⟩ u).setCell ⟨g, 5, none⟩ v).setCell ⟨g, 6, none⟩ y).frozen? ⟨g, 7, none⟩ = false) := by
  have hl : ∀ j, j < 8 → ∃ x, xs[j]? = some x := fun j hj => ⟨xs[j]'(by omega), List.getElem?_eq_getElem _⟩
  obtain ⟨x4, e4⟩ := hl 4 (by omega)
  obtain ⟨x5, e5⟩ := hl 5 (by omega)
  obtain ⟨x6, e6⟩ := hl 6 (by omega)
  obtain ⟨x7, e7⟩ := hl 7 (by omega)
  refine ⟨⟨x4, (h.cellAt 4 (by omega)).trans e4⟩, h.frozenAt 4, ⟨x5, fun u => ?_⟩, fun u => (h.stored 4 u).1.frozenAt 5, ⟨x6, fun u v => ?_⟩, fun u v => ((h.stored 4 u).1.stored 5 v).1.frozenAt 6, ⟨x7, fun u v y => ?_⟩, fun u v y => (((h.stored 4 u).1.stored 5 v).1.stored 6 y).1.frozenAt 7⟩
  · rw [(h.stored 4 u).1.cellAt 5 (by omega), ← e5]; simp
  · rw [((h.stored 4 u).1.stored 5 v).1.cellAt 6 (by omega), ← e6]; simp
  · rw [(((h.stored 4 u).1.stored 5 v).1.stored 6 y).1.cellAt 7 (by omega), ← e7]; simp
set_option maxRecDepth 100000 in
set_option maxHeartbeats 2000000 in
theorem walkM (n M : Nat) (w : World) (h1 : 4090 ≤ n) (h2 : n ≤ 4096) (hM : M < 4294967296) : Calls Try.prog 4 #[.int .i64 (n : Nat), .int .u32 (M : Nat)] w fun e w' => e = .returned (.bool true) ∧ Below w.heap.size w w' := by
  obtain ⟨i0, hi, hz0, hz1, hz2⟩ := info_parts info_u8
  have d1 : decide ((n : Int) < 4090) = false := decide_eq_false (by omega)
  have d2 : decide ((4100 : Int) < (n : Int)) = false := decide_eq_false (by omega)
  have d3 : decide ((4096 : Int) < (n : Int)) = false := decide_eq_false (by omega)
  have hnx : (n : Int) ≤ 4096 := by omega
  have hk0 : pknown (pz.op : Nat) = true := rfl
  have hln : (List.replicate n (0 : UInt8)).length = n := by simp
  have hen : ∀ G W, Sl W W.heap.size (.slice (some ⟨G, 0, none⟩) n n) n (bs (List.replicate n 0)) → Calls Try.prog 6 #[.agg #[Value.int .i64 0, .bool false, .int .i64 0, .int .i64 0, .int .u32 0, .int .u32 0, .int .u32 0, .int .u32 0, .int .u32 0, .int .u32 0, .int .u8 0, .int .u8 0, .int .u8 0, .int .u8 0, .int .u8 0, .int .u8 0, .int .u8 0, .int .u8 0, .int .u8 0, .int .u8 0, .int .u8 0, .int .u8 0, .int .u8 0, .int .u8 0, .int .u8 0, .int .u8 0, .slice (some ⟨G, 0, none⟩) n n]] W fun e w' => ∃ v', e = .returned (.tuple #[v', .int .i64 0]) ∧ Sl w' w'.heap.size v' (encB pz (List.replicate n 0)).length (bs (encB pz (List.replicate n 0))) ∧ Below W.heap.size W w' := by
    intro G W h
    exact enc_ok pz pz_fit hk0 _ (List.replicate n 0) W (by rw [hln]; exact h) (by omega)
  have hdec : ∀ v W, Sl W W.heap.size v (encB pz (List.replicate n 0)).length (bs (encB pz (List.replicate n 0))) → Calls Try.prog 7 #[v] W fun e w' => ∃ A2 c2, e = .returned (.tuple #[.agg #[Value.int .i64 0, .bool false, .int .i64 0, .int .i64 0, .int .u32 0, .int .u32 0, .int .u32 0, .int .u32 0, .int .u32 0, .int .u32 0, .int .u8 0, .int .u8 0, .int .u8 0, .int .u8 0, .int .u8 0, .int .u8 0, .int .u8 0, .int .u8 0, .int .u8 0, .int .u8 0, .int .u8 0, .int .u8 0, .int .u8 0, .int .u8 0, .int .u8 0, .int .u8 0, .slice A2 n c2], .int .i64 ((encB pz (List.replicate n 0)).length : Nat), .int .i64 0]) ∧ Below W.heap.size W w' := by
    intro v W hW
    refine (dec_enc pz pz_fit hk0 (List.replicate n 0) (by omega) v W hW).mono ?_
    rintro e w' ⟨v2, rfl, hs, hb, _⟩
    rw [hln] at hs
    obtain ⟨A2, c2, rfl, _, _⟩ := hs.form
    exact ⟨A2, c2, rfl, hb⟩
  have hEL : (encB pz (List.replicate n 0)).length ≤ 5000 ∧ 0 < (encB pz (List.replicate n 0)).length := by
    rw [encB_len pz _ pz_fit, hln]
    have := padN4 n
    split <;> omega
  generalize encB pz (List.replicate n 0) = E at *
  obtain ⟨hEL1, hEL2⟩ := hEL
  have hbig : ∃ b : Nat, b = 4097 + M % 100000 ∧ 4097 ≤ b ∧ b < 200000 := ⟨_, rfl, by omega, by omega⟩
  obtain ⟨b, hb0, hb1', hb2'⟩ := hbig
  have hbg : 4097 + (M : Int) % 100000 = (b : Nat) := by omega
  clear hb0
  have hrow : ∀ (w2 : World) (cs : Array Value), Mem ((w2.alloc (.cells #[Value.int .i64 0, .bool false, .int .i64 0, .int .i64 0, .int .u32 0, .int .u32 0, .int .u32 0, .int .u32 0, .int .u32 0, .int .u32 0, .int .u8 0, .int .u8 0, .int .u8 0, .int .u8 0, .int .u8 0, .int .u8 0, .int .u8 0, .int .u8 0, .int .u8 0, .int .u8 0, .int .u8 0, .int .u8 0, .int .u8 0, .int .u8 0, .int .u8 0, .int .u8 0, .slice none 0 0] 26)).setRow w2.heap.size cs) w2.heap.size 26 cs ∧ Below w2.heap.size w2 ((w2.alloc (.cells #[Value.int .i64 0, .bool false, .int .i64 0, .int .i64 0, .int .u32 0, .int .u32 0, .int .u32 0, .int .u32 0, .int .u32 0, .int .u32 0, .int .u8 0, .int .u8 0, .int .u8 0, .int .u8 0, .int .u8 0, .int .u8 0, .int .u8 0, .int .u8 0, .int .u8 0, .int .u8 0, .int .u8 0, .int .u8 0, .int .u8 0, .int .u8 0, .int .u8 0, .int .u8 0, .slice none 0 0] 26)).setRow w2.heap.size cs) :=
    fun w2 cs => ⟨(Mem.new w2 _ _).row cs, below_setRow ((Below.refl _ _).alloc (Nat.le_refl _) _) (Nat.le_refl _) _⟩
  have hrow0 : ((((bs (Crc.sealS (List.replicate 48 0))).set 4 (Value.int IntKind.u8 ((b : Int) / 16777216))).set 5 (Value.int IntKind.u8 ((b : Int) / 65536))).set 6 (Value.int IntKind.u8 ((b : Int) / 256 % 256))).set 7 (Value.int IntKind.u8 ((b : Int) % 256)) = bs (HB b ++ Crc.le4 (Crc.moreS 0 (List.replicate 48 0))) := big_row b hb2' _
  have tk1 := Lib.hid True.intro
  go_enter Try.func4, Try.ntmps4
  go_wp2_with (first
    | (go_at_call 5; refine (known7_any _).mono ?_; rintro e w1 ⟨rfl, hb1⟩)
    | (at_make; refine wpList_make_full _ rfl (.tmp 30) (.tmp 30) 24 rfl w1.heap.size 5 i0 _ 1 Try.underlying24 hi hz0 hz1 .i64 .i64 _ _ n rfl rfl rfl rfl (by rw [hz2]; omega) (by unfold maxLen; omega) (Nat.le_refl _) ?_; intro w2 hown2 hg2; have hb2 : Below w1.heap.size w1 w2 := (Below.refl _ w1).grown hg2 (Nat.le_refl _) (fun k hk => by cases hk); replace hown2 : w2.ownsRow w1.heap.size 5 1 (.slice (some ⟨w1.heap.size, 0, none⟩) n n) n (List.replicate n (.int .u8 0)) := (made_bytes n ▸ hown2); rw [bs_zeros] at hown2; have hs2 := Sl.of_own hown2; have hB2 := hb1.trans (hb2.mono hb1.size))
    | (go_at_call 6; refine (hen _ _ hs2).mono ?_; rintro e w3 ⟨v3, rfl, hs3, hb3⟩; obtain ⟨A3, c3, rfl, _, _⟩ := hs3.form; have hB3 := hB2.trans (hb3.mono hB2.size))
    | (go_at_call 7; refine (hdec _ _ hs3).mono ?_; rintro e w4 ⟨A2, c2, rfl, hb4⟩; have hB4 := hB3.trans (hb4.mono hB3.size))
    | (have hq := tk1; refine wpList_store_row rfl 26 (.tmp 7) (.tmp 48) rfl w4.heap.size #[Value.int .i64 0, .bool false, .int .i64 0, .int .i64 0, .int .u32 0, .int .u32 0, .int .u32 0, .int .u32 0, .int .u32 0, .int .u32 0, .int .u8 0, .int .u8 0, .int .u8 0, .int .u8 0, .int .u8 0, .int .u8 0, .int .u8 0, .int .u8 0, .int .u8 0, .int .u8 0, .int .u8 0, .int .u8 0, .int .u8 0, .int .u8 0, .int .u8 0, .int .u8 0, .slice A2 n c2] rfl rfl 26 #[Value.int .i64 0, .bool false, .int .i64 0, .int .i64 0, .int .u32 0, .int .u32 0, .int .u32 0, .int .u32 0, .int .u32 0, .int .u32 0, .int .u8 0, .int .u8 0, .int .u8 0, .int .u8 0, .int .u8 0, .int .u8 0, .int .u8 0, .int .u8 0, .int .u8 0, .int .u8 0, .int .u8 0, .int .u8 0, .int .u8 0, .int .u8 0, .int .u8 0, .int .u8 0, .slice none 0 0] (Mem.new w4 _ _) (by kernel_rfl) (by kernel_rfl) (by kernel_rfl) ?_; clear hq tk1; obtain ⟨hp5, hb5⟩ := hrow w4 #[Value.int .i64 0, .bool false, .int .i64 0, .int .i64 0, .int .u32 0, .int .u32 0, .int .u32 0, .int .u32 0, .int .u32 0, .int .u32 0, .int .u8 0, .int .u8 0, .int .u8 0, .int .u8 0, .int .u8 0, .int .u8 0, .int .u8 0, .int .u8 0, .int .u8 0, .int .u8 0, .int .u8 0, .int .u8 0, .int .u8 0, .int .u8 0, .int .u8 0, .int .u8 0, .slice A2 n c2]; generalize (w4.alloc (.cells #[Value.int .i64 0, .bool false, .int .i64 0, .int .i64 0, .int .u32 0, .int .u32 0, .int .u32 0, .int .u32 0, .int .u32 0, .int .u32 0, .int .u8 0, .int .u8 0, .int .u8 0, .int .u8 0, .int .u8 0, .int .u8 0, .int .u8 0, .int .u8 0, .int .u8 0, .int .u8 0, .int .u8 0, .int .u8 0, .int .u8 0, .int .u8 0, .int .u8 0, .int .u8 0, .slice none 0 0] 26)).setRow w4.heap.size #[Value.int .i64 0, .bool false, .int .i64 0, .int .i64 0, .int .u32 0, .int .u32 0, .int .u32 0, .int .u32 0, .int .u32 0, .int .u32 0, .int .u8 0, .int .u8 0, .int .u8 0, .int .u8 0, .int .u8 0, .int .u8 0, .int .u8 0, .int .u8 0, .int .u8 0, .int .u8 0, .int .u8 0, .int .u8 0, .int .u8 0, .int .u8 0, .int .u8 0, .int .u8 0, .slice A2 n c2] = w5 at *; have hB5 := hB4.trans (hb5.mono hB4.size); have x26 : w5.cell? ⟨w4.heap.size, 26, none⟩ = some (.slice A2 n c2) := hp5.cell 26)
    | (go_at_call 10; refine (rencode0 w5).mono ?_; rintro e w6 ⟨v6, rfl, hown6, hb6⟩; have hB6 := hB5.trans (hb6.mono hB5.size); have hfm := hown6.form (show 0 < 52 by decide); obtain ⟨g, cap, rfl, hg1, hg2⟩ := hfm; obtain ⟨⟨x4, C4⟩, F4, ⟨x5, C5⟩, F5, ⟨x6, C6⟩, F6, ⟨x7, C7⟩, F7⟩ := four_free hown6 (by decide) (by rw [hown6.1]; decide); obtain ⟨hcap1, hcap2⟩ := own_cap hown6; unfold maxLen at hcap2)
    | (go_at_call 12; have hb7 := ((((Below.refl w5.heap.size w5).trans hb6).setCell (p := ⟨g, 4, none⟩) hg1 (Value.int IntKind.u8 ((b : Int) / 16777216))).setCell (p := ⟨g, 5, none⟩) hg1 (Value.int IntKind.u8 ((b : Int) / 65536))).setCell (p := ⟨g, 6, none⟩) hg1 (Value.int IntKind.u8 ((b : Int) / 256 % 256)) |>.setCell (p := ⟨g, 7, none⟩) hg1 (Value.int IntKind.u8 ((b : Int) % 256)); have hown7 := ((((hown6.stored 4 (Value.int IntKind.u8 ((b : Int) / 16777216))).1.stored 5 (Value.int IntKind.u8 ((b : Int) / 65536))).1.stored 6 (Value.int IntKind.u8 ((b : Int) / 256 % 256))).1.stored 7 (Value.int IntKind.u8 ((b : Int) % 256))).1; rw [hrow0] at hown7; generalize (((w6.setCell ⟨g, 4, none⟩ (Value.int IntKind.u8 ((b : Int) / 16777216))).setCell ⟨g, 5, none⟩ (Value.int IntKind.u8 ((b : Int) / 65536))).setCell ⟨g, 6, none⟩ (Value.int IntKind.u8 ((b : Int) / 256 % 256))).setCell ⟨g, 7, none⟩ (Value.int IntKind.u8 ((b : Int) % 256)) = w7 at *; clear C4 C5 C6 C7 F4 F5 F6 F7; have hs7 := (Sl.of_own hown7).take (m := 48) (by omega); rw [← bs_take, List.take_left' (HB_len b)] at hs7; refine (Crc.rsum_any _ (HB b) _ (by rw [HB_len]; exact hs7)).mono ?_; rintro e w' ⟨rfl, rfl⟩; have hg7 := (hown7.lt g rfl).2)
    | (go_at_call 11; refine (Crc.four_any (Crc.moreS 0 (HB b)) _ (Crc.moreS_lt _ _)).mono ?_; rintro e w8 ⟨v8, rfl, hown8, hb8⟩; have hfm8 := hown8.form (show 0 < 4 by decide); obtain ⟨gs, caps, rfl, hgs1, hgs2⟩ := hfm8; obtain ⟨hcs1, hcs2⟩ := own_cap hown8; unfold maxLen at hcs2; have hown9 := owns_below hown7 hb8))
  have hlA : (Crc.le4 (Crc.moreS 0 (HB b))).length = 4 := rfl
  have hlT : (Crc.le4 (Crc.moreS 0 (List.replicate 48 0))).length = 4 := rfl
  have hseal : Crc.sealS (HB b) = HB b ++ Crc.le4 (Crc.moreS 0 (HB b)) := rfl
  have hdl : ∀ v W, Sl W W.heap.size v 52 (bs (Crc.sealS (HB b))) → Calls Try.prog 7 #[v] W fun e w' => e = .returned (.tuple #[.agg #[Value.int .i64 0, .bool false, .int .i64 0, .int .i64 0, .int .u32 0, .int .u32 0, .int .u32 0, .int .u32 0, .int .u32 0, .int .u32 0, .int .u8 0, .int .u8 0, .int .u8 0, .int .u8 0, .int .u8 0, .int .u8 0, .int .u8 0, .int .u8 0, .int .u8 0, .int .u8 0, .int .u8 0, .int .u8 0, .int .u8 0, .int .u8 0, .int .u8 0, .int .u8 0, .slice none 0 0], .int .i64 0, .int .i64 5]) ∧ Below W.heap.size W w' := by
    intro v W hW
    have hl52 : (Crc.sealS (HB b)).length = 52 := by rw [Crc.sealS_len, HB_len]
    obtain ⟨_, hp2⟩ := pdhOf_bytes pz b pz_fit (by omega)
    refine dec_long v (Crc.sealS (HB b)) (HB b) (by omega) (by omega) (List.take_of_length_le (by omega)) (HB_len b) rfl rfl (by unfold HB; rw [hp2]; omega) W (by rw [hl52]; exact hW)
  have hd2 : ∀ hv W, Sl W W.heap.size hv (Crc.sealS (HB b)).length (bs (Crc.sealS (HB b))) → Calls Try.prog 7 #[hv] W fun e w' => e = .returned (.tuple #[zpV, .int .i64 0, .int .i64 5]) ∧ Below W.heap.size W w' := fun hv W hW => hdl hv W (by rw [Crc.sealS_len, HB_len] at hW; exact hW)
  have hsl52 : (Crc.sealS (HB b)).length = 52 := by rw [Crc.sealS_len, HB_len]
  have hHl := HB_len b
  generalize Crc.le4 (Crc.moreS 0 (HB b)) = SA at *
  generalize Crc.le4 (Crc.moreS 0 (List.replicate 48 0)) = ST at *
  generalize HB b = H at *
  have hgne : g ≠ gs := by omega
  have hg8 : g < w8.heap.size := Nat.lt_of_lt_of_le hg7 hb8.size
  clear hown7 hs7 hrow0 hen hdec hs3 hown6 x26
  go_loopw [14] (fun i wr => ∃ k : Nat, k ≤ 4 ∧ i = .int .i64 k ∧ wr.ownsRow w5.heap.size 5 1 (.slice (some ⟨g, 0, none⟩) 52 cap) 52 (bs (H ++ (SA.take k ++ ST.drop k))) ∧ Keeps g w8 wr) (fun i _ => 4 - (intOf i).toNat)
  case atStart => exact ⟨0, by omega, rfl, by simpa using hown9, Keeps.refl _ _⟩
  case round =>
    obtain ⟨k, hk, rfl, hown, hkp⟩ := hrel
    rcases Nat.lt_or_ge k 4 with h4 | h4
    · have hx : SA[k]? = some (SA[k]'(by omega)) := List.getElem?_eq_getElem _
      have hst := step48 H SA ST hHl hlA hlT k h4 _ hx
      have hcl : wr.cell? ⟨gs, k, none⟩ = some (.int .u8 ((SA[k]'(by omega)).toNat : Nat)) := by
        rw [hkp.cell (p := ⟨gs, k, none⟩) hgs2 (by show gs ≠ g; omega), hown8.cellAt k (by omega)]
        exact bs_get (by omega)
      have hfz := hown.frozenAt (48 + k)
      obtain ⟨xo, hxo⟩ : ∃ x, wr.cell? ⟨g, 48 + k, none⟩ = some x := by
        refine ⟨_, (hown.cellAt (48 + k) (by omega)).trans (bs_get (by simp [hHl, hlA, hlT]; omega))⟩
      have hsd := (hown.stored (48 + k) (.int .u8 ((SA[k]'(by omega)).toNat : Nat))).1
      rw [bs_set, hst] at hsd
      have hkp2 := hkp.setCell (p := ⟨g, 48 + k, none⟩) (.int .u8 ((SA[k]'(by omega)).toNat : Nat))
      clear hst hx hdl hd2
      generalize (SA[k]'(by omega)).toNat = xk at *
      go_wp2
      exact ⟨⟨k + 1, by omega, by go_num, hsd, hkp2⟩, by simp [intOf]; omega⟩
    · obtain rfl : k = 4 := by omega
      have hfull : H ++ (SA.take 4 ++ ST.drop 4) = Crc.sealS H := by
        rw [List.take_of_length_le (by omega), List.drop_of_length_le (by omega), List.append_nil]
        exact hseal.symm
      rw [hfull] at hown
      have hsw := Sl.of_own hown
      have hBw : Below w5.heap.size w5 wr := keeps_below hkp hb7 hb8 hg1
      have hBB := hB5.trans (hBw.mono hB5.size)
      generalize Crc.sealS H = F at *
      have hput : ∀ R v W, Mem W R 60 #[.slice none 0 0, .int .i64 0] → Sl W W.heap.size v 52 (bs F) → Calls Try.prog 14 #[.pointer (some ⟨R, 0, none⟩), v] W fun e w' => e = .returned (.tuple #[]) ∧ ∃ hv', Mem w' R 60 #[hv', .int .i64 0] ∧ Sl w' w'.heap.size hv' F.length (bs F) ∧ Below R W w' := by
        intro R v W hm hs
        refine (rdput_any R (.slice none 0 0) v 0 52 [] (bs F) W hm (World.ownsRow_nil _ _ _ _) hs bs_one (by omega)).mono ?_
        rintro e w' ⟨h1, hv', h2, h3, h4⟩
        exact ⟨h1, hv', h2, by rw [hsl52]; exact Sl.of_own h3, h4⟩
      have hnext : ∀ R hv W, Mem W R 60 #[hv, .int .i64 0] → Sl W W.heap.size hv F.length (bs F) → Calls Try.prog 15 #[.pointer (some ⟨R, 0, none⟩)] W fun e w' => e = .returned (.tuple #[.agg #[Value.int .i64 0, .bool false, .int .i64 0, .int .i64 0, .int .u32 0, .int .u32 0, .int .u32 0, .int .u32 0, .int .u32 0, .int .u32 0, .int .u8 0, .int .u8 0, .int .u8 0, .int .u8 0, .int .u8 0, .int .u8 0, .int .u8 0, .int .u8 0, .int .u8 0, .int .u8 0, .int .u8 0, .int .u8 0, .int .u8 0, .int .u8 0, .int .u8 0, .int .u8 0, .slice none 0 0], .bool false]) ∧ Mem w' R 60 #[.slice none 0 0, .int .i64 5] ∧ Below R W w' :=
        fun R hv W hm hs => next_bad R hv F W hm hs (hd2 hv)
      have tk15 := Lib.hid True.intro
      have tk19 := Lib.hid True.intro
      clear hd2 hown hown8 hown9 hseal hfull hlA hlT
      go_wp2_with (first
        | (go_at_call 7; refine (hdl _ _ hsw).mono ?_; rintro e w9 ⟨rfl, hb9⟩; have hBC := hBB.trans (hb9.mono hBB.size))
        | (have hq := tk15; refine wpList_store_row rfl 26 (.tmp 15) (.tmp 114) rfl w9.heap.size #[Value.int .i64 0, .bool false, .int .i64 0, .int .i64 0, .int .u32 0, .int .u32 0, .int .u32 0, .int .u32 0, .int .u32 0, .int .u32 0, .int .u8 0, .int .u8 0, .int .u8 0, .int .u8 0, .int .u8 0, .int .u8 0, .int .u8 0, .int .u8 0, .int .u8 0, .int .u8 0, .int .u8 0, .int .u8 0, .int .u8 0, .int .u8 0, .int .u8 0, .int .u8 0, .slice none 0 0] rfl rfl 26 #[Value.int .i64 0, .bool false, .int .i64 0, .int .i64 0, .int .u32 0, .int .u32 0, .int .u32 0, .int .u32 0, .int .u32 0, .int .u32 0, .int .u8 0, .int .u8 0, .int .u8 0, .int .u8 0, .int .u8 0, .int .u8 0, .int .u8 0, .int .u8 0, .int .u8 0, .int .u8 0, .int .u8 0, .int .u8 0, .int .u8 0, .int .u8 0, .int .u8 0, .int .u8 0, .slice none 0 0] (Mem.new w9 _ _) (by kernel_rfl) (by kernel_rfl) (by kernel_rfl) ?_; clear hq tk15; have hb10 := (hrow w9 #[Value.int .i64 0, .bool false, .int .i64 0, .int .i64 0, .int .u32 0, .int .u32 0, .int .u32 0, .int .u32 0, .int .u32 0, .int .u32 0, .int .u8 0, .int .u8 0, .int .u8 0, .int .u8 0, .int .u8 0, .int .u8 0, .int .u8 0, .int .u8 0, .int .u8 0, .int .u8 0, .int .u8 0, .int .u8 0, .int .u8 0, .int .u8 0, .int .u8 0, .int .u8 0, .slice none 0 0]).2; generalize (w9.alloc (.cells #[Value.int .i64 0, .bool false, .int .i64 0, .int .i64 0, .int .u32 0, .int .u32 0, .int .u32 0, .int .u32 0, .int .u32 0, .int .u32 0, .int .u8 0, .int .u8 0, .int .u8 0, .int .u8 0, .int .u8 0, .int .u8 0, .int .u8 0, .int .u8 0, .int .u8 0, .int .u8 0, .int .u8 0, .int .u8 0, .int .u8 0, .int .u8 0, .int .u8 0, .int .u8 0, .slice none 0 0] 26)).setRow w9.heap.size #[Value.int .i64 0, .bool false, .int .i64 0, .int .i64 0, .int .u32 0, .int .u32 0, .int .u32 0, .int .u32 0, .int .u32 0, .int .u32 0, .int .u8 0, .int .u8 0, .int .u8 0, .int .u8 0, .int .u8 0, .int .u8 0, .int .u8 0, .int .u8 0, .int .u8 0, .int .u8 0, .int .u8 0, .int .u8 0, .int .u8 0, .int .u8 0, .int .u8 0, .int .u8 0, .slice none 0 0] = w10 at *; have hs10 := (hsw.now hb9).now hb10; have hBD := hBC.trans (hb10.mono hBC.size))
        | (go_at_call 13; refine (newr_any w10).mono ?_; rintro e w11 ⟨rfl, hw11⟩; have hr11 : Mem w11 w10.heap.size 60 #[.slice none 0 0, .int .i64 0] := (hw11 ▸ Mem.new w10 _ _); have hb11 : Below w10.heap.size w10 w11 := (hw11 ▸ (Below.refl _ _).alloc (Nat.le_refl _) _); clear hw11; have hs11 := hs10.now hb11)
        | (go_at_call 14; refine (hput w10.heap.size _ w11 hr11 hs11).mono ?_; rintro e w12 ⟨rfl, hv12, hr12, hs12, hb12⟩; have hb13 := hb11.trans hb12)
        | (go_at_call 15; refine (hnext w10.heap.size hv12 w12 hr12 hs12).mono ?_; rintro e w13 ⟨rfl, hr13, hb14⟩; have hb15 := hb13.trans hb14)
        | (have hq := tk19; refine wpList_store_row rfl 26 (.tmp 19) (.tmp 124) rfl w13.heap.size #[Value.int .i64 0, .bool false, .int .i64 0, .int .i64 0, .int .u32 0, .int .u32 0, .int .u32 0, .int .u32 0, .int .u32 0, .int .u32 0, .int .u8 0, .int .u8 0, .int .u8 0, .int .u8 0, .int .u8 0, .int .u8 0, .int .u8 0, .int .u8 0, .int .u8 0, .int .u8 0, .int .u8 0, .int .u8 0, .int .u8 0, .int .u8 0, .int .u8 0, .int .u8 0, .slice none 0 0] rfl rfl 26 #[Value.int .i64 0, .bool false, .int .i64 0, .int .i64 0, .int .u32 0, .int .u32 0, .int .u32 0, .int .u32 0, .int .u32 0, .int .u32 0, .int .u8 0, .int .u8 0, .int .u8 0, .int .u8 0, .int .u8 0, .int .u8 0, .int .u8 0, .int .u8 0, .int .u8 0, .int .u8 0, .int .u8 0, .int .u8 0, .int .u8 0, .int .u8 0, .int .u8 0, .int .u8 0, .slice none 0 0] (Mem.new w13 _ _) (by kernel_rfl) (by kernel_rfl) (by kernel_rfl) ?_; clear hq tk19; have hb16 := (hrow w13 #[Value.int .i64 0, .bool false, .int .i64 0, .int .i64 0, .int .u32 0, .int .u32 0, .int .u32 0, .int .u32 0, .int .u32 0, .int .u32 0, .int .u8 0, .int .u8 0, .int .u8 0, .int .u8 0, .int .u8 0, .int .u8 0, .int .u8 0, .int .u8 0, .int .u8 0, .int .u8 0, .int .u8 0, .int .u8 0, .int .u8 0, .int .u8 0, .int .u8 0, .int .u8 0, .slice none 0 0]).2; generalize (w13.alloc (.cells #[Value.int .i64 0, .bool false, .int .i64 0, .int .i64 0, .int .u32 0, .int .u32 0, .int .u32 0, .int .u32 0, .int .u32 0, .int .u32 0, .int .u8 0, .int .u8 0, .int .u8 0, .int .u8 0, .int .u8 0, .int .u8 0, .int .u8 0, .int .u8 0, .int .u8 0, .int .u8 0, .int .u8 0, .int .u8 0, .int .u8 0, .int .u8 0, .int .u8 0, .int .u8 0, .slice none 0 0] 26)).setRow w13.heap.size #[Value.int .i64 0, .bool false, .int .i64 0, .int .i64 0, .int .u32 0, .int .u32 0, .int .u32 0, .int .u32 0, .int .u32 0, .int .u32 0, .int .u8 0, .int .u8 0, .int .u8 0, .int .u8 0, .int .u8 0, .int .u8 0, .int .u8 0, .int .u8 0, .int .u8 0, .int .u8 0, .int .u8 0, .int .u8 0, .int .u8 0, .int .u8 0, .int .u8 0, .int .u8 0, .slice none 0 0] = w14 at *; have hr14 := hr13.below hb16 hr13.lt; have hb17 := hb15.trans (hb16.mono hb15.size); have hBE := hBD.trans (hb17.mono hBD.size))
        | (go_at_call 16; with_reducible refine (err_any w10.heap.size (.slice none 0 0) 5 w14 hr14).mono ?_; rintro e w' ⟨rfl, rfl⟩))
      all_goals go_ret
      all_goals exact ⟨rfl, hBE⟩
theorem walk (n more : Int) (w : World) (h1 : -9223372036854775808 ≤ n) (h2 : n ≤ 9223372036854775807) (h3 : 0 ≤ more) (h4 : more ≤ 4294967295) :
    Calls Try.prog 4 #[.int .i64 n, .int .u32 more] w fun e w' => e = .returned (.bool true) ∧ Below w.heap.size w w' := by
  by_cases hA : n < 4090 ∨ 4100 < n
  · exact walkA n _ w hA
  obtain ⟨m, rfl⟩ : ∃ m : Nat, n = m := ⟨n.toNat, by omega⟩
  obtain ⟨M, rfl⟩ : ∃ M : Nat, more = M := ⟨more.toNat, by omega⟩
  by_cases hL : 4096 < m
  · exact walkL m _ w hL (by omega)
  · exact walkM m M w (by omega) (by omega) (by omega)
theorem own : ownKnob Try.prog.godebug = none := by kernel_rfl
theorem laidOut : laidOutB Try.prog = true := by kernel_rfl
set_option maxRecDepth 100000 in
theorem lifted (os : Os) (started : os.Started) (H : Type) (enc : TypeId × Value → H) :
    ReturnsInHanded {} Try.checked os 4 .any (Rows.pduBoundsSpec.pre6 enc Try.prog Try.f4 Rows.pduBoundsRow.domain false) (Rows.pduBoundsSpec.post enc Try.prog Try.f4 false true false false) := by
  refine returnsInHanded_of_change (C := Try.checked) own started (by kernel_rfl) Try.func4
    (ChangeSpec.witness6 (enc := enc) (C := Try.checked) false ⟨#[], #[.int .i64 0, .int .u32 0], []⟩ 8 (by kernel_rfl) (by kernel_rfl) (by kernel_rfl) (by kernel_rfl)) ?_
  intro W base args ds gs before hval0 hW hcnd _
  have hval : ∀ (j : Nat) t v, Try.f4.params[j]? = some t → args[j]? = some v → Value.okWide Try.prog W .any base t v := hval0
  have hW' := hW
  obtain ⟨p, q, hA0, hV, rfl, hfz, hnd⟩ := hW
  have hA : DataW.TrodAll enc Try.prog W 0 (fun _ => true) true Try.f4.params.toList args.toList ds p := hA0
  rw [Try.params4] at hA hval
  obtain ⟨v0, vs0, d0, ds0, p0, q0, hargs, rfl, rfl, h0, r0⟩ := trodAll_cons hA
  obtain ⟨v1, vs1, d1, ds1, p1, q1, rfl, rfl, rfl, h1, r1⟩ := trodAll_cons r0
  obtain ⟨rfl, rfl, rfl⟩ := trodAll_nil r1
  obtain rfl : args = #[v0, v1] := by cases args; simp_all
  obtain ⟨rfl, rfl⟩ := trodVars_none hV
  obtain ⟨a0, rfl, _, _, w0⟩ := open_int Try.underlying3 (hval 0 3 v0 rfl rfl) h0
  have b0 := bounds_i64 w0
  obtain ⟨a1, rfl, _, _, w1⟩ := open_int Try.underlying22 (hval 1 22 v1 rfl rfl) h1
  have b1 := bounds_u32 w1
  refine (walk a0 a1 W b0.1 b0.2 b1.1 b1.2).mono fun e W' ⟨he, hb⟩ => ?_
  subst he
  exact ⟨_, rfl, law_post laidOut (by kernel_rfl) rfl (by kernel_rfl) Try.underlying4 rfl rfl rfl hW' hb⟩

theorem proved : Rows.PduBoundsSaid :=
  OpenClaim.holds_of_wide 4 Try.f4 rfl rfl rfl rfl rfl rfl rfl ⟨rfl, rfl, rfl, rfl, rfl⟩ rfl rfl rfl rfl rfl (by kernel_rfl) Try.func4 (by kernel_rfl)
    (of_decide_eq_true (by kernel_rfl)) (by unfold Func.isWrapper; first | (rw [if_pos (by decide +kernel)]; kernel_rfl) | (rw [if_neg (by decide +kernel)]; exact ⟨rfl, rfl⟩))
    (fun os started H enc _ => lifted os started H enc)

end PBounds
end Go.Proofs.Ytafpaigifemjjaa
