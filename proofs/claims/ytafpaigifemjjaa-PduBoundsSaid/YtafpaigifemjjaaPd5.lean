/- Package pdu: readData: contracts of three answers. -/
import Derived.Test.YtafpaigifemjjaaPd4
namespace Go.Proofs.Ytafpaigifemjjaa
open Go.ChangeShapes Go.WideShapes Go.ChangeAt Go.RowKit
set_option linter.unusedVariables false
theorem rd_zero (A : Option Addr) (m c : Nat) (w : World) : Calls Try.prog 22 #[.slice A m c, .int .i64 0] w fun e w' => e = .returned (.tuple #[.slice none 0 0, .int .i64 0, .int .i64 0]) ∧ w = w' := by
  go_enter Try.func22, Try.ntmps22
  go_wp2
  refine bodyPost_ret (v := .tuple #[.slice none 0 0, .int .i64 0, .int .i64 0]) (by simp [results, Try.results22, go_sem]; try rfl) rfl ⟨rfl, rfl⟩
theorem rd_bad (v : Value) (l : List UInt8) (n r : Nat) (hn : 0 < n) (hn2 : n ≤ 4096) (hr : (n + r) % 4 = 0) (hr3 : r ≤ 3) (hl : n + r + 4 ≤ l.length) (hl2 : l.length ≤ 8796093022208) (ho : Crc.openS (l.take (n + r + 4)) = ([], 4)) (w : World) (hv : Sl w w.heap.size v l.length (bs l)) :
    Calls Try.prog 22 #[v, .int .i64 n] w fun e w' => e = .returned (.tuple #[.slice none 0 0, .int .i64 0, .int .i64 4]) ∧ Below w.heap.size w w' := by
  obtain ⟨A, c, rfl, hc1, hc2⟩ := hv.form
  unfold maxLen at hc2
  have hW : ((n : Int) + 3) / 4 * 4 + 4 = (n : Int) + r + 4 := by omega
  have htl : (l.take (n + r + 4)).length = n + r + 4 := by simp; omega
  have hs := hv.take (m := n + r + 4) hl
  rw [← bs_take] at hs
  have hop := Crc.open_any (.slice A (n + r + 4) c) (l.take (n + r + 4)) w (by rw [htl]; exact hs) (by omega)
  rw [ho] at hop
  have HOP := Lib.hid hop
  have hlx : (l.length : Int) ≤ 8796093022208 := by omega
  clear hop ho hs htl hr
  go_enter Try.func22, Try.ntmps22
  go_wp2_with (go_at_call 29; refine HOP.out.mono ?_; rintro e w1 ⟨v1, rfl, hs1, hb1⟩)
  refine bodyPost_ret (v := .tuple #[.slice none 0 0, .int .i64 0, .int .i64 4]) (by simp [results, Try.results22, go_sem]; try rfl) rfl ⟨rfl, hb1⟩
theorem rd_ok (v : Value) (l data : List UInt8) (n r : Nat) (hn : 0 < n) (hn2 : n ≤ 4096) (hr : (n + r) % 4 = 0) (hr3 : r ≤ 3) (hl : n + r + 4 ≤ l.length) (hl2 : l.length ≤ 8796093022208) (hdl : data.length = n) (ho : Crc.openS (l.take (n + r + 4)) = (data ++ List.replicate r 0, 0)) (w : World) (hv : Sl w w.heap.size v l.length (bs l)) :
    Calls Try.prog 22 #[v, .int .i64 n] w fun e w' => ∃ v', e = .returned (.tuple #[v', .int .i64 ((n + r + 4 : Nat) : Int), .int .i64 0]) ∧ Sl w' w'.heap.size v' n (bs data) ∧ Below w.heap.size w w' ∧ Crc.Fr w.heap.size v' := by
  obtain ⟨A, c, rfl, hc1, hc2⟩ := hv.form
  unfold maxLen at hc2
  have hW : ((n : Int) + 3) / 4 * 4 + 4 = (n : Int) + r + 4 := by omega
  have htl : (l.take (n + r + 4)).length = n + r + 4 := by simp; omega
  have hs := hv.take (m := n + r + 4) hl
  rw [← bs_take] at hs
  have hop := Crc.open_fr (.slice A (n + r + 4) c) (l.take (n + r + 4)) w (by rw [htl]; exact hs) (by omega)
  rw [ho, show (data ++ List.replicate r (0 : UInt8), 0).1.length = n + r by simp [hdl]] at hop
  have HOP := Lib.hid hop
  have hlx : (l.length : Int) ≤ 8796093022208 := by omega
  have hzero : ∀ j, j < r → (bs (data ++ List.replicate r 0))[n + j]? = some (.int .u8 0) := by
    intro j hj
    rw [bs_get (by simp; omega)]
    rw [List.getElem_append_right (by omega)]
    simp
  clear hop ho hs htl hr
  go_enter Try.func22, Try.ntmps22
  go_wp2_with (go_at_call 29; refine HOP.out.mono ?_; rintro e w1 ⟨v1, rfl, hs1, hb1, hfr1⟩; obtain ⟨A1, cp, rfl, hcp1, hcp2⟩ := hs1.form; obtain ⟨b1, o1, rfl, hlt1, hcell1⟩ := hs1.at_ (by omega); unfold maxLen at hcp2)
  all_goals
    first
      | (have h' : n = cp := by omega
         subst h')
      | skip
    have hkeep : ∀ j, j < r → w1.cell? ⟨b1, o1 + n + j, none⟩ = some (.int .u8 0) := fun j hj => by rw [Nat.add_assoc]; exact hcell1 _ _ (hzero j hj)
    clear hcell1 hzero
    go_loopw [37] (fun i wr => ∃ k : Nat, k ≤ r ∧ i = .int .i64 k ∧ wr = w1) (fun i _ => r - (intOf i).toNat)
    case atStart => exact ⟨0, by omega, rfl, rfl⟩
    case round =>
      obtain ⟨k, hk, rfl, rfl⟩ := hrel
      rcases Nat.lt_or_ge k r with h | h
      · have hcl := hkeep k h
        clear hkeep
        go_wp2
        all_goals exact ⟨⟨k + 1, by omega, by go_num, by trivial⟩, by simp [intOf]; omega⟩
      · obtain rfl : k = r := by omega
        clear hkeep
        have htk := hs1.take (m := n) (by omega)
        rw [show (bs (data ++ List.replicate k 0)).take n = bs data by rw [bs_app, List.take_left' (by simp [hdl])]] at htk
        go_wp2
        first
          | (refine bodyPost_ret (v := .tuple #[.slice (some ⟨b1, o1, none⟩) n cp, .int .i64 ((n : Int) + k + 4), .int .i64 0]) (by simp [results, Try.results22, go_sem]; try rfl) rfl ⟨.slice (some ⟨b1, o1, none⟩) n cp, by simp, htk, hb1, fun A m k he => by injection he with e1; injection e1 with e1; rw [← e1]; exact hfr1 _ _ _ rfl⟩)
          | (refine bodyPost_ret (v := .tuple #[.slice (some ⟨b1, o1, none⟩) n n, .int .i64 ((n : Int) + k + 4), .int .i64 0]) (by simp [results, Try.results22, go_sem]; try rfl) rfl ⟨.slice (some ⟨b1, o1, none⟩) n n, by simp, htk, hb1, fun A m k he => by injection he with e1; injection e1 with e1; rw [← e1]; exact hfr1 _ _ _ rfl⟩)
end Go.Proofs.Ytafpaigifemjjaa
