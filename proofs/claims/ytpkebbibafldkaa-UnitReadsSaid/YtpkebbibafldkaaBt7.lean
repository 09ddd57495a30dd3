/- Package bits: Runs: contract. -/
import Derived.Test.YtpkebbibafldkaaBt6
namespace Go.Proofs.Ytpkebbibafldkaa
open Go.ChangeShapes Go.WideShapes Go.ChangeAt Go.RowKit Go.Lib
set_option linter.unusedVariables false
section
variable {P : Program} (w : World)
theorem wp_append_at {o : Oper} {a : Act} {K : Act → World → Prop} {Q : Exit → Act → World → Prop} (s x : Operand) (t : TypeId)
    (ho : o.op = .call { callee := .builtin .append, args := #[s, x], argTypes := #[t, t] })
    (base : Nat) (e : TypeId) (i : TypeInfo) (z : Value) (size bytes : Nat) (ht : P.underlying t = some (.slice e)) (hi : P.info? e = some i) (hz : i.zero = some z)
    (hsize : i.size = size) (hby : i.bytes = bytes) (hzs : z.cells.size = size) (hsz : 0 < size)
    (v : Value) (n : Nat) (xs : List Value) (hs : a.eval s = v) (hown : w.ownsRow base e size v n xs)
    (ad : Addr) (m c : Nat) (news : List Value) (hx : a.eval x = .slice (some ad) m c) (hl : news.length = m * size) (hnews : ∀ j u, news[j]? = some u → w.cell? (ad.add j) = some u) (h1 : ∀ u ∈ news, u.oneCell' = true)
    (h63 : n + m ≤ maxLen) (hbytes : (n + m) * bytes ≤ 140737488355328) (hbase : base ≤ w.heap.size)
    (h : ∀ v' w', w'.ownsRow base e size v' (n + m) (xs ++ news) → w.grownBy w' v.ownBlock → (v'.ownBlock = v.ownBlock ∨ v'.ownBlock = some w.heap.size) → K (a.put o.dst v') w') : o.wp P a w K Q := by
  obtain ⟨v', w', hr, h2, h3, _, h4⟩ := run_append_own_at (P := P) w base t o.type e i z size bytes ht hi hz hsize hby hzs hsz v n xs hown ad m c news hl hnews h1 h63 hbytes hbase
  unfold Oper.wp execOp
  simp only [ho, resolve, invoke, builtin, Sem.run_bind, Sem.run_pure, Result.andThen_ok, List.map_toArray, List.map_cons, List.map_nil, hs, hx, hr]
  exact h v' w' h2 h3 h4
theorem wpList_append_at {ops : Array Oper} {rest : List Oper} {o : Oper} {a : Act} {Q : Exit → Act → World → Prop} (hgd : o.guard = none) (s x : Operand) (t : TypeId)
    (ho : o.op = .call { callee := .builtin .append, args := #[s, x], argTypes := #[t, t] })
    (base : Nat) (e : TypeId) (i : TypeInfo) (z : Value) (size bytes : Nat) (ht : P.underlying t = some (.slice e)) (hi : P.info? e = some i) (hz : i.zero = some z)
    (hsize : i.size = size) (hby : i.bytes = bytes) (hzs : z.cells.size = size) (hsz : 0 < size)
    (v : Value) (n : Nat) (xs : List Value) (hs : a.eval s = v) (hown : w.ownsRow base e size v n xs)
    (ad : Addr) (m c : Nat) (news : List Value) (hx : a.eval x = .slice (some ad) m c) (hl : news.length = m * size) (hnews : ∀ j u, news[j]? = some u → w.cell? (ad.add j) = some u) (h1 : ∀ u ∈ news, u.oneCell' = true)
    (h63 : n + m ≤ maxLen) (hbytes : (n + m) * bytes ≤ 140737488355328) (hbase : base ≤ w.heap.size)
    (h : ∀ v' w', w'.ownsRow base e size v' (n + m) (xs ++ news) → w.grownBy w' v.ownBlock → (v'.ownBlock = v.ownBlock ∨ v'.ownBlock = some w.heap.size) → wpList P ops Q rest (a.put o.dst v') w') : wpList P ops Q (o :: rest) a w :=
  wpList_plain hgd fun _ hK => wp_append_at w s x t ho base e i z size bytes ht hi hz hsize hby hzs hsz v n xs hs hown ad m c news hx hl hnews h1 h63 hbytes hbase fun v' w' h2 h3 h4 => hK _ _ (h v' w' h2 h3 h4)
end
theorem formOf {w : World} {base e sz n : Nat} {v : Value} {xs : List Value} (h : w.ownsRow base e sz v n xs) : ∃ A c, v = .slice A n c := by
  rcases h.2 with ⟨rfl, h0⟩ | ⟨g, cap, cur, rfl, _⟩
  · exact ⟨none, 0, by rw [h0]⟩
  · exact ⟨_, cap, rfl⟩
/-- The cells of rows of pairs. -/
def pflat (R : List (Nat × Nat)) : List Value := R.flatMap fun r => [.int .i64 (r.1 : Nat), .int .i64 (r.2 : Nat)]
theorem pflat_snoc (R : List (Nat × Nat)) (r : Nat × Nat) : pflat (R ++ [r]) = pflat R ++ [.int .i64 (r.1 : Nat), .int .i64 (r.2 : Nat)] := by simp [pflat]
theorem pair_info : (Try.prog.info? 101).map (fun i => (i.zero, i.size, i.bytes)) = some (some (.agg #[.int .i64 0, .int .i64 0]), 2, 16) := by kernel_rfl
theorem cells_new2 (w : World) (t : TypeId) (a b : Value) : ∀ j u, [a, b][j]? = some u → (w.alloc (.cells #[a, b] t)).cell? ((⟨w.heap.size, 0, none⟩ : Addr).add j) = some u := by
  intro j u hu
  have hb : (w.alloc (.cells #[a, b] t)).heap[w.heap.size]? = some (.cells #[a, b] t (0, 0)) := heap_alloc_new w _
  rw [add_plain, Nat.zero_add, cell_of_row _ _ j _ t (0, 0) hb, ← List.getElem?_toArray] at *
  exact hu
set_option maxHeartbeats 1000000 in
theorem runs_any (v : Value) (l : List UInt8) (w : World) (hl : l.length ≤ 1000) (hd : Sl w w.heap.size v l.length (bs l)) :
    Calls Try.prog 48 #[v] w fun e w' => ∃ u R t, e = .returned u ∧ RunsOf l t R ∧ (∀ j, t ≤ j → j < 8 * l.length → bit l j = false) ∧ w'.ownsRow w.heap.size 101 2 u R.length (pflat R) ∧ R.length ≤ 8000 ∧ Below w.heap.size w w' := by
  obtain ⟨i0, hi0, hz0, hz1, hz2⟩ := info_parts pair_info
  have hlx : (l.length : Int) ≤ 1000 := by omega
  have hnx := fun W (hW : Below w.heap.size w W) F k set h1 h2 h3 h4 => next_ok v l F k set W (by omega) (hd.now hW) h1 h2 h3 h4
  have hnn := fun W (hW : Below w.heap.size w W) F set h1 h4 => next_no v l F set W (by omega) (hd.now hW) h1 h4
  have hsz := fun W (hW : Below w.heap.size w W) => size_any v l W (by omega) (hd.now hW)
  obtain ⟨A, c, rfl, hc1, hc2⟩ := hd.form
  clear hd
  go_enter Try.func48, Try.ntmps48
  go_wp2
  go_step3
  go_wp2
  go_step3
  go_wp2
  go_loopw [3, 4] (fun u a wr => ∃ (t : Nat) (R : List (Nat × Nat)) (A3 : Option Addr) (c3 : Nat), u = .slice A3 R.length c3 ∧ a = .int .i64 t ∧ Hid (RunsOf l t R ∧ R.length ≤ t) ∧ t ≤ 8000 ∧ t ≤ 8 * l.length ∧ wr.ownsRow w.heap.size 101 2 (.slice A3 R.length c3) R.length (pflat R) ∧ Below w.heap.size w wr) (fun _ a _ => 8 * l.length - (intOf a).toNat)
  case atStart => exact ⟨0, [], none, 0, rfl, rfl, Lib.hid ⟨RunsOf.none l, by simp⟩, by omega, by omega, World.ownsRow_nil _ _ _ _, Below.refl _ _⟩
  case round =>
    obtain ⟨t, R, A3, c3, rfl, rfl, HR, ht, htl, hown, hb⟩ := hrel
    rcases first_or l t true with ⟨k, k1, k2, k3, k4⟩ | hno
    · have hc1 := hnx wr hb t k true k1 k2 k3 k4
      have HK4 := Lib.hid k4
      clear k4
      have hRl : R.length ≤ 8000 := by have := HR.out.2; omega
      have b3 : R.length + 1 ≤ maxLen := by unfold maxLen; omega
      have b4 : (R.length + 1) * 16 ≤ 140737488355328 := by omega
      have hownA := fun o => owns_below hown ((Below.refl wr.heap.size wr).alloc (Nat.le_refl _) o)
      have hszA : ∀ o, w.heap.size ≤ (wr.alloc o).heap.size := fun o => (hb.alloc hb.size o).size
      have hone : ∀ x y : Int, ∀ z ∈ ([.int .i64 x, .int .i64 y] : List Value), z.oneCell' = true := by
        intro x y z hz
        simp at hz
        rcases hz with rfl | rfl <;> rfl
      have hs1 := hsz wr hb
      rcases first_or l k false with ⟨E, e1, e2, e3, e4⟩ | hno
      · have hc2 := hnx wr hb k E false e1 e2 e3 e4
        have HE4 := Lib.hid e4
        have hkE : k < E := by
          rcases Nat.lt_or_ge k E with h | h
          · exact h
          · obtain rfl : k = E := by omega
            rw [k3] at e3
            cases e3
        have hE8 : E ≤ 8 * l.length := by omega
        have HEl : Hid (E < 8 * l.length → bit l E = false) := Lib.hid fun _ => e3
        have hEk : ((E - k : Nat) : Int) = (E : Int) - (k : Int) := by omega
        clear e4 hnx hnn hsz e3 k3
        go_wp2_with (first
          | (go_at_call 46; (with_reducible refine hc1.mono ?_); rintro e w3 ⟨rfl, rfl⟩)
          | (go_at_call 46; (with_reducible refine hc2.mono ?_); rintro e w3 ⟨rfl, rfl⟩)
          | (at_builtin; (refine wpList_append_at _ rfl (.tmp 26) (.tmp 32) _ rfl w.heap.size 101 i0 _ 2 16 Try.underlying99 hi0 hz0 hz1 hz2 rfl (by decide) (.slice A3 R.length c3) R.length (pflat R) rfl (hownA _) ⟨wr.heap.size, 0, none⟩ 1 1 [.int .i64 (k : Nat), .int .i64 ((E : Int) - (k : Int))] rfl rfl (cells_new2 _ _ _ _) (hone _ _) b3 b4 (hszA _) ?_); intro v6 w6 ho6 hg6 hat6; obtain ⟨A6, c6, rfl⟩ := formOf ho6))
        exact ⟨⟨E, R ++ [(k, E - k)], A6, c6, by simp, rfl, Lib.hid ⟨HR.out.1.push k1 (fun j a b => by simpa using HK4.out j a b) (fun j a b => by simpa using HE4.out j a b) hkE hE8 HEl.out, by rw [List.length_append]; have := HR.out.2; simp only [List.length_singleton]; omega⟩, by omega, by omega, by rw [List.length_append, pflat_snoc, hEk]; exact ho6, (hb.alloc hb.size _).grown hg6 (by simp; have := hb.size; omega) (fun j hj => (hown.lt j hj).1)⟩, by simp [intOf]; omega⟩
      · obtain ⟨E, hEe⟩ : ∃ E, E = 8 * l.length := ⟨_, rfl⟩
        have hc2 := hnn wr hb k false (by omega) hno
        have HE4 : Hid (∀ j, k ≤ j → j < E → bit l j = !false) := Lib.hid fun j a b => hno j a (by omega)
        have hkE : k < E := by omega
        have hE8 : E ≤ 8 * l.length := by omega
        have HEl : Hid (E < 8 * l.length → bit l E = false) := Lib.hid fun h => by omega
        have hEk : ((E - k : Nat) : Int) = (E : Int) - (k : Int) := by omega
        rw [← hEe] at hs1
        have HEe := Lib.hid hEe
        clear hno hnx hnn hsz k3 hEe
        go_wp2_with (first
          | (go_at_call 46; (with_reducible refine hc1.mono ?_); rintro e w3 ⟨rfl, rfl⟩)
          | (go_at_call 46; (with_reducible refine hc2.mono ?_); rintro e w3 ⟨rfl, rfl⟩)
          | (go_at_call 74; (with_reducible refine hs1.mono ?_); rintro e w3 ⟨rfl, rfl⟩)
          | (at_builtin; (refine wpList_append_at _ rfl (.tmp 26) (.tmp 32) _ rfl w.heap.size 101 i0 _ 2 16 Try.underlying99 hi0 hz0 hz1 hz2 rfl (by decide) (.slice A3 R.length c3) R.length (pflat R) rfl (hownA _) ⟨wr.heap.size, 0, none⟩ 1 1 [.int .i64 (k : Nat), .int .i64 ((E : Int) - (k : Int))] rfl rfl (cells_new2 _ _ _ _) (hone _ _) b3 b4 (hszA _) ?_); intro v6 w6 ho6 hg6 hat6; obtain ⟨A6, c6, rfl⟩ := formOf ho6))
        have hEe := HEe.out
        exact ⟨⟨E, R ++ [(k, E - k)], A6, c6, by simp, rfl, Lib.hid ⟨HR.out.1.push k1 (fun j a b => by simpa using HK4.out j a b) (fun j a b => by simpa using HE4.out j a b) hkE hE8 HEl.out, by rw [List.length_append]; have := HR.out.2; simp only [List.length_singleton]; omega⟩, by omega, by omega, by rw [List.length_append, pflat_snoc, hEk]; exact ho6, (hb.alloc hb.size _).grown hg6 (by simp; have := hb.size; omega) (fun j hj => (hown.lt j hj).1)⟩, by simp [intOf]; omega⟩
    · have hc1 := hnn wr hb t true htl hno
      have HNO := Lib.hid hno
      clear hno hnx hnn
      go_wp2_with (go_at_call 46; (with_reducible refine hc1.mono ?_); rintro e w3 ⟨rfl, rfl⟩)
      rw [Exit.noGoto_ret]
      go_ret
      exact ⟨_, R, t, rfl, HR.out.1, HNO.out, hown, by have := HR.out.2; omega, hb⟩
end Go.Proofs.Ytpkebbibafldkaa
