/- TextRows: for any list of strings and any number the statement's function tells true and turns nothing that was there. No condition. -/
import Derived.Test.YtikehhcbjmcfdaaDoorTxtK
import Derived.Test.YtikehhcbjmcfdaaDoorTxtG
import Derived.Test.YtikehhcbjmcfdaaDoorTxtW
import Derived.Test.YtikehhcbjmcfdaaDoorCards
import Derived.Test.YtikehhcbjmcfdaaDoorTie
import Derived.Deep.DeepHandedRow
import Derived.Deep.RegionWith
import Derived.Deep.RegionLaw
import Derived.Deep.RegionHeldLaw
import Derived.Deep.QuietTactic
import Derived.Deep.DeepCutAuto
import Derived.SliceStrings
import Derived.Lay
namespace Go.Proofs.YtikehhcbjmcfdaaDoor
open Go.ChangeShapes Go.WideShapes Go.ChangeAt Go.RowKit
set_option linter.unusedVariables false
section
variable {H : Type} {enc : TypeId × Value → H} {P : Program}
theorem open_strsl {W : World} {base : Nat} {t e : TypeId} {v : Value} {d : DataW H} {ps : List MemPlace} (ht : P.underlying t = some (.slice e)) (he : P.underlying e = some .string) (hc : P.cellsOf e = 1)
    (hval : Value.okWide P W .any base t v) (h : DataW.Trod enc P W 0 (fun _ => true) true t v d ps) :
    ∃ l : List ByteArray, Sl W W.heap.size v l.length (l.map Value.string) ∧ (∀ s ∈ l, s.size ≤ maxLen) := by
  obtain ⟨a, len, cap, rfl⟩ := okWide_slice ht hval
  obtain ⟨fuel, hf⟩ := h
  rcases open_strings ht he hc hf with ⟨hcs, hx⟩ | ⟨a', len', cap', ss, hcs, _, hl, hm, hz, hx, hcell, hws⟩
  · simp [Value.cells] at hcs
    obtain ⟨rfl, rfl, rfl⟩ := hcs
    exact ⟨[], Sl.nil_, by simp⟩
  · simp [Value.cells] at hcs
    obtain ⟨rfl, rfl, rfl⟩ := hcs
    simp only [if_true] at hz
    refine ⟨ss.take len, ⟨by simp, some a', cap, ?_, ?_, hm, fun hne => ?_⟩, fun s hs => hws s (List.mem_of_mem_take hs)⟩
    · rw [List.length_take, Nat.min_eq_left (by omega)]
    · rw [List.length_take]; omega
    · have hp : 0 < ss.length := by
        rcases Nat.eq_zero_or_pos ss.length with h0 | h0
        · rw [List.eq_nil_of_length_eq_zero h0] at hne; simp at hne
        · exact h0
      obtain ⟨b, off, spot⟩ := a'
      have hspot : spot = none := by simpa [Addr.add] using World.cell?_spot (hcell 0 hp)
      subst hspot
      have hcl : ∀ j, j < ss.length → W.cell? ⟨b, off + j, none⟩ = some (.string (ss.getD j ByteArray.empty)) := fun j hj => by rw [← Go.WideShapes.add_plain]; exact hcell j hj
      refine ⟨b, off, rfl, ?_, fun j u hu => ?_⟩
      · exact World.block_lt_of_cell? W _ (hcl 0 hp)
      · have hj : j < (ss.take len).length := by
          rcases Nat.lt_or_ge j (ss.take len).length with h | h
          · exact h
          · rw [List.getElem?_eq_none (by simpa using h)] at hu; cases hu
        rw [List.length_take] at hj
        rw [hcl j (by omega), ← hu]
        have hjz : j < ss.length := by omega
        simp [List.getD, List.getElem?_eq_getElem hjz, show j < len by omega]
end
namespace TextRows
theorem own_kept {w w' : World} {base e size n : Nat} {v : Value} {xs : List Value} (h : w.ownsRow base e size v n xs) (hb : Below w.heap.size w w') : w'.ownsRow base e size v n xs := by
  refine ⟨h.1, h.2.imp id ?_⟩
  rintro ⟨g, cap, cur, rfl, h1, h2, h3⟩
  exact ⟨g, cap, cur, rfl, h1, (hb.block g (Array.getElem?_eq_some_iff.1 h2).1).trans h2, h3⟩
theorem pr_cells {w : World} {B n c : Nat} {A : Option Addr} {l : List (ByteArray × ByteArray)} (h : Pr w B (.slice A n c) l) (hn : 0 < n) :
    ∃ b off, A = some ⟨b, off, none⟩ ∧ b < B ∧ ∀ j p, l[j]? = some p → w.cell? ⟨b, off + j * 2, none⟩ = some (.string p.1) ∧ w.cell? ⟨b, off + j * 2 + 1, none⟩ = some (.string p.2) := by
  obtain ⟨A', c', e, h1, h2, _, h3⟩ := h
  injection e with e1 e2 e3
  subst e1
  exact h3 (by rintro rfl; simp at e2; omega)
theorem own_empty2 {w : World} {base g t : Nat} (h : Mem w g t #[]) (hb : base ≤ g) : w.ownsRow base t 2 (.slice (some ⟨g, 0, none⟩) 0 0) 0 [] :=
  ⟨rfl, .inr ⟨g, 0, #[], rfl, hb, h, Nat.le_refl _, by simp, rfl, rfl⟩⟩
theorem pcells_len (l : List (ByteArray × ByteArray)) : (pcells l).length = l.length * 2 := by
  induction l with
  | nil => rfl
  | cons p l ih =>
    have e : pcells (p :: l) = [Value.string p.1, Value.string p.2] ++ pcells l := by simp [pcells]
    rw [e, List.length_append, ih, List.length_cons]
    simp
    omega
theorem pcells_one (l : List (ByteArray × ByteArray)) : ∀ u ∈ pcells l, u.oneCell' = true := by
  intro u hu
  unfold pcells at hu
  rw [List.mem_flatten] at hu
  obtain ⟨x, hx, hu⟩ := hu
  obtain ⟨p, _, rfl⟩ := List.mem_map.1 hx
  rcases List.mem_cons.1 hu with rfl | hu
  · rfl
  · obtain rfl : u = .string p.2 := by simpa using hu
    rfl
theorem pcells_back {l : List (ByteArray × ByteArray)} {j : Nat} {u : Value} (h : (pcells l)[j]? = some u) : ∃ p, l[j / 2]? = some p ∧ (j % 2 = 0 ∧ u = .string p.1 ∨ j % 2 = 1 ∧ u = .string p.2) := by
  have hj : j < l.length * 2 := by have := (List.getElem?_eq_some_iff.1 h).1; rwa [pcells_len] at this
  have hd : j / 2 < l.length := by omega
  obtain ⟨h1, h2⟩ := pcells_get l (j / 2) _ (List.getElem?_eq_getElem hd)
  refine ⟨_, List.getElem?_eq_getElem hd, ?_⟩
  rcases Nat.mod_two_eq_zero_or_one j with hm | hm
  · rw [show j / 2 * 2 = j by omega, h] at h1
    exact .inl ⟨hm, Option.some.inj h1⟩
  · rw [show j / 2 * 2 + 1 = j by omega, h] at h2
    exact .inr ⟨hm, Option.some.inj h2⟩
theorem pr_src {w : World} {B n c b off : Nat} {l : List (ByteArray × ByteArray)} (h : Pr w B (.slice (some ⟨b, off, none⟩) n c) l) (hn : 0 < n) {W : World} (hW : ∀ o, W.cell? ⟨b, o, none⟩ = w.cell? ⟨b, o, none⟩) :
    ∀ (j : Nat) (u : Value), (pcells l)[j]? = some u → W.cell? ((⟨b, off, none⟩ : Addr).add j) = some u := by
  intro j u hu
  obtain ⟨b', off', e, hb, hc⟩ := pr_cells h hn
  injection e with e
  injection e with e1 e2
  subst e1; subst e2
  obtain ⟨p, hp, hor⟩ := pcells_back hu
  obtain ⟨h1, h2⟩ := hc _ p hp
  rw [add_plain, hW]
  rcases hor with ⟨hm, rfl⟩ | ⟨hm, rfl⟩
  · rw [← h1, show j / 2 * 2 = j by omega]
  · rw [← h2, Nat.add_assoc, show j / 2 * 2 + 1 = j by omega]
theorem own_empty1 {w : World} {base g t : Nat} (h : Mem w g t #[]) (hb : base ≤ g) : w.ownsRow base t 1 (.slice (some ⟨g, 0, none⟩) 0 0) 0 [] :=
  ⟨rfl, .inr ⟨g, 0, #[], rfl, hb, h, Nat.le_refl _, by simp, rfl, rfl⟩⟩
section
variable {P : Program} (w : World)
theorem wp_append_bs {o : Oper} {a : Act} {K : Act → World → Prop} {Q : Exit → Act → World → Prop} (s x : Operand) (t : TypeId)
    (ho : o.op = .call { callee := .builtin .append, args := #[s, x], argTypes := #[t, t] })
    (base : Nat) (e : TypeId) (i : TypeInfo) (z : Value) (ht : P.underlying t = some (.slice e)) (hi : P.info? e = some i) (hz : i.zero = some z)
    (hsize : i.size = 1) (hby : i.bytes ≤ 8) (hzs : z.cells.size = 1)
    (v : Value) (n : Nat) (xs : List Value) (hs : a.eval s = v) (hown : w.ownsRow base e 1 v n xs)
    (B : Nat) (y : Value) (m : Nat) (news : List Value) (hx : a.eval x = y) (hr : Sl w B y m news) (h1 : ∀ u ∈ news, u.oneCell' = true)
    (hbytes : n + m ≤ 17592186044416) (hbase : base ≤ w.heap.size)
    (h : ∀ v' w', w'.ownsRow base e 1 v' (n + m) (xs ++ news) → w.grownBy w' v.ownBlock → K (a.put o.dst v') w') : o.wp P a w K Q := by
  obtain ⟨v', w', hrun, h2, h3, h4⟩ := append_sl (P := P) w base t o.type e i z ht hi hz hsize hby hzs v n xs hown B y m news hr h1 hbytes hbase
  unfold Oper.wp execOp
  simp only [ho, resolve, invoke, builtin, Sem.run_bind, Sem.run_pure, Result.andThen_ok, List.map_toArray, List.map_cons, List.map_nil, hs, hx, hrun]
  exact h v' w' h2 h3
theorem wp_append_str {o : Oper} {a : Act} {K : Act → World → Prop} {Q : Exit → Act → World → Prop} (sl x : Operand) (t u : TypeId)
    (ho : o.op = .call { callee := .builtin .append, args := #[sl, x], argTypes := #[t, u] })
    (base : Nat) (e : TypeId) (i : TypeInfo) (ht : P.underlying t = some (.slice e)) (hu : P.underlying u = some .string) (hi : P.info? e = some i) (hz : i.zero = some (.int .u8 0))
    (hsize : i.size = 1) (hby : i.bytes = 1)
    (v : Value) (n : Nat) (xs : List Value) (hs : a.eval sl = v) (hown : w.ownsRow base e 1 v n xs) (s : ByteArray) (hx : a.eval x = .string s)
    (h63 : n + s.size ≤ maxLen) (hbytes : n + s.size ≤ 140737488355328) (hbase : base ≤ w.heap.size)
    (h : ∀ v' w', w'.ownsRow base e 1 v' (n + s.size) (xs ++ Lib.strCells s) → w.grownBy w' v.ownBlock → K (a.put o.dst v') w') : o.wp P a w K Q := by
  obtain ⟨v', w', hr, h2, h3, h4⟩ := Lib.run_append_own_string (P := P) w base t u o.type e i ht hu hi hz hsize hby v n xs hown s h63 hbytes hbase
  unfold Oper.wp execOp
  simp only [ho, resolve, invoke, builtin, Sem.run_bind, Sem.run_pure, Result.andThen_ok, List.map_toArray, List.map_cons, List.map_nil, hs, hx, hr]
  exact h v' w' h2 h3
end
theorem str_get' {l : List ByteArray} {i : Nat} (h : i < l.length) : (l.map Value.string)[i]? = some (.string (l.getD i ⟨#[]⟩)) := by simp [List.getD, h]
set_option maxHeartbeats 8000000 in
set_option maxRecDepth 100000 in
theorem walk0 (v : Value) (l : List ByteArray) (tw : Int) (m : Int) (w : World) (hv : Sl w w.heap.size v l.length (l.map Value.string)) (hsz : ∀ s ∈ l, s.size ≤ maxLen) (ht1 : -9223372036854775808 ≤ tw) (ht2 : tw ≤ 9223372036854775807)
    (hm : w.cell? ⟨0, 0, none⟩ = some (.int .i64 m)) (hm0 : 0 < w.heap.size) :
    Calls Tryd.prog 5 #[v, .int .i64 tw] w fun e w' => e = .returned (.bool true) ∧ Below w.heap.size w w' := by
  have hK := known_any m w hm hm0
  obtain ⟨A, c, rfl, hc1, hc2⟩ := hv.form
  unfold maxLen at hc2 hsz
  obtain ⟨i0, hi, hz0, hz1, hz2⟩ := info_parts (show (Tryd.prog.info? 34).map (fun i => (i.zero, i.size, i.bytes)) = some (some (.agg #[.string ⟨#[]⟩, .string ⟨#[]⟩]), 2, 32) by kernel_rfl)
  by_cases hl : 30 < (l.length : Int)
  · go_enter Tryd.func5, Tryd.ntmps5
    go_wp2_with (go_at_call 7; refine hK.mono ?_; rintro e w1 ⟨rfl, hb1⟩)
    all_goals go_ret
    all_goals exact ⟨rfl, hb1⟩
  · have hl30 : l.length ≤ 30 := by omega
    go_enter Tryd.func5, Tryd.ntmps5
    go_wp2_with (go_at_call 7; refine hK.mono ?_; rintro e w1 ⟨rfl, hb1⟩)
    clear hK
    go_loopw [5, 6] (fun pv i wr => ∃ k : Nat, k ≤ l.length ∧ i = .int .i64 k ∧ wr.ownsRow w.heap.size 34 2 pv k (pcells (psTo l k)) ∧ (∀ i, i < k → (l.getD i ⟨#[]⟩).size ≤ 100 ∧ (0 : UInt8) ∉ (l.getD i ⟨#[]⟩).data.toList) ∧ Below w.heap.size w wr) (fun _ i _ => l.length - (intOf i).toNat)
    case atStart => exact ⟨0, Nat.zero_le _, rfl, World.ownsRow_nil _ _ _ _, fun i h => by omega, hb1⟩
    case round =>
      obtain ⟨k, hk, rfl, hown, hok, hb⟩ := hrel
      by_cases hlt : k < l.length
      · obtain ⟨bk, off, rfl, hbk, hcell⟩ := hv.at_ (by omega)
        obtain ⟨s, hs⟩ : ∃ s, s = l.getD k ⟨#[]⟩ := ⟨_, rfl⟩
        have hx : ∀ W, Below w.heap.size w W → W.cell? ⟨bk, off + k, none⟩ = some (.string s) := fun W hW => by
          have := hcell k _ (str_get' hlt)
          rw [← hs] at this
          exact (hW.cell (p := ⟨bk, off + k, none⟩) hbk).trans this
        have hss : s.size ≤ 2 ^ 63 - 1 := by
          have e : l.getD k ⟨#[]⟩ = l[k] := by simp [List.getD, List.getElem?_eq_getElem hlt]
          rw [hs, e]
          exact hsz _ (List.getElem_mem hlt)
        have hx1 := hx wr hb
        have OK := Lib.hid hok
        have HS := Lib.hid hs
        clear hok hs hcell
        by_cases hbig : 100 < (s.size : Int)
        · go_wp2
          go_ret
          exact ⟨rfl, hb⟩
        · go_wp2
          go_loopw [7] (fun i wx => wr = wx ∧ ∃ j : Nat, j ≤ s.size ∧ i = .int .i64 j ∧ (0 : UInt8) ∉ s.data.toList.take j) (fun i _ => s.size - (intOf i).toNat)
          case atStart => exact ⟨rfl, 0, Nat.zero_le _, rfl, by simp⟩
          case round =>
            obtain ⟨rfl, j, hj, rfl, hno⟩ := hrel
            by_cases hjl : j < s.size
            · have HNO := Lib.hid hno
              clear hno
              go_wp2
              · go_ret
                exact ⟨rfl, hb⟩
              · rename_i h0
                refine ⟨⟨trivial, j + 1, by omega, by go_num, ?_⟩, by simp [intOf]; omega⟩
                rw [take_snoc s j hjl, List.mem_append]
                rintro (h | h)
                · exact HNO.out h
                · have e0 : (0 : UInt8) = s[j] := by simpa using h
                  rw [← e0] at h0
                  exact absurd h0 (by decide)
            · obtain rfl : j = s.size := by omega
              have hno' : (0 : UInt8) ∉ s.data.toList := by
                have e1 : s.data.toList.length = s.size := by simp
                rwa [← e1, List.take_length] at hno
              have HNO := Lib.hid hno'
              clear hno hno'
              have hpr : ∃ A1 c1, u5 = .slice A1 k c1 ∧ k ≤ c1 := by
                rcases hown.2 with ⟨h1, h2⟩ | ⟨g, cap, cur, h1, _, _, h2, _⟩
                · exact ⟨none, 0, by rw [h1, h2], by omega⟩
                · exact ⟨_, cap, h1, h2⟩
              obtain ⟨A1, c1, rfl, hkc⟩ := hpr
              obtain ⟨D, hD⟩ : ∃ D : ByteArray, D = ⟨(decS k).toArray⟩ := ⟨_, rfl⟩
              have hdec : ∀ W, Calls Tryd.prog 12 #[.int .i64 k] W fun e w' => e = .returned (.string D) ∧ Below W.heap.size W w' := fun W => by rw [hD]; exact decimal_any k W (by omega)
              have hDs : D.size ≤ 3 := by
                have h1 := keyB_len (i := k) (by omega)
                have e1 : D.data.toList.length = D.size := by simp
                have e2 := decS_le 1 k (by omega)
                rw [← e1, hD]
                show (decS k).length ≤ 3
                omega
              have HD := Lib.hid hD
              clear hD
              go_wp2_with fail
              have hbd : Below w.heap.size w wr.drew := hb.drew
              have hbs : w.heap.size ≤ wr.drew.heap.size := hb.size
              have hown1 : wr.drew.ownsRow w.heap.size 34 2 (.slice A1 k c1) k (pcells (psTo l k)) := hown
              have hone : ∀ u ∈ [Value.string (⟨#[107]⟩ ++ D), Value.string s], u.oneCell' = true := by simp [Value.oneCell']
              have hnew := fun (W : World) => cells_new2 W 34 (.string (⟨#[107]⟩ ++ D)) (.string s)
              have b1 : k + 1 ≤ maxLen := by unfold maxLen; omega
              have b2 : (k + 1) * 32 ≤ 140737488355328 := by omega
              have hal : ∀ W : World, Below w.heap.size w W → w.heap.size ≤ (W.alloc (.cells #[.string (⟨#[107]⟩ ++ D), .string s] 34)).heap.size := fun W hW => (hW.alloc hW.size _).size
              have hownA : ∀ W : World, W.ownsRow w.heap.size 34 2 (.slice A1 k c1) k (pcells (psTo l k)) → (W.alloc (.cells #[.string (⟨#[107]⟩ ++ D), .string s] 34)).ownsRow w.heap.size 34 2 (.slice A1 k c1) k (pcells (psTo l k)) := fun W h => h.alloc _
              have hcat : ¬ 9223372036854775807 < 1 + D.size := by omega
              go_region_law (first
                | (rw [if_pos (by rfl)]; with_reducible refine wp_append_own _ (.tmp 53) (.tmp 62) _ rfl w.heap.size 34 i0 _ 2 32 Tryd.underlying32 hi hz0 hz1 hz2 rfl (by decide) (.slice A1 k c1) k (pcells (psTo l k)) rfl (hownA _ hown5) ⟨w5.heap.size, 0, none⟩ 1 1 [.string (⟨#[107]⟩ ++ D), .string s] rfl rfl (hnew _) hone b1 b2 (hal _ hbw5) ?_; intro v6 w6 ho6 hg6 _)
                | (rw [if_pos (by rfl)]; go_simp; go_at_call 12; with_reducible refine (hdec _).mono ?_; rintro e w5 ⟨rfl, hb5⟩; have hbw5 := hbd.trans (hb5.mono hbs); have hx5 := hx w5 hbw5; have hown5 := own_kept hown1 hb5; dsimp only))
              all_goals (go_wp2_with fail)
              all_goals
                have hb6 : Below w.heap.size w w6 := below_own (hbw5.alloc hbw5.size _) hg6 (hal _ hbw5) (fun k hk => (hown5.lt k hk).1)
                refine ⟨⟨k + 1, by omega, by go_num, ?_, fun i hi => ?_, hb6⟩, by simp [intOf]; omega⟩
                · rw [psTo_succ, pcells_app]
                  have e : pcells [(keyB k, l.getD k ⟨#[]⟩)] = [.string (⟨#[107]⟩ ++ D), .string s] := by rw [← HS.out, HD.out]; rfl
                  rw [e]
                  exact ho6
                · rcases Nat.lt_or_ge i k with h1 | h1
                  · exact OK.out i h1
                  · obtain rfl : i = k := by omega
                    rw [← HS.out]
                    exact ⟨by omega, HNO.out⟩
      · obtain rfl : k = l.length := by omega
        have hokv : okV l := by
          intro x hx
          obtain ⟨i, hi, rfl⟩ := List.getElem_of_mem hx
          have := hok i hi
          have e : l.getD i ⟨#[]⟩ = l[i] := by simp [List.getD, List.getElem?_eq_getElem hi]
          rwa [e] at this
        clear hok
        obtain ⟨ps, hps⟩ : ∃ ps, ps = psTo l l.length := ⟨_, rfl⟩
        have hpl : ps.length = l.length := by rw [hps, psTo_len]
        obtain ⟨hE1, hE2⟩ := psTo_enc hokv hl30
        obtain ⟨hD1, hD2⟩ := psTo_dec hokv hl30
        have hfind := fun k hk => psTo_find (l := l) k hk hl30
        have hget := fun k (hk : k < l.length) => psTo_get (l := l) hk
        have htw1 := fun k hk => twice_enc (l := l) k hk
        have htw2 := fun k hk => twice_dec hokv hl30 k hk
        have hbnd := psTo_bound hokv hl30
        have hmem : ∀ p ∈ ps, p.1.size ≤ 3 ∧ p.2.size ≤ 100 := fun p hp => by
          rw [hps] at hp
          obtain ⟨i, hi, h1, h2, _⟩ := psTo_mem hokv (Nat.le_refl _) hp
          rw [h1]
          exact ⟨keyB_len (by omega), h2⟩
        rw [← hps] at hE1 hE2 hD1 hD2 hfind hget htw1 htw2 hbnd hown
        clear hps hokv hsz
        rw [← hpl] at hown
        have hP := Pr.of_own hown (fun p hp => by have := hmem p hp; unfold maxLen; omega)
        generalize hX : encS ps = X at *
        have hEn : ∀ (W : World) (vp : Value), Pr W W.heap.size vp ps → Calls Tryd.prog 13 #[vp] W fun e w' => ∃ vb, e = .returned (.tuple #[vb, .int .i64 0]) ∧ Sl w' w'.heap.size vb X.length (bs X) ∧ Below W.heap.size W w' := by
          intro W vp h
          refine (Encode_any vp ps W h (by omega)).mono ?_
          rintro e w' ⟨vb, c, rfl, rfl, hs, hb⟩
          rw [hE2] at hs
          exact ⟨vb, by rw [hE1]; rfl, hs, hb⟩
        have hDe : ∀ (W : World) (vb : Value), Below w.heap.size w W → Sl W W.heap.size vb X.length (bs X) → Calls Tryd.prog 14 #[vb] W fun e w' => ∃ Aq cq, e = .returned (.tuple #[.slice Aq l.length cq, .int .i64 0]) ∧ Pr w' w'.heap.size (.slice Aq l.length cq) ps ∧ Below W.heap.size W w' := by
          intro W vb hW h
          refine (Decode_any vb X m W h ((hW.cell (p := ⟨0, 0, none⟩) hm0).trans hm) (Nat.lt_of_lt_of_le hm0 hW.size)).mono ?_
          rintro e w' ⟨vq, c, rfl, rfl, hq, hb⟩
          rw [hD2] at hq
          obtain ⟨Aq, cq, rfl, _, _⟩ := hq.form
          rw [hpl] at hq ⊢
          exact ⟨Aq, cq, by rw [hD1]; rfl, hq, hb⟩
        obtain ⟨Ap, cp, rfl, hcp1, hcp2⟩ := hP.form
        rw [hpl] at hP hcp1 ⊢
        have HPL := Lib.hid hpl
        have HE := Lib.hid (And.intro hE1 hE2)
        have HX := Lib.hid hX
        have HT1 := Lib.hid htw1
        have HT2 := Lib.hid htw2
        have HF := Lib.hid hfind
        have HG := Lib.hid hget
        have HM := Lib.hid hmem
        clear hpl hE1 hE2 hD1 hD2 hX htw1 htw2 hfind hget hmem hown
        unfold maxLen at hcp2
        go_wp2_with (first
          | (go_at_call 13; with_reducible refine (hEn _ _ hP).mono ?_; rintro e w2 ⟨vb, rfl, hsb, hb2⟩; have hbw2 := hb.trans (hb2.mono hb.size); have hP2 := hP.now hb2)
          | (go_at_call 14; with_reducible refine (hDe _ _ hbw2 hsb).mono ?_; rintro e w3 ⟨Aq, cq, rfl, hPq, hb3⟩; have hbw3 := hbw2.trans (hb3.mono hbw2.size); have hP3 := hP2.now hb3; have hsb3 := hsb.now hb3))
        have hcq : ∃ n, l.length ≤ n := ⟨_, Nat.le_refl _⟩
        clear hEn hDe hP hP2 hsb hcq hb1
        go_loopw [12] (fun i wx => ∃ q : Nat, q ≤ l.length ∧ i = .int .i64 q ∧ Below w3.heap.size w3 wx) (fun i _ => l.length - (intOf i).toNat)
        case atStart => exact ⟨0, Nat.zero_le _, rfl, Below.refl _ _⟩
        case round =>
          obtain ⟨q, hq, rfl, hbx⟩ := hrel
          by_cases hlt : q < l.length
          · obtain ⟨bk, off, rfl, hbk, hcell⟩ := hv.at_ (by omega)
            obtain ⟨bp, op, rfl, hbp, hcp⟩ := pr_cells hP3 (by omega)
            obtain ⟨bq, oq, rfl, hbq, hcq⟩ := pr_cells hPq (by omega)
            have hg := HG.out q hlt
            obtain ⟨key, hkey⟩ : ∃ key, key = keyB q := ⟨_, rfl⟩
            obtain ⟨s, hs⟩ : ∃ s, s = l.getD q ⟨#[]⟩ := ⟨_, rfl⟩
            have hfi := HF.out q hlt
            rw [← hkey, ← hs] at hg hfi
            obtain ⟨p1, p2⟩ := hcp q _ hg
            obtain ⟨q1, q2⟩ := hcq q _ hg
            have hbwx : Below w.heap.size w wr := hbw3.trans (hbx.mono hbw3.size)
            have x0 : wr.cell? ⟨bk, off + q, none⟩ = some (.string s) := by
              have := hcell q _ (str_get' hlt)
              rw [← hs] at this
              exact (hbwx.cell (p := ⟨bk, off + q, none⟩) hbk).trans this
            have x1 := (hbx.cell (p := ⟨bp, op + q * 2, none⟩) hbp).trans p1
            have x2 := (hbx.cell (p := ⟨bp, op + q * 2 + 1, none⟩) hbp).trans p2
            have x3 := (hbx.cell (p := ⟨bq, oq + q * 2, none⟩) hbq).trans q1
            have x4 := (hbx.cell (p := ⟨bq, oq + q * 2 + 1, none⟩) hbq).trans q2
            have hFi : Calls Tryd.prog 15 #[.slice (some ⟨bq, oq, none⟩) l.length cq, .string key] wr fun e w' => e = .returned (.tuple #[.string s, .bool true]) ∧ Below wr.heap.size wr w' := by
              have h := Find_any _ ps key wr (hPq.now hbx)
              rw [hfi] at h
              exact h
            clear hcell hcp hcq hg hkey hs hfi p1 p2 q1 q2
            have lk := World.block_lt_of_cell? wr _ x0
            have lp := World.block_lt_of_cell? wr _ x1
            have lq := World.block_lt_of_cell? wr _ x3
            have hql : (q : Int) < l.length := by omega
            go_wp2_with (go_at_call 15; with_reducible refine hFi.mono ?_; rintro e w4 ⟨rfl, hb4⟩; have y0 := (hb4.cell (p := ⟨bk, off + q, none⟩) lk).trans x0; have y1 := (hb4.cell (p := ⟨bp, op + q * 2, none⟩) lp).trans x1; have y2 := (hb4.cell (p := ⟨bp, op + q * 2 + 1, none⟩) lp).trans x2; have y3 := (hb4.cell (p := ⟨bq, oq + q * 2, none⟩) lq).trans x3; have y4 := (hb4.cell (p := ⟨bq, oq + q * 2 + 1, none⟩) lq).trans x4)
            clear hFi x0 x1 x2 x3 x4
            have hql' : ¬ (q : Int) < 0 := by omega
            go_region
            all_goals (go_wp2_with fail)
            all_goals exact ⟨⟨q + 1, by omega, by go_num, (hbx.trans (hb4.mono hbx.size)).drew⟩, by simp [intOf]; omega⟩
          · obtain rfl : q = l.length := by omega
            have hbw4 : Below w.heap.size w wr := hbw3.trans (hbx.mono hbw3.size)
            by_cases h0 : l.length = 0
            · have z : ((l.length : Int) == 0) = true := by simp [h0]
              go_wp2
              all_goals go_ret
              all_goals exact ⟨rfl, hbw4⟩
            · have z : ((l.length : Int) == 0) = false := by rw [beq_eq_false_iff_ne]; omega
              by_cases hneg : tw < 0
              · go_wp2
                all_goals go_ret
                all_goals exact ⟨rfl, hbw4⟩
              · have hz : ¬ (l.length : Int) = 0 := by omega
                go_wp2
                obtain ⟨K, hK⟩ : ∃ K : Nat, tw % (l.length : Int) = K := ⟨(tw % (l.length : Int)).toNat, by have := Int.emod_nonneg tw hz; omega⟩
                have hKl : K < l.length := by have := Int.emod_lt_of_pos tw (show (0 : Int) < l.length by omega); omega
                obtain ⟨bp, op, rfl, hbp, hcp⟩ := pr_cells hP3 (by omega)
                have hg := HG.out K hKl
                have hT1 := HT1.out K hKl
                have hT2 := (HT2.out K hKl)
                obtain ⟨key, hkey⟩ : ∃ key, key = keyB K := ⟨_, rfl⟩
                have hkl : key.size ≤ 3 := by rw [hkey]; exact keyB_len (by omega)
                obtain ⟨s, hs⟩ : ∃ s, s = l.getD K ⟨#[]⟩ := ⟨_, rfl⟩
                rw [← hkey, ← hs] at hg hT1
                rw [← hkey] at hT2
                have hP4 := hP3.now hbx
                have hS4 := hsb3.now hbx
                obtain ⟨p1, p2⟩ := hcp K _ hg
                have x1 := (hbx.cell (p := ⟨bp, op + K * 2, none⟩) hbp).trans p1
                have x2 := (hbx.cell (p := ⟨bp, op + K * 2 + 1, none⟩) hbp).trans p2
                have lp := World.block_lt_of_cell? wr _ x1
                have hmm := HM.out
                have hgm := HM.out _ (List.mem_of_getElem? hg)
                have hsz' : s.size ≤ 100 := hgm.2
                have hpl := HPL.out
                have hEn2 : ∀ (W : World) (vp : Value), Pr W W.heap.size vp (ps ++ [(key, s)]) → Calls Tryd.prog 13 #[vp] W fun e w' => ∃ vb, e = .returned (.tuple #[vb, .int .i64 1]) ∧ Below W.heap.size W w' := by
                  intro W vp h
                  refine (Encode_any vp _ W h (by rw [List.length_append, hpl]; simp; omega)).mono ?_
                  rintro e w' ⟨vb, c, rfl, rfl, hs, hb⟩
                  exact ⟨vb, by rw [hT1]; rfl, hb⟩
                have hDe2 : ∀ (W : World) (vb : Value), Below w.heap.size w W → Sl W W.heap.size vb (X ++ (key.data.toList ++ [61, 0])).length (bs (X ++ (key.data.toList ++ [61, 0]))) → Calls Tryd.prog 14 #[vb] W fun e w' => ∃ vq, e = .returned (.tuple #[vq, .int .i64 2]) ∧ Below W.heap.size W w' := by
                  intro W vb hW h
                  refine (Decode_any vb _ m W h ((hW.cell (p := ⟨0, 0, none⟩) hm0).trans hm) (Nat.lt_of_lt_of_le hm0 hW.size)).mono ?_
                  rintro e w' ⟨vq, c, rfl, rfl, hq, hb⟩
                  exact ⟨vq, by rw [hT2]; rfl, hb⟩
                have hmm' := hmm
                have hpl' := hpl
                rw [hK]
                clear hK hcp hg hT1 hT2 hkey hs p1 p2 hpl HT1 HT2 HF HG HE HX HPL HM hmm hP3 hsb3 hPq hv hb2 hb3 hbw2 hb
                go_cut [17] (fun t wx => t = .int .i64 1 ∧ Below wr.heap.size wr wx)
                case first =>
                  have hlen : (pcells ps).length = l.length * 2 := by rw [pcells_len, hpl']
                  have hone := pcells_one ps
                  have hone2 : ∀ u ∈ [Value.string key, Value.string s], u.oneCell' = true := by simp [Value.oneCell']
                  have b1 : 0 + l.length ≤ maxLen := by unfold maxLen; omega
                  have b2 : (0 + l.length) * 32 ≤ 140737488355328 := by omega
                  have b3 : 0 + l.length + 1 ≤ maxLen := by unfold maxLen; omega
                  have b4 : (0 + l.length + 1) * 32 ≤ 140737488355328 := by omega
                  have oA : (wr.alloc (.cells #[] 34)).drew.ownsRow wr.heap.size 34 2 (.slice (some ⟨wr.heap.size, 0, none⟩) 0 0) 0 [] := own_empty2 (Mem.new wr 34 #[]) (Nat.le_refl _)
                  have oB : ((wr.alloc (.cells #[] 34)).alloc (.cells #[.string key, .string s] 34)).drew.ownsRow wr.heap.size 34 2 (.slice (some ⟨wr.heap.size, 0, none⟩) 0 0) 0 [] := own_empty2 ((Mem.new wr 34 #[]).alloc _) (Nat.le_refl _)
                  have hs1 : (wr.alloc (.cells #[.string key, .string s] 34)).heap.size = wr.heap.size + 1 := by simp
                  have hs2 : (wr.alloc (.cells #[] 34)).heap.size = wr.heap.size + 1 := by simp
                  have oC : ((wr.alloc (.cells #[.string key, .string s] 34)).alloc (.cells #[] 34)).drew.ownsRow wr.heap.size 34 2 (.slice (some ⟨wr.heap.size + 1, 0, none⟩) 0 0) 0 [] := by
                    have h := Mem.new (wr.alloc (.cells #[.string key, .string s] 34)) 34 #[]
                    rw [hs1] at h
                    exact own_empty2 h (by omega)
                  have mB : Mem ((wr.alloc (.cells #[] 34)).alloc (.cells #[.string key, .string s] 34)).drew (wr.heap.size + 1) 34 #[.string key, .string s] := by
                    have h := Mem.new (wr.alloc (.cells #[] 34)) 34 #[.string key, .string s]
                    rw [hs2] at h
                    exact h
                  have mC : Mem ((wr.alloc (.cells #[.string key, .string s] 34)).alloc (.cells #[] 34)).drew wr.heap.size 34 #[.string key, .string s] := (Mem.new wr 34 #[.string key, .string s]).alloc _
                  have lA : Below wr.heap.size wr (wr.alloc (.cells #[] 34)).drew := ((Below.refl _ _).alloc (Nat.le_refl _) _).drew
                  have lB : Below wr.heap.size wr ((wr.alloc (.cells #[] 34)).alloc (.cells #[.string key, .string s] 34)).drew := (((Below.refl _ _).alloc (Nat.le_refl _) _).alloc (by omega) _).drew
                  have lC : Below wr.heap.size wr ((wr.alloc (.cells #[.string key, .string s] 34)).alloc (.cells #[] 34)).drew := (((Below.refl _ _).alloc (Nat.le_refl _) _).alloc (by omega) _).drew
                  have zA := lA.size
                  have zB := lB.size
                  have zC := lC.size
                  have src : ∀ W : World, Below wr.heap.size wr W → ∀ (j : Nat) (u : Value), (pcells ps)[j]? = some u → W.cell? ((⟨bp, op, none⟩ : Addr).add j) = some u := fun W hW => pr_src hP4 (by omega) (fun o => hW.cell (p := ⟨bp, o, none⟩) lp)
                  have sA := src _ lA
                  have sB := src _ lB
                  have sC := src _ lC
                  have F1 : ∀ (W : World) (v1 : Value) (W2 : World), Below wr.heap.size wr W → (∀ k, v1.ownBlock = some k → wr.heap.size ≤ k) → W.grownBy W2 v1.ownBlock → Below wr.heap.size wr W2 ∧ W2.cell? ⟨bp, op + K * 2, none⟩ = some (.string key) ∧ W2.cell? ⟨bp, op + K * 2 + 1, none⟩ = some (.string s) := by
                    intro W v1 W2 hW hk hg
                    have hB := below_own hW hg hW.size hk
                    exact ⟨hB, (hB.cell (p := ⟨bp, op + K * 2, none⟩) lp).trans x1, (hB.cell (p := ⟨bp, op + K * 2 + 1, none⟩) lp).trans x2⟩
                  have kA : ∀ k, (Value.slice (some ⟨wr.heap.size, 0, none⟩) 0 0).ownBlock = some k → wr.heap.size ≤ k := fun k hk => by obtain rfl := Option.some.inj hk; exact Nat.le_refl _
                  have kC : ∀ k, (Value.slice (some ⟨wr.heap.size + 1, 0, none⟩) 0 0).ownBlock = some k → wr.heap.size ≤ k := fun k hk => by obtain rfl := Option.some.inj hk; exact Nat.le_succ _
                  have srcM : ∀ (W : World) (g : Nat), Mem W g 34 #[.string key, .string s] → ∀ (j : Nat) (u : Value), [Value.string key, Value.string s][j]? = some u → W.cell? ((⟨g, 0, none⟩ : Addr).add j) = some u := by
                    intro W g h j u hu
                    rw [add_plain, Nat.zero_add]
                    exact (h.cell j).trans (by simpa using hu)
                  have srcB : ∀ W2, World.grownBy (((wr.alloc (.cells #[] 34)).alloc (.cells #[.string key, .string s] 34)).drew) W2 (Value.slice (some ⟨wr.heap.size, 0, none⟩) 0 0).ownBlock → ∀ (j : Nat) (u : Value), [Value.string key, Value.string s][j]? = some u → W2.cell? ((⟨wr.heap.size + 1, 0, none⟩ : Addr).add j) = some u :=
                    fun W2 h => srcM W2 _ (mB.grown h (by simp [Value.ownBlock]))
                  have srcC : ∀ W2, World.grownBy (((wr.alloc (.cells #[.string key, .string s] 34)).alloc (.cells #[] 34)).drew) W2 (Value.slice (some ⟨wr.heap.size + 1, 0, none⟩) 0 0).ownBlock → ∀ (j : Nat) (u : Value), [Value.string key, Value.string s][j]? = some u → W2.cell? ((⟨wr.heap.size, 0, none⟩ : Addr).add j) = some u :=
                    fun W2 h => srcM W2 _ (mC.grown h (by simp [Value.ownBlock]))
                  have hnew := fun (W : World) => cells_new2 W 34 (.string key) (.string s)
                  have F2 : ∀ (v2 : Value) (W : World) (v3 : Value) (W3 : World), Below wr.heap.size wr W → W.ownsRow wr.heap.size 34 2 v2 (0 + l.length) ([] ++ pcells ps) → W3.ownsRow wr.heap.size 34 2 v3 (0 + l.length + 1) ([] ++ pcells ps ++ [.string key, .string s]) → W.grownBy W3 v2.ownBlock → Below wr.heap.size wr W3 ∧ Pr W3 W3.heap.size v3 (ps ++ [(key, s)]) := by
                    intro v2 W v3 W3 hW ho2 ho3 hg
                    have hB := below_own hW hg hW.size (fun k hk => (ho2.lt k hk).1)
                    refine ⟨hB, Pr.of_own (base := wr.heap.size) (e := 34) ?_ ?_⟩
                    · have e1 : (ps ++ [(key, s)]).length = 0 + l.length + 1 := by rw [List.length_append, hpl']; simp
                      have e2 : pcells (ps ++ [(key, s)]) = [] ++ pcells ps ++ [.string key, .string s] := by rw [pcells_app]; rfl
                      rw [e1, e2]
                      exact ho3
                    · intro p hp
                      unfold maxLen
                      rcases List.mem_append.1 hp with h | h
                      · have := hmm' p h; omega
                      · obtain rfl : p = (key, s) := by simpa using h
                        show key.size ≤ _ ∧ s.size ≤ _
                        omega
                  have hall : ∀ W : World, Below wr.heap.size wr W → Below wr.heap.size wr (W.alloc (.cells #[.string key, .string s] 34)) := fun W h => h.alloc h.size _
                  have hallz : ∀ W : World, Below wr.heap.size wr W → wr.heap.size ≤ (W.alloc (.cells #[.string key, .string s] 34)).heap.size := fun W h => (hall W h).size
                  have hoal : ∀ (v2 : Value) (W : World), W.ownsRow wr.heap.size 34 2 v2 (0 + l.length) ([] ++ pcells ps) → (W.alloc (.cells #[.string key, .string s] 34)).ownsRow wr.heap.size 34 2 v2 (0 + l.length) ([] ++ pcells ps) := fun v2 W h => h.alloc _
                  have F3 : ∀ (W3 w5 : World), Below wr.heap.size wr W3 → Below W3.heap.size W3 w5 → Below wr.heap.size wr w5 := fun W3 w5 h1 h2 => h1.trans (h2.mono h1.size)
                  go_region_law (first
                    | (rw [if_pos (by rfl)]; with_reducible refine wp_append_own _ (.tmp 134) (.tmp 135) _ rfl wr.heap.size 34 i0 _ 2 32 Tryd.underlying32 hi hz0 hz1 hz2 rfl (by decide) (.slice (some ⟨wr.heap.size, 0, none⟩) 0 0) 0 [] rfl oA ⟨bp, op, none⟩ l.length cp (pcells ps) rfl hlen sA hone b1 b2 zA ?_; intro v2 W2 ho2 hg2 _; obtain ⟨hB2, y1, y2⟩ := F1 _ _ W2 lA kA hg2)
                    | (rw [if_pos (by rfl)]; with_reducible refine wp_append_own _ (.tmp 134) (.tmp 135) _ rfl wr.heap.size 34 i0 _ 2 32 Tryd.underlying32 hi hz0 hz1 hz2 rfl (by decide) (.slice (some ⟨wr.heap.size, 0, none⟩) 0 0) 0 [] rfl oB ⟨bp, op, none⟩ l.length cp (pcells ps) rfl hlen sB hone b1 b2 zB ?_; intro v2 W2 ho2 hg2 _; obtain ⟨hB2, y1, y2⟩ := F1 _ _ W2 lB kA hg2; have hsr := srcB W2 hg2)
                    | (rw [if_pos (by rfl)]; with_reducible refine wp_append_own _ (.tmp 134) (.tmp 135) _ rfl wr.heap.size 34 i0 _ 2 32 Tryd.underlying32 hi hz0 hz1 hz2 rfl (by decide) (.slice (some ⟨wr.heap.size + 1, 0, none⟩) 0 0) 0 [] rfl oC ⟨bp, op, none⟩ l.length cp (pcells ps) rfl hlen sC hone b1 b2 zC ?_; intro v2 W2 ho2 hg2 _; obtain ⟨hB2, y1, y2⟩ := F1 _ _ W2 lC kC hg2; have hsr := srcC W2 hg2)
                    | (rw [if_pos (by rfl)]; with_reducible refine wp_append_own _ (.tmp 136) (.tmp 141) _ rfl wr.heap.size 34 i0 _ 2 32 Tryd.underlying32 hi hz0 hz1 hz2 rfl (by decide) v2 (0 + l.length) ([] ++ pcells ps) rfl (hoal _ _ ho2) ⟨W2.heap.size, 0, none⟩ 1 1 [.string key, .string s] rfl rfl (hnew _) hone2 b3 b4 (hallz _ hB2) ?_; intro v3 W3 ho3 hg3 _; obtain ⟨hB3, hpr3⟩ := F2 v2 _ v3 W3 (hall _ hB2) (hoal _ _ ho2) ho3 hg3)
                    | (rw [if_pos (by rfl)]; with_reducible refine wp_append_own _ (.tmp 136) (.tmp 141) _ rfl wr.heap.size 34 i0 _ 2 32 Tryd.underlying32 hi hz0 hz1 hz2 rfl (by decide) v2 (0 + l.length) ([] ++ pcells ps) rfl ho2 ⟨wr.heap.size + 1, 0, none⟩ 1 1 [.string key, .string s] rfl rfl hsr hone2 b3 b4 hB2.size ?_; intro v3 W3 ho3 hg3 _; obtain ⟨hB3, hpr3⟩ := F2 v2 _ v3 W3 hB2 ho2 ho3 hg3)
                    | (rw [if_pos (by rfl)]; with_reducible refine wp_append_own _ (.tmp 136) (.tmp 141) _ rfl wr.heap.size 34 i0 _ 2 32 Tryd.underlying32 hi hz0 hz1 hz2 rfl (by decide) v2 (0 + l.length) ([] ++ pcells ps) rfl ho2 ⟨wr.heap.size, 0, none⟩ 1 1 [.string key, .string s] rfl rfl hsr hone2 b3 b4 hB2.size ?_; intro v3 W3 ho3 hg3 _; obtain ⟨hB3, hpr3⟩ := F2 v2 _ v3 W3 hB2 ho2 ho3 hg3)
                    | (rw [if_pos (by rfl)]; go_simp; go_at_call 13; with_reducible refine (hEn2 _ _ hpr3).mono ?_; rintro e w5 ⟨vb5, rfl, hb5⟩; have hB5 := F3 _ _ hB3 hb5; dsimp only))
                  all_goals (go_wp2_with fail)
                  all_goals go_meet
                  all_goals exact ⟨rfl, hB5⟩
                case rest =>
                  obtain ⟨rfl, hbc⟩ := hcut
                  have hScn := hS4.now hbc
                  have xc := (hbc.cell (p := ⟨bp, op + K * 2, none⟩) lp).trans x1
                  have lpc : bp < wc.heap.size := Nat.lt_of_lt_of_le lp hbc.size
                  have hbwc : Below w.heap.size w wc := hbw4.trans (hbc.mono hbw4.size)
                  clear x1 x2 lp hP4 hS4 hEn2 hsz' hmm' hpl' hgm hbp
                  go_wp2_with fail
                  go_cut [19] (fun t wx => t = .int .i64 2 ∧ Below wc.heap.size wc wx)
                  case first =>
                    obtain ⟨j0, hj, jz0, jz1, jz2⟩ := info_parts (show (Tryd.prog.info? 5).map (fun i => (i.zero, i.size, i.bytes)) = some (some (.int .u8 0), 1, 1) by kernel_rfl)
                    have ee0 : (#[Value.int .u8 0] : Array Value).toList = bs [0] := rfl
                    have hs1 : (wc.alloc (.cells #[.int .u8 0] 5)).heap.size = wc.heap.size + 1 := by simp
                    have hs2 : (wc.alloc (.cells #[] 5)).heap.size = wc.heap.size + 1 := by simp
                    have cvt : ∀ (W : World) (g : Nat), Mem W g 5 #[.int .u8 0] → (convert 35 9 (.slice (some ⟨g, 0, none⟩) 1 1)).run Tryd.prog (W) = .ok (.string ⟨#[0]⟩) (W) := by
                      intro W g h
                      have hsl : Sl W W.heap.size (.slice (some ⟨g, 0, none⟩) 1 1) 1 (bs [0]) := ⟨rfl, _, 1, rfl, Nat.le_refl _, by unfold maxLen; omega, fun _ => ⟨g, 0, rfl, h.lt, fun j u hu => by rw [Nat.zero_add]; exact (h.cell j).trans (by rw [← hu, ← ee0]; simp)⟩⟩
                      exact bytes_str _ _ _ _ Tryd.underlying35 Tryd.underlying5 Tryd.underlying9 _ _ [0] _ hsl
                    have mD : Mem ((wc.alloc (.cells #[.int .u8 0] 5)).drew) wc.heap.size 5 #[.int .u8 0] := Mem.new wc 5 #[.int .u8 0]
                    have mB : Mem (((wc.alloc (.cells #[] 5)).alloc (.cells #[.int .u8 0] 5)).drew) (wc.heap.size + 1) 5 #[.int .u8 0] := by
                      have h := Mem.new (wc.alloc (.cells #[] 5)) 5 #[.int .u8 0]
                      rw [hs2] at h
                      exact h
                    have mC : Mem (((wc.alloc (.cells #[.int .u8 0] 5)).alloc (.cells #[] 5)).drew) wc.heap.size 5 #[.int .u8 0] := (Mem.new wc 5 #[.int .u8 0]).alloc _
                    have cD := cvt _ _ mD
                    have cB := cvt _ _ mB
                    have cC := cvt _ _ mC
                    have cN : ∀ W : World, (convert 35 9 (.slice (some ⟨W.heap.size, 0, none⟩) 1 1)).run Tryd.prog (W.alloc (.cells #[.int .u8 0] 5)) = .ok (.string ⟨#[0]⟩) (W.alloc (.cells #[.int .u8 0] 5)) := fun W => cvt _ _ (Mem.new W 5 #[.int .u8 0])
                    have oA : ((wc.alloc (.cells #[] 5)).drew).ownsRow wc.heap.size 5 1 (.slice (some ⟨wc.heap.size, 0, none⟩) 0 0) 0 [] := own_empty1 (Mem.new wc 5 #[]) (Nat.le_refl _)
                    have oB : (((wc.alloc (.cells #[] 5)).alloc (.cells #[.int .u8 0] 5)).drew).ownsRow wc.heap.size 5 1 (.slice (some ⟨wc.heap.size, 0, none⟩) 0 0) 0 [] := own_empty1 ((Mem.new wc 5 #[]).alloc _) (Nat.le_refl _)
                    have oC : (((wc.alloc (.cells #[.int .u8 0] 5)).alloc (.cells #[] 5)).drew).ownsRow wc.heap.size 5 1 (.slice (some ⟨wc.heap.size + 1, 0, none⟩) 0 0) 0 [] := by
                      have h := Mem.new (wc.alloc (.cells #[.int .u8 0] 5)) 5 #[]
                      rw [hs1] at h
                      exact own_empty1 h (by omega)
                    have lA : Below wc.heap.size wc ((wc.alloc (.cells #[] 5)).drew) := ((Below.refl _ _).alloc (Nat.le_refl _) _).drew
                    have lB : Below wc.heap.size wc (((wc.alloc (.cells #[] 5)).alloc (.cells #[.int .u8 0] 5)).drew) := (((Below.refl _ _).alloc (Nat.le_refl _) _).alloc (by omega) _).drew
                    have lC : Below wc.heap.size wc (((wc.alloc (.cells #[.int .u8 0] 5)).alloc (.cells #[] 5)).drew) := (((Below.refl _ _).alloc (Nat.le_refl _) _).alloc (by omega) _).drew
                    have zA := lA.size
                    have zB := lB.size
                    have zC := lC.size
                    have sA := hScn.now lA
                    have sB := hScn.now lB
                    have sC := hScn.now lC
                    have kA : ∀ k, (Value.slice (some ⟨wc.heap.size, 0, none⟩) 0 0).ownBlock = some k → wc.heap.size ≤ k := fun k hk => by obtain rfl := Option.some.inj hk; exact Nat.le_refl _
                    have kC : ∀ k, (Value.slice (some ⟨wc.heap.size + 1, 0, none⟩) 0 0).ownBlock = some k → wc.heap.size ≤ k := fun k hk => by obtain rfl := Option.some.inj hk; exact Nat.le_succ _
                    have F1 : ∀ (W : World) (v1 : Value) (W2 : World), Below wc.heap.size wc W → (∀ k, v1.ownBlock = some k → wc.heap.size ≤ k) → W.grownBy W2 v1.ownBlock → Below wc.heap.size wc W2 ∧ W2.cell? ⟨bp, op + K * 2, none⟩ = some (.string key) ∧ bp < W2.heap.size := by
                      intro W v1 W2 hW hk hg
                      have hB := below_own hW hg hW.size hk
                      exact ⟨hB, (hB.cell (p := ⟨bp, op + K * 2, none⟩) lpc).trans xc, Nat.lt_of_lt_of_le lpc hB.size⟩
                    have G1 : ∀ W2, World.grownBy (((wc.alloc (.cells #[] 5)).alloc (.cells #[.int .u8 0] 5)).drew) W2 (Value.slice (some ⟨wc.heap.size, 0, none⟩) 0 0).ownBlock → (convert 35 9 (.slice (some ⟨wc.heap.size + 1, 0, none⟩) 1 1)).run Tryd.prog (W2) = .ok (.string ⟨#[0]⟩) (W2) :=
                      fun W2 h => cvt W2 _ (mB.grown h (by simp [Value.ownBlock]))
                    have G2 : ∀ W2, World.grownBy (((wc.alloc (.cells #[.int .u8 0] 5)).alloc (.cells #[] 5)).drew) W2 (Value.slice (some ⟨wc.heap.size + 1, 0, none⟩) 0 0).ownBlock → (convert 35 9 (.slice (some ⟨wc.heap.size, 0, none⟩) 1 1)).run Tryd.prog (W2) = .ok (.string ⟨#[0]⟩) (W2) :=
                      fun W2 h => cvt W2 _ (mC.grown h (by simp [Value.ownBlock]))
                    have hall : ∀ W : World, Below wc.heap.size wc W → Below wc.heap.size wc (W.alloc (.cells #[.int .u8 0] 5)) := fun W h => h.alloc h.size _
                    have hallz : ∀ W : World, Below wc.heap.size wc W → wc.heap.size ≤ (W.alloc (.cells #[.int .u8 0] 5)).heap.size := fun W h => (hall W h).size
                    have hoal : ∀ (v2 : Value) (W : World), W.ownsRow wc.heap.size 5 1 v2 (0 + X.length) ([] ++ bs X) → (W.alloc (.cells #[.int .u8 0] 5)).ownsRow wc.heap.size 5 1 v2 (0 + X.length) ([] ++ bs X) := fun v2 W h => h.alloc _
                    have hstd : (key ++ ⟨#[61]⟩ ++ ⟨#[0]⟩).data.toList = key.data.toList ++ [61, 0] := by simp
                    have hsts : (key ++ ⟨#[61]⟩ ++ ⟨#[0]⟩).size = key.size + 2 := by
                      have e1 : (key ++ ⟨#[61]⟩ ++ ⟨#[0]⟩).data.toList.length = (key ++ ⟨#[61]⟩ ++ ⟨#[0]⟩).size := by rw [Array.length_toList]; rfl
                      have e2 : key.data.toList.length = key.size := by simp
                      rw [← e1, hstd, List.length_append, e2]
                      rfl
                    have F2 : ∀ (v2 : Value) (W : World) (v3 : Value) (W3 : World), Below wc.heap.size wc W → W.ownsRow wc.heap.size 5 1 v2 (0 + X.length) ([] ++ bs X) → W3.ownsRow wc.heap.size 5 1 v3 (0 + X.length + (key ++ ⟨#[61]⟩ ++ ⟨#[0]⟩).size) ([] ++ bs X ++ Lib.strCells (key ++ ⟨#[61]⟩ ++ ⟨#[0]⟩)) → W.grownBy W3 v2.ownBlock → Below wc.heap.size wc W3 ∧ Below w.heap.size w W3 ∧ Sl W3 W3.heap.size v3 (X ++ (key.data.toList ++ [61, 0])).length (bs (X ++ (key.data.toList ++ [61, 0]))) ∧ W3.cell? ⟨bp, op + K * 2, none⟩ = some (.string key) ∧ bp < W3.heap.size := by
                      intro v2 W v3 W3 hW ho2 ho3 hg
                      have hB := below_own hW hg hW.size (fun k hk => (ho2.lt k hk).1)
                      refine ⟨hB, hbwc.trans (hB.mono hbwc.size), Sl.of_own (base := wc.heap.size) (e := 5) (Text.ownsRow_len ho3 ?_ ?_), (hB.cell (p := ⟨bp, op + K * 2, none⟩) lpc).trans xc, Nat.lt_of_lt_of_le lpc hB.size⟩
                      · have e2 : key.data.toList.length = key.size := by simp
                        rw [hsts, List.length_append, List.length_append, e2]
                        simp
                      · rw [strCells_bs, hstd, bs_app X]
                        rfl
                    have c1 : 0 + X.length ≤ 17592186044416 := by omega
                    have c2 : 0 + X.length + (key ++ ⟨#[61]⟩ ++ ⟨#[0]⟩).size ≤ maxLen := by unfold maxLen; omega
                    have c3 : 0 + X.length + (key ++ ⟨#[61]⟩ ++ ⟨#[0]⟩).size ≤ 140737488355328 := by omega
                    have j8 : j0.bytes ≤ 8 := by omega
                    have F3 : ∀ (W3 w5 : World), Below wc.heap.size wc W3 → Below W3.heap.size W3 w5 → Below wc.heap.size wc w5 := fun W3 w5 h1 h2 => h1.trans (h2.mono h1.size)
                    have d1 : ¬ 9223372036854775807 < key.size + 1 := by omega
                    have d2 : ¬ 9223372036854775807 < key.size + 1 + 1 := by omega
                    clear hi hz0 hz1 hz2
                    have xA : ((wc.alloc (.cells #[] 5)).drew).cell? ⟨bp, op + K * 2, none⟩ = some (.string key) := (lA.cell (p := ⟨bp, op + K * 2, none⟩) lpc).trans xc
                    have xB : (((wc.alloc (.cells #[] 5)).alloc (.cells #[.int .u8 0] 5)).drew).cell? ⟨bp, op + K * 2, none⟩ = some (.string key) := (lB.cell (p := ⟨bp, op + K * 2, none⟩) lpc).trans xc
                    have xC : (((wc.alloc (.cells #[.int .u8 0] 5)).alloc (.cells #[] 5)).drew).cell? ⟨bp, op + K * 2, none⟩ = some (.string key) := (lC.cell (p := ⟨bp, op + K * 2, none⟩) lpc).trans xc
                    have xD : ((wc.alloc (.cells #[.int .u8 0] 5)).drew).cell? ⟨bp, op + K * 2, none⟩ = some (.string key) := ((((Below.refl wc.heap.size wc).alloc (Nat.le_refl _) (.cells #[.int .u8 0] 5)).drew).cell (p := ⟨bp, op + K * 2, none⟩) lpc).trans xc
                    have x0 : (wc.drew).cell? ⟨bp, op + K * 2, none⟩ = some (.string key) := xc
                    have xN : ∀ W : World, W.cell? ⟨bp, op + K * 2, none⟩ = some (.string key) → bp < W.heap.size → (W.alloc (.cells #[.int .u8 0] 5)).cell? ⟨bp, op + K * 2, none⟩ = some (.string key) := fun W h1 h2 => (World.cell?_alloc_lt W _ _ h2).trans h1
                    have xE : ∀ W3 w5 : World, W3.cell? ⟨bp, op + K * 2, none⟩ = some (.string key) → bp < W3.heap.size → Below W3.heap.size W3 w5 → w5.cell? ⟨bp, op + K * 2, none⟩ = some (.string key) := fun W3 w5 h1 h2 h3 => (h3.cell (p := ⟨bp, op + K * 2, none⟩) h2).trans h1
                    go_region_held_law (fun W => W.cell? ⟨bp, op + K * 2, none⟩ = some (.string key)) (first | assumption | exact xN _ y1 y2) (first
                      | (rw [if_pos (by rfl)]; with_reducible refine wp_append_bs _ (.tmp 147) (.tmp 148) _ rfl wc.heap.size 5 j0 _ Tryd.underlying35 hj jz0 jz1 j8 rfl (.slice (some ⟨wc.heap.size, 0, none⟩) 0 0) 0 [] rfl oA _ vb X.length (bs X) rfl sA bs_one c1 zA ?_; intro v2 W2 ho2 hg2; obtain ⟨hB2, y1, y2⟩ := F1 _ _ W2 lA kA hg2)
                      | (rw [if_pos (by rfl)]; with_reducible refine wp_append_bs _ (.tmp 147) (.tmp 148) _ rfl wc.heap.size 5 j0 _ Tryd.underlying35 hj jz0 jz1 j8 rfl (.slice (some ⟨wc.heap.size, 0, none⟩) 0 0) 0 [] rfl oB _ vb X.length (bs X) rfl sB bs_one c1 zB ?_; intro v2 W2 ho2 hg2; obtain ⟨hB2, y1, y2⟩ := F1 _ _ W2 lB kA hg2; have hcv := G1 W2 hg2)
                      | (rw [if_pos (by rfl)]; with_reducible refine wp_append_bs _ (.tmp 147) (.tmp 148) _ rfl wc.heap.size 5 j0 _ Tryd.underlying35 hj jz0 jz1 j8 rfl (.slice (some ⟨wc.heap.size + 1, 0, none⟩) 0 0) 0 [] rfl oC _ vb X.length (bs X) rfl sC bs_one c1 zC ?_; intro v2 W2 ho2 hg2; obtain ⟨hB2, y1, y2⟩ := F1 _ _ W2 lC kC hg2; have hcv := G2 W2 hg2)
                      | (rw [if_pos (by rfl)]; with_reducible refine wp_append_str _ (.tmp 149) (.tmp 158) _ _ rfl wc.heap.size 5 j0 Tryd.underlying35 Tryd.underlying9 hj jz0 jz1 jz2 v2 (0 + X.length) ([] ++ bs X) rfl (hoal _ _ ho2) (key ++ ⟨#[61]⟩ ++ ⟨#[0]⟩) rfl c2 c3 (hallz _ hB2) ?_; intro v3 W3 ho3 hg3; obtain ⟨hB3, hb3, hsl3, z1, z2⟩ := F2 v2 _ v3 W3 (hall _ hB2) (hoal _ _ ho2) ho3 hg3)
                      | (rw [if_pos (by rfl)]; with_reducible refine wp_append_str _ (.tmp 149) (.tmp 158) _ _ rfl wc.heap.size 5 j0 Tryd.underlying35 Tryd.underlying9 hj jz0 jz1 jz2 v2 (0 + X.length) ([] ++ bs X) rfl ho2 (key ++ ⟨#[61]⟩ ++ ⟨#[0]⟩) rfl c2 c3 hB2.size ?_; intro v3 W3 ho3 hg3; obtain ⟨hB3, hb3, hsl3, z1, z2⟩ := F2 v2 _ v3 W3 hB2 ho2 ho3 hg3)
                      | (rw [if_pos (by rfl)]; go_simp; go_at_call 14; with_reducible refine (hDe2 _ _ hb3 hsl3).mono ?_; rintro e w5 ⟨vb5, rfl, hb5⟩; have hB5 := F3 _ _ hB3 hb5; have z5 := xE _ _ z1 z2 hb5; dsimp only))
                    all_goals (go_wp2_with fail)
                    all_goals go_meet
                    all_goals exact ⟨rfl, hB5⟩
                  case rest =>
                    have hbw5 := hbwc
                    obtain ⟨rfl, hbd⟩ := hcut
                    go_wp2_with fail
                    go_ret
                    exact ⟨rfl, hbw5.trans (hbd.mono hbw5.size)⟩
theorem walk (v : Value) (l : List ByteArray) (tw : Int) (W : World) (hsh : W.ShapedOpen Tryd.prog) (_ : laidMetH Tryd.prog Rows.textRowsRow.laid W) (hs : Sl W W.heap.size v l.length (l.map Value.string) ∧ ∀ s ∈ l, s.size ≤ maxLen) (ht1 : -9223372036854775808 ≤ tw) (ht2 : tw ≤ 9223372036854775807) :
    Calls Tryd.prog 5 #[v, .int .i64 tw] W fun e w' => e = .returned (.bool true) ∧ Below W.heap.size W w' := by
  obtain ⟨m, hm⟩ := max_len hsh
  exact walk0 v l tw m W hs.1 hs.2 ht1 ht2 hm (cell_block hm)
theorem reads (os : Os) {H : Type} (enc : TypeId × Value → H) : ∃ places, DataW.whole enc Tryd.prog ((World.laidAll Tryd.prog os Rows.textRowsRow.laid).forCall (fun _ _ => 0) ⟨#[], #[.slice none 0 0, .int .i64 0], []⟩).memory Tryd.f5.params.toList Rows.textRowsSpec.vars false (#[.slice none 0 0, .int .i64 0] : Array Value).toList 8 = some ([.nil, .lit (.int .i64 0)], [], places) :=
  ⟨[], by kernel_rfl⟩
set_option maxRecDepth 100000 in
theorem lifted (os : Os) (started : os.Started) (H : Type) (enc : TypeId × Value → H) (F : Stop.Interp) :
    ReturnsInHanded {} Tryd.checked os 5 .any ((OpenSpec.ofChange Rows.textRowsSpec).preRow enc Tryd.prog Tryd.f5 Rows.textRowsRow.domain false Rows.textRowsRow.laid) (((OpenSpec.ofChange Rows.textRowsSpec).at F).post enc Tryd.prog Tryd.f5 false true false false) := by
  obtain ⟨places, hx⟩ := reads os enc
  have hok : Input.okWideB Tryd.checked.prog ((World.laidAll Tryd.prog os Rows.textRowsRow.laid).forCall (fun _ _ => 0) ⟨#[], #[.slice none 0 0, .int .i64 0], []⟩) 5 ⟨#[], #[.slice none 0 0, .int .i64 0], []⟩ = true := by kernel_rfl
  refine returnsInHanded_of_row (C := Tryd.checked) (s := OpenSpec.ofChange Rows.textRowsSpec) own started (by kernel_rfl) Tryd.func5
    ⟨World.laidAll Tryd.prog os Rows.textRowsRow.laid, fun _ _ => 0, ⟨#[], #[.slice none 0 0, .int .i64 0], []⟩, World.laidAll_os _ _ _, World.shaped_of_ZipB (by kernel_rfl) (by kernel_rfl), (Input.okWide_of_okWideB (base := 0) hok).1, (Input.okWide_of_okWideB hok).2,
      OpenSpec.preRow_of_cond 8 hx (by kernel_rfl) (fun k hk => by cases hk) (by kernel_rfl) (by rw [MakeChecks.laidMetH_plain _ _ _ (by kernel_rfl)]; exact laidMet_laidAll _ (by kernel_rfl) (by kernel_rfl)),
      by simp only [Assume.holds]; exact ⟨by simp, by simp, fun _ => Modest.zero, by simp, by simp⟩⟩ ?_
  intro W base args ds gs before hval0 hW _ _ _ hL hsh _
  have hval : ∀ (j : Nat) t v, Tryd.f5.params[j]? = some t → args[j]? = some v → Value.okWide Tryd.prog W .any base t v := hval0
  have hW' := hW
  obtain ⟨p, q, hA0, hV, rfl, hfz, hnd⟩ := hW
  have hA : DataW.TrodAll enc Tryd.prog W 0 (fun _ => true) true Tryd.f5.params.toList args.toList ds p := hA0
  rw [Tryd.params5] at hA hval
  obtain ⟨v0, vs0, d0, ds0, p0, q0, hargs, rfl, rfl, h0, r0⟩ := trodAll_cons hA
  obtain ⟨v1, vs1, d1, ds1, p1, q1, rfl, rfl, rfl, h1, r1⟩ := trodAll_cons r0
  obtain ⟨rfl, rfl, rfl⟩ := trodAll_nil r1
  obtain rfl : args = #[v0, v1] := by cases args; simp_all
  obtain ⟨rfl, rfl⟩ := trodVars_none hV
  obtain ⟨l0, s0⟩ := open_strsl Tryd.underlying31 Tryd.underlying9 (by kernel_rfl) (hval 0 31 v0 rfl rfl) h0
  obtain ⟨a1, rfl, _, _, w1⟩ := open_int Tryd.underlying3 (hval 1 3 v1 rfl rfl) h1
  have b1 := bounds_i64 w1
  refine (walk v0 l0 a1 W hsh hL s0 b1.1 b1.2).mono fun e W' ⟨he, hb⟩ => ?_
  subst he
  exact ⟨_, rfl, law_post laidOut (by kernel_rfl) rfl (by kernel_rfl) Tryd.underlying4 rfl rfl rfl hW' hb⟩

theorem said : Rows.TextRowsSaid :=
  OpenClaim.holds_of_cond 5 Tryd.f5 rfl rfl rfl rfl rfl rfl rfl ⟨rfl, rfl, rfl, rfl, rfl⟩ rfl rfl rfl rfl rfl (by kernel_rfl) Tryd.func5 (by kernel_rfl)
    (of_decide_eq_true (by kernel_rfl)) (by unfold Func.isWrapper; first | (rw [if_pos (by decide +kernel)]; kernel_rfl) | (rw [if_neg (by decide +kernel)]; exact ⟨rfl, rfl⟩))
    (fun os started H enc _ F => by rw [OpenClaim.pre_eq_preRow]; exact lifted os started H enc F)
theorem proved : Rows.TextRowsCardSaid :=
  Claim7.holds_tied_plain_at .later [] _ _ _ _ said (fun _ h => by cases h) (by kernel_rfl) (fun _ h => by cases h) textRows_row_tie rfl ⟨rfl, rfl⟩ (by kernel_rfl) rfl
    (fun f fn hf hfn => by
      obtain rfl : f = 5 := Option.some.inj ((show Tryd.prog.funcNamed "gemel/gemellaw3.TextRows" = some 5 by kernel_rfl).symm.trans hf) |>.symm
      obtain rfl : fn = Tryd.f5 := (Option.some.inj (Tryd.func5.symm.trans hfn)).symm
      refine ⟨by kernel_rfl, fun j t ht => ?_⟩
      rw [Tryd.params5] at ht
      have hmem : t ∈ [31, 3] := by simpa using Array.mem_of_getElem? ht
      have hall : ([31, 3].all fun u => !Tryd.prog.wantsStandIn u) = true := by kernel_rfl
      exact (show Tryd.prog.wantsStandIn t = false by simpa using List.all_eq_true.1 hall t hmem))
    (by kernel_rfl)
end TextRows
end Go.Proofs.YtikehhcbjmcfdaaDoor
