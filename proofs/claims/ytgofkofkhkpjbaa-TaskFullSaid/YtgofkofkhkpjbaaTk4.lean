/- Package task: Enabled, Waiting, Contains, Start, Done, Abort: contracts. -/
import Derived.Test.YtgofkofkhkpjbaaTk3
namespace Go.Proofs.Ytgofkofkhkpjbaa
open Go.ChangeShapes Go.WideShapes Go.ChangeAt Go.RowKit Go.Lib
set_option linter.unusedVariables false
set_option linter.unusedSimpArgs false
namespace Tk
def us (l : List Nat) : List Value := l.map fun n => .int .u32 (n : Nat)
theorem us_app (a b : List Nat) : us (a ++ b) = us a ++ us b := by simp [us]
theorem us_len (a : List Nat) : (us a).length = a.length := by simp [us]
theorem us_get (K : List Nat) (i : Nat) (h : i < K.length) : (us K)[i]? = some (.int .u32 (K[i] : Nat)) := by simp [us, h]
def barTo (L : List Tk) (j : Nat) : Bool := (L.take j).any fun x => x.attr != 0
theorem barTo_succ (L : List Tk) (j : Nat) (h : j < L.length) : barTo L (j + 1) = (barTo L j || L[j].attr != 0) := by
  unfold barTo
  rw [List.take_add_one, List.getElem?_eq_getElem h, List.any_append]
  simp
def freeB (a : Int) (i : Nat) (bar : Bool) : Bool := a == 2 || (a == 1 && i == 0) || (a == 0 && !bar)
def enTo (L : List Tk) : Nat → List Nat
  | 0 => []
  | j + 1 => match L[j]? with
    | some t => if (!t.st && freeB t.attr j (barTo L j)) = true then enTo L j ++ [t.tag] else enTo L j
    | none => enTo L j
theorem enTo_yes (L : List Tk) (j : Nat) (h : j < L.length) (h1 : L[j].st = false) (h2 : freeB L[j].attr j (barTo L j) = true) : enTo L (j + 1) = enTo L j ++ [L[j].tag] := by
  rw [enTo, List.getElem?_eq_getElem h]
  simp [h1, h2]
theorem enTo_no (L : List Tk) (j : Nat) (h : j < L.length) (h1 : L[j].st = true ∨ freeB L[j].attr j (barTo L j) = false) : enTo L (j + 1) = enTo L j := by
  rw [enTo, List.getElem?_eq_getElem h]
  rcases h1 with h1 | h1 <;> simp [h1]
theorem enTo_le (L : List Tk) (j : Nat) : (enTo L j).length ≤ j := by
  induction j with
  | zero => exact Nat.le_refl _
  | succ j ih =>
    rw [enTo]
    split
    · split
      · rw [List.length_append]; simp; omega
      · omega
    · omega
def waTo (L : List Tk) : Nat → List Nat
  | 0 => []
  | j + 1 => match L[j]? with
    | some t => if t.st = false then waTo L j ++ [t.tag] else waTo L j
    | none => waTo L j
theorem waTo_yes (L : List Tk) (j : Nat) (h : j < L.length) (h1 : L[j].st = false) : waTo L (j + 1) = waTo L j ++ [L[j].tag] := by
  rw [waTo, List.getElem?_eq_getElem h]
  simp [h1]
theorem waTo_no (L : List Tk) (j : Nat) (h : j < L.length) (h1 : L[j].st = true) : waTo L (j + 1) = waTo L j := by
  rw [waTo, List.getElem?_eq_getElem h]
  simp [h1]
theorem waTo_le (L : List Tk) (j : Nat) : (waTo L j).length ≤ j := by
  induction j with
  | zero => exact Nat.le_refl _
  | succ j ih =>
    rw [waTo]
    split
    · split
      · rw [List.length_append]; simp; omega
      · omega
    · omega
theorem u32_info : ∃ i, Try.prog.info? 28 = some i ∧ i.zero = some (.int .u32 0) ∧ i.size = 1 ∧ i.bytes = 4 := by
  have h : (Try.prog.info? 28).map (fun i => (i.zero, i.size, i.bytes)) = some (some (.int .u32 0), 1, 4) := by kernel_rfl
  obtain ⟨i, hi, he⟩ : ∃ i, Try.prog.info? 28 = some i ∧ (i.zero, i.size, i.bytes) = (some (Value.int .u32 0), 1, 4) := Option.map_eq_some_iff.1 h
  simp only [Prod.mk.injEq] at he
  exact ⟨i, hi, he.1, he.2.1, he.2.2⟩
section
variable {w w' : World} {B X m : Nat} {v : Value} {L : List Tk}
theorem grown_own {W W' : World} {v : Value} {B n : Nat} {xs : List Value} {o : World} (hb : Below B o W) (hB : B ≤ W.heap.size) (ho : W.ownsRow B 28 1 v n xs) (hg : W.grownBy W' v.ownBlock) : Below B o W' := hb.grown hg hB fun k hk => (own_tag ho k hk).1
set_option maxRecDepth 1000000 in
set_option maxHeartbeats 8000000 in
theorem enabled_any (h : TkM w B X m v L) (hat : ∀ t ∈ L, t.attr = 0 ∨ t.attr = 1 ∨ t.attr = 2) : Calls Try.prog 7 #[.pointer (some ⟨X, 0, none⟩)] w fun e w' => ∃ v', e = .returned v' ∧ w'.ownsRow w.heap.size 28 1 v' (enTo L L.length).length (us (enTo L L.length)) ∧ Below w.heap.size w w' := by
  obtain ⟨A, c, rfl, hc1, hc2⟩ := h.parts
  have x1 := h.mem.cell 1
  have hfew := h.few
  have ho := h.row
  obtain ⟨iu, hiu, hzu, hsu, hbu⟩ := u32_info
  go_enter Try.func7, Try.ntmps7
  go_wp2
  go_step3
  go_wp2
  go_step3
  go_wp2
  go_loopw [3, 4, 13] (fun s3 s4 s13 wr => ∃ (j : Nat) (A3 : Option Addr) (c3 : Nat), j ≤ L.length ∧ s13 = .int .i64 (j : Nat) ∧ s4 = .bool (barTo L j) ∧ s3 = .slice A3 (enTo L j).length c3 ∧ Hid (wr.ownsRow w.heap.size 28 1 (.slice A3 (enTo L j).length c3) (enTo L j).length (us (enTo L j))) ∧ Below w.heap.size w wr) (fun _ _ s13 _ => L.length - (intOf s13).toNat)
  case atStart => exact ⟨0, none, 0, Nat.zero_le _, rfl, rfl, rfl, Lib.hid (World.ownsRow_nil _ _ _ _), Below.refl _ w⟩
  case round =>
    obtain ⟨j, A3, c3, hj, rfl, rfl, rfl, HO, hB⟩ := hrel
    by_cases hlt : j < L.length
    · have hltx : (j : Int) < (L.length : Int) := by omega
      obtain ⟨g, rfl, hBg, hgl, y0, y1, y2⟩ := row_at ho hlt
      replace y0 := (hB.cell (p := ⟨g, j * 3, none⟩) hgl).trans y0
      replace y1 := (hB.cell (p := ⟨g, j * 3 + 1, none⟩) hgl).trans y1
      replace y2 := (hB.cell (p := ⟨g, j * 3 + 2, none⟩) hgl).trans y2
      have hAt := hat _ (List.getElem_mem hlt)
      have hbs := barTo_succ L j hlt
      have hey := enTo_yes L j hlt
      have hen := enTo_no L j hlt
      have hle := enTo_le L j
      generalize L[j] = t at *
      obtain ⟨tg, at_, st⟩ := t
      simp only at y0 y1 y2 hAt hbs hey hen
      obtain ⟨bar, hbar⟩ : ∃ b, barTo L j = b := ⟨_, rfl⟩
      rw [hbar] at hbs hey hen ⊢
      obtain ⟨o1, ho1⟩ : ∃ o1, o1 = Obj.cells #[.int .u32 (tg : Nat), .int .i64 at_, .bool st] 42 := ⟨_, rfl⟩
      have B1 : Below w.heap.size w (wr.alloc o1) := hB.alloc hB.size o1
      have HO1 := owns_below HO.out ((Below.refl wr.heap.size wr).alloc (Nat.le_refl _) o1)
      have HO2 := owns_below HO1 ((Below.refl (wr.alloc o1).heap.size (wr.alloc o1)).alloc (Nat.le_refl _) (.cells #[.int .u32 (tg : Nat)] 28))
      have B2 : Below w.heap.size w ((wr.alloc o1).alloc (.cells #[.int .u32 (tg : Nat)] 28)) := B1.alloc B1.size _
      have M2 := Mem.new (wr.alloc o1) 28 #[.int .u32 (tg : Nat)]
      have hnews : ∀ k u, [Value.int .u32 (tg : Nat)][k]? = some u → ((wr.alloc o1).alloc (.cells #[.int .u32 (tg : Nat)] 28)).cell? ((⟨(wr.alloc o1).heap.size, 0, none⟩ : Addr).add k) = some u := fun k u hk => by
        rw [add_plain, M2.cell, Nat.zero_add, ← hk]
        simp
      have HN : Hid (∀ (v' : Value) (W' : World), W'.ownsRow w.heap.size 28 1 v' ((enTo L j).length + 1) (us (enTo L j) ++ [.int .u32 (tg : Nat)]) → freeB at_ j bar = true → st = false → ∃ A3 c3, v' = .slice A3 (enTo L (j + 1)).length c3 ∧ Hid (W'.ownsRow w.heap.size 28 1 (.slice A3 (enTo L (j + 1)).length c3) (enTo L (j + 1)).length (us (enTo L (j + 1))))) := Lib.hid fun v' W' h1 h2 h3 => by
        obtain ⟨A', c', rfl, _, _⟩ := own_form h1
        rw [hey h3 h2, us_app, List.length_append]
        exact ⟨A', c', rfl, Lib.hid h1⟩
      have HK : Hid (∀ (W : World), (st = true ∨ freeB at_ j bar = false) → W.ownsRow w.heap.size 28 1 (.slice A3 (enTo L j).length c3) (enTo L j).length (us (enTo L j)) → ∃ A4 c4, Value.slice A3 (enTo L j).length c3 = .slice A4 (enTo L (j + 1)).length c4 ∧ Hid (W.ownsRow w.heap.size 28 1 (.slice A4 (enTo L (j + 1)).length c4) (enTo L (j + 1)).length (us (enTo L (j + 1))))) := Lib.hid fun W h1 h2 => by
        rw [hen h1]
        exact ⟨A3, c3, rfl, Lib.hid h2⟩
      have h63 : (enTo L j).length + 1 ≤ maxLen := by unfold maxLen; omega
      have hby : ((enTo L j).length + 1) * 4 ≤ 140737488355328 := by omega
      have hbase := B2.size
      have hj1 : j + 1 ≤ L.length := hlt
      clear hey hen hle hbar
      have HB : Hid (barTo L (j + 1) = (bar || at_ != 0)) := Lib.hid hbs
      have HA : Hid (at_ = 0 ∨ at_ = 1 ∨ at_ = 2) := Lib.hid hAt
      subst ho1
      clear hbs hAt
      rcases HA.out with rfl | rfl | rfl
      · cases bar <;> cases st
        · have hb1 := HB.out
          go_wp2_with (refine wpList_append_at _ rfl (.tmp 51) (.tmp 54) 29 rfl w.heap.size 28 iu (.int .u32 0) 1 4 Try.underlying29 hiu hzu hsu hbu rfl (by decide) (.slice A3 (enTo L j).length c3) (enTo L j).length (us (enTo L j)) rfl HO2 ⟨(wr.alloc _).heap.size, 0, none⟩ 1 1 [.int .u32 (tg : Nat)] (by first | rfl | simp [Act.eval, Act.put]) rfl hnews (by intro u hu; obtain rfl := List.mem_singleton.1 hu; rfl) h63 hby hbase ?_; intro v7 w7 ho7 hg7 hk7)
          all_goals
            obtain ⟨A4, c4, hv7, ho8⟩ := HN.out v7 w7 ho7 (by simp [freeB]) rfl
            exact ⟨⟨_, A4, c4, hj1, by go_num, by rw [hb1]; first | rfl | simp, hv7, ho8, B2.grown hg7 hbase fun k hk => (own_tag HO2 k hk).1⟩, by simp [intOf]; omega⟩
        · have hb1 := HB.out
          go_wp2_with (refine wpList_append_at _ rfl (.tmp 51) (.tmp 54) 29 rfl w.heap.size 28 iu (.int .u32 0) 1 4 Try.underlying29 hiu hzu hsu hbu rfl (by decide) (.slice A3 (enTo L j).length c3) (enTo L j).length (us (enTo L j)) rfl HO2 ⟨(wr.alloc _).heap.size, 0, none⟩ 1 1 [.int .u32 (tg : Nat)] (by first | rfl | simp [Act.eval, Act.put]) rfl hnews (by intro u hu; obtain rfl := List.mem_singleton.1 hu; rfl) h63 hby hbase ?_; intro v7 w7 ho7 hg7 hk7)
          all_goals
            obtain ⟨A4, c4, hv7, ho8⟩ := HK.out _ (by simp_all [freeB]) HO1
            exact ⟨⟨_, A4, c4, hj1, by go_num, by rw [hb1]; first | rfl | simp, hv7, ho8, B1⟩, by simp [intOf]; omega⟩
        · have hb1 := HB.out
          go_wp2_with (refine wpList_append_at _ rfl (.tmp 51) (.tmp 54) 29 rfl w.heap.size 28 iu (.int .u32 0) 1 4 Try.underlying29 hiu hzu hsu hbu rfl (by decide) (.slice A3 (enTo L j).length c3) (enTo L j).length (us (enTo L j)) rfl HO2 ⟨(wr.alloc _).heap.size, 0, none⟩ 1 1 [.int .u32 (tg : Nat)] (by first | rfl | simp [Act.eval, Act.put]) rfl hnews (by intro u hu; obtain rfl := List.mem_singleton.1 hu; rfl) h63 hby hbase ?_; intro v7 w7 ho7 hg7 hk7)
          all_goals
            obtain ⟨A4, c4, hv7, ho8⟩ := HK.out _ (by simp_all [freeB]) HO1
            exact ⟨⟨_, A4, c4, hj1, by go_num, by rw [hb1]; first | rfl | simp, hv7, ho8, B1⟩, by simp [intOf]; omega⟩
        · have hb1 := HB.out
          go_wp2_with (refine wpList_append_at _ rfl (.tmp 51) (.tmp 54) 29 rfl w.heap.size 28 iu (.int .u32 0) 1 4 Try.underlying29 hiu hzu hsu hbu rfl (by decide) (.slice A3 (enTo L j).length c3) (enTo L j).length (us (enTo L j)) rfl HO2 ⟨(wr.alloc _).heap.size, 0, none⟩ 1 1 [.int .u32 (tg : Nat)] (by first | rfl | simp [Act.eval, Act.put]) rfl hnews (by intro u hu; obtain rfl := List.mem_singleton.1 hu; rfl) h63 hby hbase ?_; intro v7 w7 ho7 hg7 hk7)
          all_goals
            obtain ⟨A4, c4, hv7, ho8⟩ := HK.out _ (by simp_all [freeB]) HO1
            exact ⟨⟨_, A4, c4, hj1, by go_num, by rw [hb1]; first | rfl | simp, hv7, ho8, B1⟩, by simp [intOf]; omega⟩
      · by_cases hj0 : j = 0
        · obtain rfl : j = 0 := hj0
          cases st
          · have hb1 := HB.out
            go_wp2_with (refine wpList_append_at _ rfl (.tmp 51) (.tmp 54) 29 rfl w.heap.size 28 iu (.int .u32 0) 1 4 Try.underlying29 hiu hzu hsu hbu rfl (by decide) (.slice A3 (enTo L 0).length c3) (enTo L 0).length (us (enTo L 0)) rfl HO2 ⟨(wr.alloc _).heap.size, 0, none⟩ 1 1 [.int .u32 (tg : Nat)] (by first | rfl | simp [Act.eval, Act.put]) rfl hnews (by intro u hu; obtain rfl := List.mem_singleton.1 hu; rfl) h63 hby hbase ?_; intro v7 w7 ho7 hg7 hk7)
            all_goals
              obtain ⟨A4, c4, hv7, ho8⟩ := HN.out v7 w7 ho7 (by simp [freeB]) rfl
              exact ⟨⟨_, A4, c4, hj1, by go_num, by rw [hb1]; first | rfl | simp, hv7, ho8, B2.grown hg7 hbase fun k hk => (own_tag HO2 k hk).1⟩, by simp [intOf]; omega⟩
          · have hb1 := HB.out
            go_wp2_with (refine wpList_append_at _ rfl (.tmp 51) (.tmp 54) 29 rfl w.heap.size 28 iu (.int .u32 0) 1 4 Try.underlying29 hiu hzu hsu hbu rfl (by decide) (.slice A3 (enTo L 0).length c3) (enTo L 0).length (us (enTo L 0)) rfl HO2 ⟨(wr.alloc _).heap.size, 0, none⟩ 1 1 [.int .u32 (tg : Nat)] (by first | rfl | simp [Act.eval, Act.put]) rfl hnews (by intro u hu; obtain rfl := List.mem_singleton.1 hu; rfl) h63 hby hbase ?_; intro v7 w7 ho7 hg7 hk7)
            all_goals
              obtain ⟨A4, c4, hv7, ho8⟩ := HK.out _ (by simp_all [freeB]) HO1
              exact ⟨⟨_, A4, c4, hj1, by go_num, by rw [hb1]; first | rfl | simp, hv7, ho8, B1⟩, by simp [intOf]; omega⟩
        · have hj0x : ¬ (j : Int) = 0 := by omega
          have hj0b : ((j : Int) == 0) = false := beq_eq_false_iff_ne.2 hj0x
          have hj0n : (j == 0) = false := beq_eq_false_iff_ne.2 hj0
          cases st
          · have hb1 := HB.out
            go_wp2_with (refine wpList_append_at _ rfl (.tmp 51) (.tmp 54) 29 rfl w.heap.size 28 iu (.int .u32 0) 1 4 Try.underlying29 hiu hzu hsu hbu rfl (by decide) (.slice A3 (enTo L j).length c3) (enTo L j).length (us (enTo L j)) rfl HO2 ⟨(wr.alloc _).heap.size, 0, none⟩ 1 1 [.int .u32 (tg : Nat)] (by first | rfl | simp [Act.eval, Act.put]) rfl hnews (by intro u hu; obtain rfl := List.mem_singleton.1 hu; rfl) h63 hby hbase ?_; intro v7 w7 ho7 hg7 hk7)
            all_goals
              obtain ⟨A4, c4, hv7, ho8⟩ := HK.out _ (by simp_all [freeB]) HO1
              exact ⟨⟨_, A4, c4, hj1, by go_num, by rw [hb1]; first | rfl | simp, hv7, ho8, B1⟩, by simp [intOf]; omega⟩
          · have hb1 := HB.out
            go_wp2_with (refine wpList_append_at _ rfl (.tmp 51) (.tmp 54) 29 rfl w.heap.size 28 iu (.int .u32 0) 1 4 Try.underlying29 hiu hzu hsu hbu rfl (by decide) (.slice A3 (enTo L j).length c3) (enTo L j).length (us (enTo L j)) rfl HO2 ⟨(wr.alloc _).heap.size, 0, none⟩ 1 1 [.int .u32 (tg : Nat)] (by first | rfl | simp [Act.eval, Act.put]) rfl hnews (by intro u hu; obtain rfl := List.mem_singleton.1 hu; rfl) h63 hby hbase ?_; intro v7 w7 ho7 hg7 hk7)
            all_goals
              obtain ⟨A4, c4, hv7, ho8⟩ := HK.out _ (by simp_all [freeB]) HO1
              exact ⟨⟨_, A4, c4, hj1, by go_num, by rw [hb1]; first | rfl | simp, hv7, ho8, B1⟩, by simp [intOf]; omega⟩
      · cases st
        · have hb1 := HB.out
          go_wp2_with (refine wpList_append_at _ rfl (.tmp 51) (.tmp 54) 29 rfl w.heap.size 28 iu (.int .u32 0) 1 4 Try.underlying29 hiu hzu hsu hbu rfl (by decide) (.slice A3 (enTo L j).length c3) (enTo L j).length (us (enTo L j)) rfl HO2 ⟨(wr.alloc _).heap.size, 0, none⟩ 1 1 [.int .u32 (tg : Nat)] (by first | rfl | simp [Act.eval, Act.put]) rfl hnews (by intro u hu; obtain rfl := List.mem_singleton.1 hu; rfl) h63 hby hbase ?_; intro v7 w7 ho7 hg7 hk7)
          all_goals
            obtain ⟨A4, c4, hv7, ho8⟩ := HN.out v7 w7 ho7 (by simp [freeB]) rfl
            exact ⟨⟨_, A4, c4, hj1, by go_num, by rw [hb1]; first | rfl | simp, hv7, ho8, B2.grown hg7 hbase fun k hk => (own_tag HO2 k hk).1⟩, by simp [intOf]; omega⟩
        · have hb1 := HB.out
          go_wp2_with (refine wpList_append_at _ rfl (.tmp 51) (.tmp 54) 29 rfl w.heap.size 28 iu (.int .u32 0) 1 4 Try.underlying29 hiu hzu hsu hbu rfl (by decide) (.slice A3 (enTo L j).length c3) (enTo L j).length (us (enTo L j)) rfl HO2 ⟨(wr.alloc _).heap.size, 0, none⟩ 1 1 [.int .u32 (tg : Nat)] (by first | rfl | simp [Act.eval, Act.put]) rfl hnews (by intro u hu; obtain rfl := List.mem_singleton.1 hu; rfl) h63 hby hbase ?_; intro v7 w7 ho7 hg7 hk7)
          all_goals
            obtain ⟨A4, c4, hv7, ho8⟩ := HK.out _ (by simp_all [freeB]) HO1
            exact ⟨⟨_, A4, c4, hj1, by go_num, by rw [hb1]; first | rfl | simp, hv7, ho8, B1⟩, by simp [intOf]; omega⟩
    · obtain rfl : j = L.length := by omega
      have ho := HO.out
      go_wp2
      rw [Exit.noGoto_ret]
      go_ret
      exact ⟨_, rfl, HO.out, hB⟩
end
end Tk
end Go.Proofs.Ytgofkofkhkpjbaa
