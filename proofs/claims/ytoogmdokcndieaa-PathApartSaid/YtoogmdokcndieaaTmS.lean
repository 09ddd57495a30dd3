/- (cut from XTm9: New and Set alone) Package timer: timers as a set of ids, each with when it is due: what each operation makes of it. -/
import Derived.Test.YtoogmdokcndieaaTm6
namespace Go.Proofs.Ytoogmdokcndieaa
open Go.ChangeShapes Go.WideShapes Go.ChangeAt Go.RowKit Go.Lib
set_option linter.unusedVariables false
def rm (S : List One) (id : Int) : List One := S.filter fun x => decide (x.1 ≠ id)
def gone (S : List One) (n : Int) : List One := S.filter fun x => decide (x.2 ≠ n)
def ids (S : List One) : List Int := S.map (·.1)
theorem rm_no {S : List One} {id : Int} (h : id ∉ ids S) : rm S id = S := by
  unfold rm
  rw [List.filter_eq_self]
  intro x hx
  refine decide_eq_true fun e => h ?_
  exact List.mem_map.2 ⟨x, hx, e⟩
theorem mem_rm {S : List One} {id : Int} {x : One} : x ∈ rm S id ↔ x ∈ S ∧ x.1 ≠ id := by simp [rm, List.mem_filter]
theorem mem_gone {S : List One} {n : Int} {x : One} : x ∈ gone S n ↔ x ∈ S ∧ x.2 ≠ n := by simp [gone, List.mem_filter]
theorem ix_cons (x : One) (H : List One) (id : Int) : ix (x :: H) id = if x.1 = id then 0 else ix H id + 1 := by
  unfold ix
  rw [List.findIdx_cons]
  by_cases h : x.1 = id
  · simp [h]
  · simp [h]
theorem ix_mem (H : List One) (id : Int) : ix H id < H.length ↔ id ∈ ids H := by
  induction H with
  | nil => simp [ids]
  | cons x H ih =>
    rw [ix_cons]
    have e : ids (x :: H) = x.1 :: ids H := rfl
    rw [e, List.mem_cons]
    by_cases h : x.1 = id
    · rw [if_pos h]
      simp [h]
    · rw [if_neg h, List.length_cons]
      constructor
      · intro h2
        exact .inr (ih.1 (by omega))
      · rintro (h2 | h2)
        · exact absurd h2.symm h
        · have := ih.2 h2
          omega
theorem erase_ix {H : List One} {id : Int} (hnd : (ids H).Nodup) (h : ix H id < H.length) : H.eraseIdx (ix H id) = rm H id := by
  induction H with
  | nil => simp at h
  | cons x H ih =>
    have e : ids (x :: H) = x.1 :: ids H := rfl
    rw [e, List.nodup_cons] at hnd
    by_cases hx : x.1 = id
    · rw [ix_cons, if_pos hx, List.eraseIdx_cons_zero]
      have : rm (x :: H) id = rm H id := by
        unfold rm
        rw [List.filter_cons_of_neg (by simp [hx])]
      rw [this, rm_no (by rw [← hx]; exact hnd.1)]
    · rw [ix_cons, if_neg hx] at h ⊢
      rw [List.eraseIdx_cons_succ, ih hnd.2 (by simpa using h)]
      unfold rm
      rw [List.filter_cons_of_pos (by simp [hx])]
/-- What is always so of timers. -/
structure Fine (S : List One) (now : Int) : Prop where
  nodup : (ids S).Nodup
  due : ∀ x ∈ S, now < x.2 ∧ x.2 ≤ now + 1073741824
  few : S.length ≤ 256
  low : 0 ≤ now
  high : now ≤ 1000000
theorem Fine.perm {S T : List One} {now : Int} (h : Fine S now) (p : T.Perm S) : Fine T now :=
  ⟨(List.Perm.nodup_iff (p.map _)).2 h.nodup, fun x hx => h.due x (p.mem_iff.1 hx), by rw [p.length_eq]; exact h.few, h.low, h.high⟩
theorem ids_rm {S : List One} {id i : Int} (h : i ∈ ids (rm S id)) : i ∈ ids S ∧ i ≠ id := by
  obtain ⟨x, hx, rfl⟩ := List.mem_map.1 h
  rw [mem_rm] at hx
  exact ⟨List.mem_map.2 ⟨x, hx.1, rfl⟩, hx.2⟩
theorem nodup_filter {S : List One} (p : One → Bool) (h : (ids S).Nodup) : (ids (S.filter p)).Nodup := h.sublist (List.filter_sublist.map _)
theorem Fine.rm {S : List One} {now : Int} (h : Fine S now) (id : Int) : Fine (rm S id) now :=
  ⟨nodup_filter _ h.nodup, fun x hx => h.due x (mem_rm.1 hx).1, Nat.le_trans (List.length_filter_le _ _) h.few, h.low, h.high⟩
theorem Fine.put {S : List One} {now : Int} (h : Fine S now) (id after : Int) (h1 : 1 ≤ after) (h2 : after ≤ 1073741824) (hl : (Go.Proofs.Ytoogmdokcndieaa.rm S id).length < 256) : Fine ((id, now + after) :: Go.Proofs.Ytoogmdokcndieaa.rm S id) now := by
  refine ⟨?_, ?_, by simp only [List.length_cons]; omega, h.low, h.high⟩
  · have e : ids ((id, now + after) :: Go.Proofs.Ytoogmdokcndieaa.rm S id) = id :: ids (Go.Proofs.Ytoogmdokcndieaa.rm S id) := rfl
    rw [e, List.nodup_cons]
    exact ⟨fun hm => (ids_rm hm).2 rfl, (h.rm id).nodup⟩
  · intro x hx
    rcases List.mem_cons.1 hx with rfl | hx
    · simp only; omega
    · exact (h.rm id).due x hx
/-- But for timers' own blocks all that was there is as it was. -/
def Fr (w w' : World) : Prop := ∀ k, k < w.heap.size → (∃ t, Tag w k t ∧ t ≠ 68 ∧ t ≠ 72) → w'.heap[k]? = w.heap[k]?
theorem Fr.of {w w' : World} (h : Below w.heap.size w w') : Fr w w' := fun k hk _ => h.block k hk
theorem TmInv.fr {w w' : World} {B X : Nat} {v : Value} {H : List One} {now : Int} (hn : TmInv w B X v H now) (he : Eff (TS X v) w w') : Fr w w' := by
  rintro k hk ⟨t, ht, h1, h2⟩
  refine he.block k hk fun hs => ?_
  rcases (hn.ns k hs).2.2 with h | h
  · exact ht.ne h h1 rfl
  · exact ht.ne h h2 rfl
/-- Timers made since the world o, in block X: those of S are set. -/
def TmS (o w : World) (X : Nat) (S : List One) (now : Int) : Prop := ∃ v H, TmInv w o.heap.size X v H now ∧ Below o.heap.size o w ∧ Heap H ∧ H.Perm S ∧ Fine S now
section
variable {o w w' : World} {X : Nat} {S : List One} {now : Int}
theorem TmS.bl (h : TmS o w X S now) : Below o.heap.size o w := by
  obtain ⟨v, H, _, h2, _⟩ := h
  exact h2
theorem TmS.fine (h : TmS o w X S now) : Fine S now := by
  obtain ⟨v, H, _, _, _, _, h2⟩ := h
  exact h2
theorem TmS.below (h : TmS o w X S now) (hb : Below w.heap.size w w') : TmS o w' X S now := by
  obtain ⟨v, H, h1, h2, h3⟩ := h
  exact ⟨v, H, h1.below hb, h2.trans (hb.mono h2.size), h3⟩
theorem TmS.swap {T : List One} (h : TmS o w X S now) (p : S.Perm T) : TmS o w X T now := by
  obtain ⟨v, H, h1, h2, h3, h4, h5⟩ := h
  exact ⟨v, H, h1, h2, h3, h4.trans p, h5.perm p.symm⟩
theorem TmStep.tms {H' T : List One} {v : Value} {H : List One} {n' : Int} (hs : TmStep w w' o.heap.size X v H' n') (hn : TmInv w o.heap.size X v H now) (hb : Below o.heap.size o w) (hh : Heap H') (hp : H'.Perm T) (hf : Fine T n') : TmS o w' X T n' ∧ Fr w w' := by
  obtain ⟨v', h1, h2, h3⟩ := hs
  exact ⟨⟨v', H', h1, h2.below hb hb.size fun k _ hk => (hn.ns k hk).2.1, hh, hp, hf⟩, hn.fr h2⟩
theorem new_s (hb : Below o.heap.size o w) : Calls Try.prog 12 #[] w fun e w' => e = .returned (.pointer (some ⟨w.heap.size, 0, none⟩)) ∧ TmS o w' w.heap.size [] 0 ∧ Below w.heap.size w w' := by
  refine (new_any w).mono ?_
  rintro e w' ⟨rfl, hn, hb2⟩
  exact ⟨rfl, ⟨_, [], ⟨hb.size, hn.mem, World.ownsRow_nil _ _ _ _⟩, hb.trans (hb2.mono hb.size), by intro j _ h; simp at h, .refl _, ⟨by simp [ids], by simp, by simp, by omega, by omega⟩⟩, hb2⟩
/-- What Set answers. -/
def setC (S : List One) (id after : Int) : Int := if after < 1 ∨ 1073741824 < after then 1 else if id ∉ ids S ∧ 256 ≤ S.length then 7 else 0
def setS (S : List One) (id after now : Int) : List One := if setC S id after = 0 then (id, now + after) :: rm S id else S
theorem rm_lt {S : List One} {id : Int} (h : id ∈ ids S) : (rm S id).length < S.length := by
  induction S with
  | nil => simp [ids] at h
  | cons x S ih =>
    have e : ids (x :: S) = x.1 :: ids S := rfl
    rw [e, List.mem_cons] at h
    by_cases hx : x.1 = id
    · have : rm (x :: S) id = rm S id := by
        unfold rm
        rw [List.filter_cons_of_neg (by simp [hx])]
      rw [this]
      have := List.length_filter_le (fun x : One => decide (x.1 ≠ id)) S
      simp only [List.length_cons]
      show (rm S id).length < _
      unfold rm
      omega
    · have : rm (x :: S) id = x :: rm S id := by
        unfold rm
        rw [List.filter_cons_of_pos (by simp [hx])]
      rw [this]
      have := ih (h.resolve_left (Ne.symm hx))
      simp only [List.length_cons]
      omega
theorem set_s (h : TmS o w X S now) (id after : Int) : Calls Try.prog 13 #[.pointer (some ⟨X, 0, none⟩), .int .i64 id, .int .i64 after] w fun e w' => e = .returned (.int .i64 (setC S id after)) ∧ TmS o w' X (setS S id after now) now ∧ Fr w w' := by
  obtain ⟨v, H, hn, hb, hh, hp, hf⟩ := h
  have hfH := hf.perm hp
  have hfew := hfH.few
  have hlow := hfH.low
  have hhigh := hfH.high
  have hlen := hp.length_eq
  have hmem : ∀ i, i ∈ ids H ↔ i ∈ ids S := fun i => (hp.map _).mem_iff
  by_cases h1 : after < 1 ∨ 1073741824 < after
  · have e1 : setC S id after = 1 := by unfold setC; rw [if_pos h1]
    have e2 : setS S id after now = S := by unfold setS; rw [e1]; rfl
    rw [e1, e2]
    refine (set_bad id after h1 _ w).mono ?_
    rintro e w' ⟨rfl, rfl⟩
    exact ⟨rfl, ⟨v, H, hn, hb, hh, hp, hf⟩, Fr.of (Below.refl _ _)⟩
  · by_cases hi : ix H id < H.length
    · have hin : id ∈ ids S := (hmem id).1 ((ix_mem H id).1 hi)
      have e1 : setC S id after = 0 := by unfold setC; rw [if_neg h1, if_neg (fun h => h.1 hin)]
      have e2 : setS S id after now = (id, now + after) :: rm S id := by unfold setS; rw [e1]; rfl
      rw [e1, e2]
      refine (set_old o.heap.size X v H now id after w (by omega) hb.size hn hh (by omega) (by omega) (by omega) (by omega) hi).mono ?_
      rintro e w' ⟨rfl, H', hp', hh', hs⟩
      rw [erase_ix hfH.nodup hi] at hp'
      have := hs.tms (T := (id, now + after) :: rm S id) hn hb hh' (hp'.trans ((hp.filter _).cons _)) (hf.put id after (by omega) (by omega) (by have := rm_lt hin; have := hf.few; omega))
      exact ⟨rfl, this.1, this.2⟩
    · have hin : id ∉ ids S := fun h => hi ((ix_mem H id).2 ((hmem id).2 h))
      by_cases hl : 256 ≤ S.length
      · have e1 : setC S id after = 7 := by unfold setC; rw [if_neg h1, if_pos ⟨hin, hl⟩]
        have e2 : setS S id after now = S := by unfold setS; rw [e1]; rfl
        rw [e1, e2]
        refine (set_full o.heap.size X v H now id after w (by omega) hn (by omega) (by omega) hi (by omega)).mono ?_
        rintro e w' ⟨rfl, hb2⟩
        exact ⟨rfl, ⟨v, H, hn.below hb2, hb.trans (hb2.mono hb.size), hh, hp, hf⟩, Fr.of hb2⟩
      · have e1 : setC S id after = 0 := by unfold setC; rw [if_neg h1, if_neg (fun h => hl h.2)]
        have e2 : setS S id after now = (id, now + after) :: rm S id := by unfold setS; rw [e1]; rfl
        rw [e1, e2]
        refine (set_new o.heap.size X v H now id after w (by omega) hb.size hn hh (by omega) (by omega) (by omega) (by omega) hi (by omega)).mono ?_
        rintro e w' ⟨rfl, H', hp', hh', hs⟩
        rw [rm_no hin]
        have := hs.tms (T := (id, now + after) :: S) hn hb hh' (hp'.trans (hp.cons _)) (by have := hf.put id after (by omega) (by omega) (by rw [rm_no hin]; omega); rwa [rm_no hin] at this)
        exact ⟨rfl, this.1, this.2⟩
theorem nodup_one {T : List One} (h : (ids T).Nodup) {x y : One} (hx : x ∈ T) (hy : y ∈ T) (e : x.1 = y.1) : x = y := by
  induction T with
  | nil => cases hx
  | cons z T ih =>
    have e1 : ids (z :: T) = z.1 :: ids T := rfl
    rw [e1, List.nodup_cons] at h
    rcases List.mem_cons.1 hx with rfl | hx2 <;> rcases List.mem_cons.1 hy with rfl | hy2
    · rfl
    · exact absurd (List.mem_map.2 ⟨y, hy2, e.symm⟩) h.1
    · exact absurd (List.mem_map.2 ⟨x, hx2, e⟩) h.1
    · exact ih h.2 hx2 hy2
end
end Go.Proofs.Ytoogmdokcndieaa
