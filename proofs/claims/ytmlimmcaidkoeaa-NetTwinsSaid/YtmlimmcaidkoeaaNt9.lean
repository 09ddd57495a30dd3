/- Package net: one net by itself; gemellaw9's known. -/
import Derived.Test.YtmlimmcaidkoeaaNt8
import Derived.Lib.SlBytesConst
namespace Go.Proofs.Ytmlimmcaidkoeaa
open Go.ChangeShapes Go.WideShapes Go.ChangeAt Go.RowKit Go.Lib
set_option linter.unusedVariables false
/-- A net that was made since the world o. -/
def NetGo (o w : World) (X h : Nat) (L : List Pk) (s : Nat) : Prop := ∃ v, NetInv w o.heap.size X v h L s ∧ Below o.heap.size o w
theorem NetGo.bl {o w : World} {X h s : Nat} {L : List Pk} (hg : NetGo o w X h L s) : Below o.heap.size o w := hg.choose_spec.2
theorem NetGo.below {o w w' : World} {X h s : Nat} {L : List Pk} (hg : NetGo o w X h L s) (hb : Below w.heap.size w w') : NetGo o w' X h L s := by
  obtain ⟨v, h1, h2⟩ := hg
  exact ⟨v, h1.below hb, h2.trans (hb.mono h2.size)⟩
theorem NetStep.go {o w w' : World} {X h h0 s s0 : Nat} {v : Value} {L L0 : List Pk} (hs : NetStep w w' o.heap.size X v h L s) (hn : NetInv w o.heap.size X v h0 L0 s0) (hb : Below o.heap.size o w) : NetGo o w' X h L s := by
  obtain ⟨v', h1, h2, _⟩ := hs
  exact ⟨v', h1, h2.below hb hb.size fun k _ hk => (hn.ns k hk).2.1⟩
/-- What an operation on a net, known at w and called at W, leaves as it was: what is newer than w, and all that is neither a net nor a row of packets. -/
def Frame (w W w' : World) : Prop := ∀ k, k < W.heap.size → (w.heap.size ≤ k ∨ ∃ t, Tag W k t ∧ t ≠ 58 ∧ t ≠ 41) → w'.heap[k]? = W.heap[k]?
theorem NetInv.frame {w W w' : World} {B X h s : Nat} {v : Value} {L : List Pk} (hn : NetInv w B X v h L s) (hW : Below w.heap.size w W) (he : Eff (NS X v) W w') : Frame w W w' := by
  intro k hk hor
  refine he.block k hk fun hs => ?_
  rcases hor with h1 | ⟨t, ht, h1, h2⟩
  · have := (hn.ns k hs).1
    omega
  · rcases ((hn.below hW).ns k hs).2.2 with h3 | h3
    · exact ht.ne h3 h1 rfl
    · exact ht.ne h3 h2 rfl
theorem NetStep.frame {w W w' : World} {B X h s h2 s2 : Nat} {v : Value} {L L2 : List Pk} (hs : NetStep W w' B X v h2 L2 s2) (hn : NetInv w B X v h L s) (hW : Below w.heap.size w W) : Frame w W w' := by
  obtain ⟨v', _, h2, _⟩ := hs
  exact hn.frame hW h2
theorem Below.frame {w W w' : World} (h : Below W.heap.size W w') : Frame w W w' := fun k hk _ => h.block k hk
theorem new_go (o : World) (n : Nat) (h1 : 1 ≤ n) (h2 : n ≤ 64) (w : World) (hb : Below o.heap.size o w) : Calls Try.prog 11 #[.int .i64 (n : Nat)] w fun e w' => e = .returned (.tuple #[.pointer (some ⟨w.heap.size, 0, none⟩), .int .i64 0]) ∧ NetGo o w' w.heap.size n [] 0 := by
  refine (netnew_any n h1 h2 w).mono ?_
  rintro e w' ⟨rfl, hn, hb2⟩
  exact ⟨rfl, .slice none 0 0, ⟨hb.size, hn.mem, World.ownsRow_nil _ _ _ _, by simp, by simp⟩, hb.trans (hb2.mono hb.size)⟩
section
variable {o : World} {X h s : Nat} {L : List Pk} {w W : World}
theorem send_go (hg : NetGo o w X h L s) (hW : Below w.heap.size w W) {fr to : Int} (hf1 : 0 ≤ fr) (hf2 : fr < h) (ht1 : 0 ≤ to) (ht2 : to < h) {d : Value} {l : List UInt8} (hl : l.length ≤ 8192) (hL : L.length < 4096) (hs : s < 4611686018427387904) (hd : Sl W W.heap.size d l.length (bs l)) :
    Calls Try.prog 20 #[.pointer (some ⟨X, 0, none⟩), .int .i64 fr, .int .i64 to, d] W fun e w' => ∃ d', e = .returned (.int .i64 0) ∧ NetGo o w' X h (L ++ [⟨fr, to, d', l⟩]) (s + 1) ∧ Frame w W w' ∧ (∀ k, d'.ownBlock = some k → W.heap.size ≤ k) := by
  obtain ⟨v, hn, hb⟩ := hg
  have hbW := hb.trans (hW.mono hb.size)
  refine (send_ok o.heap.size X h s v L fr to hf1 hf2 ht1 ht2 d l hl hL hs W hbW.size (hn.below hW) hd).mono ?_
  rintro e w' ⟨v', d', rfl, h1, h2, h3, h4⟩
  exact ⟨d', rfl, NetStep.go ⟨v', h1, h2, h3⟩ (hn.below hW) hbW, hn.frame hW h2, h4⟩
theorem sendno_go (hg : NetGo o w X h L s) {fr to : Int} {d : Value} {l : List UInt8} (hne : sendC h L.length fr to l.length ≠ 0) (hd : Sl w w.heap.size d l.length (bs l)) :
    Calls Try.prog 20 #[.pointer (some ⟨X, 0, none⟩), .int .i64 fr, .int .i64 to, d] w fun e w' => e = .returned (.int .i64 (sendC h L.length fr to l.length)) ∧ w = w' := by
  obtain ⟨v, hn, hb⟩ := hg
  exact send_no o.heap.size X h s v L fr to d l hne w hn hd
theorem copy_go (hg : NetGo o w X h L s) (hW : Below w.heap.size w W) {i : Nat} (hi : i < L.length) (hL : L.length < 4096) :
    Calls Try.prog 21 #[.pointer (some ⟨X, 0, none⟩), .int .i64 (i : Nat)] W fun e w' => ∃ d', e = .returned (.bool true) ∧ NetGo o w' X h (L ++ [⟨L[i].fr, L[i].to, d', L[i].l⟩]) s ∧ Frame w W w' := by
  obtain ⟨v, hn, hb⟩ := hg
  have hbW := hb.trans (hW.mono hb.size)
  refine (copy_ok o.heap.size X h s v L i hi hL W hbW.size (hn.below hW)).mono ?_
  rintro e w' ⟨d', rfl, h1⟩
  exact ⟨d', rfl, h1.go (hn.below hW) hbW, h1.frame hn hW⟩
theorem copyno_go (hg : NetGo o w X h L s) {i : Int} (hi : ¬ (0 ≤ i ∧ i < L.length ∧ L.length < 4096)) :
    Calls Try.prog 21 #[.pointer (some ⟨X, 0, none⟩), .int .i64 i] w fun e w' => e = .returned (.bool false) ∧ w = w' := by
  obtain ⟨v, hn, hb⟩ := hg
  exact copy_no o.heap.size X h s v L i hi w hn
theorem step_data {w w' : World} {B X h s h2 s2 : Nat} {v : Value} {L L2 : List Pk} (hn : NetInv w B X v h L s) (hs : NetStep w w' B X v h2 L2 s2) {p : Pk} (hp : p ∈ L) : DOk w' B p := by
  obtain ⟨v', _, h2, _⟩ := hs
  exact (hn.data p hp).eff h2 fun k _ hk => hn.nodata k hk
theorem deliver_go (hg : NetGo o w X h L s) (hW : Below w.heap.size w W) {i : Nat} (hi : i < L.length) :
    Calls Try.prog 24 #[.pointer (some ⟨X, 0, none⟩), .int .i64 (i : Nat)] W fun e w' => e = .returned (.tuple #[L[i].val, .bool true]) ∧ NetGo o w' X h (L.eraseIdx i) s ∧ DOk w' o.heap.size L[i] ∧ Frame w W w' := by
  obtain ⟨v, hn, hb⟩ := hg
  have hbW := hb.trans (hW.mono hb.size)
  refine (deliver_ok o.heap.size X h s v L i hi W (hn.below hW) hbW.size).mono ?_
  rintro e w' ⟨v', rfl, h1, h2, h3⟩
  have hs : NetStep W w' o.heap.size X v h (L.eraseIdx i) s := ⟨v', h1, h2, fun k hk => .inl (h3 ▸ hk)⟩
  exact ⟨rfl, hs.go (hn.below hW) hbW, step_data (hn.below hW) hs (List.getElem_mem hi), hn.frame hW h2⟩
theorem deliverno_go (hg : NetGo o w X h L s) {i : Int} (hi : ¬ (0 ≤ i ∧ i < L.length)) :
    Calls Try.prog 24 #[.pointer (some ⟨X, 0, none⟩), .int .i64 i] w fun e w' => e = .returned (.tuple #[pk0, .bool false]) ∧ Below w.heap.size w w' := by
  obtain ⟨v, hn, hb⟩ := hg
  exact deliver_no o.heap.size X h s v L i hi w hn
theorem drop_go (hg : NetGo o w X h L s) (hW : Below w.heap.size w W) {i : Nat} (hi : i < L.length) :
    Calls Try.prog 23 #[.pointer (some ⟨X, 0, none⟩), .int .i64 (i : Nat)] W fun e w' => e = .returned (.bool true) ∧ NetGo o w' X h (L.eraseIdx i) s ∧ Frame w W w' := by
  obtain ⟨v, hn, hb⟩ := hg
  have hbW := hb.trans (hW.mono hb.size)
  refine (drop_ok o.heap.size X h s v L i hi W (hn.below hW) hbW.size).mono ?_
  rintro e w' ⟨rfl, h1⟩
  exact ⟨rfl, h1.go (hn.below hW) hbW, h1.frame hn hW⟩
theorem dropno_go (hg : NetGo o w X h L s) {i : Int} (hi : ¬ (0 ≤ i ∧ i < L.length)) :
    Calls Try.prog 23 #[.pointer (some ⟨X, 0, none⟩), .int .i64 i] w fun e w' => e = .returned (.bool false) ∧ Below w.heap.size w w' := by
  obtain ⟨v, hn, hb⟩ := hg
  exact drop_no o.heap.size X h s v L i hi w hn
theorem take_go (hg : NetGo o w X h L s) (hW : Below w.heap.size w W) {to : Int} {k : Nat} (hk : k < L.length) (hk1 : L[k].to = to) (hk2 : ∀ j (hj : j < L.length), j < k → L[j].to ≠ to) :
    Calls Try.prog 22 #[.pointer (some ⟨X, 0, none⟩), .int .i64 to] W fun e w' => e = .returned (.tuple #[L[k].val, .bool true]) ∧ NetGo o w' X h (L.eraseIdx k) s ∧ DOk w' o.heap.size L[k] ∧ Frame w W w' := by
  obtain ⟨v, hn, hb⟩ := hg
  have hbW := hb.trans (hW.mono hb.size)
  refine (take_ok o.heap.size X h s v L to k hk hk1 hk2 W hbW.size (hn.below hW)).mono ?_
  rintro e w' ⟨rfl, hs⟩
  exact ⟨rfl, hs.go (hn.below hW) hbW, step_data (hn.below hW) hs (List.getElem_mem hk), hs.frame hn hW⟩
theorem takeno_go (hg : NetGo o w X h L s) {to : Int} (hk2 : ∀ j (hj : j < L.length), L[j].to ≠ to) :
    Calls Try.prog 22 #[.pointer (some ⟨X, 0, none⟩), .int .i64 to] w fun e w' => e = .returned (.tuple #[pk0, .bool false]) ∧ Below w.heap.size w w' := by
  obtain ⟨v, hn, hb⟩ := hg
  exact take_no o.heap.size X h s v L to hk2 w hn
theorem waiting_go (hg : NetGo o w X h L s) : Calls Try.prog 14 #[.pointer (some ⟨X, 0, none⟩)] w fun e w' => e = .returned (.int .i64 (L.length : Nat)) ∧ w = w' := by
  obtain ⟨v, hn, hb⟩ := hg
  exact waiting_any o.heap.size X h s v L w hn
theorem sent_go (hg : NetGo o w X h L s) : Calls Try.prog 15 #[.pointer (some ⟨X, 0, none⟩)] w fun e w' => e = .returned (.int .i64 (s : Nat)) ∧ w = w' := by
  obtain ⟨v, hn, hb⟩ := hg
  exact sent_any o.heap.size X h s v L w hn
theorem NetGo.few (hg : NetGo o w X h L s) : L.length ≤ 4096 := hg.choose_spec.1.few
end
set_option maxRecDepth 100000 in
set_option maxHeartbeats 4000000 in
theorem known_any (w : World) : Calls Try.prog 9 #[] w fun e w' => e = .returned (.bool true) ∧ Below w.heap.size w w' := by
  have kc := fun (W : World) (C : Array Value) (n c : Nat) => Lib.run_convert_bytes_const (P := Try.prog) W 33 5 C n c Try.underlying33 Try.underlying5
  have hnew := new_go w 2 (by omega) (by omega) w (Below.refl _ _)
  rw [show ((2 : Nat) : Int) = 2 from rfl] at hnew
  have hsend : ∀ W X, NetGo w W X 2 [] 0 → Calls Try.prog 20 #[.pointer (some ⟨X, 0, none⟩), .int .i64 0, .int .i64 1, .slice (some ⟨W.heap.size, 0, none⟩) 1 1] (W.alloc (.cells #[.int .u8 97] 5 (1, 2))) fun e w' => ∃ d', e = .returned (.int .i64 0) ∧ NetGo w w' X 2 [⟨0, 1, d', [97]⟩] 1 :=
    fun W X h => (send_go h ((Below.refl _ _).alloc (Nat.le_refl _) _) (by omega) (by omega) (by omega) (by omega) (l := [97]) (by simp) (by simp) (by omega) (Sl.freshM W _ _ _ rfl (by simp) (by unfold maxLen; omega))).mono fun e w' ⟨d, h1, h2, _⟩ => ⟨d, h1, h2⟩
  have hcopy : ∀ W X d, NetGo w W X 2 [⟨0, 1, d, [97]⟩] 1 → Calls Try.prog 21 #[.pointer (some ⟨X, 0, none⟩), .int .i64 0] W fun e w' => ∃ d', e = .returned (.bool true) ∧ NetGo w w' X 2 [⟨0, 1, d, [97]⟩, ⟨0, 1, d', [97]⟩] 1 :=
    fun W X d h => (copy_go (i := 0) h (Below.refl _ _) (by simp) (by simp)).mono fun e w' ⟨d, h1, h2, _⟩ => ⟨d, h1, h2⟩
  have hdel : ∀ W X d d2, NetGo w W X 2 [⟨0, 1, d, [97]⟩, ⟨0, 1, d2, [97]⟩] 1 → Calls Try.prog 24 #[.pointer (some ⟨X, 0, none⟩), .int .i64 0] W fun e w' => ∃ A c, e = .returned (.tuple #[.agg #[.int .i64 0, .int .i64 1, .slice A 1 c], .bool true]) ∧ NetGo w w' X 2 [⟨0, 1, d2, [97]⟩] 1 := by
    intro W X d d2 h
    refine (deliver_go (i := 0) h (Below.refl _ _) (by simp)).mono ?_
    rintro e w' ⟨rfl, h1, h2, _⟩
    obtain ⟨A, c, hv, _⟩ := own_form h2.1
    change d = .slice A 1 c at hv
    subst hv
    exact ⟨A, c, rfl, h1⟩
  have htake : ∀ W X d2 cs, NetGo w W X 2 [⟨0, 1, d2, [97]⟩] 1 → Calls Try.prog 22 #[.pointer (some ⟨X, 0, none⟩), .int .i64 1] (W.alloc (.cells cs 41)) fun e w' => ∃ A c, e = .returned (.tuple #[.agg #[.int .i64 0, .int .i64 1, .slice A 1 c], .bool true]) ∧ NetGo w w' X 2 [] 1 ∧ Sl w' w'.heap.size (.slice A 1 c) 1 (bs [97]) ∧ Mem w' W.heap.size 41 cs := by
    intro W X d2 cs h
    refine (take_go (k := 0) h ((Below.refl _ _).alloc (Nat.le_refl _) _) (by simp) rfl (fun j _ hj => by omega)).mono ?_
    rintro e w' ⟨rfl, h1, h2, h3⟩
    obtain ⟨A, c, hv, _⟩ := own_form h2.1
    change d2 = .slice A 1 c at hv
    subst hv
    exact ⟨A, c, rfl, h1, h2.sl, (h3 W.heap.size (by simp) (.inl (Nat.le_refl _))).trans (Mem.new W _ _)⟩
  go_enter Try.func9, Try.ntmps9
  go_wp2_with (first
    | (go_at_call 11; with_reducible refine hnew.mono ?_; rintro e w1 ⟨rfl, hg1⟩)
    | (go_at_call 20; with_reducible refine (hsend _ _ hg1).mono ?_; rintro e w2 ⟨d2, rfl, hg2⟩)
    | (go_at_call 21; with_reducible refine (hcopy _ _ _ hg2).mono ?_; rintro e w3 ⟨d3, rfl, hg3⟩)
    | (go_at_call 24; with_reducible refine (hdel _ _ _ _ hg3).mono ?_; rintro e w4 ⟨A4, c4, rfl, hg4⟩)
    | (go_at_call 22; with_reducible refine (htake _ _ _ _ hg4).mono ?_; rintro e w5 ⟨A5, c5, rfl, hg6, hs6, hm6⟩; have hx6 := fun o => (hm6.alloc o).cell 1; have hstr := fun o => bytes_str (P := Try.prog) (w5.alloc o) 33 9 5 Try.underlying33 Try.underlying5 Try.underlying9 _ _ [97] 1 (hs6.alloc (Nat.le_refl _) o); have hwt := fun o => waiting_go (hg6.below ((Below.refl _ _).alloc (Nat.le_refl _) o)); have hse := fun o => sent_go (hg6.below ((Below.refl _ _).alloc (Nat.le_refl _) o)); have hbl := hg6.bl)
    | (go_at_call 14; with_reducible refine (hwt _).mono ?_; rintro e w' ⟨rfl, rfl⟩)
    | (go_at_call 15; with_reducible refine (hse _).mono ?_; rintro e w' ⟨rfl, rfl⟩))
  go_ret
  exact ⟨rfl, hbl.alloc hbl.size _⟩
end Go.Proofs.Ytmlimmcaidkoeaa
