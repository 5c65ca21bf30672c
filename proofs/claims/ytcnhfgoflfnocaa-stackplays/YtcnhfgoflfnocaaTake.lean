import Derived.Test.YtcnhfgoflfnocaaPair
/-! The law's take. -/
namespace Go.Proofs.Ytcnhfgoflfnocaa
open Go.RowKit
open Go.Proofs
set_option linter.unusedVariables false
set_option linter.unusedSimpArgs false
theorem info22 : (Try.prog.info? 22).map (fun i => (i.zero, i.size, i.bytes)) = some (some (.slice none 0 0), 1, 24) := by kernel_rfl
theorem info44 : (Try.prog.info? 44).map (fun i => (i.zero, i.size, i.bytes)) = some (some (.slice none 0 0), 1, 24) := by kernel_rfl
theorem Grew.kt {S : TypeId → Prop} {B : Nat} {W W' : World} {v v' : Value} {e : TypeId} {s n : Nat} {xs : List Value} (h : Grew W W' v v') (ho : W.ownsRow B e s v n xs) (hS : S e) (hB : B ≤ W.heap.size) : KT S B W W' :=
  ⟨h.below (fun g e => (ho.lt g e).1) hB, fun k c t x he hn => (h.block k (lt_of he) (fun c' => own_ne ho he (by rintro rfl; exact hn hS) k c'.symm rfl)).trans he⟩
theorem own_at {W : World} {B g cap n s : Nat} {e : TypeId} {xs : List Value} (h : W.ownsRow B e s (.slice (some ⟨g, 0, none⟩) n cap) n xs) : ∃ cl : List Value, W.heap[g]? = some (.cells cl.toArray e (0, 0)) := by
  rcases h.2 with ⟨e, _⟩ | ⟨g', cap', cur, e, _, h3, _⟩
  · cases e
  · simp only [Value.slice.injEq, Option.some.injEq, Addr.mk.injEq, true_and, and_true] at e
    obtain ⟨rfl, rfl⟩ := e
    exact ⟨cur.toList, by simpa using h3⟩
theorem enU_set (l : List Int) (i : Nat) (x : Int) : (en eU l).set i (.int .u16 x) = en eU (l.set i x) := by
  have : ∀ l : List Int, en eU l = l.map fun z => Value.int .u16 z := fun l => by induction l with | nil => rfl | cons a l ih => rw [en_cons, ih]; rfl
  rw [this, this, List.map_set]
theorem enK_set2 : ∀ (l : List (Int × Int)) (i : Nat) (a b : Int), i < l.length → ((en eK l).set (i * 2) (.int .i64 a)).set (i * 2 + 1) (.int .u16 b) = en eK (l.set i (a, b))
  | [], i, a, b, h => by simp at h
  | t :: l, 0, a, b, h => by rw [en_cons]; rfl
  | t :: l, i + 1, a, b, h => by
    have ih := enK_set2 l i a b (by simpa using h)
    rw [List.set_cons_succ, en_cons, en_cons, ← ih, show (i + 1) * 2 = i * 2 + 1 + 1 by omega]
    rfl
/-- A row of which the beginning has been written over. -/
def hU2 (k n : Nat) (l : List Int) : List Int := rU k n ++ l.drop k
def hK2 (k n : Nat) (l : List (Int × Int)) : List (Int × Int) := rK k n ++ l.drop k
theorem hU2_len (k n : Nat) (l : List Int) (h : k ≤ l.length) : (hU2 k n l).length = l.length := by rw [hU2, List.length_append, rU_len, List.length_drop]; omega
theorem hK2_len (k n : Nat) (l : List (Int × Int)) (h : k ≤ l.length) : (hK2 k n l).length = l.length := by rw [hK2, List.length_append, rK_len, List.length_drop]; omega
theorem hU2_set (k n : Nat) (l : List Int) (h : k < l.length) : (hU2 k n l).set k (mk n) = hU2 (k + 1) n l := by
  rw [hU2, List.set_append_right _ _ (by rw [rU_len]; omega), rU_len, Nat.sub_self, List.drop_eq_getElem_cons h, List.set_cons_zero, hU2, rU, rU, List.replicate_succ', List.append_assoc]; rfl
theorem hK2_set (k n : Nat) (l : List (Int × Int)) (h : k < l.length) : (hK2 k n l).set k (9000 + (n : Int), 0) = hK2 (k + 1) n l := by
  rw [hK2, List.set_append_right _ _ (by rw [rK_len]; omega), rK_len, Nat.sub_self, List.drop_eq_getElem_cons h, List.set_cons_zero, hK2, rK, rK, List.replicate_succ', List.append_assoc]; rfl
theorem hU2_full (n : Nat) (l : List Int) : hU2 l.length n l = rU l.length n := by rw [hU2, List.drop_length, List.append_nil]
theorem hK2_full (n : Nat) (l : List (Int × Int)) : hK2 l.length n l = rK l.length n := by rw [hK2, List.drop_length, List.append_nil]
theorem rU_snoc (k n : Nat) : rU k n ++ [mk n] = rU (k + 1) n := by rw [rU, rU, List.replicate_succ']
theorem rK_snoc (k n : Nat) : rK k n ++ [(9000 + (n : Int), 0)] = rK (k + 1) n := by rw [rK, rK, List.replicate_succ']
/-- What the loops of take keep. -/
structure TK (B : Nat) (w wr : World) (lv mv lv' mv' : Value) (L : List Int) (M : List (Int × Int)) : Prop where
  u : RowU wr B lv' L
  k : RowK wr B mv' M
  nu : Nw w lv lv'
  nk : Nw w mv mv'
  t : Tc (fun y => lv.ownBlock = some y ∨ mv.ownBlock = some y) w wr
theorem TK.setU {B : Nat} {w wr : World} {lv mv mv' : Value} {g n cap : Nat} {L : List Int} {M : List (Int × Int)} (h : TK B w wr lv mv (.slice (some ⟨g, 0, none⟩) L.length cap) mv' L M) (hlt : g < w.heap.size) (i : Nat) (hi : i < L.length) (x : Int) :
    TK B w (wr.setCell ⟨g, i, none⟩ (.int .u16 x)) lv mv (.slice (some ⟨g, 0, none⟩) L.length cap) mv' (L.set i x) M := by
  have hu := own_set h.u i (by rw [en_len hU]; omega) (.int .u16 x)
  rw [enU_set] at hu
  obtain ⟨cl, hcl⟩ := own_at h.u
  refine ⟨?_, ?_, h.nu, h.nk, ?_⟩
  · unfold RowU; rw [List.length_set]; exact hu
  · exact own_kept h.k fun y e _ => setCell_other _ _ _ _ _ (own_ne h.k hcl (by decide) y e)
  · refine h.t.setCell g i ?_ _
    rcases h.nu g rfl with e | e
    · exact .inl e
    · omega
theorem TK.setK {B : Nat} {w wr : World} {lv mv lv' : Value} {g n cap : Nat} {L : List Int} {M : List (Int × Int)} (h : TK B w wr lv mv lv' (.slice (some ⟨g, 0, none⟩) M.length cap) L M) (hlt : g < w.heap.size) (i : Nat) (hi : i < M.length) (a b : Int) :
    TK B w ((wr.setCell ⟨g, i * 2, none⟩ (.int .i64 a)).setCell ⟨g, i * 2 + 1, none⟩ (.int .u16 b)) lv mv lv' (.slice (some ⟨g, 0, none⟩) M.length cap) L (M.set i (a, b)) := by
  have hu := own_set (own_set h.k (i * 2) (by rw [en_len hK]; omega) (.int .i64 a)) (i * 2 + 1) (by rw [List.length_set, en_len hK]; omega) (.int .u16 b)
  rw [enK_set2 M i a b hi] at hu
  obtain ⟨cl, hcl⟩ := own_at h.k
  have hg : mv.ownBlock = some g := by
    rcases h.nk g rfl with e | e
    · exact e
    · omega
  refine ⟨?_, ?_, h.nu, h.nk, ?_⟩
  · exact own_kept h.u fun y e _ => (setCell_other _ _ _ _ _ (own_ne h.u hcl (by decide) y e)).trans (setCell_other _ _ _ _ _ (own_ne h.u hcl (by decide) y e))
  · unfold RowK; rw [List.length_set]; exact hu
  · exact (h.t.setCell g _ (.inr hg) _).setCell g _ (.inr hg) _
/-- Only the lists themselves and new blocks have been touched. -/
theorem TK.appU {B : Nat} {w wr wa wb : World} {lv mv lv' mv' lv2 : Value} {L L2 : List Int} {M : List (Int × Int)} (h : TK B w wr lv mv lv' mv' L M) (ha : Below wr.heap.size wr wa) (hg : Grew wa wb lv' lv2) (hr : RowU wb B lv2 L2) : TK B w wb lv mv lv2 mv' L2 M := by
  have hk : RowK wa B mv' M := own_kept h.k fun y _ hy => ha.block y hy
  have hu : RowU wa B lv' L := own_kept h.u fun y _ hy => ha.block y hy
  refine ⟨hr, ?_, ?_, h.nk, ?_⟩
  · refine own_kept hk fun y e hy => hg.block y hy ?_
    intro c
    obtain ⟨p, cc, rfl⟩ := ex_slice hk
    rcases hk.2 with ⟨e', _⟩ | ⟨g', cap', cur, e', _, h3, _⟩
    · rw [e'] at e; simp [Value.ownBlock] at e
    · rw [e'] at e; simp [Value.ownBlock] at e; subst e
      exact own_ne hu h3 (by decide) g' c.symm rfl
  · intro g e
    rcases hg.own with c | c
    · exact h.nu g (c ▸ e)
    · exact .inr (Nat.le_trans h.t.size (Nat.le_trans ha.size (c g e)))
  · refine ⟨hg.os.trans (ha.os.trans h.t.os), hg.tape.trans (ha.tape.trans h.t.tape), hg.output.trans (ha.output.trans h.t.output), Nat.le_trans h.t.size (Nat.le_trans ha.size hg.size), fun k hk hn => ?_⟩
    have hk2 := Nat.lt_of_lt_of_le hk h.t.size
    refine (hg.block k (Nat.lt_of_lt_of_le hk2 ha.size) ?_).trans ((ha.block k hk2).trans (h.t.block k hk hn))
    intro c
    rcases h.nu k c.symm with e | e
    · exact hn (.inl e)
    · omega
theorem TK.appK {B : Nat} {w wr wa wb : World} {lv mv lv' mv' mv2 : Value} {L : List Int} {M M2 : List (Int × Int)} (h : TK B w wr lv mv lv' mv' L M) (ha : Below wr.heap.size wr wa) (hg : Grew wa wb mv' mv2) (hr : RowK wb B mv2 M2) : TK B w wb lv mv lv' mv2 L M2 := by
  have hk : RowK wa B mv' M := own_kept h.k fun y _ hy => ha.block y hy
  have hu : RowU wa B lv' L := own_kept h.u fun y _ hy => ha.block y hy
  refine ⟨?_, hr, h.nu, ?_, ?_⟩
  · refine own_kept hu fun y e hy => hg.block y hy ?_
    intro c
    rcases hu.2 with ⟨e', _⟩ | ⟨g', cap', cur, e', _, h3, _⟩
    · rw [e'] at e; simp [Value.ownBlock] at e
    · rw [e'] at e; simp [Value.ownBlock] at e; subst e
      exact own_ne hk h3 (by decide) g' c.symm rfl
  · intro g e
    rcases hg.own with c | c
    · exact h.nk g (c ▸ e)
    · exact .inr (Nat.le_trans h.t.size (Nat.le_trans ha.size (c g e)))
  · refine ⟨hg.os.trans (ha.os.trans h.t.os), hg.tape.trans (ha.tape.trans h.t.tape), hg.output.trans (ha.output.trans h.t.output), Nat.le_trans h.t.size (Nat.le_trans ha.size hg.size), fun k hk hn => ?_⟩
    have hk2 := Nat.lt_of_lt_of_le hk h.t.size
    refine (hg.block k (Nat.lt_of_lt_of_le hk2 ha.size) ?_).trans ((ha.block k hk2).trans (h.t.block k hk hn))
    intro c
    rcases h.nk k c.symm with e | e
    · exact hn (.inr e)
    · omega
end Go.Proofs.Ytcnhfgoflfnocaa
