import Derived.Test.YtgponcjjnjpfkaaGreatMTones
/-! own, ownBanks: banks in new memory, a mark behind each. -/
namespace Go.Proofs.YtgponcjjnjpfkaaGreat.M
open Go.RowKit
open Go.Proofs
set_option linter.unusedVariables false
set_option linter.unusedSimpArgs false
theorem info37 : (Tryz.prog.info? 82).map (fun i => (i.zero, i.size, i.bytes)) = some (some (.agg #[.int .i64 0, .slice none 0 0]), 2, 32) := by kernel_rfl
def bc (t : Int × List UInt8) (g : Nat × Nat) : List Value := [.int .i64 t.1, .slice (some ⟨g.1, 0, none⟩) t.2.length g.2]
def bcs : List (Int × List UInt8) → List (Nat × Nat) → List Value
  | t :: bs, g :: gs => bc t g ++ bcs bs gs
  | _, _ => []
theorem bcs_len : ∀ (bs : List (Int × List UInt8)) (gs : List (Nat × Nat)), gs.length = bs.length → (bcs bs gs).length = bs.length * 2
  | [], [], _ => rfl
  | t :: bs, g :: gs, h => by simp [bcs, bc, bcs_len bs gs (by simpa using h)]; omega
theorem bcs_snoc : ∀ (bs : List (Int × List UInt8)) (gs : List (Nat × Nat)) (t : Int × List UInt8) (g : Nat × Nat), gs.length = bs.length → bcs (bs ++ [t]) (gs ++ [g]) = bcs bs gs ++ bc t g
  | [], [], t, g, _ => by simp [bcs]
  | u :: bs, x :: gs, t, g, h => by simp [bcs, bcs_snoc bs gs t g (by simpa using h)]
theorem bcs_get : ∀ (bs : List (Int × List UInt8)) (gs : List (Nat × Nat)) (i : Nat) (t : Int × List UInt8) (g : Nat × Nat), bs[i]? = some t → gs[i]? = some g → (bcs bs gs)[i * 2]? = some (.int .i64 t.1) ∧ (bcs bs gs)[i * 2 + 1]? = some (.slice (some ⟨g.1, 0, none⟩) t.2.length g.2)
  | u :: bs, x :: gs, 0, t, g, h1, h2 => by simp at h1 h2; subst h1 h2; exact ⟨rfl, rfl⟩
  | u :: bs, x :: gs, i + 1, t, g, h1, h2 => by
    have := bcs_get bs gs i t g (by simpa using h1) (by simpa using h2)
    simp only [bcs, bc]
    rw [show (i + 1) * 2 = i * 2 + 1 + 1 by omega]
    exact this
theorem bcs_one : ∀ (bs : List (Int × List UInt8)) (gs : List (Nat × Nat)), ∀ u ∈ bcs bs gs, u.oneCell' = true
  | t :: bs, g :: gs, u, h => by
    simp only [bcs, bc, List.cons_append, List.nil_append, List.mem_cons] at h
    rcases h with rfl | rfl | h
    · rfl
    · rfl
    · exact bcs_one bs gs u h
  | [], _, u, h => by simp [bcs] at h
  | t :: bs, [], u, h => by simp [bcs] at h
/-- Banks in new memory, with a mark behind each. -/
structure OB (W : World) (B : Nat) (v : Value) (bs : List (Int × List UInt8)) (gs : List (Nat × Nat)) : Prop where
  len : gs.length = bs.length
  row : W.ownsRow B 82 2 v bs.length (bcs bs gs)
  dat : ∀ (i : Nat) (t : Int × List UInt8) (g : Nat × Nat), bs[i]? = some t → gs[i]? = some g → Row W B (.slice (some ⟨g.1, 0, none⟩) (t.2.length + 1) g.2) (t.2 ++ [90])
  nd : (gs.map Prod.fst).Nodup
theorem row_pre {W : World} {B : Nat} {g c n : Nat} {l m : List UInt8} (h : Row W B (.slice (some ⟨g, 0, none⟩) n c) (l ++ m)) : Sl W (.slice (some ⟨g, 0, none⟩) l.length c) l := by
  have h' := h
  rcases h.2 with ⟨e, _⟩ | ⟨g', cap, cur, e, _, hg, hcap, _⟩
  · cases e
  · simp only [Value.slice.injEq, Option.some.injEq, Addr.mk.injEq, and_true, true_and] at e
    obtain ⟨rfl, _, rfl⟩ := e
    refine .inr ⟨_, c, rfl, by simp at hcap; omega, fun j b hj => ?_⟩
    have hj2 : (l ++ m)[j]? = some b := by rw [List.getElem?_append_left (List.getElem?_eq_some_iff.1 hj).1]; exact hj
    exact World.ownsRow.cells h' (g := g) rfl j _ ((bv_get _ j _).2 ⟨b, hj2, rfl⟩)
theorem OB.ex {W : World} {B : Nat} {v : Value} {bs : List (Int × List UInt8)} {gs : List (Nat × Nat)} (h : OB W B v bs gs) (hl : ∀ t ∈ bs, t.2.length ≤ room) : ∃ p c, v = .slice p bs.length c ∧ BnS W p bs := by
  rcases h.row.2 with ⟨rfl, e⟩ | ⟨g, cap, cur, rfl, _⟩
  · have : bs = [] := List.eq_nil_of_length_eq_zero e
    subst this
    exact ⟨none, 0, rfl, fun i t ht => by simp at ht⟩
  · refine ⟨_, cap, rfl, fun i t ht => ?_⟩
    have hi := (List.getElem?_eq_some_iff.1 ht).1
    have hig : i < gs.length := by rw [h.len]; exact hi
    have hg : gs[i]? = some gs[i] := List.getElem?_eq_getElem hig
    obtain ⟨k1, k2⟩ := bcs_get bs gs i t _ ht hg
    have c1 := World.ownsRow.cells h.row (g := g) rfl _ _ k1
    have c2 := World.ownsRow.cells h.row (g := g) rfl _ _ k2
    rw [Addr.add_lit] at c1 c2
    refine ⟨g, 0, _, rfl, c1, c2, row_pre (h.dat i t _ ht hg), hl t (List.mem_of_getElem? ht)⟩
theorem OB.kept {W W' : World} {B : Nat} {v : Value} {bs : List (Int × List UInt8)} {gs : List (Nat × Nat)} (h : OB W B v bs gs) (k : ∀ i, B ≤ i → i < W.heap.size → W'.heap[i]? = W.heap[i]?) : OB W' B v bs gs :=
  ⟨h.len, own_kept h.row fun g e hg => k g (h.row.lt g e).1 hg, fun i t g h1 h2 => own_kept (h.dat i t g h1 h2) fun x e hg => k x ((h.dat i t g h1 h2).lt x e).1 hg, h.nd⟩
theorem OB.below {W W' : World} {B : Nat} {v : Value} {bs : List (Int × List UInt8)} {gs : List (Nat × Nat)} (h : OB W B v bs gs) (k : Below W.heap.size W W') : OB W' B v bs gs := h.kept fun i _ hi => k.block i hi
/-- One bank more. -/
theorem OB.snoc {W W1 W2 : World} {B : Nat} {v v' : Value} {bs : List (Int × List UInt8)} {gs : List (Nat × Nat)} (h : OB W B v bs gs) (hB : B ≤ W.heap.size) (t : Int × List UInt8) (g c : Nat) (hb : Below W.heap.size W W1)
    (hd : Row W1 W.heap.size (.slice (some ⟨g, 0, none⟩) (t.2.length + 1) c) (t.2 ++ [90])) (hg : Grew W1 W2 v v') (hr : W2.ownsRow B 82 2 v' (bs.length + 1) (bcs bs gs ++ bc t (g, c))) :
    OB W2 B v' (bs ++ [t]) (gs ++ [(g, c)]) := by
  have hlt : ∀ (i : Nat) (x : Int × List UInt8) (y : Nat × Nat), bs[i]? = some x → gs[i]? = some y → y.1 < W.heap.size := fun i x y h1 h2 => ((h.dat i x y h1 h2).lt y.1 rfl).2
  have hmem : ∀ y ∈ gs, y.1 < W.heap.size := by
    intro y hy
    obtain ⟨i, hi, e⟩ := List.mem_iff_getElem.1 hy
    have hb' : i < bs.length := by rw [← h.len]; exact hi
    exact hlt i bs[i] y (List.getElem?_eq_getElem hb') (by rw [List.getElem?_eq_getElem hi, e])
  have hgw : W.heap.size ≤ g := (hd.lt g rfl).1
  have nv : ∀ k cur, W1.heap[k]? = some (.cells cur 5 (0, 0)) → some k ≠ v.ownBlock := by
    intro k cur e1 e2
    obtain ⟨cur2, e3⟩ := own_block h.row k e2.symm
    have := (hb.block k (lt_of e3)).trans e3
    rw [e1] at this
    simp at this
  have kp : ∀ {x : Value} {n xs}, W1.ownsRow B 5 1 x n xs → W2.ownsRow B 5 1 x n xs := fun hx => own_kept hx fun k e hk => by
    obtain ⟨cur, e1⟩ := own_block hx k e
    exact hg.block k hk (nv k cur e1)
  refine ⟨by simp [h.len], ?_, ?_, ?_⟩
  · rw [bcs_snoc bs gs t (g, c) h.len, List.length_append]; exact hr
  · intro i x y h1 h2
    by_cases hi : i < bs.length
    · rw [List.getElem?_append_left hi] at h1
      rw [List.getElem?_append_left (by rw [h.len]; exact hi)] at h2
      exact kp (Row.below (h.dat i x y h1 h2) hb)
    · rw [List.getElem?_append_right (by omega)] at h1
      rw [List.getElem?_append_right (by rw [h.len]; omega)] at h2
      have e0 : i - bs.length = 0 := by
        have := (List.getElem?_eq_some_iff.1 h1).1; simp at this; omega
      rw [e0] at h1; rw [h.len, e0] at h2
      simp at h1 h2; subst h1 h2
      exact kp (Row.mono hd hB)
  · rw [List.map_append, List.nodup_append]
    refine ⟨h.nd, by simp, ?_⟩
    intro a ha b hb' e
    simp at hb'
    simp only [List.mem_map] at ha
    obtain ⟨y, hy, rfl⟩ := ha
    have := hmem y hy
    omega
set_option maxHeartbeats 2000000
set_option maxRecDepth 100000
theorem slice_to (W : World) (p : Option Addr) (n cap h : Nat) (z : Int) (hz : z = (h : Int)) (hc : h ≤ cap) : (Instr.sliceAt 80 (.slice p n cap) none (some (.int .i64 z)) none).run Tryz.prog W = .ok (.slice p h cap) W := by
  subst hz
  have elem35 : Tryz.prog.underlying 80 = some (.slice (Tryz.prog.elem 80)) := by kernel_rfl
  have size5 : (sizeOf (Tryz.prog.elem 80)).run Tryz.prog W = .ok 1 W := by
    have e : Tryz.prog.elem 80 = 5 := by kernel_rfl
    rw [e]
    exact Tryz.sizeOf5 W
  have e0 : Option.map (fun x : Addr => x.add 0) p = p := by cases p <;> simp [Addr.add]
  rw [run_sliceAt_slice W 80 _ _ _ _ elem35, run_slice_h W 80 p n cap elem35 .i64 (h : Int) (by omega) (by omega), size5]
  simp [Result.andThen, sliced, e0]
end Go.Proofs.YtgponcjjnjpfkaaGreat.M
/-! What a write changes, and what it does not. -/
namespace Go.Proofs.YtgponcjjnjpfkaaGreat.M
open Go.Proofs
set_option linter.unusedVariables false
set_option linter.unusedSimpArgs false
theorem lb_set (l : List UInt8) (i j : Nat) (x : UInt8) (h : i < l.length) : lb (l.set i x) j = if i = j then bt x else lb l j := by
  unfold lb bt
  simp only [List.getD_eq_getElem?_getD, List.getElem?_set]
  by_cases e : i = j
  · subst e; simp [h]
  · simp [e]
theorem st_pad (m : MS) (z : Int) (x : UInt8) : (st m z x).pad = m.pad := by
  unfold st stp; repeat' split
  all_goals rfl
theorem st_time (m : MS) (z : Int) (x : UInt8) : (st m z x).time = m.time := by
  unfold st stp; repeat' split
  all_goals rfl
theorem st_ch (m : MS) (z : Int) (x : UInt8) (h : z ≠ 65280) : (st m z x).ch = m.ch := by
  unfold st stp; repeat' split
  all_goals first | rfl | (exfalso; omega)
theorem st_low_tones (m : MS) (z : Int) (x : UInt8) (h : z < 65280) : (st m z x).tones = m.tones := by
  unfold st stp; repeat' split
  all_goals first | rfl | (exfalso; omega)
theorem st_banks (m : MS) (z : Int) (x : UInt8) (n : Nat) (l : List UInt8) (h : m.banks n = some l) : ∃ l', (st m z x).banks n = some l' := by
  unfold st stp
  split
  · exact ⟨l, h⟩
  split
  · split
    · exact ⟨l, h⟩
    · simp only [upd]; split
      · exact ⟨_, rfl⟩
      · exact ⟨l, h⟩
  repeat' split
  all_goals exact ⟨l, h⟩
theorem ld_low (m : MS) (z : Int) (h : z < 16384) : ld m z = 0 := by unfold ld; rw [if_pos h]
theorem ld_same (m : MS) (hw : Wf m) (z : Int) (x : UInt8) (h0 : 16384 ≤ z) (h1 : z < 52224) (hb : z < 32768 → ∃ l, m.banks m.ch.toNat = some l) : ld (st m z x) z = bt x := by
  have a1 : ¬ z < 16384 := by omega
  by_cases a2 : z < 32768
  · obtain ⟨l, hl⟩ := hb a2
    have hll := (hw.bk _ _ hl).2
    simp only [st, ld, a1, a2, if_true, if_false, hl, upd]
    rw [lb_set _ _ _ _ (by omega), if_pos rfl]
  by_cases a3 : z < 49152
  · simp only [st, ld, a1, a2, a3, if_true, if_false]
    rw [lb_set _ _ _ _ (by rw [hw.ram]; omega), if_pos rfl]
  · simp only [st, ld, a1, a2, a3, h1, if_true, if_false]
    rw [lb_set _ _ _ _ (by rw [hw.scr]; omega), if_pos rfl]
theorem ld_stp (m : MS) (z o : Int) (x : UInt8) (ho : o < 65280) (hn : ¬ (z = 65280 ∧ 16384 ≤ o ∧ o < 32768)) : ld (stp m z x) o = ld m o := by
  unfold stp
  by_cases c0 : z = 65280
  · rw [if_pos c0]
    unfold ld
    by_cases a1 : o < 16384
    · simp only [a1, if_true]
    by_cases a2 : o < 32768
    · exact absurd ⟨c0, by omega, a2⟩ hn
    simp only [a1, a2, if_false]
    split
    · rfl
    split
    · rfl
    rw [pt_low _ o ho, pt_low _ o ho]
  rw [if_neg c0]
  have hp : ∀ m' : MS, m'.ram = m.ram → m'.scr = m.scr → m'.ch = m.ch → m'.banks = m.banks → ld m' o = ld m o := by
    intro m' e1 e2 e3 e4
    unfold ld
    rw [e1, e2, e3, e4, pt_low m' o ho, pt_low m o ho]
  repeat' split
  all_goals first | exact hp _ rfl rfl rfl rfl | rfl
theorem ld_other (m : MS) (hw : Wf m) (z o : Int) (x : UInt8) (h0 : 0 ≤ z) (ho0 : 0 ≤ o) (ho : o < 65280) (hne : o ≠ z) (hn : ¬ (z = 65280 ∧ 16384 ≤ o ∧ o < 32768)) : ld (st m z x) o = ld m o := by
  by_cases a1 : z < 16384
  · simp only [st, a1, if_true]
  by_cases a2 : z < 32768
  · simp only [st, a1, a2, if_true, if_false]
    cases hb : m.banks m.ch.toNat with
    | none => rfl
    | some l =>
      have hll := (hw.bk _ _ hb).2
      simp only [ld, upd, if_true, hb]
      by_cases b1 : o < 16384
      · simp only [b1, if_true]
      by_cases b2 : o < 32768
      · simp only [b1, b2, if_true, if_false]
        rw [lb_set _ _ _ _ (by omega), if_neg (by omega)]
      simp only [b1, b2, if_false]
      rfl
  by_cases a3 : z < 49152
  · simp only [st, a1, a2, a3, if_true, if_false]
    unfold ld
    by_cases b1 : o < 16384
    · simp only [b1, if_true]
    by_cases b2 : o < 32768
    · simp only [b1, b2, if_true, if_false]; try rfl
    by_cases b3 : o < 49152
    · simp only [b1, b2, b3, if_true, if_false]
      rw [lb_set _ _ _ _ (by rw [hw.ram]; omega), if_neg (by omega)]
    simp only [b1, b2, b3, if_false]
    rfl
  by_cases a4 : z < 52224
  · simp only [st, a1, a2, a3, a4, if_true, if_false]
    unfold ld
    by_cases b1 : o < 16384
    · simp only [b1, if_true]
    by_cases b2 : o < 32768
    · simp only [b1, b2, if_true, if_false]; try rfl
    by_cases b3 : o < 49152
    · simp only [b1, b2, b3, if_true, if_false]; try rfl
    by_cases b4 : o < 52224
    · simp only [b1, b2, b3, b4, if_true, if_false]
      rw [lb_set _ _ _ _ (by rw [hw.scr]; omega), if_neg (by omega)]
    simp only [b1, b2, b3, b4, if_false]
    rfl
  simp only [st, a1, a2, a3, a4, if_false]
  exact ld_stp m z o x ho hn
/-- What holds of the memory all the while. -/
structure Inv (some_ : Prop) (m : MS) : Prop where
  tones : m.tones = []
  pad : m.pad = 77
  time : m.time = 1
  bank : some_ → ∃ l, m.banks m.ch.toNat = some l
theorem Inv.st {s : Prop} {m : MS} (h : Inv s m) (z : Int) (x : UInt8) (hz : z < 65280) : Inv s (st m z x) := by
  refine ⟨(st_low_tones m z x hz).trans h.tones, (st_pad m z x).trans h.pad, (st_time m z x).trans h.time, fun hs => ?_⟩
  obtain ⟨l, hl⟩ := h.bank hs
  rw [st_ch m z x (by omega)]
  exact st_banks m z x _ l hl
theorem ld_pad (m : MS) : ld m 65282 = m.pad := by simp [ld, pt]
theorem ld_time (m : MS) : ld m 65288 = m.time % 256 := by simp [ld, pt]
end Go.Proofs.YtgponcjjnjpfkaaGreat.M
