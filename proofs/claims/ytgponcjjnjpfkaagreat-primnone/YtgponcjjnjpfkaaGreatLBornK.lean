import Derived.Test.YtgponcjjnjpfkaaGreatPDoAny
import Derived.Test.YtgponcjjnjpfkaaGreatSSame
import Derived.Test.YtgponcjjnjpfkaaGreatMRImgKit
import Derived.Test.YtgponcjjnjpfkaaGreatMRNew
import Derived.Deep.DeepCutAuto
/-! born: the kit. -/
namespace Go.Proofs.YtgponcjjnjpfkaaGreat.L
open Go.RowKit
open Go.Proofs
open P
set_option linter.unusedVariables false
set_option linter.unusedSimpArgs false
set_option maxHeartbeats 4000000
set_option maxRecDepth 100000
/-- A kind, brought to 1 to 4. -/
def nk (t : Int × Int) : Int × Int := (1 + (t.1.tmod 4 + 4).tmod 4, t.2)
def nks (k : Nat) (l : List (Int × Int)) : List (Int × Int) := (l.take k).map nk ++ l.drop k
theorem nks_0 (l : List (Int × Int)) : nks 0 l = l := by simp [nks]
theorem nks_all (l : List (Int × Int)) : nks l.length l = l.map nk := by simp [nks]
theorem nks_len (k : Nat) (l : List (Int × Int)) : (nks k l).length = l.length := by simp [nks]; omega
theorem nks_get (k : Nat) (l : List (Int × Int)) (h : k < l.length) : (nks k l)[k]? = some l[k] := by
  rw [nks, List.getElem?_append_right (by simp; omega)]
  simp only [List.length_map, List.length_take, List.getElem?_drop]
  rw [show k + (k - min k l.length) = k by omega]
  exact List.getElem?_eq_getElem h
theorem nks_set (k : Nat) (l : List (Int × Int)) (h : k < l.length) : (nks k l).set k (nk l[k]) = nks (k + 1) l := by
  unfold nks
  rw [List.set_append_right _ _ (by simp; omega), List.take_succ_eq_append_getElem h, List.map_append, List.append_assoc]
  congr 1
  simp only [List.length_map, List.length_take]
  rw [show k - min k l.length = 0 by omega, List.drop_eq_getElem_cons h]
  rfl
theorem ls_of {α : Type} {e : α → List Value} {s : Nat} {W : World} {p : Option Addr} {l : List α} {c : Nat} (h : S.Sl e s W p l) (hp : p = none → c = 0) (hl : l.length ≤ c) : S.Ls e s W (.slice p l.length c) l := by
  cases p with
  | none =>
    have : l = [] := by
      cases l with
      | nil => rfl
      | cons a l => obtain ⟨b, o, e, _⟩ := h 0 a rfl; cases e
    subst this
    rw [hp rfl]
    exact .inl ⟨rfl, rfl⟩
  | some x => exact .inr ⟨x, c, rfl, hl, h⟩
theorem enK_at : ∀ (l : List (Int × Int)) (k : Nat) (z : Int) (h : k < l.length), (S.en S.eK l).set (k * 2) (.int .i64 z) = S.en S.eK (l.set k (z, l[k].2))
  | a :: l, 0, z, _ => by simp [S.en_cons, S.eK]
  | a :: l, k + 1, z, h => by
    have ih := enK_at l k z (by simpa using h)
    rw [List.set_cons_succ, S.en_cons, S.en_cons, List.getElem_cons_succ, ← ih, show (k + 1) * 2 = k * 2 + 2 by omega]
    rw [List.set_append_right _ _ (by rw [S.hK]; omega), S.hK]
    congr 1
theorem own_apart {W : World} {B B' : Nat} {v v' : Value} {l : List Int} {m : List (Int × Int)} (h : S.RowU W B v l) (h' : S.RowK W B' v' m) (g : Nat) (e : v.ownBlock = some g) (e' : v'.ownBlock = some g) : False := by
  rcases h.2 with ⟨rfl, _⟩ | ⟨a, _, _, rfl, _, ha, _⟩
  · simp [Value.ownBlock] at e
  · rcases h'.2 with ⟨rfl, _⟩ | ⟨b, _, _, rfl, _, hb, _⟩
    · simp [Value.ownBlock] at e'
    · simp [Value.ownBlock] at e e'
      subst e; subst e'
      rw [ha] at hb
      injection hb with hb
      injection hb with _ hb
      cases hb
/-- A world of the law: both sides, all apart. -/
structure WW (W : World) (B g bd br bm bx bq bz : Nat) (F G : Nat → Prop) (ev qv : Value) (D : List Int) (R : List (Int × Int)) (m : M.MS) : Prop where
  blk : W.heap[g]? = some (.cells [.pointer (some ⟨bd, 0, none⟩), .pointer (some ⟨br, 0, none⟩), .pointer (some ⟨bm, 0, none⟩), .pointer (some ⟨bx, 0, none⟩), .pointer (some ⟨bq, 0, none⟩), .pointer (some ⟨bz, 0, none⟩)].toArray 37 (0, 0))
  p : PS W bd br bm F D R m
  x : S.EV W B bx ev D
  y : S.QV W B bq qv R
  z : M.IsR W G bz m
  ng : ¬ F g ∧ ¬ G g
  nx : ¬ F bx ∧ ¬ G bx
  nq : ¬ F bq ∧ ¬ G bq
  nev : ∀ k, ev.ownBlock = some k → ¬ F k ∧ ¬ G k
  nqv : ∀ k, qv.ownBlock = some k → ¬ F k ∧ ¬ G k
  nd : ¬ G bd ∧ ¬ G br
  fg : ∀ k, F k → ¬ G k
  lo : B ≤ g ∧ B ≤ bd ∧ B ≤ br
  lf : ∀ k, F k → B ≤ k
  lg : ∀ k, G k → B ≤ k
def bkB : List (Int × List UInt8) := [(0, [1, 2, 3]), (9, [4])]
def mB : M.MS := { M.m0 with banks := M.nbk bkB }
def BornR (w w' : World) (e : Ending) (D : List Int) (R : List (Int × Int)) : Prop := ∃ g bd br bm bx bq bz F G ev qv, e = .returned (.pointer (some ⟨g, 0, none⟩)) ∧ WW w' w.heap.size g bd br bm bx bq bz F G ev qv D R mB ∧ Below w.heap.size w w'
theorem mayBk : M.mayB (-1) bkB = true := by decide
theorem inOB : M.inO mB 16 = M.padB bkB := by rfl
theorem fl0 (n : Nat) : M.fl n [] 0 = List.replicate n 0 := by simp [M.fl]
theorem isR_B {W : World} {F : Nat → Prop} {b : Nat} (hw : M.Wf mB) (h : M.HasR W F b (M.padB bkB) M.ms0) : M.IsR W F b mB := by
  refine ⟨hw, ?_⟩
  rw [inOB]
  obtain ⟨u, gr, gc, gs, tv, h⟩ := h
  have r1 := h.ram
  have r2 := h.scr
  rw [show M.ms0.ram = List.replicate 16384 0 from fl0 16384] at r1
  rw [show M.ms0.scr = List.replicate 3072 0 from fl0 3072] at r2
  exact ⟨u, gr, gc, gs, tv, ⟨h.blk, h.banks, r1, r2, hw.ram, hw.scr, h.tones, h.nr, h.nc, h.rc, h.fb, h.fu, h.fg, h.fr, h.fc, h.ft⟩⟩
theorem bnsB (w : World) : M.BnS (((w.alloc (.cells #[.int .u8 1, .int .u8 2, .int .u8 3] 5)).alloc (.cells #[.int .u8 4] 5)).alloc (.cells #[.int .i64 0, .slice (some ⟨w.heap.size, 0, none⟩) 3 3, .int .i64 9, .slice (some ⟨w.heap.size + 1, 0, none⟩) 1 1] 82)) (some ⟨w.heap.size + 2, 0, none⟩) bkB := by
  have s1 : (w.alloc (.cells #[.int .u8 1, .int .u8 2, .int .u8 3] 5)).heap.size = w.heap.size + 1 := by simp
  have h1 := (Below.heap_alloc (w.alloc (.cells #[.int .u8 1, .int .u8 2, .int .u8 3] 5)) (.cells #[.int .u8 4] 5) w.heap.size (by omega)).trans (heap_alloc_new w _)
  have h2 := heap_alloc2_new w (.cells #[.int .u8 1, .int .u8 2, .int .u8 3] 5) (.cells #[.int .u8 4] 5)
  generalize hW : (w.alloc (.cells #[.int .u8 1, .int .u8 2, .int .u8 3] 5)).alloc (.cells #[.int .u8 4] 5) = W at h1 h2 ⊢
  have s2 : W.heap.size = w.heap.size + 2 := by rw [← hW]; simp
  have h3 := heap_alloc_new W (.cells #[.int .i64 0, .slice (some ⟨w.heap.size, 0, none⟩) 3 3, .int .i64 9, .slice (some ⟨w.heap.size + 1, 0, none⟩) 1 1] 82)
  rw [s2] at h3
  have h1' := (Below.heap_alloc W (.cells #[.int .i64 0, .slice (some ⟨w.heap.size, 0, none⟩) 3 3, .int .i64 9, .slice (some ⟨w.heap.size + 1, 0, none⟩) 1 1] 82) w.heap.size (by omega)).trans h1
  have h2' := (Below.heap_alloc W (.cells #[.int .i64 0, .slice (some ⟨w.heap.size, 0, none⟩) 3 3, .int .i64 9, .slice (some ⟨w.heap.size + 1, 0, none⟩) 1 1] 82) (w.heap.size + 1) (by omega)).trans h2
  generalize W.alloc (.cells #[.int .i64 0, .slice (some ⟨w.heap.size, 0, none⟩) 3 3, .int .i64 9, .slice (some ⟨w.heap.size + 1, 0, none⟩) 1 1] 82) = W3 at h3 h1' h2' ⊢
  have sl : ∀ (b : Nat) (l : List UInt8), W3.heap[b]? = some (.cells (M.bv l).toArray 5 (0, 0)) → M.Sl W3 (.slice (some ⟨b, 0, none⟩) l.length l.length) l := fun b l h => .inr ⟨_, _, rfl, Nat.le_refl _, fun j x hj => by
    have e : (⟨b, 0, none⟩ : Addr).add j = ⟨b, j, none⟩ := by rw [Addr.add_lit]; simp
    rw [e]
    exact M.cell_of W3 _ _ _ 5 _ h ((M.bv_get _ _ _).2 ⟨x, hj, rfl⟩)⟩
  intro i t ht
  match i, ht with
  | 0, ht =>
    simp [bkB] at ht; subst ht
    exact ⟨_, 0, _, rfl, M.cell_of W3 _ _ _ 82 _ h3 rfl, M.cell_of W3 _ _ _ 82 _ h3 rfl, sl _ [1, 2, 3] h1', by decide⟩
  | 1, ht =>
    simp [bkB] at ht; subst ht
    exact ⟨_, 0, _, rfl, M.cell_of W3 _ _ _ 82 _ h3 rfl, M.cell_of W3 _ _ _ 82 _ h3 rfl, sl _ [4] h2', by decide⟩
  | i + 2, ht => simp [bkB] at ht
/-- All that born has made, at its end. -/
theorem born_fin {w wr w7 w8 w9 w10 : World} {nA : Nat} {p0 p1 : Option Addr} {c0 c1 bd br bm bz : Nat} {D : List Int} {R : List (Int × Int)}
    (hB : Below w.heap.size w wr) (hU : S.RowU wr w.heap.size (.slice p0 D.length c0) D) (hK : S.RowK wr nA (.slice p1 R.length c1) R) (hA : w.heap.size ≤ nA) (hDl : D.length ≤ 256) (hRl : R.length ≤ 128)
    (b7 : Below wr.heap.size wr w7) (b8 : Below w7.heap.size w7 w8) (hD : S.HasD w7 bd D) (hR : S.HasR w7 br R) (hs : wr.heap.size ≤ bd ∧ wr.heap.size ≤ br) (hdr : bd ≠ br)
    (hM : M.HasM w9 (fun k => w8.heap.size ≤ k) bm mB) (b9 : Below w8.heap.size w8 w9) (hZ : M.HasR w10 (fun k => w9.heap.size ≤ k) bz (M.padB bkB) M.ms0) (b10 : Below w9.heap.size w9 w10) :
    BornR w (((w10.alloc (.cells #[.slice p0 D.length c0] 89)).alloc (.cells #[.slice p1 R.length c1] 91)).alloc (.cells #[.pointer (some ⟨bd, 0, none⟩), .pointer (some ⟨br, 0, none⟩), .pointer (some ⟨bm, 0, none⟩), .pointer (some ⟨w10.heap.size, 0, none⟩), .pointer (some ⟨w10.heap.size + 1, 0, none⟩), .pointer (some ⟨bz, 0, none⟩)] 37)) (.returned (.pointer (some ⟨w10.heap.size + 2, 0, none⟩))) D R := by
  have bb : ∀ {a b c : World}, Below a.heap.size a b → Below b.heap.size b c → Below a.heap.size a c := fun h k => h.trans ⟨k.os, k.tape, k.output, k.size, fun i hi => k.block i (Nat.lt_of_lt_of_le hi h.size)⟩
  have a1 := (bel_alloc w10 (.cells #[.slice p0 D.length c0] 89))
  have a2 := a1.alloc a1.size (.cells #[.slice p1 R.length c1] 91)
  have a3 := a2.alloc a2.size (.cells #[.pointer (some ⟨bd, 0, none⟩), .pointer (some ⟨br, 0, none⟩), .pointer (some ⟨bm, 0, none⟩), .pointer (some ⟨w10.heap.size, 0, none⟩), .pointer (some ⟨w10.heap.size + 1, 0, none⟩), .pointer (some ⟨bz, 0, none⟩)] 37)
  have z1 : (w10.alloc (.cells #[.slice p0 D.length c0] 89)).heap.size = w10.heap.size + 1 := by simp
  have q1 := heap_alloc_new w10 (.cells #[.slice p0 D.length c0] 89)
  generalize hV1 : w10.alloc (.cells #[.slice p0 D.length c0] 89) = V1 at *
  have q2 := heap_alloc_new V1 (.cells #[.slice p1 R.length c1] 91)
  have q1a := (Below.heap_alloc V1 (.cells #[.slice p1 R.length c1] 91) w10.heap.size (by omega)).trans q1
  have z2 : (V1.alloc (.cells #[.slice p1 R.length c1] 91)).heap.size = w10.heap.size + 2 := by simp; omega
  rw [z1] at q2
  generalize V1.alloc (.cells #[.slice p1 R.length c1] 91) = V2 at *
  have q3 := heap_alloc_new V2 (.cells #[.pointer (some ⟨bd, 0, none⟩), .pointer (some ⟨br, 0, none⟩), .pointer (some ⟨bm, 0, none⟩), .pointer (some ⟨w10.heap.size, 0, none⟩), .pointer (some ⟨w10.heap.size + 1, 0, none⟩), .pointer (some ⟨bz, 0, none⟩)] 37)
  have q1b := (Below.heap_alloc V2 (.cells #[.pointer (some ⟨bd, 0, none⟩), .pointer (some ⟨br, 0, none⟩), .pointer (some ⟨bm, 0, none⟩), .pointer (some ⟨w10.heap.size, 0, none⟩), .pointer (some ⟨w10.heap.size + 1, 0, none⟩), .pointer (some ⟨bz, 0, none⟩)] 37) w10.heap.size (by omega)).trans q1a
  have q2b := (Below.heap_alloc V2 (.cells #[.pointer (some ⟨bd, 0, none⟩), .pointer (some ⟨br, 0, none⟩), .pointer (some ⟨bm, 0, none⟩), .pointer (some ⟨w10.heap.size, 0, none⟩), .pointer (some ⟨w10.heap.size + 1, 0, none⟩), .pointer (some ⟨bz, 0, none⟩)] 37) (w10.heap.size + 1) (by omega)).trans q2
  rw [z2] at q3
  generalize V2.alloc (.cells #[.pointer (some ⟨bd, 0, none⟩), .pointer (some ⟨br, 0, none⟩), .pointer (some ⟨bm, 0, none⟩), .pointer (some ⟨w10.heap.size, 0, none⟩), .pointer (some ⟨w10.heap.size + 1, 0, none⟩), .pointer (some ⟨bz, 0, none⟩)] 37) = V3 at *
  have c7 : Below w7.heap.size w7 V3 := bb (bb (bb b8 b9) b10) a3
  have c0' : Below wr.heap.size wr V3 := bb b7 c7
  have c9 : Below w9.heap.size w9 V3 := bb b10 a3
  have n1 := hB.size; have n7 := b7.size; have n8 := b8.size; have n9 := b9.size; have n10 := b10.size
  have ld := S.lt_of hD.1
  have lr := S.lt_of hR.1
  have hU' : S.RowU V3 w.heap.size (.slice p0 D.length c0) D := S.own_kept hU fun g _ hg => c0'.block g hg
  have hK' : S.RowK V3 w.heap.size (.slice p1 R.length c1) R := S.own_mono (S.own_kept hK fun g _ hg => c0'.block g hg) hA
  refine ⟨w10.heap.size + 2, bd, br, bm, w10.heap.size, w10.heap.size + 1, bz, fun k => w8.heap.size ≤ k ∧ k < w9.heap.size, fun k => w9.heap.size ≤ k ∧ k < w10.heap.size, _, _, rfl,
    ⟨q3, ⟨hD.below c7, hR.below c7, (hM.mono fun i hi g => ⟨g, hi⟩).kept fun i hi _ => c9.block i hi, hdr, by omega, by omega⟩, ⟨q1b, hU', by omega, hDl⟩, ⟨q2b, hK', by omega, hRl⟩,
      (((isR_B hM.wf hZ).mono fun i hi g => ⟨g, hi⟩).below a3), by omega, by omega, by omega, ?_, ?_, by omega, fun k a b => by omega, by omega, fun k a => by omega, fun k a => by omega⟩,
    hB.trans ⟨c0'.os, c0'.tape, c0'.output, c0'.size, fun i hi => c0'.block i (Nat.lt_of_lt_of_le hi n1)⟩⟩
  · intro k e
    have := (hU.lt k e).2
    omega
  · intro k e
    have := (hK.lt k e).2
    omega
theorem tm4 (t : Int) : -4 < t.tmod 4 ∧ t.tmod 4 < 4 := by
  cases t with
  | ofNat n => simp only [Int.ofNat_eq_natCast]; rw [show ((n : Int).tmod 4) = ((n % 4 : Nat) : Int) from rfl]; omega
  | negSucc n => rw [show (Int.negSucc n).tmod 4 = -(((n + 1) % 4 : Nat) : Int) from rfl]; omega
end Go.Proofs.YtgponcjjnjpfkaaGreat.L
