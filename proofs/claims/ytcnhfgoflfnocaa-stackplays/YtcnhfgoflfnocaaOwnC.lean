import Derived.Test.YtcnhfgoflfnocaaRefR
import Derived.Test.YtcnhfgoflfnocaaFixed
/-! The law's ownCells, ownRet, whole. -/
namespace Go.Proofs.Ytcnhfgoflfnocaa
open Go.RowKit
open Go.Proofs
set_option linter.unusedVariables false
set_option linter.unusedSimpArgs false
def mU (l : List Int) : List Int := l ++ [7777, 7778]
def mK (l : List (Int × Int)) : List (Int × Int) := l ++ [(77, 0), (78, 0)]
theorem mU_len (l : List Int) : (mU l).length = l.length + 2 := by simp [mU]
theorem mK_len (l : List (Int × Int)) : (mK l).length = l.length + 2 := by simp [mK]
/-- A copy with marks behind it. -/
def CU (W : World) (B g cap : Nat) (l : List Int) : Prop := RowU W B (.slice (some ⟨g, 0, none⟩) (l.length + 2) cap) (mU l)
def CK (W : World) (B g cap : Nat) (l : List (Int × Int)) : Prop := RowK W B (.slice (some ⟨g, 0, none⟩) (l.length + 2) cap) (mK l)
theorem CU.sl {W : World} {B g cap : Nat} {l : List Int} (h : CU W B g cap l) : Sl eU 1 W (some ⟨g, 0, none⟩) (mU l) := by
  rcases h.ls with ⟨e, _⟩ | ⟨x, c, e, _, hs⟩
  · cases e
  · simp only [Value.slice.injEq] at e; rw [e.1]; exact hs
theorem CK.sl {W : World} {B g cap : Nat} {l : List (Int × Int)} (h : CK W B g cap l) : Sl eK 2 W (some ⟨g, 0, none⟩) (mK l) := by
  rcases h.ls with ⟨e, _⟩ | ⟨x, c, e, _, hs⟩
  · cases e
  · simp only [Value.slice.injEq] at e; rw [e.1]; exact hs
theorem CU.lsl {W : World} {B g cap : Nat} {l : List Int} (h : CU W B g cap l) : Sl eU 1 W (some ⟨g, 0, none⟩) l := by
  have := h.sl.take l.length
  simpa [mU] using this
theorem CK.lsl {W : World} {B g cap : Nat} {l : List (Int × Int)} (h : CK W B g cap l) : Sl eK 2 W (some ⟨g, 0, none⟩) l := by
  have := h.sl.take l.length
  simpa [mK] using this
theorem CU.blk {W : World} {B g cap : Nat} {l : List Int} (h : CU W B g cap l) : B ≤ g ∧ l.length + 2 ≤ cap ∧ ∃ cur, W.heap[g]? = some (.cells cur 32 (0, 0)) := by
  rcases h.2 with ⟨e, _⟩ | ⟨g', cap', cur, e, h2, h3, h4, _⟩
  · cases e
  · simp only [Value.slice.injEq, Option.some.injEq, Addr.mk.injEq, and_true] at e
    obtain ⟨rfl, _, rfl⟩ := e
    exact ⟨h2, by rw [mU_len] at h4; exact h4, cur, h3⟩
theorem CK.blk {W : World} {B g cap : Nat} {l : List (Int × Int)} (h : CK W B g cap l) : B ≤ g ∧ l.length + 2 ≤ cap ∧ ∃ cur, W.heap[g]? = some (.cells cur 43 (0, 0)) := by
  rcases h.2 with ⟨e, _⟩ | ⟨g', cap', cur, e, h2, h3, h4, _⟩
  · cases e
  · simp only [Value.slice.injEq, Option.some.injEq, Addr.mk.injEq, and_true] at e
    obtain ⟨rfl, _, rfl⟩ := e
    exact ⟨h2, by rw [mK_len] at h4; exact h4, cur, h3⟩
theorem CU.kt {S : TypeId → Prop} {B0 : Nat} {W W' : World} {B g cap : Nat} {l : List Int} (h : CU W B g cap l) (k : KT S B0 W W') (hs : ¬ S 32) : CU W' B g cap l := k.own h hs
theorem CK.kt {S : TypeId → Prop} {B0 : Nat} {W W' : World} {B g cap : Nat} {l : List (Int × Int)} (h : CK W B g cap l) (k : KT S B0 W W') (hs : ¬ S 43) : CK W' B g cap l := k.own h hs
set_option maxHeartbeats 1000000
set_option maxRecDepth 100000
theorem ownU (v : Value) (l : List Int) (hl : l.length * 2 + 4096 ≤ room) (w : World) (h : Ls eU 1 w v l) :
    Calls Try.prog 32 #[v] w fun e w' => ∃ g cap, e = .returned (.slice (some ⟨g, 0, none⟩) l.length cap) ∧ CU w' w.heap.size g cap l ∧ Below w.heap.size w w' := by
  obtain ⟨px, cx, rfl, _, _⟩ := h.ex
  have hr0 := own_empty w 32 1
  have hb0 : Below w.heap.size w (w.alloc (.cells #[] 32)) := (Below.refl _ _).alloc (Nat.le_refl _) _
  have hs0 := (h.below hb0).cs hU (by omega) oneU
  unfold room at hl
  clear h
  go_enter Try.func32, Try.ntmps32
  go_wp2_with (first | (at_builtin; refine wpList_append_row _ rfl _ _ 22 32 _ 1 2 Try.underlying22 info32 rfl (by decide) rfl w.heap.size _ 0 [] rfl hr0 _ l.length (en eU l) rfl hs0 (by unfold room; omega) (by unfold maxLen; omega) hb0.size ?_))
  intro v1 w1 hr1 hg1
  have hb1 : Below w.heap.size w w1 := hg1.belowAll (fun g e => (hr0.lt g e).1) hb0 (Nat.le_refl _)
  replace hr1 : w1.ownsRow w.heap.size 32 1 v1 l.length (en eU l) := by simpa using hr1
  obtain ⟨w2, hw2⟩ : ∃ w2, w1.alloc (.cells #[.int .u16 7777, .int .u16 7778] 32) = w2 := ⟨_, rfl⟩
  have b12 : Below w1.heap.size w1 w2 := by rw [← hw2]; exact (Below.refl _ _).alloc (Nat.le_refl _) _
  have hb2 : Below w.heap.size w w2 := hb1.trans (b12.mono hb1.size)
  have hr2 : w2.ownsRow w.heap.size 32 1 v1 l.length (en eU l) := own_kept hr1 fun g _ hg => b12.block g hg
  have hnb : w2.heap[w1.heap.size]? = some (.cells (en eU [7777, 7778]).toArray 32 (0, 0)) := by rw [← hw2]; exact heap_alloc_new w1 _
  have hs2 : Cs w2 (.slice (some ⟨w1.heap.size, 0, none⟩) 2 2) 1 2 (en eU [7777, 7778]) := .inr ⟨_, 2, rfl, rfl, fun j u hj => (sl_block hU w2 w1.heap.size 32 [7777, 7778] hnb).news hU (by omega) j u hj, oneU _⟩
  clear hr0 hs0 hg1 hb0 hr1 b12 hnb
  go_wp2_with (first | (at_builtin; refine wpList_append_row _ rfl _ _ 22 32 _ 1 2 Try.underlying22 info32 rfl (by decide) rfl w.heap.size _ l.length (en eU l) rfl hr2 _ 2 (en eU [7777, 7778]) rfl hs2 (by unfold room; omega) (by unfold maxLen; omega) hb2.size ?_))
  intro v3 w3 hr3 hg3
  have hb3 : Below w.heap.size w w3 := hg3.belowAll (fun g e => (hr2.lt g e).1) hb2 (Nat.le_refl _)
  obtain ⟨g, cap, rfl⟩ := own_pos hr3 (by omega)
  have hC : CU w3 w.heap.size g cap l := by
    have : w3.ownsRow w.heap.size 32 1 (.slice (some ⟨g, 0, none⟩) (l.length + 2) cap) (mU l).length (en eU (mU l)) := by rw [mU_len, mU, en_append]; exact hr3
    exact this
  have hcap : l.length ≤ cap := by have := hC.blk.2.1; omega
  have HC := hid hC
  have HB := hid hb3
  clear hr2 hs2 hr3 hg3 hb3 hb2 hb1 hC hw2
  go_wp2
  go_ret
  exact ⟨_, _, rfl, HC.out, HB.out⟩
theorem ownK (v : Value) (l : List (Int × Int)) (hl : l.length * 16 + 4096 ≤ room) (w : World) (h : Ls eK 2 w v l) :
    Calls Try.prog 33 #[v] w fun e w' => ∃ g cap, e = .returned (.slice (some ⟨g, 0, none⟩) l.length cap) ∧ CK w' w.heap.size g cap l ∧ Below w.heap.size w w' := by
  obtain ⟨px, cx, rfl, _, _⟩ := h.ex
  have hr0 := own_empty w 43 2
  have hb0 : Below w.heap.size w (w.alloc (.cells #[] 43)) := (Below.refl _ _).alloc (Nat.le_refl _) _
  have hs0 := (h.below hb0).cs hK (by omega) oneK
  unfold room at hl
  clear h
  go_enter Try.func33, Try.ntmps33
  go_wp2_with (first | (at_builtin; refine wpList_append_row _ rfl _ _ 44 43 _ 2 16 Try.underlying44 info43 rfl (by decide) rfl w.heap.size _ 0 [] rfl hr0 _ l.length (en eK l) rfl hs0 (by unfold room; omega) (by unfold maxLen; omega) hb0.size ?_))
  intro v1 w1 hr1 hg1
  have hb1 : Below w.heap.size w w1 := hg1.belowAll (fun g e => (hr0.lt g e).1) hb0 (Nat.le_refl _)
  replace hr1 : w1.ownsRow w.heap.size 43 2 v1 l.length (en eK l) := by simpa using hr1
  obtain ⟨w2, hw2⟩ : ∃ w2, w1.alloc (.cells #[.int .i64 77, .int .u16 0, .int .i64 78, .int .u16 0] 43) = w2 := ⟨_, rfl⟩
  have b12 : Below w1.heap.size w1 w2 := by rw [← hw2]; exact (Below.refl _ _).alloc (Nat.le_refl _) _
  have hb2 : Below w.heap.size w w2 := hb1.trans (b12.mono hb1.size)
  have hr2 : w2.ownsRow w.heap.size 43 2 v1 l.length (en eK l) := own_kept hr1 fun g _ hg => b12.block g hg
  have hnb : w2.heap[w1.heap.size]? = some (.cells (en eK [(77, 0), (78, 0)]).toArray 43 (0, 0)) := by rw [← hw2]; exact heap_alloc_new w1 _
  have hs2 : Cs w2 (.slice (some ⟨w1.heap.size, 0, none⟩) 2 2) 2 2 (en eK [(77, 0), (78, 0)]) := .inr ⟨_, 2, rfl, rfl, fun j u hj => (sl_block hK w2 w1.heap.size 43 [(77, 0), (78, 0)] hnb).news hK (by omega) j u hj, oneK _⟩
  clear hr0 hs0 hg1 hb0 hr1 b12 hnb
  go_wp2_with (first | (at_builtin; refine wpList_append_row _ rfl _ _ 44 43 _ 2 16 Try.underlying44 info43 rfl (by decide) rfl w.heap.size _ l.length (en eK l) rfl hr2 _ 2 (en eK [(77, 0), (78, 0)]) rfl hs2 (by unfold room; omega) (by unfold maxLen; omega) hb2.size ?_))
  intro v3 w3 hr3 hg3
  have hb3 : Below w.heap.size w w3 := hg3.belowAll (fun g e => (hr2.lt g e).1) hb2 (Nat.le_refl _)
  obtain ⟨g, cap, rfl⟩ := own_pos hr3 (by omega)
  have hC : CK w3 w.heap.size g cap l := by
    have : w3.ownsRow w.heap.size 43 2 (.slice (some ⟨g, 0, none⟩) (l.length + 2) cap) (mK l).length (en eK (mK l)) := by rw [mK_len, mK, en_append]; exact hr3
    exact this
  have hcap : l.length ≤ cap := by have := hC.blk.2.1; omega
  have HC := hid hC
  have HB := hid hb3
  clear hr2 hs2 hr3 hg3 hb3 hb2 hb1 hC hw2
  go_wp2
  go_ret
  exact ⟨_, _, rfl, HC.out, HB.out⟩
theorem whole_any (gc cc gk ck B B' : Nat) (v u : Value) (l : List Int) (m : List (Int × Int)) (hl : l.length * 2 + 4096 ≤ room) (hm : m.length * 16 + 4096 ≤ room) (w : World) (hc : CU w B gc cc l) (hk : CK w B' gk ck m) (h1 : Ls eU 1 w v l) (h2 : Ls eK 2 w u m) :
    Calls Try.prog 42 #[.slice (some ⟨gc, 0, none⟩) l.length cc, v, .slice (some ⟨gk, 0, none⟩) m.length ck, u] w fun e w' => e = .returned (.bool true) ∧ ∃ q, w' = w.drewN q := by
  obtain ⟨p1, c1, rfl, _, s1⟩ := h1.ex
  obtain ⟨p2, c2, rfl, _, s2⟩ := h2.ex
  have ha := sameU (some ⟨gc, 0, none⟩) p1 cc c1 l (by omega) w hc.lsl s1
  have hb := fun q => sameK (some ⟨gk, 0, none⟩) p2 ck c2 m (by omega) (w.drewN q) hk.lsl s2
  obtain ⟨b1, o1, e1, x1⟩ := hc.sl.u l.length 7777 (by simp [mU])
  obtain ⟨b1', o1', e1', x2⟩ := hc.sl.u (l.length + 1) 7778 (by simp [mU])
  obtain ⟨b2, o2, e2, y1, _⟩ := hk.sl.k m.length (77, 0) (by simp [mK])
  obtain ⟨b2', o2', e2', y2, _⟩ := hk.sl.k (m.length + 1) (78, 0) (by simp [mK])
  simp only [Option.some.injEq, Addr.mk.injEq] at e1 e1' e2 e2'
  obtain ⟨rfl, rfl, _⟩ := e1
  obtain ⟨rfl, rfl, _⟩ := e1'
  obtain ⟨rfl, rfl, _⟩ := e2
  obtain ⟨rfl, rfl, _⟩ := e2'
  dsimp only at y1 y2
  rw [Nat.zero_add] at x1 x2 y1 y2
  have hcc := hc.blk.2.1
  have hck := hk.blk.2.1
  unfold room at hl hm
  have i1 : IntKind.i64.wrap ((l.length : Int) + 2) = ((l.length + 2 : Nat) : Int) := by rw [i64_id _ (by omega) (by omega)]; omega
  have i2 : IntKind.i64.wrap ((m.length : Int) + 2) = ((m.length + 2 : Nat) : Int) := by rw [i64_id _ (by omega) (by omega)]; omega
  have i3 : IntKind.i64.wrap ((l.length : Int) + 1) = ((l.length + 1 : Nat) : Int) := by rw [i64_id _ (by omega) (by omega)]; omega
  have i4 : IntKind.i64.wrap ((m.length : Int) + 1) = ((m.length + 1 : Nat) : Int) := by rw [i64_id _ (by omega) (by omega)]; omega
  obtain ⟨n1, hn1⟩ : ∃ n1, n1 = l.length + 1 := ⟨_, rfl⟩
  obtain ⟨n2, hn2⟩ : ∃ n2, n2 = l.length + 2 := ⟨_, rfl⟩
  obtain ⟨k1, hk1⟩ : ∃ k1, k1 = m.length + 1 := ⟨_, rfl⟩
  obtain ⟨k2, hk2⟩ : ∃ k2, k2 = m.length + 2 := ⟨_, rfl⟩
  rw [← hn1] at x2 i3
  rw [← hk1] at y2 i4
  rw [← hn2] at i1 hcc
  rw [← hk2] at i2 hck
  have j1 : (l.length : Int) < (n2 : Int) := by omega
  have j2 : (n1 : Int) < (n2 : Int) := by omega
  have j3 : (m.length : Int) < (k2 : Int) := by omega
  have j4 : (k1 : Int) < (k2 : Int) := by omega
  have X1 := hid (fun q => show (w.drewN q).cell? ⟨gc, l.length, none⟩ = some (.int .u16 7777) from x1)
  have X2 := hid (fun q => show (w.drewN q).cell? ⟨gc, n1, none⟩ = some (.int .u16 7778) from x2)
  have Y1 := hid (fun q => show (w.drewN q).cell? ⟨gk, m.length * 2, none⟩ = some (.int .i64 77) from y1)
  have Y2 := hid (fun q => show (w.drewN q).cell? ⟨gk, k1 * 2, none⟩ = some (.int .i64 78) from y2)
  clear x1 x2 y1 y2 hn1 hn2 hk1 hk2 hc hk h1 h2 s1 s2
  go_enter Try.func42, Try.ntmps42
  go_wp2_with fail
  refine ha.mono ?_
  rintro e w1 ⟨rfl, q, rfl⟩
  have hbq := hb q
  clear ha hb
  go_wp2_with fail
  refine hbq.mono ?_
  rintro e w2 ⟨rfl, q2, rfl⟩
  clear hbq
  go_wp2_with fail
  go_quiet (fail)
  have x1 := X1.out
  have x2 := X2.out
  have y1 := Y1.out
  have y2 := Y2.out
  clear X1 X2 Y1 Y2
  go_wp2
  go_ret
  exact ⟨rfl, _, rfl⟩
end Go.Proofs.Ytcnhfgoflfnocaa
