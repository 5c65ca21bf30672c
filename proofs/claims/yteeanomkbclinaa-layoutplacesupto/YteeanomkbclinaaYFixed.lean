import Derived.Test.YteeanomkbclinaaYOf
import Derived.Laws.StructEq
/-! The law's fixed example. -/
namespace Go.Proofs.Yteeanomkbclinaa.Y
open Go.RowKit
open Go.Proofs
set_option linter.unusedVariables false
set_option linter.unusedSimpArgs false
set_option maxHeartbeats 4000000
set_option maxRecDepth 100000
def nPrim : Nd := .mk 1 50 0 e0 [] [] false (0, 0)
def nLit (v : Int) : Nd := .mk 2 0 v e0 [] [] false (0, 0)
def nChoice : Nd := .mk 4 0 0 e0 [nLit 1] [nLit 2] true (0, 0)
def nCall (s : ByteArray) : Nd := .mk 3 0 0 s [] [] false (0, 0)
def fds : List Df := [⟨2, ⟨#[107]⟩, 5, [], (0, 0)⟩, ⟨3, ⟨#[118]⟩, 2, [], (0, 0)⟩, ⟨3, ⟨#[98]⟩, 10, [], (0, 0)⟩, ⟨1, ⟨#[109, 97, 105, 110]⟩, 0, [nCall ⟨#[118]⟩, nPrim, nCall ⟨#[107]⟩, nPrim, nChoice], (0, 0)⟩]
def tr (d : Df) : Int × Int × Int := (d.k, cl d.body, d.v)
def tb (t : Int × Int × Int) : Int := if t.1 = 1 then 4 + 2 * t.2.1 else if t.1 = 2 ∨ t.1 = 3 then 4 else 0
def tm (t : Int × Int × Int) : Int := if t.1 = 3 then t.2.2 else 0
def wz (r : Rm) (t : Int × Int × Int) : Rm := (wrap64 (r.1 + 1), wrap64 (r.2.1 + tb t), wrap64 (r.2.2 + tm t))
theorem rms_tr (ds : List Df) (k : Nat) : rms ds k = ((ds.map tr).take k).foldl wz (0, 128, 0) := by
  unfold rms
  rw [← List.map_take]
  generalize ds.take k = l
  generalize ((0, 128, 0) : Rm) = r
  induction l generalizing r with
  | nil => rfl
  | cons d l ih => rw [List.foldl_cons, List.map_cons, List.foldl_cons, ih]; rfl
theorem ce_lit (v : Int) : ce (nLit v) = 2 := by rw [ce_is]; rfl
theorem ce_call (s : ByteArray) : ce (nCall s) = 1 := by rw [ce_is]; rfl
theorem ce_prim : ce nPrim = 1 := by rw [ce_is]; rfl
theorem ce_choice : ce nChoice = 8 := by
  rw [ce_is]
  show cn 4 true (cl [nLit 1]) (cl [nLit 2]) = 8
  rw [cl_cons, cl_cons, cl_nil, ce_lit, ce_lit]; rfl
theorem cl_choice : cl [nChoice] = 8 := by rw [cl_cons, cl_nil, ce_choice]; rfl
def tds : List (Int × Int × Int) := [(2, 0, 5), (3, 0, 2), (3, 0, 10), (1, 12, 0)]
theorem fds_tr : fds.map tr = tds := by
  have h : cl [nCall ⟨#[118]⟩, nPrim, nCall ⟨#[107]⟩, nPrim, nChoice] = 12 := by
    rw [cl_cons, cl_cons, cl_cons, cl_cons, cl_cons, cl_nil, ce_call, ce_call, ce_prim, ce_choice]; rfl
  unfold fds tds
  simp only [List.map_cons, List.map_nil, tr, h, cl_nil]
theorem fds_rms (k : Nat) : rms fds k = (tds.take k).foldl wz (0, 128, 0) := by rw [rms_tr, fds_tr]
theorem fds_code : (rms fds 4).2.1 = 168 := by rw [fds_rms]; kernel_rfl
theorem fds_ram : (rms fds 4).2.2 = 12 := by rw [fds_rms]; kernel_rfl
theorem fds_ps : ps (rms fds 1) = 0 ∧ ps (rms fds 2) = 0 ∧ ps (rms fds 3) = 0 ∧ ps (rms fds 4) = 0 := ⟨by rw [fds_rms]; kernel_rfl, by rw [fds_rms]; kernel_rfl, by rw [fds_rms]; kernel_rfl, by rw [fds_rms]; kernel_rfl⟩
theorem fds_r (k : Nat) (r : Rm) (h : (tds.take k).foldl wz (0, 128, 0) = r) : rms fds k = r := (fds_rms k).trans h
theorem fds_pl : S.en plc (pls fds 4) = [.string ⟨#[107]⟩, .int .u16 128, .int .i64 4, .int .u16 0, .string ⟨#[118]⟩, .int .u16 132, .int .i64 4, .int .u16 32768, .string ⟨#[98]⟩, .int .u16 136, .int .i64 4, .int .u16 32770, .string ⟨#[109, 97, 105, 110]⟩, .int .u16 140, .int .i64 28, .int .u16 0] := by
  rw [pls_succ fds 3 _ rfl, pls_succ fds 2 _ rfl, pls_succ fds 1 _ rfl, pls_succ fds 0 _ rfl, fds_r 0 (0, 128, 0) (by kernel_rfl), fds_r 1 (1, 132, 0) (by kernel_rfl), fds_r 2 (2, 136, 2) (by kernel_rfl), fds_r 3 (3, 140, 12) (by kernel_rfl), fds_r 4 (4, 168, 12) (by kernel_rfl)]
  kernel_rfl
theorem n1_of {W : World} {O : Nat → Prop} {b o : Nat} {c : List Value} {t : TypeId} {n : Nd} {tv ev : Value} (hb : W.heap[b]? = some (.cells c.toArray t (0, 0))) (hc : (c.drop o).take 9 = ndc n tv ev) (ht : NV W O tv n.th) (he : NV W O ev n.el) : N1 W O b o n :=
  N1.mk tv ev (fun j x hx => S.cell_of W b (o + j) c t x hb (by
    rw [← hc, List.getElem?_take] at hx
    split at hx
    · rw [List.getElem?_drop] at hx; exact hx
    · cases hx)) ht he
theorem d1_of {W : World} {O : Nat → Prop} {b o : Nat} {c : List Value} {t : TypeId} {d : Df} {bv : Value} (hb : W.heap[b]? = some (.cells c.toArray t (0, 0))) (hc : (c.drop o).take 6 = dfc d bv) (ht : NV W O bv d.body) : D1 W O b o d :=
  ⟨bv, fun j x hx => S.cell_of W b (o + j) c t x hb (by
    rw [← hc, List.getElem?_take] at hx
    split at hx
    · rw [List.getElem?_drop] at hx; exact hx
    · cases hx), ht⟩
theorem nv_nil (W : World) (O : Nat → Prop) : NV W O (.slice none 0 0) [] := NV.nil (.inl rfl)
theorem fixed_any (W : World) : Calls Try.prog 7 #[] W fun e w' => e = .returned (.bool true) ∧ Below W.heap.size W w' := by
  obtain ⟨w0, hw0⟩ : ∃ w0, List.foldl World.alloc W [.cells #[.int .i64 1, .int .i64 50, .int .u16 0, .string ⟨#[]⟩, .slice none 0 0, .slice none 0 0, .bool false, .int .i64 0, .int .i64 0] 38, .cells #[.int .i64 2, .int .i64 0, .int .u16 1, .string ⟨#[]⟩, .slice none 0 0, .slice none 0 0, .bool false, .int .i64 0, .int .i64 0] 38, .cells #[.int .i64 2, .int .i64 0, .int .u16 2, .string ⟨#[]⟩, .slice none 0 0, .slice none 0 0, .bool false, .int .i64 0, .int .i64 0] 38, .cells #[.int .i64 4, .int .i64 0, .int .u16 0, .string ⟨#[]⟩, .slice (some ⟨W.heap.size + 1, 0, none⟩) 1 1, .slice (some ⟨W.heap.size + 2, 0, none⟩) 1 1, .bool true, .int .i64 0, .int .i64 0] 38, .cells #[.int .i64 3, .int .i64 0, .int .u16 0, .string ⟨#[118]⟩, .slice none 0 0, .slice none 0 0, .bool false, .int .i64 0, .int .i64 0, .int .i64 1, .int .i64 50, .int .u16 0, .string ⟨#[]⟩, .slice none 0 0, .slice none 0 0, .bool false, .int .i64 0, .int .i64 0, .int .i64 3, .int .i64 0, .int .u16 0, .string ⟨#[107]⟩, .slice none 0 0, .slice none 0 0, .bool false, .int .i64 0, .int .i64 0, .int .i64 1, .int .i64 50, .int .u16 0, .string ⟨#[]⟩, .slice none 0 0, .slice none 0 0, .bool false, .int .i64 0, .int .i64 0, .int .i64 4, .int .i64 0, .int .u16 0, .string ⟨#[]⟩, .slice (some ⟨W.heap.size + 1, 0, none⟩) 1 1, .slice (some ⟨W.heap.size + 2, 0, none⟩) 1 1, .bool true, .int .i64 0, .int .i64 0] 38, .cells #[.int .i64 1, .string ⟨#[109, 97, 105, 110]⟩, .int .u16 0, .slice (some ⟨W.heap.size + 4, 0, none⟩) 5 5, .int .i64 0, .int .i64 0] 36, .cells #[.int .i64 2, .string ⟨#[107]⟩, .int .u16 5, .slice none 0 0, .int .i64 0, .int .i64 0, .int .i64 3, .string ⟨#[118]⟩, .int .u16 2, .slice none 0 0, .int .i64 0, .int .i64 0, .int .i64 3, .string ⟨#[98]⟩, .int .u16 10, .slice none 0 0, .int .i64 0, .int .i64 0, .int .i64 1, .string ⟨#[109, 97, 105, 110]⟩, .int .u16 0, .slice (some ⟨W.heap.size + 4, 0, none⟩) 5 5, .int .i64 0, .int .i64 0] 36, .cells #[.slice (some ⟨W.heap.size + 6, 0, none⟩) 4 4, .slice none 0 0] 32] = w0 := ⟨_, rfl⟩
  have sz0 : w0.heap.size = W.heap.size + 8 := by rw [← hw0, allocs_size]; rfl
  have hb0 : Below W.heap.size W w0 := by rw [← hw0]; exact allocs_below _ W
  have gt : ∀ (i : Nat) (o : Obj), ([.cells #[.int .i64 1, .int .i64 50, .int .u16 0, .string ⟨#[]⟩, .slice none 0 0, .slice none 0 0, .bool false, .int .i64 0, .int .i64 0] 38, .cells #[.int .i64 2, .int .i64 0, .int .u16 1, .string ⟨#[]⟩, .slice none 0 0, .slice none 0 0, .bool false, .int .i64 0, .int .i64 0] 38, .cells #[.int .i64 2, .int .i64 0, .int .u16 2, .string ⟨#[]⟩, .slice none 0 0, .slice none 0 0, .bool false, .int .i64 0, .int .i64 0] 38, .cells #[.int .i64 4, .int .i64 0, .int .u16 0, .string ⟨#[]⟩, .slice (some ⟨W.heap.size + 1, 0, none⟩) 1 1, .slice (some ⟨W.heap.size + 2, 0, none⟩) 1 1, .bool true, .int .i64 0, .int .i64 0] 38, .cells #[.int .i64 3, .int .i64 0, .int .u16 0, .string ⟨#[118]⟩, .slice none 0 0, .slice none 0 0, .bool false, .int .i64 0, .int .i64 0, .int .i64 1, .int .i64 50, .int .u16 0, .string ⟨#[]⟩, .slice none 0 0, .slice none 0 0, .bool false, .int .i64 0, .int .i64 0, .int .i64 3, .int .i64 0, .int .u16 0, .string ⟨#[107]⟩, .slice none 0 0, .slice none 0 0, .bool false, .int .i64 0, .int .i64 0, .int .i64 1, .int .i64 50, .int .u16 0, .string ⟨#[]⟩, .slice none 0 0, .slice none 0 0, .bool false, .int .i64 0, .int .i64 0, .int .i64 4, .int .i64 0, .int .u16 0, .string ⟨#[]⟩, .slice (some ⟨W.heap.size + 1, 0, none⟩) 1 1, .slice (some ⟨W.heap.size + 2, 0, none⟩) 1 1, .bool true, .int .i64 0, .int .i64 0] 38, .cells #[.int .i64 1, .string ⟨#[109, 97, 105, 110]⟩, .int .u16 0, .slice (some ⟨W.heap.size + 4, 0, none⟩) 5 5, .int .i64 0, .int .i64 0] 36, .cells #[.int .i64 2, .string ⟨#[107]⟩, .int .u16 5, .slice none 0 0, .int .i64 0, .int .i64 0, .int .i64 3, .string ⟨#[118]⟩, .int .u16 2, .slice none 0 0, .int .i64 0, .int .i64 0, .int .i64 3, .string ⟨#[98]⟩, .int .u16 10, .slice none 0 0, .int .i64 0, .int .i64 0, .int .i64 1, .string ⟨#[109, 97, 105, 110]⟩, .int .u16 0, .slice (some ⟨W.heap.size + 4, 0, none⟩) 5 5, .int .i64 0, .int .i64 0] 36, .cells #[.slice (some ⟨W.heap.size + 6, 0, none⟩) 4 4, .slice none 0 0] 32] : List Obj)[i]? = some o → w0.heap[W.heap.size + i]? = some o := fun i o h => by rw [← hw0]; exact allocs_get _ W i o h
  have r1 : w0.heap[W.heap.size + 1]? = some (.cells ([.int .i64 2, .int .i64 0, .int .u16 1, .string ⟨#[]⟩, .slice none 0 0, .slice none 0 0, .bool false, .int .i64 0, .int .i64 0] : List Value).toArray 38 (0, 0)) := gt 1 _ rfl
  have r2 : w0.heap[W.heap.size + 2]? = some (.cells ([.int .i64 2, .int .i64 0, .int .u16 2, .string ⟨#[]⟩, .slice none 0 0, .slice none 0 0, .bool false, .int .i64 0, .int .i64 0] : List Value).toArray 38 (0, 0)) := gt 2 _ rfl
  have r3 : w0.heap[W.heap.size + 3]? = some (.cells ([.int .i64 4, .int .i64 0, .int .u16 0, .string ⟨#[]⟩, .slice (some ⟨W.heap.size + 1, 0, none⟩) 1 1, .slice (some ⟨W.heap.size + 2, 0, none⟩) 1 1, .bool true, .int .i64 0, .int .i64 0] : List Value).toArray 38 (0, 0)) := gt 3 _ rfl
  have r4 : w0.heap[W.heap.size + 4]? = some (.cells ([.int .i64 3, .int .i64 0, .int .u16 0, .string ⟨#[118]⟩, .slice none 0 0, .slice none 0 0, .bool false, .int .i64 0, .int .i64 0, .int .i64 1, .int .i64 50, .int .u16 0, .string ⟨#[]⟩, .slice none 0 0, .slice none 0 0, .bool false, .int .i64 0, .int .i64 0, .int .i64 3, .int .i64 0, .int .u16 0, .string ⟨#[107]⟩, .slice none 0 0, .slice none 0 0, .bool false, .int .i64 0, .int .i64 0, .int .i64 1, .int .i64 50, .int .u16 0, .string ⟨#[]⟩, .slice none 0 0, .slice none 0 0, .bool false, .int .i64 0, .int .i64 0, .int .i64 4, .int .i64 0, .int .u16 0, .string ⟨#[]⟩, .slice (some ⟨W.heap.size + 1, 0, none⟩) 1 1, .slice (some ⟨W.heap.size + 2, 0, none⟩) 1 1, .bool true, .int .i64 0, .int .i64 0] : List Value).toArray 38 (0, 0)) := gt 4 _ rfl
  have r6 : w0.heap[W.heap.size + 6]? = some (.cells ([.int .i64 2, .string ⟨#[107]⟩, .int .u16 5, .slice none 0 0, .int .i64 0, .int .i64 0, .int .i64 3, .string ⟨#[118]⟩, .int .u16 2, .slice none 0 0, .int .i64 0, .int .i64 0, .int .i64 3, .string ⟨#[98]⟩, .int .u16 10, .slice none 0 0, .int .i64 0, .int .i64 0, .int .i64 1, .string ⟨#[109, 97, 105, 110]⟩, .int .u16 0, .slice (some ⟨W.heap.size + 4, 0, none⟩) 5 5, .int .i64 0, .int .i64 0] : List Value).toArray 36 (0, 0)) := gt 6 _ rfl
  have v1 : NV w0 (· < w0.heap.size) (.slice (some ⟨W.heap.size + 1, 0, none⟩) 1 1) [nLit 1] := NV.row (l := [nLit 1]) (by show W.heap.size + 1 < w0.heap.size; omega) (by decide) (NA.cons (n1_of r1 rfl (nv_nil _ _) (nv_nil _ _)) (NA.nil _ _ _ _))
  have v2 : NV w0 (· < w0.heap.size) (.slice (some ⟨W.heap.size + 2, 0, none⟩) 1 1) [nLit 2] := NV.row (l := [nLit 2]) (by show W.heap.size + 2 < w0.heap.size; omega) (by decide) (NA.cons (n1_of r2 rfl (nv_nil _ _) (nv_nil _ _)) (NA.nil _ _ _ _))
  have v4 : NV w0 (· < w0.heap.size) (.slice (some ⟨W.heap.size + 4, 0, none⟩) 5 5) [nCall ⟨#[118]⟩, nPrim, nCall ⟨#[107]⟩, nPrim, nChoice] := NV.row (l := [nCall ⟨#[118]⟩, nPrim, nCall ⟨#[107]⟩, nPrim, nChoice]) (by show W.heap.size + 4 < w0.heap.size; omega) (by decide) (NA.cons (n1_of r4 rfl (nv_nil _ _) (nv_nil _ _)) (NA.cons (n1_of r4 rfl (nv_nil _ _) (nv_nil _ _)) (NA.cons (n1_of r4 rfl (nv_nil _ _) (nv_nil _ _)) (NA.cons (n1_of r4 rfl (nv_nil _ _) (nv_nil _ _)) (NA.cons (n1_of r4 rfl v1 v2) (NA.nil _ _ _ _))))))
  have hDV : DV w0 (· < w0.heap.size) (.slice (some ⟨W.heap.size + 6, 0, none⟩) 4 4) fds := by
    refine ⟨_, _, rfl, by decide, fun i d hi => ⟨W.heap.size + 6, 0, rfl, by show W.heap.size + 6 < w0.heap.size; omega, ?_⟩⟩
    match i, hi with
    | 0, hi => cases hi; exact d1_of r6 rfl (nv_nil _ _)
    | 1, hi => cases hi; exact d1_of r6 rfl (nv_nil _ _)
    | 2, hi => cases hi; exact d1_of r6 rfl (nv_nil _ _)
    | 3, hi => cases hi; exact d1_of r6 rfl v4
    | i + 4, hi => simp [fds] at hi
  have hof := of_any fds (.slice (some ⟨W.heap.size + 6, 0, none⟩) 4 4) (.slice none 0 0) ⟨_, _, _, rfl⟩ (· < w0.heap.size) w0 (fun _ h => h) hDV
  have HV := hid (And.intro v1 (And.intro v2 r3))
  have HB0 := hid hb0
  have hw0' := hw0
  dsimp only [List.foldl] at hw0'
  have HW := hid hw0'
  clear hb0 gt r1 r2 r3 r4 r6 v1 v2 v4 hDV hw0 hw0'
  go_enter Try.func7, Try.ntmps7
  go_wp2_with fail
  simp only [Nat.add_assoc, Nat.reduceAdd]
  rw [HW.out]
  refine hof.mono ?_
  rintro e w1 ⟨hR, hb⟩
  rcases hR with ⟨v, _, rfl, ho⟩ | ⟨k, d, hk, hf, hp, _⟩
  · have ho4 : w1.ownsRow w0.heap.size 40 4 v 4 (S.en plc (pls fds 4)) := ho
    obtain ⟨g, cap, rfl⟩ := S.own_pos ho4 (by decide)
    have cs : ∀ (j : Nat) (u : Value), (S.en plc (pls fds 4))[j]? = some u → w1.cell? ⟨g, j, none⟩ = some u := fun j u hj => by
      have := World.ownsRow.cells ho4 (g := g) rfl j u hj
      rw [Addr.add_lit, Nat.zero_add] at this
      exact this
    rw [fds_pl] at cs
    have c8 := cs 8 _ rfl
    have c9 := cs 9 _ rfl
    have c10 := cs 10 _ rfl
    have c11 := cs 11 _ rfl
    have c12 := cs 12 _ rfl
    have c13 := cs 13 _ rfl
    have c14 := cs 14 _ rfl
    have c15 := cs 15 _ rfl
    have e1 : (rms fds fds.length).2.1 = 168 := fds_code
    have e2 : (rms fds fds.length).2.2 = 12 := fds_ram
    have e3 : (fds.length : Nat) = 4 := rfl
    rw [e1, e2]
    have HBB := hid (HB0.out.trans (hb.mono HB0.out.size))
    have x3 := (hb.block _ (S.lt_of HV.out.2.2)).trans HV.out.2.2
    have k1 := HV.out.1.below hb (fun _ h => h)
    have k2 := HV.out.2.1.below hb (fun _ h => h)
    have g0 := S.cell_of w1 (W.heap.size + 3) 0 _ 38 _ x3 rfl
    have g1 := S.cell_of w1 (W.heap.size + 3) 1 _ 38 _ x3 rfl
    have g2 := S.cell_of w1 (W.heap.size + 3) 2 _ 38 _ x3 rfl
    have g3 := S.cell_of w1 (W.heap.size + 3) 3 _ 38 _ x3 rfl
    have g4 := S.cell_of w1 (W.heap.size + 3) 4 _ 38 _ x3 rfl
    have g5 := S.cell_of w1 (W.heap.size + 3) 5 _ 38 _ x3 rfl
    have g6 := S.cell_of w1 (W.heap.size + 3) 6 _ 38 _ x3 rfl
    have g7 := S.cell_of w1 (W.heap.size + 3) 7 _ 38 _ x3 rfl
    have g8 := S.cell_of w1 (W.heap.size + 3) 8 _ 38 _ x3 rfl
    have HS1 := hid hb.size
    have HK := hid (And.intro k1 k2)
    have lt3 : W.heap.size + 3 < w1.heap.size := by have := hb.size; omega
    have ltg : g < w1.heap.size := World.block_lt_of_cell? w1 _ c8
    have hl1 : (w1.alloc (.cells #[.int .i64 0, .int .i64 0] 25)).heap.size = w1.heap.size + 1 := by simp
    obtain ⟨w2, hw2⟩ : ∃ w2, (w1.alloc (.cells #[.int .i64 0, .int .i64 0] 25)).alloc (.cells #[.int .i64 4, .int .i64 0, .int .u16 0, .string ⟨#[]⟩, .slice (some ⟨W.heap.size + 1, 0, none⟩) 1 1, .slice (some ⟨W.heap.size + 2, 0, none⟩) 1 1, .bool true, .int .i64 0, .int .i64 0] 38) = w2 := ⟨_, rfl⟩
    have b2 : Below w1.heap.size w1 w2 := by rw [← hw2]; exact ((Below.refl _ w1).alloc (Nat.le_refl _) _).alloc (by simp) _
    have s2 : w2.heap.size = w1.heap.size + 2 := by rw [← hw2]; simp
    have q2 : w2.heap[w1.heap.size + 1]? = some (.cells ([.int .i64 4, .int .i64 0, .int .u16 0, .string ⟨#[]⟩, .slice (some ⟨W.heap.size + 1, 0, none⟩) 1 1, .slice (some ⟨W.heap.size + 2, 0, none⟩) 1 1, .bool true, .int .i64 0, .int .i64 0] : List Value).toArray 38 (0, 0)) := by rw [← hw2]; exact heap_alloc2_new w1 _ _
    have nv : NV w2 (· < w2.heap.size) (.slice (some ⟨w1.heap.size + 1, 0, none⟩) 1 1) [nChoice] := by
      refine NV.row (l := [nChoice]) (by show w1.heap.size + 1 < w2.heap.size; omega) (by decide) (NA.cons (n1_of q2 rfl (NV.kept k1 (fun i hi => b2.block i ?_) fun i hi => ?_) (NV.kept k2 (fun i hi => b2.block i ?_) fun i hi => ?_)) (NA.nil _ _ _ _))
      · exact Nat.lt_of_lt_of_le hi hb.size
      · exact Nat.lt_of_lt_of_le hi (Nat.le_trans hb.size b2.size)
      · exact Nat.lt_of_lt_of_le hi hb.size
      · exact Nat.lt_of_lt_of_le hi (Nat.le_trans hb.size b2.size)
    have hsz := size_any [nChoice] _ (· < w2.heap.size) w2 (fun _ h => h) nv
    rw [cl_choice] at hsz
    have HB2 := hid (HB0.out.trans ((hb.trans (b2.mono hb.size)).mono HB0.out.size))
    have HC := hid (And.intro b2 (And.intro c8 (And.intro c9 (And.intro c10 (And.intro c11 (And.intro c12 (And.intro c13 (And.intro c14 c15))))))))
    have HW2 := hid hw2
    clear hof cs ho ho4 hb x3 k1 k2 e1 e2 HW b2 s2 q2 nv hw2 hl1 c8 c9 c10 c11 c12 c13 c14 c15
    go_wp2_with fail
    rw [HW2.out]
    refine hsz.mono ?_
    rintro e w3 ⟨rfl, hb3⟩
    have e16 : wrap64 (2 * 8) = 16 := by rw [w_in _ (by omega)]; rfl
    rw [e16]
    have hb13 := HC.out.1.trans (hb3.mono HC.out.1.size)
    have kc : ∀ (j : Nat) (u : Value), w1.cell? ⟨g, j, none⟩ = some u → w3.cell? ⟨g, j, none⟩ = some u := fun j u h => by rw [hb13.cell ltg]; exact h
    have d8 := kc _ _ HC.out.2.1
    have d9 := kc _ _ HC.out.2.2.1
    have d10 := kc _ _ HC.out.2.2.2.1
    have d11 := kc _ _ HC.out.2.2.2.2.1
    have d12 := kc _ _ HC.out.2.2.2.2.2.1
    have d13 := kc _ _ HC.out.2.2.2.2.2.2.1
    have d14 := kc _ _ HC.out.2.2.2.2.2.2.2.1
    have d15 := kc _ _ HC.out.2.2.2.2.2.2.2.2
    have HB3 := hid (HB2.out.trans (hb3.mono HB2.out.size))
    clear kc hb13 hb3 hsz g0 g1 g2 g3 g4 g5 g6 g7 g8 e16
    go_wp2
    go_ret
    exact ⟨rfl, HB3.out⟩
  · exfalso
    match k, hk with
    | 0, _ => exact hp fds_ps.1
    | 1, _ => exact hp fds_ps.2.1
    | 2, _ => exact hp fds_ps.2.2.1
    | 3, _ => exact hp fds_ps.2.2.2
    | k + 4, hk => simp [fds] at hk
end Go.Proofs.Yteeanomkbclinaa.Y
