import Derived.Test.YtlilefhmohkfkaaGreatDoorEJnW
import Derived.Test.YtlilefhmohkfkaaGreatDoorETpb
import Derived.Test.YtlilefhmohkfkaaGreatDoorYBank
/-! Rows that the law builds; known. -/
namespace Go.Proofs.YtlilefhmohkfkaaGreatDoor.E
open Go.RowKit
open Go.Proofs
open Go.Proofs.YtlilefhmohkfkaaGreatDoor.Y (Nd Df Ps ndc dfc hid NV DV D1 cells6 cells9 BV N1)
open R (chk cks ck own1 Bk lk numb)
set_option linter.unusedVariables false
set_option linter.unusedSimpArgs false
set_option maxHeartbeats 2000000
set_option maxRecDepth 100000
/-- The cells of a leaf. -/
def lfc (n : Nd) : List Value := ndc n (.slice none 0 0) (.slice none 0 0)
theorem nv_leaf {W : World} {O : Nat → Prop} {b c : Nat} {t : TypeId} {l : List Nd} (h : W.heap[b]? = some (.cells (S.en lfc l).toArray t (0, 0))) (hO : O b) (hl : l.length ≤ 140737488355328) (hh : ∀ n ∈ l, n.th = [] ∧ n.el = []) : NV W O (.slice (some ⟨b, 0, none⟩) l.length c) l := by
  refine NV.row hO hl fun i n hi => ?_
  obtain ⟨h1, h2⟩ := hh n (List.mem_of_getElem? hi)
  refine N1.mk (.slice none 0 0) (.slice none 0 0) (fun j x hx => ?_) (by rw [h1]; exact NV.nil (.inl rfl)) (by rw [h2]; exact NV.nil (.inl rfl))
  have hj : j < 9 := (List.getElem?_eq_some_iff.1 hx).1
  rw [Nat.zero_add]
  exact S.cell_of W b (i * 9 + j) _ t _ h ((S.en_get (e := lfc) (s := 9) (fun a => rfl) l i j n hi hj).trans hx)
def drc (x : Df × Value) : List Value := dfc x.1 x.2
theorem dv_lit {W : World} {O : Nat → Prop} {b c : Nat} {t : TypeId} {L : List (Df × Value)} (h : W.heap[b]? = some (.cells (S.en drc L).toArray t (0, 0))) (hO : O b) (hl : L.length ≤ 140737488355328) (hb : ∀ x ∈ L, NV W O x.2 x.1.body) : DV W O (.slice (some ⟨b, 0, none⟩) L.length c) (L.map (·.1)) := by
  refine ⟨_, c, by rw [List.length_map], by rw [List.length_map]; exact hl, fun i d hi => ?_⟩
  rw [List.getElem?_map] at hi
  cases hx : L[i]? with
  | none => rw [hx] at hi; cases hi
  | some x =>
    rw [hx] at hi
    cases hi
    refine ⟨b, 0, rfl, hO, x.2, fun j u hu => ?_, hb x (List.mem_of_getElem? hx)⟩
    have hj : j < 6 := (List.getElem?_eq_some_iff.1 hu).1
    rw [Nat.zero_add]
    exact S.cell_of W b (i * 6 + j) _ t _ h ((S.en_get (e := drc) (s := 6) (fun a => rfl) L i j x hx hj).trans hu)
theorem bv_nil (W : World) (O : Nat → Prop) : BV W O (.slice none 0 0) [] := ⟨none, 0, rfl, fun i d h => by simp at h⟩
theorem so_yes {W w' : World} {ds : List Df} {bs : List Bk} {e : Ending} (hz : chk ds bs = 0) (h : SO W ds bs e w') : Below W.heap.size W w' ∧ ∃ g c, e = .returned (.tuple #[.slice (some ⟨g, 0, none⟩) (wordsOf ds).length c, .int .i64 0]) ∧ w'.ownsRow W.heap.size 47 9 (.slice (some ⟨g, 0, none⟩) (wordsOf ds).length c) (wordsOf ds).length (S.en tyc (shs ds)) := by
  refine ⟨h.1, ?_⟩
  have := h.2
  rw [if_pos hz] at this
  exact this
/-! ### Leaves, computed -/
theorem body_leaf (kn : ByteArray → Option Ty) : ∀ (l : List Nd), (∀ n ∈ l, n.th = [] ∧ n.el = []) → body kn l = run (l.map fun n => nodeB kn n.k n.op n.nm n.p (run []) (run []))
  | l, h => by
    unfold body
    rw [List.map_congr_left fun n hn => ?_]
    obtain ⟨h1, h2⟩ := h n hn
    rw [node_is, h1, h2]
    rfl
theorem ck_leaf (names : List ByteArray) (n : Nd) (h : n.th = [] ∧ n.el = []) (i : Nat × Bool) : ck names n i = own1 names n i := by
  rw [R.ck_is, h.1, h.2]
  by_cases e : own1 names n i = 0
  · rw [if_pos e, if_pos (R.cks_nil _ _), e]; rfl
  · rw [if_neg e]
theorem cks_leaf (names : List ByteArray) : ∀ (l : List Nd), (∀ n ∈ l, n.th = [] ∧ n.el = []) → ∀ i, cks names l i = R.fe (l.map (own1 names)) i
  | [], _, i => rfl
  | n :: r, h, i => by
    rw [R.cks_cons, List.map_cons, R.fe, ck_leaf names n (h n (by simp)), cks_leaf names r (fun m hm => h m (by simp [hm]))]
def nsq : ByteArray := ⟨#[115, 113]⟩
def pnd (op : Int) : Nd := ⟨1, op, 0, ⟨#[]⟩, [], [], false, (0, 0)⟩
def lnd (x : Int) : Nd := ⟨2, 0, x, ⟨#[]⟩, [], [], false, (0, 0)⟩
def sqB : List Nd := [pnd 12, pnd 23]
def mnB : List Nd := [lnd 5, cnd nsq, pnd 13]
def ds2 : List Df := [wd nsq sqB, wd nmain mnB]
theorem sq_leaf : ∀ n ∈ sqB, n.th = [] ∧ n.el = [] := by intro n hn; simp [sqB, pnd] at hn; rcases hn with rfl | rfl <;> exact ⟨rfl, rfl⟩
theorem mn_leaf : ∀ n ∈ mnB, n.th = [] ∧ n.el = [] := by intro n hn; simp [mnB, pnd, lnd, cnd] at hn; rcases hn with rfl | rfl | rfl <;> exact ⟨rfl, rfl⟩
theorem chk2 : chk ds2 [] = 0 := by
  have h1 : R.dfE [] (wd nsq sqB) = 0 := by
    unfold R.dfE
    show (if _ then _ else if _ then _ else if _ then _ else if _ then _ else cks [] sqB (0, false)) = 0
    rw [cks_leaf [] sqB sq_leaf]
    kernel_rfl
  have h2 : R.dfE [nsq] (wd nmain mnB) = 0 := by
    unfold R.dfE
    show (if _ then _ else if _ then _ else if _ then _ else if _ then _ else cks [nsq] mnB (0, false)) = 0
    rw [cks_leaf [nsq] mnB mn_leaf]
    kernel_rfl
  have h3 : R.dsE [] ds2 = 0 := by
    unfold ds2
    rw [R.dsE, if_pos h1, R.dsE]
    show (if R.dfE [nsq] (wd nmain mnB) = 0 then _ else _) = 0
    rw [if_pos h2]
    rfl
  unfold chk
  rw [if_pos h3, if_pos (show R.bkE (-1) [] = 0 from rfl), if_pos (show ds2.any R.isMain = true by kernel_rfl)]
def tsq : Ty := ⟨nsq, 1, 1, 1, 0, false, 0, (0, 0)⟩
def tmn : Ty := ⟨nmain, 0, 0, 2, 1, false, 0, (0, 0)⟩
theorem shs2 : shs ds2 = [tsq, tmn] := by
  have h1 : tyOf (known (numb ((wordsOf ds2).map (·.nm)) 0) []) (wd nsq sqB) = tsq := by
    unfold tyOf word
    rw [show (wd nsq sqB).body = sqB from rfl, body_leaf _ sqB sq_leaf]
    kernel_rfl
  have h2 : tyOf (known (numb ((wordsOf ds2).map (·.nm)) 0) [tsq]) (wd nmain mnB) = tmn := by
    unfold tyOf word
    rw [show (wd nmain mnB).body = mnB from rfl, body_leaf _ mnB mn_leaf]
    kernel_rfl
  have hw : wordsOf ds2 = [wd nsq sqB, wd nmain mnB] := rfl
  unfold shs
  rw [hw] at h1 h2 ⊢
  rw [tysP, List.nil_append, h1, tysP, List.cons_append, List.nil_append, h2, tysP]
theorem fb_none : ∀ (bs : List Bool) (ts : List Ty), (∀ t ∈ ts, t.e = 0) → fb bs ts = none
  | [], _, _ => rfl
  | _ :: _, [], _ => rfl
  | b :: bs, t :: ts, h => by
    rw [fb_cons, if_neg (fun hh => hh.2 (h t (by simp)))]
    exact fb_none bs ts fun u hu => h u (by simp [hu])
theorem typ2 : typP ds2 [] = (0, (0, 0)) := by
  unfold typP
  rw [if_pos chk2, shs2, fb_none _ [tsq, tmn] (by intro t ht; simp at ht; rcases ht with rfl | rfl <;> rfl)]
  have hm : mainAt ds2 = 1 := by kernel_rfl
  rw [hm]
  unfold lastOf
  rw [shs2]
  rfl
end Go.Proofs.YtlilefhmohkfkaaGreatDoor.E
/-! known. -/
namespace Go.Proofs.YtlilefhmohkfkaaGreatDoor.E
open Go.RowKit
open Go.Proofs
open Go.Proofs.YtlilefhmohkfkaaGreatDoor.Y (Nd Df Ps ndc dfc hid NV DV D1 cells6 cells9 BV N1)
open R (chk Bk)
set_option linter.unusedVariables false
set_option linter.unusedSimpArgs false
set_option maxHeartbeats 2000000
set_option maxRecDepth 100000
theorem known_any (W : World) : Calls Tryz.prog 11 #[] W fun e w' => e = .returned (.bool true) ∧ Below W.heap.size W w' := by
  go_enter Tryz.func11, Tryz.ntmps11
  go_wp2_with fail
  refine (prim_law 12 W).mono ?_
  rintro e w1 ⟨rfl, k1⟩
  go_wp2_with fail
  refine (prim_law 23 w1).mono ?_
  rintro e w2 ⟨rfl, k2⟩
  have K2 := hid (k1.trans (k2.mono k1.size))
  clear k1 k2
  obtain ⟨w3, hw3⟩ : ∃ w3, w2.alloc (.cells #[.int .i64 1, .int .i64 12, .int .u16 0, .string ⟨#[]⟩, .slice none 0 0, .slice none 0 0, .bool false, .int .i64 0, .int .i64 0, .int .i64 1, .int .i64 23, .int .u16 0, .string ⟨#[]⟩, .slice none 0 0, .slice none 0 0, .bool false, .int .i64 0, .int .i64 0] 30) = w3 := ⟨_, rfl⟩
  have h3 : w3.heap[w2.heap.size]? = some (.cells (S.en lfc sqB).toArray 30 (0, 0)) := by rw [← hw3]; exact heap_alloc_new w2 _
  have k3 : Below w2.heap.size w2 w3 := by rw [← hw3]; exact (Below.refl _ _).alloc (Nat.le_refl _) _
  have H3 := hid (And.intro h3 (K2.out.trans (k3.mono K2.out.size)))
  clear h3 k3 K2
  go_wp2_with fail
  refine (word_law _ _ _ _ w3).mono ?_
  rintro e w4 ⟨rfl, k4⟩
  clear hw3
  go_wp2_with fail
  refine (lit_law 5 w4).mono ?_
  rintro e w5 ⟨rfl, k5⟩
  go_wp2_with fail
  refine (call_law _ w5).mono ?_
  rintro e w6 ⟨rfl, k6⟩
  go_wp2_with fail
  refine (prim_law 13 w6).mono ?_
  rintro e w7 ⟨rfl, k7⟩
  have K7 := hid (((k4.trans (k5.mono k4.size)).trans (k6.mono (Nat.le_trans k4.size k5.size))).trans (k7.mono (Nat.le_trans (Nat.le_trans k4.size k5.size) k6.size)))
  clear k4 k5 k6 k7
  obtain ⟨w8, hw8⟩ : ∃ w8, w7.alloc (.cells #[.int .i64 2, .int .i64 0, .int .u16 5, .string ⟨#[]⟩, .slice none 0 0, .slice none 0 0, .bool false, .int .i64 0, .int .i64 0, .int .i64 3, .int .i64 0, .int .u16 0, .string ⟨#[115, 113]⟩, .slice none 0 0, .slice none 0 0, .bool false, .int .i64 0, .int .i64 0, .int .i64 1, .int .i64 13, .int .u16 0, .string ⟨#[]⟩, .slice none 0 0, .slice none 0 0, .bool false, .int .i64 0, .int .i64 0] 30) = w8 := ⟨_, rfl⟩
  have h8 : w8.heap[w7.heap.size]? = some (.cells (S.en lfc mnB).toArray 30 (0, 0)) := by rw [← hw8]; exact heap_alloc_new w7 _
  have k8 : Below w7.heap.size w7 w8 := by rw [← hw8]; exact (Below.refl _ _).alloc (Nat.le_refl _) _
  have H8 := hid (And.intro h8 (And.intro ((K7.out.trans (k8.mono K7.out.size)).block _ (S.lt_of H3.out.1)) (H3.out.2.trans ((K7.out.trans (k8.mono K7.out.size)).mono H3.out.2.size))))
  clear h8 k8 K7
  go_wp2_with fail
  refine (word_law _ _ _ _ w8).mono ?_
  rintro e w9 ⟨rfl, k9⟩
  have K9 := hid k9
  clear hw8 k9
  obtain ⟨w10, hw10⟩ : ∃ w10, w9.alloc (.cells #[.int .i64 1, .string ⟨#[115, 113]⟩, .int .u16 0, .slice (some ⟨w2.heap.size, 0, none⟩) 2 2, .int .i64 0, .int .i64 0, .int .i64 1, .string ⟨#[109, 97, 105, 110]⟩, .int .u16 0, .slice (some ⟨w7.heap.size, 0, none⟩) 3 3, .int .i64 0, .int .i64 0] 27) = w10 := ⟨_, rfl⟩
  have h10 : w10.heap[w9.heap.size]? = some (.cells (S.en drc [(wd nsq sqB, .slice (some ⟨w2.heap.size, 0, none⟩) 2 2), (wd nmain mnB, .slice (some ⟨w7.heap.size, 0, none⟩) 3 3)]).toArray 27 (0, 0)) := by rw [← hw10]; exact heap_alloc_new w9 _
  have k10 : Below w9.heap.size w9 w10 := by rw [← hw10]; exact (Below.refl _ _).alloc (Nat.le_refl _) _
  go_upto_region 2 with fail
  clear hw10
  obtain ⟨w11, hw11⟩ : ∃ w11, w10.alloc (.cells #[.slice (some ⟨w9.heap.size, 0, none⟩) 2 2, .slice none 0 0] 35) = w11 := ⟨_, rfl⟩
  rw [hw11]
  have h11 : w11.heap[w10.heap.size]? = some (.cells [Value.slice (some ⟨w9.heap.size, 0, none⟩) 2 2, .slice none 0 0].toArray 35 (0, 0)) := by rw [← hw11]; exact heap_alloc_new w10 _
  have k11 : Below w10.heap.size w10 w11 := by rw [← hw11]; exact (Below.refl _ _).alloc (Nat.le_refl _) _
  have kk : Below w8.heap.size w8 w11 := (K9.out.trans (k10.mono K9.out.size)).trans (k11.mono (Nat.le_trans K9.out.size k10.size))
  have e2 := (kk.block _ (S.lt_of (H8.out.2.1.trans H3.out.1))).trans (H8.out.2.1.trans H3.out.1)
  have e7 := (kk.block _ (S.lt_of H8.out.1)).trans H8.out.1
  have e9 := (k11.block _ (S.lt_of h10)).trans h10
  have hB11 : Below W.heap.size W w11 := H8.out.2.2.trans (kk.mono H8.out.2.2.size)
  have hDV : DV w11 (fun j => j < w11.heap.size) (.slice (some ⟨w9.heap.size, 0, none⟩) 2 2) ds2 := dv_lit (c := 2) e9 (S.lt_of e9) (by simp) (by
    intro x hx
    simp only [List.mem_cons, List.not_mem_nil, or_false] at hx
    rcases hx with rfl | rfl
    · exact nv_leaf (l := sqB) e2 (S.lt_of e2) (by decide) sq_leaf
    · exact nv_leaf (l := mnB) e7 (S.lt_of e7) (by decide) mn_leaf)
  have hnm : ∀ d ∈ ds2, d.nm.size ≤ maxLen := by
    intro d hd
    simp [ds2, wd] at hd
    rcases hd with rfl | rfl <;> decide
  have hcs := shapes_any ds2 [] (by decide) hnm (by decide) _ _ _ w11 (fun _ h => h) hDV (bv_nil _ _)
  have c0 := S.cell_of w11 _ 0 _ 35 _ h11 rfl
  have c1 := S.cell_of w11 _ 1 _ 35 _ h11 rfl
  have HK := hid (And.intro hB11 (And.intro hDV (And.intro hnm h11)))
  clear hB11 hDV hnm h11 e2 e7 e9 kk k11 k10 h10 H8 H3 K9
  go_wp2_with fail
  refine hcs.mono ?_
  intro e w12 hso
  obtain ⟨k12, g, c, rfl, hown⟩ := so_yes chk2 hso
  rw [shs2] at hown
  have hown2 : w12.ownsRow w11.heap.size 47 9 (.slice (some ⟨g, 0, none⟩) 2 c) 2 (S.en tyc [tsq, tmn]) := hown
  have p12 := (k12.block _ (S.lt_of HK.out.2.2.2)).trans HK.out.2.2.2
  clear hcs hw11 c0 c1 hown
  have c0 := S.cell_of w12 _ 0 _ 35 _ p12 rfl
  have c1 := S.cell_of w12 _ 1 _ 35 _ p12 rfl
  have hct := typable_any ds2 [] (by decide) HK.out.2.2.1 (by decide) _ _ _ w12 (fun j hj => Nat.lt_of_lt_of_le hj k12.size) (HK.out.2.1.below k12 (fun _ h => h)) (bv_nil _ _)
  rw [typ2] at hct
  obtain ⟨g', c', eg, _, hg, hce⟩ := own_cell hown2 (by decide)
  cases eg
  have H12 := hid (And.intro k12 (And.intro hg hce))
  clear p12 k12 hown2 hg hce
  go_wp2_with fail
  refine hct.mono ?_
  rintro e w13 ⟨rfl, k13⟩
  have hct' := trivial
  go_upto_region 4 with fail
  obtain ⟨w14, hw14⟩ : ∃ w14, w13.alloc (.cells #[.int .i64 0, .int .i64 0] 25) = w14 := ⟨_, rfl⟩
  rw [hw14]
  have v14 : w14.heap[w13.heap.size]? = some (.cells [Value.int .i64 0, .int .i64 0].toArray 25 (0, 0)) := by rw [← hw14]; exact heap_alloc_new w13 _
  have k14 : Below w13.heap.size w13 w14 := by rw [← hw14]; exact (Below.refl _ _).alloc (Nat.le_refl _) _
  have kk : Below w12.heap.size w12 w14 := k13.trans (k14.mono k13.size)
  have hkb := kk.block _ H12.out.2.1
  have x1 : w14.cell? ⟨g, 1, none⟩ = some (.int .i64 1) := (World.cell?_of_block (w := w12) (a := ⟨g, 1, none⟩) hkb).trans (H12.out.2.2 1 _ rfl)
  have x2 : w14.cell? ⟨g, 2, none⟩ = some (.int .i64 1) := (World.cell?_of_block (w := w12) (a := ⟨g, 2, none⟩) hkb).trans (H12.out.2.2 2 _ rfl)
  have x3 : w14.cell? ⟨g, 3, none⟩ = some (.int .i64 1) := (World.cell?_of_block (w := w12) (a := ⟨g, 3, none⟩) hkb).trans (H12.out.2.2 3 _ rfl)
  have x4 : w14.cell? ⟨g, 4, none⟩ = some (.int .i64 0) := (World.cell?_of_block (w := w12) (a := ⟨g, 4, none⟩) hkb).trans (H12.out.2.2 4 _ rfl)
  have x5 : w14.cell? ⟨g, 5, none⟩ = some (.bool false) := (World.cell?_of_block (w := w12) (a := ⟨g, 5, none⟩) hkb).trans (H12.out.2.2 5 _ rfl)
  have x10 : w14.cell? ⟨g, 10, none⟩ = some (.int .i64 0) := (World.cell?_of_block (w := w12) (a := ⟨g, 10, none⟩) hkb).trans (H12.out.2.2 10 _ rfl)
  have x11 : w14.cell? ⟨g, 11, none⟩ = some (.int .i64 0) := (World.cell?_of_block (w := w12) (a := ⟨g, 11, none⟩) hkb).trans (H12.out.2.2 11 _ rfl)
  have x12 : w14.cell? ⟨g, 12, none⟩ = some (.int .i64 2) := (World.cell?_of_block (w := w12) (a := ⟨g, 12, none⟩) hkb).trans (H12.out.2.2 12 _ rfl)
  have x13 : w14.cell? ⟨g, 13, none⟩ = some (.int .i64 1) := (World.cell?_of_block (w := w12) (a := ⟨g, 13, none⟩) hkb).trans (H12.out.2.2 13 _ rfl)
  have x14 : w14.cell? ⟨g, 14, none⟩ = some (.bool false) := (World.cell?_of_block (w := w12) (a := ⟨g, 14, none⟩) hkb).trans (H12.out.2.2 14 _ rfl)
  have p0 := S.cell_of w14 _ 0 _ 25 _ v14 rfl
  have p1 := S.cell_of w14 _ 1 _ 25 _ v14 rfl
  have HB := hid (HK.out.1.trans ((H12.out.1.trans (kk.mono H12.out.1.size)).mono HK.out.1.size))
  have q1 := fun W => eql_pos W 0 0
  have q2 := fun W => eql_sh W 1 1 1 0 false
  have q3 := fun W => eql_sh W 0 0 2 1 false
  clear hct c0 c1 v14 k14 kk hkb k13
  go_wp2_with fail
  refine (num_any 0 w14).mono ?_
  rintro e w15 ⟨rfl, hw15⟩
  obtain rfl := hw15.symm
  clear hw15
  go_wp2_with fail
  refine (num_any 0 _).mono ?_
  rintro e w16 ⟨rfl, hw16⟩
  obtain rfl := hw16.symm
  clear hw16
  go_wp2
  go_ret
  exact ⟨rfl, HB.out⟩
end Go.Proofs.YtlilefhmohkfkaaGreatDoor.E
