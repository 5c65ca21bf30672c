import Derived.Test.YtlilefhmohkfkaaGreatDoorENmO
import Derived.Test.YtlilefhmohkfkaaGreatDoorETpb
import Derived.Test.YtlilefhmohkfkaaGreatDoorVDef
namespace Go.Proofs.YtlilefhmohkfkaaGreatDoor.E
open Go.RowKit
open Go.Proofs
open Go.Proofs.YtlilefhmohkfkaaGreatDoor.Y (Nd Df Ps ndc dfc hid NV DV D1 cells6 cells9 BV nl)
open R (chk Bk lk numb dsE)
set_option linter.unusedVariables false
set_option linter.unusedSimpArgs false
set_option maxHeartbeats 4000000
set_option maxRecDepth 100000
def DC (W : World) (O : Nat -> Prop) : List Df -> List Value -> Prop
  | [], cs => cs = []
  | d :: r, cs => ∃ bv cs', cs = dfc d bv ++ cs' /\ NV W O bv d.body /\ DC W O r cs'
theorem DC.app {W : World} {O : Nat -> Prop} : ∀ {l l' : List Df} {cs cs' : List Value}, DC W O l cs -> DC W O l' cs' -> DC W O (l ++ l') (cs ++ cs')
  | [], l', cs, cs', h, h' => by rw [DC] at h; subst h; exact h'
  | n :: r, l', cs, cs', h, h' => by
    rw [DC] at h
    obtain ⟨tv, c2, rfl, ht, h2⟩ := h
    rw [List.cons_append, DC]
    exact ⟨tv, c2 ++ cs', by rw [List.append_assoc], ht, DC.app h2 h'⟩
theorem DC.kept {W W' : World} {O O' : Nat -> Prop} (k : ∀ i, O i -> W'.heap[i]? = W.heap[i]?) (m : ∀ i, O i -> O' i) : ∀ {l : List Df} {cs : List Value}, DC W O l cs -> DC W' O' l cs
  | [], cs, h => by rw [DC] at h ⊢; exact h
  | n :: r, cs, h => by
    rw [DC] at h ⊢
    obtain ⟨tv, c2, rfl, ht, h2⟩ := h
    exact ⟨tv, c2, rfl, ht.kept k m, DC.kept k m h2⟩
theorem DC.at {W : World} {O : Nat -> Prop} : ∀ {l : List Df} {cs : List Value}, DC W O l cs -> ∀ (i : Nat) (d : Df), l[i]? = some d -> ∃ bv, NV W O bv d.body /\ ∀ (j : Nat) (x : Value), (dfc d bv)[j]? = some x -> cs[i * 6 + j]? = some x
  | [], cs, h, i, d, hi => by simp at hi
  | n :: r, cs, h, i, d, hi => by
    rw [DC] at h
    obtain ⟨tv, c2, rfl, ht, h2⟩ := h
    cases i with
    | zero =>
      simp at hi
      subst hi
      refine ⟨tv, ht, fun j x hx => ?_⟩
      rw [Nat.zero_mul, Nat.zero_add, List.getElem?_append_left (List.getElem?_eq_some_iff.1 hx).1]
      exact hx
    | succ i =>
      obtain ⟨bv, g1, g2⟩ := DC.at h2 i d (by simpa using hi)
      refine ⟨bv, g1, fun j x hx => ?_⟩
      have hl : (dfc n tv).length = 6 := rfl
      rw [List.getElem?_append_right (by rw [hl]; omega), hl]
      have e : (i + 1) * 6 + j - 6 = i * 6 + j := by omega
      rw [e]
      exact g2 j x hx
theorem own_dv {W : World} {O : Nat -> Prop} {B : Nat} {v : Value} {l : List Df} {cs : List Value} (h : W.ownsRow B 27 6 v l.length cs) (hc : DC W O l cs) (hl : l.length <= 140737488355328) (hO : ∀ j, O j -> j < W.heap.size) : DV W (fun j => j < W.heap.size) v l := by
  rcases h.2 with ⟨rfl, e⟩ | ⟨g, cap, cur, rfl, h2, h3, _⟩
  · obtain rfl := List.eq_nil_of_length_eq_zero e
    exact ⟨none, 0, rfl, by simp, fun i d hi => by simp at hi⟩
  · refine ⟨_, cap, rfl, hl, fun i d hi => ⟨g, 0, rfl, S.lt_of h3, ?_⟩⟩
    obtain ⟨bv, g1, g2⟩ := hc.at i d hi
    refine ⟨bv, fun j x hx => ?_, g1.kept (fun _ _ => rfl) hO⟩
    have := World.ownsRow.cells h (g := g) rfl (i * 6 + j) x (g2 j x hx)
    rw [Addr.add_lit] at this
    rw [Nat.zero_add] at this ⊢
    exact this
theorem infoDf : (Tryz.prog.info? 27).map (fun i => (i.zero, i.size, i.bytes)) = some (some (.agg #[.int .i64 0, .string ⟨#[]⟩, .int .u16 0, .slice none 0 0, .int .i64 0, .int .i64 0]), 6, 72) := by kernel_rfl
theorem ren_idx (ds : List Df) (hN : (ds.map (·.nm)).Nodup) (k : Nat) (d : Df) (h : ds[k]? = some d) : ren ds d.nm = if d.nm = nMain then d.nm else zzN k := by
  by_cases hm : d.nm = nMain
  · rw [if_pos hm, hm]; exact ren_main ds
  · rw [if_neg hm]
    have hk : (ds.map (·.nm))[k]? = some d.nm := by rw [List.getElem?_map, h]; rfl
    rcases ren_at ds d.nm (List.mem_of_getElem? hk) with ⟨h1, _⟩ | ⟨_, i, _, a2, a3, a4⟩
    · exact absurd h1 hm
    · rw [a4]
      congr 1
      have hi := (List.getElem?_eq_some_iff.1 a3).1
      have e1 := (List.getElem?_eq_some_iff.1 a3).2
      have e2 := (List.getElem?_eq_some_iff.1 hk).2
      have hk' := (List.getElem?_eq_some_iff.1 hk).1
      have e3 := e1.trans e2.symm
      have hp := List.pairwise_iff_getElem.1 hN
      rcases Nat.lt_trichotomy i k with h1 | h1 | h1
      · exact absurd e3 (hp i k hi hk' h1)
      · exact h1
      · exact absurd e3.symm (hp k i hk' hi h1)
theorem ren_size (ds : List Df) (s : ByteArray) (hs : s ∈ ds.map (·.nm)) : (ren ds s).size <= maxLen := by
  rcases ren_at ds s hs with ⟨h1, h2⟩ | ⟨h1, i, a1, a2, a3, a4⟩
  · rw [h2]; decide
  · rw [a4]
    have := dig_len 7 i
    show (zzL i).toArray.size <= maxLen
    rw [List.size_toArray]
    unfold zzL dgs maxLen
    simp only [List.length_cons]
    omega
theorem so_nn {W w' : World} {ds : List Df} {bs : List Bk} {e : Ending} {n : Nat} (hn : (wordsOf ds).length = n) (hz : chk ds bs = 0) (h : SO W ds bs e w') : Below W.heap.size W w' /\ ∃ g c, e = .returned (.tuple #[.slice (some ⟨g, 0, none⟩) n c, .int .i64 0]) /\ w'.ownsRow W.heap.size 47 9 (.slice (some ⟨g, 0, none⟩) n c) n (S.en tyc (shs ds)) := by
  subst hn
  exact so_yes hz h
theorem neq_sh (W : World) (i o d r : Int) (n : Bool) : (binOp .neq 45 (.agg #[.int .i64 i, .int .i64 o, .int .i64 d, .int .i64 r, .bool n]) (.agg #[.int .i64 i, .int .i64 o, .int .i64 d, .int .i64 r, .bool n])).run Tryz.prog W = .ok (.bool false) W := by
  obtain ⟨hs, hf, hp, k3, k4⟩ := shF
  rw [run_neq_struct, run_equalIn_agg W 9999 _ _ _ hs hp, hf]
  simp [go_sem, Tryz.underlying3, Tryz.underlying4, k3, k4, Result.andThen]
def Ny (B : Nat) (w : World) (v : Value) (qb j : Nat) : Prop := (B <= j /\ j < w.heap.size) /\ some j ≠ v.ownBlock /\ j ≠ qb
theorem names_walk (ds : List Df) (bs : List Bk) (hd0 : ds.length <= 1048575) (hnm : ∀ d ∈ ds, d.nm.size <= maxLen) (hnl : ∀ d ∈ ds, nl d.body <= 1048576) (hlb : bs.length <= 1048576) (dv bv : Value) (O : Nat -> Prop) (W : World) (hO : ∀ j, O j -> j < W.heap.size) (hD : DV W O dv ds) (hK : BV W O bv bs) (hG : V.GW W) :
    Calls Tryz.prog 4 #[.agg #[dv, bv]] W fun e w' => e = .returned (.bool true) /\ Below W.heap.size W w' := by
  have hd : ds.length <= 1048576 := by omega
  obtain ⟨pd, cd, rfl, hdl, hdp⟩ := id hD
  obtain ⟨bp, bc, rfl, _⟩ := id hK
  obtain ⟨W0, hW0⟩ : ∃ W0, W.alloc (.cells #[.slice pd ds.length cd, .slice bp bs.length bc] 35) = W0 := ⟨_, rfl⟩
  have hB : Below W.heap.size W W0 := by rw [<- hW0]; exact (Below.refl _ _).alloc (Nat.le_refl _) _
  have v0 : W0.heap[W.heap.size]? = some (.cells [Value.slice pd ds.length cd, .slice bp bs.length bc].toArray 35 (0, 0)) := by rw [<- hW0]; exact heap_alloc_new W _
  have c0 := S.cell_of W0 _ 0 _ 35 _ v0 rfl
  have c1 := S.cell_of W0 _ 1 _ 35 _ v0 rfl
  have hck := V.check_any ds bs hd hnm (by omega) _ _ O W0 (fun j hj => Nat.lt_of_lt_of_le (hO j hj) hB.size) (hD.below hB hO) (hK.below hB hO) (hG.below hB)
  have HH := hid (And.intro hB (And.intro v0 (And.intro hO (And.intro hD (And.intro hK (And.intro hnm hnl))))))
  clear hB v0 hO hD hK hnm hnl hG
  go_enter Tryz.func4, Tryz.ntmps4
  go_wp2_with fail
  refine hck.mono ?_
  rintro e w1 ⟨rfl, k1⟩
  clear hck hW0 c0 c1
  have H1 := hid (And.intro (bch2 HH.out.1 HH.out.1.size k1) ((k1.block _ (S.lt_of HH.out.2.1)).trans HH.out.2.1))
  clear k1
  by_cases hz : chk ds bs = 0
  case neg =>
    have hne : (chk ds bs != 0) = true := by simpa using hz
    clear hz
    go_wp2_with fail
    refine (known_any w1).mono ?_
    rintro e w2 ⟨rfl, kk⟩
    have HE := hid (bch2 H1.out.1 H1.out.1.size kk)
    clear kk
    go_wp2
    go_ret
    exact ⟨rfl, HE.out⟩
  have HZ := hid hz
  rw [hz]
  clear hz
  have hN : (ds.map (·.nm)).Nodup := by simpa using nodup_of ds [] (by simp) (chk_ds HZ.out)
  have HNd := hid hN
  clear hN
  obtain ⟨x1, hx1⟩ : ∃ x1, w1.alloc (.cells #[.int .i64 3, .string ⟨#[122, 118]⟩, .int .u16 2, .slice none 0 0, .int .i64 0, .int .i64 0] 27) = x1 := ⟨_, rfl⟩
  have kx1 : Below w1.heap.size w1 x1 := by rw [<- hx1]; exact (Below.refl _ _).alloc (Nat.le_refl _) _
  have vx1 : x1.heap[w1.heap.size]? = some (.cells (dfc zvD (.slice none 0 0)).toArray 27 (0, 0)) := by rw [<- hx1]; exact heap_alloc_new w1 _
  have SX := hid (show x1.heap.size = w1.heap.size + 1 by rw [<- hx1]; simp)
  go_upto_region 4 with fail
  clear hx1
  obtain ⟨x2, hx2⟩ : ∃ x2, x1.alloc (.cells #[.slice (some ⟨w1.heap.size, 0, none⟩) 1 1, .slice none 0 0] 35) = x2 := ⟨_, rfl⟩
  rw [hx2]
  have kx2 : Below x1.heap.size x1 x2 := by rw [<- hx2]; exact (Below.refl _ _).alloc (Nat.le_refl _) _
  have vx2 : x2.heap[x1.heap.size]? = some (.cells [Value.slice (some ⟨w1.heap.size, 0, none⟩) 1 1, .slice none 0 0].toArray 35 (0, 0)) := by rw [<- hx2]; exact heap_alloc_new x1 _
  have hz2 := (kx2.block _ (by have := SX.out; omega)).trans vx1
  have hbx2 : Below w1.heap.size w1 x2 := bch2 kx1 kx1.size kx2
  have hown0 : x2.ownsRow w1.heap.size 27 6 (.slice (some ⟨w1.heap.size, 0, none⟩) 1 1) 1 (dfc zvD (.slice none 0 0)) := ⟨rfl, .inr ⟨w1.heap.size, 1, _, rfl, Nat.le_refl _, hz2, Nat.le_refl _, by decide, rfl, rfl⟩⟩
  have p2 := (hbx2.block _ (S.lt_of H1.out.2)).trans H1.out.2
  have c0 := S.cell_of x2 _ 0 _ 35 _ p2 rfl
  obtain ⟨qb, hqb⟩ : ∃ qb, x1.heap.size = qb := ⟨_, rfl⟩
  have sx1 := SX.out
  rw [hqb] at vx2 sx1 ⊢
  have H2 := hid (And.intro vx2 (And.intro hbx2 (And.intro hown0 sx1)))
  clear hx2 kx1 vx1 kx2 vx2 hz2 hbx2 hown0 p2 hqb sx1
  go_wp2
  clear c0
  go_loopw [25] (fun ix wr => ∃ (k : Nat) (cs : List Value) (q : Option Addr) (qc : Nat), k <= ds.length /\ ix = .int .i64 (k : Int) /\ Below w1.heap.size w1 wr /\ wr.heap[qb]? = some (.cells [Value.slice q (k + 1) qc, .slice none 0 0].toArray 35 (0, 0)) /\ wr.ownsRow w1.heap.size 27 6 (.slice q (k + 1) qc) (k + 1) cs /\ some qb ≠ (Value.slice q (k + 1) qc).ownBlock /\ DC wr (Ny w1.heap.size wr (.slice q (k + 1) qc) qb) (zvD :: (ds.take k).map (ot xr ds)) cs) (fun ix _ => ds.length - (intOf ix).toNat)
  case atStart =>
    refine ⟨0, _, _, 1, by omega, rfl, H2.out.2.1, H2.out.1, H2.out.2.2.1, ?_, ?_⟩
    · intro e
      have e2 : qb = w1.heap.size := by simpa [Value.ownBlock] using e
      have := H2.out.2.2.2
      omega
    · exact ⟨.slice none 0 0, [], (List.append_nil _).symm, NV.nil (.inl rfl), rfl⟩
  case round =>
    obtain ⟨k, cs, q, qc, hk, rfl, hb, hq, hR, hqn, hC⟩ := hrel
    have pw := (hb.block _ (S.lt_of H1.out.2)).trans H1.out.2
    have HW := hid (And.intro hb (And.intro (bch2 H1.out.1 H1.out.1.size hb) (And.intro pw (And.intro hq (And.intro hR (And.intro hqn hC))))))
    clear pw hb hq hR hqn hC
    by_cases hlt : k < ds.length
    · have i1 : (k : Int) < ds.length := by omega
      have ea := List.getElem?_eq_getElem hlt
      have hbn := HH.out.2.2.2.2.2.2 ds[k] (List.getElem_mem _)
      have hri := ren_idx ds HNd.out k ds[k] ea
      generalize ds[k] = d at *
      obtain ⟨b, o, rfl, hOb, bvv, hcl, hN⟩ := hdp k d ea
      obtain ⟨qd, cqd, rfl, _, _⟩ := hN.ex
      have kb := HW.out.2.1.block b (HH.out.2.2.1 b hOb)
      obtain ⟨g0, g1, g2, g3, g4, g5⟩ := cells6 fun j x hx => (World.cell?_of_block (w := W) (a := ⟨b, o + k * 6 + j, none⟩) kb).trans (hcl j x hx)
      have HDB := hid (And.intro hN (And.intro hbn (And.intro ea hri)))
      have Hk := hid hk
      clear kb hcl hN hdp ea hbn hri hk
      by_cases hm : d.nm = nMain
      · have HM := hid hm
        have hm' : d.nm = ⟨#[109, 97, 105, 110]⟩ := hm
        rw [hm'] at g1
        clear hm hm'
        go_upto_region 9 with fail
        obtain ⟨x, hx⟩ : ∃ x, wr.alloc (.cells #[.int .i64 d.k, .string ⟨#[109, 97, 105, 110]⟩, .int .u16 d.v, .slice qd d.body.length cqd, .int .i64 d.p.1, .int .i64 d.p.2] 27) = x := ⟨_, rfl⟩
        rw [hx]
        have kx : Below wr.heap.size wr x := by rw [<- hx]; exact (Below.refl _ _).alloc (Nat.le_refl _) _
        have vx : x.heap[wr.heap.size]? = some (.cells (dfc ⟨d.k, ⟨#[109, 97, 105, 110]⟩, d.v, d.body, d.p⟩ (.slice qd d.body.length cqd)).toArray 27 (0, 0)) := by rw [<- hx]; exact heap_alloc_new wr _
        clear hx g0 g1 g2 g3 g4 g5
        have hWx : Below W.heap.size W x := bch2 HW.out.2.1 HW.out.2.1.size kx
        have px := (kx.block _ (S.lt_of HW.out.2.2.1)).trans HW.out.2.2.1
        have hc1 := other_any ds hd d.body _ _ (.slice bp bs.length bc) O x (fun j hj => Nat.lt_of_lt_of_le (HH.out.2.2.1 j hj) hWx.size) (HH.out.2.2.2.1.below hWx HH.out.2.2.1) ⟨_, _, _, rfl⟩ (HDB.out.1.below hWx HH.out.2.2.1) HDB.out.2.1
        obtain ⟨b0, b1, b2, b3, b4, b5⟩ := df_cells vx
        have p0 := S.cell_of x _ 0 _ 35 _ px rfl
        have p1 := S.cell_of x _ 1 _ 35 _ px rfl
        have HX := hid (And.intro kx vx)
        clear hWx px kx vx
        go_wp2_with fail
        refine hc1.mono ?_
        rintro e w3 ⟨vv, rfl, k3, nv3⟩
        obtain ⟨q3, d3, rfl, _, _⟩ := nv3.ex
        have vb3 := (k3.block _ (S.lt_of HX.out.2)).trans HX.out.2
        clear hc1 b0 b1 b2 b3 b4 b5 p0 p1
        obtain ⟨b0, b1, b2, b3, b4, b5⟩ := df_cells vb3
        have f3 := S.frozen_of w3 wr.heap.size 3 _ 27 vb3
        obtain ⟨z3, hz3⟩ : ∃ z3, w3.setCell ⟨wr.heap.size, 3, none⟩ (.slice q3 (ots xr ds d.body).length d3) = z3 := ⟨_, rfl⟩
        have vz3 : z3.heap[wr.heap.size]? = some (.cells (dfc ⟨d.k, ⟨#[109, 97, 105, 110]⟩, d.v, ots xr ds d.body, d.p⟩ (.slice q3 (ots xr ds d.body).length d3)).toArray 27 (0, 0)) := by rw [<- hz3]; exact S.setCell_heap w3 wr.heap.size 3 _ 27 _ vb3
        have ks3 : Below wr.heap.size wr z3 := by rw [<- hz3]; exact (HX.out.1.trans (k3.mono HX.out.1.size)).setCell (p := ⟨wr.heap.size, 3, none⟩) (Nat.le_refl _) _
        have blk3 : ∀ j, j ≠ wr.heap.size -> z3.heap[j]? = w3.heap[j]? := fun j hj => by rw [<- hz3]; exact S.setCell_other w3 wr.heap.size 3 j _ hj
        have sz3 : z3.heap.size = w3.heap.size := by rw [<- hz3]; exact S.setCell_size _ _ _
        obtain ⟨s0, s1, s2, s3, s4, s5⟩ := df_cells vz3
        have hqlt : qb < wr.heap.size := S.lt_of HW.out.2.2.2.1
        have qz3 := (ks3.block _ hqlt).trans HW.out.2.2.2.1
        have t0 := S.cell_of z3 _ 0 _ 35 _ qz3 rfl
        obtain ⟨y4, hy4⟩ : ∃ y4, z3.alloc (.cells #[.int .i64 d.k, .string ⟨#[109, 97, 105, 110]⟩, .int .u16 d.v, (.slice q3 (ots xr ds d.body).length d3), .int .i64 d.p.1, .int .i64 d.p.2] 27) = y4 := ⟨_, rfl⟩
        have k4 : Below z3.heap.size z3 y4 := by rw [<- hy4]; exact (Below.refl _ _).alloc (Nat.le_refl _) _
        have v4 : y4.heap[z3.heap.size]? = some (.cells (dfc ⟨d.k, ⟨#[109, 97, 105, 110]⟩, d.v, ots xr ds d.body, d.p⟩ (.slice q3 (ots xr ds d.body).length d3)).toArray 27 (0, 0)) := by rw [<- hy4]; exact heap_alloc_new z3 _
        have kw4 : Below wr.heap.size wr y4 := bch2 ks3 ks3.size k4
        have oR : y4.ownsRow w1.heap.size 27 6 (.slice q (k + 1) qc) (k + 1) cs := S.own_kept HW.out.2.2.2.2.1 fun g _ hg => kw4.block g hg
        have hcs : S.Cs y4 (.slice (some ⟨z3.heap.size, 0, none⟩) 1 1) 6 1 (dfc ⟨d.k, ⟨#[109, 97, 105, 110]⟩, d.v, ots xr ds d.body, d.p⟩ (.slice q3 (ots xr ds d.body).length d3)) := .inr ⟨_, _, rfl, rfl, fun j u hj => by rw [Addr.add_lit, Nat.zero_add]; exact S.cell_of y4 _ j _ _ u v4 hj, fun u hu => by simp [dfc] at hu; rcases hu with rfl | rfl | rfl | rfl | rfl | rfl <;> rfl⟩
        have hxs : wr.heap.size < x.heap.size := S.lt_of HX.out.2
        have n3 : NV y4 (Nw x w3) (.slice q3 (ots xr ds d.body).length d3) (ots xr ds d.body) := nv3.kept (fun j hj => by
          have a1 := hj.1
          have a2 := hj.2
          exact (k4.block j (by omega)).trans (blk3 j (by omega))) (fun _ h => h)
        have hsz4 : w1.heap.size <= y4.heap.size := Nat.le_trans HW.out.1.size kw4.size
        have HF := hid (And.intro kw4 (And.intro n3 (And.intro (show w3.heap.size <= y4.heap.size by have := k4.size; omega) (And.intro hxs (And.intro hqlt ((k4.block _ (by have := ks3.size; omega)).trans qz3))))))
        have HYY := hid hy4
        clear vb3 vz3 ks3 sz3 blk3 k4 v4 kw4 n3 hy4 k3 nv3 qz3 hxs hqlt
        have HOR := hid oR
        go_wp2_with (rw [HYY.out]; refine S.wpList_append_row y4 rfl _ _ 32 27 _ 6 72 Tryz.underlying32 infoDf rfl (by decide) rfl w1.heap.size (.slice q (k + 1) qc) (k + 1) cs rfl oR _ 1 _ rfl hcs (by unfold S.room; omega) (by unfold maxLen; omega) hsz4 (fun v5 w5 hr1 hg1 => ?_); obtain ⟨q5, c5, rfl⟩ := own_sl2 hr1; have hq5 := (hg1.block qb (Nat.lt_of_lt_of_le HF.out.2.2.2.2.1 HF.out.1.size) HW.out.2.2.2.2.2.1).trans HF.out.2.2.2.2.2; have tq := S.cell_of w5 _ 0 _ 35 _ hq5 rfl; have fq := S.frozen_of w5 qb 0 _ 35 hq5; have HG := hid (And.intro hr1 (And.intro hg1 hq5)); clear hr1 hg1 hq5)
        obtain ⟨w6, hw6⟩ : ∃ w6, w5.setCell ⟨qb, 0, none⟩ (.slice q5 (k + 1 + 1) c5) = w6 := ⟨_, rfl⟩
        have vq6 : w6.heap[qb]? = some (.cells [Value.slice q5 (k + 1 + 1) c5, .slice none 0 0].toArray 35 (0, 0)) := by rw [<- hw6]; exact S.setCell_heap w5 qb 0 _ 35 _ HG.out.2.2
        have hB5 : Below w1.heap.size w1 w5 := HG.out.2.1.belowAll (fun g hg => (own_gb HOR.out g hg).1) (HW.out.1.trans (HF.out.1.mono HW.out.1.size)) (Nat.le_refl _)
        have hqw : w1.heap.size <= qb := by have := H2.out.2.2.2; omega
        have hB6 : Below w1.heap.size w1 w6 := by rw [<- hw6]; exact hB5.setCell (p := ⟨qb, 0, none⟩) hqw _
        have blk6 : ∀ j, j ≠ qb -> w6.heap[j]? = w5.heap[j]? := fun j hj => by rw [<- hw6]; exact S.setCell_other w5 qb 0 j _ hj
        have sz6 : w6.heap.size = w5.heap.size := by rw [<- hw6]; exact S.setCell_size _ _ _
        have hgl : ∀ g, (Value.slice q (k + 1) qc).ownBlock = some g -> g < wr.heap.size := fun g hg => (own_gb HW.out.2.2.2.2.1 g hg).2
        have hqn6 : some qb ≠ (Value.slice q5 (k + 1 + 1) c5).ownBlock := by
          rcases HG.out.2.1.own with hh | hh
          · rw [hh]; exact HW.out.2.2.2.2.2.1
          · intro e; have := hh qb e.symm; have := HF.out.2.2.2.2.1; have := HF.out.1.size; omega
        have hR6 : w6.ownsRow w1.heap.size 27 6 (.slice q5 (k + 1 + 1) c5) (k + 1 + 1) (cs ++ dfc ⟨d.k, ⟨#[109, 97, 105, 110]⟩, d.v, ots xr ds d.body, d.p⟩ (.slice q3 (ots xr ds d.body).length d3)) := S.own_kept HG.out.1 fun g hg _ => blk6 g (fun e => hqn6 (by rw [<- e]; exact hg.symm))
        have hkeep : ∀ j, j < y4.heap.size -> some j ≠ (Value.slice q (k + 1) qc).ownBlock -> j ≠ qb -> w1.heap.size <= j -> w6.heap[j]? = y4.heap[j]? /\ Ny w1.heap.size w6 (.slice q5 (k + 1 + 1) c5) qb j := fun j h1 h2 h3 h4 => by
          refine ⟨(blk6 j h3).trans (HG.out.2.1.block j h1 h2), ⟨h4, by rw [sz6]; exact Nat.lt_of_lt_of_le h1 HG.out.2.1.size⟩, ?_, h3⟩
          rcases HG.out.2.1.own with hh | hh
          · rw [hh]; exact h2
          · intro e; have := hh j e.symm; omega
        have hne : ∀ j, wr.heap.size < j -> some j ≠ (Value.slice q (k + 1) qc).ownBlock := fun j hj e => by have := hgl j e.symm; omega
        have hDC6 : DC w6 (Ny w1.heap.size w6 (.slice q5 (k + 1 + 1) c5) qb) (zvD :: (ds.take (k + 1)).map (ot xr ds)) (cs ++ dfc ⟨d.k, ⟨#[109, 97, 105, 110]⟩, d.v, ots xr ds d.body, d.p⟩ (.slice q3 (ots xr ds d.body).length d3)) := by
          have e1 : zvD :: (ds.take (k + 1)).map (ot xr ds) = (zvD :: (ds.take k).map (ot xr ds)) ++ [ot xr ds d] := by rw [List.take_add_one, HDB.out.2.2.1, List.map_append]; rfl
          rw [e1]
          refine DC.app ?_ ?_
          · refine DC.kept (fun j hj => ?_) (fun j hj => ?_) HW.out.2.2.2.2.2.2
            · have h1 := hj.1.2
              have h4 := HF.out.1.size
              exact (hkeep j (by omega) hj.2.1 hj.2.2 hj.1.1).1.trans (HF.out.1.block j hj.1.2)
            · have h1 := hj.1.2
              have h4 := HF.out.1.size
              exact (hkeep j (by omega) hj.2.1 hj.2.2 hj.1.1).2
          · have e2 : ot xr ds d = ⟨d.k, ⟨#[109, 97, 105, 110]⟩, d.v, ots xr ds d.body, d.p⟩ := by unfold ot; rw [HM.out, ren_main]; rfl
            rw [e2]
            refine ⟨(.slice q3 (ots xr ds d.body).length d3), [], (List.append_nil _).symm, ?_, rfl⟩
            refine HF.out.2.1.kept (fun j hj => ?_) (fun j hj => ?_)
            · have h1 := hj.1; have h2 := hj.2; have h3 := HF.out.2.2.1; have h4 := HF.out.2.2.2.1; have h5 := HW.out.1.size; have h6 := HF.out.2.2.2.2.1
              exact (hkeep j (by omega) (hne j (by omega)) (by omega) (by omega)).1
            · have h1 := hj.1; have h2 := hj.2; have h3 := HF.out.2.2.1; have h4 := HF.out.2.2.2.1; have h5 := HW.out.1.size; have h6 := HF.out.2.2.2.2.1
              exact (hkeep j (by omega) (hne j (by omega)) (by omega) (by omega)).2
        have HE := hid (And.intro hB6 (And.intro vq6 (And.intro hR6 (And.intro hqn6 hDC6))))
        clear hB5 hqw hB6 blk6 sz6 hgl hqn6 hR6 hkeep hne hDC6 vq6 oR hcs
        go_wp2
        go_roundw
        case rel =>
          rw [hw6]
          first
            | exact ⟨k + 1, _, q5, c5, by omega, by go_num, HE.out.1, HE.out.2.1, HE.out.2.2.1, HE.out.2.2.2.1, HE.out.2.2.2.2⟩
            | ((repeat apply Exists.intro); refine ⟨⟨k + 1, _, q5, c5, by omega, ?_, HE.out.1, HE.out.2.1, HE.out.2.2.1, HE.out.2.2.2.1, HE.out.2.2.2.2⟩, rfl⟩; go_num)
        case measure => simp [intOf]; omega
      · have m1 : ¬ d.nm.toList = nMain.toList := fun c => hm (R.toList_inj c)
        have m2 : (d.nm.toList == [109, 97, 105, 110]) = false := by
          rw [beq_eq_false_iff_ne]; intro e; exact m1 (by rw [e, nMain, ByteArray.toList_eq])
        have m3 : ¬ d.nm.toList = [109, 97, 105, 110] := by simpa using m2
        have hrn : ren ds d.nm = zzN k := by rw [HDB.out.2.2.2, if_neg hm]
        have hsz : (⟨(digF 7 k).toArray⟩ : ByteArray).size <= 8 := by
          have := dig_len 7 k
          show (digF 7 k).toArray.size <= 8
          rw [List.size_toArray]; omega
        obtain ⟨y, hy⟩ : ∃ y, wr.alloc (.cells #[.int .i64 d.k, .string d.nm, .int .u16 d.v, .slice qd d.body.length cqd, .int .i64 d.p.1, .int .i64 d.p.2] 27) = y := ⟨_, rfl⟩
        have ky : Below wr.heap.size wr y := by rw [<- hy]; exact (Below.refl _ _).alloc (Nat.le_refl _) _
        have vy : y.heap[wr.heap.size]? = some (.cells (dfc d (.slice qd d.body.length cqd)).toArray 27 (0, 0)) := by rw [<- hy]; exact heap_alloc_new wr _
        obtain ⟨u0, u1, u2, u3, u4, u5⟩ := df_cells vy
        have hcd := digits_any 7 k (by decide) (by have : k < 100000000 := by omega
                                                   exact this) y
        have hcat : (⟨#[122, 122]⟩ : ByteArray) ++ ⟨(digF 7 k).toArray⟩ = zzN k := by
          unfold zzN zzL dgs
          apply ByteArray.ext
          simp [ByteArray.data_append]
        obtain ⟨rn, hrn2⟩ : ∃ rn, zzN k = rn := ⟨_, rfl⟩
        rw [hrn2] at hcat hrn
        generalize (⟨(digF 7 k).toArray⟩ : ByteArray) = ba at *
        have HRN := hid hrn
        have HYK := hid (And.intro ky vy)
        clear hm m1 hrn hrn2 ky vy
        go_wp2_with fail
        refine hcd.mono ?_
        rintro e w2 ⟨rfl, k2⟩
        have v2 := (k2.block _ (S.lt_of HYK.out.2)).trans HYK.out.2
        clear hcd hy u0 u1 u2 u3 u4 u5 g0 g1 g2 g3 g4 g5 m2 m3
        obtain ⟨u0, u1, u2, u3, u4, u5⟩ := df_cells v2
        have f1 := S.frozen_of w2 wr.heap.size 1 _ 27 v2
        obtain ⟨x, hx⟩ : ∃ x, w2.setCell ⟨wr.heap.size, 1, none⟩ (.string rn) = x := ⟨_, rfl⟩
        have vx : x.heap[wr.heap.size]? = some (.cells (dfc ⟨d.k, rn, d.v, d.body, d.p⟩ (.slice qd d.body.length cqd)).toArray 27 (0, 0)) := by rw [<- hx]; exact S.setCell_heap w2 wr.heap.size 1 _ 27 _ v2
        have kx : Below wr.heap.size wr x := by rw [<- hx]; exact (HYK.out.1.trans (k2.mono HYK.out.1.size)).setCell (p := ⟨wr.heap.size, 1, none⟩) (Nat.le_refl _) _
        clear v2 k2
        go_upto_region 9 with fail
        clear hx hcat u0 u1 u2 u3 u4 u5 f1 hsz
        have hWx : Below W.heap.size W x := bch2 HW.out.2.1 HW.out.2.1.size kx
        have px := (kx.block _ (S.lt_of HW.out.2.2.1)).trans HW.out.2.2.1
        have hc1 := other_any ds hd d.body _ _ (.slice bp bs.length bc) O x (fun j hj => Nat.lt_of_lt_of_le (HH.out.2.2.1 j hj) hWx.size) (HH.out.2.2.2.1.below hWx HH.out.2.2.1) ⟨_, _, _, rfl⟩ (HDB.out.1.below hWx HH.out.2.2.1) HDB.out.2.1
        obtain ⟨b0, b1, b2, b3, b4, b5⟩ := df_cells vx
        have p0 := S.cell_of x _ 0 _ 35 _ px rfl
        have p1 := S.cell_of x _ 1 _ 35 _ px rfl
        have HX := hid (And.intro kx vx)
        clear hWx px kx vx
        go_wp2_with fail
        refine hc1.mono ?_
        rintro e w3 ⟨vv, rfl, k3, nv3⟩
        obtain ⟨q3, d3, rfl, _, _⟩ := nv3.ex
        have vb3 := (k3.block _ (S.lt_of HX.out.2)).trans HX.out.2
        clear hc1 b0 b1 b2 b3 b4 b5 p0 p1
        obtain ⟨b0, b1, b2, b3, b4, b5⟩ := df_cells vb3
        have f3 := S.frozen_of w3 wr.heap.size 3 _ 27 vb3
        obtain ⟨z3, hz3⟩ : ∃ z3, w3.setCell ⟨wr.heap.size, 3, none⟩ (.slice q3 (ots xr ds d.body).length d3) = z3 := ⟨_, rfl⟩
        have vz3 : z3.heap[wr.heap.size]? = some (.cells (dfc ⟨d.k, rn, d.v, ots xr ds d.body, d.p⟩ (.slice q3 (ots xr ds d.body).length d3)).toArray 27 (0, 0)) := by rw [<- hz3]; exact S.setCell_heap w3 wr.heap.size 3 _ 27 _ vb3
        have ks3 : Below wr.heap.size wr z3 := by rw [<- hz3]; exact (HX.out.1.trans (k3.mono HX.out.1.size)).setCell (p := ⟨wr.heap.size, 3, none⟩) (Nat.le_refl _) _
        have blk3 : ∀ j, j ≠ wr.heap.size -> z3.heap[j]? = w3.heap[j]? := fun j hj => by rw [<- hz3]; exact S.setCell_other w3 wr.heap.size 3 j _ hj
        have sz3 : z3.heap.size = w3.heap.size := by rw [<- hz3]; exact S.setCell_size _ _ _
        obtain ⟨s0, s1, s2, s3, s4, s5⟩ := df_cells vz3
        have hqlt : qb < wr.heap.size := S.lt_of HW.out.2.2.2.1
        have qz3 := (ks3.block _ hqlt).trans HW.out.2.2.2.1
        have t0 := S.cell_of z3 _ 0 _ 35 _ qz3 rfl
        obtain ⟨y4, hy4⟩ : ∃ y4, z3.alloc (.cells #[.int .i64 d.k, .string rn, .int .u16 d.v, (.slice q3 (ots xr ds d.body).length d3), .int .i64 d.p.1, .int .i64 d.p.2] 27) = y4 := ⟨_, rfl⟩
        have k4 : Below z3.heap.size z3 y4 := by rw [<- hy4]; exact (Below.refl _ _).alloc (Nat.le_refl _) _
        have v4 : y4.heap[z3.heap.size]? = some (.cells (dfc ⟨d.k, rn, d.v, ots xr ds d.body, d.p⟩ (.slice q3 (ots xr ds d.body).length d3)).toArray 27 (0, 0)) := by rw [<- hy4]; exact heap_alloc_new z3 _
        have kw4 : Below wr.heap.size wr y4 := bch2 ks3 ks3.size k4
        have oR : y4.ownsRow w1.heap.size 27 6 (.slice q (k + 1) qc) (k + 1) cs := S.own_kept HW.out.2.2.2.2.1 fun g _ hg => kw4.block g hg
        have hcs : S.Cs y4 (.slice (some ⟨z3.heap.size, 0, none⟩) 1 1) 6 1 (dfc ⟨d.k, rn, d.v, ots xr ds d.body, d.p⟩ (.slice q3 (ots xr ds d.body).length d3)) := .inr ⟨_, _, rfl, rfl, fun j u hj => by rw [Addr.add_lit, Nat.zero_add]; exact S.cell_of y4 _ j _ _ u v4 hj, fun u hu => by simp [dfc] at hu; rcases hu with rfl | rfl | rfl | rfl | rfl | rfl <;> rfl⟩
        have hxs : wr.heap.size < x.heap.size := S.lt_of HX.out.2
        have n3 : NV y4 (Nw x w3) (.slice q3 (ots xr ds d.body).length d3) (ots xr ds d.body) := nv3.kept (fun j hj => by
          have a1 := hj.1
          have a2 := hj.2
          exact (k4.block j (by omega)).trans (blk3 j (by omega))) (fun _ h => h)
        have hsz4 : w1.heap.size <= y4.heap.size := Nat.le_trans HW.out.1.size kw4.size
        have HF := hid (And.intro kw4 (And.intro n3 (And.intro (show w3.heap.size <= y4.heap.size by have := k4.size; omega) (And.intro hxs (And.intro hqlt ((k4.block _ (by have := ks3.size; omega)).trans qz3))))))
        have HYY := hid hy4
        clear vb3 vz3 ks3 sz3 blk3 k4 v4 kw4 n3 hy4 k3 nv3 qz3 hxs hqlt
        have HOR := hid oR
        go_wp2_with (rw [HYY.out]; refine S.wpList_append_row y4 rfl _ _ 32 27 _ 6 72 Tryz.underlying32 infoDf rfl (by decide) rfl w1.heap.size (.slice q (k + 1) qc) (k + 1) cs rfl oR _ 1 _ rfl hcs (by unfold S.room; omega) (by unfold maxLen; omega) hsz4 (fun v5 w5 hr1 hg1 => ?_); obtain ⟨q5, c5, rfl⟩ := own_sl2 hr1; have hq5 := (hg1.block qb (Nat.lt_of_lt_of_le HF.out.2.2.2.2.1 HF.out.1.size) HW.out.2.2.2.2.2.1).trans HF.out.2.2.2.2.2; have tq := S.cell_of w5 _ 0 _ 35 _ hq5 rfl; have fq := S.frozen_of w5 qb 0 _ 35 hq5; have HG := hid (And.intro hr1 (And.intro hg1 hq5)); clear hr1 hg1 hq5)
        obtain ⟨w6, hw6⟩ : ∃ w6, w5.setCell ⟨qb, 0, none⟩ (.slice q5 (k + 1 + 1) c5) = w6 := ⟨_, rfl⟩
        have vq6 : w6.heap[qb]? = some (.cells [Value.slice q5 (k + 1 + 1) c5, .slice none 0 0].toArray 35 (0, 0)) := by rw [<- hw6]; exact S.setCell_heap w5 qb 0 _ 35 _ HG.out.2.2
        have hB5 : Below w1.heap.size w1 w5 := HG.out.2.1.belowAll (fun g hg => (own_gb HOR.out g hg).1) (HW.out.1.trans (HF.out.1.mono HW.out.1.size)) (Nat.le_refl _)
        have hqw : w1.heap.size <= qb := by have := H2.out.2.2.2; omega
        have hB6 : Below w1.heap.size w1 w6 := by rw [<- hw6]; exact hB5.setCell (p := ⟨qb, 0, none⟩) hqw _
        have blk6 : ∀ j, j ≠ qb -> w6.heap[j]? = w5.heap[j]? := fun j hj => by rw [<- hw6]; exact S.setCell_other w5 qb 0 j _ hj
        have sz6 : w6.heap.size = w5.heap.size := by rw [<- hw6]; exact S.setCell_size _ _ _
        have hgl : ∀ g, (Value.slice q (k + 1) qc).ownBlock = some g -> g < wr.heap.size := fun g hg => (own_gb HW.out.2.2.2.2.1 g hg).2
        have hqn6 : some qb ≠ (Value.slice q5 (k + 1 + 1) c5).ownBlock := by
          rcases HG.out.2.1.own with hh | hh
          · rw [hh]; exact HW.out.2.2.2.2.2.1
          · intro e; have := hh qb e.symm; have := HF.out.2.2.2.2.1; have := HF.out.1.size; omega
        have hR6 : w6.ownsRow w1.heap.size 27 6 (.slice q5 (k + 1 + 1) c5) (k + 1 + 1) (cs ++ dfc ⟨d.k, rn, d.v, ots xr ds d.body, d.p⟩ (.slice q3 (ots xr ds d.body).length d3)) := S.own_kept HG.out.1 fun g hg _ => blk6 g (fun e => hqn6 (by rw [<- e]; exact hg.symm))
        have hkeep : ∀ j, j < y4.heap.size -> some j ≠ (Value.slice q (k + 1) qc).ownBlock -> j ≠ qb -> w1.heap.size <= j -> w6.heap[j]? = y4.heap[j]? /\ Ny w1.heap.size w6 (.slice q5 (k + 1 + 1) c5) qb j := fun j h1 h2 h3 h4 => by
          refine ⟨(blk6 j h3).trans (HG.out.2.1.block j h1 h2), ⟨h4, by rw [sz6]; exact Nat.lt_of_lt_of_le h1 HG.out.2.1.size⟩, ?_, h3⟩
          rcases HG.out.2.1.own with hh | hh
          · rw [hh]; exact h2
          · intro e; have := hh j e.symm; omega
        have hne : ∀ j, wr.heap.size < j -> some j ≠ (Value.slice q (k + 1) qc).ownBlock := fun j hj e => by have := hgl j e.symm; omega
        have hDC6 : DC w6 (Ny w1.heap.size w6 (.slice q5 (k + 1 + 1) c5) qb) (zvD :: (ds.take (k + 1)).map (ot xr ds)) (cs ++ dfc ⟨d.k, rn, d.v, ots xr ds d.body, d.p⟩ (.slice q3 (ots xr ds d.body).length d3)) := by
          have e1 : zvD :: (ds.take (k + 1)).map (ot xr ds) = (zvD :: (ds.take k).map (ot xr ds)) ++ [ot xr ds d] := by rw [List.take_add_one, HDB.out.2.2.1, List.map_append]; rfl
          rw [e1]
          refine DC.app ?_ ?_
          · refine DC.kept (fun j hj => ?_) (fun j hj => ?_) HW.out.2.2.2.2.2.2
            · have h1 := hj.1.2
              have h4 := HF.out.1.size
              exact (hkeep j (by omega) hj.2.1 hj.2.2 hj.1.1).1.trans (HF.out.1.block j hj.1.2)
            · have h1 := hj.1.2
              have h4 := HF.out.1.size
              exact (hkeep j (by omega) hj.2.1 hj.2.2 hj.1.1).2
          · have e2 : ot xr ds d = ⟨d.k, rn, d.v, ots xr ds d.body, d.p⟩ := by unfold ot; rw [HRN.out]
            rw [e2]
            refine ⟨(.slice q3 (ots xr ds d.body).length d3), [], (List.append_nil _).symm, ?_, rfl⟩
            refine HF.out.2.1.kept (fun j hj => ?_) (fun j hj => ?_)
            · have h1 := hj.1; have h2 := hj.2; have h3 := HF.out.2.2.1; have h4 := HF.out.2.2.2.1; have h5 := HW.out.1.size; have h6 := HF.out.2.2.2.2.1
              exact (hkeep j (by omega) (hne j (by omega)) (by omega) (by omega)).1
            · have h1 := hj.1; have h2 := hj.2; have h3 := HF.out.2.2.1; have h4 := HF.out.2.2.2.1; have h5 := HW.out.1.size; have h6 := HF.out.2.2.2.2.1
              exact (hkeep j (by omega) (hne j (by omega)) (by omega) (by omega)).2
        have HE := hid (And.intro hB6 (And.intro vq6 (And.intro hR6 (And.intro hqn6 hDC6))))
        clear hB5 hqw hB6 blk6 sz6 hgl hqn6 hR6 hkeep hne hDC6 vq6 oR hcs
        go_wp2
        go_roundw
        case rel =>
          rw [hw6]
          first
            | exact ⟨k + 1, _, q5, c5, by omega, by go_num, HE.out.1, HE.out.2.1, HE.out.2.2.1, HE.out.2.2.2.1, HE.out.2.2.2.2⟩
            | ((repeat apply Exists.intro); refine ⟨⟨k + 1, _, q5, c5, by omega, ?_, HE.out.1, HE.out.2.1, HE.out.2.2.1, HE.out.2.2.2.1, HE.out.2.2.2.2⟩, rfl⟩; go_num)
        case measure => simp [intOf]; omega
    · have i1 : ¬ (k : Int) < ds.length := by omega
      have hkn : k = ds.length := by omega
      subst hkn
      have hDC := HW.out.2.2.2.2.2.2
      rw [List.take_of_length_le (Nat.le_refl _)] at hDC
      have hPl : (othP xr ds).length = ds.length + 1 := by unfold othP; rw [List.length_cons, List.length_map]
      have hDQ : DV wr (fun j => j < wr.heap.size) (.slice q (ds.length + 1) qc) (othP xr ds) := own_dv (l := othP xr ds) (by rw [hPl]; exact HW.out.2.2.2.2.1) hDC (by rw [hPl]; omega) (fun j hj => hj.1.2)
      have hnq : ∀ d ∈ othP xr ds, d.nm.size <= maxLen := by
        intro d hdm
        unfold othP at hdm
        rcases List.mem_cons.1 hdm with rfl | hdm
        · decide
        · obtain ⟨e, he, rfl⟩ := List.mem_map.1 hdm
          exact ren_size ds e.nm (List.mem_map.2 ⟨e, he, rfl⟩)
      obtain ⟨m, m1, m2, m3⟩ := main_in HZ.out
      have hcp := shapes_any ds bs hd HH.out.2.2.2.2.2.1 (by omega) _ _ O wr (fun j hj => Nat.lt_of_lt_of_le (HH.out.2.2.1 j hj) HW.out.2.1.size) (HH.out.2.2.2.1.below HW.out.2.1 HH.out.2.2.1) (HH.out.2.2.2.2.1.below HW.out.2.1 HH.out.2.2.1)
      have p0 := S.cell_of wr _ 0 _ 35 _ HW.out.2.2.1 rfl
      have p1 := S.cell_of wr _ 1 _ 35 _ HW.out.2.2.1 rfl
      obtain ⟨n1, hn1⟩ : ∃ n1, (wordsOf ds).length = n1 := ⟨_, rfl⟩
      have HQ := hid (And.intro hDQ (And.intro hnq (And.intro hPl (And.intro hn1 (show 0 < n1 by omega)))))
      have hn20 : n1 <= 1048576 := by rw [<- hn1]; exact Nat.le_trans (List.length_filter_le _ _) hd
      clear hDC hPl hDQ hnq m1 m2 m3 hn1
      go_wp2_with fail
      refine hcp.mono ?_
      intro e wa hso
      obtain ⟨ka, g1, ca, rfl, hoa⟩ := so_nn (n := n1) HQ.out.2.2.2.1 HZ.out hso
      clear hcp hso p0 p1
      obtain ⟨ga', ca', eg, _, hga, hca⟩ := own_cell hoa HQ.out.2.2.2.2
      cases eg
      have hWa : Below W.heap.size W wa := bch2 HW.out.2.1 HW.out.2.1.size ka
      have qa := (ka.block _ (S.lt_of HW.out.2.2.2.1)).trans HW.out.2.2.2.1
      have pa := (ka.block _ (S.lt_of HW.out.2.2.1)).trans HW.out.2.2.1
      have r0 := S.cell_of wa _ 0 _ 35 _ qa rfl
      have r1 := S.cell_of wa _ 1 _ 35 _ qa rfl
      have hcq := shapes_any (othP xr ds) [] (by rw [HQ.out.2.2.1]; omega) HQ.out.2.1 (by simp) _ _ _ wa (fun j hj => Nat.lt_of_lt_of_le hj ka.size) (HQ.out.1.below ka (fun _ h => h)) (bv_nil _ _)
      have HA := hid (And.intro hWa (And.intro ka (And.intro hga (And.intro hca (And.intro qa pa)))))
      clear hWa qa pa hga hca hoa ka
      go_wp2_with fail
      refine hcq.mono ?_
      intro e wb hso
      have hchq := chk_oth xr ds hd bs HZ.out
      obtain ⟨kb, g2, cb, rfl, hob⟩ := so_nn (n := n1) (by rw [words_oth, List.length_map]; exact HQ.out.2.2.2.1) hchq hso
      clear hcq hso r0 r1
      obtain ⟨gb', cb', eg, _, hgb, hcb⟩ := own_cell hob HQ.out.2.2.2.2
      cases eg
      have HB := hid (And.intro (bch2 HA.out.1 HA.out.1.size kb) (And.intro kb (And.intro hgb (And.intro hcb (And.intro hchq ((kb.block _ (S.lt_of HA.out.2.2.2.2.2)).trans HA.out.2.2.2.2.2))))))
      clear hob hgb hcb kb hchq
      go_wp2_with fail
      refine (num_any 0 wb).mono ?_
      rintro e wx ⟨rfl, hwx⟩
      obtain rfl := hwx.symm
      clear hwx
      go_wp2_with fail
      refine (num_any 0 _).mono ?_
      rintro e wx ⟨rfl, hwx⟩
      obtain rfl := hwx.symm
      clear hwx
      go_wp2
      go_loopw [76] (fun ix wr2 => ∃ k2 : Nat, k2 <= n1 /\ ix = .int .i64 (k2 : Int) /\ Below wb.heap.size wb wr2) (fun ix _ => n1 - (intOf ix).toNat)
      case atStart => exact ⟨0, by omega, rfl, Below.refl _ _⟩
      case round =>
        obtain ⟨k2, hk2, rfl, hb2⟩ := hrel
        by_cases hlt2 : k2 < n1
        · have i2 : (k2 : Int) < n1 := by omega
          have hT : k2 < (shs ds).length := by rw [shs_len, HQ.out.2.2.2.1]; exact hlt2
          have eT := List.getElem?_eq_getElem hT
          obtain ⟨t', eT', hTR⟩ := (shs_oth xr ds hd (chk_ds HZ.out)).2 k2 _ eT
          generalize (shs ds)[k2] = t at *
          obtain ⟨rn, hrn⟩ : ∃ rn, ren ds t.nm = rn := ⟨_, rfl⟩
          have hS : ∀ wz, Below wb.heap.size wb wz -> (fun wz : World => wz.cell? ⟨g1, k2 * 9, none⟩ = some (.string t.nm) /\ wz.cell? ⟨g1, k2 * 9 + 1, none⟩ = some (.int .i64 t.i) /\ wz.cell? ⟨g1, k2 * 9 + 2, none⟩ = some (.int .i64 t.o) /\ wz.cell? ⟨g1, k2 * 9 + 3, none⟩ = some (.int .i64 t.d) /\ wz.cell? ⟨g1, k2 * 9 + 4, none⟩ = some (.int .i64 t.r) /\ wz.cell? ⟨g1, k2 * 9 + 5, none⟩ = some (.bool t.nv) /\ wz.cell? ⟨g1, k2 * 9 + 6, none⟩ = some (.int .i64 t.e) /\ wz.cell? ⟨g2, k2 * 9, none⟩ = some (.string rn) /\ wz.cell? ⟨g2, k2 * 9 + 1, none⟩ = some (.int .i64 t.i) /\ wz.cell? ⟨g2, k2 * 9 + 2, none⟩ = some (.int .i64 t.o) /\ wz.cell? ⟨g2, k2 * 9 + 3, none⟩ = some (.int .i64 t.d) /\ wz.cell? ⟨g2, k2 * 9 + 4, none⟩ = some (.int .i64 t.r) /\ wz.cell? ⟨g2, k2 * 9 + 5, none⟩ = some (.bool t.nv) /\ wz.cell? ⟨g2, k2 * 9 + 6, none⟩ = some (.int .i64 t.e) /\ wz.cell? ⟨W.heap.size, 0, none⟩ = some (.slice pd ds.length cd) /\ wz.cell? ⟨W.heap.size, 1, none⟩ = some (.slice bp bs.length bc)) wz := fun wz hz => by
            have hg := hz.block g1 (Nat.lt_of_lt_of_le HA.out.2.2.1 HB.out.2.1.size)
            have hg2 := hz.block g2 HB.out.2.2.1
            have ha : ∀ (j : Nat) (x : Value), j < 9 -> (tyc t)[j]? = some x -> wz.cell? ⟨g1, k2 * 9 + j, none⟩ = some x := fun j x hj hx => ((World.cell?_of_block (w := wb) (a := ⟨g1, k2 * 9 + j, none⟩) hg).trans (World.cell?_of_block (w := wa) (a := ⟨g1, k2 * 9 + j, none⟩) (HB.out.2.1.block g1 HA.out.2.2.1))).trans (HA.out.2.2.2.1 _ _ ((S.en_get (e := tyc) (s := 9) (fun a => rfl) (shs ds) k2 j t eT hj).trans hx))
            have hb : ∀ (j : Nat) (x : Value), j < 9 -> (tyc t')[j]? = some x -> wz.cell? ⟨g2, k2 * 9 + j, none⟩ = some x := fun j x hj hx => (World.cell?_of_block (w := wb) (a := ⟨g2, k2 * 9 + j, none⟩) hg2).trans (HB.out.2.2.2.1 _ _ ((S.en_get (e := tyc) (s := 9) (fun a => rfl) (shs (othP xr ds)) k2 j t' eT' hj).trans hx))
            have b0 := hb 0 _ (by decide) rfl
            have b1 := hb 1 _ (by decide) rfl
            have b2 := hb 2 _ (by decide) rfl
            have b3 := hb 3 _ (by decide) rfl
            have b4 := hb 4 _ (by decide) rfl
            have b5 := hb 5 _ (by decide) rfl
            have b6 := hb 6 _ (by decide) rfl
            rw [hTR.nm, hrn] at b0
            rw [hTR.i] at b1
            rw [hTR.o] at b2
            rw [hTR.d] at b3
            rw [hTR.r] at b4
            rw [hTR.nv] at b5
            rw [hTR.e] at b6
            have pz := (hz.block _ (S.lt_of HB.out.2.2.2.2.2)).trans HB.out.2.2.2.2.2
            exact ⟨ha 0 _ (by decide) rfl, ha 1 _ (by decide) rfl, ha 2 _ (by decide) rfl, ha 3 _ (by decide) rfl, ha 4 _ (by decide) rfl, ha 5 _ (by decide) rfl, ha 6 _ (by decide) rfl, b0, b1, b2, b3, b4, b5, b6, S.cell_of wz _ 0 _ 35 _ pz rfl, S.cell_of wz _ 1 _ 35 _ pz rfl⟩
          have HS := hid hS
          have HRN := hid hrn
          have HB2 := hid hb2
          have Hk2 := hid hk2
          clear hS hT eT eT' hTR hrn hb2 hk2
          go_upto_region 19 with fail
          have HBy0 := hid (show Below wb.heap.size wb wr.drew from HB2.out.drew)
          refine wp_region_held_drew (S := fun wz : World => wz.cell? ⟨g1, k2 * 9, none⟩ = some (.string t.nm) /\ wz.cell? ⟨g1, k2 * 9 + 1, none⟩ = some (.int .i64 t.i) /\ wz.cell? ⟨g1, k2 * 9 + 2, none⟩ = some (.int .i64 t.o) /\ wz.cell? ⟨g1, k2 * 9 + 3, none⟩ = some (.int .i64 t.d) /\ wz.cell? ⟨g1, k2 * 9 + 4, none⟩ = some (.int .i64 t.r) /\ wz.cell? ⟨g1, k2 * 9 + 5, none⟩ = some (.bool t.nv) /\ wz.cell? ⟨g1, k2 * 9 + 6, none⟩ = some (.int .i64 t.e) /\ wz.cell? ⟨g2, k2 * 9, none⟩ = some (.string rn) /\ wz.cell? ⟨g2, k2 * 9 + 1, none⟩ = some (.int .i64 t.i) /\ wz.cell? ⟨g2, k2 * 9 + 2, none⟩ = some (.int .i64 t.o) /\ wz.cell? ⟨g2, k2 * 9 + 3, none⟩ = some (.int .i64 t.d) /\ wz.cell? ⟨g2, k2 * 9 + 4, none⟩ = some (.int .i64 t.r) /\ wz.cell? ⟨g2, k2 * 9 + 5, none⟩ = some (.bool t.nv) /\ wz.cell? ⟨g2, k2 * 9 + 6, none⟩ = some (.int .i64 t.e) /\ wz.cell? ⟨W.heap.size, 0, none⟩ = some (.slice pd ds.length cd) /\ wz.cell? ⟨W.heap.size, 1, none⟩ = some (.slice bp bs.length bc)) (by kernel_rfl) (HS.out _ HBy0.out) (fun hHeld => ?_)
          generalize wr.drew = y0 at *
          have nq := fun W => neq_sh W t.i t.o t.d t.r t.nv
          refine wpAnyH_take (i := 0) (v := ?_) rfl (by kernel_rfl) (by kernel_rfl) (by kernel_rfl) (fun c a w h => h) (Or.inl ⟨by rfl, ?_⟩) hHeld ?_
          rotate_left
          · (intro w hSw; (try dsimp only at hSw); go_simp; try with_reducible rfl)
          simp only [Act.put, List.getElem_toArray, List.getElem_cons_zero, List.getElem_cons_succ, List.setIfInBounds_toArray, List.set_cons_zero, List.set_cons_succ]
          refine wpAnyH_take (i := 1) (v := ?_) rfl (by kernel_rfl) (by kernel_rfl) (by kernel_rfl) (fun c a w h => h) (Or.inl ⟨by rfl, ?_⟩) hHeld ?_
          rotate_left
          · (intro w hSw; (try dsimp only at hSw); go_simp; try with_reducible rfl)
          simp only [Act.put, List.getElem_toArray, List.getElem_cons_zero, List.getElem_cons_succ, List.setIfInBounds_toArray, List.set_cons_zero, List.set_cons_succ]
          refine wpAnyH_take (i := 2) (v := ?_) rfl (by kernel_rfl) (by kernel_rfl) (by kernel_rfl) (fun c a w h => h) (Or.inl ⟨by rfl, ?_⟩) hHeld ?_
          rotate_left
          · (intro w hSw; (try dsimp only at hSw); go_simp; try with_reducible rfl)
          simp only [Act.put, List.getElem_toArray, List.getElem_cons_zero, List.getElem_cons_succ, List.setIfInBounds_toArray, List.set_cons_zero, List.set_cons_succ]
          refine wpAnyH_take (i := 3) (v := ?_) rfl (by kernel_rfl) (by kernel_rfl) (by kernel_rfl) (fun c a w h => h) (Or.inl ⟨by rfl, ?_⟩) hHeld ?_
          rotate_left
          · (intro w hSw; (try dsimp only at hSw); go_simp; try with_reducible rfl)
          simp only [Act.put, List.getElem_toArray, List.getElem_cons_zero, List.getElem_cons_succ, List.setIfInBounds_toArray, List.set_cons_zero, List.set_cons_succ]
          refine wpAnyH_take (i := 4) (v := ?_) rfl (by kernel_rfl) (by kernel_rfl) (by kernel_rfl) (fun c a w h => h) (Or.inl ⟨by rfl, ?_⟩) hHeld ?_
          rotate_left
          · (intro w hSw; (try dsimp only at hSw); go_simp; try with_reducible rfl)
          simp only [Act.put, List.getElem_toArray, List.getElem_cons_zero, List.getElem_cons_succ, List.setIfInBounds_toArray, List.set_cons_zero, List.set_cons_succ]
          refine wpAnyH_take (i := 5) (v := ?_) rfl (by kernel_rfl) (by kernel_rfl) (by kernel_rfl) (fun c a w h => h) (Or.inl ⟨by rfl, ?_⟩) hHeld ?_
          rotate_left
          · (intro w hSw; (try dsimp only at hSw); go_simp; try with_reducible rfl)
          simp only [Act.put, List.getElem_toArray, List.getElem_cons_zero, List.getElem_cons_succ, List.setIfInBounds_toArray, List.set_cons_zero, List.set_cons_succ]
          refine wpAnyH_take (i := 6) (v := ?_) rfl (by kernel_rfl) (by kernel_rfl) (by kernel_rfl) (fun c a w h => h) (Or.inl ⟨by rfl, ?_⟩) hHeld ?_
          rotate_left
          · (intro w hSw; (try dsimp only at hSw); go_simp; try with_reducible rfl)
          simp only [Act.put, List.getElem_toArray, List.getElem_cons_zero, List.getElem_cons_succ, List.setIfInBounds_toArray, List.set_cons_zero, List.set_cons_succ]
          refine wpAnyH_take (i := 7) (v := ?_) rfl (by kernel_rfl) (by kernel_rfl) (by kernel_rfl) (fun c a w h => h) (Or.inl ⟨by rfl, ?_⟩) hHeld ?_
          rotate_left
          · (intro w hSw; (try dsimp only at hSw); go_simp; try with_reducible rfl)
          simp only [Act.put, List.getElem_toArray, List.getElem_cons_zero, List.getElem_cons_succ, List.setIfInBounds_toArray, List.set_cons_zero, List.set_cons_succ]
          refine wpAnyH_take (i := 8) (v := ?_) rfl (by kernel_rfl) (by kernel_rfl) (by kernel_rfl) (fun c a w h => h) (Or.inl ⟨by rfl, ?_⟩) hHeld ?_
          rotate_left
          · (intro w hSw; (try dsimp only at hSw); go_simp; try with_reducible rfl)
          simp only [Act.put, List.getElem_toArray, List.getElem_cons_zero, List.getElem_cons_succ, List.setIfInBounds_toArray, List.set_cons_zero, List.set_cons_succ]
          refine wpAnyH_take (i := 9) (v := ?_) rfl (by kernel_rfl) (by kernel_rfl) (by kernel_rfl) (fun c a w h => h) (Or.inl ⟨by rfl, ?_⟩) hHeld ?_
          rotate_left
          · (intro w hSw; (try dsimp only at hSw); go_simp; try with_reducible rfl)
          simp only [Act.put, List.getElem_toArray, List.getElem_cons_zero, List.getElem_cons_succ, List.setIfInBounds_toArray, List.set_cons_zero, List.set_cons_succ]
          refine wpAnyH_take (i := 10) (v := ?_) rfl (by kernel_rfl) (by kernel_rfl) (by kernel_rfl) (fun c a w h => h) (Or.inl ⟨by rfl, ?_⟩) hHeld ?_
          rotate_left
          · (intro w hSw; (try dsimp only at hSw); go_simp; try with_reducible rfl)
          simp only [Act.put, List.getElem_toArray, List.getElem_cons_zero, List.getElem_cons_succ, List.setIfInBounds_toArray, List.set_cons_zero, List.set_cons_succ]
          refine wpAnyH_take (i := 11) (v := ?_) rfl (by kernel_rfl) (by kernel_rfl) (by kernel_rfl) (fun c a w h => h) (Or.inl ⟨by rfl, ?_⟩) hHeld ?_
          rotate_left
          · (intro w hSw; (try dsimp only at hSw); go_simp; try with_reducible rfl)
          simp only [Act.put, List.getElem_toArray, List.getElem_cons_zero, List.getElem_cons_succ, List.setIfInBounds_toArray, List.set_cons_zero, List.set_cons_succ]
          refine wpAnyH_take (i := 12) (v := ?_) rfl (by kernel_rfl) (by kernel_rfl) (by kernel_rfl) (fun c a w h => h) (Or.inl ⟨by rfl, ?_⟩) hHeld ?_
          rotate_left
          · (intro w hSw; (try dsimp only at hSw); go_simp; try with_reducible rfl)
          simp only [Act.put, List.getElem_toArray, List.getElem_cons_zero, List.getElem_cons_succ, List.setIfInBounds_toArray, List.set_cons_zero, List.set_cons_succ]
          refine wpAnyH_take (i := 13) (v := ?_) rfl (by kernel_rfl) (by kernel_rfl) (by kernel_rfl) (fun c a w h => h) (Or.inl ⟨by rfl, ?_⟩) hHeld ?_
          rotate_left
          · (intro w hSw; (try dsimp only at hSw); go_simp; try with_reducible rfl)
          simp only [Act.put, List.getElem_toArray, List.getElem_cons_zero, List.getElem_cons_succ, List.setIfInBounds_toArray, List.set_cons_zero, List.set_cons_succ]
          refine wpAnyH_take (i := 14) (v := ?_) rfl (by kernel_rfl) (by kernel_rfl) (by kernel_rfl) (fun c a w h => h) (Or.inl ⟨by rfl, ?_⟩) hHeld ?_
          rotate_left
          · (intro w hSw; (try dsimp only at hSw); go_simp; try with_reducible rfl)
          simp only [Act.put, List.getElem_toArray, List.getElem_cons_zero, List.getElem_cons_succ, List.setIfInBounds_toArray, List.set_cons_zero, List.set_cons_succ]
          refine wpAnyH_take (i := 15) (v := ?_) rfl (by kernel_rfl) (by kernel_rfl) (by kernel_rfl) (fun c a w h => h) (Or.inl ⟨by rfl, ?_⟩) hHeld ?_
          rotate_left
          · (intro w hSw; (try dsimp only at hSw); go_simp; try with_reducible rfl)
          simp only [Act.put, List.getElem_toArray, List.getElem_cons_zero, List.getElem_cons_succ, List.setIfInBounds_toArray, List.set_cons_zero, List.set_cons_succ]
          refine wpAnyH_take (i := 16) (v := ?_) rfl (by kernel_rfl) (by kernel_rfl) (by kernel_rfl) (fun c a w h => h) (Or.inl ⟨by rfl, ?_⟩) hHeld ?_
          rotate_left
          · (intro w hSw; (try dsimp only at hSw); go_simp; try with_reducible rfl)
          simp only [Act.put, List.getElem_toArray, List.getElem_cons_zero, List.getElem_cons_succ, List.setIfInBounds_toArray, List.set_cons_zero, List.set_cons_succ]
          refine wpAnyH_take (i := 17) (v := ?_) rfl (by kernel_rfl) (by kernel_rfl) (by kernel_rfl) (fun c a w h => h) (Or.inl ⟨by rfl, ?_⟩) hHeld ?_
          rotate_left
          · (intro w hSw; (try dsimp only at hSw); go_simp; try with_reducible rfl)
          simp only [Act.put, List.getElem_toArray, List.getElem_cons_zero, List.getElem_cons_succ, List.setIfInBounds_toArray, List.set_cons_zero, List.set_cons_succ]
          refine wpAnyH_take (i := 18) (v := ?_) rfl (by kernel_rfl) (by kernel_rfl) (by kernel_rfl) (fun c a w h => h) (Or.inl ⟨by rfl, ?_⟩) hHeld ?_
          rotate_left
          · (intro w hSw; (try dsimp only at hSw); go_simp; try with_reducible rfl)
          simp only [Act.put, List.getElem_toArray, List.getElem_cons_zero, List.getElem_cons_succ, List.setIfInBounds_toArray, List.set_cons_zero, List.set_cons_succ]
          refine wpAnyH_take (i := 19) (v := ?_) rfl (by kernel_rfl) (by kernel_rfl) (by kernel_rfl) (fun c a w h => h) (Or.inl ⟨by rfl, ?_⟩) hHeld ?_
          rotate_left
          · (intro w hSw; (try dsimp only at hSw); go_simp; try with_reducible rfl)
          simp only [Act.put, List.getElem_toArray, List.getElem_cons_zero, List.getElem_cons_succ, List.setIfInBounds_toArray, List.set_cons_zero, List.set_cons_succ]
          refine wpAnyH_take (i := 20) (v := ?_) rfl (by kernel_rfl) (by kernel_rfl) (by kernel_rfl) (fun c a w h => h) (Or.inl ⟨by rfl, ?_⟩) hHeld ?_
          rotate_left
          · (intro w hSw; (try dsimp only at hSw); go_simp; try with_reducible rfl)
          simp only [Act.put, List.getElem_toArray, List.getElem_cons_zero, List.getElem_cons_succ, List.setIfInBounds_toArray, List.set_cons_zero, List.set_cons_succ]
          refine wpAnyH_take (i := 21) (v := ?_) rfl (by kernel_rfl) (by kernel_rfl) (by kernel_rfl) (fun c a w h => h) (Or.inl ⟨by rfl, ?_⟩) hHeld ?_
          rotate_left
          · (intro w hSw; (try dsimp only at hSw); go_simp; try with_reducible rfl)
          simp only [Act.put, List.getElem_toArray, List.getElem_cons_zero, List.getElem_cons_succ, List.setIfInBounds_toArray, List.set_cons_zero, List.set_cons_succ]
          refine wpAnyH_take (i := 22) (v := ?_) rfl (by kernel_rfl) (by kernel_rfl) (by kernel_rfl) (fun c a w h => h) (Or.inl ⟨by rfl, ?_⟩) hHeld ?_
          rotate_left
          · (intro w hSw; (try dsimp only at hSw); go_simp; try with_reducible rfl)
          simp only [Act.put, List.getElem_toArray, List.getElem_cons_zero, List.getElem_cons_succ, List.setIfInBounds_toArray, List.set_cons_zero, List.set_cons_succ]
          refine wpAnyH_take (i := 23) (v := ?_) rfl (by kernel_rfl) (by kernel_rfl) (by kernel_rfl) (fun c a w h => h) (Or.inl ⟨by rfl, ?_⟩) hHeld ?_
          rotate_left
          · (intro w hSw; (try dsimp only at hSw); go_simp; try with_reducible rfl)
          simp only [Act.put, List.getElem_toArray, List.getElem_cons_zero, List.getElem_cons_succ, List.setIfInBounds_toArray, List.set_cons_zero, List.set_cons_succ]
          refine wpAnyH_take (i := 24) (v := ?_) rfl (by kernel_rfl) (by kernel_rfl) (by kernel_rfl) (fun c a w h => h) (Or.inl ⟨by rfl, ?_⟩) hHeld ?_
          rotate_left
          · (intro w hSw; (try dsimp only at hSw); go_simp; try with_reducible rfl)
          simp only [Act.put, List.getElem_toArray, List.getElem_cons_zero, List.getElem_cons_succ, List.setIfInBounds_toArray, List.set_cons_zero, List.set_cons_succ]
          refine wpAnyH_take (i := 25) (v := ?_) rfl (by kernel_rfl) (by kernel_rfl) (by kernel_rfl) (fun c a w h => h) (Or.inl ⟨by rfl, ?_⟩) hHeld ?_
          rotate_left
          · (intro w hSw; (try dsimp only at hSw); go_simp; try with_reducible rfl)
          simp only [Act.put, List.getElem_toArray, List.getElem_cons_zero, List.getElem_cons_succ, List.setIfInBounds_toArray, List.set_cons_zero, List.set_cons_succ]
          refine wpAnyH_take (i := 26) (v := ?_) rfl (by kernel_rfl) (by kernel_rfl) (by kernel_rfl) (fun c a w h => h) (Or.inl ⟨by rfl, ?_⟩) hHeld ?_
          rotate_left
          · (intro w hSw; (try dsimp only at hSw); go_simp; try with_reducible rfl)
          simp only [Act.put, List.getElem_toArray, List.getElem_cons_zero, List.getElem_cons_succ, List.setIfInBounds_toArray, List.set_cons_zero, List.set_cons_succ]
          refine wpAnyH_take (i := 27) (v := ?_) rfl (by kernel_rfl) (by kernel_rfl) (by kernel_rfl) (fun c a w h => h) (Or.inl ⟨by rfl, ?_⟩) hHeld ?_
          rotate_left
          · (intro w hSw; (try dsimp only at hSw); go_simp; try with_reducible rfl)
          simp only [Act.put, List.getElem_toArray, List.getElem_cons_zero, List.getElem_cons_succ, List.setIfInBounds_toArray, List.set_cons_zero, List.set_cons_succ]
          refine wpAnyH_take (i := 28) (v := ?_) rfl (by kernel_rfl) (by kernel_rfl) (by kernel_rfl) (fun c a w h => h) (Or.inl ⟨by rfl, ?_⟩) hHeld ?_
          rotate_left
          · (intro w hSw; (try dsimp only at hSw); go_simp; try with_reducible rfl)
          simp only [Act.put, List.getElem_toArray, List.getElem_cons_zero, List.getElem_cons_succ, List.setIfInBounds_toArray, List.set_cons_zero, List.set_cons_succ]
          refine wpAnyH_take (i := 29) (v := ?_) rfl (by kernel_rfl) (by kernel_rfl) (by kernel_rfl) (fun c a w h => h) (Or.inl ⟨by rfl, ?_⟩) hHeld ?_
          rotate_left
          · (intro w hSw; (try dsimp only at hSw); go_simp; try with_reducible rfl)
          simp only [Act.put, List.getElem_toArray, List.getElem_cons_zero, List.getElem_cons_succ, List.setIfInBounds_toArray, List.set_cons_zero, List.set_cons_succ]
          refine wpAnyH_take (i := 30) (v := ?_) rfl (by kernel_rfl) (by kernel_rfl) (by kernel_rfl) (fun c a w h => h) (Or.inl ⟨by rfl, ?_⟩) hHeld ?_
          rotate_left
          · (intro w hSw; (try dsimp only at hSw); go_simp; try with_reducible rfl)
          simp only [Act.put, List.getElem_toArray, List.getElem_cons_zero, List.getElem_cons_succ, List.setIfInBounds_toArray, List.set_cons_zero, List.set_cons_succ]
          refine wpAnyH_take (i := 31) (v := ?_) rfl (by kernel_rfl) (by kernel_rfl) (by kernel_rfl) (fun c a w h => h) (Or.inl ⟨by rfl, ?_⟩) hHeld ?_
          rotate_left
          · (intro w hSw; (try dsimp only at hSw); go_simp; try with_reducible rfl)
          simp only [Act.put, List.getElem_toArray, List.getElem_cons_zero, List.getElem_cons_succ, List.setIfInBounds_toArray, List.set_cons_zero, List.set_cons_succ]
          refine wpAnyH_take (i := 32) (v := ?_) rfl (by kernel_rfl) (by kernel_rfl) (by kernel_rfl) (fun c a w h => h) (Or.inl ⟨by rfl, ?_⟩) hHeld ?_
          rotate_left
          · (intro w hSw; (try dsimp only at hSw); go_simp; try with_reducible rfl)
          simp only [Act.put, List.getElem_toArray, List.getElem_cons_zero, List.getElem_cons_succ, List.setIfInBounds_toArray, List.set_cons_zero, List.set_cons_succ]
          refine wpAnyH_take (i := 33) (v := ?_) rfl (by kernel_rfl) (by kernel_rfl) (by kernel_rfl) (fun c a w h => h) (Or.inl ⟨by rfl, ?_⟩) hHeld ?_
          rotate_left
          · (intro w hSw; (try dsimp only at hSw); go_simp; try with_reducible rfl)
          simp only [Act.put, List.getElem_toArray, List.getElem_cons_zero, List.getElem_cons_succ, List.setIfInBounds_toArray, List.set_cons_zero, List.set_cons_succ]
          refine wpAnyH_take (i := 34) (v := ?_) rfl (by kernel_rfl) (by kernel_rfl) (by kernel_rfl) (fun c a w h => h) (Or.inl ⟨by rfl, ?_⟩) hHeld ?_
          rotate_left
          · (intro w hSw; (try dsimp only at hSw); go_simp; try with_reducible rfl)
          simp only [Act.put, List.getElem_toArray, List.getElem_cons_zero, List.getElem_cons_succ, List.setIfInBounds_toArray, List.set_cons_zero, List.set_cons_succ]
          refine wpAnyH_take (i := 35) (v := ?_) rfl (by kernel_rfl) (by kernel_rfl) (by kernel_rfl) (fun c a w h => h) (Or.inl ⟨by rfl, ?_⟩) hHeld ?_
          rotate_left
          · (intro w hSw; (try dsimp only at hSw); go_simp; try with_reducible rfl)
          simp only [Act.put, List.getElem_toArray, List.getElem_cons_zero, List.getElem_cons_succ, List.setIfInBounds_toArray, List.set_cons_zero, List.set_cons_succ]
          clear nq
          refine wpAnyH_ready (rs := [36]) (by kernel_rfl) (by simp) ?_
          refine AllReadyH.cons rfl (fun K hK => ?_) AllReadyH.nil
          have hcr := renamed_any ds hd t.nm _ (.slice bp bs.length bc) ⟨_, _, _, rfl⟩ O y0 (fun j hj => Nat.lt_of_lt_of_le (HH.out.2.2.1 j hj) (Nat.le_trans HB.out.1.size HBy0.out.size)) (HH.out.2.2.2.1.below (bch2 HB.out.1 HB.out.1.size HBy0.out) HH.out.2.2.1)
          rw [HRN.out] at hcr
          go_simp
          refine hcr.mono ?_
          rintro e ya ⟨rfl, kk⟩
          have HBya := hid (bch2 HBy0.out HBy0.out.size kk)
          refine hK.out _ _ (HS.out ya HBya.out) (fun hHeld => ?_)
          clear hK K kk hcr
          try simp only [Act.put, List.getElem_toArray, List.getElem_cons_zero, List.getElem_cons_succ, List.setIfInBounds_toArray, List.set_cons_zero, List.set_cons_succ]
          refine wpAnyH_take (i := 37) (v := ?_) rfl (by kernel_rfl) (by kernel_rfl) (by kernel_rfl) (fun c a w h => h) (Or.inl ⟨by rfl, ?_⟩) hHeld ?_
          rotate_left
          · (intro w hSw; (try dsimp only at hSw); go_simp; try with_reducible rfl)
          simp only [Act.put, List.getElem_toArray, List.getElem_cons_zero, List.getElem_cons_succ, List.setIfInBounds_toArray, List.set_cons_zero, List.set_cons_succ]
          refine wpAnyH_take (i := 38) (v := ?_) rfl (by kernel_rfl) (by kernel_rfl) (by kernel_rfl) (fun c a w h => h) (Or.inl ⟨by rfl, ?_⟩) hHeld ?_
          rotate_left
          · (intro w hSw; (try dsimp only at hSw); go_simp; try with_reducible rfl)
          simp only [Act.put, List.getElem_toArray, List.getElem_cons_zero, List.getElem_cons_succ, List.setIfInBounds_toArray, List.set_cons_zero, List.set_cons_succ]
          refine wpAnyH_done (by kernel_rfl) ?_ _
          clear hHeld
          try simp only [Act.put, List.setIfInBounds_toArray, List.set_cons_zero, List.set_cons_succ]
          go_wp2
          go_roundw
          case rel =>
            first
              | exact ⟨k2 + 1, by omega, by go_num, HBya.out⟩
              | ((repeat apply Exists.intro); refine ⟨⟨k2 + 1, by omega, ?_, HBya.out⟩, rfl⟩; go_num)
          case measure => simp [intOf]; omega
        · have i2 : ¬ (k2 : Int) < n1 := by omega
          have pe := (hb2.block _ (S.lt_of HB.out.2.2.2.2.2)).trans HB.out.2.2.2.2.2
          have q0 := (hb2.block _ (Nat.lt_of_lt_of_le (S.lt_of HA.out.2.2.2.2.1) HB.out.2.1.size)).trans ((HB.out.2.1.block _ (S.lt_of HA.out.2.2.2.2.1)).trans HA.out.2.2.2.2.1)
          have hWe := bch2 HB.out.1 HB.out.1.size hb2
          have p0 := S.cell_of wr _ 0 _ 35 _ pe rfl
          have p1 := S.cell_of wr _ 1 _ 35 _ pe rfl
          have hct := typable_any ds bs hd HH.out.2.2.2.2.2.1 (by omega) _ _ O wr (fun j hj => Nat.lt_of_lt_of_le (HH.out.2.2.1 j hj) hWe.size) (HH.out.2.2.2.1.below hWe HH.out.2.2.1) (HH.out.2.2.2.2.1.below hWe HH.out.2.2.1)
          have hAe : Below wa.heap.size wa wr := bch2 HB.out.2.1 HB.out.2.1.size hb2
          have HE1 := hid (And.intro hWe (And.intro hAe q0))
          have hty := typ_oth xr ds hd bs HZ.out
          obtain ⟨e1, he1⟩ : ∃ e1, typP ds bs = e1 := ⟨_, rfl⟩
          obtain ⟨e2, he2⟩ : ∃ e2, typP (othP xr ds) [] = e2 := ⟨_, rfl⟩
          rw [he1, he2] at hty
          rw [he1] at hct
          have HTY := hid (And.intro he2 hty)
          clear pe q0 hWe hAe hb2 hty he1 he2 hk2
          go_wp2_with fail
          refine hct.mono ?_
          rintro e wc ⟨rfl, kc⟩
          clear hct p0 p1
          go_upto_region 23 with fail
          obtain ⟨wd, hwd⟩ : ∃ wd, wc.alloc (.cells #[.int .i64 e1.2.1, .int .i64 e1.2.2] 25) = wd := ⟨_, rfl⟩
          rw [hwd]
          have kd : Below wc.heap.size wc wd := by rw [<- hwd]; exact (Below.refl _ _).alloc (Nat.le_refl _) _
          have kcd : Below wr.heap.size wr wd := bch2 kc kc.size kd
          have qd := (kcd.block _ (S.lt_of HE1.out.2.2)).trans HE1.out.2.2
          have r0 := S.cell_of wd _ 0 _ 35 _ qd rfl
          have r1 := S.cell_of wd _ 1 _ 35 _ qd rfl
          have hAd := bch2 HE1.out.2.1 HE1.out.2.1.size kcd
          have hcu := typable_any (othP xr ds) [] (by rw [HQ.out.2.2.1]; omega) HQ.out.2.1 (by simp) _ _ _ wd (fun j hj => Nat.lt_of_lt_of_le hj (Nat.le_trans HA.out.2.1.size hAd.size)) ((HQ.out.1.below HA.out.2.1 (fun _ h => h)).below hAd (fun j hj => Nat.lt_of_lt_of_le hj HA.out.2.1.size)) (bv_nil _ _)
          rw [HTY.out.1] at hcu
          have HD2 := hid (bch2 HE1.out.1 HE1.out.1.size kcd)
          clear hwd kd kcd qd hAd kc
          go_wp2_with fail
          refine hcu.mono ?_
          rintro e we ⟨rfl, ke⟩
          clear hcu r0 r1
          rw [show e2.1 = e1.1 from HTY.out.2]
          go_upto_region 24 with fail
          obtain ⟨wf, hwf⟩ : ∃ wf, we.alloc (.cells #[.int .i64 e2.2.1, .int .i64 e2.2.2] 25) = wf := ⟨_, rfl⟩
          rw [hwf]
          have kf : Below we.heap.size we wf := by rw [<- hwf]; exact (Below.refl _ _).alloc (Nat.le_refl _) _
          have HF := hid (bch2 HD2.out HD2.out.size (bch2 ke ke.size kf))
          clear hwf kf ke
          go_wp2_with fail
          refine (known_any wf).mono ?_
          rintro e wg ⟨rfl, kg⟩
          have HG2 := hid (bch2 HF.out HF.out.size kg)
          clear kg
          go_wp2
          go_ret
          exact ⟨rfl, HG2.out⟩
end Go.Proofs.YtlilefhmohkfkaaGreatDoor.E
