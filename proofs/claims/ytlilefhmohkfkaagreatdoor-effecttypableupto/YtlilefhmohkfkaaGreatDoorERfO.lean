import Derived.Test.YtlilefhmohkfkaaGreatDoorERfP
namespace Go.Proofs.YtlilefhmohkfkaaGreatDoor.E
open Go.RowKit
open Go.Proofs
open Go.Proofs.YtlilefhmohkfkaaGreatDoor.Y (Nd Df Ps ndc dfc hid)
set_option linter.unusedVariables false
set_option linter.unusedSimpArgs false
set_option maxHeartbeats 2000000
set_option maxRecDepth 100000
def BH (W : World) (g : Nat) (kv lv : Value) (f : RX -> RX) : Prop := (∀ x, LI x -> LI (f x)) /\ ∀ (x : RX) (v : Value) (V : World), LI x -> RW V g kv x.1 -> OV V g v x.2.own -> Gw g W V ->
  Calls Tryz.prog 48 #[.pointer (some ⟨g, 0, none⟩), .agg (rsc v x.2).toArray, lv] V (RO V g kv (f x))
theorem nr_1 (op v : Int) (nm : ByteArray) (th el : List Nd) (has : Bool) (p : Ps) (q1 q2 : Option Addr) (d1 d2 : Nat) (w : Rw) (s : Rs) (sv : Value) (hl : s.own.length <= 128) (g : Nat) (kv : Value) (W : World) (h : RW W g kv w) (ho : OV W g sv s.own) (hop : 9 <= op /\ op <= 63) :
  Calls Tryz.prog 58 #[.pointer (some ⟨g, 0, none⟩), .agg (rsc sv s).toArray, .agg #[.int .i64 1, .int .i64 op, .int .u16 v, .string nm, .slice q1 th.length d1, .slice q2 el.length d2, .bool has, .int .i64 p.1, .int .i64 p.2]] W (RO W g kv (rprim op p (w, s))) := by
 obtain ⟨q, cc, hsv, _, _⟩ := id ho.ex
 subst hsv
 obtain ⟨W0, W1, W2, hW0, hW1, hW2, hF⟩ := box_n s (.slice q s.own.length cc) (ndc ⟨1, op, v, nm, th, el, has, p⟩ (.slice q1 th.length d1) (.slice q2 el.length d2)) g kv w W h ho
 have HF := hid hF
 have HO := hid ho
 clear hF ho h
 unfold ndc at hW1
 simp only at hW1
 have HR : Y.Hd (rprim op p (w, s) = rprim op p (w, s)) := ⟨rfl⟩
 generalize hR : rprim op p (w, s) = R at HR ⊢
 replace HR := hid (hR.symm)
 clear hR
 obtain ⟨c0, c1, c2, c3, c4, c5, c6, c7, c8⟩ := nd_cells HF.out.nb
 obtain ⟨a00, a01, a02⟩ := (HF.out.at 0 _ _ _ rfl).1.cells
 (try simp only at a00 a01 a02)
 have hcl0 := (by have := prim_r w s (.slice q s.own.length cc) op.toNat (by omega) p g kv W2 HF.out.rw (HF.out.at 0 _ _ _ rfl).2 (by omega); rw [show ((op.toNat : Nat) : Int) = op by omega] at this; exact this)
 generalize rprim op p (w, s) = Y at *
 obtain ⟨w1, h1, o1, dd1⟩ := Y
 unfold rsc
 go_enter Tryz.func58, Tryz.ntmps58
 have hcl := hcl0
 unfold rsc at hcl
 (try simp only at hcl)
 go_wp2_with fail
 refine hcl.mono ?_
 rintro e y1 ⟨v', rfl, hov, hrw, hgw⟩
 obtain ⟨qa, qac, hvv, _, _⟩ := id hov.ex
 (try simp only at hvv)
 subst hvv
 clear hcl c0 c1 c2 c3 c4 c5 c6 c7 c8 a00 a01 a02 hcl0 hW0 hW1 hW2
 replace HF := hid (HF.out.go hgw hrw)
 have HOV := hid hov
 clear hov hrw hgw
 (try unfold rsc)
 (try simp only)
 have HT := hid (HF.out.fin ⟨h1, o1, dd1⟩ (.slice qa o1.length qac) HOV.out)
 have hst := HF.out.rb
 unfold rsc at HT
 (try simp only at HT)
 go_wp2_with (refine wpList_store_row rfl 99 _ _ rfl W1.heap.size _ rfl rfl 99 _ hst (by exact sizeR) (by rfl) (by simp [Value.oneCell', rsc]) ?_)
 refine bodyPost_ret (rs_end 6 rfl rfl ⟨_, _, _, rfl⟩ HT.out.1) rfl ?_
 rw [HR.out]
 exact ⟨_, rfl, HT.out.2.1, HT.out.2.2.1, HT.out.2.2.2⟩
theorem nr_2 (op v : Int) (nm : ByteArray) (th el : List Nd) (has : Bool) (p : Ps) (q1 q2 : Option Addr) (d1 d2 : Nat) (w : Rw) (s : Rs) (sv : Value) (hl : s.own.length <= 128) (g : Nat) (kv : Value) (W : World) (h : RW W g kv w) (ho : OV W g sv s.own) :
  Calls Tryz.prog 58 #[.pointer (some ⟨g, 0, none⟩), .agg (rsc sv s).toArray, .agg #[.int .i64 2, .int .i64 op, .int .u16 v, .string nm, .slice q1 th.length d1, .slice q2 el.length d2, .bool has, .int .i64 p.1, .int .i64 p.2]] W (RO W g kv (rstep (w, s) 0 1 p)) := by
 obtain ⟨q, cc, hsv, _, _⟩ := id ho.ex
 subst hsv
 obtain ⟨W0, W1, W2, hW0, hW1, hW2, hF⟩ := box_n s (.slice q s.own.length cc) (ndc ⟨2, op, v, nm, th, el, has, p⟩ (.slice q1 th.length d1) (.slice q2 el.length d2)) g kv w W h ho
 have HF := hid hF
 have HO := hid ho
 clear hF ho h
 unfold ndc at hW1
 simp only at hW1
 have HR : Y.Hd (rstep (w, s) 0 1 p = rstep (w, s) 0 1 p) := ⟨rfl⟩
 generalize hR : rstep (w, s) 0 1 p = R at HR ⊢
 replace HR := hid (hR.symm)
 clear hR
 obtain ⟨c0, c1, c2, c3, c4, c5, c6, c7, c8⟩ := nd_cells HF.out.nb
 obtain ⟨a00, a01, a02⟩ := (HF.out.at 0 _ _ _ rfl).1.cells
 (try simp only at a00 a01 a02)
 have hcl0 := step_r w s (.slice q s.own.length cc) 0 1 p g kv W2 HF.out.rw (HF.out.at 0 _ _ _ rfl).2 (by omega)
 generalize rstep (w, s) 0 1 p = Y at *
 obtain ⟨w1, h1, o1, dd1⟩ := Y
 unfold rsc
 go_enter Tryz.func58, Tryz.ntmps58
 have hcl := hcl0
 unfold rsc at hcl
 (try simp only at hcl)
 go_wp2_with fail
 refine hcl.mono ?_
 rintro e y1 ⟨v', rfl, hov, hrw, hgw⟩
 obtain ⟨qa, qac, hvv, _, _⟩ := id hov.ex
 (try simp only at hvv)
 subst hvv
 clear hcl c0 c1 c2 c3 c4 c5 c6 c7 c8 a00 a01 a02 hcl0 hW0 hW1 hW2
 replace HF := hid (HF.out.go hgw hrw)
 have HOV := hid hov
 clear hov hrw hgw
 (try unfold rsc)
 (try simp only)
 have HT := hid (HF.out.fin ⟨h1, o1, dd1⟩ (.slice qa o1.length qac) HOV.out)
 have hst := HF.out.rb
 unfold rsc at HT
 (try simp only at HT)
 go_wp2_with (refine wpList_store_row rfl 99 _ _ rfl W1.heap.size _ rfl rfl 99 _ hst (by exact sizeR) (by rfl) (by simp [Value.oneCell', rsc]) ?_)
 refine bodyPost_ret (rs_end 6 rfl rfl ⟨_, _, _, rfl⟩ HT.out.1) rfl ?_
 rw [HR.out]
 exact ⟨_, rfl, HT.out.2.1, HT.out.2.2.1, HT.out.2.2.2⟩
theorem nr_3 (op v : Int) (nm : ByteArray) (th el : List Nd) (has : Bool) (p : Ps) (q1 q2 : Option Addr) (d1 d2 : Nat) (w : Rw) (s : Rs) (sv : Value) (hl : s.own.length <= 128) (g : Nat) (kv : Value) (W : World) (h : RW W g kv w) (ho : OV W g sv s.own) (tl : List Ty) (htl : tl.length <= 1048576) (hkv : KV W g kv tl) :
  Calls Tryz.prog 58 #[.pointer (some ⟨g, 0, none⟩), .agg (rsc sv s).toArray, .agg #[.int .i64 3, .int .i64 op, .int .u16 v, .string nm, .slice q1 th.length d1, .slice q2 el.length d2, .bool has, .int .i64 p.1, .int .i64 p.2]] W (RO W g kv (rcall (find tl nm) p (w, s))) := by
 obtain ⟨q, cc, hsv, _, _⟩ := id ho.ex
 subst hsv
 obtain ⟨W0, W1, W2, hW0, hW1, hW2, hF⟩ := box_n s (.slice q s.own.length cc) (ndc ⟨3, op, v, nm, th, el, has, p⟩ (.slice q1 th.length d1) (.slice q2 el.length d2)) g kv w W h ho
 have HF := hid hF
 have HO := hid ho
 clear hF ho h
 unfold ndc at hW1
 simp only at hW1
 have HR : Y.Hd (rcall (find tl nm) p (w, s) = rcall (find tl nm) p (w, s)) := ⟨rfl⟩
 generalize hR : rcall (find tl nm) p (w, s) = R at HR ⊢
 replace HR := hid (hR.symm)
 clear hR
 obtain ⟨c0, c1, c2, c3, c4, c5, c6, c7, c8⟩ := nd_cells HF.out.nb
 obtain ⟨a00, a01, a02⟩ := (HF.out.at 0 _ _ _ rfl).1.cells
 (try simp only at a00 a01 a02)
 have hcl0 := call_r w s (.slice q s.own.length cc) nm p tl htl g kv W2 HF.out.rw (hkv.gw HF.out.gw) (HF.out.at 0 _ _ _ rfl).2 (by omega)
 generalize rcall (find tl nm) p (w, s) = Y at *
 obtain ⟨w1, h1, o1, dd1⟩ := Y
 unfold rsc
 go_enter Tryz.func58, Tryz.ntmps58
 have hcl := hcl0
 unfold rsc at hcl
 (try simp only at hcl)
 go_wp2_with fail
 refine hcl.mono ?_
 rintro e y1 ⟨v', rfl, hov, hrw, hgw⟩
 obtain ⟨qa, qac, hvv, _, _⟩ := id hov.ex
 (try simp only at hvv)
 subst hvv
 clear hcl c0 c1 c2 c3 c4 c5 c6 c7 c8 a00 a01 a02 hcl0 hW0 hW1 hW2
 replace HF := hid (HF.out.go hgw hrw)
 have HOV := hid hov
 clear hov hrw hgw
 (try unfold rsc)
 (try simp only)
 have HT := hid (HF.out.fin ⟨h1, o1, dd1⟩ (.slice qa o1.length qac) HOV.out)
 have hst := HF.out.rb
 unfold rsc at HT
 (try simp only at HT)
 go_wp2_with (refine wpList_store_row rfl 99 _ _ rfl W1.heap.size _ rfl rfl 99 _ hst (by exact sizeR) (by rfl) (by simp [Value.oneCell', rsc]) ?_)
 refine bodyPost_ret (rs_end 6 rfl rfl ⟨_, _, _, rfl⟩ HT.out.1) rfl ?_
 rw [HR.out]
 exact ⟨_, rfl, HT.out.2.1, HT.out.2.2.1, HT.out.2.2.2⟩
theorem nr_9 (op v : Int) (nm : ByteArray) (th el : List Nd) (has : Bool) (p : Ps) (q1 q2 : Option Addr) (d1 d2 : Nat) (w : Rw) (s : Rs) (sv : Value) (hl : s.own.length <= 128) (g : Nat) (kv : Value) (W : World) (h : RW W g kv w) (ho : OV W g sv s.own) :
  Calls Tryz.prog 58 #[.pointer (some ⟨g, 0, none⟩), .agg (rsc sv s).toArray, .agg #[.int .i64 9, .int .i64 op, .int .u16 v, .string nm, .slice q1 th.length d1, .slice q2 el.length d2, .bool has, .int .i64 p.1, .int .i64 p.2]] W (RO W g kv (rends (w, s) p)) := by
 obtain ⟨q, cc, hsv, _, _⟩ := id ho.ex
 subst hsv
 obtain ⟨W0, W1, W2, hW0, hW1, hW2, hF⟩ := box_n s (.slice q s.own.length cc) (ndc ⟨9, op, v, nm, th, el, has, p⟩ (.slice q1 th.length d1) (.slice q2 el.length d2)) g kv w W h ho
 have HF := hid hF
 have HO := hid ho
 clear hF ho h
 unfold ndc at hW1
 simp only at hW1
 have HR : Y.Hd (rends (w, s) p = rends (w, s) p) := ⟨rfl⟩
 generalize hR : rends (w, s) p = R at HR ⊢
 replace HR := hid (hR.symm)
 clear hR
 obtain ⟨c0, c1, c2, c3, c4, c5, c6, c7, c8⟩ := nd_cells HF.out.nb
 obtain ⟨a00, a01, a02⟩ := (HF.out.at 0 _ _ _ rfl).1.cells
 (try simp only at a00 a01 a02)
 have hcl0 := ends_r w s (.slice q s.own.length cc) p g kv W2 HF.out.rw (HF.out.at 0 _ _ _ rfl).2
 generalize rends (w, s) p = Y at *
 obtain ⟨w1, h1, o1, dd1⟩ := Y
 unfold rsc
 go_enter Tryz.func58, Tryz.ntmps58
 have hcl := hcl0
 unfold rsc at hcl
 (try simp only at hcl)
 go_wp2_with fail
 refine hcl.mono ?_
 rintro e y1 ⟨v', rfl, hov, hrw, hgw⟩
 obtain ⟨qa, qac, hvv, _, _⟩ := id hov.ex
 (try simp only at hvv)
 subst hvv
 clear hcl c0 c1 c2 c3 c4 c5 c6 c7 c8 a00 a01 a02 hcl0 hW0 hW1 hW2
 replace HF := hid (HF.out.go hgw hrw)
 have HOV := hid hov
 clear hov hrw hgw
 (try unfold rsc)
 (try simp only)
 have HT := hid (HF.out.fin ⟨h1, o1, dd1⟩ (.slice qa o1.length qac) HOV.out)
 have hst := HF.out.rb
 unfold rsc at HT
 (try simp only at HT)
 go_wp2_with (refine wpList_store_row rfl 99 _ _ rfl W1.heap.size _ rfl rfl 99 _ hst (by exact sizeR) (by rfl) (by simp [Value.oneCell', rsc]) ?_)
 refine bodyPost_ret (rs_end 6 rfl rfl ⟨_, _, _, rfl⟩ HT.out.1) rfl ?_
 rw [HR.out]
 exact ⟨_, rfl, HT.out.2.1, HT.out.2.2.1, HT.out.2.2.2⟩
theorem nr_5 (op v : Int) (nm : ByteArray) (th el : List Nd) (has : Bool) (p : Ps) (q1 q2 : Option Addr) (d1 d2 : Nat) (w : Rw) (s : Rs) (sv : Value) (hl : s.own.length <= 128) (g : Nat) (kv : Value) (W : World) (h : RW W g kv w) (ho : OV W g sv s.own) (tf : RX -> RX) (ht : BH W g kv (.slice q1 th.length d1) tf) :
  Calls Tryz.prog 58 #[.pointer (some ⟨g, 0, none⟩), .agg (rsc sv s).toArray, .agg #[.int .i64 5, .int .i64 op, .int .u16 v, .string nm, .slice q1 th.length d1, .slice q2 el.length d2, .bool has, .int .i64 p.1, .int .i64 p.2]] W (RO W g kv (runt tf p (w, s))) := by
 obtain ⟨q, cc, hsv, _, _⟩ := id ho.ex
 subst hsv
 obtain ⟨W0, W1, W2, hW0, hW1, hW2, hF⟩ := box_n s (.slice q s.own.length cc) (ndc ⟨5, op, v, nm, th, el, has, p⟩ (.slice q1 th.length d1) (.slice q2 el.length d2)) g kv w W h ho
 have HF := hid hF
 have HO := hid ho
 clear hF ho h
 unfold ndc at hW1
 simp only at hW1
 have HR : Y.Hd (runt tf p (w, s) = if (tf (w, s)).2.dead = true then tf (w, s) else (rmust (rstep (tf (w, s)) 1 0 p).1 (rstep (tf (w, s)) 1 0 p).2 s 151 p, (rstep (tf (w, s)) 1 0 p).2)) := ⟨rfl⟩
 generalize runt tf p (w, s) = R at *
 obtain ⟨c0, c1, c2, c3, c4, c5, c6, c7, c8⟩ := nd_cells HF.out.nb
 obtain ⟨a00, a01, a02⟩ := (HF.out.at 0 _ _ _ rfl).1.cells
 (try simp only at a00 a01 a02)
 have hcl0 := ht.2 (w, s) _ W2 ⟨by show s.own.length <= 130; omega, fun _ => hl⟩ HF.out.rw (HF.out.at 0 _ _ _ rfl).2 HF.out.gw
 have HL1 : Y.Hd (LI (tf (w, s))) := ⟨ht.1 _ ⟨by show s.own.length <= 130; omega, fun _ => hl⟩⟩
 generalize tf (w, s) = Y1 at *
 obtain ⟨w1, h1, o1, dd1⟩ := Y1
 unfold rsc
 go_enter Tryz.func58, Tryz.ntmps58
 have hcl := hcl0
 unfold rsc at hcl
 (try simp only at hcl)
 go_wp2_with fail
 refine hcl.mono ?_
 rintro e y1 ⟨v', rfl, hov, hrw, hgw⟩
 obtain ⟨qa, qac, hvv, _, _⟩ := id hov.ex
 (try simp only at hvv)
 subst hvv
 clear hcl c0 c1 c2 c3 c4 c5 c6 c7 c8 a00 a01 a02 hcl0 hW0 hW1 hW2
 replace HF := hid (HF.out.go hgw hrw)
 have HOV := hid hov
 clear hov hrw hgw
 (try unfold rsc)
 (try simp only)
 obtain ⟨y2, hy2⟩ : ∃ wz, y1.alloc (.cells #[.int .i64 h1, .slice qa o1.length qac, .bool dd1] 99) = wz := ⟨_, rfl⟩
 have zb : Below y1.heap.size y1 y2 := by rw [<- hy2]; exact (Below.refl _ _).alloc (Nat.le_refl _) _
 have zr : RB y2 y1.heap.size (.slice qa o1.length qac) ⟨h1, o1, dd1⟩ := by rw [<- hy2]; exact heap_alloc_new y1 _
 replace HF := hid (HF.out.new zb ⟨h1, o1, dd1⟩ (.slice qa o1.length qac) zr HOV.out)
 clear zb zr HOV
 obtain ⟨a10, a11, a12⟩ := (HF.out.at 1 _ _ _ rfl).1.cells
 (try simp only at a10 a11 a12)
 go_upto_if 93 with fail
 clear hy2 a10 a11 a12
 cases dd1
 ·
  replace HR : Y.Hd (R = (rmust (rstep (w1, ⟨h1, o1, false⟩) 1 0 p).1 (rstep (w1, ⟨h1, o1, false⟩) 1 0 p).2 s 151 p, (rstep (w1, ⟨h1, o1, false⟩) 1 0 p).2)) := ⟨HR.out⟩
  obtain ⟨c0, c1, c2, c3, c4, c5, c6, c7, c8⟩ := nd_cells HF.out.nb
  obtain ⟨a00, a01, a02⟩ := (HF.out.at 0 _ _ _ rfl).1.cells
  (try simp only at a00 a01 a02)
  obtain ⟨a10, a11, a12⟩ := (HF.out.at 1 _ _ _ rfl).1.cells
  (try simp only at a10 a11 a12)
  have hcl0 := step_r w1 ⟨h1, o1, false⟩ (.slice qa o1.length qac) 1 0 p g kv y2 HF.out.rw (HF.out.at 1 _ _ _ rfl).2 (by have := HL1.out.1; simp only at this ⊢; omega)
  have HL2 : Y.Hd (LI (rstep (w1, ⟨h1, o1, false⟩) 1 0 p)) := ⟨rstep_li _ _ _ _ HL1.out.1⟩
  generalize rstep (w1, ⟨h1, o1, false⟩) 1 0 p = Y2 at *
  obtain ⟨w2, h2, o2, dd2⟩ := Y2
  have hcl := hcl0
  unfold rsc at hcl
  (try simp only at hcl)
  go_wp2_with fail
  refine hcl.mono ?_
  rintro e y3 ⟨v', rfl, hov, hrw, hgw⟩
  obtain ⟨qb, qbc, hvv, _, _⟩ := id hov.ex
  (try simp only at hvv)
  subst hvv
  clear hcl c0 c1 c2 c3 c4 c5 c6 c7 c8 a00 a01 a02 a10 a11 a12 hcl0
  replace HF := hid (HF.out.go hgw hrw)
  have HOV := hid hov
  clear hov hrw hgw
  (try unfold rsc)
  (try simp only)
  have hst := (HF.out.at 1 _ _ _ rfl).1
  replace HF := hid (HF.out.put 1 _ _ _ rfl ⟨h2, o2, dd2⟩ (.slice qb o2.length qbc) HOV.out)
  unfold rsc at HF
  (try simp only at HF)
  clear HOV
  go_upto_region 26 with (refine wpList_store_row rfl 99 _ _ rfl y1.heap.size _ rfl rfl 99 _ hst (by exact sizeR) (by rfl) (by simp [Value.oneCell', rsc]) ?_)
  clear hst
  generalize World.setRow _ y1.heap.size _ = y4 at *
  obtain ⟨c0, c1, c2, c3, c4, c5, c6, c7, c8⟩ := nd_cells HF.out.nb
  obtain ⟨a00, a01, a02⟩ := (HF.out.at 0 _ _ _ rfl).1.cells
  (try simp only at a00 a01 a02)
  obtain ⟨a10, a11, a12⟩ := (HF.out.at 1 _ _ _ rfl).1.cells
  (try simp only at a10 a11 a12)
  have hcl := must_r w2 ⟨h2, o2, dd2⟩ s (.slice qb o2.length qbc) (.slice q s.own.length cc) 151 p g kv y4 HF.out.rw (HF.out.at 1 _ _ _ rfl).2 (HF.out.at 0 _ _ _ rfl).2 (by have := HL2.out.1; simp only at this ⊢; omega)
  unfold rsc at hcl
  (try simp only at hcl)
  go_wp2_with fail
  refine hcl.mono ?_
  rintro e y5 ⟨rfl, hrw, hgw⟩
  clear hcl c0 c1 c2 c3 c4 c5 c6 c7 c8 a00 a01 a02 a10 a11 a12
  replace HF := hid (HF.out.go hgw hrw)
  clear hrw hgw
  obtain ⟨a10, a11, a12⟩ := (HF.out.at 1 _ _ _ rfl).1.cells
  (try simp only at a10 a11 a12)
  have HT := hid (HF.out.fin ⟨h2, o2, dd2⟩ (.slice qb o2.length qbc) (HF.out.at 1 _ _ _ rfl).2)
  have hst := HF.out.rb
  unfold rsc at HT
  (try simp only at HT)
  go_wp2_with (refine wpList_store_row rfl 99 _ _ rfl W1.heap.size _ rfl rfl 99 _ hst (by exact sizeR) (by rfl) (by simp [Value.oneCell', rsc]) ?_)
  refine bodyPost_ret (rs_end 6 rfl rfl ⟨_, _, _, rfl⟩ HT.out.1) rfl ?_
  rw [HR.out]
  exact ⟨_, rfl, HT.out.2.1, HT.out.2.2.1, HT.out.2.2.2⟩
 ·
  replace HR : Y.Hd (R = (w1, ⟨h1, o1, true⟩)) := ⟨HR.out⟩
  obtain ⟨a10, a11, a12⟩ := (HF.out.at 1 _ _ _ rfl).1.cells
  (try simp only at a10 a11 a12)
  have HT := hid (HF.out.fin ⟨h1, o1, true⟩ (.slice qa o1.length qac) (HF.out.at 1 _ _ _ rfl).2)
  have hst := HF.out.rb
  unfold rsc at HT
  (try simp only at HT)
  go_wp2_with (refine wpList_store_row rfl 99 _ _ rfl W1.heap.size _ rfl rfl 99 _ hst (by exact sizeR) (by rfl) (by simp [Value.oneCell', rsc]) ?_)
  refine bodyPost_ret (rs_end 6 rfl rfl ⟨_, _, _, rfl⟩ HT.out.1) rfl ?_
  rw [HR.out]
  exact ⟨_, rfl, HT.out.2.1, HT.out.2.2.1, HT.out.2.2.2⟩
theorem nr_6 (op v : Int) (nm : ByteArray) (th el : List Nd) (has : Bool) (p : Ps) (q1 q2 : Option Addr) (d1 d2 : Nat) (w : Rw) (s : Rs) (sv : Value) (hl : s.own.length <= 128) (g : Nat) (kv : Value) (W : World) (h : RW W g kv w) (ho : OV W g sv s.own) (tf : RX -> RX) (ht : BH W g kv (.slice q1 th.length d1) tf) (ef : RX -> RX) (he : BH W g kv (.slice q2 el.length d2) ef) :
  Calls Tryz.prog 58 #[.pointer (some ⟨g, 0, none⟩), .agg (rsc sv s).toArray, .agg #[.int .i64 6, .int .i64 op, .int .u16 v, .string nm, .slice q1 th.length d1, .slice q2 el.length d2, .bool has, .int .i64 p.1, .int .i64 p.2]] W (RO W g kv (rwhi tf ef p (w, s))) := by
 obtain ⟨q, cc, hsv, _, _⟩ := id ho.ex
 subst hsv
 obtain ⟨W0, W1, W2, hW0, hW1, hW2, hF⟩ := box_n s (.slice q s.own.length cc) (ndc ⟨6, op, v, nm, th, el, has, p⟩ (.slice q1 th.length d1) (.slice q2 el.length d2)) g kv w W h ho
 have HF := hid hF
 have HO := hid ho
 clear hF ho h
 unfold ndc at hW1
 simp only at hW1
 have HR : Y.Hd (rwhi tf ef p (w, s) = if (tf (w, s)).2.dead = true then tf (w, s) else (rmust (ef (rstep (tf (w, s)) 1 0 p)).1 (ef (rstep (tf (w, s)) 1 0 p)).2 s 151 p, (rstep (tf (w, s)) 1 0 p).2)) := ⟨rfl⟩
 generalize rwhi tf ef p (w, s) = R at *
 obtain ⟨c0, c1, c2, c3, c4, c5, c6, c7, c8⟩ := nd_cells HF.out.nb
 obtain ⟨a00, a01, a02⟩ := (HF.out.at 0 _ _ _ rfl).1.cells
 (try simp only at a00 a01 a02)
 have hcl0 := ht.2 (w, s) _ W2 ⟨by show s.own.length <= 130; omega, fun _ => hl⟩ HF.out.rw (HF.out.at 0 _ _ _ rfl).2 HF.out.gw
 have HL1 : Y.Hd (LI (tf (w, s))) := ⟨ht.1 _ ⟨by show s.own.length <= 130; omega, fun _ => hl⟩⟩
 generalize tf (w, s) = Y1 at *
 obtain ⟨w1, h1, o1, dd1⟩ := Y1
 unfold rsc
 go_enter Tryz.func58, Tryz.ntmps58
 have hcl := hcl0
 unfold rsc at hcl
 (try simp only at hcl)
 go_wp2_with fail
 refine hcl.mono ?_
 rintro e y1 ⟨v', rfl, hov, hrw, hgw⟩
 obtain ⟨qa, qac, hvv, _, _⟩ := id hov.ex
 (try simp only at hvv)
 subst hvv
 clear hcl c0 c1 c2 c3 c4 c5 c6 c7 c8 a00 a01 a02 hcl0 hW0 hW1 hW2
 replace HF := hid (HF.out.go hgw hrw)
 have HOV := hid hov
 clear hov hrw hgw
 (try unfold rsc)
 (try simp only)
 obtain ⟨y2, hy2⟩ : ∃ wz, y1.alloc (.cells #[.int .i64 h1, .slice qa o1.length qac, .bool dd1] 99) = wz := ⟨_, rfl⟩
 have zb : Below y1.heap.size y1 y2 := by rw [<- hy2]; exact (Below.refl _ _).alloc (Nat.le_refl _) _
 have zr : RB y2 y1.heap.size (.slice qa o1.length qac) ⟨h1, o1, dd1⟩ := by rw [<- hy2]; exact heap_alloc_new y1 _
 replace HF := hid (HF.out.new zb ⟨h1, o1, dd1⟩ (.slice qa o1.length qac) zr HOV.out)
 clear zb zr HOV
 obtain ⟨a10, a11, a12⟩ := (HF.out.at 1 _ _ _ rfl).1.cells
 (try simp only at a10 a11 a12)
 go_upto_if 115 with fail
 clear hy2 a10 a11 a12
 cases dd1
 ·
  replace HR : Y.Hd (R = (rmust (ef (rstep (w1, ⟨h1, o1, false⟩) 1 0 p)).1 (ef (rstep (w1, ⟨h1, o1, false⟩) 1 0 p)).2 s 151 p, (rstep (w1, ⟨h1, o1, false⟩) 1 0 p).2)) := ⟨HR.out⟩
  obtain ⟨c0, c1, c2, c3, c4, c5, c6, c7, c8⟩ := nd_cells HF.out.nb
  obtain ⟨a00, a01, a02⟩ := (HF.out.at 0 _ _ _ rfl).1.cells
  (try simp only at a00 a01 a02)
  obtain ⟨a10, a11, a12⟩ := (HF.out.at 1 _ _ _ rfl).1.cells
  (try simp only at a10 a11 a12)
  have hcl0 := step_r w1 ⟨h1, o1, false⟩ (.slice qa o1.length qac) 1 0 p g kv y2 HF.out.rw (HF.out.at 1 _ _ _ rfl).2 (by have := HL1.out.1; simp only at this ⊢; omega)
  have HL2 : Y.Hd (LI (rstep (w1, ⟨h1, o1, false⟩) 1 0 p)) := ⟨rstep_li _ _ _ _ HL1.out.1⟩
  generalize rstep (w1, ⟨h1, o1, false⟩) 1 0 p = Y2 at *
  obtain ⟨w2, h2, o2, dd2⟩ := Y2
  have hcl := hcl0
  unfold rsc at hcl
  (try simp only at hcl)
  go_wp2_with fail
  refine hcl.mono ?_
  rintro e y3 ⟨v', rfl, hov, hrw, hgw⟩
  obtain ⟨qb, qbc, hvv, _, _⟩ := id hov.ex
  (try simp only at hvv)
  subst hvv
  clear hcl c0 c1 c2 c3 c4 c5 c6 c7 c8 a00 a01 a02 a10 a11 a12 hcl0
  replace HF := hid (HF.out.go hgw hrw)
  have HOV := hid hov
  clear hov hrw hgw
  (try unfold rsc)
  (try simp only)
  have hst := (HF.out.at 1 _ _ _ rfl).1
  replace HF := hid (HF.out.put 1 _ _ _ rfl ⟨h2, o2, dd2⟩ (.slice qb o2.length qbc) HOV.out)
  unfold rsc at HF
  (try simp only at HF)
  clear HOV
  go_upto_region 33 with (refine wpList_store_row rfl 99 _ _ rfl y1.heap.size _ rfl rfl 99 _ hst (by exact sizeR) (by rfl) (by simp [Value.oneCell', rsc]) ?_)
  clear hst
  generalize World.setRow _ y1.heap.size _ = y4 at *
  obtain ⟨c0, c1, c2, c3, c4, c5, c6, c7, c8⟩ := nd_cells HF.out.nb
  obtain ⟨a00, a01, a02⟩ := (HF.out.at 0 _ _ _ rfl).1.cells
  (try simp only at a00 a01 a02)
  obtain ⟨a10, a11, a12⟩ := (HF.out.at 1 _ _ _ rfl).1.cells
  (try simp only at a10 a11 a12)
  have hcl0 := he.2 (w2, ⟨h2, o2, dd2⟩) _ y4 HL2.out HF.out.rw (HF.out.at 1 _ _ _ rfl).2 HF.out.gw
  have HL3 : Y.Hd (LI (ef (w2, ⟨h2, o2, dd2⟩))) := ⟨he.1 _ HL2.out⟩
  generalize ef (w2, ⟨h2, o2, dd2⟩) = Y3 at *
  obtain ⟨w3, h3, o3, dd3⟩ := Y3
  have hcl := hcl0
  unfold rsc at hcl
  (try simp only at hcl)
  go_wp2_with fail
  refine hcl.mono ?_
  rintro e y5 ⟨v', rfl, hov, hrw, hgw⟩
  obtain ⟨qd, qdc, hvv, _, _⟩ := id hov.ex
  (try simp only at hvv)
  subst hvv
  clear hcl c0 c1 c2 c3 c4 c5 c6 c7 c8 a00 a01 a02 a10 a11 a12 hcl0
  replace HF := hid (HF.out.go hgw hrw)
  have HOV := hid hov
  clear hov hrw hgw
  (try unfold rsc)
  (try simp only)
  obtain ⟨y6, hy6⟩ : ∃ wz, y5.alloc (.cells #[.int .i64 h3, .slice qd o3.length qdc, .bool dd3] 99) = wz := ⟨_, rfl⟩
  have zb : Below y5.heap.size y5 y6 := by rw [<- hy6]; exact (Below.refl _ _).alloc (Nat.le_refl _) _
  have zr : RB y6 y5.heap.size (.slice qd o3.length qdc) ⟨h3, o3, dd3⟩ := by rw [<- hy6]; exact heap_alloc_new y5 _
  replace HF := hid (HF.out.new zb ⟨h3, o3, dd3⟩ (.slice qd o3.length qdc) zr HOV.out)
  clear zb zr HOV
  obtain ⟨c0, c1, c2, c3, c4, c5, c6, c7, c8⟩ := nd_cells HF.out.nb
  obtain ⟨a00, a01, a02⟩ := (HF.out.at 0 _ _ _ rfl).1.cells
  (try simp only at a00 a01 a02)
  obtain ⟨a10, a11, a12⟩ := (HF.out.at 1 _ _ _ rfl).1.cells
  (try simp only at a10 a11 a12)
  obtain ⟨a20, a21, a22⟩ := (HF.out.at 2 _ _ _ rfl).1.cells
  (try simp only at a20 a21 a22)
  have hcl := must_r w3 ⟨h3, o3, dd3⟩ s (.slice qd o3.length qdc) (.slice q s.own.length cc) 151 p g kv y6 HF.out.rw (HF.out.at 2 _ _ _ rfl).2 (HF.out.at 0 _ _ _ rfl).2 (by have := HL3.out.1; simp only at this ⊢; omega)
  unfold rsc at hcl
  (try simp only at hcl)
  go_wp2_with fail
  refine hcl.mono ?_
  rintro e y7 ⟨rfl, hrw, hgw⟩
  clear hcl c0 c1 c2 c3 c4 c5 c6 c7 c8 a00 a01 a02 a10 a11 a12 a20 a21 a22 hy6
  replace HF := hid (HF.out.go hgw hrw)
  clear hrw hgw
  obtain ⟨a10, a11, a12⟩ := (HF.out.at 1 _ _ _ rfl).1.cells
  (try simp only at a10 a11 a12)
  have HT := hid (HF.out.fin ⟨h2, o2, dd2⟩ (.slice qb o2.length qbc) (HF.out.at 1 _ _ _ rfl).2)
  have hst := HF.out.rb
  unfold rsc at HT
  (try simp only at HT)
  go_wp2_with (refine wpList_store_row rfl 99 _ _ rfl W1.heap.size _ rfl rfl 99 _ hst (by exact sizeR) (by rfl) (by simp [Value.oneCell', rsc]) ?_)
  refine bodyPost_ret (rs_end 6 rfl rfl ⟨_, _, _, rfl⟩ HT.out.1) rfl ?_
  rw [HR.out]
  exact ⟨_, rfl, HT.out.2.1, HT.out.2.2.1, HT.out.2.2.2⟩
 ·
  replace HR : Y.Hd (R = (w1, ⟨h1, o1, true⟩)) := ⟨HR.out⟩
  obtain ⟨a10, a11, a12⟩ := (HF.out.at 1 _ _ _ rfl).1.cells
  (try simp only at a10 a11 a12)
  have HT := hid (HF.out.fin ⟨h1, o1, true⟩ (.slice qa o1.length qac) (HF.out.at 1 _ _ _ rfl).2)
  have hst := HF.out.rb
  unfold rsc at HT
  (try simp only at HT)
  go_wp2_with (refine wpList_store_row rfl 99 _ _ rfl W1.heap.size _ rfl rfl 99 _ hst (by exact sizeR) (by rfl) (by simp [Value.oneCell', rsc]) ?_)
  refine bodyPost_ret (rs_end 6 rfl rfl ⟨_, _, _, rfl⟩ HT.out.1) rfl ?_
  rw [HR.out]
  exact ⟨_, rfl, HT.out.2.1, HT.out.2.2.1, HT.out.2.2.2⟩
theorem nr_7 (op v : Int) (nm : ByteArray) (th el : List Nd) (has : Bool) (p : Ps) (q1 q2 : Option Addr) (d1 d2 : Nat) (w : Rw) (s : Rs) (sv : Value) (hl : s.own.length <= 128) (g : Nat) (kv : Value) (W : World) (h : RW W g kv w) (ho : OV W g sv s.own) (tf : RX -> RX) (ht : BH W g kv (.slice q1 th.length d1) tf) :
  Calls Tryz.prog 58 #[.pointer (some ⟨g, 0, none⟩), .agg (rsc sv s).toArray, .agg #[.int .i64 7, .int .i64 op, .int .u16 v, .string nm, .slice q1 th.length d1, .slice q2 el.length d2, .bool has, .int .i64 p.1, .int .i64 p.2]] W (RO W g kv (raga tf p (w, s))) := by
 obtain ⟨q, cc, hsv, _, _⟩ := id ho.ex
 subst hsv
 obtain ⟨W0, W1, W2, hW0, hW1, hW2, hF⟩ := box_n s (.slice q s.own.length cc) (ndc ⟨7, op, v, nm, th, el, has, p⟩ (.slice q1 th.length d1) (.slice q2 el.length d2)) g kv w W h ho
 have HF := hid hF
 have HO := hid ho
 clear hF ho h
 unfold ndc at hW1
 simp only at hW1
 have HR : Y.Hd (raga tf p (w, s) = (rmust (tf (w, s)).1 (tf (w, s)).2 s 151 p, { (tf (w, s)).2 with dead := true })) := ⟨rfl⟩
 generalize raga tf p (w, s) = R at *
 obtain ⟨c0, c1, c2, c3, c4, c5, c6, c7, c8⟩ := nd_cells HF.out.nb
 obtain ⟨a00, a01, a02⟩ := (HF.out.at 0 _ _ _ rfl).1.cells
 (try simp only at a00 a01 a02)
 have hcl0 := ht.2 (w, s) _ W2 ⟨by show s.own.length <= 130; omega, fun _ => hl⟩ HF.out.rw (HF.out.at 0 _ _ _ rfl).2 HF.out.gw
 have HL1 : Y.Hd (LI (tf (w, s))) := ⟨ht.1 _ ⟨by show s.own.length <= 130; omega, fun _ => hl⟩⟩
 generalize tf (w, s) = Y1 at *
 obtain ⟨w1, h1, o1, dd1⟩ := Y1
 unfold rsc
 go_enter Tryz.func58, Tryz.ntmps58
 have hcl := hcl0
 unfold rsc at hcl
 (try simp only at hcl)
 go_wp2_with fail
 refine hcl.mono ?_
 rintro e y1 ⟨v', rfl, hov, hrw, hgw⟩
 obtain ⟨qa, qac, hvv, _, _⟩ := id hov.ex
 (try simp only at hvv)
 subst hvv
 clear hcl c0 c1 c2 c3 c4 c5 c6 c7 c8 a00 a01 a02 hcl0 hW0 hW1 hW2
 replace HF := hid (HF.out.go hgw hrw)
 have HOV := hid hov
 clear hov hrw hgw
 (try unfold rsc)
 (try simp only)
 obtain ⟨y2, hy2⟩ : ∃ wz, y1.alloc (.cells #[.int .i64 h1, .slice qa o1.length qac, .bool dd1] 99) = wz := ⟨_, rfl⟩
 have zb : Below y1.heap.size y1 y2 := by rw [<- hy2]; exact (Below.refl _ _).alloc (Nat.le_refl _) _
 have zr : RB y2 y1.heap.size (.slice qa o1.length qac) ⟨h1, o1, dd1⟩ := by rw [<- hy2]; exact heap_alloc_new y1 _
 replace HF := hid (HF.out.new zb ⟨h1, o1, dd1⟩ (.slice qa o1.length qac) zr HOV.out)
 clear zb zr HOV
 obtain ⟨c0, c1, c2, c3, c4, c5, c6, c7, c8⟩ := nd_cells HF.out.nb
 obtain ⟨a00, a01, a02⟩ := (HF.out.at 0 _ _ _ rfl).1.cells
 (try simp only at a00 a01 a02)
 obtain ⟨a10, a11, a12⟩ := (HF.out.at 1 _ _ _ rfl).1.cells
 (try simp only at a10 a11 a12)
 have hcl := must_r w1 ⟨h1, o1, dd1⟩ s (.slice qa o1.length qac) (.slice q s.own.length cc) 151 p g kv y2 HF.out.rw (HF.out.at 1 _ _ _ rfl).2 (HF.out.at 0 _ _ _ rfl).2 (by have := HL1.out.1; simp only at this ⊢; omega)
 unfold rsc at hcl
 (try simp only at hcl)
 go_wp2_with fail
 refine hcl.mono ?_
 rintro e y3 ⟨rfl, hrw, hgw⟩
 clear hcl c0 c1 c2 c3 c4 c5 c6 c7 c8 a00 a01 a02 a10 a11 a12 hy2
 replace HF := hid (HF.out.go hgw hrw)
 clear hrw hgw
 obtain ⟨a10, a11, a12⟩ := (HF.out.at 1 _ _ _ rfl).1.cells
 (try simp only at a10 a11 a12)
 have f2 := (HF.out.at 1 _ _ _ rfl).1.fro 2
 replace HF := hid (HF.out.kill 1 _ _ _ rfl)
 (try simp only at HF)
 obtain ⟨y4, hy4⟩ : ∃ y4, y3.setCell ⟨y1.heap.size, 2, none⟩ (.bool true) = y4 := ⟨_, rfl⟩
 rw [hy4] at HF
 go_upto_region 40 with fail
 clear hy4 f2 a10 a11 a12
 obtain ⟨a10, a11, a12⟩ := (HF.out.at 1 _ _ _ rfl).1.cells
 (try simp only at a10 a11 a12)
 have HT := hid (HF.out.fin ⟨h1, o1, true⟩ (.slice qa o1.length qac) (HF.out.at 1 _ _ _ rfl).2)
 have hst := HF.out.rb
 unfold rsc at HT
 (try simp only at HT)
 go_wp2_with (refine wpList_store_row rfl 99 _ _ rfl W1.heap.size _ rfl rfl 99 _ hst (by exact sizeR) (by rfl) (by simp [Value.oneCell', rsc]) ?_)
 refine bodyPost_ret (rs_end 6 rfl rfl ⟨_, _, _, rfl⟩ HT.out.1) rfl ?_
 rw [HR.out]
 exact ⟨_, rfl, HT.out.2.1, HT.out.2.2.1, HT.out.2.2.2⟩
theorem nr_8 (op v : Int) (nm : ByteArray) (th el : List Nd) (has : Bool) (p : Ps) (q1 q2 : Option Addr) (d1 d2 : Nat) (w : Rw) (s : Rs) (sv : Value) (hl : s.own.length <= 128) (g : Nat) (kv : Value) (W : World) (h : RW W g kv w) (ho : OV W g sv s.own) (tf : RX -> RX) (ht : BH W g kv (.slice q1 th.length d1) tf) :
  Calls Tryz.prog 58 #[.pointer (some ⟨g, 0, none⟩), .agg (rsc sv s).toArray, .agg #[.int .i64 8, .int .i64 op, .int .u16 v, .string nm, .slice q1 th.length d1, .slice q2 el.length d2, .bool has, .int .i64 p.1, .int .i64 p.2]] W (RO W g kv (rdo1 tf p (rstep (w, { s with own := s.own ++ [2, 3] }) 2 0 p))) := by
 obtain ⟨q, cc, hsv, _, _⟩ := id ho.ex
 subst hsv
 obtain ⟨W0, W1, W2, hW0, hW1, hW2, hF⟩ := box_n s (.slice q s.own.length cc) (ndc ⟨8, op, v, nm, th, el, has, p⟩ (.slice q1 th.length d1) (.slice q2 el.length d2)) g kv w W h ho
 have HF := hid hF
 have HO := hid ho
 clear hF ho h
 unfold ndc at hW1
 simp only at hW1
 have HR : Y.Hd (rdo1 tf p (rstep (w, { s with own := s.own ++ [2, 3] }) 2 0 p) = if (tf (rstep (w, { s with own := s.own ++ [2, 3] }) 2 0 p)).2.dead = true then tf (rstep (w, { s with own := s.own ++ [2, 3] }) 2 0 p) else (rmust (tf (rstep (w, { s with own := s.own ++ [2, 3] }) 2 0 p)).1 (tf (rstep (w, { s with own := s.own ++ [2, 3] }) 2 0 p)).2 (rstep (w, { s with own := s.own ++ [2, 3] }) 2 0 p).2 151 p, { (rstep (w, { s with own := s.own ++ [2, 3] }) 2 0 p).2 with own := (rstep (w, { s with own := s.own ++ [2, 3] }) 2 0 p).2.own.take ((rstep (w, { s with own := s.own ++ [2, 3] }) 2 0 p).2.own.length - 2) })) := ⟨rfl⟩
 generalize rdo1 tf p (rstep (w, { s with own := s.own ++ [2, 3] }) 2 0 p) = R at *
 have HLO : Y.Hd (2 <= (s.own ++ [(2 : Int), 3]).length /\ (s.own ++ [(2 : Int), 3]).length <= 130) := ⟨by rw [List.length_append]; simp; omega⟩
 obtain ⟨W3, hW3⟩ : ∃ W3, W2.alloc (.cells #[.int .i64 2, .int .i64 3] 3) = W3 := ⟨_, rfl⟩
 have hb3 : Below W2.heap.size W2 W3 := by rw [<- hW3]; exact (Below.refl _ _).alloc (Nat.le_refl _) _
 have v3 : W3.heap[W2.heap.size]? = some (.cells [Value.int .i64 2, .int .i64 3].toArray 3 (0, 0)) := by rw [<- hW3]; exact heap_alloc_new W2 _
 have hcs : S.Cs W3 (.slice (some ⟨W2.heap.size, 0, none⟩) 2 2) 1 [(2 : Int), 3].length (S.en eI [2, 3]) := .inr ⟨_, _, rfl, rfl, fun j u hj => by rw [Addr.add_lit, Nat.zero_add]; exact S.cell_of W3 _ j _ _ u v3 hj, oneI _⟩
 obtain ⟨a00, a01, a02⟩ := (HF.out.at 0 _ _ _ rfl).1.cells
 obtain ⟨c0, c1, c2, c3, c4, c5, c6, c7, c8⟩ := nd_cells HF.out.nb
 replace HF := hid (HF.out.go (Gw.of hb3) (HF.out.rw.below hb3))
 have hcl := add_any s (.slice q s.own.length cc) [2, 3] _ ⟨_, _, _, rfl⟩ g W3 HF.out.rw.lt (by omega) (by decide) (HF.out.at 0 _ _ _ rfl).2 hcs
 clear hcs v3 hb3
 generalize s.own ++ [(2 : Int), 3] = L at *
 unfold rsc at hcl ⊢
 (try simp only at hcl)
 go_enter Tryz.func58, Tryz.ntmps58
 go_wp2_with fail
 refine hcl.mono ?_
 rintro e y0 ⟨v', rfl, hov, hb⟩
 obtain ⟨qz, qzc, hvv, _, _⟩ := id hov.ex
 (try simp only at hvv)
 subst hvv
 clear hcl hW0 hW1 hW2 hW3 a00 a01 a02 c0 c1 c2 c3 c4 c5 c6 c7 c8
 replace HF := hid (HF.out.go (Gw.of hb) (HF.out.rw.below hb))
 have HOV := hid hov
 clear hov hb
 (try unfold rsc)
 (try simp only)
 have hst := (HF.out.at 0 _ _ _ rfl).1
 replace HF := hid (HF.out.put 0 _ _ _ rfl ⟨s.h, L, s.dead⟩ (.slice qz L.length qzc) HOV.out)
 unfold rsc at HF
 (try simp only at HF)
 clear HOV
 go_upto_region 42 with (refine wpList_store_row rfl 99 _ _ rfl W.heap.size _ rfl rfl 99 _ hst (by exact sizeR) (by rfl) (by simp [Value.oneCell', rsc]) ?_)
 clear hst
 generalize World.setRow _ W.heap.size _ = y1 at *
 obtain ⟨c0, c1, c2, c3, c4, c5, c6, c7, c8⟩ := nd_cells HF.out.nb
 obtain ⟨a00, a01, a02⟩ := (HF.out.at 0 _ _ _ rfl).1.cells
 (try simp only at a00 a01 a02)
 have hcl0 := step_r w ⟨s.h, L, s.dead⟩ (.slice qz L.length qzc) 2 0 p g kv y1 HF.out.rw (HF.out.at 0 _ _ _ rfl).2 (by have := HLO.out; simp only; omega)
 have HS1 : Y.Hd ((rstep (w, ⟨s.h, L, s.dead⟩) 2 0 p).2.own.length = L.length) := ⟨rfl⟩
 have HL1 : Y.Hd (LI (rstep (w, ⟨s.h, L, s.dead⟩) 2 0 p)) := ⟨rstep_li _ _ _ _ HLO.out.2⟩
 generalize rstep (w, ⟨s.h, L, s.dead⟩) 2 0 p = Y1 at *
 obtain ⟨w1, h1, o1, dd1⟩ := Y1
 have hcl := hcl0
 unfold rsc at hcl
 (try simp only at hcl)
 go_wp2_with fail
 refine hcl.mono ?_
 rintro e y2 ⟨v', rfl, hov, hrw, hgw⟩
 obtain ⟨qa, qac, hvv, _, _⟩ := id hov.ex
 (try simp only at hvv)
 subst hvv
 clear hcl c0 c1 c2 c3 c4 c5 c6 c7 c8 a00 a01 a02 hcl0
 replace HF := hid (HF.out.go hgw hrw)
 have HOV := hid hov
 clear hov hrw hgw
 (try unfold rsc)
 (try simp only)
 have hst := (HF.out.at 0 _ _ _ rfl).1
 replace HF := hid (HF.out.put 0 _ _ _ rfl ⟨h1, o1, dd1⟩ (.slice qa o1.length qac) HOV.out)
 unfold rsc at HF
 (try simp only at HF)
 clear HOV
 go_upto_region 43 with (refine wpList_store_row rfl 99 _ _ rfl W.heap.size _ rfl rfl 99 _ hst (by exact sizeR) (by rfl) (by simp [Value.oneCell', rsc]) ?_)
 clear hst
 generalize World.setRow _ W.heap.size _ = y3 at *
 obtain ⟨c0, c1, c2, c3, c4, c5, c6, c7, c8⟩ := nd_cells HF.out.nb
 obtain ⟨a00, a01, a02⟩ := (HF.out.at 0 _ _ _ rfl).1.cells
 (try simp only at a00 a01 a02)
 have hcl0 := ht.2 (w1, ⟨h1, o1, dd1⟩) _ y3 HL1.out HF.out.rw (HF.out.at 0 _ _ _ rfl).2 HF.out.gw
 have HL2 : Y.Hd (LI (tf (w1, ⟨h1, o1, dd1⟩))) := ⟨ht.1 _ HL1.out⟩
 generalize tf (w1, ⟨h1, o1, dd1⟩) = Y2 at *
 obtain ⟨w2, h2, o2, dd2⟩ := Y2
 have hcl := hcl0
 unfold rsc at hcl
 (try simp only at hcl)
 go_wp2_with fail
 refine hcl.mono ?_
 rintro e y4 ⟨v', rfl, hov, hrw, hgw⟩
 obtain ⟨qb, qbc, hvv, _, _⟩ := id hov.ex
 (try simp only at hvv)
 subst hvv
 clear hcl c0 c1 c2 c3 c4 c5 c6 c7 c8 a00 a01 a02 hcl0
 replace HF := hid (HF.out.go hgw hrw)
 have HOV := hid hov
 clear hov hrw hgw
 (try unfold rsc)
 (try simp only)
 obtain ⟨y5, hy5⟩ : ∃ wz, y4.alloc (.cells #[.int .i64 h2, .slice qb o2.length qbc, .bool dd2] 99) = wz := ⟨_, rfl⟩
 have zb : Below y4.heap.size y4 y5 := by rw [<- hy5]; exact (Below.refl _ _).alloc (Nat.le_refl _) _
 have zr : RB y5 y4.heap.size (.slice qb o2.length qbc) ⟨h2, o2, dd2⟩ := by rw [<- hy5]; exact heap_alloc_new y4 _
 replace HF := hid (HF.out.new zb ⟨h2, o2, dd2⟩ (.slice qb o2.length qbc) zr HOV.out)
 clear zb zr HOV
 obtain ⟨a10, a11, a12⟩ := (HF.out.at 1 _ _ _ rfl).1.cells
 (try simp only at a10 a11 a12)
 go_upto_if 163 with fail
 clear hy5 a10 a11 a12
 cases dd2
 ·
  replace HR : Y.Hd (R = (rmust w2 ⟨h2, o2, false⟩ ⟨h1, o1, dd1⟩ 151 p, ⟨h1, o1.take (o1.length - 2), dd1⟩)) := ⟨HR.out⟩
  obtain ⟨c0, c1, c2, c3, c4, c5, c6, c7, c8⟩ := nd_cells HF.out.nb
  obtain ⟨a00, a01, a02⟩ := (HF.out.at 0 _ _ _ rfl).1.cells
  (try simp only at a00 a01 a02)
  obtain ⟨a10, a11, a12⟩ := (HF.out.at 1 _ _ _ rfl).1.cells
  (try simp only at a10 a11 a12)
  have hcl := must_r w2 ⟨h2, o2, false⟩ ⟨h1, o1, dd1⟩ (.slice qb o2.length qbc) (.slice qa o1.length qac) 151 p g kv y5 HF.out.rw (HF.out.at 1 _ _ _ rfl).2 (HF.out.at 0 _ _ _ rfl).2 (by have := HL2.out.1; simp only at this ⊢; omega)
  unfold rsc at hcl
  (try simp only at hcl)
  go_wp2_with fail
  refine hcl.mono ?_
  rintro e y6 ⟨rfl, hrw, hgw⟩
  clear hcl c0 c1 c2 c3 c4 c5 c6 c7 c8 a00 a01 a02 a10 a11 a12
  replace HF := hid (HF.out.go hgw hrw)
  clear hrw hgw
  obtain ⟨a00, a01, a02⟩ := (HF.out.at 0 _ _ _ rfl).1.cells
  (try simp only at a00 a01 a02)
  have hcl := less_any ⟨h1, o1, dd1⟩ (.slice qa o1.length qac) 2 (by decide) (by have := HS1.out; have := HLO.out.1; simp only at *; omega) g y6 HF.out.rw.lt (by have := HL1.out.1; simp only at this ⊢; omega) (HF.out.at 0 _ _ _ rfl).2
  unfold rsc at hcl
  (try simp only at hcl)
  generalize o1.take (o1.length - 2) = L2 at *
  go_wp2_with fail
  refine hcl.mono ?_
  rintro e y7 ⟨v', rfl, hov, hb⟩
  obtain ⟨qd, qdc, hvv, _, _⟩ := id hov.ex
  (try simp only at hvv)
  subst hvv
  clear hcl a00 a01 a02
  replace HF := hid (HF.out.go (Gw.of hb) (HF.out.rw.below hb))
  have HOV := hid hov
  clear hov hb
  (try unfold rsc)
  (try simp only)
  have HT := hid (HF.out.fin ⟨h1, L2, dd1⟩ (.slice qd L2.length qdc) HOV.out)
  have hst := HF.out.rb
  unfold rsc at HT
  (try simp only at HT)
  go_wp2_with (refine wpList_store_row rfl 99 _ _ rfl W1.heap.size _ rfl rfl 99 _ hst (by exact sizeR) (by rfl) (by simp [Value.oneCell', rsc]) ?_)
  refine bodyPost_ret (rs_end 6 rfl rfl ⟨_, _, _, rfl⟩ HT.out.1) rfl ?_
  rw [HR.out]
  exact ⟨_, rfl, HT.out.2.1, HT.out.2.2.1, HT.out.2.2.2⟩
 ·
  replace HR : Y.Hd (R = (w2, ⟨h2, o2, true⟩)) := ⟨HR.out⟩
  obtain ⟨a10, a11, a12⟩ := (HF.out.at 1 _ _ _ rfl).1.cells
  (try simp only at a10 a11 a12)
  have HT := hid (HF.out.fin ⟨h2, o2, true⟩ (.slice qb o2.length qbc) (HF.out.at 1 _ _ _ rfl).2)
  have hst := HF.out.rb
  unfold rsc at HT
  (try simp only at HT)
  go_wp2_with (refine wpList_store_row rfl 99 _ _ rfl W1.heap.size _ rfl rfl 99 _ hst (by exact sizeR) (by rfl) (by simp [Value.oneCell', rsc]) ?_)
  refine bodyPost_ret (rs_end 6 rfl rfl ⟨_, _, _, rfl⟩ HT.out.1) rfl ?_
  rw [HR.out]
  exact ⟨_, rfl, HT.out.2.1, HT.out.2.2.1, HT.out.2.2.2⟩
theorem nr_4f (op v : Int) (nm : ByteArray) (th el : List Nd) (p : Ps) (q1 q2 : Option Addr) (d1 d2 : Nat) (w : Rw) (s : Rs) (sv : Value) (hl : s.own.length <= 128) (g : Nat) (kv : Value) (W : World) (h : RW W g kv w) (ho : OV W g sv s.own) (tf : RX -> RX) (ht : BH W g kv (.slice q1 th.length d1) tf) :
  Calls Tryz.prog 58 #[.pointer (some ⟨g, 0, none⟩), .agg (rsc sv s).toArray, .agg #[.int .i64 4, .int .i64 op, .int .u16 v, .string nm, .slice q1 th.length d1, .slice q2 el.length d2, .bool false, .int .i64 p.1, .int .i64 p.2]] W (RO W g kv (rif1 tf p (rstep (w, s) 1 0 p))) := by
 obtain ⟨q, cc, hsv, _, _⟩ := id ho.ex
 subst hsv
 obtain ⟨W0, W1, W2, hW0, hW1, hW2, hF⟩ := box_n s (.slice q s.own.length cc) (ndc ⟨4, op, v, nm, th, el, false, p⟩ (.slice q1 th.length d1) (.slice q2 el.length d2)) g kv w W h ho
 have HF := hid hF
 have HO := hid ho
 clear hF ho h
 unfold ndc at hW1
 simp only at hW1
 have HR : Y.Hd (rif1 tf p (rstep (w, s) 1 0 p) = (rmust (tf (rstep (w, s) 1 0 p)).1 (tf (rstep (w, s) 1 0 p)).2 (rstep (w, s) 1 0 p).2 150 p, (rstep (w, s) 1 0 p).2)) := ⟨rfl⟩
 generalize rif1 tf p (rstep (w, s) 1 0 p) = R at *
 obtain ⟨c0, c1, c2, c3, c4, c5, c6, c7, c8⟩ := nd_cells HF.out.nb
 obtain ⟨a00, a01, a02⟩ := (HF.out.at 0 _ _ _ rfl).1.cells
 (try simp only at a00 a01 a02)
 have hcl0 := step_r w s (.slice q s.own.length cc) 1 0 p g kv W2 HF.out.rw (HF.out.at 0 _ _ _ rfl).2 (by omega)
 have HS1 : Y.Hd ((rstep (w, s) 1 0 p).2.own.length <= 128) := ⟨hl⟩
 have HL1 : Y.Hd (LI (rstep (w, s) 1 0 p)) := ⟨rstep_li _ _ _ _ (by show s.own.length <= 130; omega)⟩
 generalize rstep (w, s) 1 0 p = Y1 at *
 obtain ⟨w1, h1, o1, dd1⟩ := Y1
 unfold rsc
 go_enter Tryz.func58, Tryz.ntmps58
 have hcl := hcl0
 unfold rsc at hcl
 (try simp only at hcl)
 go_wp2_with fail
 refine hcl.mono ?_
 rintro e y1 ⟨v', rfl, hov, hrw, hgw⟩
 obtain ⟨qa, qac, hvv, _, _⟩ := id hov.ex
 (try simp only at hvv)
 subst hvv
 clear hcl c0 c1 c2 c3 c4 c5 c6 c7 c8 a00 a01 a02 hcl0 hW0 hW1 hW2
 replace HF := hid (HF.out.go hgw hrw)
 have HOV := hid hov
 clear hov hrw hgw
 (try unfold rsc)
 (try simp only)
 have hst := (HF.out.at 0 _ _ _ rfl).1
 replace HF := hid (HF.out.put 0 _ _ _ rfl ⟨h1, o1, dd1⟩ (.slice qa o1.length qac) HOV.out)
 unfold rsc at HF
 (try simp only at HF)
 clear HOV
 go_upto_region 12 with (refine wpList_store_row rfl 99 _ _ rfl W.heap.size _ rfl rfl 99 _ hst (by exact sizeR) (by rfl) (by simp [Value.oneCell', rsc]) ?_)
 clear hst
 generalize World.setRow _ W.heap.size _ = y2 at *
 obtain ⟨c0, c1, c2, c3, c4, c5, c6, c7, c8⟩ := nd_cells HF.out.nb
 obtain ⟨a00, a01, a02⟩ := (HF.out.at 0 _ _ _ rfl).1.cells
 (try simp only at a00 a01 a02)
 have hcl0 := ht.2 (w1, ⟨h1, o1, dd1⟩) _ y2 HL1.out HF.out.rw (HF.out.at 0 _ _ _ rfl).2 HF.out.gw
 have HL2 : Y.Hd (LI (tf (w1, ⟨h1, o1, dd1⟩))) := ⟨ht.1 _ HL1.out⟩
 generalize tf (w1, ⟨h1, o1, dd1⟩) = Y2 at *
 obtain ⟨w2, h2, o2, dd2⟩ := Y2
 have hcl := hcl0
 unfold rsc at hcl
 (try simp only at hcl)
 go_wp2_with fail
 refine hcl.mono ?_
 rintro e y3 ⟨v', rfl, hov, hrw, hgw⟩
 obtain ⟨qb, qbc, hvv, _, _⟩ := id hov.ex
 (try simp only at hvv)
 subst hvv
 clear hcl c0 c1 c2 c3 c4 c5 c6 c7 c8 a00 a01 a02 hcl0
 replace HF := hid (HF.out.go hgw hrw)
 have HOV := hid hov
 clear hov hrw hgw
 (try unfold rsc)
 (try simp only)
 obtain ⟨y4, hy4⟩ : ∃ wz, y3.alloc (.cells #[.int .i64 h2, .slice qb o2.length qbc, .bool dd2] 99) = wz := ⟨_, rfl⟩
 have zb : Below y3.heap.size y3 y4 := by rw [<- hy4]; exact (Below.refl _ _).alloc (Nat.le_refl _) _
 have zr : RB y4 y3.heap.size (.slice qb o2.length qbc) ⟨h2, o2, dd2⟩ := by rw [<- hy4]; exact heap_alloc_new y3 _
 replace HF := hid (HF.out.new zb ⟨h2, o2, dd2⟩ (.slice qb o2.length qbc) zr HOV.out)
 clear zb zr HOV
 obtain ⟨c0, c1, c2, c3, c4, c5, c6, c7, c8⟩ := nd_cells HF.out.nb
 obtain ⟨a00, a01, a02⟩ := (HF.out.at 0 _ _ _ rfl).1.cells
 (try simp only at a00 a01 a02)
 obtain ⟨a10, a11, a12⟩ := (HF.out.at 1 _ _ _ rfl).1.cells
 (try simp only at a10 a11 a12)
 have hcl := must_r w2 ⟨h2, o2, dd2⟩ ⟨h1, o1, dd1⟩ (.slice qb o2.length qbc) (.slice qa o1.length qac) 150 p g kv y4 HF.out.rw (HF.out.at 1 _ _ _ rfl).2 (HF.out.at 0 _ _ _ rfl).2 (by have := HL2.out.1; simp only at this ⊢; omega)
 unfold rsc at hcl
 (try simp only at hcl)
 go_wp2_with fail
 refine hcl.mono ?_
 rintro e y5 ⟨rfl, hrw, hgw⟩
 clear hcl c0 c1 c2 c3 c4 c5 c6 c7 c8 a00 a01 a02 a10 a11 a12 hy4
 replace HF := hid (HF.out.go hgw hrw)
 clear hrw hgw
 obtain ⟨a00, a01, a02⟩ := (HF.out.at 0 _ _ _ rfl).1.cells
 (try simp only at a00 a01 a02)
 have HT := hid (HF.out.fin ⟨h1, o1, dd1⟩ (.slice qa o1.length qac) (HF.out.at 0 _ _ _ rfl).2)
 have hst := HF.out.rb
 unfold rsc at HT
 (try simp only at HT)
 go_wp2_with (refine wpList_store_row rfl 99 _ _ rfl W1.heap.size _ rfl rfl 99 _ hst (by exact sizeR) (by rfl) (by simp [Value.oneCell', rsc]) ?_)
 refine bodyPost_ret (rs_end 6 rfl rfl ⟨_, _, _, rfl⟩ HT.out.1) rfl ?_
 rw [HR.out]
 exact ⟨_, rfl, HT.out.2.1, HT.out.2.2.1, HT.out.2.2.2⟩
theorem nr_4t (op v : Int) (nm : ByteArray) (th el : List Nd) (p : Ps) (q1 q2 : Option Addr) (d1 d2 : Nat) (w : Rw) (s : Rs) (sv : Value) (hl : s.own.length <= 128) (g : Nat) (kv : Value) (W : World) (h : RW W g kv w) (ho : OV W g sv s.own) (tf : RX -> RX) (ht : BH W g kv (.slice q1 th.length d1) tf) (ef : RX -> RX) (he : BH W g kv (.slice q2 el.length d2) ef) :
  Calls Tryz.prog 58 #[.pointer (some ⟨g, 0, none⟩), .agg (rsc sv s).toArray, .agg #[.int .i64 4, .int .i64 op, .int .u16 v, .string nm, .slice q1 th.length d1, .slice q2 el.length d2, .bool true, .int .i64 p.1, .int .i64 p.2]] W (RO W g kv (rif2 tf ef p (rstep (w, s) 1 0 p))) := by
 obtain ⟨q, cc, hsv, _, _⟩ := id ho.ex
 subst hsv
 obtain ⟨W0, W1, W2, hW0, hW1, hW2, hF⟩ := box_n s (.slice q s.own.length cc) (ndc ⟨4, op, v, nm, th, el, true, p⟩ (.slice q1 th.length d1) (.slice q2 el.length d2)) g kv w W h ho
 have HF := hid hF
 have HO := hid ho
 clear hF ho h
 unfold ndc at hW1
 simp only at hW1
 have HR : Y.Hd (rif2 tf ef p (rstep (w, s) 1 0 p) = if (tf (rstep (w, s) 1 0 p)).2.dead = true then ef ((tf (rstep (w, s) 1 0 p)).1, (rstep (w, s) 1 0 p).2) else (rmust (ef ((tf (rstep (w, s) 1 0 p)).1, (rstep (w, s) 1 0 p).2)).1 (ef ((tf (rstep (w, s) 1 0 p)).1, (rstep (w, s) 1 0 p).2)).2 (tf (rstep (w, s) 1 0 p)).2 150 p, (tf (rstep (w, s) 1 0 p)).2)) := ⟨rfl⟩
 generalize rif2 tf ef p (rstep (w, s) 1 0 p) = R at *
 obtain ⟨c0, c1, c2, c3, c4, c5, c6, c7, c8⟩ := nd_cells HF.out.nb
 obtain ⟨a00, a01, a02⟩ := (HF.out.at 0 _ _ _ rfl).1.cells
 (try simp only at a00 a01 a02)
 have hcl0 := step_r w s (.slice q s.own.length cc) 1 0 p g kv W2 HF.out.rw (HF.out.at 0 _ _ _ rfl).2 (by omega)
 have HS1 : Y.Hd ((rstep (w, s) 1 0 p).2.own.length <= 128) := ⟨hl⟩
 have HL1 : Y.Hd (LI (rstep (w, s) 1 0 p)) := ⟨rstep_li _ _ _ _ (by show s.own.length <= 130; omega)⟩
 generalize rstep (w, s) 1 0 p = Y1 at *
 obtain ⟨w1, h1, o1, dd1⟩ := Y1
 unfold rsc
 go_enter Tryz.func58, Tryz.ntmps58
 have hcl := hcl0
 unfold rsc at hcl
 (try simp only at hcl)
 go_wp2_with fail
 refine hcl.mono ?_
 rintro e y1 ⟨v', rfl, hov, hrw, hgw⟩
 obtain ⟨qa, qac, hvv, _, _⟩ := id hov.ex
 (try simp only at hvv)
 subst hvv
 clear hcl c0 c1 c2 c3 c4 c5 c6 c7 c8 a00 a01 a02 hcl0 hW0 hW1 hW2
 replace HF := hid (HF.out.go hgw hrw)
 have HOV := hid hov
 clear hov hrw hgw
 (try unfold rsc)
 (try simp only)
 have hst := (HF.out.at 0 _ _ _ rfl).1
 replace HF := hid (HF.out.put 0 _ _ _ rfl ⟨h1, o1, dd1⟩ (.slice qa o1.length qac) HOV.out)
 unfold rsc at HF
 (try simp only at HF)
 clear HOV
 go_upto_region 12 with (refine wpList_store_row rfl 99 _ _ rfl W.heap.size _ rfl rfl 99 _ hst (by exact sizeR) (by rfl) (by simp [Value.oneCell', rsc]) ?_)
 clear hst
 generalize World.setRow _ W.heap.size _ = y2 at *
 obtain ⟨c0, c1, c2, c3, c4, c5, c6, c7, c8⟩ := nd_cells HF.out.nb
 obtain ⟨a00, a01, a02⟩ := (HF.out.at 0 _ _ _ rfl).1.cells
 (try simp only at a00 a01 a02)
 have hcl0 := ht.2 (w1, ⟨h1, o1, dd1⟩) _ y2 HL1.out HF.out.rw (HF.out.at 0 _ _ _ rfl).2 HF.out.gw
 have HL2 : Y.Hd (LI (tf (w1, ⟨h1, o1, dd1⟩))) := ⟨ht.1 _ HL1.out⟩
 generalize tf (w1, ⟨h1, o1, dd1⟩) = Y2 at *
 obtain ⟨w2, h2, o2, dd2⟩ := Y2
 have hcl := hcl0
 unfold rsc at hcl
 (try simp only at hcl)
 go_wp2_with fail
 refine hcl.mono ?_
 rintro e y3 ⟨v', rfl, hov, hrw, hgw⟩
 obtain ⟨qb, qbc, hvv, _, _⟩ := id hov.ex
 (try simp only at hvv)
 subst hvv
 clear hcl c0 c1 c2 c3 c4 c5 c6 c7 c8 a00 a01 a02 hcl0
 replace HF := hid (HF.out.go hgw hrw)
 have HOV := hid hov
 clear hov hrw hgw
 (try unfold rsc)
 (try simp only)
 obtain ⟨y4, hy4⟩ : ∃ wz, y3.alloc (.cells #[.int .i64 h2, .slice qb o2.length qbc, .bool dd2] 99) = wz := ⟨_, rfl⟩
 have zb : Below y3.heap.size y3 y4 := by rw [<- hy4]; exact (Below.refl _ _).alloc (Nat.le_refl _) _
 have zr : RB y4 y3.heap.size (.slice qb o2.length qbc) ⟨h2, o2, dd2⟩ := by rw [<- hy4]; exact heap_alloc_new y3 _
 replace HF := hid (HF.out.new zb ⟨h2, o2, dd2⟩ (.slice qb o2.length qbc) zr HOV.out)
 clear zb zr HOV
 obtain ⟨c0, c1, c2, c3, c4, c5, c6, c7, c8⟩ := nd_cells HF.out.nb
 obtain ⟨a00, a01, a02⟩ := (HF.out.at 0 _ _ _ rfl).1.cells
 (try simp only at a00 a01 a02)
 obtain ⟨a10, a11, a12⟩ := (HF.out.at 1 _ _ _ rfl).1.cells
 (try simp only at a10 a11 a12)
 have hcl0 := he.2 (w2, ⟨h1, o1, dd1⟩) _ y4 ⟨HL1.out.1, fun _ => HS1.out⟩ HF.out.rw (HF.out.at 0 _ _ _ rfl).2 HF.out.gw
 have HL3 : Y.Hd (LI (ef (w2, ⟨h1, o1, dd1⟩))) := ⟨he.1 _ ⟨HL1.out.1, fun _ => HS1.out⟩⟩
 generalize ef (w2, ⟨h1, o1, dd1⟩) = Y3 at *
 obtain ⟨w3, h3, o3, dd3⟩ := Y3
 have hcl := hcl0
 unfold rsc at hcl
 (try simp only at hcl)
 go_wp2_with fail
 refine hcl.mono ?_
 rintro e y5 ⟨v', rfl, hov, hrw, hgw⟩
 obtain ⟨qd, qdc, hvv, _, _⟩ := id hov.ex
 (try simp only at hvv)
 subst hvv
 clear hcl c0 c1 c2 c3 c4 c5 c6 c7 c8 a00 a01 a02 a10 a11 a12 hcl0 hy4
 replace HF := hid (HF.out.go hgw hrw)
 have HOV := hid hov
 clear hov hrw hgw
 (try unfold rsc)
 (try simp only)
 obtain ⟨y6, hy6⟩ : ∃ wz, y5.alloc (.cells #[.int .i64 h3, .slice qd o3.length qdc, .bool dd3] 99) = wz := ⟨_, rfl⟩
 have zb : Below y5.heap.size y5 y6 := by rw [<- hy6]; exact (Below.refl _ _).alloc (Nat.le_refl _) _
 have zr : RB y6 y5.heap.size (.slice qd o3.length qdc) ⟨h3, o3, dd3⟩ := by rw [<- hy6]; exact heap_alloc_new y5 _
 replace HF := hid (HF.out.new zb ⟨h3, o3, dd3⟩ (.slice qd o3.length qdc) zr HOV.out)
 clear zb zr HOV
 obtain ⟨a10, a11, a12⟩ := (HF.out.at 1 _ _ _ rfl).1.cells
 (try simp only at a10 a11 a12)
 obtain ⟨a20, a21, a22⟩ := (HF.out.at 2 _ _ _ rfl).1.cells
 (try simp only at a20 a21 a22)
 go_upto_if 76 with fail
 clear hy6 a10 a11 a12 a20 a21 a22
 cases dd2
 ·
  replace HR : Y.Hd (R = (rmust w3 ⟨h3, o3, dd3⟩ ⟨h2, o2, false⟩ 150 p, ⟨h2, o2, false⟩)) := ⟨HR.out⟩
  obtain ⟨c0, c1, c2, c3, c4, c5, c6, c7, c8⟩ := nd_cells HF.out.nb
  obtain ⟨a10, a11, a12⟩ := (HF.out.at 1 _ _ _ rfl).1.cells
  (try simp only at a10 a11 a12)
  obtain ⟨a20, a21, a22⟩ := (HF.out.at 2 _ _ _ rfl).1.cells
  (try simp only at a20 a21 a22)
  have hcl := must_r w3 ⟨h3, o3, dd3⟩ ⟨h2, o2, false⟩ (.slice qd o3.length qdc) (.slice qb o2.length qbc) 150 p g kv y6 HF.out.rw (HF.out.at 2 _ _ _ rfl).2 (HF.out.at 1 _ _ _ rfl).2 (by have := HL3.out.1; simp only at this ⊢; omega)
  unfold rsc at hcl
  (try simp only at hcl)
  go_wp2_with fail
  refine hcl.mono ?_
  rintro e y7 ⟨rfl, hrw, hgw⟩
  clear hcl c0 c1 c2 c3 c4 c5 c6 c7 c8 a10 a11 a12 a20 a21 a22
  replace HF := hid (HF.out.go hgw hrw)
  clear hrw hgw
  obtain ⟨a10, a11, a12⟩ := (HF.out.at 1 _ _ _ rfl).1.cells
  (try simp only at a10 a11 a12)
  have HT := hid (HF.out.fin ⟨h2, o2, false⟩ (.slice qb o2.length qbc) (HF.out.at 1 _ _ _ rfl).2)
  have hst := HF.out.rb
  unfold rsc at HT
  (try simp only at HT)
  go_wp2_with (refine wpList_store_row rfl 99 _ _ rfl W1.heap.size _ rfl rfl 99 _ hst (by exact sizeR) (by rfl) (by simp [Value.oneCell', rsc]) ?_)
  refine bodyPost_ret (rs_end 6 rfl rfl ⟨_, _, _, rfl⟩ HT.out.1) rfl ?_
  rw [HR.out]
  exact ⟨_, rfl, HT.out.2.1, HT.out.2.2.1, HT.out.2.2.2⟩
 ·
  replace HR : Y.Hd (R = (w3, ⟨h3, o3, dd3⟩)) := ⟨HR.out⟩
  obtain ⟨a20, a21, a22⟩ := (HF.out.at 2 _ _ _ rfl).1.cells
  (try simp only at a20 a21 a22)
  have HT := hid (HF.out.fin ⟨h3, o3, dd3⟩ (.slice qd o3.length qdc) (HF.out.at 2 _ _ _ rfl).2)
  have hst := HF.out.rb
  unfold rsc at HT
  (try simp only at HT)
  go_wp2_with (refine wpList_store_row rfl 99 _ _ rfl W1.heap.size _ rfl rfl 99 _ hst (by exact sizeR) (by rfl) (by simp [Value.oneCell', rsc]) ?_)
  refine bodyPost_ret (rs_end 6 rfl rfl ⟨_, _, _, rfl⟩ HT.out.1) rfl ?_
  rw [HR.out]
  exact ⟨_, rfl, HT.out.2.1, HT.out.2.2.1, HT.out.2.2.2⟩
end Go.Proofs.YtlilefhmohkfkaaGreatDoor.E
