import Derived.Test.YtdnklgceghllaaaGreatDoorDDrop
import Derived.Test.YtdnklgceghllaaaGreatDoorDName
import Derived.Test.YtdnklgceghllaaaGreatDoorDNode
import Derived.Test.YtdnklgceghllaaaGreatDoorDMath
namespace Go.Proofs.YtdnklgceghllaaaGreatDoor.D
open Go.RowKit
open Go.Proofs
open Go.Proofs.YtdnklgceghllaaaGreatDoor.K (Tk)
open Go.Proofs.YtdnklgceghllaaaGreatDoor.Y (Nd Df Ps ndc dfc NV NA N1 ZV hid)
open Go.Proofs.YtdnklgceghllaaaGreatDoor.R (MP En numb)
set_option linter.unusedVariables false
set_option linter.unusedSimpArgs false
set_option maxHeartbeats 4000000
set_option maxRecDepth 100000
open Go.Proofs.YtdnklgceghllaaaGreatDoor.R (lk)
def fin (c : Nat -> Nat) : Nat -> Nat := fun b => if c b = 2 then 1 else c b
theorem fin_0 {c : Nat -> Nat} {b : Nat} (h : fin c b ≠ 0) : c b ≠ 0 := fun e => h (by unfold fin; rw [if_neg (by omega)]; exact e)
theorem fin_1 {c : Nat -> Nat} {b : Nat} (h : c b = 1) : fin c b = 1 := by unfold fin; rw [if_neg (by omega)]; exact h
theorem RS.fin {W0 : World} {pm : Px} {g : Nat} {e : Ps} {W : World} {r : Rd} {q : Rv} (h : RS W0 pm g e W r q) (hl : r.body.length <= 1000000) : RC W0 pm g e W r { q with c := D.fin q.c } /\ NV W (fun b => D.fin q.c b = 1) q.bv r.body :=
 ⟨⟨h.old, h.bel, h.blk, h.rest, h.known, h.prims, h.hmn, h.hmp, h.mkp, fun b hb => h.ns.ty b (fin_0 hb), fun b hb => h.cg b (fin_0 hb), h.drow, h.dlen, fun i d w hd hw => (h.dnv i d w hd hw).kept (fun _ _ => rfl) (fun _ hk => fin_1 hk), h.brow, h.blen, h.bdat, h.ex⟩,
  h.ns.bd.nv (fun b hb => by show D.fin q.c b = 1; unfold D.fin; rw [if_pos hb]) (fun b hb => fin_1 hb) (by omega)⟩
def restN (g : Nat) (w : World) : Nat := match w.cell? ⟨g, 0, none⟩ with | some (.slice _ n _) => n | _ => 0
theorem RS.restN {W0 : World} {pm : Px} {g : Nat} {e : Ps} {W : World} {r : Rd} {q : Rv} (h : RS W0 pm g e W r q) : D.restN g W = r.rest.length := by
 obtain ⟨p, c, hv, _⟩ := h.rest.ex
 have := (rd_cells h.blk).1
 rw [hv] at this
 unfold D.restN
 rw [this]
theorem name_cases {e : Ps} {r r1 : Rd} (h : name e r = .ok r1) : ∃ t ts, r.rest = t :: ts /\ r1 = { r with at_ := t, rest := ts } /\ R.isNm t.t = true /\ known r t.t = false := by
 unfold name at h
 cases h1 : next e r with
 | error er => rw [h1] at h; cases h
 | ok r2 =>
  rw [h1] at h
  obtain ⟨t, ts, ht, rfl⟩ := next_cases h1
  obtain ⟨h2, h3⟩ := must_ok h
  obtain ⟨h4, h5⟩ := must_ok h3
  exact ⟨t, ts, ht, (Except.ok.inj h5).symm, h2, by have h6 : (!known r t.t) = true := h4; simpa using h6⟩
theorem RC.begins {W0 : World} {pm : Px} {g : Nat} {e : Ps} {W : World} {r : Rd} {q : Rv} (h : RC W0 pm g e W r q) :
  RS W0 pm g e (((W.setCell ⟨g, 12, none⟩ (.slice none 0 0)).setCell ⟨g, 13, none⟩ (.slice none 0 0)).setCell ⟨g, 14, none⟩ (.bool false)) { r with body := [], opn := [], ended := false } { q with bv := (.slice none 0 0), ov := (.slice none 0 0), ys := [] } := by
 have a1 := heap_setCell_same W g 12 _ _ (.slice none 0 0) h.blk
 have a2 := heap_setCell_same _ g 13 _ _ (.slice none 0 0) a1
 have a3 := heap_setCell_same _ g 14 _ _ (.bool false) a2
 have ho : ∀ b, b ≠ g -> (((W.setCell ⟨g, 12, none⟩ (.slice none 0 0)).setCell ⟨g, 13, none⟩ (.slice none 0 0)).setCell ⟨g, 14, none⟩ (.bool false)).heap[b]? = W.heap[b]? := fun b hb => (heap_setCell_other _ ⟨g, 14, none⟩ b _ hb).trans ((heap_setCell_other _ ⟨g, 13, none⟩ b _ hb).trans (heap_setCell_other _ ⟨g, 12, none⟩ b _ hb))
 have hc : RC W0 pm g e (((W.setCell ⟨g, 12, none⟩ (.slice none 0 0)).setCell ⟨g, 13, none⟩ (.slice none 0 0)).setCell ⟨g, 14, none⟩ (.bool false)) { r with body := [], opn := [], ended := false } { q with bv := (.slice none 0 0), ov := (.slice none 0 0), ys := [] } :=
  h.put (by rw [a3]; rfl) (fun b _ hb => ho b hb) (((h.bel.setCell (p := ⟨g, 12, none⟩) h.old _).setCell (p := ⟨g, 13, none⟩) h.old _).setCell (p := ⟨g, 14, none⟩) h.old _) rfl rfl h.rest rfl rfl rfl rfl rfl rfl rfl
 refine hc.live ⟨LO.nil _ _ _, ⟨World.ownsRow_nil _ _ _ _, rfl, fun b e => by simp [Value.ownBlock] at e⟩, fun i n y hn => by simp at hn, hc.ty⟩
theorem Bk.bd {k : Nat} {r : Rd} (h : Bk k r) (hk : k <= 1000000) : Bd r := ⟨by have := h.body; omega, by have := h.opn; omega, fun n hn => by have := h.lists n hn; omega⟩
theorem bodyN_end (pr : ByteArray -> Option Int) (e : Ps) (n : Nat) (r : Rd) (h : r.ended = true) : bodyN pr e n r = .ok r := by
 cases n with
 | zero => rfl
 | succ n => unfold bodyN; rw [if_pos h]
theorem bodyN_err1 (pr : ByteArray -> Option Int) (e : Ps) (n : Nat) (r : Rd) (h : r.ended = false) (er : Er) (h1 : next e r = .error er) : bodyN pr e (n + 1) r = .error er := by
 rw [bodyN, if_neg (by rw [h]; decide), h1]; rfl
theorem bodyN_err2 (pr : ByteArray -> Option Int) (e : Ps) (n : Nat) (r r1 : Rd) (h : r.ended = false) (er : Er) (h1 : next e r = .ok r1) (h2 : node pr r1 = .error er) : bodyN pr e (n + 1) r = .error er := by
 rw [bodyN, if_neg (by rw [h]; decide), h1]
 show (node pr r1 >>= fun r => bodyN pr e n r) = _
 rw [h2]; rfl
theorem bodyN_step (pr : ByteArray -> Option Int) (e : Ps) (n : Nat) (r r1 r2 : Rd) (h : r.ended = false) (h1 : next e r = .ok r1) (h2 : node pr r1 = .ok r2) : bodyN pr e (n + 1) r = bodyN pr e n r2 := by
 rw [bodyN, if_neg (by rw [h]; decide), h1]
 show (node pr r1 >>= fun r => bodyN pr e n r) = _
 rw [h2]; rfl
def wres (t : Tk) (x : Re) : Re := match x with | .ok rb => .ok (define 1 t 0 rb.body rb) | .error er => .error er
theorem word_is (pr : ByteArray -> Option Int) (e : Ps) (r r1 : Rd) (h : name e r = .ok r1) : word pr e r = wres r1.at_ (bodyN pr e (r1.rest.length + 1) { r1 with body := [], opn := [], ended := false }) := by
 unfold word
 rw [h]
 show (bodyN pr e (r1.rest.length + 1) { r1 with body := [], opn := [], ended := false } >>= fun r => Except.ok (define 1 r1.at_ 0 r.body r)) = _
 cases bodyN pr e (r1.rest.length + 1) { r1 with body := [], opn := [], ended := false } <;> rfl
theorem word_err (pr : ByteArray -> Option Int) (e : Ps) (r : Rd) (er : Er) (h : name e r = .error er) : word pr e r = .error er := by
 unfold word
 rw [h]; rfl
theorem bv_val {W0 : World} {pm : Px} {g : Nat} {e : Ps} {W : World} {r : Rd} {q : Rv} (h : RS W0 pm g e W r q) : ∃ p c, q.bv = .slice p r.body.length c := h.ns.bd.ex
def WL (W0 : World) (pm : Px) (g : Nat) (e : Ps) (nms : List ByteArray) (M : Nat) (RES : Re) (w : World) : Prop :=
 ∃ r q n k, RS W0 pm g e w r q /\ Bk k r /\ k + r.rest.length <= M /\ bodyN (lk pm.m) e n r = RES /\ r.rest.length + 1 <= n /\ r.defs.map (·.nm) = nms
theorem word_any (W0 : World) (pm : Px) (g : Nat) (e : Ps) (W : World) (r : Rd) (q : Rv) (h : RC W0 pm g e W r q) (hs : ∀ t ∈ r.rest, t.t.size <= maxLen) (hl : r.rest.length <= 1000000) (hd : r.defs.length <= 1000000) :
  Calls Tryz.prog 77 #[.pointer (some ⟨g, 0, none⟩)] W (ROc W0 pm g e (fun _ => .tuple #[]) (word (lk pm.m) e r)) := by
 have hc := name_any W0 pm g e W r q h hs
 have HL := hid (And.intro hl hd)
 clear h hs hl hd
 cases hn : name e r with
 | error er =>
  rw [hn] at hc
  have hc' : Calls _ _ _ _ (fun en w' => en = .panicked (flt er) /\ Bx W0 pm w') := hc
  rw [word_err _ e r er hn]
  clear hc
  go_enter Tryz.func77, Tryz.ntmps77
  go_wp2_with fail
  refine hc'.mono ?_
  rintro e' w1 ⟨rfl, h1⟩
  exact ⟨rfl, roc_er rfl h1⟩
 | ok r1 =>
  rw [hn] at hc
  have hc' : Calls _ _ _ _ (fun en w' => en = .returned (.agg (tkc r1.at_).toArray) /\ ∃ q, RC W0 pm g e w' r1 q) := hc
  clear hc
  rw [word_is (lk pm.m) e r r1 hn]
  obtain ⟨RES, hRES⟩ : ∃ RES, bodyN (lk pm.m) e (r1.rest.length + 1) { r1 with body := [], opn := [], ended := false } = RES := ⟨_, rfl⟩
  rw [hRES]
  have HRES := hid hRES
  clear hRES
  obtain ⟨t, ts, ht, hr1, _, hkn⟩ := name_cases hn
  have e1 : r1.at_ = t := by rw [hr1]
  rw [e1] at hc' ⊢
  have HN := hid (show r1.rest.length <= 1000000 /\ r1.defs.length <= 1000000 /\ (r1.defs.map (·.nm)).any (fun x => decide (x = t.t)) = false from by
   have := HL.out
   rw [ht] at this
   rw [hr1]
   refine ⟨by have := this.1; simp only [List.length_cons] at this; show ts.length <= _; omega, this.2, hkn⟩)
  clear hn ht hr1 hkn HL e1
  unfold tkc at hc'
  go_enter Tryz.func77, Tryz.ntmps77
  go_wp2_with fail
  refine hc'.mono ?_
  rintro e' w1 ⟨rfl, q1, hR1⟩
  clear hc'
  obtain ⟨W2, hW2⟩ : ∃ W2, w1.alloc (.cells #[.int .i64 t.k, .string t.t, .int .u16 t.v, .int .i64 t.p.1, .int .i64 t.p.2] 53) = W2 := ⟨_, rfl⟩
  have hB2 : Below w1.heap.size w1 W2 := by rw [<- hW2]; exact (Below.refl _ _).alloc (Nat.le_refl _) _
  have v2 : W2.heap[w1.heap.size]? = some (.cells (tkc t).toArray 53 (0, 0)) := by rw [<- hW2]; exact heap_alloc_new w1 _
  have hR2 := (hR1.next hB2).box w1.heap.size (tkc t) 53 okTK v2
  have hxl := hR1.xlt
  obtain ⟨pm2, hpm2⟩ : ∃ pm2 : Px, { pm with x := (w1.heap.size, tkc t, 53) :: pm.x } = pm2 := ⟨_, rfl⟩
  rw [hpm2] at hR2
  have HP := hid (And.intro hpm2 hxl)
  have HM := hid (show pm2.m = pm.m from by rw [<- hpm2])
  obtain ⟨x0, x1, x2, x3, x4, x5, x6, x7, x8, x9, x10, x11, x12, x13, x14⟩ := rd_cells hR2.blk
  have f12 := S.frozen_of W2 g 12 _ _ hR2.blk
  have f13 := S.frozen_of W2 g 13 _ _ hR2.blk
  have f14 := S.frozen_of W2 g 14 _ _ hR2.blk
  have hS := hR2.begins
  have HS := hid hS
  have x14s := (rd_cells hS.blk).2.2.2.2.2.2.2.2.2.2.2.2.2.2
  clear hR1 hB2 v2 hR2 x0 x1 x2 x3 x4 x5 x6 x7 x8 x9 x10 x11 hpm2 hxl hS
  obtain ⟨W3, hW3⟩ : ∃ W3, ((W2.setCell ⟨g, 12, none⟩ (.slice none 0 0)).setCell ⟨g, 13, none⟩ (.slice none 0 0)).setCell ⟨g, 14, none⟩ (.bool false) = W3 := ⟨_, rfl⟩
  rw [hW3] at HS x14s
  clear x14s
  go_wp2_with fail
  try rw [hW2]
  try rw [hW3]
  clear hW2 hW3 x12 x13 x14 f12 f13 f14
  go_loopw [] (fun wr => WL W0 pm2 g e (r1.defs.map (·.nm)) 1000000 RES wr) (fun wr => restN g wr)
  case atStart =>
   exact ⟨_, _, r1.rest.length + 1, 0, HS.out, ⟨Nat.zero_le _, Nat.zero_le _, fun n hn => by simp at hn⟩, by show 0 + r1.rest.length <= _; have := HN.out.1; omega, by rw [HM.out]; exact HRES.out, Nat.le_refl _, rfl⟩
  case round =>
   obtain ⟨r2, q2, n, k, hR, hbk, hkl, hres, hnl, hnm⟩ := hrel
   have x14 := (rd_cells hR.blk).2.2.2.2.2.2.2.2.2.2.2.2.2.2
   have HR := hid hR
   have HI := hid (And.intro hbk (And.intro hkl (And.intro hres (And.intro hnl hnm))))
   clear hbk hkl hres hnl hnm
   cases hen : r2.ended with
   | true =>
    rw [hen] at x14
    have HE := hid (show RES = .ok r2 from HI.out.2.2.1.symm.trans (bodyN_end _ e n r2 hen))
    clear hR hen
    go_upto_region 4 with fail
    clear x14
    obtain ⟨hbk, hkl, _, _, hnm⟩ := HI.out
    have hbl : r2.body.length <= 1000000 := by have := hbk.body; omega
    obtain ⟨hC, hnv⟩ := HR.out.fin hbl
    obtain ⟨pB, cB, hbv⟩ := bv_val HR.out
    have hkn : known r2 t.t = false := by unfold known; rw [hnm]; exact HN.out.2.2
    have hdl : r2.defs.length <= 1000000 := by have := congrArg List.length hnm; simp only [List.length_map] at this; have := HN.out.2.1; omega
    have hBd : Below wr.heap.size wr wr.drew := ⟨rfl, rfl, rfl, Nat.le_refl _, fun _ _ => rfl⟩
    replace hC := hC.next hBd
    replace hnv : NV wr.drew (fun b => fin q2.c b = 1) (.slice pB r2.body.length cB) r2.body := by rw [<- hbv]; exact hnv.kept (fun _ _ => rfl) (fun _ hk => hk)
    have hbx : wr.drew.heap[w1.heap.size]? = some (.cells (tkc t).toArray 53 (0, 0)) := by
     have := hC
     rw [<- HP.out.1] at this
     exact this.unbox.2
    have hSS : wr.drew.cell? ⟨g, 12, none⟩ = some (.slice pB r2.body.length cB) /\ wr.drew.cell? ⟨w1.heap.size, 0, none⟩ = some (.int .i64 t.k) /\ wr.drew.cell? ⟨w1.heap.size, 1, none⟩ = some (.string t.t) /\ wr.drew.cell? ⟨w1.heap.size, 2, none⟩ = some (.int .u16 t.v) /\ wr.drew.cell? ⟨w1.heap.size, 3, none⟩ = some (.int .i64 t.p.1) /\ wr.drew.cell? ⟨w1.heap.size, 4, none⟩ = some (.int .i64 t.p.2) := ⟨by rw [<- hbv]; exact (rd_cells hC.blk).2.2.2.2.2.2.2.2.2.2.2.2.1, S.cell_of _ _ 0 _ 53 _ hbx rfl, S.cell_of _ _ 1 _ 53 _ hbx rfl, S.cell_of _ _ 2 _ 53 _ hbx rfl, S.cell_of _ _ 3 _ 53 _ hbx rfl, S.cell_of _ _ 4 _ 53 _ hbx rfl⟩
    have hdef := define_any W0 pm2 g e wr.drew r2 _ hC 1 0 t pB cB r2.body hnv hkn hdl
    unfold tkc at hdef
    refine wp_region_drop [6] (S := fun wz : World => wz.cell? ⟨g, 12, none⟩ = some (.slice pB r2.body.length cB) /\ wz.cell? ⟨w1.heap.size, 0, none⟩ = some (.int .i64 t.k) /\ wz.cell? ⟨w1.heap.size, 1, none⟩ = some (.string t.t) /\ wz.cell? ⟨w1.heap.size, 2, none⟩ = some (.int .u16 t.v) /\ wz.cell? ⟨w1.heap.size, 3, none⟩ = some (.int .i64 t.p.1) /\ wz.cell? ⟨w1.heap.size, 4, none⟩ = some (.int .i64 t.p.2)) (by kernel_rfl) hSS (fun hHeld => ?_)
    clear hSS hbx hC hnv hbv hkn hdl hBd hbk hkl hnm hbl
    generalize wr.drew = y0 at *
    refine D.zP (is := [0, 2, 3, 4]) ?_
    iterate 4
     refine D.yP (v := ?_) rfl (by kernel_rfl) (fun c a w h => h) (by rfl) ?_ (fun _ => hHeld) ?_
     rotate_left
     ·(intro w hSw; clear hSw; go_simp; try with_reducible rfl)
     simp only [D.pts]
    refine D.eP ?_
    refine D.zT (is := [1, 5]) ?_
    iterate 2
     refine D.yT (v := ?_) rfl (by kernel_rfl) (fun c a w h => h) (by rfl) ?_ hHeld ?_
     rotate_left
     ·(intro w hSw; (try dsimp only at hSw); go_simp; try with_reducible rfl)
     simp only [D.pts]
    refine D.eT ?_
    refine wpD_ready (rs := [6]) (by kernel_rfl) (by simp) ?_
    refine AllD.late rfl (by kernel_rfl) (fun K hK => ?_)
    go_simp
    refine hdef.mono ?_
    rintro e' w9 ⟨rfl, q9, h9⟩
    refine hK.out _ _ ?_
    clear hK K hHeld
    try simp only [D.pts]
    refine wpD_done (by kernel_rfl) ?_ _
    rw [<- HP.out.1] at h9
    have H9 := hid h9.unbox.1
    clear h9 hdef
    go_wp2
    go_end0
    rw [HE.out]
    exact roc_ok (r := define 1 t 0 r2.body r2) rfl ⟨_, H9.out⟩
   | false =>
    rw [hen] at x14
    have hcn := next_any W0 pm2 g e wr r2 q2 hR
    have Hen := hid hen
    clear hR hen
    cases hnx : next e r2 with
    | error er =>
     rw [hnx] at hcn
     have hcn' : Calls _ _ _ _ (fun en w' => en = .panicked (flt er) /\ Bx W0 pm2 w') := hcn
     have HE := hid (show RES = .error er from by
      obtain ⟨_, _, hres, hnl, _⟩ := HI.out
      obtain ⟨m, rfl⟩ : ∃ m, n = m + 1 := ⟨n - 1, by omega⟩
      exact hres.symm.trans (bodyN_err1 _ e m r2 Hen.out er hnx))
     clear hcn hnx
     go_wp2_with fail
     refine hcn'.mono ?_
     rintro e' w9 ⟨rfl, h9⟩
     exact ⟨rfl, by rw [HE.out]; rw [<- HP.out.1] at h9; exact roc_er (er := er) rfl h9.sub⟩
    | ok r3 =>
     rw [hnx] at hcn
     have hcn' : Calls _ _ _ _ (fun en w' => en = .returned (.agg (tkc r3.at_).toArray) /\ ∃ q, RS W0 pm2 g e w' r3 q) := hcn
     have Hnx := hid hnx
     clear hcn hnx
     unfold tkc at hcn'
     go_wp2_with fail
     refine hcn'.mono ?_
     rintro e' w3 ⟨rfl, q3, hR3⟩
     clear hcn' x14
     have hb3 : Bk k r3 := by
      obtain ⟨t3, ts3, _, rfl⟩ := next_cases Hnx.out
      exact ⟨HI.out.1.body, HI.out.1.opn, HI.out.1.lists⟩
     have hk3 : k <= 1000000 := by have := HI.out.2.1; omega
     have hnd := node_any W0 pm2 g e w3 r3 q3 hR3 (hb3.bd hk3)
     have Hb3 := hid hb3
     clear hb3 hk3 hR3
     unfold tkc at hnd
     cases hno : node (lk pm2.m) r3 with
     | error er =>
      rw [hno] at hnd
      have hnd' : Calls _ _ _ _ (fun en w' => en = .panicked (flt er) /\ Bx W0 pm2 w') := hnd
      have HE := hid (show RES = .error er from by
       obtain ⟨_, _, hres, hnl, _⟩ := HI.out
       obtain ⟨m, rfl⟩ : ∃ m, n = m + 1 := ⟨n - 1, by omega⟩
       exact hres.symm.trans (bodyN_err2 _ e m r2 r3 Hen.out er Hnx.out hno))
      clear hnd hno
      go_wp2_with fail
      refine hnd'.mono ?_
      rintro e' w9 ⟨rfl, h9⟩
      exact ⟨rfl, by rw [HE.out]; rw [<- HP.out.1] at h9; exact roc_er (er := er) rfl h9.sub⟩
     | ok r4 =>
      rw [hno] at hnd
      have hnd' : Calls _ _ _ _ (fun en w' => en = .returned (.tuple #[]) /\ ∃ q, RS W0 pm2 g e w' r4 q) := hnd
      have Hno := hid hno
      clear hnd hno
      go_wp2_with fail
      refine hnd'.mono ?_
      rintro e' w9 ⟨rfl, q4, h4⟩
      have H4 := hid h4
      have HMS := hid (show restN g w9 < restN g wr from by
       rw [h4.restN, HR.out.restN]
       obtain ⟨t3, ts3, h3, e3⟩ := next_cases Hnx.out
       have := (node_kp _ r3 r4 k Hb3.out Hno.out).rest
       rw [this, e3, h3]
       simp)
      have HWL := hid (show WL W0 pm2 g e (r1.defs.map (·.nm)) 1000000 RES w9 from by
       obtain ⟨hbk, hkl, hres, hnl, hnm⟩ := HI.out
       obtain ⟨m, rfl⟩ : ∃ m, n = m + 1 := ⟨n - 1, by omega⟩
       have kp := node_kp _ r3 r4 k Hb3.out Hno.out
       obtain ⟨t3, ts3, h3, e3⟩ := next_cases Hnx.out
       have hrl : r4.rest.length + 1 = r2.rest.length := by rw [kp.rest, e3, h3]; simp
       refine ⟨r4, q4, m, k + 1, H4.out, kp.bk, by omega, ?_, by omega, ?_⟩
       ·rw [<- bodyN_step _ e m r2 r3 r4 Hen.out Hnx.out Hno.out]; exact hres
       ·rw [kp.defs, e3]; exact hnm)
      clear h4 hnd'
      go_wp2
      go_roundw
      case rel => first | exact HWL.out | ((repeat apply Exists.intro); exact ⟨HWL.out, rfl⟩)
      case measure => exact HMS.out
set_option maxHeartbeats 4000000
set_option maxRecDepth 100000
open Go.Proofs.YtdnklgceghllaaaGreatDoor.R (lk)
def dres (k v : Int) (x : Re) : Re := match x with | .ok r => .ok (define k r.at_ v [] r) | .error er => .error er
structure Tks (l : List Tk) : Prop where
 size : ∀ t ∈ l, t.t.size <= maxLen
 val : ∀ t ∈ l, 0 <= t.v /\ t.v <= 65535
theorem Tks.tail {t : Tk} {l : List Tk} (h : Tks (t :: l)) : Tks l := ⟨fun x hx => h.size x (List.mem_cons_of_mem _ hx), fun x hx => h.val x (List.mem_cons_of_mem _ hx)⟩
theorem bank_any (W0 : World) (pm : Px) (g : Nat) (e : Ps) (W : World) (r : Rd) (q : Rv) (h : RC W0 pm g e W r q) (t : Tk) (hv0 : 0 <= t.v /\ t.v <= 65535) (hbl : r.banks.length <= 1000000) (hts : Tks r.rest) :
  Calls Tryz.prog 106 #[.pointer (some ⟨g, 0, none⟩), .agg (tkc t).toArray] W (ROc W0 pm g e (fun _ => .tuple #[]) (bank e t r)) := by
 unfold bank
 by_cases hn : t.v < 16
 ·rw [decide_eq_true hn]
  show Calls _ _ _ _ (ROc W0 pm g e (fun _ => .tuple #[]) (do must (!hasN r.banks t.v) t 102; let r ← next e r; must (isW r.at_.t [123]) r.at_ 104; let (d, r) ← dataN e (r.rest.length + 1) [] r; Except.ok { r with banks := r.banks ++ [(t.v, d)] }))
  cases htw : hasN r.banks t.v with
  | true => exact bank_twice W0 pm g e W r q h t hv0 hbl hn htw
  | false =>
   show Calls _ _ _ _ (ROc W0 pm g e (fun _ => .tuple #[]) (do let r ← next e r; must (isW r.at_.t [123]) r.at_ 104; let (d, r) ← dataN e (r.rest.length + 1) [] r; Except.ok { r with banks := r.banks ++ [(t.v, d)] }))
   cases hr : r.rest with
   | nil =>
    have : next e r = .error (e, 105) := by unfold next; rw [hr]
    rw [this]
    exact bank_end W0 pm g e W r q h t hv0 hbl hn htw hr
   | cons t3 ts =>
    have : next e r = .ok { r with at_ := t3, rest := ts } := by unfold next; rw [hr]
    rw [this]
    show Calls _ _ _ _ (ROc W0 pm g e (fun _ => .tuple #[]) (do must (isW t3.t [123]) t3 104; let (d, r) ← dataN e (ts.length + 1) [] { r with at_ := t3, rest := ts }; Except.ok { r with banks := r.banks ++ [(t.v, d)] }))
    cases hbc : isW t3.t [123] with
    | false => exact bank_pair W0 pm g e W r q h t hv0 hbl hn htw t3 ts hr hbc
    | true =>
     rw [hr] at hts
     have := bank_data W0 pm g e W r q h t hv0 hbl hn htw t3 ts hr hbc hts.tail.val _ rfl
     show Calls _ _ _ _ (ROc W0 pm g e (fun _ => .tuple #[]) (dataN e (ts.length + 1) [] { r with at_ := t3, rest := ts } >>= fun x => Except.ok { x.2 with banks := x.2.banks ++ [(t.v, x.1)] }))
     cases hx : dataN e (ts.length + 1) [] { r with at_ := t3, rest := ts } with
     | error er => rw [hx] at this; exact this
     | ok x => rw [hx] at this; exact this
 ·rw [decide_eq_false hn]
  exact bank_val W0 pm g e W r q h t hv0 hbl hn
theorem numb_end (W0 : World) (pm : Px) (g : Nat) (e : Ps) (W : World) (r : Rd) (q : Rv) (h : RC W0 pm g e W r q) (t : Tk) (hv0 : 0 <= t.v /\ t.v <= 65535) (hr : r.rest = []) :
  Calls Tryz.prog 76 #[.pointer (some ⟨g, 0, none⟩), .agg (tkc t).toArray] W (ROc W0 pm g e (fun _ => .tuple #[]) (.error (e, 105))) := by
 obtain ⟨W1, hW1⟩ : ∃ W1, W.alloc (.cells #[.int .i64 t.k, .string t.t, .int .u16 t.v, .int .i64 t.p.1, .int .i64 t.p.2] 53) = W1 := ⟨_, rfl⟩
 have hB1 : Below W.heap.size W W1 := by rw [<- hW1]; exact (Below.refl _ _).alloc (Nat.le_refl _) _
 have v1 : W1.heap[W.heap.size]? = some (.cells (tkc t).toArray 53 (0, 0)) := by rw [<- hW1]; exact heap_alloc_new W _
 have hR1 := (h.next hB1).box W.heap.size (tkc t) 53 okTK v1
 obtain ⟨pm2, hpm2⟩ : ∃ pm2 : Px, { pm with x := (W.heap.size, tkc t, 53) :: pm.x } = pm2 := ⟨_, rfl⟩
 rw [hpm2] at hR1
 have HP := hid hpm2
 have HBX := hid (fun (w : World) (r : Rd) (q : Rv) (hR : RC W0 pm2 g e w r q) => show (w.heap[W.heap.size]? = some (.cells (tkc t).toArray 53 (0, 0)) /\ RC W0 pm g e w r q) from by
  rw [<- hpm2] at hR
  exact ⟨hR.unbox.2, hR.unbox.1⟩)
 have hc := next_no W0 pm2 g e W1 r q hR1 hr
 have HE := hid hR1
 clear h hB1 v1 hR1 hpm2 hr
 unfold tkc
 go_enter Tryz.func76, Tryz.ntmps76
 go_wp2_with fail
 refine hc.mono ?_
 rintro e' w1 ⟨rfl, hb1⟩
 exact ⟨rfl, roc_er rfl ((HBX.out _ _ _ HE.out).2.err hb1)⟩
theorem numb_top (W0 : World) (pm : Px) (g : Nat) (e : Ps) (W : World) (r : Rd) (q : Rv) (h : RC W0 pm g e W r q) (t : Tk) (hv0 : 0 <= t.v /\ t.v <= 65535) (k : Tk) (ts : List Tk) (hr : r.rest = k :: ts) (h1 : isW k.t [99, 111, 110, 115, 116, 97, 110, 116] = false) (h2 : isW k.t [98, 117, 102, 102, 101, 114] = false) (h3 : isW k.t [98, 97, 110, 107] = false) :
  Calls Tryz.prog 76 #[.pointer (some ⟨g, 0, none⟩), .agg (tkc t).toArray] W (ROc W0 pm g e (fun _ => .tuple #[]) (.error (k.p, 100))) := by
 obtain ⟨W1, hW1⟩ : ∃ W1, W.alloc (.cells #[.int .i64 t.k, .string t.t, .int .u16 t.v, .int .i64 t.p.1, .int .i64 t.p.2] 53) = W1 := ⟨_, rfl⟩
 have hB1 : Below W.heap.size W W1 := by rw [<- hW1]; exact (Below.refl _ _).alloc (Nat.le_refl _) _
 have v1 : W1.heap[W.heap.size]? = some (.cells (tkc t).toArray 53 (0, 0)) := by rw [<- hW1]; exact heap_alloc_new W _
 have hR1 := (h.next hB1).box W.heap.size (tkc t) 53 okTK v1
 obtain ⟨pm2, hpm2⟩ : ∃ pm2 : Px, { pm with x := (W.heap.size, tkc t, 53) :: pm.x } = pm2 := ⟨_, rfl⟩
 rw [hpm2] at hR1
 have HP := hid hpm2
 have HBX := hid (fun (w : World) (r : Rd) (q : Rv) (hR : RC W0 pm2 g e w r q) => show (w.heap[W.heap.size]? = some (.cells (tkc t).toArray 53 (0, 0)) /\ RC W0 pm g e w r q) from by
  rw [<- hpm2] at hR
  exact ⟨hR.unbox.2, hR.unbox.1⟩)
 have hc := next_c W0 pm2 g e W1 r q hR1 k ts hr
 unfold tkc at hc
 clear h hB1 v1 hR1 hpm2 hr
 unfold tkc
 go_enter Tryz.func76, Tryz.ntmps76
 go_wp2_with fail
 refine hc.mono ?_
 rintro e' w2 ⟨rfl, ⟨rv2, hR2⟩, _⟩
 clear hc
 obtain ⟨q2, hq2⟩ : ∃ q2, { q with rv := rv2 } = q2 := ⟨_, rfl⟩
 rw [hq2] at hR2
 clear hq2
 obtain ⟨W3, hW3⟩ : ∃ W3, w2.alloc (.cells #[.int .i64 k.k, .string k.t, .int .u16 k.v, .int .i64 k.p.1, .int .i64 k.p.2] 53) = W3 := ⟨_, rfl⟩
 have hB3 : Below w2.heap.size w2 W3 := by rw [<- hW3]; exact (Below.refl _ _).alloc (Nat.le_refl _) _
 have v3 : W3.heap[w2.heap.size]? = some (.cells (tkc k).toArray 53 (0, 0)) := by rw [<- hW3]; exact heap_alloc_new w2 _
 obtain ⟨x0, x1, x2, x3, x4⟩ : W3.cell? ⟨w2.heap.size, 0, none⟩ = some (.int .i64 k.k) /\ W3.cell? ⟨w2.heap.size, 1, none⟩ = some (.string k.t) /\ W3.cell? ⟨w2.heap.size, 2, none⟩ = some (.int .u16 k.v) /\ W3.cell? ⟨w2.heap.size, 3, none⟩ = some (.int .i64 k.p.1) /\ W3.cell? ⟨w2.heap.size, 4, none⟩ = some (.int .i64 k.p.2) := ⟨S.cell_of W3 _ 0 _ 53 _ v3 rfl, S.cell_of W3 _ 1 _ 53 _ v3 rfl, S.cell_of W3 _ 2 _ 53 _ v3 rfl, S.cell_of W3 _ 3 _ 53 _ v3 rfl, S.cell_of W3 _ 4 _ 53 _ v3 rfl⟩
 have hR3 := hR2.next hB3
 obtain ⟨z0, z1, z2, z3, z4⟩ : W3.cell? ⟨W.heap.size, 0, none⟩ = some (.int .i64 t.k) /\ W3.cell? ⟨W.heap.size, 1, none⟩ = some (.string t.t) /\ W3.cell? ⟨W.heap.size, 2, none⟩ = some (.int .u16 t.v) /\ W3.cell? ⟨W.heap.size, 3, none⟩ = some (.int .i64 t.p.1) /\ W3.cell? ⟨W.heap.size, 4, none⟩ = some (.int .i64 t.p.2) := ⟨S.cell_of W3 _ 0 _ 53 _ (HBX.out _ _ _ hR3).1 rfl, S.cell_of W3 _ 1 _ 53 _ (HBX.out _ _ _ hR3).1 rfl, S.cell_of W3 _ 2 _ 53 _ (HBX.out _ _ _ hR3).1 rfl, S.cell_of W3 _ 3 _ 53 _ (HBX.out _ _ _ hR3).1 rfl, S.cell_of W3 _ 4 _ 53 _ (HBX.out _ _ _ hR3).1 rfl⟩
 have HR3 := hid hR3
 clear hR2 hB3 v3 hR3
 replace h1 := isW_no h1
 replace h2 := isW_no h2
 replace h3 := isW_no h3
 have hm := must_false k 100 W3
 unfold tkc at hm
 go_wp2_with fail
 refine hm.mono ?_
 rintro e' w9 ⟨rfl, h9⟩
 exact ⟨rfl, roc_er rfl ((HBX.out _ _ _ HR3.out).2.err h9)⟩
theorem numb_bank (W0 : World) (pm : Px) (g : Nat) (e : Ps) (W : World) (r : Rd) (q : Rv) (h : RC W0 pm g e W r q) (t : Tk) (hv0 : 0 <= t.v /\ t.v <= 65535) (k : Tk) (ts : List Tk) (hr : r.rest = k :: ts) (h1 : isW k.t [99, 111, 110, 115, 116, 97, 110, 116] = false) (h2 : isW k.t [98, 117, 102, 102, 101, 114] = false) (h3 : isW k.t [98, 97, 110, 107] = true) (hbl : r.banks.length <= 1000000) (hts : Tks ts) (res : Re) (hres : bank e t { r with at_ := k, rest := ts } = res) :
  Calls Tryz.prog 76 #[.pointer (some ⟨g, 0, none⟩), .agg (tkc t).toArray] W (ROc W0 pm g e (fun _ => .tuple #[]) (res)) := by
 obtain ⟨W1, hW1⟩ : ∃ W1, W.alloc (.cells #[.int .i64 t.k, .string t.t, .int .u16 t.v, .int .i64 t.p.1, .int .i64 t.p.2] 53) = W1 := ⟨_, rfl⟩
 have hB1 : Below W.heap.size W W1 := by rw [<- hW1]; exact (Below.refl _ _).alloc (Nat.le_refl _) _
 have v1 : W1.heap[W.heap.size]? = some (.cells (tkc t).toArray 53 (0, 0)) := by rw [<- hW1]; exact heap_alloc_new W _
 have hR1 := (h.next hB1).box W.heap.size (tkc t) 53 okTK v1
 obtain ⟨pm2, hpm2⟩ : ∃ pm2 : Px, { pm with x := (W.heap.size, tkc t, 53) :: pm.x } = pm2 := ⟨_, rfl⟩
 rw [hpm2] at hR1
 have HP := hid hpm2
 have HBX := hid (fun (w : World) (r : Rd) (q : Rv) (hR : RC W0 pm2 g e w r q) => show (w.heap[W.heap.size]? = some (.cells (tkc t).toArray 53 (0, 0)) /\ RC W0 pm g e w r q) from by
  rw [<- hpm2] at hR
  exact ⟨hR.unbox.2, hR.unbox.1⟩)
 have hc := next_c W0 pm2 g e W1 r q hR1 k ts hr
 unfold tkc at hc
 clear h hB1 v1 hR1 hpm2 hr
 unfold tkc
 go_enter Tryz.func76, Tryz.ntmps76
 go_wp2_with fail
 refine hc.mono ?_
 rintro e' w2 ⟨rfl, ⟨rv2, hR2⟩, _⟩
 clear hc
 obtain ⟨q2, hq2⟩ : ∃ q2, { q with rv := rv2 } = q2 := ⟨_, rfl⟩
 rw [hq2] at hR2
 clear hq2
 obtain ⟨W3, hW3⟩ : ∃ W3, w2.alloc (.cells #[.int .i64 k.k, .string k.t, .int .u16 k.v, .int .i64 k.p.1, .int .i64 k.p.2] 53) = W3 := ⟨_, rfl⟩
 have hB3 : Below w2.heap.size w2 W3 := by rw [<- hW3]; exact (Below.refl _ _).alloc (Nat.le_refl _) _
 have v3 : W3.heap[w2.heap.size]? = some (.cells (tkc k).toArray 53 (0, 0)) := by rw [<- hW3]; exact heap_alloc_new w2 _
 obtain ⟨x0, x1, x2, x3, x4⟩ : W3.cell? ⟨w2.heap.size, 0, none⟩ = some (.int .i64 k.k) /\ W3.cell? ⟨w2.heap.size, 1, none⟩ = some (.string k.t) /\ W3.cell? ⟨w2.heap.size, 2, none⟩ = some (.int .u16 k.v) /\ W3.cell? ⟨w2.heap.size, 3, none⟩ = some (.int .i64 k.p.1) /\ W3.cell? ⟨w2.heap.size, 4, none⟩ = some (.int .i64 k.p.2) := ⟨S.cell_of W3 _ 0 _ 53 _ v3 rfl, S.cell_of W3 _ 1 _ 53 _ v3 rfl, S.cell_of W3 _ 2 _ 53 _ v3 rfl, S.cell_of W3 _ 3 _ 53 _ v3 rfl, S.cell_of W3 _ 4 _ 53 _ v3 rfl⟩
 have hR3 := hR2.next hB3
 obtain ⟨z0, z1, z2, z3, z4⟩ : W3.cell? ⟨W.heap.size, 0, none⟩ = some (.int .i64 t.k) /\ W3.cell? ⟨W.heap.size, 1, none⟩ = some (.string t.t) /\ W3.cell? ⟨W.heap.size, 2, none⟩ = some (.int .u16 t.v) /\ W3.cell? ⟨W.heap.size, 3, none⟩ = some (.int .i64 t.p.1) /\ W3.cell? ⟨W.heap.size, 4, none⟩ = some (.int .i64 t.p.2) := ⟨S.cell_of W3 _ 0 _ 53 _ (HBX.out _ _ _ hR3).1 rfl, S.cell_of W3 _ 1 _ 53 _ (HBX.out _ _ _ hR3).1 rfl, S.cell_of W3 _ 2 _ 53 _ (HBX.out _ _ _ hR3).1 rfl, S.cell_of W3 _ 3 _ 53 _ (HBX.out _ _ _ hR3).1 rfl, S.cell_of W3 _ 4 _ 53 _ (HBX.out _ _ _ hR3).1 rfl⟩
 have HR3 := hid hR3
 clear hR2 hB3 v3 hR3
 replace h1 := isW_no h1
 replace h2 := isW_no h2
 replace h3 := isW_yes h3
 have hbk := bank_any W0 pm g e W3 _ q2 (HBX.out _ _ _ HR3.out).2 t hv0 hbl hts
 unfold tkc at hbk
 have hres2 := hres
 rw [hres] at hbk
 clear hres hres2
 clear HR3 HBX
 go_wp2_with fail
 refine hbk.mono ?_
 intro en w9 h9
 cases res with
 | ok r' =>
  obtain ⟨rfl, h1⟩ := h9
  have H1 := hid h1
  clear h1 hbk
  go_wp2
  go_end0
  exact roc_ok rfl H1.out
 | error er =>
  obtain ⟨rfl, h1⟩ := h9
  exact ⟨rfl, roc_er rfl h1⟩
theorem numb_const (W0 : World) (pm : Px) (g : Nat) (e : Ps) (W : World) (r : Rd) (q : Rv) (h : RC W0 pm g e W r q) (t : Tk) (hv0 : 0 <= t.v /\ t.v <= 65535) (k : Tk) (ts : List Tk) (hr : r.rest = k :: ts) (h1 : isW k.t [99, 111, 110, 115, 116, 97, 110, 116] = true) (hsz : ∀ x ∈ ts, x.t.size <= maxLen) (hdl : r.defs.length <= 1000000) (RES : Re) (hRES : name e { r with at_ := k, rest := ts } = RES) :
  Calls Tryz.prog 76 #[.pointer (some ⟨g, 0, none⟩), .agg (tkc t).toArray] W (ROc W0 pm g e (fun _ => .tuple #[]) (dres 2 t.v RES)) := by
 obtain ⟨W1, hW1⟩ : ∃ W1, W.alloc (.cells #[.int .i64 t.k, .string t.t, .int .u16 t.v, .int .i64 t.p.1, .int .i64 t.p.2] 53) = W1 := ⟨_, rfl⟩
 have hB1 : Below W.heap.size W W1 := by rw [<- hW1]; exact (Below.refl _ _).alloc (Nat.le_refl _) _
 have v1 : W1.heap[W.heap.size]? = some (.cells (tkc t).toArray 53 (0, 0)) := by rw [<- hW1]; exact heap_alloc_new W _
 have hR1 := (h.next hB1).box W.heap.size (tkc t) 53 okTK v1
 obtain ⟨pm2, hpm2⟩ : ∃ pm2 : Px, { pm with x := (W.heap.size, tkc t, 53) :: pm.x } = pm2 := ⟨_, rfl⟩
 rw [hpm2] at hR1
 have HP := hid hpm2
 have HBX := hid (fun (w : World) (r : Rd) (q : Rv) (hR : RC W0 pm2 g e w r q) => show (w.heap[W.heap.size]? = some (.cells (tkc t).toArray 53 (0, 0)) /\ RC W0 pm g e w r q) from by
  rw [<- hpm2] at hR
  exact ⟨hR.unbox.2, hR.unbox.1⟩)
 have hc := next_c W0 pm2 g e W1 r q hR1 k ts hr
 unfold tkc at hc
 clear h hB1 v1 hR1 hpm2 hr
 unfold tkc
 go_enter Tryz.func76, Tryz.ntmps76
 go_wp2_with fail
 refine hc.mono ?_
 rintro e' w2 ⟨rfl, ⟨rv2, hR2⟩, _⟩
 clear hc
 obtain ⟨q2, hq2⟩ : ∃ q2, { q with rv := rv2 } = q2 := ⟨_, rfl⟩
 rw [hq2] at hR2
 clear hq2
 obtain ⟨W3, hW3⟩ : ∃ W3, w2.alloc (.cells #[.int .i64 k.k, .string k.t, .int .u16 k.v, .int .i64 k.p.1, .int .i64 k.p.2] 53) = W3 := ⟨_, rfl⟩
 have hB3 : Below w2.heap.size w2 W3 := by rw [<- hW3]; exact (Below.refl _ _).alloc (Nat.le_refl _) _
 have v3 : W3.heap[w2.heap.size]? = some (.cells (tkc k).toArray 53 (0, 0)) := by rw [<- hW3]; exact heap_alloc_new w2 _
 obtain ⟨x0, x1, x2, x3, x4⟩ : W3.cell? ⟨w2.heap.size, 0, none⟩ = some (.int .i64 k.k) /\ W3.cell? ⟨w2.heap.size, 1, none⟩ = some (.string k.t) /\ W3.cell? ⟨w2.heap.size, 2, none⟩ = some (.int .u16 k.v) /\ W3.cell? ⟨w2.heap.size, 3, none⟩ = some (.int .i64 k.p.1) /\ W3.cell? ⟨w2.heap.size, 4, none⟩ = some (.int .i64 k.p.2) := ⟨S.cell_of W3 _ 0 _ 53 _ v3 rfl, S.cell_of W3 _ 1 _ 53 _ v3 rfl, S.cell_of W3 _ 2 _ 53 _ v3 rfl, S.cell_of W3 _ 3 _ 53 _ v3 rfl, S.cell_of W3 _ 4 _ 53 _ v3 rfl⟩
 have hR3 := hR2.next hB3
 obtain ⟨z0, z1, z2, z3, z4⟩ : W3.cell? ⟨W.heap.size, 0, none⟩ = some (.int .i64 t.k) /\ W3.cell? ⟨W.heap.size, 1, none⟩ = some (.string t.t) /\ W3.cell? ⟨W.heap.size, 2, none⟩ = some (.int .u16 t.v) /\ W3.cell? ⟨W.heap.size, 3, none⟩ = some (.int .i64 t.p.1) /\ W3.cell? ⟨W.heap.size, 4, none⟩ = some (.int .i64 t.p.2) := ⟨S.cell_of W3 _ 0 _ 53 _ (HBX.out _ _ _ hR3).1 rfl, S.cell_of W3 _ 1 _ 53 _ (HBX.out _ _ _ hR3).1 rfl, S.cell_of W3 _ 2 _ 53 _ (HBX.out _ _ _ hR3).1 rfl, S.cell_of W3 _ 3 _ 53 _ (HBX.out _ _ _ hR3).1 rfl, S.cell_of W3 _ 4 _ 53 _ (HBX.out _ _ _ hR3).1 rfl⟩
 have HR3 := hid hR3
 clear hR2 hB3 v3 hR3
 replace h1 := isW_yes h1
 have HRY := HR3
 clear HR3
 go_upto_region 5 with fail
 have hBd : Below W3.heap.size W3 W3.drew := ⟨rfl, rfl, rfl, Nat.le_refl _, fun _ _ => rfl⟩
 have hR := HRY.out.next hBd
 have HSX := hid (fun (w : World) (r : Rd) (q : Rv) (hR : RC W0 pm2 g e w r q) => show w.cell? ⟨W.heap.size, 2, none⟩ = some (.int .u16 t.v) from S.cell_of w _ 2 _ 53 _ (HBX.out _ _ _ hR).1 rfl)
 have hc := name_any W0 pm2 g e _ _ _ hR hsz
 refine wp_region_held_drew (S := fun wz : World => wz.cell? ⟨W.heap.size, 2, none⟩ = some (.int .u16 t.v)) (by kernel_rfl) (HSX.out _ _ _ hR) (fun hHeld => ?_)
 clear hBd HRY
 generalize W3.drew = y5 at *
 refine D.zH (is := [0, 1, 3, 4]) ?_
 iterate 4
  refine D.yH (v := ?_) rfl (by kernel_rfl) (fun c a w h => h) (by rfl) ?_ hHeld ?_
  rotate_left
  ·(intro w hSw; (try dsimp only at hSw); go_simp; try with_reducible rfl)
  simp only [D.pts]
 refine D.eH ?_
 refine wpAnyH_ready (rs := [2]) (by kernel_rfl) (by simp) ?_
 refine AllReadyH.cons rfl (fun K hK => ?_) AllReadyH.nil
 rw [if_pos (by rfl)]
 go_simp
 refine hc.mono ?_
 intro en y6 h6
 rw [hRES] at h6
 cases RES with
 | error er =>
  obtain ⟨rfl, h7⟩ := h6
  refine ⟨rfl, ?_⟩
  rw [<- HP.out] at h7
  exact roc_er (er := er) rfl h7.sub
 | ok r6 =>
  obtain ⟨rfl, q6, hR6⟩ := h6
  refine hK.out _ _ (HSX.out _ _ _ hR6) (fun hHeld => ?_)
  clear hK K
  try simp only [D.pts]
  have hdf := define_any W0 pm2 g e y6 r6 q6 hR6 2 t.v r6.at_ none 0 [] (NV.nil (.inl rfl)) (by
   obtain ⟨t6, ts6, _, e6, _, hk6⟩ := name_cases hRES
   rw [e6]; exact hk6) (by
   obtain ⟨t6, ts6, _, e6, _⟩ := name_cases hRES
   rw [e6]; exact hdl)
  have hdf2 : Calls Tryz.prog 78 #[.pointer (some ⟨g, 0, none⟩), .int .i64 2, .agg (tkc r6.at_).toArray, .int .u16 t.v, .slice none 0 0] y6 fun en w' => en = .returned (.tuple #[]) /\ ∃ q', RC W0 pm2 g e w' (define 2 r6.at_ t.v [] r6) q' := hdf
  refine wpAnyH_ready (rs := [5]) (by kernel_rfl) (by simp) ?_
  refine AllReadyH.cons rfl (fun K hK => ?_) AllReadyH.nil
  rw [if_pos (by rfl)]
  go_simp
  refine hdf2.mono ?_
  rintro e' y7 ⟨rfl, q7, hR7⟩
  refine hK.out _ _ (HSX.out _ _ _ hR7) (fun hHeld => ?_)
  clear hK K
  try simp only [D.pts]
  refine wpAnyH_done (by kernel_rfl) ?_ _
  have H7 := hid (HBX.out _ _ _ hR7).2
  clear hHeld hR hR6 hR7 hdf hdf2 hc HSX
  go_wp2
  go_end0
  show ROc W0 pm g e (fun _ => .tuple #[]) (Except.ok (define 2 r6.at_ t.v [] r6)) _ _
  exact roc_ok rfl ⟨_, H7.out⟩
theorem numb_val (W0 : World) (pm : Px) (g : Nat) (e : Ps) (W : World) (r : Rd) (q : Rv) (h : RC W0 pm g e W r q) (t : Tk) (hv0 : 0 <= t.v /\ t.v <= 65535) (k : Tk) (ts : List Tk) (hr : r.rest = k :: ts) (h1 : isW k.t [99, 111, 110, 115, 116, 97, 110, 116] = false) (h2 : isW k.t [98, 117, 102, 102, 101, 114] = true) (hv : ¬ t.v <= 16384) :
  Calls Tryz.prog 76 #[.pointer (some ⟨g, 0, none⟩), .agg (tkc t).toArray] W (ROc W0 pm g e (fun _ => .tuple #[]) (.error (t.p, 106))) := by
 obtain ⟨W1, hW1⟩ : ∃ W1, W.alloc (.cells #[.int .i64 t.k, .string t.t, .int .u16 t.v, .int .i64 t.p.1, .int .i64 t.p.2] 53) = W1 := ⟨_, rfl⟩
 have hB1 : Below W.heap.size W W1 := by rw [<- hW1]; exact (Below.refl _ _).alloc (Nat.le_refl _) _
 have v1 : W1.heap[W.heap.size]? = some (.cells (tkc t).toArray 53 (0, 0)) := by rw [<- hW1]; exact heap_alloc_new W _
 have hR1 := (h.next hB1).box W.heap.size (tkc t) 53 okTK v1
 obtain ⟨pm2, hpm2⟩ : ∃ pm2 : Px, { pm with x := (W.heap.size, tkc t, 53) :: pm.x } = pm2 := ⟨_, rfl⟩
 rw [hpm2] at hR1
 have HP := hid hpm2
 have HBX := hid (fun (w : World) (r : Rd) (q : Rv) (hR : RC W0 pm2 g e w r q) => show (w.heap[W.heap.size]? = some (.cells (tkc t).toArray 53 (0, 0)) /\ RC W0 pm g e w r q) from by
  rw [<- hpm2] at hR
  exact ⟨hR.unbox.2, hR.unbox.1⟩)
 have hc := next_c W0 pm2 g e W1 r q hR1 k ts hr
 unfold tkc at hc
 clear h hB1 v1 hR1 hpm2 hr
 unfold tkc
 go_enter Tryz.func76, Tryz.ntmps76
 go_wp2_with fail
 refine hc.mono ?_
 rintro e' w2 ⟨rfl, ⟨rv2, hR2⟩, _⟩
 clear hc
 obtain ⟨q2, hq2⟩ : ∃ q2, { q with rv := rv2 } = q2 := ⟨_, rfl⟩
 rw [hq2] at hR2
 clear hq2
 obtain ⟨W3, hW3⟩ : ∃ W3, w2.alloc (.cells #[.int .i64 k.k, .string k.t, .int .u16 k.v, .int .i64 k.p.1, .int .i64 k.p.2] 53) = W3 := ⟨_, rfl⟩
 have hB3 : Below w2.heap.size w2 W3 := by rw [<- hW3]; exact (Below.refl _ _).alloc (Nat.le_refl _) _
 have v3 : W3.heap[w2.heap.size]? = some (.cells (tkc k).toArray 53 (0, 0)) := by rw [<- hW3]; exact heap_alloc_new w2 _
 obtain ⟨x0, x1, x2, x3, x4⟩ : W3.cell? ⟨w2.heap.size, 0, none⟩ = some (.int .i64 k.k) /\ W3.cell? ⟨w2.heap.size, 1, none⟩ = some (.string k.t) /\ W3.cell? ⟨w2.heap.size, 2, none⟩ = some (.int .u16 k.v) /\ W3.cell? ⟨w2.heap.size, 3, none⟩ = some (.int .i64 k.p.1) /\ W3.cell? ⟨w2.heap.size, 4, none⟩ = some (.int .i64 k.p.2) := ⟨S.cell_of W3 _ 0 _ 53 _ v3 rfl, S.cell_of W3 _ 1 _ 53 _ v3 rfl, S.cell_of W3 _ 2 _ 53 _ v3 rfl, S.cell_of W3 _ 3 _ 53 _ v3 rfl, S.cell_of W3 _ 4 _ 53 _ v3 rfl⟩
 have hR3 := hR2.next hB3
 obtain ⟨z0, z1, z2, z3, z4⟩ : W3.cell? ⟨W.heap.size, 0, none⟩ = some (.int .i64 t.k) /\ W3.cell? ⟨W.heap.size, 1, none⟩ = some (.string t.t) /\ W3.cell? ⟨W.heap.size, 2, none⟩ = some (.int .u16 t.v) /\ W3.cell? ⟨W.heap.size, 3, none⟩ = some (.int .i64 t.p.1) /\ W3.cell? ⟨W.heap.size, 4, none⟩ = some (.int .i64 t.p.2) := ⟨S.cell_of W3 _ 0 _ 53 _ (HBX.out _ _ _ hR3).1 rfl, S.cell_of W3 _ 1 _ 53 _ (HBX.out _ _ _ hR3).1 rfl, S.cell_of W3 _ 2 _ 53 _ (HBX.out _ _ _ hR3).1 rfl, S.cell_of W3 _ 3 _ 53 _ (HBX.out _ _ _ hR3).1 rfl, S.cell_of W3 _ 4 _ 53 _ (HBX.out _ _ _ hR3).1 rfl⟩
 have HR3 := hid hR3
 clear hR2 hB3 v3 hR3
 have hv2 : decide (t.v <= 16384) = false := by simpa using hv
 replace h1 := isW_no h1
 replace h2 := isW_yes h2
 have hm := must_false t 106 W3
 unfold tkc at hm
 go_wp2_with fail
 refine hm.mono ?_
 rintro e' w9 ⟨rfl, h9⟩
 exact ⟨rfl, roc_er rfl ((HBX.out _ _ _ HR3.out).2.err h9)⟩
theorem numb_buf (W0 : World) (pm : Px) (g : Nat) (e : Ps) (W : World) (r : Rd) (q : Rv) (h : RC W0 pm g e W r q) (t : Tk) (hv0 : 0 <= t.v /\ t.v <= 65535) (k : Tk) (ts : List Tk) (hr : r.rest = k :: ts) (h1 : isW k.t [99, 111, 110, 115, 116, 97, 110, 116] = false) (h2 : isW k.t [98, 117, 102, 102, 101, 114] = true) (hv : t.v <= 16384) (hsz : ∀ x ∈ ts, x.t.size <= maxLen) (hdl : r.defs.length <= 1000000) (RES : Re) (hRES : name e { r with at_ := k, rest := ts } = RES) :
  Calls Tryz.prog 76 #[.pointer (some ⟨g, 0, none⟩), .agg (tkc t).toArray] W (ROc W0 pm g e (fun _ => .tuple #[]) (dres 3 t.v RES)) := by
 obtain ⟨W1, hW1⟩ : ∃ W1, W.alloc (.cells #[.int .i64 t.k, .string t.t, .int .u16 t.v, .int .i64 t.p.1, .int .i64 t.p.2] 53) = W1 := ⟨_, rfl⟩
 have hB1 : Below W.heap.size W W1 := by rw [<- hW1]; exact (Below.refl _ _).alloc (Nat.le_refl _) _
 have v1 : W1.heap[W.heap.size]? = some (.cells (tkc t).toArray 53 (0, 0)) := by rw [<- hW1]; exact heap_alloc_new W _
 have hR1 := (h.next hB1).box W.heap.size (tkc t) 53 okTK v1
 obtain ⟨pm2, hpm2⟩ : ∃ pm2 : Px, { pm with x := (W.heap.size, tkc t, 53) :: pm.x } = pm2 := ⟨_, rfl⟩
 rw [hpm2] at hR1
 have HP := hid hpm2
 have HBX := hid (fun (w : World) (r : Rd) (q : Rv) (hR : RC W0 pm2 g e w r q) => show (w.heap[W.heap.size]? = some (.cells (tkc t).toArray 53 (0, 0)) /\ RC W0 pm g e w r q) from by
  rw [<- hpm2] at hR
  exact ⟨hR.unbox.2, hR.unbox.1⟩)
 have hc := next_c W0 pm2 g e W1 r q hR1 k ts hr
 unfold tkc at hc
 clear h hB1 v1 hR1 hpm2 hr
 unfold tkc
 go_enter Tryz.func76, Tryz.ntmps76
 go_wp2_with fail
 refine hc.mono ?_
 rintro e' w2 ⟨rfl, ⟨rv2, hR2⟩, _⟩
 clear hc
 obtain ⟨q2, hq2⟩ : ∃ q2, { q with rv := rv2 } = q2 := ⟨_, rfl⟩
 rw [hq2] at hR2
 clear hq2
 obtain ⟨W3, hW3⟩ : ∃ W3, w2.alloc (.cells #[.int .i64 k.k, .string k.t, .int .u16 k.v, .int .i64 k.p.1, .int .i64 k.p.2] 53) = W3 := ⟨_, rfl⟩
 have hB3 : Below w2.heap.size w2 W3 := by rw [<- hW3]; exact (Below.refl _ _).alloc (Nat.le_refl _) _
 have v3 : W3.heap[w2.heap.size]? = some (.cells (tkc k).toArray 53 (0, 0)) := by rw [<- hW3]; exact heap_alloc_new w2 _
 obtain ⟨x0, x1, x2, x3, x4⟩ : W3.cell? ⟨w2.heap.size, 0, none⟩ = some (.int .i64 k.k) /\ W3.cell? ⟨w2.heap.size, 1, none⟩ = some (.string k.t) /\ W3.cell? ⟨w2.heap.size, 2, none⟩ = some (.int .u16 k.v) /\ W3.cell? ⟨w2.heap.size, 3, none⟩ = some (.int .i64 k.p.1) /\ W3.cell? ⟨w2.heap.size, 4, none⟩ = some (.int .i64 k.p.2) := ⟨S.cell_of W3 _ 0 _ 53 _ v3 rfl, S.cell_of W3 _ 1 _ 53 _ v3 rfl, S.cell_of W3 _ 2 _ 53 _ v3 rfl, S.cell_of W3 _ 3 _ 53 _ v3 rfl, S.cell_of W3 _ 4 _ 53 _ v3 rfl⟩
 have hR3 := hR2.next hB3
 obtain ⟨z0, z1, z2, z3, z4⟩ : W3.cell? ⟨W.heap.size, 0, none⟩ = some (.int .i64 t.k) /\ W3.cell? ⟨W.heap.size, 1, none⟩ = some (.string t.t) /\ W3.cell? ⟨W.heap.size, 2, none⟩ = some (.int .u16 t.v) /\ W3.cell? ⟨W.heap.size, 3, none⟩ = some (.int .i64 t.p.1) /\ W3.cell? ⟨W.heap.size, 4, none⟩ = some (.int .i64 t.p.2) := ⟨S.cell_of W3 _ 0 _ 53 _ (HBX.out _ _ _ hR3).1 rfl, S.cell_of W3 _ 1 _ 53 _ (HBX.out _ _ _ hR3).1 rfl, S.cell_of W3 _ 2 _ 53 _ (HBX.out _ _ _ hR3).1 rfl, S.cell_of W3 _ 3 _ 53 _ (HBX.out _ _ _ hR3).1 rfl, S.cell_of W3 _ 4 _ 53 _ (HBX.out _ _ _ hR3).1 rfl⟩
 have HR3 := hid hR3
 clear hR2 hB3 v3 hR3
 have hv2 : decide (t.v <= 16384) = true := by simpa using hv
 replace h1 := isW_no h1
 replace h2 := isW_yes h2
 have hm := must_true t 106 W3
 unfold tkc at hm
 go_wp2_with fail
 refine hm.mono ?_
 rintro e' w9 ⟨rfl, h9⟩
 have HRY := hid (HR3.out.next h9)
 clear HR3 h9 hm x0 x1 x2 x3 x4 z0 z1 z2 z3 z4
 go_upto_region 8 with fail
 have hBd : Below w9.heap.size w9 w9.drew := ⟨rfl, rfl, rfl, Nat.le_refl _, fun _ _ => rfl⟩
 have hR := HRY.out.next hBd
 have HSX := hid (fun (w : World) (r : Rd) (q : Rv) (hR : RC W0 pm2 g e w r q) => show w.cell? ⟨W.heap.size, 2, none⟩ = some (.int .u16 t.v) from S.cell_of w _ 2 _ 53 _ (HBX.out _ _ _ hR).1 rfl)
 have hc := name_any W0 pm2 g e _ _ _ hR hsz
 refine wp_region_held_drew (S := fun wz : World => wz.cell? ⟨W.heap.size, 2, none⟩ = some (.int .u16 t.v)) (by kernel_rfl) (HSX.out _ _ _ hR) (fun hHeld => ?_)
 clear hBd HRY
 generalize w9.drew = y5 at *
 refine D.zH (is := [0, 1, 3, 4]) ?_
 iterate 4
  refine D.yH (v := ?_) rfl (by kernel_rfl) (fun c a w h => h) (by rfl) ?_ hHeld ?_
  rotate_left
  ·(intro w hSw; (try dsimp only at hSw); go_simp; try with_reducible rfl)
  simp only [D.pts]
 refine D.eH ?_
 refine wpAnyH_ready (rs := [2]) (by kernel_rfl) (by simp) ?_
 refine AllReadyH.cons rfl (fun K hK => ?_) AllReadyH.nil
 rw [if_pos (by rfl)]
 go_simp
 refine hc.mono ?_
 intro en y6 h6
 rw [hRES] at h6
 cases RES with
 | error er =>
  obtain ⟨rfl, h7⟩ := h6
  refine ⟨rfl, ?_⟩
  rw [<- HP.out] at h7
  exact roc_er (er := er) rfl h7.sub
 | ok r6 =>
  obtain ⟨rfl, q6, hR6⟩ := h6
  refine hK.out _ _ (HSX.out _ _ _ hR6) (fun hHeld => ?_)
  clear hK K
  try simp only [D.pts]
  have hdf := define_any W0 pm2 g e y6 r6 q6 hR6 3 t.v r6.at_ none 0 [] (NV.nil (.inl rfl)) (by
   obtain ⟨t6, ts6, _, e6, _, hk6⟩ := name_cases hRES
   rw [e6]; exact hk6) (by
   obtain ⟨t6, ts6, _, e6, _⟩ := name_cases hRES
   rw [e6]; exact hdl)
  have hdf2 : Calls Tryz.prog 78 #[.pointer (some ⟨g, 0, none⟩), .int .i64 3, .agg (tkc r6.at_).toArray, .int .u16 t.v, .slice none 0 0] y6 fun en w' => en = .returned (.tuple #[]) /\ ∃ q', RC W0 pm2 g e w' (define 3 r6.at_ t.v [] r6) q' := hdf
  refine wpAnyH_ready (rs := [5]) (by kernel_rfl) (by simp) ?_
  refine AllReadyH.cons rfl (fun K hK => ?_) AllReadyH.nil
  rw [if_pos (by rfl)]
  go_simp
  refine hdf2.mono ?_
  rintro e' y7 ⟨rfl, q7, hR7⟩
  refine hK.out _ _ (HSX.out _ _ _ hR7) (fun hHeld => ?_)
  clear hK K
  try simp only [D.pts]
  refine wpAnyH_done (by kernel_rfl) ?_ _
  have H7 := hid (HBX.out _ _ _ hR7).2
  clear hHeld hR hR6 hR7 hdf hdf2 hc HSX
  go_wp2
  go_end0
  show ROc W0 pm g e (fun _ => .tuple #[]) (Except.ok (define 3 r6.at_ t.v [] r6)) _ _
  exact roc_ok rfl ⟨_, H7.out⟩
set_option maxHeartbeats 4000000
set_option maxRecDepth 100000
open Go.Proofs.YtdnklgceghllaaaGreatDoor.R (lk)
theorem dres_is (k v : Int) (x : Re) : (x >>= fun r => (Except.ok (define k r.at_ v [] r) : Re)) = dres k v x := by
 cases x <;> rfl
theorem numbered_any (W0 : World) (pm : Px) (g : Nat) (e : Ps) (W : World) (r : Rd) (q : Rv) (h : RC W0 pm g e W r q) (t : Tk) (hv0 : 0 <= t.v /\ t.v <= 65535) (hbl : r.banks.length <= 1000000) (hdl : r.defs.length <= 1000000) (hts : Tks r.rest) :
  Calls Tryz.prog 76 #[.pointer (some ⟨g, 0, none⟩), .agg (tkc t).toArray] W (ROc W0 pm g e (fun _ => .tuple #[]) (numbered e t r)) := by
 unfold numbered
 cases hr : r.rest with
 | nil =>
  have : next e r = .error (e, 105) := by unfold next; rw [hr]
  rw [this]
  exact numb_end W0 pm g e W r q h t hv0 hr
 | cons k ts =>
  have : next e r = .ok { r with at_ := k, rest := ts } := by unfold next; rw [hr]
  rw [this]
  rw [hr] at hts
  show Calls _ _ _ _ (ROc W0 pm g e (fun _ => .tuple #[]) (if isW k.t [99, 111, 110, 115, 116, 97, 110, 116] = true then (name e { r with at_ := k, rest := ts } >>= fun r => (Except.ok (define 2 r.at_ t.v [] r) : Re)) else if isW k.t [98, 117, 102, 102, 101, 114] = true then (must (decide (t.v <= 16384)) t 106 >>= fun _ => name e { r with at_ := k, rest := ts } >>= fun r => (Except.ok (define 3 r.at_ t.v [] r) : Re)) else if isW k.t [98, 97, 110, 107] = true then bank e t { r with at_ := k, rest := ts } else .error (k.p, 100)))
  cases h1 : isW k.t [99, 111, 110, 115, 116, 97, 110, 116] with
  | true =>
   rw [if_pos rfl, dres_is]
   exact numb_const W0 pm g e W r q h t hv0 k ts hr h1 hts.tail.size hdl _ rfl
  | false =>
   rw [if_neg (show ¬ (false = true) by decide)]
   cases h2 : isW k.t [98, 117, 102, 102, 101, 114] with
   | true =>
    rw [if_pos rfl, dres_is]
    by_cases hv : t.v <= 16384
    ·rw [decide_eq_true hv]
     exact numb_buf W0 pm g e W r q h t hv0 k ts hr h1 h2 hv hts.tail.size hdl _ rfl
    ·rw [decide_eq_false hv]
     exact numb_val W0 pm g e W r q h t hv0 k ts hr h1 h2 hv
   | false =>
    rw [if_neg (show ¬ (false = true) by decide)]
    cases h3 : isW k.t [98, 97, 110, 107] with
    | true =>
     rw [if_pos rfl]
     exact numb_bank W0 pm g e W r q h t hv0 k ts hr h1 h2 h3 hbl hts.tail _ rfl
    | false =>
     rw [if_neg (show ¬ (false = true) by decide)]
     exact numb_top W0 pm g e W r q h t hv0 k ts hr h1 h2 h3
theorem item_end (W0 : World) (pm : Px) (g : Nat) (e : Ps) (W : World) (r : Rd) (q : Rv) (h : RC W0 pm g e W r q) (hr : r.rest = []) :
  Calls Tryz.prog 44 #[.pointer (some ⟨g, 0, none⟩)] W (ROc W0 pm g e (fun _ => .tuple #[]) (.error (e, 105))) := by
 have hc := next_no W0 pm g e W r q h hr
 have HE := hid h
 clear h hr
 go_enter Tryz.func44, Tryz.ntmps44
 go_wp2_with fail
 refine hc.mono ?_
 rintro e' w1 ⟨rfl, hb1⟩
 exact ⟨rfl, roc_er rfl (HE.out.err hb1)⟩
theorem item_num (W0 : World) (pm : Px) (g : Nat) (e : Ps) (W : World) (r : Rd) (q : Rv) (h : RC W0 pm g e W r q) (t : Tk) (ts : List Tk) (hr : r.rest = t :: ts) (hk : (t.k == 2) = true) (hbl : r.banks.length <= 1000000) (hdl : r.defs.length <= 1000000) (hts : Tks (t :: ts)) (hl : ts.length <= 1000000) (res : Re) (hres : numbered e t { r with at_ := t, rest := ts } = res) :
  Calls Tryz.prog 44 #[.pointer (some ⟨g, 0, none⟩)] W (ROc W0 pm g e (fun _ => .tuple #[]) (res)) := by
 have hc := next_c W0 pm g e W r q h t ts hr
 unfold tkc at hc
 clear h hr
 go_enter Tryz.func44, Tryz.ntmps44
 go_wp2_with fail
 refine hc.mono ?_
 rintro e' w2 ⟨rfl, ⟨rv2, hR2⟩, _⟩
 clear hc
 obtain ⟨q2, hq2⟩ : ∃ q2, { q with rv := rv2 } = q2 := ⟨_, rfl⟩
 rw [hq2] at hR2
 clear hq2
 obtain ⟨W3, hW3⟩ : ∃ W3, w2.alloc (.cells #[.int .i64 t.k, .string t.t, .int .u16 t.v, .int .i64 t.p.1, .int .i64 t.p.2] 53) = W3 := ⟨_, rfl⟩
 have hB3 : Below w2.heap.size w2 W3 := by rw [<- hW3]; exact (Below.refl _ _).alloc (Nat.le_refl _) _
 have v3 : W3.heap[w2.heap.size]? = some (.cells (tkc t).toArray 53 (0, 0)) := by rw [<- hW3]; exact heap_alloc_new w2 _
 obtain ⟨x0, x1, x2, x3, x4⟩ : W3.cell? ⟨w2.heap.size, 0, none⟩ = some (.int .i64 t.k) /\ W3.cell? ⟨w2.heap.size, 1, none⟩ = some (.string t.t) /\ W3.cell? ⟨w2.heap.size, 2, none⟩ = some (.int .u16 t.v) /\ W3.cell? ⟨w2.heap.size, 3, none⟩ = some (.int .i64 t.p.1) /\ W3.cell? ⟨w2.heap.size, 4, none⟩ = some (.int .i64 t.p.2) := ⟨S.cell_of W3 _ 0 _ 53 _ v3 rfl, S.cell_of W3 _ 1 _ 53 _ v3 rfl, S.cell_of W3 _ 2 _ 53 _ v3 rfl, S.cell_of W3 _ 3 _ 53 _ v3 rfl, S.cell_of W3 _ 4 _ 53 _ v3 rfl⟩
 have HR3 := hid (hR2.next hB3)
 clear hR2 hB3 v3
 have hcall := numbered_any W0 pm g e W3 _ q2 HR3.out t (hts.val t (List.mem_cons_self ..)) hbl hdl hts.tail
 rw [hres] at hcall
 unfold tkc at hcall
 clear hres HR3 hts
 go_wp2_with fail
 refine hcall.mono ?_
 intro en w9 h9
 cases res with
 | ok r' =>
  obtain ⟨rfl, h1⟩ := h9
  have H1 := hid h1
  clear h1 hcall
  go_wp2
  go_end0
  exact roc_ok rfl H1.out
 | error er =>
  obtain ⟨rfl, h1⟩ := h9
  exact ⟨rfl, roc_er rfl h1⟩
theorem item_word (W0 : World) (pm : Px) (g : Nat) (e : Ps) (W : World) (r : Rd) (q : Rv) (h : RC W0 pm g e W r q) (t : Tk) (ts : List Tk) (hr : r.rest = t :: ts) (hk : (t.k == 2) = false) (h1 : isW t.t [58] = true) (hbl : r.banks.length <= 1000000) (hdl : r.defs.length <= 1000000) (hts : Tks (t :: ts)) (hl : ts.length <= 1000000) (res : Re) (hres : word (lk pm.m) e { r with at_ := t, rest := ts } = res) :
  Calls Tryz.prog 44 #[.pointer (some ⟨g, 0, none⟩)] W (ROc W0 pm g e (fun _ => .tuple #[]) (res)) := by
 have hc := next_c W0 pm g e W r q h t ts hr
 unfold tkc at hc
 clear h hr
 go_enter Tryz.func44, Tryz.ntmps44
 go_wp2_with fail
 refine hc.mono ?_
 rintro e' w2 ⟨rfl, ⟨rv2, hR2⟩, _⟩
 clear hc
 obtain ⟨q2, hq2⟩ : ∃ q2, { q with rv := rv2 } = q2 := ⟨_, rfl⟩
 rw [hq2] at hR2
 clear hq2
 obtain ⟨W3, hW3⟩ : ∃ W3, w2.alloc (.cells #[.int .i64 t.k, .string t.t, .int .u16 t.v, .int .i64 t.p.1, .int .i64 t.p.2] 53) = W3 := ⟨_, rfl⟩
 have hB3 : Below w2.heap.size w2 W3 := by rw [<- hW3]; exact (Below.refl _ _).alloc (Nat.le_refl _) _
 have v3 : W3.heap[w2.heap.size]? = some (.cells (tkc t).toArray 53 (0, 0)) := by rw [<- hW3]; exact heap_alloc_new w2 _
 obtain ⟨x0, x1, x2, x3, x4⟩ : W3.cell? ⟨w2.heap.size, 0, none⟩ = some (.int .i64 t.k) /\ W3.cell? ⟨w2.heap.size, 1, none⟩ = some (.string t.t) /\ W3.cell? ⟨w2.heap.size, 2, none⟩ = some (.int .u16 t.v) /\ W3.cell? ⟨w2.heap.size, 3, none⟩ = some (.int .i64 t.p.1) /\ W3.cell? ⟨w2.heap.size, 4, none⟩ = some (.int .i64 t.p.2) := ⟨S.cell_of W3 _ 0 _ 53 _ v3 rfl, S.cell_of W3 _ 1 _ 53 _ v3 rfl, S.cell_of W3 _ 2 _ 53 _ v3 rfl, S.cell_of W3 _ 3 _ 53 _ v3 rfl, S.cell_of W3 _ 4 _ 53 _ v3 rfl⟩
 have HR3 := hid (hR2.next hB3)
 clear hR2 hB3 v3
 have hcall := word_any W0 pm g e W3 _ q2 HR3.out hts.tail.size hl hdl
 rw [hres] at hcall
 replace h1 := isW_yes h1
 clear hres HR3 hts
 go_wp2_with fail
 refine hcall.mono ?_
 intro en w9 h9
 cases res with
 | ok r' =>
  obtain ⟨rfl, h1⟩ := h9
  have H1 := hid h1
  clear h1 hcall
  go_wp2
  go_end0
  exact roc_ok rfl H1.out
 | error er =>
  obtain ⟨rfl, h1⟩ := h9
  exact ⟨rfl, roc_er rfl h1⟩
theorem item_top (W0 : World) (pm : Px) (g : Nat) (e : Ps) (W : World) (r : Rd) (q : Rv) (h : RC W0 pm g e W r q) (t : Tk) (ts : List Tk) (hr : r.rest = t :: ts) (hk : (t.k == 2) = false) (h1 : isW t.t [58] = false) (h2 : isW t.t [118, 97, 114, 105, 97, 98, 108, 101] = false) :
  Calls Tryz.prog 44 #[.pointer (some ⟨g, 0, none⟩)] W (ROc W0 pm g e (fun _ => .tuple #[]) (.error (t.p, 100))) := by
 have hc := next_c W0 pm g e W r q h t ts hr
 unfold tkc at hc
 clear h hr
 go_enter Tryz.func44, Tryz.ntmps44
 go_wp2_with fail
 refine hc.mono ?_
 rintro e' w2 ⟨rfl, ⟨rv2, hR2⟩, _⟩
 clear hc
 obtain ⟨q2, hq2⟩ : ∃ q2, { q with rv := rv2 } = q2 := ⟨_, rfl⟩
 rw [hq2] at hR2
 clear hq2
 obtain ⟨W3, hW3⟩ : ∃ W3, w2.alloc (.cells #[.int .i64 t.k, .string t.t, .int .u16 t.v, .int .i64 t.p.1, .int .i64 t.p.2] 53) = W3 := ⟨_, rfl⟩
 have hB3 : Below w2.heap.size w2 W3 := by rw [<- hW3]; exact (Below.refl _ _).alloc (Nat.le_refl _) _
 have v3 : W3.heap[w2.heap.size]? = some (.cells (tkc t).toArray 53 (0, 0)) := by rw [<- hW3]; exact heap_alloc_new w2 _
 obtain ⟨x0, x1, x2, x3, x4⟩ : W3.cell? ⟨w2.heap.size, 0, none⟩ = some (.int .i64 t.k) /\ W3.cell? ⟨w2.heap.size, 1, none⟩ = some (.string t.t) /\ W3.cell? ⟨w2.heap.size, 2, none⟩ = some (.int .u16 t.v) /\ W3.cell? ⟨w2.heap.size, 3, none⟩ = some (.int .i64 t.p.1) /\ W3.cell? ⟨w2.heap.size, 4, none⟩ = some (.int .i64 t.p.2) := ⟨S.cell_of W3 _ 0 _ 53 _ v3 rfl, S.cell_of W3 _ 1 _ 53 _ v3 rfl, S.cell_of W3 _ 2 _ 53 _ v3 rfl, S.cell_of W3 _ 3 _ 53 _ v3 rfl, S.cell_of W3 _ 4 _ 53 _ v3 rfl⟩
 have HR3 := hid (hR2.next hB3)
 clear hR2 hB3 v3
 replace h1 := isW_no h1
 replace h2 := isW_no h2
 have hm := must_false t 100 W3
 unfold tkc at hm
 go_wp2_with fail
 refine hm.mono ?_
 rintro e' w9 ⟨rfl, h9⟩
 exact ⟨rfl, roc_er rfl (HR3.out.err h9)⟩
theorem item_var (W0 : World) (pm : Px) (g : Nat) (e : Ps) (W : World) (r : Rd) (q : Rv) (h : RC W0 pm g e W r q) (t : Tk) (ts : List Tk) (hr : r.rest = t :: ts) (hk : (t.k == 2) = false) (h1 : isW t.t [58] = false) (h2 : isW t.t [118, 97, 114, 105, 97, 98, 108, 101] = true) (hbl : r.banks.length <= 1000000) (hdl : r.defs.length <= 1000000) (hts : Tks (t :: ts)) (hl : ts.length <= 1000000) (RES : Re) (hRES : name e { r with at_ := t, rest := ts } = RES) :
  Calls Tryz.prog 44 #[.pointer (some ⟨g, 0, none⟩)] W (ROc W0 pm g e (fun _ => .tuple #[]) (dres 3 2 RES)) := by
 have hc := next_c W0 pm g e W r q h t ts hr
 unfold tkc at hc
 clear h hr
 go_enter Tryz.func44, Tryz.ntmps44
 go_wp2_with fail
 refine hc.mono ?_
 rintro e' w2 ⟨rfl, ⟨rv2, hR2⟩, _⟩
 clear hc
 obtain ⟨q2, hq2⟩ : ∃ q2, { q with rv := rv2 } = q2 := ⟨_, rfl⟩
 rw [hq2] at hR2
 clear hq2
 obtain ⟨W3, hW3⟩ : ∃ W3, w2.alloc (.cells #[.int .i64 t.k, .string t.t, .int .u16 t.v, .int .i64 t.p.1, .int .i64 t.p.2] 53) = W3 := ⟨_, rfl⟩
 have hB3 : Below w2.heap.size w2 W3 := by rw [<- hW3]; exact (Below.refl _ _).alloc (Nat.le_refl _) _
 have v3 : W3.heap[w2.heap.size]? = some (.cells (tkc t).toArray 53 (0, 0)) := by rw [<- hW3]; exact heap_alloc_new w2 _
 obtain ⟨x0, x1, x2, x3, x4⟩ : W3.cell? ⟨w2.heap.size, 0, none⟩ = some (.int .i64 t.k) /\ W3.cell? ⟨w2.heap.size, 1, none⟩ = some (.string t.t) /\ W3.cell? ⟨w2.heap.size, 2, none⟩ = some (.int .u16 t.v) /\ W3.cell? ⟨w2.heap.size, 3, none⟩ = some (.int .i64 t.p.1) /\ W3.cell? ⟨w2.heap.size, 4, none⟩ = some (.int .i64 t.p.2) := ⟨S.cell_of W3 _ 0 _ 53 _ v3 rfl, S.cell_of W3 _ 1 _ 53 _ v3 rfl, S.cell_of W3 _ 2 _ 53 _ v3 rfl, S.cell_of W3 _ 3 _ 53 _ v3 rfl, S.cell_of W3 _ 4 _ 53 _ v3 rfl⟩
 have HR3 := hid (hR2.next hB3)
 clear hR2 hB3 v3
 replace h1 := isW_no h1
 replace h2 := isW_yes h2
 have hc := name_any W0 pm g e W3 _ q2 HR3.out hts.tail.size
 rw [hRES] at hc
 go_wp2_with fail
 refine hc.mono ?_
 intro en y6 h6
 cases RES with
 | error er =>
  obtain ⟨rfl, h7⟩ := h6
  exact ⟨rfl, roc_er (er := er) rfl h7⟩
 | ok r6 =>
  obtain ⟨rfl, q6, hR6⟩ := h6
  have hdf := define_any W0 pm g e y6 r6 q6 hR6 3 2 r6.at_ none 0 [] (NV.nil (.inl rfl)) (by
   obtain ⟨t6, ts6, _, e6, _, hk6⟩ := name_cases hRES
   rw [e6]; exact hk6) (by
   obtain ⟨t6, ts6, _, e6, _⟩ := name_cases hRES
   rw [e6]; exact hdl)
  have hdf2 : Calls Tryz.prog 78 #[.pointer (some ⟨g, 0, none⟩), .int .i64 3, .agg (tkc r6.at_).toArray, .int .u16 2, .slice none 0 0] y6 fun en w' => en = .returned (.tuple #[]) /\ ∃ q', RC W0 pm g e w' (define 3 r6.at_ 2 [] r6) q' := hdf
  unfold tkc at hdf2 ⊢
  clear hdf hc hRES HR3 hts x0 x1 x2 x3 x4 hR6
  go_wp2_with fail
  refine hdf2.mono ?_
  rintro e' y7 ⟨rfl, h7⟩
  have H7 := hid h7
  clear h7 hdf2
  go_wp2
  go_end0
  exact roc_ok (r := define 3 r6.at_ 2 [] r6) rfl H7.out
theorem item_any (W0 : World) (pm : Px) (g : Nat) (e : Ps) (W : World) (r : Rd) (q : Rv) (h : RC W0 pm g e W r q) (hbl : r.banks.length <= 1000000) (hdl : r.defs.length <= 1000000) (hts : Tks r.rest) (hl : r.rest.length <= 1000000) :
  Calls Tryz.prog 44 #[.pointer (some ⟨g, 0, none⟩)] W (ROc W0 pm g e (fun _ => .tuple #[]) (item (lk pm.m) e r)) := by
 unfold item
 cases hr : r.rest with
 | nil =>
  have : next e r = .error (e, 105) := by unfold next; rw [hr]
  rw [this]
  exact item_end W0 pm g e W r q h hr
 | cons t ts =>
  have : next e r = .ok { r with at_ := t, rest := ts } := by unfold next; rw [hr]
  rw [this]
  rw [hr] at hts hl
  have hl2 : ts.length <= 1000000 := by simp only [List.length_cons] at hl; omega
  show Calls _ _ _ _ (ROc W0 pm g e (fun _ => .tuple #[]) (if (t.k == 2) = true then numbered e t { r with at_ := t, rest := ts } else if isW t.t [58] = true then word (lk pm.m) e { r with at_ := t, rest := ts } else if isW t.t [118, 97, 114, 105, 97, 98, 108, 101] = true then (name e { r with at_ := t, rest := ts } >>= fun r => (Except.ok (define 3 r.at_ 2 [] r) : Re)) else .error (t.p, 100)))
  cases hk : (t.k == 2) with
  | true =>
   rw [if_pos rfl]
   exact item_num W0 pm g e W r q h t ts hr hk hbl hdl hts hl2 _ rfl
  | false =>
   rw [if_neg (show ¬ (false = true) by decide)]
   cases h1 : isW t.t [58] with
   | true =>
    rw [if_pos rfl]
    exact item_word W0 pm g e W r q h t ts hr hk h1 hbl hdl hts hl2 _ rfl
   | false =>
    rw [if_neg (show ¬ (false = true) by decide)]
    cases h2 : isW t.t [118, 97, 114, 105, 97, 98, 108, 101] with
    | true =>
     rw [if_pos rfl, dres_is]
     exact item_var W0 pm g e W r q h t ts hr hk h1 h2 hbl hdl hts hl2 _ rfl
    | false =>
     rw [if_neg (show ¬ (false = true) by decide)]
     exact item_top W0 pm g e W r q h t ts hr hk h1 h2
open Go.Proofs.YtdnklgceghllaaaGreatDoor.Y (Nd Df Ps e0)
set_option linter.unusedVariables false
set_option linter.unusedSimpArgs false
structure Stp (r r' : Rd) : Prop where
 suf : ∃ l, r.rest = l ++ r'.rest
 cnt : r'.banks.length + r'.defs.length <= r.banks.length + r.defs.length + 1
 nod : (r.banks.map (·.1)).Nodup -> (r'.banks.map (·.1)).Nodup
theorem dataN_kp (e : Ps) : ∀ (n : Nat) (d : List UInt8) (r : Rd) (d' : List UInt8) (r' : Rd), dataN e n d r = .ok (d', r') -> r'.defs = r.defs /\ r'.banks = r.banks /\ ∃ l, r.rest = l ++ r'.rest
 | 0, d, r, d', r', h => by
  have := Except.ok.inj h
  simp only [Prod.mk.injEq] at this
  obtain ⟨_, rfl⟩ := this
  exact ⟨rfl, rfl, [], rfl⟩
 | n + 1, d, r, d', r', h => by
  cases h1 : next e r with
  | error er => rw [dataN_er e n d r er h1] at h; cases h
  | ok r1 =>
   rw [dataN_tl e n d r r1 h1] at h
   obtain ⟨t, ts, ht, rfl⟩ := next_cases h1
   cases hw : isW t.t [125] with
   | true =>
    rw [tl_end e n d { r with at_ := t, rest := ts } hw] at h
    have := Except.ok.inj h
    simp only [Prod.mk.injEq] at this
    obtain ⟨_, rfl⟩ := this
    exact ⟨rfl, rfl, [t], ht⟩
   | false =>
    cases hb : (t.k == 2 && decide (t.v <= 255) && decide (d.length < 16384)) with
    | false => rw [tl_bad e n d { r with at_ := t, rest := ts } hw hb] at h; cases h
    | true =>
     rw [tl_go e n d { r with at_ := t, rest := ts } hw hb] at h
     obtain ⟨a, b, l, c⟩ := dataN_kp e n _ _ d' r' h
     exact ⟨a, b, t :: l, by rw [ht, List.cons_append, <- c]⟩
theorem dres_stp (e : Ps) (k v : Int) (r r' : Rd) (h : dres k v (name e r) = .ok r') : Stp r r' := by
 cases hn : name e r with
 | error er => rw [hn] at h; cases h
 | ok r1 =>
  rw [hn] at h
  obtain ⟨t, ts, ht, rfl, _⟩ := name_cases hn
  obtain rfl := Except.ok.inj h
  exact ⟨⟨[t], ht⟩, by show r.banks.length + (r.defs ++ [_]).length <= _; simp only [List.length_append, List.length_cons, List.length_nil]; omega, fun hh => hh⟩
theorem word_stp (pr : ByteArray -> Option Int) (e : Ps) (r r' : Rd) (h : word pr e r = .ok r') : Stp r r' := by
 cases hn : name e r with
 | error er => rw [word_err pr e r er hn] at h; cases h
 | ok r1 =>
  rw [word_is pr e r r1 hn] at h
  obtain ⟨t, ts, ht, rfl, _⟩ := name_cases hn
  cases hb : bodyN pr e (ts.length + 1) { r with at_ := t, rest := ts, body := [], opn := [], ended := false } with
  | error er =>
   have h' : wres t (bodyN pr e (ts.length + 1) { r with at_ := t, rest := ts, body := [], opn := [], ended := false }) = .ok r' := h
   rw [hb] at h'; cases h'
  | ok rb =>
   have h' : wres t (bodyN pr e (ts.length + 1) { r with at_ := t, rest := ts, body := [], opn := [], ended := false }) = .ok r' := h
   rw [hb] at h'
   obtain rfl := Except.ok.inj h'
   obtain ⟨a, b, c, l, d⟩ := bodyN_kp pr e _ _ rb 0 ⟨Nat.le_refl _, Nat.le_refl _, fun n hn => by simp at hn⟩ hb
   have a' : rb.defs = r.defs := a
   have b' : rb.banks = r.banks := b
   have d' : ts = l ++ rb.rest := d
   refine ⟨⟨t :: l, by show r.rest = t :: l ++ rb.rest; rw [ht, List.cons_append, <- d']⟩, ?_, ?_⟩
   ·show rb.banks.length + (rb.defs ++ [_]).length <= _
    rw [a', b']
    simp only [List.length_append, List.length_cons, List.length_nil]; omega
   ·show _ -> (rb.banks.map _).Nodup
    rw [b']; exact fun hh => hh
theorem bank_stp (e : Ps) (num : Tk) (r r' : Rd) (h : bank e num r = .ok r') : Stp r r' := by
 obtain ⟨h1, h2⟩ := must_ok h
 obtain ⟨h3, h4⟩ := must_ok h2
 cases hn : next e r with
 | error er => rw [hn] at h4; cases h4
 | ok r1 =>
  rw [hn] at h4
  obtain ⟨t, ts, ht, rfl⟩ := next_cases hn
  obtain ⟨h5, h6⟩ := must_ok h4
  have h7 : (dataN e (ts.length + 1) [] { r with at_ := t, rest := ts } >>= fun x => (Except.ok { x.2 with banks := x.2.banks ++ [(num.v, x.1)] } : Re)) = .ok r' := h6
  cases hd : dataN e (ts.length + 1) [] { r with at_ := t, rest := ts } with
  | error er => rw [hd] at h7; cases h7
  | ok x =>
   rw [hd] at h7
   obtain ⟨d, rb⟩ := x
   obtain rfl := Except.ok.inj h7
   obtain ⟨a, b, l, c⟩ := dataN_kp e _ _ _ d rb hd
   have a' : rb.defs = r.defs := a
   have b' : rb.banks = r.banks := b
   have c' : ts = l ++ rb.rest := c
   refine ⟨⟨t :: l, by show r.rest = t :: l ++ rb.rest; rw [ht, List.cons_append, <- c']⟩, ?_, ?_⟩
   ·show (rb.banks ++ [_]).length + rb.defs.length <= _
    rw [a', b']
    simp only [List.length_append, List.length_cons, List.length_nil]; omega
   ·show _ -> ((rb.banks ++ [(num.v, d)]).map _).Nodup
    rw [b']
    intro hh
    rw [List.map_append, List.nodup_append]
    refine ⟨hh, by simp, fun x hx y hy => ?_⟩
    simp only [List.map_cons, List.map_nil, List.mem_singleton] at hy
    subst hy
    rintro rfl
    obtain ⟨b0, hb0, e0⟩ := List.mem_map.1 hx
    have h8 : (r.banks.any fun b => b.1 == num.v) = false := by simpa using h3
    rw [List.any_eq_false] at h8
    exact h8 b0 hb0 (by simpa using e0)
theorem Stp.cons {r r' : Rd} {t : Tk} {ts : List Tk} (ht : r.rest = t :: ts) (h : Stp { r with at_ := t, rest := ts } r') : Stp r r' := by
 obtain ⟨⟨l, h1⟩, h2, h3⟩ := h
 have h1' : ts = l ++ r'.rest := h1
 exact ⟨⟨t :: l, by rw [ht, List.cons_append, <- h1']⟩, h2, h3⟩
theorem numbered_stp (e : Ps) (num : Tk) (r r' : Rd) (h : numbered e num r = .ok r') : Stp r r' := by
 unfold numbered at h
 cases hn : next e r with
 | error er => rw [hn] at h; cases h
 | ok r1 =>
  rw [hn] at h
  obtain ⟨t, ts, ht, rfl⟩ := next_cases hn
  refine Stp.cons ht ?_
  have h' : (if isW t.t [99, 111, 110, 115, 116, 97, 110, 116] = true then (name e { r with at_ := t, rest := ts } >>= fun r => (Except.ok (define 2 r.at_ num.v [] r) : Re)) else if isW t.t [98, 117, 102, 102, 101, 114] = true then (must (decide (num.v <= 16384)) num 106 >>= fun _ => name e { r with at_ := t, rest := ts } >>= fun r => (Except.ok (define 3 r.at_ num.v [] r) : Re)) else if isW t.t [98, 97, 110, 107] = true then bank e num { r with at_ := t, rest := ts } else .error (t.p, 100)) = .ok r' := h
  split at h'
  ·rw [dres_is] at h'; exact dres_stp e 2 num.v _ _ h'
  split at h'
  ·obtain ⟨_, h8⟩ := must_ok h'
   rw [dres_is] at h8; exact dres_stp e 3 num.v _ _ h8
  split at h'
  ·exact bank_stp e num _ _ h'
  ·cases h'
theorem item_stp (pr : ByteArray -> Option Int) (e : Ps) (r r' : Rd) (h : item pr e r = .ok r') : Stp r r' /\ r'.rest.length < r.rest.length := by
 unfold item at h
 cases hn : next e r with
 | error er => rw [hn] at h; cases h
 | ok r1 =>
  rw [hn] at h
  obtain ⟨t, ts, ht, rfl⟩ := next_cases hn
  have key : Stp { r with at_ := t, rest := ts } r' := by
   have h' : (if (t.k == 2) = true then numbered e t { r with at_ := t, rest := ts } else if isW t.t [58] = true then word pr e { r with at_ := t, rest := ts } else if isW t.t [118, 97, 114, 105, 97, 98, 108, 101] = true then (name e { r with at_ := t, rest := ts } >>= fun r => (Except.ok (define 3 r.at_ 2 [] r) : Re)) else .error (t.p, 100)) = .ok r' := h
   split at h'
   ·exact numbered_stp e t _ _ h'
   split at h'
   ·exact word_stp pr e _ _ h'
   split at h'
   ·rw [dres_is] at h'; exact dres_stp e 3 2 _ _ h'
   ·cases h'
  refine ⟨Stp.cons ht key, ?_⟩
  obtain ⟨⟨l, hl⟩, _⟩ := key
  have hl' : ts = l ++ r'.rest := hl
  rw [ht, hl']
  simp
  omega
structure IV (T : Nat) (r : Rd) : Prop where
 len : r.banks.length + r.defs.length + r.rest.length <= T
 nod : (r.banks.map (·.1)).Nodup
 tks : Tks r.rest
theorem Tks.suf {l m : List Tk} (h : Tks (l ++ m)) : Tks m := ⟨fun t ht => h.size t (List.mem_append_right _ ht), fun t ht => h.val t (List.mem_append_right _ ht)⟩
theorem IV.item {T : Nat} {pr : ByteArray -> Option Int} {e : Ps} {r r' : Rd} (h : IV T r) (hi : item pr e r = .ok r') : IV T r' := by
 obtain ⟨s, hl⟩ := item_stp pr e r r' hi
 refine ⟨by have := s.cnt; have := h.len; omega, s.nod h.nod, ?_⟩
 obtain ⟨l, hs⟩ := s.suf
 have := h.tks
 rw [hs] at this
 exact this.suf
end Go.Proofs.YtdnklgceghllaaaGreatDoor.D
