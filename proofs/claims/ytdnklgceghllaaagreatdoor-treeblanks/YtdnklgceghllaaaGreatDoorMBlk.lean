import Derived.Test.YtdnklgceghllaaaGreatDoorRows
import Derived.ProofKit
import Derived.OpenShut
import Derived.ChangeOld
import Derived.WalkKit
import Derived.Laws.BytesArg
import Derived.Test.YtdnklgceghllaaaGreatDoorDDrop
import Derived.Test.YtdnklgceghllaaaGreatDoorMGap
import Derived.Test.YtdnklgceghllaaaGreatDoorMEq
import Derived.Lib.ConvBytes
import Derived.Lib.AtoiErrMem
namespace Go.Proofs.YtdnklgceghllaaaGreatDoor.S
theorem Cs.below {W W' : World} {u : Value} {s n : Nat} {xs : List Value} (h : Cs W u s n xs) (b : Go.RowKit.Below W.heap.size W W') : Cs W' u s n xs := by
 rcases h with h | ⟨ad, c, e1, e2, e3, e4⟩
 ·exact .inl h
 ·exact .inr ⟨ad, c, e1, e2, fun j v hj => by have e := e3 j v hj; rw [b.cell (World.block_lt_of_cell? W _ e)]; exact e, e4⟩
end Go.Proofs.YtdnklgceghllaaaGreatDoor.S
namespace Go.Proofs.YtdnklgceghllaaaGreatDoor.M
open Go.RowKit
open Go.Proofs
open Go.Proofs.YtdnklgceghllaaaGreatDoor.K (Tk ans Sep Gd)
open Go.Proofs.YtdnklgceghllaaaGreatDoor.Y (Nd Df Ps Bk DV BV hid)
open Go.Proofs.YtdnklgceghllaaaGreatDoor.D (RdO New Er tkc wp_region_drop wpD_ready wpD_done)
set_option linter.unusedVariables false
set_option linter.unusedSimpArgs false
set_option maxHeartbeats 4000000
set_option maxRecDepth 100000
def IG (w : World) (p : Option Addr) (n : Nat) : Prop := ∀ i, i < n -> ∃ b o z, p = some ⟨b, o, none⟩ /\ w.cell? ⟨b, o + i, none⟩ = some (.int .i64 z) /\ (IntKind.min .i64 <= z /\ z <= IntKind.max .i64)
theorem IG.below {w w' : World} {p : Option Addr} {n : Nat} (h : IG w p n) (k : Below w.heap.size w w') : IG w' p n := fun i hi => by
 obtain ⟨b, o, z, e, hc, hz⟩ := h i hi
 refine ⟨b, o, z, e, ?_, hz⟩
 rw [k.cell (World.block_lt_of_cell? w _ hc)]
 exact hc
def TW (w : World) (p : Option Addr) (ts : List Tk) : Prop := ∀ (i : Nat) t, ts[i]? = some t -> ∃ b o, p = some ⟨b, o, none⟩ /\ w.cell? ⟨b, o + i * 5 + 1, none⟩ = some (.string t.t)
theorem TW.below {w w' : World} {p : Option Addr} {ts : List Tk} (h : TW w p ts) (k : Below w.heap.size w w') : TW w' p ts := fun i t hi => by
 obtain ⟨b, o, e, hc⟩ := h i t hi
 refine ⟨b, o, e, ?_⟩
 rw [k.cell (World.block_lt_of_cell? w _ hc)]
 exact hc
theorem bytes_cs (w : World) (s : ByteArray) : S.Cs (Lib.bytesWorld w 5 s) (.slice (some ⟨w.heap.size, 0, none⟩) s.size (grownCap w s.size 0 5)) 1 s.size (bz s.data.toList) := by
 have hl : s.data.toList.length = s.size := by rw [Array.length_toList]; rfl
 refine .inr ⟨_, _, rfl, by rw [bz_len, hl, Nat.mul_one], fun j v hj => ?_, fun v hv => ?_⟩
 ·unfold bz at hj
  rw [List.getElem?_map] at hj
  cases hx : s.data.toList[j]? with
  | none => rw [hx] at hj; cases hj
  | some x =>
   rw [hx] at hj
   simp only [Option.map_some, Option.some.injEq] at hj
   subst hj
   have hjl := (List.getElem?_eq_some_iff.1 hx).1
   have h6 := Lib.bytesWorld_cell w 5 s j (by omega)
   rw [Addr.add_lit, Nat.zero_add, h6]
   congr 2
   rw [List.getD_eq_getElem?_getD, hx]
   rfl
 ·unfold bz at hv
  obtain ⟨x, _, rfl⟩ := List.mem_map.1 hv
  rfl
theorem conv_bytes (w : World) (s : ByteArray) : (convert 9 50 (.string s)).run Tryz.prog w = .ok (.slice (some ⟨w.heap.size, 0, none⟩) s.size (grownCap w s.size 0 5)) (Lib.bytesWorld w 5 s) :=
 Lib.run_convert_string_bytes w 9 50 5 s (u := .string) Tryz.underlying9 Tryz.underlying50 Tryz.underlying5
theorem conv_text {W : World} {B : Nat} {v : Value} {l : List UInt8} (h : W.ownsRow B 5 1 v l.length (bz l)) : (convert 50 9 v).run Tryz.prog W = .ok (.string ⟨l.toArray⟩) W :=
 (Y.own_bs (O := fun _ => True) (l := l) (by rw [en_bz]; exact h) (fun _ _ => trivial)).conv
structure TX (w : World) (B : Nat) (ws : List (List UInt8)) (v : Value) (k : Nat) (l : List UInt8) : Prop where
 row : w.ownsRow B 5 1 v l.length (bz l)
 few : l.length <= k * 47
 txt : ∃ gs : List (List UInt8), gs.length = k /\ (∀ g ∈ gs, Sep g) /\ l = Pf (gs.zip (ws.take k))
theorem cs_kept {w w' : World} {g m c s : Nat} {xs : List Value} (h : S.Cs w (.slice (some ⟨g, 0, none⟩) m c) s m xs) (k : w'.heap[g]? = w.heap[g]?) : S.Cs w' (.slice (some ⟨g, 0, none⟩) m c) s m xs := by
 rcases h with ⟨e, _⟩ | ⟨ad, c', e, h1, h2, h3⟩
 ·cases e
 ·cases e
  refine .inr ⟨_, _, rfl, h1, fun j v hj => ?_, h3⟩
  have := h2 j v hj
  rw [Addr.add_lit] at this ⊢
  exact (World.cell?_of_block (w := w) (a := ⟨g, 0 + j, none⟩) k).trans this
theorem tx_step {w w' : World} {B k : Nat} {ws : List (List UInt8)} {v v' : Value} {l : List UInt8} {G tt : ByteArray} (h : TX w B ws v k l) (hs : Sep G.data.toList) (hG : G.size <= 16) (ht : tt.size <= 31) (hw : ws.take (k + 1) = ws.take k ++ [tt.data.toList]) (hr : w'.ownsRow B 5 1 v' (l.length + G.size + tt.size) (bz l ++ bz G.data.toList ++ bz tt.data.toList)) : TX w' B ws v' (k + 1) (l ++ (G.data.toList ++ tt.data.toList)) := by
 have htl : tt.data.toList.length = tt.size := by rw [Array.length_toList]; rfl
 have hGl : G.data.toList.length = G.size := by rw [Array.length_toList]; rfl
 obtain ⟨gs, g1, g2, g3⟩ := h.txt
 have hlen : (ws.take k).length = k := by
  have := congrArg List.length hw
  rw [List.length_append, List.length_take, List.length_take, List.length_singleton] at this
  rw [List.length_take]
  omega
 refine ⟨?_, ?_, gs ++ [G.data.toList], by simp [g1], ?_, ?_⟩
 ·have e1 : (l ++ (G.data.toList ++ tt.data.toList)).length = l.length + G.size + tt.size := by simp only [List.length_append]; omega
  have e2 : bz (l ++ (G.data.toList ++ tt.data.toList)) = bz l ++ bz G.data.toList ++ bz tt.data.toList := by rw [bz_app, bz_app, List.append_assoc]
  rw [e1, e2]
  exact hr
 ·have := h.few
  simp only [List.length_append]
  omega
 ·intro g hg
  rcases List.mem_append.1 hg with hg | hg
  ·exact g2 g hg
  ·rw [List.mem_singleton] at hg
   rw [hg]
   exact hs
 ·rw [hw, List.zip_append (by rw [g1, hlen]), pf_app, <- g3]
  simp [Pf]
theorem pans_two {s T : ByteArray} (h : erE (fun x : List Df × List (Int × List UInt8) => (x.1.map erD, x.2)) (pans s) = erE (fun x : List Df × List (Int × List UInt8) => (x.1.map erD, x.2)) (pans T)) : (∃ (e1 e2 : Ps) (c : Int), pans s = .error (e1, c) /\ pans T = .error (e2, c)) \/ ∃ (ds ds' : List Df) (bs : List (Int × List UInt8)), pans s = .ok (ds, bs) /\ pans T = .ok (ds', bs) /\ smds ds ds' = true /\ bs.length <= 140737488355328 := by
 cases h1 : pans s with
 | error a =>
  cases h2 : pans T with
  | error b =>
   rw [h1, h2] at h
   simp only [erE, Except.error.injEq, Prod.mk.injEq] at h
   obtain ⟨a1, a2⟩ := a
   obtain ⟨b1, b2⟩ := b
   obtain ⟨_, rfl⟩ := h
   exact .inl ⟨a1, b1, _, rfl, rfl⟩
  | ok b => rw [h1, h2] at h; cases h
 | ok a =>
  cases h2 : pans T with
  | error b => rw [h1, h2] at h; cases h
  | ok b =>
   rw [h1, h2] at h
   simp only [erE, Except.ok.injEq, Prod.mk.injEq] at h
   obtain ⟨a1, a2⟩ := a
   obtain ⟨b1, b2⟩ := b
   obtain ⟨e1, rfl⟩ := h
   exact .inr ⟨a1, b1, _, rfl, rfl, smds_er e1, chk_few (pans_chk s a1 _ h1).1⟩
theorem pg_in {N w : World} {dv xv : Value} {ds : List Df} {bs : List Bk} {O : Nat -> Prop} (hD : DV N O dv ds) (hX : BV N O xv bs) (hl : ∀ j, O j -> j < N.heap.size) (k : Below N.heap.size N w) : (∀ j, O j -> j < w.heap.size) /\ DV w O dv ds /\ BV w O xv bs := ⟨fun j hj => Nat.lt_of_lt_of_le (hl j hj) k.size, hD.below k hl, hX.below k hl⟩
theorem blanks_walk (s : ByteArray) (hs : s.size <= 140737488355328) (p : Option Addr) (n c : Nat) (W : World) (hT : P10 W) (hI : IG W p n) : Calls Tryz.prog 6 #[.string s, .slice p n c] W fun e w' => e = .returned (.bool true) /\ Below W.heap.size W w' := by
 have hc0 := fixed_any W hT
 have HS := hid (fun w => K.scanw_any s hs w)
 have HI := hid hI
 clear hT hI
 obtain ⟨ts, hts⟩ : ∃ ts, (ans s).1 = ts := ⟨_, rfl⟩
 obtain ⟨sp, hsp⟩ : ∃ p, (ans s).2.1 = p := ⟨_, rfl⟩
 obtain ⟨er, her⟩ : ∃ er, (ans s).2.2 = er := ⟨_, rfl⟩
 rw [hts, hsp, her] at HS
 have HA := hid (And.intro hts her)
 clear hts hsp her
 go_enter Tryz.func6, Tryz.ntmps6
 go_wp2_with fail
 refine hc0.mono ?_
 rintro e w0 ⟨rfl, hb0⟩
 have HB0 := hid hb0
 clear hc0 hb0
 go_wp2_with fail
 refine (HS.out w0).mono ?_
 rintro e w1 ⟨⟨v, rfl, hrow⟩, hb1⟩
 unfold K.pv K.pc
 obtain ⟨W2, hW2⟩ : ∃ W2, w1.alloc (.cells #[.int .i64 sp.1, .int .i64 sp.2] 28) = W2 := ⟨_, rfl⟩
 have hb2 : Below w1.heap.size w1 W2 := by rw [<- hW2]; exact (Below.refl _ _).alloc (Nat.le_refl _) _
 have hB1 := HB0.out.trans (hb1.mono HB0.out.size)
 have hB2 := hB1.trans (hb2.mono hB1.size)
 have hLs : S.Ls tkc 5 W2 v ts := S.own_sl K.hT (S.own_kept hrow fun k _ hk => hb2.block k hk)
 obtain ⟨tp, tc, rfl, _, hSl⟩ := hLs.ex
 have hTW : TW W2 tp ts := fun i t hi => by
  obtain ⟨b, o, e1, e2⟩ := hSl i t hi
  exact ⟨b, o, e1, e2 1 _ rfl⟩
 have hIG := HI.out.below hB2
 have HW2 := hid hW2
 have HX := hid (And.intro hB2 (And.intro hTW hIG))
 clear HS HI HB0 hrow hb1 hb2 hB1 hB2 hLs hSl hTW hIG hW2
 by_cases he : er = 0
 case neg =>
  have b1 : (er != 0) = true := by simpa using he
  go_upto_region 4 with fail
  rw [HW2.out]
  go_wp2
  go_ret
  exact ⟨rfl, HX.out.1⟩
 case pos =>
  subst he
  go_upto_region 4 with fail
  rw [HW2.out]
  go_wp2_with fail
  have hgd := ans_wf s (by rw [HA.out.2])
  rw [HA.out.1] at hgd
  have HGD := hid hgd
  have HLN := hid (show ts.length <= 1000000 from by have := (ans_tks s).2; rw [HA.out.1] at this; exact this)
  clear hgd
  go_loopw [8, 9] (fun v x wr => ∃ (k : Nat) (l : List UInt8), x = .int .i64 (k : Int) /\ k <= ts.length /\ TX wr W2.heap.size (ts.map fun t => t.t.data.toList) v k l /\ Below W2.heap.size W2 wr) (fun _ x _ => ts.length - (intOf x).toNat)
  case atStart => exact ⟨0, [], rfl, Nat.zero_le _, ⟨World.ownsRow_nil _ _ _ _, Nat.zero_le _, [], rfl, (fun g h => by cases h), rfl⟩, Below.refl _ _⟩
  case round =>
   obtain ⟨k, l, rfl, hk, hTX, hB⟩ := hrel
   by_cases hlt : k < ts.length
   case neg =>
    obtain rfl : k = ts.length := by omega
    have hfw := hTX.few
    have hlk := HLN.out
    obtain ⟨gs, g1, g2, g3⟩ := hTX.txt
    have hl0 : (ts.map fun t => t.t.data.toList).take ts.length = ts.map fun t => t.t.data.toList := by
     have := List.take_length (l := ts.map fun t => t.t.data.toList)
     rwa [List.length_map] at this
    rw [hl0] at g3
    have hrow := hTX.row
    obtain ⟨pv, cv, rfl⟩ := row_val hrow
    have HBW := hid (HX.out.1.trans (hB.mono HX.out.1.size))
    have HRW := hid hrow
    clear hTX hB hl0 hrow
    by_cases hlong : 65536 < l.length
    case pos =>
     have d1 : decide ((65536 : Int) < (l.length : Int)) = true := decide_eq_true (by omega)
     have d2 : (65536 : Int) < (l.length : Int) := by omega
     clear g1 g2 g3
     go_wp2
     go_ret
     exact ⟨rfl, HBW.out⟩
    have d1 : decide ((65536 : Int) < (l.length : Int)) = false := decide_eq_false (by omega)
    have d2 : ¬ (65536 : Int) < (l.length : Int) := by omega
    obtain ⟨T, hT⟩ : ∃ T : ByteArray, (⟨l.toArray⟩ : ByteArray) = T := ⟨_, rfl⟩
    have hTs : T.size = l.length := by rw [<- hT]; simp [ByteArray.size]
    have hTl : T.data.toList = l := by rw [<- hT]
    have HTZ := hid (show T.size <= 65536 from by omega)
    have hcv : ∀ w, Below wr.heap.size wr w -> (convert 50 9 (.slice pv l.length cv)).run Tryz.prog w = .ok (.string T) w := fun w k => by
     have := conv_text (S.own_kept HRW.out fun g _ hg => k.block g hg)
     rwa [hT] at this
    have HCV := hid hcv
    have htwo := pans_two (gap_pans s T HA.out.2 (by omega) gs (by rw [HA.out.1]; exact g1) g2 (by rw [HA.out.1, hTl]; exact g3))
    have hc1 := parse_any s hs wr
    clear hT hTs hTl hcv g1 g2 g3 hlong
    rcases htwo with ⟨e1, e2, cc, h1, h2⟩ | ⟨ds, ds', bs, h1, h2, hsm, hbl⟩
    ·rw [h1] at hc1
     have hc2 := fun w => parse_any T (by have := HTZ.out; omega) w
     rw [h2] at hc2
     have HC2 := hid hc2
     clear hc2 h1 h2
     go_wp2_with fail
     refine hc1.mono ?_
     rintro e w3 ⟨rfl, hb3⟩
     obtain ⟨W4, hW4, hb4, u0, u1⟩ := two_box w3 (.slice none 0 0) (.slice none 0 0) (.int .i64 e1.1) (.int .i64 e1.2)
     have hb34 := hb3.trans (hb4.mono hb3.size)
     have hcv := HCV.out W4 hb34
     have HW4 := hid hW4
     have HX4 := hid (fun (w : World) (k : Below W4.heap.size W4 w) => show (w.cell? ⟨w3.heap.size, 0, none⟩ = some (.slice none 0 0) /\ w.cell? ⟨w3.heap.size, 1, none⟩ = some (.slice none 0 0)) /\ Below W.heap.size W w from ⟨box2 u0 k, (HBW.out.trans (hb34.mono HBW.out.size)).trans (k.mono (Nat.le_trans HBW.out.size hb34.size))⟩)
     clear hc1 hb3 hb4 hb34 u0 u1 hW4
     go_upto_region 17 with fail
     rw [HW4.out]
     go_wp2_with fail
     refine (HC2.out W4).mono ?_
     rintro e w5 ⟨rfl, hb5⟩
     obtain ⟨W6, hW6, hb6, v0, v1⟩ := two_box w5 (.slice none 0 0) (.slice none 0 0) (.int .i64 e2.1) (.int .i64 e2.2)
     have hb46 := hb5.trans (hb6.mono hb5.size)
     obtain ⟨⟨x0, x1⟩, hBW⟩ := HX4.out W6 hb46
     obtain ⟨y0, y1⟩ := box2 v0 (Below.refl _ W6)
     have hc7 := same_any [] [] [] [] (by decide) _ _ _ _ (fun j => j < W6.heap.size) W6 (fun j hj => hj) (dv_nil W6 _) (bv_nil W6 _) (dv_nil W6 _) (bv_nil W6 _)
     rw [smds_refl, smbs_refl, Bool.and_true] at hc7
     have HW6 := hid hW6
     have HB6 := hid hBW
     clear hb5 hb6 hb46 v0 v1 hW6 hBW hcv
     go_upto_region 18 with fail
     rw [HW6.out]
     have i2 : (cc == cc) = true := by simp
     go_wp2_with fail
     refine hc7.mono ?_
     rintro e w8 ⟨rfl, hb8⟩
     have HB8 := hid (HB6.out.trans (hb8.mono HB6.out.size))
     clear hc7 hb8
     go_wp2
     go_ret
     exact ⟨rfl, HB8.out⟩
    ·rw [h1] at hc1
     have hc2 := fun w => parse_any T (by have := HTZ.out; omega) w
     rw [h2] at hc2
     have HC2 := hid hc2
     have HSM := hid (And.intro hsm hbl)
     clear hc2 h1 h2 hsm hbl
     go_wp2_with fail
     refine hc1.mono ?_
     rintro e w3 ⟨dv, xv, rfl, hD, hX, hb3⟩
     obtain ⟨p1, c1, e1, _⟩ := id hD
     obtain ⟨p2, c2, e2, _⟩ := id hX
     subst e1 e2
     obtain ⟨W4, hW4, hb4, u0, u1⟩ := two_box w3 (.slice p1 ds.length c1) (.slice p2 bs.length c2) (.int .i64 0) (.int .i64 0)
     have hb34 := hb3.trans (hb4.mono hb3.size)
     have hcv := HCV.out W4 hb34
     have HW4 := hid hW4
     have HX4 := hid (fun (w : World) (k : Below W4.heap.size W4 w) => show (w.cell? ⟨w3.heap.size, 0, none⟩ = some (.slice p1 ds.length c1) /\ w.cell? ⟨w3.heap.size, 1, none⟩ = some (.slice p2 bs.length c2)) /\ Below W.heap.size W w /\ (∀ j, New wr w3 j -> j < w.heap.size) /\ DV w (New wr w3) (.slice p1 ds.length c1) ds /\ BV w (New wr w3) (.slice p2 bs.length c2) bs from ⟨box2 u0 k, (HBW.out.trans (hb34.mono HBW.out.size)).trans (k.mono (Nat.le_trans HBW.out.size hb34.size)), pg_in hD hX (fun j hj => hj.2) (hb4.trans (k.mono hb4.size))⟩)
     clear hc1 hb3 hb4 hb34 u0 u1 hW4 hD hX
     go_upto_region 17 with fail
     rw [HW4.out]
     go_wp2_with fail
     refine (HC2.out W4).mono ?_
     rintro e w5 ⟨dv', xv', rfl, hD', hX', hb5⟩
     obtain ⟨q1, k1, e1, _⟩ := id hD'
     obtain ⟨q2, k2, e2, _⟩ := id hX'
     subst e1 e2
     obtain ⟨W6, hW6, hb6, v0, v1⟩ := two_box w5 (.slice q1 ds'.length k1) (.slice q2 bs.length k2) (.int .i64 0) (.int .i64 0)
     have hb46 := hb5.trans (hb6.mono hb5.size)
     obtain ⟨⟨x0, x1⟩, hBW, r1, r2, r3⟩ := HX4.out W6 hb46
     obtain ⟨y0, y1⟩ := box2 v0 (Below.refl _ W6)
     obtain ⟨o1, o2, o3⟩ := pg_in hD' hX' (fun j hj => hj.2) (hb6.trans ((Below.refl _ W6).mono hb6.size))
     have hc7 := same_any ds ds' bs bs HSM.out.2 _ _ _ _ (fun j => j < W6.heap.size) W6 (fun j hj => hj) (r2.kept (fun _ _ => rfl) r1) (r3.kept (fun _ _ => rfl) r1) (o2.kept (fun _ _ => rfl) o1) (o3.kept (fun _ _ => rfl) o1)
     rw [HSM.out.1, smbs_refl, Bool.and_true] at hc7
     have HW6 := hid hW6
     have HB6 := hid hBW
     clear hb5 hb6 hb46 v0 v1 hW6 hBW hcv r1 r2 r3 o1 o2 o3 hD' hX'
     go_upto_region 18 with fail
     rw [HW6.out]
     go_wp2_with fail
     refine hc7.mono ?_
     rintro e w8 ⟨rfl, hb8⟩
     have HB8 := hid (HB6.out.trans (hb8.mono HB6.out.size))
     clear hc7 hb8
     go_wp2
     go_ret
     exact ⟨rfl, HB8.out⟩
   have i1 : (k : Int) < (ts.length : Int) := by omega
   obtain ⟨b1, o1, rfl, a1⟩ := (HX.out.2.1.below hB) k ts[k] (List.getElem?_eq_getElem hlt)
   have hgk := (HGD.out ts[k] (List.getElem_mem hlt)).2
   have hws : (ts.map fun t => t.t.data.toList).take (k + 1) = (ts.map fun t => t.t.data.toList).take k ++ [ts[k].t.data.toList] := by
    rw [List.take_succ_eq_append_getElem (by rw [List.length_map]; exact hlt)]
    simp
   have HTX := hid hTX
   have HB := hid hB
   have HG := hid (And.intro hgk hws)
   have hIG := HX.out.2.2.below hB
   clear hTX hB hgk hws
   generalize ts[k].t = tt at *
   go_upto_if 35 with fail
   go_cut [10] (fun x wc => ∃ z : Int, x = .int .i64 z /\ (IntKind.min .i64 <= z /\ z <= IntKind.max .i64) /\ wc = wr)
   case first =>
    by_cases hn : n = 0
    ·subst hn
     go_wp2
     go_meet
     case rel => exact ⟨0, rfl, by decide, rfl⟩
    ·have hm : k % n < n := Nat.mod_lt _ (by omega)
     obtain ⟨b2, o2, z, rfl, c2, hz⟩ := hIG (k % n) hm
     have d1 : decide ((0 : Int) < (n : Int)) = true := decide_eq_true (by omega)
     have d2 : (0 : Int) < (n : Int) := by omega
     have d3 : ¬ (n : Int) = 0 := by omega
     have d4 : (k : Int).tmod (n : Int) = ((k % n : Nat) : Int) := (Int.ofNat_tmod k n).symm
     have d5 : ((k % n : Nat) : Int) < (n : Int) := by omega
     generalize k % n = kn at *
     go_wp2
     go_meet
     case rel => exact ⟨z, rfl, hz, rfl⟩
   case rest =>
    obtain ⟨z, rfl, hz, hwc⟩ := hcut
    obtain rfl := hwc.symm
    clear hIG
    go_upto_region 13 with fail
    have hS0 : wr.drew.cell? ⟨b1, o1 + k * 5 + 1, none⟩ = some (.string tt) := a1
    have HB0 := hid (HB.out.trans ((Below.refl _ _).drew.mono HB.out.size))
    have HR0 := hid (show wr.drew.ownsRow W2.heap.size 5 1 u8 l.length (bz l) from World.ownsRow.drew HTX.out.row)
    have HKC := hid (fun (w w' : World) (h : w.cell? ⟨b1, o1 + k * 5 + 1, none⟩ = some (.string tt)) (kk : Below w.heap.size w w') => show w'.cell? ⟨b1, o1 + k * 5 + 1, none⟩ = some (.string tt) from by rw [kk.cell (World.block_lt_of_cell? w _ h)]; exact h)
    have hlk := HLN.out
    have hfw := HTX.out.few
    have htl : tt.data.toList.length = tt.size := by rw [Array.length_toList]; rfl
    have htz : tt.size <= 31 := by have := HG.out.1.le; omega
    have hb1 : b1 < W2.heap.size := by
     obtain ⟨b, o, e, hc⟩ := HX.out.2.1 k _ (List.getElem?_eq_getElem hlt)
     cases e
     exact World.block_lt_of_cell? W2 _ hc
    clear a1
    refine wp_region_drop [] (S := fun wz : World => wz.cell? ⟨b1, o1 + k * 5 + 1, none⟩ = some (.string tt)) (by kernel_rfl) hS0 (fun hHeld => ?_)
    clear hS0
    generalize wr.drew = y0 at *
    refine D.zT (is := [0, 1, 5, 6, 7, 8, 9]) ?_
    iterate 7
     refine D.yT (v := ?_) rfl (by kernel_rfl) (fun c a w h => h) (by rfl) ?_ hHeld ?_
     rotate_left
     ·(intro w hSw; (try dsimp only at hSw); go_simp; try with_reducible rfl)
     simp only [D.pts]
    refine D.eT ?_
    refine wpD_ready (rs := [2, 10]) (by kernel_rfl) (by simp) ?_
    refine D.AllD.cons rfl (fun K hK => ?_) (D.AllD.cons rfl (fun K hK => ?_) D.AllD.nil)
    ·go_simp
     refine (gap_any z hz y0).mono ?_
     rintro e y1 ⟨⟨G, rfl, hGs, hGz⟩, kk⟩
     have HB1 := hid (HB0.out.trans (kk.mono HB0.out.size))
     have HR1 := hid (S.own_kept HR0.out fun g _ hg => kk.block g hg)
     have HGG := hid (And.intro hGs hGz)
     have hGl : G.data.toList.length = G.size := by rw [Array.length_toList]; rfl
     refine hK.out _ _ (HKC.out _ _ hHeld kk) (fun hHeld => ?_)
     clear hK K kk hGs hGz HB0 HR0
     try simp only [D.pts]
     refine wpD_ready (rs := [3, 10]) (by kernel_rfl) (by simp) ?_
     refine D.AllD.cons rfl (fun K hK => ?_) (D.AllD.cons rfl (fun K hK => ?_) D.AllD.nil)
     ·have hcv := conv_bytes y1 G
      have hcs := bytes_cs y1 G
      have kk := Lib.bytesWorld_below y1 5 G
      generalize Lib.bytesWorld y1 5 G = y2 at hcv hcs kk
      generalize grownCap y1 G.size 0 5 = gc at hcv hcs
      generalize y1.heap.size = gb at hcv hcs
      go_simp
      have HB2 := hid (HB1.out.trans (kk.mono HB1.out.size))
      have HR2 := hid (S.own_kept HR1.out fun g _ hg => kk.block g hg)
      have HC2 := hid hcs
      refine hK.out _ _ (HKC.out _ _ hHeld kk) (fun hHeld => ?_)
      clear hK K hcv hcs kk HB1 HR1
      try simp only [D.pts]
      refine wpD_ready (rs := [4, 10]) (by kernel_rfl) (by simp) ?_
      refine D.AllD.cons rfl (fun K hK => ?_) (D.AllD.cons rfl (fun K hK => ?_) D.AllD.nil)
      ·rw [if_pos (by rfl)]
       refine S.wp_append_row y2 (.tmp 43) (.tmp 46) 50 5 (.int .u8 0) 1 1 Tryz.underlying50 infoU rfl (by decide) rfl W2.heap.size _ l.length (bz l) (by simp [Act.eval]) HR2.out _ G.size (bz G.data.toList) (by simp [Act.eval]) HC2.out (by have := HGG.out.2; unfold S.room; omega) (by have := HGG.out.2; unfold maxLen; omega) HB2.out.size (fun v3 y3 hr hg => ?_)
       have hbl : y3.heap[b1]? = y2.heap[b1]? := hg.block b1 (Nat.lt_of_lt_of_le hb1 HB2.out.size) (fun e => by have := (World.ownsRow.lt HR2.out _ e.symm).1; omega)
       have HB3 := hid (hg.belowAll (fun g e => (World.ownsRow.lt HR2.out g e).1) HB2.out (Nat.le_refl _))
       have HR3 := hid hr
       refine hK.out _ _ (show y3.cell? _ = _ from (World.cell?_of_block (w := y2) (a := ⟨b1, o1 + k * 5 + 1, none⟩) hbl).trans hHeld) (fun hHeld => ?_)
       clear hK K hr hg hbl HB2 HR2 HC2
       try simp only [D.pts]
       refine wpD_ready (rs := [10]) (by kernel_rfl) (by simp) ?_
       refine D.AllD.cons rfl (fun K hK => ?_) D.AllD.nil
       have hcv := conv_bytes y3 tt
       have hcs := bytes_cs y3 tt
       have kk := Lib.bytesWorld_below y3 5 tt
       have hgb : y3.heap.size < (Lib.bytesWorld y3 5 tt).heap.size := by rw [Lib.bytesWorld_size]; omega
       have hno := fun g e => (World.ownsRow.lt HR3.out g e).2
       generalize Lib.bytesWorld y3 5 tt = y4 at hcv hcs kk hgb
       generalize grownCap y3 tt.size 0 5 = gt at hcv hcs
       obtain ⟨gu, hgu⟩ : ∃ gu, y3.heap.size = gu := ⟨_, rfl⟩
       rw [hgu] at hcv hcs hgb hno
       go_simp
       have HB4 := hid (HB3.out.trans (kk.mono HB3.out.size))
       have HR4 := hid (S.own_kept HR3.out fun g _ hg => kk.block g hg)
       have HT4 := hid (And.intro hcs (And.intro hno hgb))
       refine hK.out _ _ (HKC.out _ _ hHeld kk) (fun hHeld => ?_)
       clear hK K hcv hcs kk hgb hno hgu HB3 HR3
       try simp only [D.pts]
       refine wpD_ready (rs := [11]) (by kernel_rfl) (by simp) ?_
       refine D.AllD.cons rfl (fun K hK => ?_) D.AllD.nil
       rw [if_pos (by rfl)]
       refine S.wp_append_row y4 (.tmp 47) (.tmp 53) 50 5 (.int .u8 0) 1 1 Tryz.underlying50 infoU rfl (by decide) rfl W2.heap.size _ (l.length + G.size) (bz l ++ bz G.data.toList) (by simp [Act.eval]) HR4.out _ tt.size (bz tt.data.toList) (by simp [Act.eval]) HT4.out.1 (by have := HGG.out.2; unfold S.room; omega) (by have := HGG.out.2; unfold maxLen; omega) HB4.out.size (fun v5 y5 hr hg => ?_)
       have hbl : y5.heap[b1]? = y4.heap[b1]? := hg.block b1 (Nat.lt_of_lt_of_le hb1 HB4.out.size) (fun e => by have := (World.ownsRow.lt HR4.out _ e.symm).1; omega)
       have HB5 := hid (hg.belowAll (fun g e => (World.ownsRow.lt HR4.out g e).1) HB4.out (Nat.le_refl _))
       have HE := hid (tx_step HTX.out HGG.out.1 HGG.out.2 htz HG.out.2 hr)
       refine hK.out _ _ (show y5.cell? _ = _ from (World.cell?_of_block (w := y4) (a := ⟨b1, o1 + k * 5 + 1, none⟩) hbl).trans hHeld) (fun hHeld => ?_)
       clear hK K hr hg hbl HB4 HR4 HT4
       try simp only [D.pts]
       refine wpD_ready (rs := [12]) (by kernel_rfl) (by simp) ?_
       refine D.AllD.cons rfl (fun K hK => ?_) D.AllD.nil
       go_simp
       refine hK.out _ _ hHeld (fun hHeld => ?_)
       clear hK K
       try simp only [D.pts]
       refine wpD_done (by kernel_rfl) ?_ _
       clear hHeld
       go_wp2_with fail
       go_roundw
       case rel => exact ⟨k + 1, _, by simp, by omega, HE.out, HB5.out⟩
       case measure => simp only [intOf]; omega
      ·have hcv := conv_bytes y2 tt
       have hcs := bytes_cs y2 tt
       have kk := Lib.bytesWorld_below y2 5 tt
       have hgb : y2.heap.size < (Lib.bytesWorld y2 5 tt).heap.size := by rw [Lib.bytesWorld_size]; omega
       have hno := fun g e => (World.ownsRow.lt HR2.out g e).2
       generalize Lib.bytesWorld y2 5 tt = y3 at hcv hcs kk hgb
       generalize grownCap y2 tt.size 0 5 = gt at hcv hcs
       obtain ⟨gu, hgu⟩ : ∃ gu, y2.heap.size = gu := ⟨_, rfl⟩
       rw [hgu] at hcv hcs hgb hno
       go_simp
       have HB3 := hid (HB2.out.trans (kk.mono HB2.out.size))
       have HR3 := hid (S.own_kept HR2.out fun g _ hg => kk.block g hg)
       have HC3 := hid (S.Cs.below HC2.out kk)
       have HT3 := hid (And.intro hcs (And.intro hno hgb))
       refine hK.out _ _ (HKC.out _ _ hHeld kk) (fun hHeld => ?_)
       clear hK K hcv hcs kk hgb hno hgu HB2 HR2 HC2
       try simp only [D.pts]
       refine wpD_ready (rs := [4]) (by kernel_rfl) (by simp) ?_
       refine D.AllD.cons rfl (fun K hK => ?_) D.AllD.nil
       rw [if_pos (by rfl)]
       refine S.wp_append_row y3 (.tmp 43) (.tmp 46) 50 5 (.int .u8 0) 1 1 Tryz.underlying50 infoU rfl (by decide) rfl W2.heap.size _ l.length (bz l) (by simp [Act.eval]) HR3.out _ G.size (bz G.data.toList) (by simp [Act.eval]) HC3.out (by have := HGG.out.2; unfold S.room; omega) (by have := HGG.out.2; unfold maxLen; omega) HB3.out.size (fun v4 y4 hr hg => ?_)
       have hbl : y4.heap[b1]? = y3.heap[b1]? := hg.block b1 (Nat.lt_of_lt_of_le hb1 HB3.out.size) (fun e => by have := (World.ownsRow.lt HR3.out _ e.symm).1; omega)
       have HB4 := hid (hg.belowAll (fun g e => (World.ownsRow.lt HR3.out g e).1) HB3.out (Nat.le_refl _))
       have HR4 := hid hr
       have HT4 := hid (And.intro (cs_kept HT3.out.1 (hg.block gu HT3.out.2.2 (fun e => by have := HT3.out.2.1 _ e.symm; omega))) True.intro)
       refine hK.out _ _ (show y4.cell? _ = _ from (World.cell?_of_block (w := y3) (a := ⟨b1, o1 + k * 5 + 1, none⟩) hbl).trans hHeld) (fun hHeld => ?_)
       clear hK K hr hg hbl HB3 HR3 HC3 HT3
       try simp only [D.pts]
       refine wpD_ready (rs := [11]) (by kernel_rfl) (by simp) ?_
       refine D.AllD.cons rfl (fun K hK => ?_) D.AllD.nil
       rw [if_pos (by rfl)]
       refine S.wp_append_row y4 (.tmp 47) (.tmp 53) 50 5 (.int .u8 0) 1 1 Tryz.underlying50 infoU rfl (by decide) rfl W2.heap.size _ (l.length + G.size) (bz l ++ bz G.data.toList) (by simp [Act.eval]) HR4.out _ tt.size (bz tt.data.toList) (by simp [Act.eval]) HT4.out.1 (by have := HGG.out.2; unfold S.room; omega) (by have := HGG.out.2; unfold maxLen; omega) HB4.out.size (fun v5 y5 hr hg => ?_)
       have hbl : y5.heap[b1]? = y4.heap[b1]? := hg.block b1 (Nat.lt_of_lt_of_le hb1 HB4.out.size) (fun e => by have := (World.ownsRow.lt HR4.out _ e.symm).1; omega)
       have HB5 := hid (hg.belowAll (fun g e => (World.ownsRow.lt HR4.out g e).1) HB4.out (Nat.le_refl _))
       have HE := hid (tx_step HTX.out HGG.out.1 HGG.out.2 htz HG.out.2 hr)
       refine hK.out _ _ (show y5.cell? _ = _ from (World.cell?_of_block (w := y4) (a := ⟨b1, o1 + k * 5 + 1, none⟩) hbl).trans hHeld) (fun hHeld => ?_)
       clear hK K hr hg hbl HB4 HR4 HT4
       try simp only [D.pts]
       refine wpD_ready (rs := [12]) (by kernel_rfl) (by simp) ?_
       refine D.AllD.cons rfl (fun K hK => ?_) D.AllD.nil
       go_simp
       refine hK.out _ _ hHeld (fun hHeld => ?_)
       clear hK K
       try simp only [D.pts]
       refine wpD_done (by kernel_rfl) ?_ _
       clear hHeld
       go_wp2_with fail
       go_roundw
       case rel => exact ⟨k + 1, _, by simp, by omega, HE.out, HB5.out⟩
       case measure => simp only [intOf]; omega
     ·have hcv := conv_bytes y1 tt
      have hcs := bytes_cs y1 tt
      have kk := Lib.bytesWorld_below y1 5 tt
      have hgb : y1.heap.size < (Lib.bytesWorld y1 5 tt).heap.size := by rw [Lib.bytesWorld_size]; omega
      have hno := fun g e => (World.ownsRow.lt HR1.out g e).2
      generalize Lib.bytesWorld y1 5 tt = y2 at hcv hcs kk hgb
      generalize grownCap y1 tt.size 0 5 = gt at hcv hcs
      obtain ⟨gu, hgu⟩ : ∃ gu, y1.heap.size = gu := ⟨_, rfl⟩
      rw [hgu] at hcv hcs hgb hno
      go_simp
      have HB2 := hid (HB1.out.trans (kk.mono HB1.out.size))
      have HR2 := hid (S.own_kept HR1.out fun g _ hg => kk.block g hg)
      have HT2 := hid (And.intro hcs (And.intro hno hgb))
      refine hK.out _ _ (HKC.out _ _ hHeld kk) (fun hHeld => ?_)
      clear hK K hcv hcs kk hgb hno hgu HB1 HR1
      try simp only [D.pts]
      refine wpD_ready (rs := [3]) (by kernel_rfl) (by simp) ?_
      refine D.AllD.cons rfl (fun K hK => ?_) D.AllD.nil
      have hcv := conv_bytes y2 G
      have hcs := bytes_cs y2 G
      have kk := Lib.bytesWorld_below y2 5 G
      generalize Lib.bytesWorld y2 5 G = y3 at hcv hcs kk
      generalize grownCap y2 G.size 0 5 = gc at hcv hcs
      generalize y2.heap.size = gb at hcv hcs
      go_simp
      have HB3 := hid (HB2.out.trans (kk.mono HB2.out.size))
      have HR3 := hid (S.own_kept HR2.out fun g _ hg => kk.block g hg)
      have HT3 := hid (And.intro (S.Cs.below HT2.out.1 kk) (And.intro HT2.out.2.1 (Nat.lt_of_lt_of_le HT2.out.2.2 kk.size)))
      have HC3 := hid hcs
      refine hK.out _ _ (HKC.out _ _ hHeld kk) (fun hHeld => ?_)
      clear hK K hcv hcs kk HB2 HR2 HT2
      try simp only [D.pts]
      refine wpD_ready (rs := [4]) (by kernel_rfl) (by simp) ?_
      refine D.AllD.cons rfl (fun K hK => ?_) D.AllD.nil
      rw [if_pos (by rfl)]
      refine S.wp_append_row y3 (.tmp 43) (.tmp 46) 50 5 (.int .u8 0) 1 1 Tryz.underlying50 infoU rfl (by decide) rfl W2.heap.size _ l.length (bz l) (by simp [Act.eval]) HR3.out _ G.size (bz G.data.toList) (by simp [Act.eval]) HC3.out (by have := HGG.out.2; unfold S.room; omega) (by have := HGG.out.2; unfold maxLen; omega) HB3.out.size (fun v4 y4 hr hg => ?_)
      have hbl : y4.heap[b1]? = y3.heap[b1]? := hg.block b1 (Nat.lt_of_lt_of_le hb1 HB3.out.size) (fun e => by have := (World.ownsRow.lt HR3.out _ e.symm).1; omega)
      have HB4 := hid (hg.belowAll (fun g e => (World.ownsRow.lt HR3.out g e).1) HB3.out (Nat.le_refl _))
      have HR4 := hid hr
      have HT4 := hid (And.intro (cs_kept HT3.out.1 (hg.block gu HT3.out.2.2 (fun e => by have := HT3.out.2.1 _ e.symm; omega))) True.intro)
      refine hK.out _ _ (show y4.cell? _ = _ from (World.cell?_of_block (w := y3) (a := ⟨b1, o1 + k * 5 + 1, none⟩) hbl).trans hHeld) (fun hHeld => ?_)
      clear hK K hr hg hbl HB3 HR3 HC3 HT3
      try simp only [D.pts]
      refine wpD_ready (rs := [11]) (by kernel_rfl) (by simp) ?_
      refine D.AllD.cons rfl (fun K hK => ?_) D.AllD.nil
      rw [if_pos (by rfl)]
      refine S.wp_append_row y4 (.tmp 47) (.tmp 53) 50 5 (.int .u8 0) 1 1 Tryz.underlying50 infoU rfl (by decide) rfl W2.heap.size _ (l.length + G.size) (bz l ++ bz G.data.toList) (by simp [Act.eval]) HR4.out _ tt.size (bz tt.data.toList) (by simp [Act.eval]) HT4.out.1 (by have := HGG.out.2; unfold S.room; omega) (by have := HGG.out.2; unfold maxLen; omega) HB4.out.size (fun v5 y5 hr hg => ?_)
      have hbl : y5.heap[b1]? = y4.heap[b1]? := hg.block b1 (Nat.lt_of_lt_of_le hb1 HB4.out.size) (fun e => by have := (World.ownsRow.lt HR4.out _ e.symm).1; omega)
      have HB5 := hid (hg.belowAll (fun g e => (World.ownsRow.lt HR4.out g e).1) HB4.out (Nat.le_refl _))
      have HE := hid (tx_step HTX.out HGG.out.1 HGG.out.2 htz HG.out.2 hr)
      refine hK.out _ _ (show y5.cell? _ = _ from (World.cell?_of_block (w := y4) (a := ⟨b1, o1 + k * 5 + 1, none⟩) hbl).trans hHeld) (fun hHeld => ?_)
      clear hK K hr hg hbl HB4 HR4 HT4
      try simp only [D.pts]
      refine wpD_ready (rs := [12]) (by kernel_rfl) (by simp) ?_
      refine D.AllD.cons rfl (fun K hK => ?_) D.AllD.nil
      go_simp
      refine hK.out _ _ hHeld (fun hHeld => ?_)
      clear hK K
      try simp only [D.pts]
      refine wpD_done (by kernel_rfl) ?_ _
      clear hHeld
      go_wp2_with fail
      go_roundw
      case rel => exact ⟨k + 1, _, by simp, by omega, HE.out, HB5.out⟩
      case measure => simp only [intOf]; omega
    ·have hcv := conv_bytes y0 tt
     have hcs := bytes_cs y0 tt
     have kk := Lib.bytesWorld_below y0 5 tt
     have hgb : y0.heap.size < (Lib.bytesWorld y0 5 tt).heap.size := by rw [Lib.bytesWorld_size]; omega
     have hno := fun g e => (World.ownsRow.lt HR0.out g e).2
     generalize Lib.bytesWorld y0 5 tt = y1 at hcv hcs kk hgb
     generalize grownCap y0 tt.size 0 5 = gt at hcv hcs
     obtain ⟨gu, hgu⟩ : ∃ gu, y0.heap.size = gu := ⟨_, rfl⟩
     rw [hgu] at hcv hcs hgb hno
     go_simp
     have HB1 := hid (HB0.out.trans (kk.mono HB0.out.size))
     have HR1 := hid (S.own_kept HR0.out fun g _ hg => kk.block g hg)
     have HT1 := hid (And.intro hcs (And.intro hno hgb))
     refine hK.out _ _ (HKC.out _ _ hHeld kk) (fun hHeld => ?_)
     clear hK K hcv hcs kk hgb hno hgu HB0 HR0
     try simp only [D.pts]
     refine wpD_ready (rs := [2]) (by kernel_rfl) (by simp) ?_
     refine D.AllD.cons rfl (fun K hK => ?_) D.AllD.nil
     go_simp
     refine (gap_any z hz y1).mono ?_
     rintro e y2 ⟨⟨G, rfl, hGs, hGz⟩, kk⟩
     have HB2 := hid (HB1.out.trans (kk.mono HB1.out.size))
     have HR2 := hid (S.own_kept HR1.out fun g _ hg => kk.block g hg)
     have HT2 := hid (And.intro (S.Cs.below HT1.out.1 kk) (And.intro HT1.out.2.1 (Nat.lt_of_lt_of_le HT1.out.2.2 kk.size)))
     have HGG := hid (And.intro hGs hGz)
     have hGl : G.data.toList.length = G.size := by rw [Array.length_toList]; rfl
     refine hK.out _ _ (HKC.out _ _ hHeld kk) (fun hHeld => ?_)
     clear hK K kk hGs hGz HB1 HR1 HT1
     try simp only [D.pts]
     refine wpD_ready (rs := [3]) (by kernel_rfl) (by simp) ?_
     refine D.AllD.cons rfl (fun K hK => ?_) D.AllD.nil
     have hcv := conv_bytes y2 G
     have hcs := bytes_cs y2 G
     have kk := Lib.bytesWorld_below y2 5 G
     generalize Lib.bytesWorld y2 5 G = y3 at hcv hcs kk
     generalize grownCap y2 G.size 0 5 = gc at hcv hcs
     generalize y2.heap.size = gb at hcv hcs
     go_simp
     have HB3 := hid (HB2.out.trans (kk.mono HB2.out.size))
     have HR3 := hid (S.own_kept HR2.out fun g _ hg => kk.block g hg)
     have HT3 := hid (And.intro (S.Cs.below HT2.out.1 kk) (And.intro HT2.out.2.1 (Nat.lt_of_lt_of_le HT2.out.2.2 kk.size)))
     have HC3 := hid hcs
     refine hK.out _ _ (HKC.out _ _ hHeld kk) (fun hHeld => ?_)
     clear hK K hcv hcs kk HB2 HR2 HT2
     try simp only [D.pts]
     refine wpD_ready (rs := [4]) (by kernel_rfl) (by simp) ?_
     refine D.AllD.cons rfl (fun K hK => ?_) D.AllD.nil
     rw [if_pos (by rfl)]
     refine S.wp_append_row y3 (.tmp 43) (.tmp 46) 50 5 (.int .u8 0) 1 1 Tryz.underlying50 infoU rfl (by decide) rfl W2.heap.size _ l.length (bz l) (by simp [Act.eval]) HR3.out _ G.size (bz G.data.toList) (by simp [Act.eval]) HC3.out (by have := HGG.out.2; unfold S.room; omega) (by have := HGG.out.2; unfold maxLen; omega) HB3.out.size (fun v4 y4 hr hg => ?_)
     have hbl : y4.heap[b1]? = y3.heap[b1]? := hg.block b1 (Nat.lt_of_lt_of_le hb1 HB3.out.size) (fun e => by have := (World.ownsRow.lt HR3.out _ e.symm).1; omega)
     have HB4 := hid (hg.belowAll (fun g e => (World.ownsRow.lt HR3.out g e).1) HB3.out (Nat.le_refl _))
     have HR4 := hid hr
     have HT4 := hid (And.intro (cs_kept HT3.out.1 (hg.block gu HT3.out.2.2 (fun e => by have := HT3.out.2.1 _ e.symm; omega))) True.intro)
     refine hK.out _ _ (show y4.cell? _ = _ from (World.cell?_of_block (w := y3) (a := ⟨b1, o1 + k * 5 + 1, none⟩) hbl).trans hHeld) (fun hHeld => ?_)
     clear hK K hr hg hbl HB3 HR3 HC3 HT3
     try simp only [D.pts]
     refine wpD_ready (rs := [11]) (by kernel_rfl) (by simp) ?_
     refine D.AllD.cons rfl (fun K hK => ?_) D.AllD.nil
     rw [if_pos (by rfl)]
     refine S.wp_append_row y4 (.tmp 47) (.tmp 53) 50 5 (.int .u8 0) 1 1 Tryz.underlying50 infoU rfl (by decide) rfl W2.heap.size _ (l.length + G.size) (bz l ++ bz G.data.toList) (by simp [Act.eval]) HR4.out _ tt.size (bz tt.data.toList) (by simp [Act.eval]) HT4.out.1 (by have := HGG.out.2; unfold S.room; omega) (by have := HGG.out.2; unfold maxLen; omega) HB4.out.size (fun v5 y5 hr hg => ?_)
     have hbl : y5.heap[b1]? = y4.heap[b1]? := hg.block b1 (Nat.lt_of_lt_of_le hb1 HB4.out.size) (fun e => by have := (World.ownsRow.lt HR4.out _ e.symm).1; omega)
     have HB5 := hid (hg.belowAll (fun g e => (World.ownsRow.lt HR4.out g e).1) HB4.out (Nat.le_refl _))
     have HE := hid (tx_step HTX.out HGG.out.1 HGG.out.2 htz HG.out.2 hr)
     refine hK.out _ _ (show y5.cell? _ = _ from (World.cell?_of_block (w := y4) (a := ⟨b1, o1 + k * 5 + 1, none⟩) hbl).trans hHeld) (fun hHeld => ?_)
     clear hK K hr hg hbl HB4 HR4 HT4
     try simp only [D.pts]
     refine wpD_ready (rs := [12]) (by kernel_rfl) (by simp) ?_
     refine D.AllD.cons rfl (fun K hK => ?_) D.AllD.nil
     go_simp
     refine hK.out _ _ hHeld (fun hHeld => ?_)
     clear hK K
     try simp only [D.pts]
     refine wpD_done (by kernel_rfl) ?_ _
     clear hHeld
     go_wp2_with fail
     go_roundw
     case rel => exact ⟨k + 1, _, by simp, by omega, HE.out, HB5.out⟩
     case measure => simp only [intOf]; omega
end Go.Proofs.YtdnklgceghllaaaGreatDoor.M
namespace Go.Proofs.YtdnklgceghllaaaGreatDoor.M
open Go.RowKit Go.ChangeShapes Go.WideShapes Go.ChangeAt
set_option linter.unusedVariables false
set_option linter.unusedSimpArgs false
set_option maxRecDepth 100000
section
variable {H : Type} {enc : TypeId × Value -> H}
theorem open_ints1 {W : World} {base : Nat} {v : Value} {d : DataW H} {p : List MemPlace} (hval : Value.okWide Tryz.prog W .any base 38 v) (h : DataW.Trod enc Tryz.prog W 0 (fun _ => true) true 38 v d p) :
  ∃ (q : Option Addr) (n c : Nat), v = .slice q n c /\ IG W q n := by
 obtain ⟨a, len, cap, rfl⟩ := okWide_slice Tryz.underlying38 hval
 obtain ⟨fuel, hf⟩ := h
 rcases open_ints Tryz.underlying38 Tryz.underlying3 (by kernel_rfl) hf with ⟨hcs, hx⟩ | ⟨x, l, c, zs, hcs, _, hl, hm, hz, hx, hcell, hwz⟩
 ·simp [Value.cells] at hcs
  obtain ⟨rfl, rfl, rfl⟩ := hcs
  exact ⟨none, 0, 0, rfl, fun i hi => absurd hi (by omega)⟩
 ·simp [Value.cells] at hcs
  obtain ⟨rfl, rfl, rfl⟩ := hcs
  simp only [if_true] at hz
  refine ⟨_, _, _, rfl, fun i hi => ?_⟩
  have hc := hcell i (by omega)
  have hsp := World.cell?_spot (hcell 0 (by omega))
  obtain ⟨b, o, sp⟩ := x
  have hs0 : sp = none := by simpa [Addr.add] using hsp
  subst hs0
  rw [Addr.add_lit] at hc
  have hmem : zs.getD i 0 ∈ zs := by
   rw [List.getD_eq_getElem?_getD, List.getElem?_eq_getElem (show i < zs.length by omega)]
   exact List.getElem_mem _
  have hwf := hwz _ hmem
  simp only [Lit.wf, Bool.and_eq_true, decide_eq_true_eq] at hwf
  exact ⟨b, o, _, rfl, hc, hwf⟩
end
end Go.Proofs.YtdnklgceghllaaaGreatDoor.M
