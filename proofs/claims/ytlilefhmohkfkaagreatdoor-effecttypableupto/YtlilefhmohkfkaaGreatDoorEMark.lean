import Derived.Test.YtlilefhmohkfkaaGreatDoorECatch
import Derived.Laws.OwnMore
namespace Go.Proofs.YtlilefhmohkfkaaGreatDoor.E
open Go.RowKit
open Go.Proofs
open Go.Proofs.YtlilefhmohkfkaaGreatDoor.Y (Nd Df Ps ndc dfc hid NV cells9)
open R (En MP lk look_no look_yes)
set_option linter.unusedVariables false
set_option linter.unusedSimpArgs false
set_option maxHeartbeats 2000000
set_option maxRecDepth 100000
def mk1 (at_ : En) (nm : ByteArray) (led : List Bool) : List Bool := match lk at_ nm with | none => led | some i => led.set i.toNat true
def mrun : List (List Bool -> List Bool) -> List Bool -> List Bool
  | [], l => l
  | f :: r, l => mrun r (f l)
def mkN (at_ : En) : Nd -> List Bool -> List Bool
  | ⟨_, _, _, nm, th, el, _, _⟩ => fun led => mrun (el.map (mkN at_)) (mrun (th.map (mkN at_)) (mk1 at_ nm led))
def mks (at_ : En) (l : List Nd) : List Bool -> List Bool := mrun (l.map (mkN at_))
theorem mkN_is (at_ : En) (n : Nd) (led : List Bool) : mkN at_ n led = mks at_ n.el (mks at_ n.th (mk1 at_ n.nm led)) := by cases n; rw [mkN]; rfl
theorem mks_nil (at_ : En) (led : List Bool) : mks at_ [] led = led := rfl
theorem mks_cons (at_ : En) (n : Nd) (r : List Nd) (led : List Bool) : mks at_ (n :: r) led = mks at_ r (mkN at_ n led) := rfl
theorem mrun_app : ∀ (fs gs : List (List Bool -> List Bool)) (l : List Bool), mrun (fs ++ gs) l = mrun gs (mrun fs l)
  | [], gs, l => rfl
  | f :: r, gs, l => by rw [List.cons_append, mrun, mrun, mrun_app r gs]
theorem mks_take (at_ : En) (l : List Nd) (k : Nat) (n : Nd) (h : l[k]? = some n) (led : List Bool) : mks at_ (l.take (k + 1)) led = mkN at_ n (mks at_ (l.take k) led) := by
  unfold mks
  rw [List.take_add_one, h, List.map_append, mrun_app]
  rfl
theorem mk1_len (at_ : En) (nm : ByteArray) (led : List Bool) : (mk1 at_ nm led).length = led.length := by
  unfold mk1
  split
  · rfl
  · simp
theorem mrun_len : ∀ (fs : List (List Bool -> List Bool)), (∀ f ∈ fs, ∀ l : List Bool, (f l).length = l.length) -> ∀ l, (mrun fs l).length = l.length
  | [], _, l => rfl
  | f :: r, h, l => by rw [mrun, mrun_len r (fun g hg => h g (by simp [hg])), h f (by simp)]
theorem mkN_len (at_ : En) (n : Nd) : ∀ led, (mkN at_ n led).length = led.length :=
  Nd.ind (P := fun n => ∀ led, (mkN at_ n led).length = led.length) (fun n h1 h2 led => by
    rw [mkN_is]
    unfold mks
    rw [mrun_len _ (fun f hf => by obtain ⟨m, hm, rfl⟩ := List.mem_map.1 hf; exact h2 m hm), mrun_len _ (fun f hf => by obtain ⟨m, hm, rfl⟩ := List.mem_map.1 hf; exact h1 m hm), mk1_len]) n
theorem mks_len (at_ : En) (l : List Nd) (led : List Bool) : (mks at_ l led).length = led.length := mrun_len _ (fun f hf => by obtain ⟨m, hm, rfl⟩ := List.mem_map.1 hf; exact mkN_len at_ m) led
def LB (W : World) (g : Nat) (led : List Bool) : Prop := W.heap[g]? = some (.cells (led.map Value.bool).toArray 4 (0, 0))
theorem LB.lt {W : World} {g : Nat} {led : List Bool} (h : LB W g led) : g < W.heap.size := S.lt_of h
theorem LB.cell {W : World} {g : Nat} {led : List Bool} (h : LB W g led) (i : Nat) (b : Bool) (hi : led[i]? = some b) : W.cell? ⟨g, i, none⟩ = some (.bool b) := S.cell_of W g i _ 4 _ h (by rw [List.getElem?_map, hi]; rfl)
theorem LB.fro {W : World} {g : Nat} {led : List Bool} (h : LB W g led) (i : Nat) : W.frozen? ⟨g, i, none⟩ = false := S.frozen_of W g i _ 4 h
theorem LB.set {W : World} {g : Nat} {led : List Bool} (h : LB W g led) (i : Nat) (b : Bool) : LB (W.setCell ⟨g, i, none⟩ (.bool b)) g (led.set i b) := by
  have := S.setCell_heap W g i _ 4 (.bool b) h
  unfold LB
  rw [this, List.map_set]
def MKE (at_ : En) (l : List Nd) : Prop := ∀ (v : Value) (O : Nat -> Prop) (led : List Bool) (g mb c : Nat) (W : World), (∀ j, O j -> j < W.heap.size) -> ¬ O g -> mb ≠ g -> NV W O v l -> MP W mb at_ -> LB W g led -> (∀ s i, lk at_ s = some i -> 0 <= i /\ i < led.length) -> led.length <= 1048576 ->
  Calls Tryz.prog 47 #[v, .map (some mb), .slice (some ⟨g, 0, none⟩) led.length c] W fun e w' => e = .returned (.tuple #[]) /\ LB w' g (mks at_ l led) /\ Gw g W w'
theorem mp_gw {W V : World} {mb g : Nat} {at_ : En} (h : MP W mb at_) (k : Gw g W V) (hg : mb ≠ g) : MP V mb at_ := (k.block mb h.lt hg).trans h
theorem mark_of (at_ : En) (l : List Nd) (hn : ∀ m ∈ l, MKE at_ m.th /\ MKE at_ m.el) : MKE at_ l := by
  intro v O led g mb c W hO hOg hmg hV hM hL hat hll
  obtain ⟨p, cc, rfl, hl, hp⟩ := hV.ex
  clear hV
  have HM := hid (And.intro hM (And.intro hmg hat))
  have HL := hid hL
  clear hM hmg hat hL
  go_enter Tryz.func47, Tryz.ntmps47
  go_wp2
  go_loopw [12] (fun ix wr => ∃ k : Nat, k <= l.length /\ ix = .int .i64 (k : Int) /\ Gw g W wr /\ LB wr g (mks at_ (l.take k) led)) (fun ix _ => l.length - (intOf ix).toNat)
  case atStart => exact ⟨0, by omega, rfl, Gw.refl _ _, HL.out⟩
  case round =>
    obtain ⟨k, hk, rfl, hG, hB⟩ := hrel
    by_cases hlt : k < l.length
    · have i1 : (k : Int) < l.length := by omega
      have ea := List.getElem?_eq_getElem hlt
      have hm := hn l[k] (List.getElem_mem _)
      generalize l[k] = n at *
      obtain ⟨b, o, rfl, hOb, hN⟩ := hp k n ea
      obtain ⟨tv, ev, hcl, ht, he⟩ := hN.ex
      obtain ⟨q1, d1, rfl, _, _⟩ := ht.ex
      obtain ⟨q2, d2, rfl, _, _⟩ := he.ex
      have hbne : b ≠ g := fun e => hOg (e ▸ hOb)
      have kb := hG.block b (hO b hOb) hbne
      obtain ⟨g0, g1, g2, g3, g4, g5, g6, g7, g8⟩ := cells9 fun j x hx => (World.cell?_of_block (w := W) (a := ⟨b, o + k * 9 + j, none⟩) kb).trans (hcl j x hx)
      have hstep := mks_take at_ l k n ea led
      rw [mkN_is] at hstep
      obtain ⟨ld, hld⟩ : ∃ ld, mks at_ (l.take k) led = ld := ⟨_, rfl⟩
      have hlen : ld.length = led.length := by rw [<- hld]; exact mks_len at_ _ led
      rw [hld] at hB hstep
      clear hld
      obtain ⟨y, hy⟩ : ∃ y, wr.alloc (.cells #[.int .i64 n.k, .int .i64 n.op, .int .u16 n.v, .string n.nm, .slice q1 n.th.length d1, .slice q2 n.el.length d2, .bool n.has, .int .i64 n.p.1, .int .i64 n.p.2] 30) = y := ⟨_, rfl⟩
      have zb : Below wr.heap.size wr y := by rw [<- hy]; exact (Below.refl _ _).alloc (Nat.le_refl _) _
      have vb : y.heap[wr.heap.size]? = some (.cells (ndc n (.slice q1 n.th.length d1) (.slice q2 n.el.length d2)).toArray 30 (0, 0)) := by rw [<- hy]; exact heap_alloc_new wr _
      have hwg : wr.heap.size ≠ g := by have := hB.lt; omega
      have hGy : Gw g W y := hG.trans (Gw.of zb)
      have hBy : LB y g ld := (zb.block g hB.lt).trans hB
      have HY := hid (And.intro hGy (And.intro hBy (And.intro vb (And.intro hstep (And.intro hlen hwg)))))
      have HT := hid (And.intro ht (And.intro he (And.intro hm.1 hm.2)))
      have Hk := hid hk
      have hmy := mp_gw HM.out.1 hGy HM.out.2.1
      obtain ⟨c0, c1, c2, c3, c4, c5, c6, c7, c8⟩ := nd_cells vb
      have HO := hid (And.intro hO hOg)
      have key : ∀ z, Gw g W z -> LB z g (mk1 at_ n.nm ld) -> z.heap[wr.heap.size]? = y.heap[wr.heap.size]? -> Calls Tryz.prog 47 #[.slice q1 n.th.length d1, .map (some mb), .slice (some ⟨g, 0, none⟩) led.length c] z fun e w' => e = .returned (.tuple #[]) /\ Gw g W w' /\ w'.heap[wr.heap.size]? = y.heap[wr.heap.size]? /\
          Calls Tryz.prog 47 #[.slice q2 n.el.length d2, .map (some mb), .slice (some ⟨g, 0, none⟩) led.length c] w' fun e w'' => e = .returned (.tuple #[]) /\ Gw g W w'' /\ LB w'' g (mks at_ (l.take (k + 1)) led) := by
        intro z hz hLz hbz
        have e1 : (mk1 at_ n.nm ld).length = led.length := by rw [mk1_len]; exact HY.out.2.2.2.2.1
        have hc := HT.out.2.2.1 (.slice q1 n.th.length d1) O (mk1 at_ n.nm ld) g mb c z (fun j hj => Nat.lt_of_lt_of_le (HO.out.1 j hj) hz.size) HO.out.2 HM.out.2.1 (nv_gw HT.out.1 hz HO.out.1 HO.out.2) (mp_gw HM.out.1 hz HM.out.2.1) hLz (fun s i h => by rw [e1]; exact HM.out.2.2 s i h) (by omega)
        rw [e1] at hc
        refine hc.mono ?_
        rintro e w1 ⟨rfl, hl1, hg1⟩
        have hz1 : Gw g W w1 := hz.trans hg1
        have e2 : (mks at_ n.th (mk1 at_ n.nm ld)).length = led.length := by rw [mks_len]; exact e1
        refine ⟨rfl, hz1, ?_, ?_⟩
        · have hlt2 : wr.heap.size < z.heap.size := by
            have : y.heap[wr.heap.size]? ≠ none := by rw [HY.out.2.2.1]; simp
            rw [<- hbz] at this
            by_cases hc : wr.heap.size < z.heap.size
            · exact hc
            · exact absurd (Array.getElem?_eq_none (by omega)) this
          exact (hg1.block _ hlt2 HY.out.2.2.2.2.2).trans hbz
        have hc2 := HT.out.2.2.2 (.slice q2 n.el.length d2) O (mks at_ n.th (mk1 at_ n.nm ld)) g mb c w1 (fun j hj => Nat.lt_of_lt_of_le (HO.out.1 j hj) hz1.size) HO.out.2 HM.out.2.1 (nv_gw HT.out.2.1 hz1 HO.out.1 HO.out.2) (mp_gw HM.out.1 hz1 HM.out.2.1) hl1 (fun s i h => by rw [e2]; exact HM.out.2.2 s i h) (by omega)
        rw [e2] at hc2
        refine hc2.mono ?_
        rintro e w2 ⟨rfl, hl2, hg2⟩
        exact ⟨rfl, hz1.trans hg2, by rw [HY.out.2.2.2.1]; exact hl2⟩
      have HKEY := hid key
      clear key hbne kb hcl ht he hN hm hp ea hB hG zb vb hwg hGy hBy hO hOg hstep hk hlen
      cases hlk : lk at_ n.nm with
      | none =>
        have hlo := look_no y mb n.nm at_ hmy hlk
        have hkc := HKEY.out y HY.out.1 (by unfold mk1; rw [hlk]; exact HY.out.2.1) rfl
        clear hmy hlk
        go_wp2_with fail
        refine hkc.mono ?_
        rintro e w1 ⟨rfl, hg1, hb1, hk2⟩
        have v1 := hb1.trans HY.out.2.2.1
        clear hkc hlo hy g0 g1 g2 g3 g4 g5 g6 g7 g8 c0 c1 c2 c3 c4 c5 c6 c7 c8 hb1
        obtain ⟨c0, c1, c2, c3, c4, c5, c6, c7, c8⟩ := nd_cells v1
        clear v1 hg1
        go_wp2_with fail
        refine hk2.mono ?_
        rintro e w2 ⟨rfl, hg2, hl2⟩
        clear hk2 c0 c1 c2 c3 c4 c5 c6 c7 c8
        have HE := hid (And.intro hg2 hl2)
        clear hg2 hl2
        go_wp2
        go_roundw
        case rel =>
          first
            | exact ⟨k + 1, by omega, by go_num, HE.out.1, HE.out.2⟩
            | ((repeat apply Exists.intro); refine ⟨⟨k + 1, by omega, ?_, HE.out.1, HE.out.2⟩, rfl⟩; go_num)
        case measure => simp [intOf]; omega
      | some i =>
        obtain ⟨j0, j1⟩ := HM.out.2.2 _ _ hlk
        obtain ⟨j, rfl⟩ : ∃ j : Nat, i = (j : Int) := ⟨i.toNat, by omega⟩
        have j2 : (j : Int) < led.length := j1
        have hlo := look_yes y mb n.nm (j : Int) at_ hmy hlk
        obtain ⟨bb, hbb⟩ : ∃ bb, ld[j]? = some bb := ⟨_, List.getElem?_eq_getElem (by have := HY.out.2.2.2.2.1; omega)⟩
        have fc := HY.out.2.1.cell j bb hbb
        have ff := HY.out.2.1.fro j
        have hkc := HKEY.out (y.setCell ⟨g, j, none⟩ (.bool true)) (HY.out.1.setG _ _) (by unfold mk1; rw [hlk]; exact HY.out.2.1.set j true) (S.setCell_other _ _ _ _ _ HY.out.2.2.2.2.2)
        have v1 : (y.setCell ⟨g, j, none⟩ (.bool true)).heap[wr.heap.size]? = _ := (S.setCell_other y g j wr.heap.size (.bool true) HY.out.2.2.2.2.2).trans HY.out.2.2.1
        obtain ⟨e0, e1, e2, e3, e4, e5, e6, e7, e8⟩ := nd_cells v1
        clear hmy hlk hbb v1 j0 j1
        go_wp2_with fail
        refine hkc.mono ?_
        rintro e w1 ⟨rfl, hg1, hb1, hk2⟩
        have v1 := hb1.trans HY.out.2.2.1
        clear hkc hlo hy g0 g1 g2 g3 g4 g5 g6 g7 g8 c0 c1 c2 c3 c4 c5 c6 c7 c8 hb1 e0 e1 e2 e3 e4 e5 e6 e7 e8 fc ff
        obtain ⟨c0, c1, c2, c3, c4, c5, c6, c7, c8⟩ := nd_cells v1
        clear v1 hg1
        go_wp2_with fail
        refine hk2.mono ?_
        rintro e w2 ⟨rfl, hg2, hl2⟩
        clear hk2 c0 c1 c2 c3 c4 c5 c6 c7 c8
        have HE := hid (And.intro hg2 hl2)
        clear hg2 hl2
        go_wp2
        go_roundw
        case rel =>
          first
            | exact ⟨k + 1, by omega, by go_num, HE.out.1, HE.out.2⟩
            | ((repeat apply Exists.intro); refine ⟨⟨k + 1, by omega, ?_, HE.out.1, HE.out.2⟩, rfl⟩; go_num)
        case measure => simp [intOf]; omega
    · have i1 : ¬ (k : Int) < l.length := by omega
      rw [List.take_of_length_le (by omega)] at hB
      have HB := hid (And.intro hB hG)
      clear hB hG
      go_wp2
      go_end0
      exact ⟨rfl, HB.out.1, HB.out.2⟩
theorem mark_any (at_ : En) (l : List Nd) : MKE at_ l := mark_of at_ l fun m _ =>
  Nd.ind (P := fun n => MKE at_ n.th /\ MKE at_ n.el) (fun n h1 h2 => ⟨mark_of at_ n.th h1, mark_of at_ n.el h2⟩) m
open Go.Proofs.YtlilefhmohkfkaaGreatDoor.Y (Nd Df Ps ndc dfc hid NV DV D1 cells6)
open R (En MP lk)
set_option linter.unusedVariables false
set_option linter.unusedSimpArgs false
set_option maxHeartbeats 2000000
set_option maxRecDepth 100000
def bodyAt (ws : List Df) (k : Nat) : List Nd := match ws[k]? with | none => [] | some d => d.body
def dnn (at_ : En) (ws : List Df) : Nat -> List Bool -> List Bool
 | 0, l => l
 | k + 1, l => dnn at_ ws k (if l.getD k false then mks at_ (bodyAt ws k) l else l)
def ledP (at_ : En) (ws : List Df) (m : Nat) : List Bool := dnn at_ ws (m + 1) ((List.replicate ws.length false).set m true)
theorem dnn_len (at_ : En) (ws : List Df) : ∀ (k : Nat) (l : List Bool), (dnn at_ ws k l).length = l.length
 | 0, l => rfl
 | k + 1, l => by
  rw [dnn, dnn_len at_ ws k]
  split
  ·exact mks_len _ _ _
  ·rfl
theorem ledP_len (at_ : En) (ws : List Df) (m : Nat) : (ledP at_ ws m).length = ws.length := by unfold ledP; rw [dnn_len]; simp
theorem Gw.below0 {W V : World} (h : Gw W.heap.size W V) : Below W.heap.size W V := ⟨h.os, h.tape, h.output, h.size, fun k hk => h.block k hk (by omega)⟩
theorem infoB : (Tryz.prog.info? 4).map (fun i => (i.zero, i.size, i.bytes)) = some (some (.bool false), 1, 1) := by kernel_rfl
theorem run_makeB (W : World) (n : Nat) (h : n <= 1048576) : ∃ W0, (Instr.makeSlice 77 (.int .i64 (n : Int)) (.int .i64 (n : Int))).run Tryz.prog W = .ok (.slice (some ⟨W.heap.size, 0, none⟩) n n) W0 /\ LB W0 W.heap.size (List.replicate n false) /\ Below W.heap.size W W0 := by
 obtain ⟨i0, hi, hz0, hz1, hz2⟩ := info_parts infoB
 have hb' : (i0.bytes : Int) * (n : Int) <= 281474976710656 := by rw [hz2]; omega
 have hr := run_make (P := Tryz.prog) W 77 4 i0 _ Tryz.underlying77 hi hz0 .i64 .i64 n n (by omega) (Int.le_refl _) hb' (by omega)
 simp only [Int.toNat_natCast, hz1, Nat.mul_one] at hr
 refine ⟨_, hr, ?_, (Below.refl _ _).alloc (Nat.le_refl _) _⟩
 unfold LB
 rw [heap_alloc_new]
 congr 2
 apply Array.toList_inj.1
 rw [List.toList_toArray, List.map_replicate]
 exact toList_madeCells_one (.bool false) n
theorem ledTo_any (at_ : En) (ws : List Df) (m : Nat) (hm : m < ws.length) (hw : ws.length <= 1048576) (hat : ∀ s i, lk at_ s = some i -> 0 <= i /\ i < ws.length) (v : Value) (O : Nat -> Prop) (mb : Nat) (W : World) (hO : ∀ j, O j -> j < W.heap.size) (h : DV W O v ws) (hM : MP W mb at_) :
  Calls Tryz.prog 32 #[v, .map (some mb), .int .i64 (m : Int)] W fun e w' => e = .returned (.slice (some ⟨W.heap.size, 0, none⟩) ws.length ws.length) /\ LB w' W.heap.size (ledP at_ ws m) /\ Below W.heap.size W w' := by
 obtain ⟨p, c, rfl, hl, hp⟩ := h
 obtain ⟨W0, hmk, hL0, hB0⟩ := run_makeB W ws.length hw
 have hmb : mb ≠ W.heap.size := by have := hM.lt; omega
 have hOg : ¬ O W.heap.size := fun h => by have := hO _ h; omega
 have i0 : (m : Int) < ws.length := by omega
 have fc := hL0.cell m false (by simp [hm])
 have ff := hL0.fro m
 have hL1 := hL0.set m true
 have hG1 : Gw W.heap.size W (W0.setCell ⟨W.heap.size, m, none⟩ (.bool true)) := (Gw.of (g := W.heap.size) hB0).setG m (.bool true)
 obtain ⟨R, hR⟩ : ∃ R, ledP at_ ws m = R := ⟨_, rfl⟩
 have HR : Y.Hd (R = dnn at_ ws (m + 1) ((List.replicate ws.length false).set m true)) := ⟨hR.symm⟩
 rw [hR]
 have HS := hid (And.intro hL1 hG1)
 have HM := hid (And.intro hM (And.intro hmb hat))
 have HO := hid (And.intro hO hOg)
 clear hR hL1 hG1 hM hmb hat hO hOg hL0 hB0
 go_enter Tryz.func32, Tryz.ntmps32
 go_wp2
 clear hmk fc ff
 go_loopw [8] (fun ix wr => ∃ (k : Nat) (l : List Bool), k <= m + 1 /\ ix = .int .i64 ((k : Int) - 1) /\ l.length = ws.length /\ LB wr W.heap.size l /\ Gw W.heap.size W wr /\ R = dnn at_ ws k l) (fun ix _ => (intOf ix + 1).toNat)
 case atStart => exact ⟨m + 1, _, by omega, by simp, by simp, HS.out.1, HS.out.2, HR.out⟩
 case round =>
  obtain ⟨k, l, hk, rfl, hll, hL, hG, hR⟩ := hrel
  cases k with
  | zero =>
   have HE := hid (And.intro hL (And.intro hG hR))
   clear hL hG hR
   have e0 : ((0 : Nat) : Int) - 1 = -1 := by decide
   rw [e0]
   go_wp2
   go_ret
   refine ⟨rfl, ?_, HE.out.2.1.below0⟩
   rw [HE.out.2.2]
   exact HE.out.1
  | succ j =>
   have e0 : ((j + 1 : Nat) : Int) - 1 = (j : Int) := by omega
   rw [e0]
   have hj : j < ws.length := by omega
   have i1 : (j : Int) < ws.length := by omega
   have i2 : (0 : Int) <= (j : Int) := by omega
   have ea := List.getElem?_eq_getElem hj
   generalize ws[j] = d at *
   obtain ⟨b, o, rfl, hOb, bv, hcl, hN⟩ := hp j d ea
   obtain ⟨q, cq, rfl, _, _⟩ := hN.ex
   have hbne : b ≠ W.heap.size := fun e => HO.out.2 (e ▸ hOb)
   have k1 := hG.block b (HO.out.1 b hOb) hbne
   obtain ⟨g0, g1, g2, g3, g4, g5⟩ := cells6 fun t x hx => (World.cell?_of_block (w := W) (a := ⟨b, o + j * 6 + t, none⟩) k1).trans (hcl t x hx)
   obtain ⟨bb, hbb⟩ : ∃ bb, l[j]? = some bb := ⟨_, List.getElem?_eq_getElem (by omega)⟩
   have fc := hL.cell j bb hbb
   rw [dnn, List.getD_eq_getElem?_getD, hbb, Option.getD_some] at hR
   have hbd : bodyAt ws j = d.body := by unfold bodyAt; rw [ea]
   rw [hbd] at hR
   cases bb with
   | false =>
    replace hR : R = dnn at_ ws j l := hR
    have HE := hid (And.intro hL (And.intro hG (And.intro hR hll)))
    clear hL hG hR hll hp hN hcl ea k1 hbd hbb hbne
    go_wp2
    go_roundw
    case rel =>
     first
      | exact ⟨j, l, by omega, by go_num, HE.out.2.2.2, HE.out.1, HE.out.2.1, HE.out.2.2.1⟩
      | ((repeat apply Exists.intro); refine ⟨⟨j, l, by omega, ?_, HE.out.2.2.2, HE.out.1, HE.out.2.1, HE.out.2.2.1⟩, rfl⟩; go_num)
    case measure => simp [intOf] <;> omega
   | true =>
    replace hR : R = dnn at_ ws j (mks at_ d.body l) := hR
    have hcm := mark_any at_ d.body _ O l W.heap.size mb ws.length wr (fun j hj => Nat.lt_of_lt_of_le (HO.out.1 j hj) hG.size) HO.out.2 HM.out.2.1 (nv_gw hN hG HO.out.1 HO.out.2) (mp_gw HM.out.1 hG HM.out.2.1) hL (fun s i h => by rw [hll]; exact HM.out.2.2 s i h) (by omega)
    rw [hll] at hcm
    have HE := hid (And.intro hG (And.intro hR hll))
    clear hL hG hR hll hp hN hcl ea k1 hbd hbb hbne
    go_wp2_with fail
    refine hcm.mono ?_
    rintro e w1 ⟨rfl, hl1, hg1⟩
    have HF := hid (And.intro hl1 (HE.out.1.trans hg1))
    clear hcm hl1 hg1 g0 g1 g2 g3 g4 g5 fc
    go_wp2
    go_roundw
    case rel =>
     first
      | exact ⟨j, mks at_ d.body l, by omega, by go_num, by rw [mks_len]; exact HE.out.2.2, HF.out.1, HF.out.2, HE.out.2.1⟩
      | ((repeat apply Exists.intro); refine ⟨⟨j, mks at_ d.body l, by omega, ?_, by rw [mks_len]; exact HE.out.2.2, HF.out.1, HF.out.2, HE.out.2.1⟩, rfl⟩; go_num)
    case measure => simp [intOf] <;> omega
open Go.Proofs.YtlilefhmohkfkaaGreatDoor.Y (Nd Df Ps)
open R (En lk numb chk Bk dsE dfE)
set_option linter.unusedVariables false
set_option linter.unusedSimpArgs false
def nMain : ByteArray := ⟨#[109, 97, 105, 110]⟩
def atW (ds : List Df) : En := numb ((wordsOf ds).map (·.nm)) 0
def mainAt (ds : List Df) : Nat := match lk (atW ds) nMain with | none => 0 | some i => i.toNat
def fb : List Bool -> List Ty -> Option (Int × Ps)
 | b :: bs, t :: ts => if b = true /\ t.e ≠ 0 then some (t.e, t.p) else fb bs ts
 | _, _ => none
def lastOf (ds : List Df) (m : Nat) : Int × Ps :=
 match (shs ds)[m]?, (wordsOf ds)[m]? with
 | some t, some d => if t.i ≠ 0 \/ t.o ≠ 0 then (154, d.p) else (0, (0, 0))
 | _, _ => (0, (0, 0))
def typP (ds : List Df) (bs : List Bk) : Int × Ps :=
 if chk ds bs = 0 then (fb (ledP (atW ds) (wordsOf ds) (mainAt ds)) (shs ds)).getD (lastOf ds (mainAt ds)) else (chk ds bs, (0, 0))
theorem fb_cons (b : Bool) (t : Ty) (bs : List Bool) (ts : List Ty) : fb (b :: bs) (t :: ts) = if b = true /\ t.e ≠ 0 then some (t.e, t.p) else fb bs ts := rfl
theorem lk_mem (x : ByteArray) : ∀ (ns : List ByteArray) (i : Nat), x ∈ ns -> ∃ n : Nat, lk (numb ns i) x = some ((i + n : Nat) : Int) /\ n < ns.length /\ ns[n]? = some x
 | [], i, h => by simp at h
 | s :: r, i, h => by
  rw [numb, lk]
  by_cases hs : s = x
  ·rw [if_pos hs]
   exact ⟨0, by simp, by simp, by simp [hs]⟩
  ·rw [if_neg hs]
   have hm : x ∈ r := by
    rcases List.mem_cons.1 h with h | h
    ·exact absurd h.symm hs
    ·exact h
   obtain ⟨n, h1, h2, h3⟩ := lk_mem x r (i + 1) hm
   exact ⟨n + 1, by rw [h1]; congr 2; omega, by simp; omega, by simpa using h3⟩
theorem main_in {ds : List Df} {bs : List Bk} (h : chk ds bs = 0) : ∃ m : Nat, lk (atW ds) nMain = some (m : Int) /\ m < (wordsOf ds).length /\ mainAt ds = m := by
 have hm : ds.any R.isMain = true := by
  unfold chk at h
  rw [if_pos (chk_ds h)] at h
  by_cases hb : R.bkE (-1) bs = 0
  ·rw [if_pos hb] at h
   cases e : ds.any R.isMain with
   | true => rfl
   | false => rw [e] at h; cases h
  ·rw [if_neg hb] at h; exact absurd h hb
 obtain ⟨d, hd, hi⟩ := List.any_eq_true.1 hm
 unfold R.isMain at hi
 simp only [Bool.and_eq_true, decide_eq_true_eq] at hi
 have hw : nMain ∈ (wordsOf ds).map (·.nm) := List.mem_map.2 ⟨d, List.mem_filter.2 ⟨hd, hi.1⟩, hi.2⟩
 obtain ⟨n, h1, h2, _⟩ := lk_mem nMain _ 0 hw
 rw [Nat.zero_add] at h1
 refine ⟨n, h1, by simpa using h2, ?_⟩
 unfold mainAt
 have h1' : lk (atW ds) nMain = some (n : Int) := h1
 rw [h1']
 rfl
theorem at_in (ds : List Df) (s : ByteArray) (i : Int) (h : lk (atW ds) s = some i) : 0 <= i /\ i < (wordsOf ds).length := by
 obtain ⟨n, rfl, hn⟩ := lk_at s _ 0 i h
 have := (List.getElem?_eq_some_iff.1 hn).1
 rw [List.length_map] at this
 omega
theorem shs_len (ds : List Df) : (shs ds).length = (wordsOf ds).length := by unfold shs; rw [tysP_len]; simp
open Go.Proofs.YtlilefhmohkfkaaGreatDoor.Y (Nd Df Ps ndc dfc hid NV DV D1 cells6 BV)
open R (En MP lk numb chk Bk find_any checkKey_str)
set_option linter.unusedVariables false
set_option linter.unusedSimpArgs false
set_option maxHeartbeats 2000000
set_option maxRecDepth 100000
theorem look_one (W : World) (mb : Nat) (x : ByteArray) (v : Int) (L : En) (h : MP W mb L) (hn : lk L x = some v) :
  (Instr.lookup 75 (.map (some mb)) (.string x) false).run Tryz.prog W = .ok (.int .i64 v) W := by
 obtain ⟨k, hk⟩ := find_any x L 0 0
 rw [hn] at hk
 unfold MP at h
 simp [Instr.lookup, run_underlying Tryz.underlying75, getObj, Sem.run, h, checkKey_str, Instr.findKey, run_underlying Tryz.underlying9, hk]
theorem sizePos : (Tryz.prog.info? 25).map (·.size) = some 2 := by kernel_rfl
theorem tp_end {T : Array Value} {w : World} {n1 : Nat} {e p1 p2 : Int} (h2 : T.getD 2 undef = .int .i64 e) (h3 : T.getD 3 undef = .pointer (some ⟨n1, 0, none⟩)) (hb : w.heap[n1]? = some (.cells [Value.int .i64 p1, .int .i64 p2].toArray 25 (0, 0))) :
  (results Tryz.f18 T).run Tryz.prog w = .ok (.tuple #[.int .i64 e, .agg #[.int .i64 p1, .int .i64 p2]]) w := by
 have hf : Tryz.f18.results = #[.tmp 2, .cell 3 25] := rfl
 have e0 : (results Tryz.f18 T).run Tryz.prog w = ((asAddr (T.getD 3 undef)).run Tryz.prog w).andThen fun a w₁ => ((loadVar 25 a).run Tryz.prog w₁).andThen fun v w₂ => .ok (.tuple #[T.getD 2 undef, v]) w₂ := by
  simp only [results, hf]
  simp [Sem.run_bind, Result.andThen]
 rw [e0, h3, h2]
 simp [asAddr, run_loadVar_row w n1 _ 25 _ _ _ hb Tryz.underlying25 rfl sizePos]
theorem typable_any (ds : List Df) (bs : List Bk) (hd : ds.length <= 1048576) (hnm : ∀ d ∈ ds, d.nm.size <= maxLen) (hlb : bs.length <= 140737488355328) (dv bv : Value) (O : Nat -> Prop) (W : World) (hO : ∀ j, O j -> j < W.heap.size) (hD : DV W O dv ds) (hK : BV W O bv bs) :
  Calls Tryz.prog 18 #[.agg #[dv, bv]] W fun e w' => e = .returned (.tuple #[.int .i64 (typP ds bs).1, .agg #[.int .i64 (typP ds bs).2.1, .int .i64 (typP ds bs).2.2]]) /\ Below W.heap.size W w' := by
 obtain ⟨p1, c1, e1, _, _⟩ := id hD
 obtain ⟨p2, c2, e2, _⟩ := id hK
 subst e1 e2
 obtain ⟨W0, hW0⟩ : ∃ W0, W.alloc (.cells #[.slice p1 ds.length c1, .slice p2 bs.length c2] 35) = W0 := ⟨_, rfl⟩
 obtain ⟨W1, hW1⟩ : ∃ W1, W0.alloc (.cells #[.int .i64 0, .int .i64 0] 25) = W1 := ⟨_, rfl⟩
 have hs0 : W0.heap.size = W.heap.size + 1 := by rw [<- hW0]; simp
 have hB : Below W.heap.size W W1 := by rw [<- hW1, <- hW0]; exact ((Below.refl _ _).alloc (Nat.le_refl _) _).alloc (by simp) _
 have v0 : W1.heap[W.heap.size]? = some (.cells [.slice p1 ds.length c1, .slice p2 bs.length c2].toArray 35 (0, 0)) := by
  rw [<- hW1]; exact (Below.heap_alloc _ _ _ (by omega)).trans (by rw [<- hW0]; exact heap_alloc_new W _)
 have v1 : W1.heap[W0.heap.size]? = some (.cells [Value.int .i64 0, .int .i64 0].toArray 25 (0, 0)) := by rw [<- hW1]; exact heap_alloc_new W0 _
 have c0 := S.cell_of W1 _ 0 _ 35 _ v0 rfl
 have c1' := S.cell_of W1 _ 1 _ 35 _ v0 rfl
 have hc1 := R.check_any ds bs hnm hlb _ _ O W1 (fun j hj => Nat.lt_of_lt_of_le (hO j hj) hB.size) (hD.below hB hO) (hK.below hB hO)
 have HH := hid (And.intro hB (And.intro v0 (And.intro v1 (And.intro hD (And.intro hK (And.intro hO hs0))))))
 obtain ⟨R, hR⟩ : ∃ R, typP ds bs = R := ⟨_, rfl⟩
 have HR := hid hR
 rw [hR]
 clear hR hB v0 v1 hD hK hO hs0
 go_enter Tryz.func18, Tryz.ntmps18
 go_wp2_with fail
 refine hc1.mono ?_
 rintro e w1 ⟨rfl, hb1⟩
 have hB1 : Below W.heap.size W w1 := HH.out.1.trans (hb1.mono HH.out.1.size)
 have q0 := (hb1.block _ (S.lt_of HH.out.2.1)).trans HH.out.2.1
 have q1 := (hb1.block _ (S.lt_of HH.out.2.2.1)).trans HH.out.2.2.1
 clear hc1 hW0 hW1 c0 c1'
 have HV1 := hid (And.intro hB1 (And.intro q0 q1))
 clear hB1 q0 q1 hb1
 by_cases hz : chk ds bs = 0
 ·have HZ := hid hz
  rw [hz]
  obtain ⟨m, hm1, hm2, hm3⟩ := main_in hz
  have HMN := hid (And.intro hm1 (And.intro hm2 hm3))
  clear hz hm1 hm3
  have c0 := S.cell_of w1 _ 0 _ 35 _ HV1.out.2.1 rfl
  have c1 := S.cell_of w1 _ 1 _ 35 _ HV1.out.2.1 rfl
  have hcw := wordsOf_any ds hd _ (.slice p2 bs.length c2) ⟨_, _, _, rfl⟩ O w1 (fun j hj => Nat.lt_of_lt_of_le (HH.out.2.2.2.2.2.1 j hj) HV1.out.1.size) (HH.out.2.2.2.1.below HV1.out.1 HH.out.2.2.2.2.2.1)
  go_wp2_with fail
  refine hcw.mono ?_
  rintro e w2 ⟨wo, rfl, hb2, hdv⟩
  clear hcw c0 c1
  have hwl : (wordsOf ds).length <= 1048576 := Nat.le_trans (List.length_filter_le _ _) hd
  have hO2 : ∀ j, (O j \/ (w1.heap.size <= j /\ j < w2.heap.size)) -> j < w2.heap.size := fun j hj => by
   rcases hj with hj | hj
   ·exact Nat.lt_of_lt_of_le (HH.out.2.2.2.2.2.1 j hj) (Nat.le_trans HV1.out.1.size hb2.size)
   ·exact hj.2
  have hcp := placesOf_any (wordsOf ds) (words_new ds (chk_ds HZ.out)) wo _ w2 hO2 hdv
  have hB2 : Below W.heap.size W w2 := HV1.out.1.trans (hb2.mono HV1.out.1.size)
  obtain ⟨wp, wc, e3, _⟩ := id hdv
  subst e3
  have q2 := (hb2.block _ (S.lt_of HV1.out.2.2)).trans HV1.out.2.2
  have HD := hid (And.intro hdv (And.intro hO2 (And.intro hB2 (And.intro hwl q2))))
  clear hdv hO2 hB2 hwl hb2 q2
  go_wp2_with fail
  refine hcp.mono ?_
  rintro e w3 ⟨rfl, hb3, hM⟩
  clear hcp
  have hlo := look_one w3 w2.heap.size nMain (m : Int) _ hM HMN.out.1
  have hct := typed_any _ (wordsOf ds) HD.out.2.2.2.1 (words_qn ds (chk_ds HZ.out)) _ _ w2.heap.size w3 (fun j hj => Nat.lt_of_lt_of_le (HD.out.2.1 j hj) hb3.size) (HD.out.1.below hb3 HD.out.2.1) hM
  have HB3 := hid (And.intro (HD.out.2.2.1.trans (hb3.mono HD.out.2.2.1.size)) (And.intro ((hb3.block _ (S.lt_of HD.out.2.2.2.2)).trans HD.out.2.2.2.2) (And.intro hM hb3)))
  clear hb3 hM
  unfold nMain at hlo
  go_wp2_with fail
  refine hct.mono ?_
  rintro e w4 ⟨g, c, rfl, hb4, hR⟩
  have hcl := ledTo_any (atW ds) (wordsOf ds) m HMN.out.2.1 HD.out.2.2.2.1 (at_in ds) _ _ w2.heap.size w4 (fun j hj => Nat.lt_of_lt_of_le (HD.out.2.1 j hj) (Nat.le_trans HB3.out.2.2.2.size hb4.size)) ((HD.out.1.below HB3.out.2.2.2 HD.out.2.1).below hb4 (fun j hj => Nat.lt_of_lt_of_le (HD.out.2.1 j hj) HB3.out.2.2.2.size)) ((hb4.block _ HB3.out.2.2.1.lt).trans HB3.out.2.2.1)
  have HR4 := hid (And.intro hb4 (And.intro hR ((hb4.block _ (S.lt_of HB3.out.2.1)).trans HB3.out.2.1)))
  clear hct hb4 hR hlo
  go_wp2_with fail
  refine hcl.mono ?_
  rintro e w5 ⟨rfl, hL5, hb5⟩
  obtain ⟨g', c', eg, hgB, hg4, hce⟩ := own_cell HR4.out.2.1 (by omega)
  cases eg
  have hsl := shs_len ds
  have hll := ledP_len (atW ds) (wordsOf ds) m
  have q5 := (hb5.block _ (S.lt_of HR4.out.2.2)).trans HR4.out.2.2
  have hB5 : Below W.heap.size W w5 := (HB3.out.1.trans (HR4.out.1.mono HB3.out.1.size)).trans (hb5.mono (Nat.le_trans HB3.out.1.size HR4.out.1.size))
  have hz5 : W0.heap.size < w2.heap.size := S.lt_of HD.out.2.2.2.2
  have hdf : DV w5 _ (.slice wp (wordsOf ds).length wc) (wordsOf ds) := ((HD.out.1.below HB3.out.2.2.2 HD.out.2.1).below HR4.out.1 (fun j hj => Nat.lt_of_lt_of_le (HD.out.2.1 j hj) HB3.out.2.2.2.size)).below hb5 (fun j hj => Nat.lt_of_lt_of_le (HD.out.2.1 j hj) (Nat.le_trans HB3.out.2.2.2.size HR4.out.1.size))
  obtain ⟨L, hLe⟩ : ∃ L, ledP (atW ds) (wordsOf ds) m = L := ⟨_, rfl⟩
  obtain ⟨T, hTe⟩ : ∃ T, shs ds = T := ⟨_, rfl⟩
  have hRR : R = (fb L T).getD (lastOf ds m) := by
   rw [<- HR.out]
   unfold typP
   rw [if_pos HZ.out, HMN.out.2.2, hLe, hTe]
  rw [hLe] at hL5 hll
  rw [hTe] at hsl
  have hcel : ∀ (i : Nat) (t : Ty) (j : Nat) (x : Value), T[i]? = some t -> (tyc t)[j]? = some x -> w5.cell? ⟨g, i * 9 + j, none⟩ = some x := fun i t j x hi hj => by
   refine (World.cell?_of_block (w := w4) (a := ⟨g, i * 9 + j, none⟩) (hb5.block g hg4)).trans (hce _ _ ?_)
   have hj9 : j < 9 := by
    have := (List.getElem?_eq_some_iff.1 hj).1
    simpa [tyc] using this
   have : S.en tyc (shs ds) = S.en tyc T := by rw [hTe]
   show (S.en tyc (shs ds))[i * 9 + j]? = some x
   rw [this]
   exact (S.en_get (e := tyc) (s := 9) (fun a => rfl) T i j t hi hj9).trans hj
  have hne1 : g ≠ W0.heap.size := by have := HB3.out.2.2.2.size; omega
  have hne2 : w4.heap.size ≠ W0.heap.size := by have := HB3.out.2.2.2.size; have := HR4.out.1.size; omega
  have H5 := hid (And.intro hB5 (And.intro q5 (And.intro hL5 (And.intro hcel (And.intro hdf (And.intro hRR (And.intro hsl (And.intro hll (And.intro hne1 (And.intro hne2 (Nat.lt_of_lt_of_le hg4 hb5.size)))))))))))
  have hi5 : T.length = (wordsOf ds).length := hsl
  have HOO : Y.Hd (∀ j, (O j \/ (w1.heap.size <= j /\ j < w2.heap.size)) -> j < w5.heap.size) := ⟨fun j hj => Nat.lt_of_lt_of_le (HD.out.2.1 j hj) (Nat.le_trans (Nat.le_trans HB3.out.2.2.2.size HR4.out.1.size) hb5.size)⟩
  have HTe := hid hTe
  clear hcl hL5 hb5 hce hgB hg4 hLe hTe hsl hll q5 hB5 hz5 hdf hRR hcel hne1 hne2
  obtain ⟨n, hn⟩ : ∃ n, (wordsOf ds).length = n := ⟨_, rfl⟩
  have hn20 : n <= 1048576 := by rw [<- hn]; exact HD.out.2.2.2.1
  rw [hn]
  have HN := hid hn
  have Hi5 := hid hi5
  clear hn hi5 hm2
  go_wp2
  go_loopw [33] (fun ix wr => ∃ k : Nat, k <= n /\ ix = .int .i64 (k : Int) /\ Below w5.heap.size w5 wr /\ fb L T = fb (L.drop k) (T.drop k)) (fun ix _ => n - (intOf ix).toNat)
  case atStart => exact ⟨0, by omega, rfl, Below.refl _ _, rfl⟩
  case round =>
   obtain ⟨k, hk, rfl, hb, hfb⟩ := hrel
   by_cases hlt : k < n
   ·have i1 : (k : Int) < n := by omega
    have hLk : k < L.length := by have := H5.out.2.2.2.2.2.2.2.1; have := HN.out; omega
    have hTk : k < T.length := by have := Hi5.out; have := HN.out; omega
    have eL := List.getElem?_eq_getElem hLk
    have eT := List.getElem?_eq_getElem hTk
    rw [List.drop_eq_getElem_cons hLk, List.drop_eq_getElem_cons hTk, fb_cons] at hfb
    generalize L[k] = bb at *
    generalize T[k] = t at *
    have kb := hb.block g H5.out.2.2.2.2.2.2.2.2.2.2
    have cx : ∀ (j : Nat) (x : Value), (tyc t)[j]? = some x -> wr.cell? ⟨g, k * 9 + j, none⟩ = some x := fun j x hj => (World.cell?_of_block (w := w5) (a := ⟨g, k * 9 + j, none⟩) kb).trans (H5.out.2.2.2.1 k t j x eT hj)
    have d0 := cx 0 _ rfl
    have d1 := cx 1 _ rfl
    have d2 := cx 2 _ rfl
    have d3 := cx 3 _ rfl
    have d4 := cx 4 _ rfl
    have d5 := cx 5 _ rfl
    have d6 := cx 6 _ rfl
    have d7 := cx 7 _ rfl
    have d8 := cx 8 _ rfl
    rw [Nat.add_zero] at d0
    obtain ⟨y, hy⟩ : ∃ y, wr.alloc (.cells #[.string t.nm, .int .i64 t.i, .int .i64 t.o, .int .i64 t.d, .int .i64 t.r, .bool t.nv, .int .i64 t.e, .int .i64 t.p.1, .int .i64 t.p.2] 47) = y := ⟨_, rfl⟩
    have zb : Below wr.heap.size wr y := by rw [<- hy]; exact (Below.refl _ _).alloc (Nat.le_refl _) _
    have vb : y.heap[wr.heap.size]? = some (.cells (tyc t).toArray 47 (0, 0)) := by rw [<- hy]; exact heap_alloc_new wr _
    have hby : Below w5.heap.size w5 y := hb.trans (zb.mono hb.size)
    have fcl : y.cell? ⟨w4.heap.size, k, none⟩ = some (.bool bb) := (World.cell?_of_block (w := w5) (a := ⟨w4.heap.size, k, none⟩) (hby.block _ H5.out.2.2.1.lt)).trans (H5.out.2.2.1.cell k bb eL)
    have t6 := S.cell_of y _ 6 _ 47 _ vb rfl
    have t7 := S.cell_of y _ 7 _ 47 _ vb rfl
    have t8 := S.cell_of y _ 8 _ 47 _ vb rfl
    have q6 := (hby.block _ (S.lt_of H5.out.2.1)).trans H5.out.2.1
    have HY := hid (And.intro hby (And.intro hfb (And.intro q6 (And.intro hk vb))))
    clear kb cx zb vb hby hfb hb eL eT q6 hk hLk hTk
    cases bb with
    | false =>
     have HF : Y.Hd (fb L T = fb (L.drop (k + 1)) (T.drop (k + 1))) := ⟨by rw [HY.out.2.1, if_neg (fun h => by cases h.1)]⟩
     go_wp2
     go_roundw
     case rel =>
      first
       | exact ⟨k + 1, by omega, by go_num, HY.out.1, HF.out⟩
       | ((repeat apply Exists.intro); refine ⟨⟨k + 1, by omega, ?_, HY.out.1, HF.out⟩, rfl⟩; go_num)
     case measure => simp [intOf]; omega
    | true =>
     by_cases he : t.e = 0
     ·have HF : Y.Hd (fb L T = fb (L.drop (k + 1)) (T.drop (k + 1))) := ⟨by rw [HY.out.2.1, if_neg (fun h => h.2 he)]⟩
      rw [he] at t6 d6 hy
      clear he
      go_wp2
      go_roundw
      case rel =>
       first
        | exact ⟨k + 1, by omega, by go_num, HY.out.1, HF.out⟩
        | ((repeat apply Exists.intro); refine ⟨⟨k + 1, by omega, ?_, HY.out.1, HF.out⟩, rfl⟩; go_num)
      case measure => simp [intOf]; omega
     ·have hne : (t.e != 0) = true := by simpa using he
      have HF : Y.Hd (R = (t.e, t.p)) := ⟨by rw [H5.out.2.2.2.2.2.1, HY.out.2.1, if_pos ⟨rfl, he⟩]; rfl⟩
      clear he
      go_upto_region 12 with fail
      clear d0 d1 d2 d3 d4 d5 d6 d7 d8 t6 t7 t8 hy fcl
      have hS : ∀ wz, Below y.heap.size y wz -> (fun wz : World => wz.cell? ⟨wr.heap.size, 6, none⟩ = some (.int .i64 t.e) /\ wz.cell? ⟨wr.heap.size, 7, none⟩ = some (.int .i64 t.p.1) /\ wz.cell? ⟨wr.heap.size, 8, none⟩ = some (.int .i64 t.p.2)) wz := fun wz hz => by
       have hv := (hz.block _ (S.lt_of HY.out.2.2.2.2)).trans HY.out.2.2.2.2
       exact ⟨S.cell_of wz _ 6 _ 47 _ hv rfl, S.cell_of wz _ 7 _ 47 _ hv rfl, S.cell_of wz _ 8 _ 47 _ hv rfl⟩
      refine wp_region_drop [5] (S := fun wz : World => wz.cell? ⟨wr.heap.size, 6, none⟩ = some (.int .i64 t.e) /\ wz.cell? ⟨wr.heap.size, 7, none⟩ = some (.int .i64 t.p.1) /\ wz.cell? ⟨wr.heap.size, 8, none⟩ = some (.int .i64 t.p.2)) (by kernel_rfl) (hS y.drew (Below.refl _ _).drew) (fun hHeld => ?_)
      have HYd := hid (And.intro (show Below W.heap.size W y.drew from (H5.out.1.trans (HY.out.1.mono H5.out.1.size)).drew) (show y.drew.heap[W0.heap.size]? = _ from HY.out.2.2.1))
      generalize y.drew = yd at *
      clear hS
      refine E.xP 0 (v := ?_) rfl (by kernel_rfl) (fun c a w h => h) (by rfl) ?_ (fun _ => hHeld) ?_
      rotate_left
      ·(intro w hSw; clear hSw; go_simp; try with_reducible rfl)
      simp only [E.pts]
      refine E.xT 1 (v := ?_) rfl (by kernel_rfl) (fun c a w h => h) (by rfl) ?_ hHeld ?_
      rotate_left
      ·(intro w hSw; (try dsimp only at hSw); go_simp; try with_reducible rfl)
      simp only [E.pts]
      refine E.xP 2 (v := ?_) rfl (by kernel_rfl) (fun c a w h => h) (by rfl) ?_ (fun _ => hHeld) ?_
      rotate_left
      ·(intro w hSw; clear hSw; go_simp; try with_reducible rfl)
      simp only [E.pts]
      refine E.xT 3 (v := ?_) rfl (by kernel_rfl) (fun c a w h => h) (by rfl) ?_ hHeld ?_
      rotate_left
      ·(intro w hSw; (try dsimp only at hSw); go_simp; try with_reducible rfl)
      simp only [E.pts]
      refine E.xP 4 (v := ?_) rfl (by kernel_rfl) (fun c a w h => h) (by rfl) ?_ (fun _ => hHeld) ?_
      rotate_left
      ·(intro w hSw; clear hSw; go_simp; try with_reducible rfl)
      simp only [E.pts]
      have hst := HYd.out.2
      have r0 := S.cell_of yd _ 0 _ 25 _ hst rfl
      have r1 := S.cell_of yd _ 1 _ 25 _ hst rfl
      have f0 := S.frozen_of yd W0.heap.size 0 _ 25 hst
      have f1 := S.frozen_of yd W0.heap.size 1 _ 25 hst
      have hW0s : W.heap.size <= W0.heap.size := by have := HH.out.2.2.2.2.2.2; omega
      have hF2 := S.setCell_heap _ W0.heap.size 1 _ 25 (.int .i64 t.p.2) (S.setCell_heap yd W0.heap.size 0 _ 25 (.int .i64 t.p.1) hst)
      have HFin := hid (And.intro hF2 ((HYd.out.1.setCell (p := ⟨W0.heap.size, 0, none⟩) hW0s (.int .i64 t.p.1)).setCell (p := ⟨W0.heap.size, 1, none⟩) hW0s (.int .i64 t.p.2)))
      clear hF2 hst hW0s
      refine wpD_ready (rs := [5]) (by kernel_rfl) (by simp) ?_
      refine AllD.late rfl (by kernel_rfl) (fun K hK => ?_)
      go_simp
      refine hK.out _ _ ?_
      clear hK K
      try simp only [E.pts]
      refine wpD_done (by kernel_rfl) ?_ _
      clear r0 r1 f0 f1
      go_wp2
      refine bodyPost_ret (tp_end rfl rfl HFin.out.1) rfl ⟨?_, HFin.out.2⟩
      rw [HF.out]
   ·have i1 : ¬ (k : Int) < n := by omega
    have hkn : k = n := by omega
    subst hkn
    have hfn : fb L T = none := by
     rw [hfb, List.drop_eq_nil_of_le (by have := H5.out.2.2.2.2.2.2.2.1; have := HN.out; omega)]
     rfl
    have hmT : m < T.length := by have := Hi5.out; have := HMN.out.2.1; omega
    have hmW : m < (wordsOf ds).length := HMN.out.2.1
    have eT := List.getElem?_eq_getElem hmT
    have eW := List.getElem?_eq_getElem hmW
    have hR2 : R = lastOf ds m := by rw [H5.out.2.2.2.2.2.1, hfn]; rfl
    generalize hTm : T[m] = t at *
    generalize hWm : (wordsOf ds)[m] = d at *
    have hLo : lastOf ds m = if t.i ≠ 0 \/ t.o ≠ 0 then (154, d.p) else (0, (0, 0)) := by
     unfold lastOf
     rw [HTe.out, eT, eW]
    rw [hLo] at hR2
    have kb := hb.block g H5.out.2.2.2.2.2.2.2.2.2.2
    have cx : ∀ (j : Nat) (x : Value), (tyc t)[j]? = some x -> wr.cell? ⟨g, m * 9 + j, none⟩ = some x := fun j x hj => (World.cell?_of_block (w := w5) (a := ⟨g, m * 9 + j, none⟩) kb).trans (H5.out.2.2.2.1 m t j x eT hj)
    have d1 := cx 1 _ rfl
    have d2 := cx 2 _ rfl
    obtain ⟨wp', wc', ew, hwl5, hdp⟩ := H5.out.2.2.2.2.1
    cases ew
    obtain ⟨b, o, rfl, hOb, bv, hcl, hN⟩ := hdp m d eW
    have hbw : w5.heap.size <= wr.heap.size := hb.size
    have HO5 : Y.Hd (∀ j, (O j \/ (w1.heap.size <= j /\ j < w2.heap.size)) -> j < w5.heap.size) := ⟨HOO.out⟩
    obtain ⟨g0, g1, g2, g3, g4, g5⟩ := cells6 fun s x hx => (World.cell?_of_block (w := w5) (a := ⟨b, o + m * 6 + s, none⟩) (hb.block b (HO5.out b hOb))).trans (hcl s x hx)
    have HWr := hid (And.intro (H5.out.1.trans (hb.mono H5.out.1.size)) ((hb.block _ (S.lt_of H5.out.2.1)).trans H5.out.2.1))
    have im1 : (m : Int) < k := by have := HN.out; omega
    clear cx kb hdp hcl hN hwl5 hfb hfn hLo eT eW hmT hmW hb hTm hWm g0 g1 g2 g3
    by_cases hi0 : t.i = 0
    ·by_cases ho0 : t.o = 0
     ·have HF : Y.Hd (R = (0, (0, 0))) := ⟨by rw [hR2, if_neg (by rw [hi0, ho0]; simp)]⟩
      rw [hi0] at d1
      rw [ho0] at d2
      clear hR2 hi0 ho0 g4 g5
      have hst := HWr.out.2
      have r0 := S.cell_of wr _ 0 _ 25 _ hst rfl
      have r1 := S.cell_of wr _ 1 _ 25 _ hst rfl
      have f0 := S.frozen_of wr W0.heap.size 0 _ 25 hst
      have f1 := S.frozen_of wr W0.heap.size 1 _ 25 hst
      have hW0s : W.heap.size <= W0.heap.size := by have := HH.out.2.2.2.2.2.2; omega
      have hF2 := S.setCell_heap _ W0.heap.size 1 _ 25 (.int .i64 0) (S.setCell_heap wr W0.heap.size 0 _ 25 (.int .i64 0) hst)
      have HFin := hid (And.intro hF2 ((HWr.out.1.setCell (p := ⟨W0.heap.size, 0, none⟩) hW0s (.int .i64 0)).setCell (p := ⟨W0.heap.size, 1, none⟩) hW0s (.int .i64 0)))
      clear hF2 hst hW0s
      go_wp2
      refine bodyPost_ret (tp_end rfl rfl HFin.out.1) rfl ⟨?_, HFin.out.2⟩
      rw [HF.out]
     ·have hne : (t.o != 0) = true := by simpa using ho0
      have HF : Y.Hd (R = (154, d.p)) := ⟨by rw [hR2, if_pos (Or.inr ho0)]⟩
      rw [hi0] at d1
      clear hR2 hi0 ho0
      go_upto_region 15 with fail
      clear d1 d2
      have hS : ∀ wz, Below wr.heap.size wr wz -> (fun wz : World => wz.cell? ⟨b, o + m * 6 + 4, none⟩ = some (.int .i64 d.p.1) /\ wz.cell? ⟨b, o + m * 6 + 5, none⟩ = some (.int .i64 d.p.2)) wz := fun wz hz => by
       have hv := hz.block b (Nat.lt_of_lt_of_le (HO5.out b hOb) hbw)
       exact ⟨(World.cell?_of_block (w := wr) (a := ⟨b, o + m * 6 + 4, none⟩) hv).trans g4, (World.cell?_of_block (w := wr) (a := ⟨b, o + m * 6 + 5, none⟩) hv).trans g5⟩
      refine wp_region_drop [6] (S := fun wz : World => wz.cell? ⟨b, o + m * 6 + 4, none⟩ = some (.int .i64 d.p.1) /\ wz.cell? ⟨b, o + m * 6 + 5, none⟩ = some (.int .i64 d.p.2)) (by kernel_rfl) (hS wr.drew (Below.refl _ _).drew) (fun hHeld => ?_)
      have HYd := hid (And.intro (show Below W.heap.size W wr.drew from HWr.out.1.drew) (show wr.drew.heap[W0.heap.size]? = _ from HWr.out.2))
      generalize wr.drew = yd at *
      clear hS g4 g5
      refine E.zP (is := [0, 1, 2, 3]) ?_
      iterate 4
       refine E.yP (v := ?_) rfl (by kernel_rfl) (fun c a w h => h) (by rfl) ?_ (fun _ => hHeld) ?_
       rotate_left
       ·(intro w hSw; clear hSw; go_simp; try with_reducible rfl)
       simp only [E.pts]
      refine E.eP ?_
      refine E.xT 4 (v := ?_) rfl (by kernel_rfl) (fun c a w h => h) (by rfl) ?_ hHeld ?_
      rotate_left
      ·(intro w hSw; (try dsimp only at hSw); go_simp; try with_reducible rfl)
      simp only [E.pts]
      refine E.xP 5 (v := ?_) rfl (by kernel_rfl) (fun c a w h => h) (by rfl) ?_ (fun _ => hHeld) ?_
      rotate_left
      ·(intro w hSw; clear hSw; go_simp; try with_reducible rfl)
      simp only [E.pts]
      have hst := HYd.out.2
      have r0 := S.cell_of yd _ 0 _ 25 _ hst rfl
      have r1 := S.cell_of yd _ 1 _ 25 _ hst rfl
      have f0 := S.frozen_of yd W0.heap.size 0 _ 25 hst
      have f1 := S.frozen_of yd W0.heap.size 1 _ 25 hst
      have hW0s : W.heap.size <= W0.heap.size := by have := HH.out.2.2.2.2.2.2; omega
      have hF2 := S.setCell_heap _ W0.heap.size 1 _ 25 (.int .i64 d.p.2) (S.setCell_heap yd W0.heap.size 0 _ 25 (.int .i64 d.p.1) hst)
      have HFin := hid (And.intro hF2 ((HYd.out.1.setCell (p := ⟨W0.heap.size, 0, none⟩) hW0s (.int .i64 d.p.1)).setCell (p := ⟨W0.heap.size, 1, none⟩) hW0s (.int .i64 d.p.2)))
      clear hF2 hst hW0s
      refine wpD_ready (rs := [6]) (by kernel_rfl) (by simp) ?_
      refine AllD.late rfl (by kernel_rfl) (fun K hK => ?_)
      go_simp
      refine hK.out _ _ ?_
      clear hK K
      try simp only [E.pts]
      refine wpD_done (by kernel_rfl) ?_ _
      clear r0 r1 f0 f1
      go_wp2
      refine bodyPost_ret (tp_end rfl rfl HFin.out.1) rfl ⟨?_, HFin.out.2⟩
      rw [HF.out]
    ·have hne : (t.i != 0) = true := by simpa using hi0
     have HF : Y.Hd (R = (154, d.p)) := ⟨by rw [hR2, if_pos (Or.inl hi0)]⟩
     clear hR2 hi0
     go_upto_region 15 with fail
     clear d1 d2
     have hS : ∀ wz, Below wr.heap.size wr wz -> (fun wz : World => wz.cell? ⟨b, o + m * 6 + 4, none⟩ = some (.int .i64 d.p.1) /\ wz.cell? ⟨b, o + m * 6 + 5, none⟩ = some (.int .i64 d.p.2)) wz := fun wz hz => by
      have hv := hz.block b (Nat.lt_of_lt_of_le (HO5.out b hOb) hbw)
      exact ⟨(World.cell?_of_block (w := wr) (a := ⟨b, o + m * 6 + 4, none⟩) hv).trans g4, (World.cell?_of_block (w := wr) (a := ⟨b, o + m * 6 + 5, none⟩) hv).trans g5⟩
     refine wp_region_drop [6] (S := fun wz : World => wz.cell? ⟨b, o + m * 6 + 4, none⟩ = some (.int .i64 d.p.1) /\ wz.cell? ⟨b, o + m * 6 + 5, none⟩ = some (.int .i64 d.p.2)) (by kernel_rfl) (hS wr.drew (Below.refl _ _).drew) (fun hHeld => ?_)
     have HYd := hid (And.intro (show Below W.heap.size W wr.drew from HWr.out.1.drew) (show wr.drew.heap[W0.heap.size]? = _ from HWr.out.2))
     generalize wr.drew = yd at *
     clear hS g4 g5
     refine E.zP (is := [0, 1, 2, 3]) ?_
     iterate 4
      refine E.yP (v := ?_) rfl (by kernel_rfl) (fun c a w h => h) (by rfl) ?_ (fun _ => hHeld) ?_
      rotate_left
      ·(intro w hSw; clear hSw; go_simp; try with_reducible rfl)
      simp only [E.pts]
     refine E.eP ?_
     refine E.xT 4 (v := ?_) rfl (by kernel_rfl) (fun c a w h => h) (by rfl) ?_ hHeld ?_
     rotate_left
     ·(intro w hSw; (try dsimp only at hSw); go_simp; try with_reducible rfl)
     simp only [E.pts]
     refine E.xP 5 (v := ?_) rfl (by kernel_rfl) (fun c a w h => h) (by rfl) ?_ (fun _ => hHeld) ?_
     rotate_left
     ·(intro w hSw; clear hSw; go_simp; try with_reducible rfl)
     simp only [E.pts]
     have hst := HYd.out.2
     have r0 := S.cell_of yd _ 0 _ 25 _ hst rfl
     have r1 := S.cell_of yd _ 1 _ 25 _ hst rfl
     have f0 := S.frozen_of yd W0.heap.size 0 _ 25 hst
     have f1 := S.frozen_of yd W0.heap.size 1 _ 25 hst
     have hW0s : W.heap.size <= W0.heap.size := by have := HH.out.2.2.2.2.2.2; omega
     have hF2 := S.setCell_heap _ W0.heap.size 1 _ 25 (.int .i64 d.p.2) (S.setCell_heap yd W0.heap.size 0 _ 25 (.int .i64 d.p.1) hst)
     have HFin := hid (And.intro hF2 ((HYd.out.1.setCell (p := ⟨W0.heap.size, 0, none⟩) hW0s (.int .i64 d.p.1)).setCell (p := ⟨W0.heap.size, 1, none⟩) hW0s (.int .i64 d.p.2)))
     clear hF2 hst hW0s
     refine wpD_ready (rs := [6]) (by kernel_rfl) (by simp) ?_
     refine AllD.late rfl (by kernel_rfl) (fun K hK => ?_)
     go_simp
     refine hK.out _ _ ?_
     clear hK K
     try simp only [E.pts]
     refine wpD_done (by kernel_rfl) ?_ _
     clear r0 r1 f0 f1
     go_wp2
     refine bodyPost_ret (tp_end rfl rfl HFin.out.1) rfl ⟨?_, HFin.out.2⟩
     rw [HF.out]
 ·have hne : (chk ds bs != 0) = true := by simpa using hz
  have HZ := hid hz
  clear hz
  have hst := HV1.out.2.2
  have r0 := S.cell_of w1 _ 0 _ 25 _ hst rfl
  have r1 := S.cell_of w1 _ 1 _ 25 _ hst rfl
  have f0 := S.frozen_of w1 W0.heap.size 0 _ 25 hst
  have f1 := S.frozen_of w1 W0.heap.size 1 _ 25 hst
  have hW0s : W.heap.size <= W0.heap.size := by have := HH.out.2.2.2.2.2.2; omega
  have hF2 := S.setCell_heap _ W0.heap.size 1 _ 25 (.int .i64 0) (S.setCell_heap w1 W0.heap.size 0 _ 25 (.int .i64 0) hst)
  have HFin := hid (And.intro hF2 ((HV1.out.1.setCell (p := ⟨W0.heap.size, 0, none⟩) hW0s (.int .i64 0)).setCell (p := ⟨W0.heap.size, 1, none⟩) hW0s (.int .i64 0)))
  have HF : Y.Hd (R = (chk ds bs, (0, 0))) := ⟨by rw [<- HR.out]; unfold typP; rw [if_neg HZ.out]⟩
  clear hF2 hst hW0s
  go_wp2
  refine bodyPost_ret (tp_end rfl rfl HFin.out.1) rfl ⟨?_, HFin.out.2⟩
  rw [HF.out]
open Go.Proofs.YtlilefhmohkfkaaGreatDoor.Y (Nd Df Ps ndc dfc hid NV DV D1 cells6 cells9 BV N1)
open R (chk cks ck own1 Bk lk numb)
set_option linter.unusedVariables false
set_option linter.unusedSimpArgs false
set_option maxHeartbeats 2000000
set_option maxRecDepth 100000
def lfc (n : Nd) : List Value := ndc n (.slice none 0 0) (.slice none 0 0)
theorem nv_leaf {W : World} {O : Nat -> Prop} {b c : Nat} {t : TypeId} {l : List Nd} (h : W.heap[b]? = some (.cells (S.en lfc l).toArray t (0, 0))) (hO : O b) (hl : l.length <= 140737488355328) (hh : ∀ n ∈ l, n.th = [] /\ n.el = []) : NV W O (.slice (some ⟨b, 0, none⟩) l.length c) l := by
 refine NV.row hO hl fun i n hi => ?_
 obtain ⟨h1, h2⟩ := hh n (List.mem_of_getElem? hi)
 refine N1.mk (.slice none 0 0) (.slice none 0 0) (fun j x hx => ?_) (by rw [h1]; exact NV.nil (.inl rfl)) (by rw [h2]; exact NV.nil (.inl rfl))
 have hj : j < 9 := (List.getElem?_eq_some_iff.1 hx).1
 rw [Nat.zero_add]
 exact S.cell_of W b (i * 9 + j) _ t _ h ((S.en_get (e := lfc) (s := 9) (fun a => rfl) l i j n hi hj).trans hx)
def drc (x : Df × Value) : List Value := dfc x.1 x.2
theorem dv_lit {W : World} {O : Nat -> Prop} {b c : Nat} {t : TypeId} {L : List (Df × Value)} (h : W.heap[b]? = some (.cells (S.en drc L).toArray t (0, 0))) (hO : O b) (hl : L.length <= 140737488355328) (hb : ∀ x ∈ L, NV W O x.2 x.1.body) : DV W O (.slice (some ⟨b, 0, none⟩) L.length c) (L.map (·.1)) := by
 refine ⟨_, c, by rw [List.length_map], by rw [List.length_map]; exact hl, fun i d hi => ?_⟩
 rw [List.getElem?_map] at hi
 cases hx : L[i]? with
 | none => rw [hx] at hi; cases hi
 | some x =>
  rw [hx] at hi
  cases hi
  refine ⟨b, 0, rfl, hO, x.2, fun j u hu => ?_, hb x (List.mem_of_getElem? hx)⟩
  have hj : j < 6 := (List.getElem?_eq_some_iff.1 hu).1
  rw [Nat.zero_add]
  exact S.cell_of W b (i * 6 + j) _ t _ h ((S.en_get (e := drc) (s := 6) (fun a => rfl) L i j x hx hj).trans hu)
theorem bv_nil (W : World) (O : Nat -> Prop) : BV W O (.slice none 0 0) [] := ⟨none, 0, rfl, fun i d h => by simp at h⟩
theorem so_yes {W w' : World} {ds : List Df} {bs : List Bk} {e : Ending} (hz : chk ds bs = 0) (h : SO W ds bs e w') : Below W.heap.size W w' /\ ∃ g c, e = .returned (.tuple #[.slice (some ⟨g, 0, none⟩) (wordsOf ds).length c, .int .i64 0]) /\ w'.ownsRow W.heap.size 47 9 (.slice (some ⟨g, 0, none⟩) (wordsOf ds).length c) (wordsOf ds).length (S.en tyc (shs ds)) := by
 refine ⟨h.1, ?_⟩
 have := h.2
 rw [if_pos hz] at this
 exact this
theorem body_leaf (kn : ByteArray -> Option Ty) : ∀ (l : List Nd), (∀ n ∈ l, n.th = [] /\ n.el = []) -> body kn l = run (l.map fun n => nodeB kn n.k n.op n.nm n.p (run []) (run []))
 | l, h => by
  unfold body
  rw [List.map_congr_left fun n hn => ?_]
  obtain ⟨h1, h2⟩ := h n hn
  rw [node_is, h1, h2]
  rfl
theorem ck_leaf (names : List ByteArray) (n : Nd) (h : n.th = [] /\ n.el = []) (i : Nat × Bool) : ck names n i = own1 names n i := by
 rw [R.ck_is, h.1, h.2]
 by_cases e : own1 names n i = 0
 ·rw [if_pos e, if_pos (R.cks_nil _ _), e]; rfl
 ·rw [if_neg e]
theorem cks_leaf (names : List ByteArray) : ∀ (l : List Nd), (∀ n ∈ l, n.th = [] /\ n.el = []) -> ∀ i, cks names l i = R.fe (l.map (own1 names)) i
 | [], _, i => rfl
 | n :: r, h, i => by
  rw [R.cks_cons, List.map_cons, R.fe, ck_leaf names n (h n (by simp)), cks_leaf names r (fun m hm => h m (by simp [hm]))]
def nsq : ByteArray := ⟨#[115, 113]⟩
def pnd (op : Int) : Nd := ⟨1, op, 0, ⟨#[]⟩, [], [], false, (0, 0)⟩
def lnd (x : Int) : Nd := ⟨2, 0, x, ⟨#[]⟩, [], [], false, (0, 0)⟩
def sqB : List Nd := [pnd 12, pnd 23]
def mnB : List Nd := [lnd 5, cnd nsq, pnd 13]
def ds2 : List Df := [wd nsq sqB, wd nmain mnB]
theorem sq_leaf : ∀ n ∈ sqB, n.th = [] /\ n.el = [] := by intro n hn; simp [sqB, pnd] at hn; rcases hn with rfl | rfl <;> exact ⟨rfl, rfl⟩
theorem mn_leaf : ∀ n ∈ mnB, n.th = [] /\ n.el = [] := by intro n hn; simp [mnB, pnd, lnd, cnd] at hn; rcases hn with rfl | rfl | rfl <;> exact ⟨rfl, rfl⟩
theorem chk2 : chk ds2 [] = 0 := by
 have h1 : R.dfE [] (wd nsq sqB) = 0 := by
  unfold R.dfE
  show (if _ then _ else if _ then _ else if _ then _ else if _ then _ else cks [] sqB (0, false)) = 0
  rw [cks_leaf [] sqB sq_leaf]
  kernel_rfl
 have h2 : R.dfE [nsq] (wd nmain mnB) = 0 := by
  unfold R.dfE
  show (if _ then _ else if _ then _ else if _ then _ else if _ then _ else cks [nsq] mnB (0, false)) = 0
  rw [cks_leaf [nsq] mnB mn_leaf]
  kernel_rfl
 have h3 : R.dsE [] ds2 = 0 := by
  unfold ds2
  rw [R.dsE, if_pos h1, R.dsE]
  show (if R.dfE [nsq] (wd nmain mnB) = 0 then _ else _) = 0
  rw [if_pos h2]
  rfl
 unfold chk
 rw [if_pos h3, if_pos (show R.bkE (-1) [] = 0 from rfl), if_pos (show ds2.any R.isMain = true by kernel_rfl)]
def tsq : Ty := ⟨nsq, 1, 1, 1, 0, false, 0, (0, 0)⟩
def tmn : Ty := ⟨nmain, 0, 0, 2, 1, false, 0, (0, 0)⟩
theorem shs2 : shs ds2 = [tsq, tmn] := by
 have h1 : tyOf (known (numb ((wordsOf ds2).map (·.nm)) 0) []) (wd nsq sqB) = tsq := by
  unfold tyOf word
  rw [show (wd nsq sqB).body = sqB from rfl, body_leaf _ sqB sq_leaf]
  kernel_rfl
 have h2 : tyOf (known (numb ((wordsOf ds2).map (·.nm)) 0) [tsq]) (wd nmain mnB) = tmn := by
  unfold tyOf word
  rw [show (wd nmain mnB).body = mnB from rfl, body_leaf _ mnB mn_leaf]
  kernel_rfl
 have hw : wordsOf ds2 = [wd nsq sqB, wd nmain mnB] := rfl
 unfold shs
 rw [hw] at h1 h2 ⊢
 rw [tysP, List.nil_append, h1, tysP, List.cons_append, List.nil_append, h2, tysP]
theorem fb_none : ∀ (bs : List Bool) (ts : List Ty), (∀ t ∈ ts, t.e = 0) -> fb bs ts = none
 | [], _, _ => rfl
 | _ :: _, [], _ => rfl
 | b :: bs, t :: ts, h => by
  rw [fb_cons, if_neg (fun hh => hh.2 (h t (by simp)))]
  exact fb_none bs ts fun u hu => h u (by simp [hu])
theorem typ2 : typP ds2 [] = (0, (0, 0)) := by
 unfold typP
 rw [if_pos chk2, shs2, fb_none _ [tsq, tmn] (by intro t ht; simp at ht; rcases ht with rfl | rfl <;> rfl)]
 have hm : mainAt ds2 = 1 := by kernel_rfl
 rw [hm]
 unfold lastOf
 rw [shs2]
 rfl
open R (chk Bk)
set_option linter.unusedVariables false
set_option linter.unusedSimpArgs false
set_option maxHeartbeats 2000000
set_option maxRecDepth 100000
theorem known_any (W : World) : Calls Tryz.prog 11 #[] W fun e w' => e = .returned (.bool true) /\ Below W.heap.size W w' := by
 go_enter Tryz.func11, Tryz.ntmps11
 go_wp2_with fail
 refine (prim_law 12 W).mono ?_
 rintro e w1 ⟨rfl, k1⟩
 go_wp2_with fail
 refine (prim_law 23 w1).mono ?_
 rintro e w2 ⟨rfl, k2⟩
 have K2 := hid (k1.trans (k2.mono k1.size))
 clear k1 k2
 obtain ⟨w3, hw3⟩ : ∃ w3, w2.alloc (.cells #[.int .i64 1, .int .i64 12, .int .u16 0, .string ⟨#[]⟩, .slice none 0 0, .slice none 0 0, .bool false, .int .i64 0, .int .i64 0, .int .i64 1, .int .i64 23, .int .u16 0, .string ⟨#[]⟩, .slice none 0 0, .slice none 0 0, .bool false, .int .i64 0, .int .i64 0] 30) = w3 := ⟨_, rfl⟩
 have h3 : w3.heap[w2.heap.size]? = some (.cells (S.en lfc sqB).toArray 30 (0, 0)) := by rw [<- hw3]; exact heap_alloc_new w2 _
 have k3 : Below w2.heap.size w2 w3 := by rw [<- hw3]; exact (Below.refl _ _).alloc (Nat.le_refl _) _
 have H3 := hid (And.intro h3 (K2.out.trans (k3.mono K2.out.size)))
 clear h3 k3 K2
 go_wp2_with fail
 refine (word_law _ _ _ _ w3).mono ?_
 rintro e w4 ⟨rfl, k4⟩
 clear hw3
 go_wp2_with fail
 refine (lit_law 5 w4).mono ?_
 rintro e w5 ⟨rfl, k5⟩
 go_wp2_with fail
 refine (call_law _ w5).mono ?_
 rintro e w6 ⟨rfl, k6⟩
 go_wp2_with fail
 refine (prim_law 13 w6).mono ?_
 rintro e w7 ⟨rfl, k7⟩
 have K7 := hid (((k4.trans (k5.mono k4.size)).trans (k6.mono (Nat.le_trans k4.size k5.size))).trans (k7.mono (Nat.le_trans (Nat.le_trans k4.size k5.size) k6.size)))
 clear k4 k5 k6 k7
 obtain ⟨w8, hw8⟩ : ∃ w8, w7.alloc (.cells #[.int .i64 2, .int .i64 0, .int .u16 5, .string ⟨#[]⟩, .slice none 0 0, .slice none 0 0, .bool false, .int .i64 0, .int .i64 0, .int .i64 3, .int .i64 0, .int .u16 0, .string ⟨#[115, 113]⟩, .slice none 0 0, .slice none 0 0, .bool false, .int .i64 0, .int .i64 0, .int .i64 1, .int .i64 13, .int .u16 0, .string ⟨#[]⟩, .slice none 0 0, .slice none 0 0, .bool false, .int .i64 0, .int .i64 0] 30) = w8 := ⟨_, rfl⟩
 have h8 : w8.heap[w7.heap.size]? = some (.cells (S.en lfc mnB).toArray 30 (0, 0)) := by rw [<- hw8]; exact heap_alloc_new w7 _
 have k8 : Below w7.heap.size w7 w8 := by rw [<- hw8]; exact (Below.refl _ _).alloc (Nat.le_refl _) _
 have H8 := hid (And.intro h8 (And.intro ((K7.out.trans (k8.mono K7.out.size)).block _ (S.lt_of H3.out.1)) (H3.out.2.trans ((K7.out.trans (k8.mono K7.out.size)).mono H3.out.2.size))))
 clear h8 k8 K7
 go_wp2_with fail
 refine (word_law _ _ _ _ w8).mono ?_
 rintro e w9 ⟨rfl, k9⟩
 have K9 := hid k9
 clear hw8 k9
 obtain ⟨w10, hw10⟩ : ∃ w10, w9.alloc (.cells #[.int .i64 1, .string ⟨#[115, 113]⟩, .int .u16 0, .slice (some ⟨w2.heap.size, 0, none⟩) 2 2, .int .i64 0, .int .i64 0, .int .i64 1, .string ⟨#[109, 97, 105, 110]⟩, .int .u16 0, .slice (some ⟨w7.heap.size, 0, none⟩) 3 3, .int .i64 0, .int .i64 0] 27) = w10 := ⟨_, rfl⟩
 have h10 : w10.heap[w9.heap.size]? = some (.cells (S.en drc [(wd nsq sqB, .slice (some ⟨w2.heap.size, 0, none⟩) 2 2), (wd nmain mnB, .slice (some ⟨w7.heap.size, 0, none⟩) 3 3)]).toArray 27 (0, 0)) := by rw [<- hw10]; exact heap_alloc_new w9 _
 have k10 : Below w9.heap.size w9 w10 := by rw [<- hw10]; exact (Below.refl _ _).alloc (Nat.le_refl _) _
 go_upto_region 2 with fail
 clear hw10
 obtain ⟨w11, hw11⟩ : ∃ w11, w10.alloc (.cells #[.slice (some ⟨w9.heap.size, 0, none⟩) 2 2, .slice none 0 0] 35) = w11 := ⟨_, rfl⟩
 rw [hw11]
 have h11 : w11.heap[w10.heap.size]? = some (.cells [Value.slice (some ⟨w9.heap.size, 0, none⟩) 2 2, .slice none 0 0].toArray 35 (0, 0)) := by rw [<- hw11]; exact heap_alloc_new w10 _
 have k11 : Below w10.heap.size w10 w11 := by rw [<- hw11]; exact (Below.refl _ _).alloc (Nat.le_refl _) _
 have kk : Below w8.heap.size w8 w11 := (K9.out.trans (k10.mono K9.out.size)).trans (k11.mono (Nat.le_trans K9.out.size k10.size))
 have e2 := (kk.block _ (S.lt_of (H8.out.2.1.trans H3.out.1))).trans (H8.out.2.1.trans H3.out.1)
 have e7 := (kk.block _ (S.lt_of H8.out.1)).trans H8.out.1
 have e9 := (k11.block _ (S.lt_of h10)).trans h10
 have hB11 : Below W.heap.size W w11 := H8.out.2.2.trans (kk.mono H8.out.2.2.size)
 have hDV : DV w11 (fun j => j < w11.heap.size) (.slice (some ⟨w9.heap.size, 0, none⟩) 2 2) ds2 := dv_lit (c := 2) e9 (S.lt_of e9) (by simp) (by
  intro x hx
  simp only [List.mem_cons, List.not_mem_nil, or_false] at hx
  rcases hx with rfl | rfl
  ·exact nv_leaf (l := sqB) e2 (S.lt_of e2) (by decide) sq_leaf
  ·exact nv_leaf (l := mnB) e7 (S.lt_of e7) (by decide) mn_leaf)
 have hnm : ∀ d ∈ ds2, d.nm.size <= maxLen := by
  intro d hd
  simp [ds2, wd] at hd
  rcases hd with rfl | rfl <;> decide
 have hcs := shapes_any ds2 [] (by decide) hnm (by decide) _ _ _ w11 (fun _ h => h) hDV (bv_nil _ _)
 have c0 := S.cell_of w11 _ 0 _ 35 _ h11 rfl
 have c1 := S.cell_of w11 _ 1 _ 35 _ h11 rfl
 have HK := hid (And.intro hB11 (And.intro hDV (And.intro hnm h11)))
 clear hB11 hDV hnm h11 e2 e7 e9 kk k11 k10 h10 H8 H3 K9
 go_wp2_with fail
 refine hcs.mono ?_
 intro e w12 hso
 obtain ⟨k12, g, c, rfl, hown⟩ := so_yes chk2 hso
 rw [shs2] at hown
 have hown2 : w12.ownsRow w11.heap.size 47 9 (.slice (some ⟨g, 0, none⟩) 2 c) 2 (S.en tyc [tsq, tmn]) := hown
 have p12 := (k12.block _ (S.lt_of HK.out.2.2.2)).trans HK.out.2.2.2
 clear hcs hw11 c0 c1 hown
 have c0 := S.cell_of w12 _ 0 _ 35 _ p12 rfl
 have c1 := S.cell_of w12 _ 1 _ 35 _ p12 rfl
 have hct := typable_any ds2 [] (by decide) HK.out.2.2.1 (by decide) _ _ _ w12 (fun j hj => Nat.lt_of_lt_of_le hj k12.size) (HK.out.2.1.below k12 (fun _ h => h)) (bv_nil _ _)
 rw [typ2] at hct
 obtain ⟨g', c', eg, _, hg, hce⟩ := own_cell hown2 (by decide)
 cases eg
 have H12 := hid (And.intro k12 (And.intro hg hce))
 clear p12 k12 hown2 hg hce
 go_wp2_with fail
 refine hct.mono ?_
 rintro e w13 ⟨rfl, k13⟩
 have hct' := trivial
 go_upto_region 4 with fail
 obtain ⟨w14, hw14⟩ : ∃ w14, w13.alloc (.cells #[.int .i64 0, .int .i64 0] 25) = w14 := ⟨_, rfl⟩
 rw [hw14]
 have v14 : w14.heap[w13.heap.size]? = some (.cells [Value.int .i64 0, .int .i64 0].toArray 25 (0, 0)) := by rw [<- hw14]; exact heap_alloc_new w13 _
 have k14 : Below w13.heap.size w13 w14 := by rw [<- hw14]; exact (Below.refl _ _).alloc (Nat.le_refl _) _
 have kk : Below w12.heap.size w12 w14 := k13.trans (k14.mono k13.size)
 have hkb := kk.block _ H12.out.2.1
 have x1 : w14.cell? ⟨g, 1, none⟩ = some (.int .i64 1) := (World.cell?_of_block (w := w12) (a := ⟨g, 1, none⟩) hkb).trans (H12.out.2.2 1 _ rfl)
 have x2 : w14.cell? ⟨g, 2, none⟩ = some (.int .i64 1) := (World.cell?_of_block (w := w12) (a := ⟨g, 2, none⟩) hkb).trans (H12.out.2.2 2 _ rfl)
 have x3 : w14.cell? ⟨g, 3, none⟩ = some (.int .i64 1) := (World.cell?_of_block (w := w12) (a := ⟨g, 3, none⟩) hkb).trans (H12.out.2.2 3 _ rfl)
 have x4 : w14.cell? ⟨g, 4, none⟩ = some (.int .i64 0) := (World.cell?_of_block (w := w12) (a := ⟨g, 4, none⟩) hkb).trans (H12.out.2.2 4 _ rfl)
 have x5 : w14.cell? ⟨g, 5, none⟩ = some (.bool false) := (World.cell?_of_block (w := w12) (a := ⟨g, 5, none⟩) hkb).trans (H12.out.2.2 5 _ rfl)
 have x10 : w14.cell? ⟨g, 10, none⟩ = some (.int .i64 0) := (World.cell?_of_block (w := w12) (a := ⟨g, 10, none⟩) hkb).trans (H12.out.2.2 10 _ rfl)
 have x11 : w14.cell? ⟨g, 11, none⟩ = some (.int .i64 0) := (World.cell?_of_block (w := w12) (a := ⟨g, 11, none⟩) hkb).trans (H12.out.2.2 11 _ rfl)
 have x12 : w14.cell? ⟨g, 12, none⟩ = some (.int .i64 2) := (World.cell?_of_block (w := w12) (a := ⟨g, 12, none⟩) hkb).trans (H12.out.2.2 12 _ rfl)
 have x13 : w14.cell? ⟨g, 13, none⟩ = some (.int .i64 1) := (World.cell?_of_block (w := w12) (a := ⟨g, 13, none⟩) hkb).trans (H12.out.2.2 13 _ rfl)
 have x14 : w14.cell? ⟨g, 14, none⟩ = some (.bool false) := (World.cell?_of_block (w := w12) (a := ⟨g, 14, none⟩) hkb).trans (H12.out.2.2 14 _ rfl)
 have p0 := S.cell_of w14 _ 0 _ 25 _ v14 rfl
 have p1 := S.cell_of w14 _ 1 _ 25 _ v14 rfl
 have HB := hid (HK.out.1.trans ((H12.out.1.trans (kk.mono H12.out.1.size)).mono HK.out.1.size))
 have q1 := fun W => eql_pos W 0 0
 have q2 := fun W => eql_sh W 1 1 1 0 false
 have q3 := fun W => eql_sh W 0 0 2 1 false
 clear hct c0 c1 v14 k14 kk hkb k13
 go_wp2_with fail
 refine (num_any 0 w14).mono ?_
 rintro e w15 ⟨rfl, hw15⟩
 obtain rfl := hw15.symm
 clear hw15
 go_wp2_with fail
 refine (num_any 0 _).mono ?_
 rintro e w16 ⟨rfl, hw16⟩
 obtain rfl := hw16.symm
 clear hw16
 go_wp2
 go_ret
 exact ⟨rfl, HB.out⟩
end Go.Proofs.YtlilefhmohkfkaaGreatDoor.E
