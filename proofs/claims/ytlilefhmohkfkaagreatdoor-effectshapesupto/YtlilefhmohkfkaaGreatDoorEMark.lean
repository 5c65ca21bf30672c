import Derived.Test.YtlilefhmohkfkaaGreatDoorEPlaces
import Derived.Laws.OwnMore
namespace Go.Proofs.YtlilefhmohkfkaaGreatDoor.E
open Go.RowKit
open Go.Proofs
open Go.Proofs.YtlilefhmohkfkaaGreatDoor.Y (Nd Df Ps ndc dfc hid NV cells9)
open R (En MP lk look_no look_yes)
set_option linter.unusedVariables false
set_option linter.unusedSimpArgs false
set_option maxHeartbeats 2000000
set_option maxRecDepth 100000
def mk1 (at_ : En) (nm : ByteArray) (led : List Bool) : List Bool := match lk at_ nm with | none => led | some i => led.set i.toNat true
def mrun : List (List Bool -> List Bool) -> List Bool -> List Bool
  | [], l => l
  | f :: r, l => mrun r (f l)
def mkN (at_ : En) : Nd -> List Bool -> List Bool
  | ⟨_, _, _, nm, th, el, _, _⟩ => fun led => mrun (el.map (mkN at_)) (mrun (th.map (mkN at_)) (mk1 at_ nm led))
def mks (at_ : En) (l : List Nd) : List Bool -> List Bool := mrun (l.map (mkN at_))
theorem mkN_is (at_ : En) (n : Nd) (led : List Bool) : mkN at_ n led = mks at_ n.el (mks at_ n.th (mk1 at_ n.nm led)) := by cases n; rw [mkN]; rfl
theorem mrun_app : ∀ (fs gs : List (List Bool -> List Bool)) (l : List Bool), mrun (fs ++ gs) l = mrun gs (mrun fs l)
  | [], gs, l => rfl
  | f :: r, gs, l => by rw [List.cons_append, mrun, mrun, mrun_app r gs]
theorem mks_take (at_ : En) (l : List Nd) (k : Nat) (n : Nd) (h : l[k]? = some n) (led : List Bool) : mks at_ (l.take (k + 1)) led = mkN at_ n (mks at_ (l.take k) led) := by
  unfold mks
  rw [List.take_add_one, h, List.map_append, mrun_app]
  rfl
theorem mk1_len (at_ : En) (nm : ByteArray) (led : List Bool) : (mk1 at_ nm led).length = led.length := by
  unfold mk1
  split
  · rfl
  · simp
theorem mrun_len : ∀ (fs : List (List Bool -> List Bool)), (∀ f ∈ fs, ∀ l : List Bool, (f l).length = l.length) -> ∀ l, (mrun fs l).length = l.length
  | [], _, l => rfl
  | f :: r, h, l => by rw [mrun, mrun_len r (fun g hg => h g (by simp [hg])), h f (by simp)]
theorem mkN_len (at_ : En) (n : Nd) : ∀ led, (mkN at_ n led).length = led.length :=
  Nd.ind (P := fun n => ∀ led, (mkN at_ n led).length = led.length) (fun n h1 h2 led => by
    rw [mkN_is]
    unfold mks
    rw [mrun_len _ (fun f hf => by obtain ⟨m, hm, rfl⟩ := List.mem_map.1 hf; exact h2 m hm), mrun_len _ (fun f hf => by obtain ⟨m, hm, rfl⟩ := List.mem_map.1 hf; exact h1 m hm), mk1_len]) n
theorem mks_len (at_ : En) (l : List Nd) (led : List Bool) : (mks at_ l led).length = led.length := mrun_len _ (fun f hf => by obtain ⟨m, hm, rfl⟩ := List.mem_map.1 hf; exact mkN_len at_ m) led
def LB (W : World) (g : Nat) (led : List Bool) : Prop := W.heap[g]? = some (.cells (led.map Value.bool).toArray 4 (0, 0))
theorem LB.lt {W : World} {g : Nat} {led : List Bool} (h : LB W g led) : g < W.heap.size := S.lt_of h
theorem LB.cell {W : World} {g : Nat} {led : List Bool} (h : LB W g led) (i : Nat) (b : Bool) (hi : led[i]? = some b) : W.cell? ⟨g, i, none⟩ = some (.bool b) := S.cell_of W g i _ 4 _ h (by rw [List.getElem?_map, hi]; rfl)
theorem LB.fro {W : World} {g : Nat} {led : List Bool} (h : LB W g led) (i : Nat) : W.frozen? ⟨g, i, none⟩ = false := S.frozen_of W g i _ 4 h
theorem LB.set {W : World} {g : Nat} {led : List Bool} (h : LB W g led) (i : Nat) (b : Bool) : LB (W.setCell ⟨g, i, none⟩ (.bool b)) g (led.set i b) := by
  have := S.setCell_heap W g i _ 4 (.bool b) h
  unfold LB
  rw [this, List.map_set]
def MKE (at_ : En) (l : List Nd) : Prop := ∀ (v : Value) (O : Nat -> Prop) (led : List Bool) (g mb c : Nat) (W : World), (∀ j, O j -> j < W.heap.size) -> ¬ O g -> mb ≠ g -> NV W O v l -> MP W mb at_ -> LB W g led -> (∀ s i, lk at_ s = some i -> 0 <= i /\ i < led.length) -> led.length <= 1048576 ->
  Calls Tryz.prog 47 #[v, .map (some mb), .slice (some ⟨g, 0, none⟩) led.length c] W fun e w' => e = .returned (.tuple #[]) /\ LB w' g (mks at_ l led) /\ Gw g W w'
theorem mp_gw {W V : World} {mb g : Nat} {at_ : En} (h : MP W mb at_) (k : Gw g W V) (hg : mb ≠ g) : MP V mb at_ := (k.block mb h.lt hg).trans h
theorem mark_of (at_ : En) (l : List Nd) (hn : ∀ m ∈ l, MKE at_ m.th /\ MKE at_ m.el) : MKE at_ l := by
  intro v O led g mb c W hO hOg hmg hV hM hL hat hll
  obtain ⟨p, cc, rfl, hl, hp⟩ := hV.ex
  clear hV
  have HM := hid (And.intro hM (And.intro hmg hat))
  have HL := hid hL
  clear hM hmg hat hL
  go_enter Tryz.func47, Tryz.ntmps47
  go_wp2
  go_loopw [12] (fun ix wr => ∃ k : Nat, k <= l.length /\ ix = .int .i64 (k : Int) /\ Gw g W wr /\ LB wr g (mks at_ (l.take k) led)) (fun ix _ => l.length - (intOf ix).toNat)
  case atStart => exact ⟨0, by omega, rfl, Gw.refl _ _, HL.out⟩
  case round =>
    obtain ⟨k, hk, rfl, hG, hB⟩ := hrel
    by_cases hlt : k < l.length
    · have i1 : (k : Int) < l.length := by omega
      have ea := List.getElem?_eq_getElem hlt
      have hm := hn l[k] (List.getElem_mem _)
      generalize l[k] = n at *
      obtain ⟨b, o, rfl, hOb, hN⟩ := hp k n ea
      obtain ⟨tv, ev, hcl, ht, he⟩ := hN.ex
      obtain ⟨q1, d1, rfl, _, _⟩ := ht.ex
      obtain ⟨q2, d2, rfl, _, _⟩ := he.ex
      have hbne : b ≠ g := fun e => hOg (e ▸ hOb)
      have kb := hG.block b (hO b hOb) hbne
      obtain ⟨g0, g1, g2, g3, g4, g5, g6, g7, g8⟩ := cells9 fun j x hx => (World.cell?_of_block (w := W) (a := ⟨b, o + k * 9 + j, none⟩) kb).trans (hcl j x hx)
      have hstep := mks_take at_ l k n ea led
      rw [mkN_is] at hstep
      obtain ⟨ld, hld⟩ : ∃ ld, mks at_ (l.take k) led = ld := ⟨_, rfl⟩
      have hlen : ld.length = led.length := by rw [<- hld]; exact mks_len at_ _ led
      rw [hld] at hB hstep
      clear hld
      obtain ⟨y, hy⟩ : ∃ y, wr.alloc (.cells #[.int .i64 n.k, .int .i64 n.op, .int .u16 n.v, .string n.nm, .slice q1 n.th.length d1, .slice q2 n.el.length d2, .bool n.has, .int .i64 n.p.1, .int .i64 n.p.2] 30) = y := ⟨_, rfl⟩
      have zb : Below wr.heap.size wr y := by rw [<- hy]; exact (Below.refl _ _).alloc (Nat.le_refl _) _
      have vb : y.heap[wr.heap.size]? = some (.cells (ndc n (.slice q1 n.th.length d1) (.slice q2 n.el.length d2)).toArray 30 (0, 0)) := by rw [<- hy]; exact heap_alloc_new wr _
      have hwg : wr.heap.size ≠ g := by have := hB.lt; omega
      have hGy : Gw g W y := hG.trans (Gw.of zb)
      have hBy : LB y g ld := (zb.block g hB.lt).trans hB
      have HY := hid (And.intro hGy (And.intro hBy (And.intro vb (And.intro hstep (And.intro hlen hwg)))))
      have HT := hid (And.intro ht (And.intro he (And.intro hm.1 hm.2)))
      have Hk := hid hk
      have hmy := mp_gw HM.out.1 hGy HM.out.2.1
      obtain ⟨c0, c1, c2, c3, c4, c5, c6, c7, c8⟩ := nd_cells vb
      have HO := hid (And.intro hO hOg)
      have key : ∀ z, Gw g W z -> LB z g (mk1 at_ n.nm ld) -> z.heap[wr.heap.size]? = y.heap[wr.heap.size]? -> Calls Tryz.prog 47 #[.slice q1 n.th.length d1, .map (some mb), .slice (some ⟨g, 0, none⟩) led.length c] z fun e w' => e = .returned (.tuple #[]) /\ Gw g W w' /\ w'.heap[wr.heap.size]? = y.heap[wr.heap.size]? /\
          Calls Tryz.prog 47 #[.slice q2 n.el.length d2, .map (some mb), .slice (some ⟨g, 0, none⟩) led.length c] w' fun e w'' => e = .returned (.tuple #[]) /\ Gw g W w'' /\ LB w'' g (mks at_ (l.take (k + 1)) led) := by
        intro z hz hLz hbz
        have e1 : (mk1 at_ n.nm ld).length = led.length := by rw [mk1_len]; exact HY.out.2.2.2.2.1
        have hc := HT.out.2.2.1 (.slice q1 n.th.length d1) O (mk1 at_ n.nm ld) g mb c z (fun j hj => Nat.lt_of_lt_of_le (HO.out.1 j hj) hz.size) HO.out.2 HM.out.2.1 (nv_gw HT.out.1 hz HO.out.1 HO.out.2) (mp_gw HM.out.1 hz HM.out.2.1) hLz (fun s i h => by rw [e1]; exact HM.out.2.2 s i h) (by omega)
        rw [e1] at hc
        refine hc.mono ?_
        rintro e w1 ⟨rfl, hl1, hg1⟩
        have hz1 : Gw g W w1 := hz.trans hg1
        have e2 : (mks at_ n.th (mk1 at_ n.nm ld)).length = led.length := by rw [mks_len]; exact e1
        refine ⟨rfl, hz1, ?_, ?_⟩
        · have hlt2 : wr.heap.size < z.heap.size := by
            have : y.heap[wr.heap.size]? ≠ none := by rw [HY.out.2.2.1]; simp
            rw [<- hbz] at this
            by_cases hc : wr.heap.size < z.heap.size
            · exact hc
            · exact absurd (Array.getElem?_eq_none (by omega)) this
          exact (hg1.block _ hlt2 HY.out.2.2.2.2.2).trans hbz
        have hc2 := HT.out.2.2.2 (.slice q2 n.el.length d2) O (mks at_ n.th (mk1 at_ n.nm ld)) g mb c w1 (fun j hj => Nat.lt_of_lt_of_le (HO.out.1 j hj) hz1.size) HO.out.2 HM.out.2.1 (nv_gw HT.out.2.1 hz1 HO.out.1 HO.out.2) (mp_gw HM.out.1 hz1 HM.out.2.1) hl1 (fun s i h => by rw [e2]; exact HM.out.2.2 s i h) (by omega)
        rw [e2] at hc2
        refine hc2.mono ?_
        rintro e w2 ⟨rfl, hl2, hg2⟩
        exact ⟨rfl, hz1.trans hg2, by rw [HY.out.2.2.2.1]; exact hl2⟩
      have HKEY := hid key
      clear key hbne kb hcl ht he hN hm hp ea hB hG zb vb hwg hGy hBy hO hOg hstep hk hlen
      cases hlk : lk at_ n.nm with
      | none =>
        have hlo := look_no y mb n.nm at_ hmy hlk
        have hkc := HKEY.out y HY.out.1 (by unfold mk1; rw [hlk]; exact HY.out.2.1) rfl
        clear hmy hlk
        go_wp2_with fail
        refine hkc.mono ?_
        rintro e w1 ⟨rfl, hg1, hb1, hk2⟩
        have v1 := hb1.trans HY.out.2.2.1
        clear hkc hlo hy g0 g1 g2 g3 g4 g5 g6 g7 g8 c0 c1 c2 c3 c4 c5 c6 c7 c8 hb1
        obtain ⟨c0, c1, c2, c3, c4, c5, c6, c7, c8⟩ := nd_cells v1
        clear v1 hg1
        go_wp2_with fail
        refine hk2.mono ?_
        rintro e w2 ⟨rfl, hg2, hl2⟩
        clear hk2 c0 c1 c2 c3 c4 c5 c6 c7 c8
        have HE := hid (And.intro hg2 hl2)
        clear hg2 hl2
        go_wp2
        go_roundw
        case rel =>
          first
            | exact ⟨k + 1, by omega, by go_num, HE.out.1, HE.out.2⟩
            | ((repeat apply Exists.intro); refine ⟨⟨k + 1, by omega, ?_, HE.out.1, HE.out.2⟩, rfl⟩; go_num)
        case measure => simp [intOf]; omega
      | some i =>
        obtain ⟨j0, j1⟩ := HM.out.2.2 _ _ hlk
        obtain ⟨j, rfl⟩ : ∃ j : Nat, i = (j : Int) := ⟨i.toNat, by omega⟩
        have j2 : (j : Int) < led.length := j1
        have hlo := look_yes y mb n.nm (j : Int) at_ hmy hlk
        obtain ⟨bb, hbb⟩ : ∃ bb, ld[j]? = some bb := ⟨_, List.getElem?_eq_getElem (by have := HY.out.2.2.2.2.1; omega)⟩
        have fc := HY.out.2.1.cell j bb hbb
        have ff := HY.out.2.1.fro j
        have hkc := HKEY.out (y.setCell ⟨g, j, none⟩ (.bool true)) (HY.out.1.setG _ _) (by unfold mk1; rw [hlk]; exact HY.out.2.1.set j true) (S.setCell_other _ _ _ _ _ HY.out.2.2.2.2.2)
        have v1 : (y.setCell ⟨g, j, none⟩ (.bool true)).heap[wr.heap.size]? = _ := (S.setCell_other y g j wr.heap.size (.bool true) HY.out.2.2.2.2.2).trans HY.out.2.2.1
        obtain ⟨e0, e1, e2, e3, e4, e5, e6, e7, e8⟩ := nd_cells v1
        clear hmy hlk hbb v1 j0 j1
        go_wp2_with fail
        refine hkc.mono ?_
        rintro e w1 ⟨rfl, hg1, hb1, hk2⟩
        have v1 := hb1.trans HY.out.2.2.1
        clear hkc hlo hy g0 g1 g2 g3 g4 g5 g6 g7 g8 c0 c1 c2 c3 c4 c5 c6 c7 c8 hb1 e0 e1 e2 e3 e4 e5 e6 e7 e8 fc ff
        obtain ⟨c0, c1, c2, c3, c4, c5, c6, c7, c8⟩ := nd_cells v1
        clear v1 hg1
        go_wp2_with fail
        refine hk2.mono ?_
        rintro e w2 ⟨rfl, hg2, hl2⟩
        clear hk2 c0 c1 c2 c3 c4 c5 c6 c7 c8
        have HE := hid (And.intro hg2 hl2)
        clear hg2 hl2
        go_wp2
        go_roundw
        case rel =>
          first
            | exact ⟨k + 1, by omega, by go_num, HE.out.1, HE.out.2⟩
            | ((repeat apply Exists.intro); refine ⟨⟨k + 1, by omega, ?_, HE.out.1, HE.out.2⟩, rfl⟩; go_num)
        case measure => simp [intOf]; omega
    · have i1 : ¬ (k : Int) < l.length := by omega
      rw [List.take_of_length_le (by omega)] at hB
      have HB := hid (And.intro hB hG)
      clear hB hG
      go_wp2
      go_end0
      exact ⟨rfl, HB.out.1, HB.out.2⟩
theorem mark_any (at_ : En) (l : List Nd) : MKE at_ l := mark_of at_ l fun m _ =>
  Nd.ind (P := fun n => MKE at_ n.th /\ MKE at_ n.el) (fun n h1 h2 => ⟨mark_of at_ n.th h1, mark_of at_ n.el h2⟩) m
open Go.Proofs.YtlilefhmohkfkaaGreatDoor.Y (Nd Df Ps ndc dfc hid NV DV D1 cells6)
open R (En MP lk)
set_option linter.unusedVariables false
set_option linter.unusedSimpArgs false
set_option maxHeartbeats 2000000
set_option maxRecDepth 100000
def bodyAt (ws : List Df) (k : Nat) : List Nd := match ws[k]? with | none => [] | some d => d.body
def dnn (at_ : En) (ws : List Df) : Nat -> List Bool -> List Bool
 | 0, l => l
 | k + 1, l => dnn at_ ws k (if l.getD k false then mks at_ (bodyAt ws k) l else l)
def ledP (at_ : En) (ws : List Df) (m : Nat) : List Bool := dnn at_ ws (m + 1) ((List.replicate ws.length false).set m true)
theorem dnn_len (at_ : En) (ws : List Df) : ∀ (k : Nat) (l : List Bool), (dnn at_ ws k l).length = l.length
 | 0, l => rfl
 | k + 1, l => by
  rw [dnn, dnn_len at_ ws k]
  split
  ·exact mks_len _ _ _
  ·rfl
theorem ledP_len (at_ : En) (ws : List Df) (m : Nat) : (ledP at_ ws m).length = ws.length := by unfold ledP; rw [dnn_len]; simp
theorem Gw.below0 {W V : World} (h : Gw W.heap.size W V) : Below W.heap.size W V := ⟨h.os, h.tape, h.output, h.size, fun k hk => h.block k hk (by omega)⟩
theorem infoB : (Tryz.prog.info? 4).map (fun i => (i.zero, i.size, i.bytes)) = some (some (.bool false), 1, 1) := by kernel_rfl
theorem run_makeB (W : World) (n : Nat) (h : n <= 1048576) : ∃ W0, (Instr.makeSlice 77 (.int .i64 (n : Int)) (.int .i64 (n : Int))).run Tryz.prog W = .ok (.slice (some ⟨W.heap.size, 0, none⟩) n n) W0 /\ LB W0 W.heap.size (List.replicate n false) /\ Below W.heap.size W W0 := by
 obtain ⟨i0, hi, hz0, hz1, hz2⟩ := info_parts infoB
 have hb' : (i0.bytes : Int) * (n : Int) <= 281474976710656 := by rw [hz2]; omega
 have hr := run_make (P := Tryz.prog) W 77 4 i0 _ Tryz.underlying77 hi hz0 .i64 .i64 n n (by omega) (Int.le_refl _) hb' (by omega)
 simp only [Int.toNat_natCast, hz1, Nat.mul_one] at hr
 refine ⟨_, hr, ?_, (Below.refl _ _).alloc (Nat.le_refl _) _⟩
 unfold LB
 rw [heap_alloc_new]
 congr 2
 apply Array.toList_inj.1
 rw [List.toList_toArray, List.map_replicate]
 exact toList_madeCells_one (.bool false) n
theorem ledTo_any (at_ : En) (ws : List Df) (m : Nat) (hm : m < ws.length) (hw : ws.length <= 1048576) (hat : ∀ s i, lk at_ s = some i -> 0 <= i /\ i < ws.length) (v : Value) (O : Nat -> Prop) (mb : Nat) (W : World) (hO : ∀ j, O j -> j < W.heap.size) (h : DV W O v ws) (hM : MP W mb at_) :
  Calls Tryz.prog 32 #[v, .map (some mb), .int .i64 (m : Int)] W fun e w' => e = .returned (.slice (some ⟨W.heap.size, 0, none⟩) ws.length ws.length) /\ LB w' W.heap.size (ledP at_ ws m) /\ Below W.heap.size W w' := by
 obtain ⟨p, c, rfl, hl, hp⟩ := h
 obtain ⟨W0, hmk, hL0, hB0⟩ := run_makeB W ws.length hw
 have hmb : mb ≠ W.heap.size := by have := hM.lt; omega
 have hOg : ¬ O W.heap.size := fun h => by have := hO _ h; omega
 have i0 : (m : Int) < ws.length := by omega
 have fc := hL0.cell m false (by simp [hm])
 have ff := hL0.fro m
 have hL1 := hL0.set m true
 have hG1 : Gw W.heap.size W (W0.setCell ⟨W.heap.size, m, none⟩ (.bool true)) := (Gw.of (g := W.heap.size) hB0).setG m (.bool true)
 obtain ⟨R, hR⟩ : ∃ R, ledP at_ ws m = R := ⟨_, rfl⟩
 have HR : Y.Hd (R = dnn at_ ws (m + 1) ((List.replicate ws.length false).set m true)) := ⟨hR.symm⟩
 rw [hR]
 have HS := hid (And.intro hL1 hG1)
 have HM := hid (And.intro hM (And.intro hmb hat))
 have HO := hid (And.intro hO hOg)
 clear hR hL1 hG1 hM hmb hat hO hOg hL0 hB0
 go_enter Tryz.func32, Tryz.ntmps32
 go_wp2
 clear hmk fc ff
 go_loopw [8] (fun ix wr => ∃ (k : Nat) (l : List Bool), k <= m + 1 /\ ix = .int .i64 ((k : Int) - 1) /\ l.length = ws.length /\ LB wr W.heap.size l /\ Gw W.heap.size W wr /\ R = dnn at_ ws k l) (fun ix _ => (intOf ix + 1).toNat)
 case atStart => exact ⟨m + 1, _, by omega, by simp, by simp, HS.out.1, HS.out.2, HR.out⟩
 case round =>
  obtain ⟨k, l, hk, rfl, hll, hL, hG, hR⟩ := hrel
  cases k with
  | zero =>
   have HE := hid (And.intro hL (And.intro hG hR))
   clear hL hG hR
   have e0 : ((0 : Nat) : Int) - 1 = -1 := by decide
   rw [e0]
   go_wp2
   go_ret
   refine ⟨rfl, ?_, HE.out.2.1.below0⟩
   rw [HE.out.2.2]
   exact HE.out.1
  | succ j =>
   have e0 : ((j + 1 : Nat) : Int) - 1 = (j : Int) := by omega
   rw [e0]
   have hj : j < ws.length := by omega
   have i1 : (j : Int) < ws.length := by omega
   have i2 : (0 : Int) <= (j : Int) := by omega
   have ea := List.getElem?_eq_getElem hj
   generalize ws[j] = d at *
   obtain ⟨b, o, rfl, hOb, bv, hcl, hN⟩ := hp j d ea
   obtain ⟨q, cq, rfl, _, _⟩ := hN.ex
   have hbne : b ≠ W.heap.size := fun e => HO.out.2 (e ▸ hOb)
   have k1 := hG.block b (HO.out.1 b hOb) hbne
   obtain ⟨g0, g1, g2, g3, g4, g5⟩ := cells6 fun t x hx => (World.cell?_of_block (w := W) (a := ⟨b, o + j * 6 + t, none⟩) k1).trans (hcl t x hx)
   obtain ⟨bb, hbb⟩ : ∃ bb, l[j]? = some bb := ⟨_, List.getElem?_eq_getElem (by omega)⟩
   have fc := hL.cell j bb hbb
   rw [dnn, List.getD_eq_getElem?_getD, hbb, Option.getD_some] at hR
   have hbd : bodyAt ws j = d.body := by unfold bodyAt; rw [ea]
   rw [hbd] at hR
   cases bb with
   | false =>
    replace hR : R = dnn at_ ws j l := hR
    have HE := hid (And.intro hL (And.intro hG (And.intro hR hll)))
    clear hL hG hR hll hp hN hcl ea k1 hbd hbb hbne
    go_wp2
    go_roundw
    case rel =>
     first
      | exact ⟨j, l, by omega, by go_num, HE.out.2.2.2, HE.out.1, HE.out.2.1, HE.out.2.2.1⟩
      | ((repeat apply Exists.intro); refine ⟨⟨j, l, by omega, ?_, HE.out.2.2.2, HE.out.1, HE.out.2.1, HE.out.2.2.1⟩, rfl⟩; go_num)
    case measure => simp [intOf] <;> omega
   | true =>
    replace hR : R = dnn at_ ws j (mks at_ d.body l) := hR
    have hcm := mark_any at_ d.body _ O l W.heap.size mb ws.length wr (fun j hj => Nat.lt_of_lt_of_le (HO.out.1 j hj) hG.size) HO.out.2 HM.out.2.1 (nv_gw hN hG HO.out.1 HO.out.2) (mp_gw HM.out.1 hG HM.out.2.1) hL (fun s i h => by rw [hll]; exact HM.out.2.2 s i h) (by omega)
    rw [hll] at hcm
    have HE := hid (And.intro hG (And.intro hR hll))
    clear hL hG hR hll hp hN hcl ea k1 hbd hbb hbne
    go_wp2_with fail
    refine hcm.mono ?_
    rintro e w1 ⟨rfl, hl1, hg1⟩
    have HF := hid (And.intro hl1 (HE.out.1.trans hg1))
    clear hcm hl1 hg1 g0 g1 g2 g3 g4 g5 fc
    go_wp2
    go_roundw
    case rel =>
     first
      | exact ⟨j, mks at_ d.body l, by omega, by go_num, by rw [mks_len]; exact HE.out.2.2, HF.out.1, HF.out.2, HE.out.2.1⟩
      | ((repeat apply Exists.intro); refine ⟨⟨j, mks at_ d.body l, by omega, ?_, by rw [mks_len]; exact HE.out.2.2, HF.out.1, HF.out.2, HE.out.2.1⟩, rfl⟩; go_num)
    case measure => simp [intOf] <;> omega
open Go.Proofs.YtlilefhmohkfkaaGreatDoor.Y (Nd Df Ps)
open R (En lk numb chk Bk dsE dfE)
set_option linter.unusedVariables false
set_option linter.unusedSimpArgs false
def nMain : ByteArray := ⟨#[109, 97, 105, 110]⟩
def atW (ds : List Df) : En := numb ((wordsOf ds).map (·.nm)) 0
def mainAt (ds : List Df) : Nat := match lk (atW ds) nMain with | none => 0 | some i => i.toNat
def fb : List Bool -> List Ty -> Option (Int × Ps)
 | b :: bs, t :: ts => if b = true /\ t.e ≠ 0 then some (t.e, t.p) else fb bs ts
 | _, _ => none
def lastOf (ds : List Df) (m : Nat) : Int × Ps :=
 match (shs ds)[m]?, (wordsOf ds)[m]? with
 | some t, some d => if t.i ≠ 0 \/ t.o ≠ 0 then (154, d.p) else (0, (0, 0))
 | _, _ => (0, (0, 0))
def typP (ds : List Df) (bs : List Bk) : Int × Ps :=
 if chk ds bs = 0 then (fb (ledP (atW ds) (wordsOf ds) (mainAt ds)) (shs ds)).getD (lastOf ds (mainAt ds)) else (chk ds bs, (0, 0))
theorem fb_cons (b : Bool) (t : Ty) (bs : List Bool) (ts : List Ty) : fb (b :: bs) (t :: ts) = if b = true /\ t.e ≠ 0 then some (t.e, t.p) else fb bs ts := rfl
theorem lk_mem (x : ByteArray) : ∀ (ns : List ByteArray) (i : Nat), x ∈ ns -> ∃ n : Nat, lk (numb ns i) x = some ((i + n : Nat) : Int) /\ n < ns.length /\ ns[n]? = some x
 | [], i, h => by simp at h
 | s :: r, i, h => by
  rw [numb, lk]
  by_cases hs : s = x
  ·rw [if_pos hs]
   exact ⟨0, by simp, by simp, by simp [hs]⟩
  ·rw [if_neg hs]
   have hm : x ∈ r := by
    rcases List.mem_cons.1 h with h | h
    ·exact absurd h.symm hs
    ·exact h
   obtain ⟨n, h1, h2, h3⟩ := lk_mem x r (i + 1) hm
   exact ⟨n + 1, by rw [h1]; congr 2; omega, by simp; omega, by simpa using h3⟩
theorem main_in {ds : List Df} {bs : List Bk} (h : chk ds bs = 0) : ∃ m : Nat, lk (atW ds) nMain = some (m : Int) /\ m < (wordsOf ds).length /\ mainAt ds = m := by
 have hm : ds.any R.isMain = true := by
  unfold chk at h
  rw [if_pos (chk_ds h)] at h
  by_cases hb : R.bkE (-1) bs = 0
  ·rw [if_pos hb] at h
   cases e : ds.any R.isMain with
   | true => rfl
   | false => rw [e] at h; cases h
  ·rw [if_neg hb] at h; exact absurd h hb
 obtain ⟨d, hd, hi⟩ := List.any_eq_true.1 hm
 unfold R.isMain at hi
 simp only [Bool.and_eq_true, decide_eq_true_eq] at hi
 have hw : nMain ∈ (wordsOf ds).map (·.nm) := List.mem_map.2 ⟨d, List.mem_filter.2 ⟨hd, hi.1⟩, hi.2⟩
 obtain ⟨n, h1, h2, _⟩ := lk_mem nMain _ 0 hw
 rw [Nat.zero_add] at h1
 refine ⟨n, h1, by simpa using h2, ?_⟩
 unfold mainAt
 have h1' : lk (atW ds) nMain = some (n : Int) := h1
 rw [h1']
 rfl
theorem at_in (ds : List Df) (s : ByteArray) (i : Int) (h : lk (atW ds) s = some i) : 0 <= i /\ i < (wordsOf ds).length := by
 obtain ⟨n, rfl, hn⟩ := lk_at s _ 0 i h
 have := (List.getElem?_eq_some_iff.1 hn).1
 rw [List.length_map] at this
 omega
theorem shs_len (ds : List Df) : (shs ds).length = (wordsOf ds).length := by unfold shs; rw [tysP_len]; simp
end Go.Proofs.YtlilefhmohkfkaaGreatDoor.E
