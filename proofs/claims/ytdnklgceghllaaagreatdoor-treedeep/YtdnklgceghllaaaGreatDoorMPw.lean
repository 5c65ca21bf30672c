import Derived.Test.YtdnklgceghllaaaGreatDoorYBank
import Derived.Test.YtdnklgceghllaaaGreatDoorSKit
import Derived.Test.YtdnklgceghllaaaGreatDoorPAll
import Derived.Lib.AppendStr
import Derived.Lib.ItoaNum
import Derived.Deep.DeepCutAuto
namespace Go.Proofs.YtdnklgceghllaaaGreatDoor.M
open Go.RowKit
open Go.Proofs
open Go.Proofs.YtdnklgceghllaaaGreatDoor.Y (Nd Df Ps Bk)
set_option linter.unusedVariables false
set_option linter.unusedSimpArgs false
def bz (l : List UInt8) : List Value := l.map fun x => .int .u8 (x.toNat : Int)
theorem bz_len (l : List UInt8) : (bz l).length = l.length := by simp [bz]
theorem bz_app (a b : List UInt8) : bz (a ++ b) = bz a ++ bz b := by simp [bz]
def put1 (t : List UInt8) (w : ByteArray) : List UInt8 := if t.length <= 65536 then t ++ w.data.toList ++ [32] else t
def puts (t : List UInt8) (ws : List ByteArray) : List UInt8 := ws.foldl put1 t
theorem puts_app (t : List UInt8) (a b : List ByteArray) : puts t (a ++ b) = puts (puts t a) b := List.foldl_append
theorem puts_take (t : List UInt8) (ws : List ByteArray) (k : Nat) (w : ByteArray) (h : ws[k]? = some w) : puts t (ws.take (k + 1)) = put1 (puts t (ws.take k)) w := by
 rw [List.take_add_one, h, puts_app]; rfl
def endL (t : List UInt8) : List UInt8 := t.set (t.length - 1) 10
def dcm (v : Int) : ByteArray := ⟨(Lib.itoa (wrap64 v)).toArray⟩
def pn (op : Int) : ByteArray := if op < 1 \/ 64 <= op then ⟨#[]⟩ else P.nm op.toNat
def wIf : ByteArray := ⟨#[105, 102]⟩
def wElse : ByteArray := ⟨#[101, 108, 115, 101]⟩
def wThen : ByteArray := ⟨#[116, 104, 101, 110]⟩
def wBegin : ByteArray := ⟨#[98, 101, 103, 105, 110]⟩
def wUntil : ByteArray := ⟨#[117, 110, 116, 105, 108]⟩
def wAgain : ByteArray := ⟨#[97, 103, 97, 105, 110]⟩
def wWhile : ByteArray := ⟨#[119, 104, 105, 108, 101]⟩
def wRepeat : ByteArray := ⟨#[114, 101, 112, 101, 97, 116]⟩
def wDo : ByteArray := ⟨#[100, 111]⟩
def wLoop : ByteArray := ⟨#[108, 111, 111, 112]⟩
def wExit : ByteArray := ⟨#[101, 120, 105, 116]⟩
def wColon : ByteArray := ⟨#[58]⟩
def wSemi : ByteArray := ⟨#[59]⟩
def wConst : ByteArray := ⟨#[99, 111, 110, 115, 116, 97, 110, 116]⟩
def wVar : ByteArray := ⟨#[118, 97, 114, 105, 97, 98, 108, 101]⟩
def wBuf : ByteArray := ⟨#[98, 117, 102, 102, 101, 114]⟩
def wBank : ByteArray := ⟨#[98, 97, 110, 107]⟩
def wOpen : ByteArray := ⟨#[123]⟩
def wShut : ByteArray := ⟨#[125]⟩
def nwf (k op v : Int) (nm : ByteArray) (has : Bool) (a b : List ByteArray) : List ByteArray :=
 if k = 1 then [pn op] else if k = 2 then [dcm v] else if k = 3 then [nm] else if k = 9 then [wExit]
 else if k = 4 then (if has then [wIf] ++ a ++ [wElse] ++ b ++ [wThen] else [wIf] ++ a ++ [wThen])
 else if k = 6 then [wBegin] ++ a ++ [wWhile] ++ b ++ [wRepeat]
 else if k = 5 then [wBegin] ++ a ++ [wUntil] else if k = 7 then [wBegin] ++ a ++ [wAgain] else if k = 8 then [wDo] ++ a ++ [wLoop] else []
def nw : Nd -> List ByteArray
 | ⟨k, op, v, nm, th, el, has, _⟩ => nwf k op v nm has (th.map nw).flatten (el.map nw).flatten
def nws (l : List Nd) : List ByteArray := (l.map nw).flatten
theorem nw_is (n : Nd) : nw n = nwf n.k n.op n.v n.nm n.has (nws n.th) (nws n.el) := by cases n; rw [nw]; rfl
theorem nws_nil : nws [] = [] := rfl
theorem nws_cons (n : Nd) (l : List Nd) : nws (n :: l) = nw n ++ nws l := rfl
theorem nws_app (a b : List Nd) : nws (a ++ b) = nws a ++ nws b := by simp [nws]
theorem nws_take (l : List Nd) (k : Nat) (n : Nd) (h : l[k]? = some n) : nws (l.take (k + 1)) = nws (l.take k) ++ nw n := by
 rw [List.take_add_one, h, nws_app]
 show _ ++ nws [n] = _
 rw [nws_cons, nws_nil, List.append_nil]
def dw (d : Df) : List ByteArray :=
 if d.k = 1 then [wColon, d.nm] ++ nws d.body ++ [wSemi] else if d.k = 2 then [dcm d.v, wConst, d.nm] else if d.v = 2 then [wVar, d.nm] else [dcm d.v, wBuf, d.nm]
def bw (b : Bk) : List ByteArray := [dcm (IntKind.u16.wrap b.1), wBank, wOpen] ++ b.2.map (fun x => dcm (x.toNat : Int)) ++ [wShut]
abbrev PRT : TypeId := 67
structure PS (W0 : World) (g : Nat) (W : World) (t : List UInt8) : Prop where
 blk : ∃ v, W.heap[g]? = some (.cells [v].toArray PRT (0, 0)) /\ W.ownsRow (g + 1) 5 1 v t.length (bz t)
 bel : Below g W0 W
 few : t.length <= 65700
theorem PS.lt {W0 : World} {g : Nat} {W : World} {t : List UInt8} (h : PS W0 g W t) : g < W.heap.size := by
 obtain ⟨v, hb, _⟩ := h.blk
 exact (Array.getElem?_eq_some_iff.1 hb).1
theorem PS.next {W0 : World} {g : Nat} {W W' : World} {t : List UInt8} (h : PS W0 g W t) (b : Below W.heap.size W W') : PS W0 g W' t := by
 obtain ⟨v, hb, hr⟩ := h.blk
 exact ⟨⟨v, (b.block _ h.lt).trans hb, S.own_kept hr fun k _ hk => b.block k hk⟩, h.bel.trans (b.mono (Nat.le_of_lt h.lt)), h.few⟩
def KP (g : Nat) (W W' : World) : Prop := ∀ k c, W.heap[k]? = some c -> k ≠ g -> (∀ cs, c ≠ .cells cs 5 (0, 0)) -> W'.heap[k]? = some c
theorem KP.refl (g : Nat) (W : World) : KP g W W := fun _ _ h _ _ => h
theorem KP.trans {g : Nat} {A B C : World} (h : KP g A B) (k : KP g B C) : KP g A C := fun j c hj h1 h2 => k j c (h j c hj h1 h2) h1 h2
theorem KP.of {g : Nat} {A B : World} (h : Below A.heap.size A B) : KP g A B := fun j c hj _ _ => (h.block j (Array.getElem?_eq_some_iff.1 hj).1).trans hj
def PO (W0 : World) (g : Nat) (t : List UInt8) (W : World) (en : Ending) (w' : World) : Prop := en = .returned (.tuple #[]) /\ PS W0 g w' t /\ KP g W w'
theorem put1_len (t : List UInt8) (w : ByteArray) (ht : t.length <= 65700) (hw : w.size <= 100) : (put1 t w).length <= 65700 := by
 unfold put1
 split
 ·have : w.data.toList.length = w.size := by rw [Array.length_toList]; rfl
  simp only [List.length_append, this, List.length_cons, List.length_nil]; omega
 ·exact ht
open Go.Proofs.YtdnklgceghllaaaGreatDoor.Y (Nd Df Ps Bk hid)
set_option linter.unusedVariables false
set_option linter.unusedSimpArgs false
set_option maxHeartbeats 4000000
set_option maxRecDepth 100000
theorem infoU : (Tryz.prog.info? 5).map (fun i => (i.zero, i.size, i.bytes)) = some (some (.int .u8 0), 1, 1) := by kernel_rfl
theorem row_val {W : World} {B : Nat} {e : TypeId} {s : Nat} {v : Value} {n : Nat} {xs : List Value} (h : W.ownsRow B e s v n xs) : ∃ p c, v = .slice p n c := by
  rcases h.2 with ⟨rfl, rfl⟩ | ⟨g, cap, cur, rfl, _⟩
  · exact ⟨none, 0, rfl⟩
  · exact ⟨_, cap, rfl⟩
theorem own_ty {W : World} {B : Nat} {e : TypeId} {s : Nat} {v : Value} {n : Nat} {xs : List Value} (h : W.ownsRow B e s v n xs) (k : Nat) (hk : v.ownBlock = some k) : ∃ c, W.heap[k]? = some (.cells c e (0, 0)) := by
  rcases h.2 with ⟨rfl, rfl⟩ | ⟨g, cap, cur, rfl, _, hg, _⟩
  · cases hk
  · cases hk; exact ⟨_, hg⟩
theorem put_any (W0 : World) (g : Nat) (W : World) (t : List UInt8) (h : PS W0 g W t) (ws : List ByteArray) (hw : ∀ w ∈ ws, w.size <= 100) (hn : ws.length <= 1000) (b : Nat) (hb : W.heap[b]? = some (.cells (ws.map Value.string).toArray 9 (0, 0))) :
    Calls Tryz.prog 48 #[.pointer (some ⟨g, 0, none⟩), .slice (some ⟨b, 0, none⟩) ws.length ws.length] W (PO W0 g (puts t ws) W) := by
  have H0 := hid (And.intro h hb)
  have hbg : b ≠ g := by
    rintro rfl
    obtain ⟨v, hv, _⟩ := h.blk
    rw [hb] at hv
    simp only [Option.some.injEq, Obj.cells.injEq] at hv
    exact absurd hv.2.1 (by decide)
  clear h hb
  go_enter Tryz.func48, Tryz.ntmps48
  go_wp2
  go_loopw [8] (fun i wr => ∃ k : Nat, k <= ws.length /\ i = .int .i64 (k : Int) /\ PS W0 g wr (puts t (ws.take k)) /\ (∀ j c, W.heap[j]? = some c -> j ≠ g -> (∀ cs, c ≠ .cells cs 5 (0, 0)) -> wr.heap[j]? = some c)) (fun i _ => ws.length - (intOf i).toNat)
  case atStart => exact ⟨0, by omega, rfl, H0.out.1, fun j c hj _ _ => hj⟩
  case round =>
    obtain ⟨k, hk, rfl, hP, hK⟩ := hrel
    by_cases hlt : k < ws.length
    · have i1 : (k : Int) < ws.length := by omega
      have ea := List.getElem?_eq_getElem hlt
      have hws := hw ws[k] (List.getElem_mem _)
      have hbr := hK b _ H0.out.2 hbg (by intro cs e; cases e)
      have g0 : wr.cell? ⟨b, k, none⟩ = some (.string ws[k]) := S.cell_of wr b k _ 9 _ hbr (by rw [List.getElem?_map, ea]; rfl)
      have htk := puts_take t ws k ws[k] ea
      obtain ⟨s, hs⟩ : ∃ s, ws[k] = s := ⟨_, rfl⟩
      rw [hs] at hws g0 htk
      obtain ⟨L, hL⟩ : ∃ L, puts t (ws.take k) = L := ⟨_, rfl⟩
      rw [hL] at hP htk
      have hfew := hP.few
      obtain ⟨v, hv, hr⟩ := hP.blk
      obtain ⟨pv, cv, rfl⟩ := row_val hr
      have y0 : wr.cell? ⟨g, 0, none⟩ = some (.slice pv L.length cv) := S.cell_of wr g 0 _ PRT _ hv rfl
      by_cases hle : L.length <= 65536
      · have i2 : (L.length : Int) <= 65536 := by omega
        have hT : put1 L s = L ++ s.data.toList ++ [32] := by unfold put1; rw [if_pos hle]
        have hsz : s.data.toList.length = s.size := by rw [Array.length_toList]; rfl
        have HP := hid (And.intro hP (And.intro hK (And.intro hv (And.intro hr (And.intro htk hT)))))
        have HN := hid (And.intro hfew (And.intro hws hsz))
        have hgs : g + 1 <= wr.heap.size := hP.lt
        clear hP hK hv hbr hL ea hs hT hfew htk hsz
        obtain ⟨i0, hi, hz0, hz1, hz2⟩ := info_parts infoU
        have HI := hid (And.intro hi (And.intro hz0 (And.intro hz1 hz2)))
        clear hi hz0 hz1 hz2
        go_wp2_with (first | (at_builtin; refine Lib.wpList_append_own_string (P := Tryz.prog) _ rfl _ _ 50 9 rfl (g + 1) 5 i0 Tryz.underlying50 Tryz.underlying9 HI.out.1 HI.out.2.1 HI.out.2.2.1 HI.out.2.2.2 _ L.length (bz L) rfl hr s rfl (by have := HN.out; unfold maxLen; omega) (by have := HN.out; omega) hgs ?_))
        intro v1 w1 hr1 hg1 hnil1
        obtain ⟨hP, hK, hv, hr0, htk, hT⟩ := HP.out
        have hne : ∀ j, some j = (Value.slice pv L.length cv).ownBlock -> g + 1 <= j := fun j e => (hr0.lt j e.symm).1
        have hv1 : w1.heap[g]? = some (.cells [.slice pv L.length cv].toArray PRT (0, 0)) := (hg1.block g hP.lt (fun e => by have := hne g e; omega)).trans hv
        have hB1 : Below g W0 w1 := hP.bel.trans ⟨hg1.os, hg1.tape, hg1.output, by have := hP.lt; have := hg1.size; omega, fun j hj => hg1.block j (by have := hP.lt; omega) (fun e => by have := hne j e; omega)⟩
        have hK1 : ∀ j c, W.heap[j]? = some c -> j ≠ g -> (∀ cs, c ≠ .cells cs 5 (0, 0)) -> w1.heap[j]? = some c := fun j c hj h1 h2 => by
          have hx := hK j c hj h1 h2
          refine (hg1.block j (Array.getElem?_eq_some_iff.1 hx).1 (fun e => ?_)).trans hx
          obtain ⟨cs, hcs⟩ := own_ty hr0 j e.symm
          rw [hx] at hcs
          cases hcs
          exact h2 _ rfl
        obtain ⟨p1, c1, rfl⟩ := row_val hr1
        have HQ := hid (And.intro hv1 (And.intro hB1 (And.intro hK1 (And.intro hr1 (And.intro htk hT)))))
        have hgs1 : g + 1 <= w1.heap.size := (Array.getElem?_eq_some_iff.1 hv1).1
        clear hP hK hv hr0 htk hT hne hv1 hB1 hK1 hr hg1 hnil1 HP y0 g0 hgs hr1 HI
        obtain ⟨W2, hW2⟩ : ∃ W2, w1.alloc (.cells #[.int .u8 32] 5) = W2 := ⟨_, rfl⟩
        have hb2 : Below w1.heap.size w1 W2 := by rw [<- hW2]; exact (Below.refl _ _).alloc (Nat.le_refl _) _
        have v2 : W2.heap[w1.heap.size]? = some (.cells [.int .u8 32].toArray 5 (0, 0)) := by rw [<- hW2]; exact heap_alloc_new w1 _
        have hcs : S.Cs W2 (.slice (some ⟨w1.heap.size, 0, none⟩) 1 1) 1 1 [.int .u8 32] := .inr ⟨⟨w1.heap.size, 0, none⟩, 1, rfl, rfl, fun j x hj => by
            rw [Addr.add_lit, Nat.zero_add]
            exact S.cell_of W2 _ j _ 5 x v2 hj, fun x hx => by
            simp only [List.mem_cons, List.not_mem_nil, or_false] at hx
            rcases hx with rfl; rfl⟩
        have hr2 : W2.ownsRow (g + 1) 5 1 (.slice p1 (L.length + s.size) c1) (L.length + s.size) (bz L ++ Lib.strCells s) := S.own_kept HQ.out.2.2.2.1 (fun j _ hj => hb2.block j hj)
        have hgs2 : g + 1 <= W2.heap.size := Nat.le_trans hgs1 hb2.size
        have HB2 := hid hb2
        have HW2 := hid hW2
        clear hb2 v2 hW2
        go_wp2_with (first | (at_builtin; rw [HW2.out]; refine S.wpList_append_row _ rfl _ _ 50 5 (.int .u8 0) 1 1 Tryz.underlying50 infoU rfl (by decide) rfl (g + 1) _ (L.length + s.size) (bz L ++ Lib.strCells s) rfl hr2 _ 1 [.int .u8 32] rfl hcs (by have := HN.out; unfold S.room; omega) (by have := HN.out; unfold maxLen; omega) hgs2 ?_))
        intro v3 w3 r3 g3
        obtain ⟨p3, c3, rfl⟩ := row_val r3
        obtain ⟨hv1, hB1, hK1, hr1, htk, hT⟩ := HQ.out
        have hne : ∀ j, some j = (Value.slice p1 (L.length + s.size) c1).ownBlock -> g + 1 <= j := fun j e => (hr2.lt j e.symm).1
        have hB2 : Below g W0 W2 := hB1.trans (HB2.out.mono (by omega))
        have hv2 := (HB2.out.block g (by omega)).trans hv1
        have hv3 : w3.heap[g]? = some (.cells [.slice pv L.length cv].toArray PRT (0, 0)) := (g3.block g (by omega) (fun e => by have := hne g e; omega)).trans hv2
        have hB3 : Below g W0 w3 := hB2.trans ⟨g3.os, g3.tape, g3.output, by have := g3.size; omega, fun j hj => g3.block j (by omega) (fun e => by have := hne j e; omega)⟩
        have hK3 : ∀ j c, W.heap[j]? = some c -> j ≠ g -> (∀ cs, c ≠ .cells cs 5 (0, 0)) -> w3.heap[j]? = some c := fun j c hj h1 h2 => by
          have hx := hK1 j c hj h1 h2
          have hx2 := (HB2.out.block j (Array.getElem?_eq_some_iff.1 hx).1).trans hx
          refine (g3.block j (Array.getElem?_eq_some_iff.1 hx2).1 (fun e => ?_)).trans hx2
          obtain ⟨cs, hcs⟩ := own_ty hr2 j e.symm
          rw [hx2] at hcs
          cases hcs
          exact h2 _ rfl
        have y0 := S.cell_of w3 g 0 _ PRT _ hv3 rfl
        have z0 := S.frozen_of w3 g 0 _ PRT hv3
        have hN := HN.out
        have hrow : w3.ownsRow (g + 1) 5 1 (.slice p3 (L.length + s.size + 1) c3) (put1 L s).length (bz (put1 L s)) := by
          rw [hT, bz_app, bz_app]
          have e1 : (L ++ s.data.toList ++ [32]).length = L.length + s.size + 1 := by rw [List.length_append, List.length_append, hN.2.2]; rfl
          rw [e1, List.append_assoc]
          exact r3
        have hlen := put1_len L s hN.1 hN.2.1
        have hPS : PS W0 g (w3.setCell ⟨g, 0, none⟩ (.slice p3 (L.length + s.size + 1) c3)) (puts t (ws.take (k + 1))) := by
          rw [htk]
          refine ⟨⟨_, ?_, S.own_kept hrow fun j e _ => heap_setCell_other w3 ⟨g, 0, none⟩ j _ (by have := (hrow.lt j e).1; show j ≠ g; omega)⟩, hB3.setCell (p := ⟨g, 0, none⟩) (Nat.le_refl _) _, hlen⟩
          exact S.setCell_heap w3 g 0 _ PRT _ hv3
        have hKK : ∀ j c, W.heap[j]? = some c -> j ≠ g -> (∀ cs, c ≠ .cells cs 5 (0, 0)) -> (w3.setCell ⟨g, 0, none⟩ (.slice p3 (L.length + s.size + 1) c3)).heap[j]? = some c := fun j c hj h1 h2 => (heap_setCell_other w3 ⟨g, 0, none⟩ j _ h1).trans (hK3 j c hj h1 h2)
        have HR := hid (And.intro hPS hKK)
        clear hv1 hB1 hK1 hr1 htk hT hne hB2 hv2 hv3 hB3 hK3 hN hrow hlen hPS hKK r3 g3 HQ hr2 hcs HB2 HW2 hgs1 hgs2
        go_wp2
        go_roundw
        case rel => first | exact ⟨k + 1, by omega, by go_num, HR.out.1, HR.out.2⟩ | ((repeat apply Exists.intro); refine ⟨⟨k + 1, by omega, ?_, HR.out.1, HR.out.2⟩, rfl⟩; go_num)
        case measure => simp [intOf]; omega
      · have i2 : ¬ (L.length : Int) <= 65536 := by omega
        have hT : put1 L s = L := by unfold put1; rw [if_neg hle]
        rw [hT] at htk
        have HR := hid (And.intro (htk ▸ hP) hK)
        clear hP hK hv hr hbr hL ea hs hT hfew htk
        go_wp2
        go_roundw
        case rel => first | exact ⟨k + 1, by omega, by go_num, HR.out.1, HR.out.2⟩ | ((repeat apply Exists.intro); refine ⟨⟨k + 1, by omega, ?_, HR.out.1, HR.out.2⟩, rfl⟩; go_num)
        case measure => simp [intOf]; omega
    · obtain rfl : k = ws.length := by omega
      have i1 : ¬ ((ws.length : Nat) : Int) < ws.length := by omega
      rw [List.take_length] at hP
      go_wp2
      refine bodyPost_ret (results_none rfl _ _ _) rfl ?_
      exact ⟨rfl, hP, hK⟩
theorem put_list (W0 : World) (g : Nat) (W : World) (t : List UInt8) (h : PS W0 g W t) (ws : List ByteArray) (hw : ∀ w ∈ ws, w.size <= 100) (hn : ws.length <= 1000) :
    Calls Tryz.prog 48 #[.pointer (some ⟨g, 0, none⟩), .slice (some ⟨W.heap.size, 0, none⟩) ws.length ws.length] (W.alloc (.cells (ws.map Value.string).toArray 9)) (PO W0 g (puts t ws) W) := by
  have hb : Below W.heap.size W (W.alloc (.cells (ws.map Value.string).toArray 9)) := (Below.refl _ _).alloc (Nat.le_refl _) _
  refine (put_any W0 g _ t (h.next hb) ws hw hn W.heap.size (heap_alloc_new W _)).mono ?_
  rintro e w' ⟨rfl, h1, h2⟩
  exact ⟨rfl, h1, (KP.of hb).trans h2⟩
theorem put_one {W0 : World} {g : Nat} {W : World} {t : List UInt8} (h : PS W0 g W t) (s : ByteArray) (hs : s.size <= 100) :
    Calls Tryz.prog 48 #[.pointer (some ⟨g, 0, none⟩), .slice (some ⟨W.heap.size, 0, none⟩) 1 1] (W.alloc (.cells #[.string s] 9)) (PO W0 g (puts t [s]) W) :=
  put_list W0 g W t h [s] (by simpa using hs) (by simp)
theorem put_two {W0 : World} {g : Nat} {W : World} {t : List UInt8} (h : PS W0 g W t) (s s2 : ByteArray) (hs : s.size <= 100) (hs2 : s2.size <= 100) :
    Calls Tryz.prog 48 #[.pointer (some ⟨g, 0, none⟩), .slice (some ⟨W.heap.size, 0, none⟩) 2 2] (W.alloc (.cells #[.string s, .string s2] 9)) (PO W0 g (puts t [s, s2]) W) :=
  put_list W0 g W t h [s, s2] (by simpa using And.intro hs hs2) (by simp)
theorem put_three {W0 : World} {g : Nat} {W : World} {t : List UInt8} (h : PS W0 g W t) (s s2 s3 : ByteArray) (hs : s.size <= 100) (hs2 : s2.size <= 100) (hs3 : s3.size <= 100) :
    Calls Tryz.prog 48 #[.pointer (some ⟨g, 0, none⟩), .slice (some ⟨W.heap.size, 0, none⟩) 3 3] (W.alloc (.cells #[.string s, .string s2, .string s3] 9)) (PO W0 g (puts t [s, s2, s3]) W) :=
  put_list W0 g W t h [s, s2, s3] (by simpa using And.intro hs (And.intro hs2 hs3)) (by simp)
end Go.Proofs.YtdnklgceghllaaaGreatDoor.M
