import Derived.Test.YtdnklgceghllaaaGreatDoorTRising
import Derived.Deep.RegionHeld3
namespace Go.Proofs.YtdnklgceghllaaaGreatDoor.T
open Go.RowKit
set_option linter.unusedVariables false
def posf (pl : Nat -> Int × Int) : Nat -> Int := fun j => if j % 2 = 0 then (pl (j / 2)).1 else (pl (j / 2)).2
def updP (pl : Nat -> Int × Int) (k : Nat) (v : Int × Int) : Nat -> Int × Int := fun j => if j = k then v else pl j
theorem posf_upd (pl : Nat -> Int × Int) (k : Nat) (a b : Int) : upd (upd (posf pl) (k * 2) a) (k * 2 + 1) b = posf (updP pl k (a, b)) := by
 funext j
 unfold upd posf updP
 by_cases h1 : j = k * 2 + 1
 ·have h2 : j % 2 = 1 := by omega
  have h3 : j / 2 = k := by omega
  simp [h1]
  have : (k * 2 + 1) / 2 = k := by omega
  simp [this]
 ·by_cases h2 : j = k * 2
  ·have h3 : j % 2 = 0 := by omega
   have h4 : j / 2 = k := by omega
   simp [h2]
  ·have h3 : ¬ j / 2 = k := by omega
   simp [h1, h2, h3]
structure Bl where
 B : Nat
 bf : Nat
 bp : Nat
 bv : Nat
 bw : Nat
 bo : Nat
 br : Nat
 bl : Nat
 bg : Nat
structure Bl.ok (s : Bl) : Prop where
 h0 : s.B <= s.bf
 h1 : s.bf < s.bp
 h2 : s.bp < s.bv
 h3 : s.bv < s.bw
 h4 : s.bw < s.bo
 h5 : s.bo < s.br
 h6 : s.br < s.bl
 h7 : s.bl < s.bg
structure PS (s : Bl) (w0 W : World) (n : Nat) (f : Nat -> Int) (ord : Nat -> Nat) (T : Nat -> Int × Int) (line beg : Int) (j r : Nat) : Prop where
 below : Below s.B w0 W
 sum : j + r = n
 offs : W.heap[s.bf]? = some (.cells #[.slice (some ⟨s.bw, 0, none⟩) n n] 38 (0, 0))
 plac : W.heap[s.bv]? = some (.cells #[.slice (some ⟨s.bp, 0, none⟩) n n] 81 (0, 0))
 rest : ∃ a, W.heap[s.br]? = some (.cells #[.slice (some a) r r] 38 (0, 0)) /\ (0 < r -> a = ⟨s.bo, j, none⟩)
 lin : W.heap[s.bl]? = some (.cells #[.int .i64 line] 3 (0, 0))
 begn : W.heap[s.bg]? = some (.cells #[.int .i64 beg] 3 (0, 0))
 with_ : IRow W s.bw 3 f n
 ordr : IRow W s.bo 3 (fun k => (ord k : Int)) n
 told : ∃ pl, IRow W s.bp 28 (posf pl) (n * 2) /\ ∀ k, k < j -> pl (ord k) = T (ord k)
structure Keeps (s : Bl) (W W' : World) : Prop where
 size : W.heap.size = W'.heap.size
 block : ∀ k, k ≠ s.bp -> k ≠ s.br -> W'.heap[k]? = W.heap[k]?
theorem Keeps.refl (s : Bl) (W : World) : Keeps s W W := ⟨rfl, fun _ _ _ => rfl⟩
theorem Keeps.trans {s : Bl} {a b c : World} (h : Keeps s a b) (k : Keeps s b c) : Keeps s a c := ⟨h.size.trans k.size, fun i h1 h2 => (k.block i h1 h2).trans (h.block i h1 h2)⟩
def restLen (w : World) (b : Nat) : Nat :=
 match w.cell? ⟨b, 0, none⟩ with
 | some (.slice _ l _) => l
 | _ => 0
theorem ps_step (s : Bl) (ok : s.ok) (w0 W : World) (n : Nat) (f : Nat -> Int) (ord : Nat -> Nat) (T : Nat -> Int × Int) (line beg : Int) (j r m : Nat) (a b : Int) (q : Addr)
  (h : PS s w0 W n f ord T line beg j (r + 1)) (hT : T (ord j) = (a, b)) (hq : 0 < r -> q = ⟨s.bo, j + 1, none⟩) :
  PS s w0 ((((W.drewN m).setCell ⟨s.bp, ord j * 2, none⟩ (.int .i64 a)).setCell ⟨s.bp, ord j * 2 + 1, none⟩ (.int .i64 b)).setCell ⟨s.br, 0, none⟩ (.slice (some q) r r)) n f ord T line beg (j + 1) r /\
  Keeps s W ((((W.drewN m).setCell ⟨s.bp, ord j * 2, none⟩ (.int .i64 a)).setCell ⟨s.bp, ord j * 2 + 1, none⟩ (.int .i64 b)).setCell ⟨s.br, 0, none⟩ (.slice (some q) r r)) := by
 have o1 := ok.h0; have o2 := ok.h1; have o3 := ok.h2; have o4 := ok.h3; have o5 := ok.h4; have o6 := ok.h5; have o7 := ok.h6; have o8 := ok.h7
 have key : ∀ k, k ≠ s.bp -> k ≠ s.br -> ((((W.drewN m).setCell ⟨s.bp, ord j * 2, none⟩ (.int .i64 a)).setCell ⟨s.bp, ord j * 2 + 1, none⟩ (.int .i64 b)).setCell ⟨s.br, 0, none⟩ (.slice (some q) r r)).heap[k]? = W.heap[k]? := by
  intro k h1 h2
  rw [Below.heap_setCell _ _ _ _ (by exact h2), Below.heap_setCell _ _ _ _ (by exact h1), Below.heap_setCell _ _ _ _ (by exact h1)]
  rfl
 have hb : Below s.B w0 ((((W.drewN m).setCell ⟨s.bp, ord j * 2, none⟩ (.int .i64 a)).setCell ⟨s.bp, ord j * 2 + 1, none⟩ (.int .i64 b)).setCell ⟨s.br, 0, none⟩ (.slice (some q) r r)) :=
  (((h.below.trans ⟨rfl, rfl, rfl, Nat.le_refl _, fun _ _ => rfl⟩ : Below s.B w0 (W.drewN m)).setCell (p := ⟨s.bp, ord j * 2, none⟩) (by show s.B <= s.bp; omega) _).setCell (p := ⟨s.bp, ord j * 2 + 1, none⟩) (by show s.B <= s.bp; omega) _).setCell (p := ⟨s.br, 0, none⟩) (by show s.B <= s.br; omega) _
 refine ⟨⟨hb, by have := h.sum; omega, (key _ (by omega) (by omega)).trans h.offs, (key _ (by omega) (by omega)).trans h.plac, ?_, (key _ (by omega) (by omega)).trans h.lin, (key _ (by omega) (by omega)).trans h.begn,
  h.with_.kept (key _ (by omega) (by omega)), h.ordr.kept (key _ (by omega) (by omega)), ?_⟩, ⟨by simp [World.setCell, World.drewN], key⟩⟩
 ·refine ⟨q, ?_, hq⟩
  obtain ⟨c, hc, _⟩ := h.rest
  rw [heap_setCell_same _ s.br 0 #[.slice (some c) (r + 1) (r + 1)] 38 _ (by rw [Below.heap_setCell _ _ _ _ (by show s.br ≠ s.bp; omega), Below.heap_setCell _ _ _ _ (by show s.br ≠ s.bp; omega)]; exact hc)]
  rfl
 ·obtain ⟨pl, hpl, ht⟩ := h.told
  refine ⟨updP pl (ord j) (a, b), ?_, ?_⟩
  ·rw [<- posf_upd]
   have h1 : IRow (W.drewN m) s.bp 28 (posf pl) (n * 2) := hpl
   exact ((h1.store (ord j * 2) a).store (ord j * 2 + 1) b).kept (Below.heap_setCell _ _ _ _ (by show s.bp ≠ s.br; omega))
  ·intro k hk
   unfold updP
   by_cases e : ord k = ord j
   ·rw [if_pos e, e, hT]
   ·rw [if_neg e]
    refine ht k ?_
    have : k ≠ j := fun e2 => e (by rw [e2])
    omega
theorem ps_len {s : Bl} {w0 W : World} {n : Nat} {f : Nat -> Int} {ord : Nat -> Nat} {T : Nat -> Int × Int} {line beg : Int} {j r : Nat} (h : PS s w0 W n f ord T line beg j r) : restLen W s.br = r := by
 obtain ⟨a, hr, _⟩ := h.rest
 have := cell_of_row W s.br 0 _ _ _ hr
 simp only [List.getElem?_toArray, List.getElem?_cons_zero] at this
 unfold restLen; rw [this]
theorem ps_drew {s : Bl} {w0 W : World} {n : Nat} {f : Nat -> Int} {ord : Nat -> Nat} {T : Nat -> Int × Int} {line beg : Int} {j r : Nat} (h : PS s w0 W n f ord T line beg j r) (m : Nat) : PS s w0 (W.drewN m) n f ord T line beg j r :=
 ⟨h.below.trans ⟨rfl, rfl, rfl, Nat.le_refl _, fun _ _ => rfl⟩, h.sum, h.offs, h.plac, h.rest, h.lin, h.begn, h.with_, h.ordr, h.told⟩
theorem keeps_drew (s : Bl) (W : World) (m : Nat) : Keeps s W (W.drewN m) := ⟨rfl, fun _ _ _ => rfl⟩
set_option maxHeartbeats 2000000 in
set_option maxRecDepth 100000 in
theorem tell_any (s : Bl) (ok : s.ok) (w0 W : World) (n : Nat) (hn : n <= 1000000) (f : Nat -> Int) (ord : Nat -> Nat) (T : Nat -> Int × Int) (line beg fin : Int) (j r : Nat)
  (ho : Order f n ord) (hf : ∀ i, i < n -> 0 <= f i /\ f i <= 1000000000000000) (hl : 0 <= line /\ line <= 1000000000000000) (hg : 0 <= beg /\ beg <= 1000000000000000)
  (hT : ∀ k, j <= k -> k < n -> f (ord k) <= fin -> T (ord k) = (line, f (ord k) - beg + 1))
  (h : PS s w0 W n f ord T line beg j r) :
  Calls Tryz.prog 63 #[.int .i64 fin, .pointer (some ⟨s.br, 0, none⟩), .pointer (some ⟨s.bf, 0, none⟩), .pointer (some ⟨s.bl, 0, none⟩), .pointer (some ⟨s.bg, 0, none⟩), .pointer (some ⟨s.bv, 0, none⟩)] W
   fun e w' => e = .returned (.tuple #[]) /\ Keeps s W w' /\ ∃ j' r', j <= j' /\ PS s w0 w' n f ord T line beg j' r' /\ ∀ k, j' <= k -> k < n -> fin < f (ord k) := by
 go_enter Tryz.func63, Tryz.ntmps63
 go_wp2
 go_loopw [7] (fun _ wr => Keeps s W wr /\ ∃ j' r', j <= j' /\ PS s w0 wr n f ord T line beg j' r') (fun _ wr => restLen wr s.br)
 case atStart => exact ⟨Keeps.refl _ _, j, r, Nat.le_refl _, h⟩
 case round =>
  clear h
  obtain ⟨hk, j', r', hj, h⟩ := hrel
  obtain ⟨a, hrest, hra⟩ := h.rest
  have hsum := h.sum
  have c_rest := cell_of_row wr s.br 0 _ _ _ hrest
  have c_offs := cell_of_row wr s.bf 0 _ _ _ h.offs
  have c_plac := cell_of_row wr s.bv 0 _ _ _ h.plac
  have c_lin := cell_of_row wr s.bl 0 _ _ _ h.lin
  have c_beg := cell_of_row wr s.bg 0 _ _ _ h.begn
  simp only [List.getElem?_toArray, List.getElem?_cons_zero] at c_rest c_offs c_plac c_lin c_beg
  have z_rest := frozen_of_row wr s.br 0 _ _ hrest
  cases r' with
  | succ r' =>
   obtain rfl := hra (by omega)
   have hjn : j' < n := by omega
   have hoj := ho.lt j' hjn
   have c_o := h.ordr.cell j' hjn
   have c_f := h.with_.cell (ord j') hoj
   obtain ⟨hf0, hf1⟩ := hf _ hoj
   obtain ⟨pl, hpl, htold⟩ := h.told
   have hd : decide ((0 : Int) < ((r' + 1 : Nat) : Int)) = true := by simp
   by_cases hle : f (ord j') <= fin
   ·have hp0 := hpl.cell (ord j' * 2) (by omega)
    have hp1 := hpl.cell (ord j' * 2 + 1) (by omega)
    have z0 := hpl.frozen (ord j' * 2)
    have z1 := hpl.frozen (ord j' * 2 + 1)
    have hd' : decide (f (ord j') <= fin) = true := by simpa using hle
    have o2 := ok.h1; have o3 := ok.h2; have o4 := ok.h3; have o5 := ok.h4; have o6 := ok.h5; have o7 := ok.h6; have o8 := ok.h7
    have n1 : s.bp ≠ s.br := by omega
    have n2 : s.bp ≠ s.bf := by omega
    have n3 : s.bp ≠ s.bv := by omega
    have n4 : s.bp ≠ s.bl := by omega
    have n5 : s.bp ≠ s.bg := by omega
    have n6 : s.bp ≠ s.bo := by omega
    have n7 : s.bp ≠ s.bw := by omega
    clear o2 o3 o4 o5 o6 o7 o8
    have hTj := hT j' hj hjn hle
    have HS : Hid (∀ m q, (0 < r' -> q = ⟨s.bo, j' + 1, none⟩) -> PS s w0 ((((wr.drewN m).setCell ⟨s.bp, ord j' * 2, none⟩ (.int .i64 line)).setCell ⟨s.bp, ord j' * 2 + 1, none⟩ (.int .i64 (f (ord j') - beg + 1))).setCell ⟨s.br, 0, none⟩ (.slice (some q) r' r')) n f ord T line beg (j' + 1) r' /\
     Keeps s wr ((((wr.drewN m).setCell ⟨s.bp, ord j' * 2, none⟩ (.int .i64 line)).setCell ⟨s.bp, ord j' * 2 + 1, none⟩ (.int .i64 (f (ord j') - beg + 1))).setCell ⟨s.br, 0, none⟩ (.slice (some q) r' r'))) :=
     fun m q hq => ps_step s ok w0 wr n f ord T line beg j' r' m _ _ q h hTj hq
    have HK : Hid (Keeps s W wr) := hk
    have HL : Hid (restLen wr s.br = r' + 1) := ps_len h
    obtain ⟨hl0, hl1⟩ := hl
    obtain ⟨hg0, hg1⟩ := hg
    have hi0 : (0 : Int) <= (ord j' : Int) := by omega
    have hi1 : (ord j' : Int) < (n : Int) := by omega
    clear ho hf hT htold hTj hk h hpl hrest hra
    go_wp2
    go_quiet (fail)
    go_wp2
    go_region_held3 (fun w' => w'.cell? ⟨s.br, 0, none⟩ = some (.slice (some ⟨s.bo, j', none⟩) (r' + 1) (r' + 1)) /\ w'.cell? ⟨s.bf, 0, none⟩ = some (.slice (some ⟨s.bw, 0, none⟩) n n) /\ w'.cell? ⟨s.bv, 0, none⟩ = some (.slice (some ⟨s.bp, 0, none⟩) n n) /\ w'.cell? ⟨s.bl, 0, none⟩ = some (.int .i64 line) /\ w'.cell? ⟨s.bg, 0, none⟩ = some (.int .i64 beg) /\ w'.cell? ⟨s.bo, j', none⟩ = some (.int .i64 (ord j' : Int)) /\ w'.cell? ⟨s.bw, ord j', none⟩ = some (.int .i64 (f (ord j')))) (go_keep) (fail)
    go_wp2
    have hq : (if r' = 0 then some (⟨s.bo, j', none⟩ : Addr) else some ⟨s.bo, j' + 1, none⟩) = some (if r' = 0 then ⟨s.bo, j', none⟩ else ⟨s.bo, j' + 1, none⟩) := by split <;> rfl
    rw [hq]
    obtain ⟨p1, p2⟩ := HS.out _ (if r' = 0 then ⟨s.bo, j', none⟩ else ⟨s.bo, j' + 1, none⟩) (fun h => by rw [if_neg (by omega)])
    exact ⟨⟨HK.out.trans p2, j' + 1, r', by omega, p1⟩, by rw [ps_len p1, HL.out]; omega⟩
   ·have hd' : decide (f (ord j') <= fin) = false := by simpa using hle
    have HE : Hid (∀ k, j' <= k -> k < n -> fin < f (ord k)) := by
     intro k h1 h2
     by_cases e : j' = k
     ·rw [<- e]; omega
     ·have := ho.rise j' k (by omega) h2
      omega
    have HP : Hid (PS s w0 wr n f ord T line beg j' (r' + 1)) := h
    have HK : Hid (Keeps s W wr) := hk
    clear ho hf hT htold hk h hpl hrest hra
    go_wp2
    go_quiet (fail)
    go_wp2
    go_end0
    exact ⟨rfl, HK.out.trans (keeps_drew _ _ _), j', r' + 1, hj, ps_drew HP.out _, HE.out⟩
  | zero =>
   have hd : decide ((0 : Int) < ((0 : Nat) : Int)) = false := by simp
   have HP : Hid (PS s w0 wr n f ord T line beg j' 0) := h
   have HK : Hid (Keeps s W wr) := hk
   clear ho hf hT hk h hrest hra
   go_wp2
   go_quiet (fail)
   go_wp2
   go_end0
   exact ⟨rfl, HK.out.trans (keeps_drew _ _ _), j', 0, hj, ps_drew HP.out _, fun k h1 h2 => by omega⟩
end Go.Proofs.YtdnklgceghllaaaGreatDoor.T
