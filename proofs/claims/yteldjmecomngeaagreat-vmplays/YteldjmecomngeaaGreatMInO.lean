import Derived.Test.YteldjmecomngeaaGreatMKit
import Derived.Deep.RegionHeld
namespace Go.Proofs.YteldjmecomngeaaGreat.M
open Go.RowKit
open Go.Proofs
set_option linter.unusedVariables false
set_option linter.unusedSimpArgs false
structure OI (W : World) (B : Nat) (v : Value) (bs : List (Int × List UInt8)) (gs : List (Nat × Nat)) : Prop where
 len : gs.length = bs.length
 row : W.ownsRow B 81 2 v bs.length (bcs bs gs)
 dat : ∀ (i : Nat) (t : Int × List UInt8) (g : Nat × Nat), bs[i]? = some t -> gs[i]? = some g -> Row W B (.slice (some ⟨g.1, 0, none⟩) t.2.length g.2) t.2
 nd : (gs.map Prod.fst).Nodup
theorem OI.kept {W W' : World} {B : Nat} {v : Value} {bs : List (Int × List UInt8)} {gs : List (Nat × Nat)} (h : OI W B v bs gs) (k : ∀ i, B <= i -> i < W.heap.size -> W'.heap[i]? = W.heap[i]?) : OI W' B v bs gs :=
 ⟨h.len, own_kept h.row fun g e hg => k g (h.row.lt g e).1 hg, fun i t g h1 h2 => own_kept (h.dat i t g h1 h2) fun x e hg => k x ((h.dat i t g h1 h2).lt x e).1 hg, h.nd⟩
theorem OI.below {W W' : World} {B : Nat} {v : Value} {bs : List (Int × List UInt8)} {gs : List (Nat × Nat)} (h : OI W B v bs gs) (k : Below W.heap.size W W') : OI W' B v bs gs := h.kept fun i _ hi => k.block i hi
def inO (m : MS) (k : Nat) : List (Int × List UInt8) := (List.range k).filterMap fun n => (m.banks n).map fun l => ((n : Int), l)
theorem inO_none (m : MS) (k : Nat) (h : m.banks k = none) : inO m (k + 1) = inO m k := by simp [inO, List.range_succ, List.filterMap_append, h]
theorem inO_some (m : MS) (k : Nat) (l : List UInt8) (h : m.banks k = some l) : inO m (k + 1) = inO m k ++ [((k : Int), l)] := by simp [inO, List.range_succ, List.filterMap_append, h]
theorem inO_len (m : MS) (k : Nat) : (inO m k).length <= k := by
 have := List.length_filterMap_le (fun n => (m.banks n).map fun l => ((n : Int), l)) (List.range k)
 simpa [inO] using this
set_option maxHeartbeats 2000000
set_option maxRecDepth 100000
theorem cell_far (W : World) (N i : Nat) (v : Value) (b j : Nat) (h : b ≠ N) : (W.setCell ⟨N, i, none⟩ v).cell? ⟨b, j, none⟩ = W.cell? ⟨b, j, none⟩ :=
 World.cell?_of_block (w := W) (setCell_other W N i b v h)
theorem own_form {w : World} {B : Nat} {e : TypeId} {size : Nat} {v : Value} {n : Nat} {xs : List Value} (h : w.ownsRow B e size v n xs) : ∃ p cap, v = .slice p n cap := by
 rcases h.2 with ⟨h, e⟩ | ⟨g, cap, cur, h1, _⟩
 ·exact ⟨none, 0, by rw [h, e]⟩
 ·exact ⟨_, cap, h1⟩
def imgC (u rv sv : Value) (m : MS) : List Value := [u, rv, sv, .int .u8 m.ch, .int .u8 m.pad, .int .u16 m.pitch, .int .u8 m.vol, .int .u16 m.time]
def allF (bs : List (Int × List UInt8)) : Bool := bs.all fun t => t.2.length == 16384
def whB (bs : List (Int × List UInt8)) (ram scr : List UInt8) (ch : Int) : Bool := allF bs && (ram.length == 16384) && (scr.length == 3072) && decide (ch < 16)
theorem allF_at (bs : List (Int × List UInt8)) (k : Nat) (hk : k < bs.length) (h : (bs[k]).2.length ≠ 16384) : allF bs = false := by
 rw [Bool.eq_false_iff]; intro c
 rw [allF, List.all_eq_true] at c
 exact h (by simpa using c _ (List.getElem_mem hk))
theorem allF_all (bs : List (Int × List UInt8)) (h : ∀ (j : Nat) t, bs[j]? = some t -> t.2.length = 16384) : allF bs = true := by
 rw [allF, List.all_eq_true]
 intro t ht
 obtain ⟨j, hj, e⟩ := List.mem_iff_getElem.1 ht
 simpa using h j t (by rw [List.getElem?_eq_getElem hj, e])
set_option maxHeartbeats 2000000
set_option maxRecDepth 100000
theorem whole_any (p : Option Addr) (c : Nat) (bs : List (Int × List UInt8)) (hl : bs.length <= room) (rp sp : Option Addr) (rn rc sn sc' : Nat) (m : MS) (w : World) (h : BnS w p bs) (ram scr : List UInt8) (hrn : rn = ram.length) (hsn : sn = scr.length) :
  Calls Tryz.prog 93 #[.agg (imgC (.slice p bs.length c) (.slice rp rn rc) (.slice sp sn sc') m).toArray] w fun e w' => e = .returned (.bool (whB bs ram scr m.ch)) /\ Below w.heap.size w w' := by
 unfold room at hl
 subst hrn hsn
 obtain ⟨w1, hw1⟩ : ∃ w1, w1 = w.alloc (.cells (imgC (.slice p bs.length c) (.slice rp ram.length rc) (.slice sp scr.length sc') m).toArray 71) := ⟨_, rfl⟩
 have hB1 : Below w.heap.size w w1 := by rw [hw1]; exact (Below.refl _ w).alloc (Nat.le_refl _) _
 have hx : w1.heap[w.heap.size]? = some (.cells (imgC (.slice p bs.length c) (.slice rp ram.length rc) (.slice sp scr.length sc') m).toArray 71 (0, 0)) := by rw [hw1]; exact heap_alloc_new w _
 have hz : w1.heap.size = w.heap.size + 1 := by rw [hw1]; simp
 have c0 := cell_of w1 _ 0 _ 71 _ hx rfl
 have HB1 : Hid _ := hB1
 have HX : Hid _ := hx
 have HZ : Hid _ := hz
 clear hB1 hx hz
 unfold imgC at hw1 ⊢
 go_enter Tryz.func93, Tryz.ntmps93
 go_wp2_with fail
 rw [<- hw1]
 clear hw1
 go_wp2
 go_loopw [8] (fun i wr => ∃ k : Nat, k <= bs.length /\ i = .int .i64 (k : Int) /\ (∀ (j : Nat) t, j < k -> bs[j]? = some t -> t.2.length = 16384) /\ Below w1.heap.size w1 wr) (fun i _ => bs.length - (intOf i).toNat)
 case atStart => exact ⟨0, by omega, rfl, fun j t hj => by omega, Below.refl _ _⟩
 case round =>
  obtain ⟨k, hk, rfl, hA, hB⟩ := hrel; have hBw : Below w.heap.size w wr := HB1.out.trans (hB.mono HB1.out.size)
  by_cases hlt : k < bs.length
  ·have i1 : (k : Int) < bs.length := by omega
   obtain ⟨b, o, dv, rfl, e1, e2, e3, e4⟩ := h.below hBw k bs[k] (List.getElem?_eq_getElem hlt); obtain ⟨dp, dc, rfl, _⟩ := e3.ex; unfold room at e4; have hAf := allF_at bs k hlt
   have hA2 : (bs[k]).2.length = 16384 -> ∀ (j : Nat) t, j < k + 1 -> bs[j]? = some t -> t.2.length = 16384 := by
    intro c j t hj ht
    by_cases e : j = k
    ·subst e; rw [List.getElem?_eq_getElem hlt] at ht; cases ht; exact c
    ·exact hA j t (by omega) ht
   have hB2 : Below w1.heap.size w1 (wr.alloc (Obj.cells #[.int .i64 (bs[k]).1, .slice dp (bs[k]).2.length dc] 81)) := hB.alloc hB.size _; have hB3 : Below w.heap.size w (wr.alloc (Obj.cells #[.int .i64 (bs[k]).1, .slice dp (bs[k]).2.length dc] 81)) := hBw.alloc hBw.size _; clear e3 hA hB hBw; generalize hn : (bs[k]).1 = n at *
   generalize hL : (bs[k]).2.length = L at *
   have HA : Hid _ := hA2; have HB : Hid _ := hB2; have HB3 : Hid _ := hB3; have HF : Hid _ := hAf; clear hA2 hB2 hB3 hAf hL hn
   by_cases c1 : L = 16384
   ·have d1 : ((L : Int) != 16384) = false := by simp; omega
    have HA3 : Hid _ := HA.out c1; clear c1 HA HF; go_wp2; go_roundw
    case rel =>
     first
      | exact ⟨k + 1, by omega, by go_num, HA3.out, HB.out⟩
      | ((repeat apply Exists.intro); refine ⟨⟨k + 1, by omega, ?_, HA3.out, HB.out⟩, rfl⟩; go_num)
    case measure => simp [intOf]; omega
   ·have d1 : ((L : Int) != 16384) = true := by simp; omega
    have f1 : whB bs ram scr m.ch = false := by simp [whB, HF.out c1]
    clear c1 HA HF; go_wp2; go_ret; exact ⟨by rw [f1]; rfl, HB3.out⟩
  ·obtain rfl : k = bs.length := by omega
   have hAf := allF_all bs (fun j t ht => hA j t (List.getElem?_eq_some_iff.1 ht).1 ht); have hx2 : wr.heap[w.heap.size]? = _ := (hB.block _ (by rw [HZ.out]; omega)).trans HX.out; have k1 := cell_of wr _ 1 _ 71 _ hx2 rfl; have k2 := cell_of wr _ 2 _ 71 _ hx2 rfl; have k3 := cell_of wr _ 3 _ 71 _ hx2 rfl; have HBw : Hid _ := hBw; clear hx2 hA hB hBw; have hw' : whB bs ram scr m.ch = ((ram.length == 16384) && (scr.length == 3072) && decide (m.ch < 16)) := by simp [whB, hAf]
   have HW : Hid _ := hw'; clear hAf hw'
   by_cases q1 : ram.length = 16384
   ·by_cases q2 : scr.length = 3072
    ·by_cases q3 : m.ch < 16
     ·have d1 : ((ram.length : Int) == 16384) = true := by simp; omega
      have d2 : ((scr.length : Int) == 3072) = true := by simp; omega
      have d3 : decide (m.ch < 16) = true := by simpa using q3
      have d4 : (ram.length == 16384) = true := by simpa using q1
      have d5 : (scr.length == 3072) = true := by simpa using q2
      clear q1 q2 q3; go_wp2; go_ret
      (refine ⟨congrArg Ending.returned (congrArg Value.bool ?_), HBw.out⟩; rw [HW.out]; simp [d3, d4, d5])
     ·have d1 : ((ram.length : Int) == 16384) = true := by simp; omega
      have d2 : ((scr.length : Int) == 3072) = true := by simp; omega
      have d3 : decide (m.ch < 16) = false := by simpa using q3
      clear q1 q2 q3; go_wp2; go_ret
      (refine ⟨congrArg Ending.returned (congrArg Value.bool ?_), HBw.out⟩; rw [HW.out]; simp [d3])
    ·have d1 : ((ram.length : Int) == 16384) = true := by simp; omega
     have d2 : ((scr.length : Int) == 3072) = false := by simp; omega
     have d5 : (scr.length == 3072) = false := by simpa using q2
     clear q1 q2; go_wp2; go_ret
     (refine ⟨congrArg Ending.returned (congrArg Value.bool ?_), HBw.out⟩; rw [HW.out]; simp [d5])
   ·have d1 : ((ram.length : Int) == 16384) = false := by simp; omega
    have d4 : (ram.length == 16384) = false := by simpa using q1
    clear q1; go_wp2; go_ret
    (refine ⟨congrArg Ending.returned (congrArg Value.bool ?_), HBw.out⟩; rw [HW.out]; simp [d4])
theorem MemP.reblk {W W' : World} {F : Nat -> Prop} {b : Nat} {m : MS} {mb : Nat} {L : List (Nat × Nat)} {tv : Value} (h : MemP W F b m mb L tv) (m' : MS) (wf : Wf m') (hb : W'.heap[b]? = some (.cells (mcells mb m' tv).toArray 146 (0, 0)))
  (k : ∀ i, i ≠ b -> W'.heap[i]? = W.heap[i]?) (e3 : m'.banks = m.banks) (e4 : m'.tones = m.tones) : MemP W' F b m' mb L tv :=
 {wf := wf
  blk := hb
  map := (k _ h.ne_map).trans h.map
  keys := h.keys
  lt16 := h.lt16
  blks := h.blks
  bks := fun p hp => by obtain ⟨l, e1, e2⟩ := h.bks p hp; exact ⟨l, by rw [e3]; exact e1, (k _ (h.ne_bk p hp)).trans e2⟩
  all := fun n l hn => h.all n l (by rw [<- e3]; exact hn)
  tones := by rw [e4]; exact own_kept h.tones fun g e _ => k _ (h.ne_t g e)
  fb := h.fb
  fmb := h.fmb
  fbk := h.fbk
  ft := h.ft }
theorem info5s : (Tryz.prog.info? 5).map (·.size) = some 1 := by kernel_rfl
theorem copy_part (W : World) (b o n : Nat) (v : Value) (l : List UInt8) (c : List Value) (hb : W.heap[b]? = some (.cells c.toArray 146 (0, 0))) (hs : Sl W v l) (hl : l.length = n) (hn : 0 < n) (hc : o + n <= c.length) :
  ∃ W', (Builtin.copy_ #[22, 22] 3 #[.slice (some ⟨b, o, none⟩) n n, v]).run Tryz.prog W = .ok (.int .i64 (n : Int)) W' /\ W'.heap[b]? = some (.cells (c.take o ++ bv l ++ c.drop (o + n)).toArray 146 (0, 0)) /\ (∀ k, k ≠ b -> W'.heap[k]? = W.heap[k]?) /\ W'.heap.size = W.heap.size /\ W'.os = W.os /\ W'.tape = W.tape /\ W'.output = W.output := by
 rcases hs with ⟨rfl, rfl⟩ | ⟨x, cc, rfl, hcc, hcell⟩
 ·simp at hl; omega
 ·have hr := run_copy_row (P := Tryz.prog) W 22 22 3 5 b o n n x l.length cc c.toArray 146 (bv l) Tryz.underlying22 info5s hb (by rw [bv_len, hl]; exact (Nat.min_self n).symm)
   (fun j u hj => by obtain ⟨y, hy, rfl⟩ := (bv_get l j u).1 hj; exact hcell j y hy) (by rw [bv_len, hl, List.size_toArray]; exact hc) (bv_one l)
  rw [bv_len, hl] at hr; rw [hl]; exact ⟨_, hr, setRow_eq W b c 146 _ hb, fun k hk => setRow_other W b k _ hk, size_setRow _ _ _, rfl, rfl, rfl⟩
theorem mcells_ram_new (mb : Nat) (m : MS) (tv : Value) (h : Wf m) (l : List UInt8) : (mcells mb m tv).take 1 ++ bv l ++ (mcells mb m tv).drop (1 + 16384) = mcells mb { m with ram := l } tv := by
 have e : (mcells mb m tv).drop (1 + 16384) = bv m.scr ++ regs m tv := by
  rw [mcells, Nat.add_comm, List.drop_succ_cons, List.drop_append_of_le_length (by rw [bv_len, h.ram]; omega), List.drop_of_length_le (by rw [bv_len, h.ram]; omega), List.nil_append]
 rw [e]; rfl
theorem mcells_scr_new (mb : Nat) (m : MS) (tv : Value) (h : Wf m) (l : List UInt8) : (mcells mb m tv).take 16385 ++ bv l ++ (mcells mb m tv).drop (16385 + 3072) = mcells mb { m with scr := l } tv := by
 have e1 : (mcells mb m tv).take 16385 = Value.map (some mb) :: bv m.ram := by
  rw [mcells, List.take_succ_cons, List.take_append_of_le_length (by rw [bv_len, h.ram]; omega), List.take_of_length_le (by rw [bv_len, h.ram]; omega)]
 have e2 : (mcells mb m tv).drop (16385 + 3072) = regs m tv := by
  rw [mcells, show 16385 + 3072 = (16384 + 3072) + 1 by omega, List.drop_succ_cons, List.drop_append, bv_len, h.ram, List.drop_of_length_le (by rw [bv_len, h.ram]; omega), List.nil_append, show 16384 + 3072 - 16384 = 3072 by omega,
   List.drop_append, bv_len, h.scr, List.drop_of_length_le (by rw [bv_len, h.scr]; omega), List.nil_append]
  rfl
 rw [e1, e2]; simp [mcells, regs]
def mR (bs : List (Int × List UInt8)) (ram scr : List UInt8) (m : MS) : MS := { ram := ram, scr := scr, ch := m.ch, pad := m.pad, pitch := m.pitch, vol := m.vol, time := m.time, cyc := 0, tones := [], banks := nbk bs }
theorem cell_drew (W : World) (a : Addr) : W.drew.cell? a = W.cell? a := rfl
set_option maxHeartbeats 4000000
set_option maxRecDepth 100000
theorem restore_yes (p : Option Addr) (c : Nat) (bs : List (Int × List UInt8)) (hl : bs.length <= room) (rp sp : Option Addr) (rc sc' : Nat) (m : MS) (w : World) (h : BnS w p bs) (ram scr : List UInt8) (hr : Sl w (.slice rp ram.length rc) ram) (hs : Sl w (.slice sp scr.length sc') scr)
  (hwb : whB bs ram scr m.ch = true) (hm : mayB (-1) bs = true) (c0 : 0 <= m.ch) (p0 : 0 <= m.pad) (p1 : m.pad < 256) (t0 : 0 <= m.pitch) (t1 : m.pitch < 65536) (v0 : 0 <= m.vol) (v1 : m.vol < 256) (i0 : 0 <= m.time) (i1 : m.time < 65536) :
  Calls Tryz.prog 55 #[.agg (imgC (.slice p bs.length c) (.slice rp ram.length rc) (.slice sp scr.length sc') m).toArray] w fun e w' => ∃ b, e = .returned (.tuple #[.pointer (some ⟨b, 0, none⟩), .int .i64 0]) /\ HasM w' (fun k => w.heap.size <= k) b (mR bs ram scr m) /\ Below w.heap.size w w' := by
 have hrl : ram.length = 16384 /\ scr.length = 3072 /\ m.ch < 16 := by
  simp only [whB, Bool.and_eq_true, beq_iff_eq, decide_eq_true_eq] at hwb; exact ⟨hwb.1.1.2, hwb.1.2, hwb.2⟩
 obtain ⟨w1, hw1⟩ : ∃ w1, w.alloc (.cells (imgC (.slice p bs.length c) (.slice rp ram.length rc) (.slice sp scr.length sc') m).toArray 71) = w1 := ⟨_, rfl⟩
 have hB1 : Below w.heap.size w w1 := by rw [<- hw1]; exact (Below.refl _ w).alloc (Nat.le_refl _) _
 have hx : w1.heap[w.heap.size]? = some (.cells (imgC (.slice p bs.length c) (.slice rp ram.length rc) (.slice sp scr.length sc') m).toArray 71 (0, 0)) := by rw [<- hw1]; exact heap_alloc_new w _
 have hz : w1.heap.size = w.heap.size + 1 := by rw [<- hw1]; simp
 have hwh := whole_any p c bs hl rp sp ram.length rc scr.length sc' m w1 (h.below hB1) ram scr rfl rfl
 rw [hwb] at hwh
 have k0 := cell_of w1 _ 0 _ 71 _ hx rfl
 have k1 := cell_of w1 _ 1 _ 71 _ hx rfl
 have k2 := cell_of w1 _ 2 _ 71 _ hx rfl
 have k3 := cell_of w1 _ 3 _ 71 _ hx rfl
 have k4 := cell_of w1 _ 4 _ 71 _ hx rfl
 have k5 := cell_of w1 _ 5 _ 71 _ hx rfl
 have k6 := cell_of w1 _ 6 _ 71 _ hx rfl
 have k7 := cell_of w1 _ 7 _ 71 _ hx rfl
 have HX : Hid _ := hx
 have HB1 : Hid _ := hB1
 have HZ : Hid _ := hz
 have HRL : Hid _ := hrl
 have HR : Hid _ := hr
 have HS : Hid _ := hs
 clear hx hB1 hz hrl hwb hr hs
 unfold imgC at hw1 hwh ⊢
 go_enter Tryz.func55, Tryz.ntmps55
 go_wp2_with fail
 refine hwh.mono ?_
 rintro e w2 ⟨rfl, hb2⟩
 have hB2 : Below w.heap.size w w2 := HB1.out.trans (hb2.mono HB1.out.size)
 have hx2 := (hb2.block _ (by rw [HZ.out]; omega)).trans HX.out
 have q0 := cell_of w2 _ 0 _ 71 _ hx2 rfl
 have hnw := new_yes p c bs hl w2 (h.below hB2) hm
 clear hwh k0 k1 k2 k3 k4 k5 k6 k7 hw1
 go_wp2_with fail
 refine hnw.mono ?_
 rintro e w3 ⟨b, rfl, ⟨mb, L, tv, hM3⟩, hb3⟩
 have hB3 : Below w.heap.size w w3 := hB2.trans (hb3.mono hB2.size)
 have hz2 : w.heap.size < w2.heap.size := by have := hb2.size; have := HZ.out; omega
 have hbx : b ≠ w.heap.size := by have : w2.heap.size <= b := hM3.fb; omega
 have hx3 := (hb3.block _ hz2).trans hx2
 have hM3' : MemP w3.drew (fun k => w.heap.size <= k) b { m0 with banks := nbk bs } mb L tv := (hM3.mono fun i _ (hi : w2.heap.size <= i) => (by omega : w.heap.size <= i)).kept fun _ _ _ => rfl
 have q1 := cell_of w3 _ 1 _ 71 _ hx3 rfl
 obtain ⟨w4, hcp4, hbk4, hk4, hs4, o4, t4, u4⟩ := copy_part w3.drew b 1 16384 (.slice rp ram.length rc) ram _ hM3'.blk (Sl.below HR.out (hB3.drew)) HRL.out.1 (by omega) (by rw [mcells_len _ _ _ hM3'.wf]; omega)
 rw [mcells_ram_new mb _ tv hM3'.wf] at hbk4
 have hw3 := hM3'.wf
 have hM4 : MemP w4 (fun k => w.heap.size <= k) b { m0 with banks := nbk bs, ram := ram } mb L tv := hM3'.reblk _ ⟨HRL.out.1, hw3.scr, hw3.ch0, hw3.ch1, hw3.pad0, hw3.pad1, hw3.pitch0, hw3.pitch1, hw3.vol0, hw3.vol1, hw3.time0, hw3.time1, hw3.bk⟩ hbk4 hk4 rfl rfl
 have hB4 : Below w.heap.size w w4 := ⟨o4.trans hB3.os, t4.trans hB3.tape, u4.trans hB3.output, by rw [hs4]; exact hB3.size, fun k hk => (hk4 k (by have : w.heap.size <= b := hM4.fb; omega)).trans (hB3.block k hk)⟩
 have hx4 := (hk4 _ hbx.symm).trans hx3
 have hM4' : MemP w4.drew (fun k => w.heap.size <= k) b { m0 with banks := nbk bs, ram := ram } mb L tv := hM4.kept fun _ _ _ => rfl
 have q2 := cell_of w4 _ 2 _ 71 _ hx4 rfl
 obtain ⟨w5, hcp5, hbk5, hk5, hs5, o5, t5, u5⟩ := copy_part w4.drew b 16385 3072 (.slice sp scr.length sc') scr _ hM4'.blk (Sl.below HS.out (hB4.drew)) HRL.out.2.1 (by omega) (by rw [mcells_len _ _ _ hM4'.wf]; omega)
 rw [mcells_scr_new mb _ tv hM4'.wf] at hbk5
 have hM5 : MemP w5 (fun k => w.heap.size <= k) b { m0 with banks := nbk bs, ram := ram, scr := scr } mb L tv := hM4'.reblk _ ⟨HRL.out.1, HRL.out.2.1, hw3.ch0, hw3.ch1, hw3.pad0, hw3.pad1, hw3.pitch0, hw3.pitch1, hw3.vol0, hw3.vol1, hw3.time0, hw3.time1, hw3.bk⟩ hbk5 hk5 rfl rfl
 have hB5 : Below w.heap.size w w5 := ⟨o5.trans hB4.os, t5.trans hB4.tape, u5.trans hB4.output, by rw [hs5]; exact hB4.size, fun k hk => (hk5 k (by have : w.heap.size <= b := hM5.fb; omega)).trans (hB4.block k hk)⟩
 have hx5 := (hk5 _ hbx.symm).trans hx4
 have a3 : w5.cell? ⟨w.heap.size, 3, none⟩ = some (.int .u8 m.ch) := cell_of w5 _ 3 _ 71 _ hx5 rfl
 have a4 : w5.cell? ⟨w.heap.size, 4, none⟩ = some (.int .u8 m.pad) := cell_of w5 _ 4 _ 71 _ hx5 rfl
 have a5 : w5.cell? ⟨w.heap.size, 5, none⟩ = some (.int .u16 m.pitch) := cell_of w5 _ 5 _ 71 _ hx5 rfl
 have a6 : w5.cell? ⟨w.heap.size, 6, none⟩ = some (.int .u8 m.vol) := cell_of w5 _ 6 _ 71 _ hx5 rfl
 have a7 : w5.cell? ⟨w.heap.size, 7, none⟩ = some (.int .u16 m.time) := cell_of w5 _ 7 _ 71 _ hx5 rfl
 have s0 : w5.drew.cell? ⟨w.heap.size, 3, none⟩ = some (.int .u8 m.ch) /\ w5.drew.cell? ⟨w.heap.size, 4, none⟩ = some (.int .u8 m.pad) /\ w5.drew.cell? ⟨w.heap.size, 5, none⟩ = some (.int .u16 m.pitch) /\ w5.drew.cell? ⟨w.heap.size, 6, none⟩ = some (.int .u8 m.vol) /\ w5.drew.cell? ⟨w.heap.size, 7, none⟩ = some (.int .u16 m.time) := ⟨a3, a4, a5, a6, a7⟩
 have hfin : HasM ((((((w5.setCell ⟨b, 19457, none⟩ (.int .u8 m.ch)).setCell ⟨b, 19458, none⟩ (.int .u8 m.pad)).setCell ⟨b, 19459, none⟩ (.int .u16 m.pitch)).setCell ⟨b, 19460, none⟩ (.int .u8 m.vol)).setCell ⟨b, 19461, none⟩ (.int .u16 m.time))) (fun k => w.heap.size <= k) b (mR bs ram scr m) /\
   Below w.heap.size w ((((((w5.setCell ⟨b, 19457, none⟩ (.int .u8 m.ch)).setCell ⟨b, 19458, none⟩ (.int .u8 m.pad)).setCell ⟨b, 19459, none⟩ (.int .u16 m.pitch)).setCell ⟨b, 19460, none⟩ (.int .u8 m.vol)).setCell ⟨b, 19461, none⟩ (.int .u16 m.time))) := by
  have hbw : w.heap.size <= b := hM5.fb; have w5' := hM5.wf; have x1 := hM5.reg 0 (.int .u8 m.ch) { m0 with banks := nbk bs, ram := ram, scr := scr, ch := m.ch } (w5'.regs rfl rfl rfl c0 HRL.out.2.2 w5'.pad0 w5'.pad1 w5'.pitch0 w5'.pitch1 w5'.vol0 w5'.vol1 w5'.time0 w5'.time1) rfl rfl rfl rfl rfl; have x2 := x1.reg 1 (.int .u8 m.pad) { m0 with banks := nbk bs, ram := ram, scr := scr, ch := m.ch, pad := m.pad } (w5'.regs rfl rfl rfl c0 HRL.out.2.2 p0 p1 w5'.pitch0 w5'.pitch1 w5'.vol0 w5'.vol1 w5'.time0 w5'.time1) rfl rfl rfl rfl rfl; have x3 := x2.reg 2 (.int .u16 m.pitch) { m0 with banks := nbk bs, ram := ram, scr := scr, ch := m.ch, pad := m.pad, pitch := m.pitch } (w5'.regs rfl rfl rfl c0 HRL.out.2.2 p0 p1 t0 t1 w5'.vol0 w5'.vol1 w5'.time0 w5'.time1) rfl rfl rfl rfl rfl; have x4 := x3.reg 3 (.int .u8 m.vol) { m0 with banks := nbk bs, ram := ram, scr := scr, ch := m.ch, pad := m.pad, pitch := m.pitch, vol := m.vol } (w5'.regs rfl rfl rfl c0 HRL.out.2.2 p0 p1 t0 t1 v0 v1 w5'.time0 w5'.time1) rfl rfl rfl rfl rfl
  have x5 := x4.reg 4 (.int .u16 m.time) (mR bs ram scr m) (w5'.regs rfl rfl rfl c0 HRL.out.2.2 p0 p1 t0 t1 v0 v1 i0 i1) rfl rfl rfl rfl rfl; refine ⟨⟨mb, L, tv, x5⟩, ?_⟩; exact ((((hB5.setCell (p := ⟨b, 19457, none⟩) hbw _).setCell (p := ⟨b, 19458, none⟩) hbw _).setCell (p := ⟨b, 19459, none⟩) hbw _).setCell (p := ⟨b, 19460, none⟩) hbw _).setCell (p := ⟨b, 19461, none⟩) hbw _
 have r0 := cell_of w5 b (19457 + 0) _ 146 _ hM5.blk ((mcells_reg mb _ tv hM5.wf 0).trans rfl)
 have r1 := cell_of w5 b (19457 + 1) _ 146 _ hM5.blk ((mcells_reg mb _ tv hM5.wf 1).trans rfl)
 have r2 := cell_of w5 b (19457 + 2) _ 146 _ hM5.blk ((mcells_reg mb _ tv hM5.wf 2).trans rfl)
 have r3 := cell_of w5 b (19457 + 3) _ 146 _ hM5.blk ((mcells_reg mb _ tv hM5.wf 3).trans rfl)
 have r4 := cell_of w5 b (19457 + 4) _ 146 _ hM5.blk ((mcells_reg mb _ tv hM5.wf 4).trans rfl)
 have zz := fun i => frozen_of w5 b i _ 146 hM5.blk
 simp only [Nat.reduceAdd, Nat.add_zero] at r0 r1 r2 r3 r4
 have HF : Hid _ := hfin
 clear hfin hM5 hB5 hx5 hbk5 hk5 hs5 hM4' hM4 hB4 hx4 hbk4 hk4 hs4 hM3 hM3' hB3 hx3 hx2 hb3 hb2 hB2 hnw q0 hw3 o4 t4 u4 o5 t5 u5
 generalize (⟨m0.ram, m0.scr, m0.ch, m0.pad, m0.pitch, m0.vol, m0.time, m0.cyc, m0.tones, nbk bs⟩ : MS) = mm at *
 clear mm
 go_wp2_with fail
 go_region
 go_wp2_with fail
 go_region
 go_wp2_with fail
 clear hcp4 hcp5 q1 q2
 go_region_held (fun w' => w'.cell? ⟨w.heap.size, 3, none⟩ = some (.int .u8 m.ch) /\ w'.cell? ⟨w.heap.size, 4, none⟩ = some (.int .u8 m.pad) /\ w'.cell? ⟨w.heap.size, 5, none⟩ = some (.int .u16 m.pitch) /\ w'.cell? ⟨w.heap.size, 6, none⟩ = some (.int .u8 m.vol) /\ w'.cell? ⟨w.heap.size, 7, none⟩ = some (.int .u16 m.time))
  (first | (with_reducible exact s0) | (simp only [cell_drew, cell_far _ b _ _ w.heap.size _ hbx.symm]; exact ⟨a3, a4, a5, a6, a7⟩))
  (fail)
 go_wp2
 go_ret2
 exact ⟨_, rfl, HF.out.1.below ((Below.refl _ _).drew), HF.out.2.drew⟩
end Go.Proofs.YteldjmecomngeaaGreat.M
