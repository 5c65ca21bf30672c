import Derived.Test.YtcmaccefjlgbfaaOwn
/-! What a write changes, and what it does not. -/
namespace Go.Proofs.Ytcmaccefjlgbfaa
open Go.Proofs
set_option linter.unusedVariables false
set_option linter.unusedSimpArgs false
theorem lb_set (l : List UInt8) (i j : Nat) (x : UInt8) (h : i < l.length) : lb (l.set i x) j = if i = j then bt x else lb l j := by
  unfold lb bt
  simp only [List.getD_eq_getElem?_getD, List.getElem?_set]
  by_cases e : i = j
  · subst e; simp [h]
  · simp [e]
theorem st_pad (m : MS) (z : Int) (x : UInt8) : (st m z x).pad = m.pad := by
  unfold st stp; repeat' split
  all_goals rfl
theorem st_time (m : MS) (z : Int) (x : UInt8) : (st m z x).time = m.time := by
  unfold st stp; repeat' split
  all_goals rfl
theorem st_ch (m : MS) (z : Int) (x : UInt8) (h : z ≠ 65280) : (st m z x).ch = m.ch := by
  unfold st stp; repeat' split
  all_goals first | rfl | (exfalso; omega)
theorem st_low_tones (m : MS) (z : Int) (x : UInt8) (h : z < 65280) : (st m z x).tones = m.tones := by
  unfold st stp; repeat' split
  all_goals first | rfl | (exfalso; omega)
theorem st_banks (m : MS) (z : Int) (x : UInt8) (n : Nat) (l : List UInt8) (h : m.banks n = some l) : ∃ l', (st m z x).banks n = some l' := by
  unfold st stp
  split
  · exact ⟨l, h⟩
  split
  · split
    · exact ⟨l, h⟩
    · simp only [upd]; split
      · exact ⟨_, rfl⟩
      · exact ⟨l, h⟩
  repeat' split
  all_goals exact ⟨l, h⟩
theorem ld_low (m : MS) (z : Int) (h : z < 16384) : ld m z = 0 := by unfold ld; rw [if_pos h]
theorem ld_same (m : MS) (hw : Wf m) (z : Int) (x : UInt8) (h0 : 16384 ≤ z) (h1 : z < 52224) (hb : z < 32768 → ∃ l, m.banks m.ch.toNat = some l) : ld (st m z x) z = bt x := by
  have a1 : ¬ z < 16384 := by omega
  by_cases a2 : z < 32768
  · obtain ⟨l, hl⟩ := hb a2
    have hll := (hw.bk _ _ hl).2
    simp only [st, ld, a1, a2, if_true, if_false, hl, upd]
    rw [lb_set _ _ _ _ (by omega), if_pos rfl]
  by_cases a3 : z < 49152
  · simp only [st, ld, a1, a2, a3, if_true, if_false]
    rw [lb_set _ _ _ _ (by rw [hw.ram]; omega), if_pos rfl]
  · simp only [st, ld, a1, a2, a3, h1, if_true, if_false]
    rw [lb_set _ _ _ _ (by rw [hw.scr]; omega), if_pos rfl]
theorem ld_stp (m : MS) (z o : Int) (x : UInt8) (ho : o < 65280) (hn : ¬ (z = 65280 ∧ 16384 ≤ o ∧ o < 32768)) : ld (stp m z x) o = ld m o := by
  unfold stp
  by_cases c0 : z = 65280
  · rw [if_pos c0]
    unfold ld
    by_cases a1 : o < 16384
    · simp only [a1, if_true]
    by_cases a2 : o < 32768
    · exact absurd ⟨c0, by omega, a2⟩ hn
    simp only [a1, a2, if_false]
    split
    · rfl
    split
    · rfl
    rw [pt_low _ o ho, pt_low _ o ho]
  rw [if_neg c0]
  have hp : ∀ m' : MS, m'.ram = m.ram → m'.scr = m.scr → m'.ch = m.ch → m'.banks = m.banks → ld m' o = ld m o := by
    intro m' e1 e2 e3 e4
    unfold ld
    rw [e1, e2, e3, e4, pt_low m' o ho, pt_low m o ho]
  repeat' split
  all_goals first | exact hp _ rfl rfl rfl rfl | rfl
theorem ld_other (m : MS) (hw : Wf m) (z o : Int) (x : UInt8) (h0 : 0 ≤ z) (ho0 : 0 ≤ o) (ho : o < 65280) (hne : o ≠ z) (hn : ¬ (z = 65280 ∧ 16384 ≤ o ∧ o < 32768)) : ld (st m z x) o = ld m o := by
  by_cases a1 : z < 16384
  · simp only [st, a1, if_true]
  by_cases a2 : z < 32768
  · simp only [st, a1, a2, if_true, if_false]
    cases hb : m.banks m.ch.toNat with
    | none => rfl
    | some l =>
      have hll := (hw.bk _ _ hb).2
      simp only [ld, upd, if_true, hb]
      by_cases b1 : o < 16384
      · simp only [b1, if_true]
      by_cases b2 : o < 32768
      · simp only [b1, b2, if_true, if_false]
        rw [lb_set _ _ _ _ (by omega), if_neg (by omega)]
      simp only [b1, b2, if_false]
      rfl
  by_cases a3 : z < 49152
  · simp only [st, a1, a2, a3, if_true, if_false]
    unfold ld
    by_cases b1 : o < 16384
    · simp only [b1, if_true]
    by_cases b2 : o < 32768
    · simp only [b1, b2, if_true, if_false]; try rfl
    by_cases b3 : o < 49152
    · simp only [b1, b2, b3, if_true, if_false]
      rw [lb_set _ _ _ _ (by rw [hw.ram]; omega), if_neg (by omega)]
    simp only [b1, b2, b3, if_false]
    rfl
  by_cases a4 : z < 52224
  · simp only [st, a1, a2, a3, a4, if_true, if_false]
    unfold ld
    by_cases b1 : o < 16384
    · simp only [b1, if_true]
    by_cases b2 : o < 32768
    · simp only [b1, b2, if_true, if_false]; try rfl
    by_cases b3 : o < 49152
    · simp only [b1, b2, b3, if_true, if_false]; try rfl
    by_cases b4 : o < 52224
    · simp only [b1, b2, b3, b4, if_true, if_false]
      rw [lb_set _ _ _ _ (by rw [hw.scr]; omega), if_neg (by omega)]
    simp only [b1, b2, b3, b4, if_false]
    rfl
  simp only [st, a1, a2, a3, a4, if_false]
  exact ld_stp m z o x ho hn
/-- What holds of the memory all the while. -/
structure Inv (some_ : Prop) (m : MS) : Prop where
  tones : m.tones = []
  pad : m.pad = 77
  time : m.time = 1
  bank : some_ → ∃ l, m.banks m.ch.toNat = some l
theorem Inv.st {s : Prop} {m : MS} (h : Inv s m) (z : Int) (x : UInt8) (hz : z < 65280) : Inv s (st m z x) := by
  refine ⟨(st_low_tones m z x hz).trans h.tones, (st_pad m z x).trans h.pad, (st_time m z x).trans h.time, fun hs => ?_⟩
  obtain ⟨l, hl⟩ := h.bank hs
  rw [st_ch m z x (by omega)]
  exact st_banks m z x _ l hl
theorem ld_pad (m : MS) : ld m 65282 = m.pad := by simp [ld, pt]
theorem ld_time (m : MS) : ld m 65288 = m.time % 256 := by simp [ld, pt]
end Go.Proofs.Ytcmaccefjlgbfaa
/-! MemKeeps. -/
namespace Go.Proofs.Ytcmaccefjlgbfaa
open Go.RowKit
open Go.Proofs
set_option linter.unusedVariables false
set_option linter.unusedSimpArgs false
/-- Addresses that a slice tells. -/
def OsS (W : World) (p : Option Addr) (os : List Int) : Prop := ∀ (i : Nat) (z : Int), os[i]? = some z → ∃ b o, p = some ⟨b, o, none⟩ ∧ W.cell? ⟨b, o + i, none⟩ = some (.int .u16 z) ∧ 0 ≤ z ∧ z < 65536
theorem OsS.below {W W' : World} {p : Option Addr} {os : List Int} (h : OsS W p os) (b : Below W.heap.size W W') : OsS W' p os := by
  intro i t ht
  obtain ⟨x, o, e1, e2, e3⟩ := h i t ht
  exact ⟨x, o, e1, by rw [b.cell (World.block_lt_of_cell? W _ e2)]; exact e2, e3⟩
set_option maxHeartbeats 2000000
set_option maxRecDepth 100000
theorem plain_any (z : Int) (w : World) : Calls Try.prog 13 #[.int .u16 z] w fun e w' => e = .returned (.bool (decide (16384 ≤ z) && decide (z < 52224))) ∧ w' = w := by
  by_cases a1 : 16384 ≤ z
  · by_cases a2 : z < 52224
    · have d1 : decide (16384 ≤ z) = true := by simpa using a1
      have d2 : decide (z < 52224) = true := by simpa using a2
      go_enter Try.func13, Try.ntmps13
      go_wp2
      go_ret
      exact ⟨by rw [d1, d2]; rfl, rfl⟩
    · have d1 : decide (16384 ≤ z) = true := by simpa using a1
      have d2 : decide (z < 52224) = false := by simpa using a2
      go_enter Try.func13, Try.ntmps13
      go_wp2
      go_ret
      exact ⟨rfl, rfl⟩
  · have d1 : decide (16384 ≤ z) = false := by simpa using a1
    go_enter Try.func13, Try.ntmps13
    go_wp2
    go_ret
    exact ⟨rfl, rfl⟩
/-- What MemKeeps keeps. -/
structure KS (w : World) (wr : World) (b : Nat) (s : Prop) (m : MS) : Prop where
  has : HasM wr (fun k => w.heap.size ≤ k) b m
  bel : Below w.heap.size w wr
  inv : Inv s m
theorem first_bank (bs : List (Int × List UInt8)) (hm : mayB (-1) bs = true) (hbs : bs ≠ []) : 0 ≤ (bs.head hbs).1 ∧ (bs.head hbs).1 < 16 ∧ nbk bs (bs.head hbs).1.toNat = some (pad (bs.head hbs).2) := by
  cases bs with
  | nil => exact absurd rfl hbs
  | cons t r =>
    have hG := good_of (t :: r) hm 1 (by simp)
    have h1 := hG 0 t (by omega) rfl
    simp only [ahead] at h1
    refine ⟨by simp; omega, by simp; omega, ?_⟩
    have e : (t.1 == ((t.1.toNat : Nat) : Int)) = true := by simp; omega
    simp only [nbk, List.head_cons, List.find?_cons, e, Option.map_some]
/-- A memory as New makes it. -/
def mN (bs : List (Int × List UInt8)) : MS := { m0 with banks := nbk bs }
theorem newN (p : Option Addr) (c : Nat) (bs : List (Int × List UInt8)) (hl : bs.length ≤ room) (w : World) (h : BnS w p bs) (hm : mayB (-1) bs = true) :
    Calls Try.prog 7 #[.slice p bs.length c] w fun e w' => ∃ b, e = .returned (.tuple #[.pointer (some ⟨b, 0, none⟩), .int .i64 0]) ∧ HasM w' (fun k => w.heap.size ≤ k) b (mN bs) ∧ Below w.heap.size w w' := new_yes p c bs hl w h hm
/-- The readings are put down. -/
structure K2 (w : World) (N : Nat) (wr : World) (b : Nat) (s : Prop) (m : MS) (os : List Int) (v : Value) (k : Nat) : Prop where
  has : HasM wr (fun j => w.heap.size ≤ j ∧ j < N) b m
  bel : Below w.heap.size w wr
  inv : Inv s m
  le : w.heap.size ≤ N
  size : N ≤ wr.heap.size
  row : Row wr N v ((os.take k).map fun o => b8 (ld m o))
theorem K2.start {w wr : World} {b : Nat} {s : Prop} {m : MS} (h : KS w wr b s m) (os : List Int) : K2 w wr.heap.size wr b s m os (.slice none 0 0) 0 :=
  ⟨h.has.mono fun i hi f => ⟨f, hi⟩, h.bel, h.inv, h.bel.size, Nat.le_refl _, by simpa using row_nil wr wr.heap.size⟩
theorem K2.next {w : World} {N : Nat} {wr : World} {b : Nat} {s : Prop} {m : MS} {os : List Int} {v : Value} {k : Nat} (h : K2 w N wr b s m os v k) (hk : k < os.length) (q : Nat) (v' : Value) (w' : World)
    (hr : Row w' N v' ((os.take k).map (fun o => b8 (ld m o)) ++ [b8 (ld m os[k])])) (hg : Grew ((wr.drewN q).alloc (.cells (bv [b8 (ld m os[k])]).toArray 5)) w' v v') : K2 w N w' b s m os v' (k + 1) := by
  have hsz : (wr.drewN q).heap.size = wr.heap.size := rfl
  have hb1 : Below N wr ((wr.drewN q).alloc (.cells (bv [b8 (ld m os[k])]).toArray 5)) := by
    refine ⟨rfl, rfl, rfl, by simp [hsz], fun j hj => ?_⟩
    exact Below.heap_alloc (wr.drewN q) _ j (by rw [hsz]; have := h.size; omega)
  have hb2 : Below N wr w' := hg.belowAll (fun g e => (h.row.lt g e).1) hb1 h.size
  refine ⟨h.has.kept fun i hi f => hb2.block i f.2, h.bel.trans (hb2.mono h.le), h.inv, h.le, Nat.le_trans h.size hb2.size, ?_⟩
  rw [List.take_succ_eq_append_getElem hk, List.map_append]
  exact hr
/-- Behind the write. -/
structure K3 (w : World) (N : Nat) (wr : World) (b : Nat) (m : MS) (ls : List UInt8) (v : Value) : Prop where
  has : HasM wr (fun j => w.heap.size ≤ j) b m
  bel : Below w.heap.size w wr
  row : Row wr N v ls
theorem K2.stored {w : World} {N : Nat} {wr : World} {b : Nat} {s : Prop} {m : MS} {os : List Int} {v : Value} (h : K2 w N wr b s m os v os.length) (z : Int) (x : UInt8) (w' : World) (hD : Done wr w' (fun j => w.heap.size ≤ j ∧ j < N) b (st m z x)) :
    K3 w N w' b (st m z x) (os.map fun o => b8 (ld m o)) v := by
  have hbl : Below w.heap.size wr w' := hD.2.below (by have := h.bel.size; omega) fun i f => f.1
  refine ⟨hD.1.mono fun i hi f => ?_, h.bel.trans hbl, ?_⟩
  · rcases f with f | f
    · exact f.1
    · have := h.bel.size; omega
  · have hr := h.row
    rw [List.take_length] at hr
    exact hr.kept fun g e hg => hD.2.block g hg fun f => by have := (hr.lt g e).1; omega
theorem row_at {w : World} {N g n cap : Nat} {m : MS} {os : List Int} (h : Row w N (.slice (some ⟨g, 0, none⟩) n cap) (os.map fun o => b8 (ld m o))) (hw : Wf m) (k : Nat) (z : Int) (hk : os[k]? = some z) : w.cell? ⟨g, k, none⟩ = some (.int .u8 (ld m z)) := by
  have e : ld m z = ((b8 (ld m z)).toNat : Int) := by have := bt_b8 (ld m z); have := ld_bound m hw z; unfold bt at *; omega
  have := World.ownsRow.cells h (g := g) rfl k (.int .u8 ((b8 (ld m z)).toNat : Int)) ((bv_get _ _ _).2 ⟨b8 (ld m z), by rw [List.getElem?_map, hk]; rfl, rfl⟩)
  rw [Addr.add_lit, Nat.zero_add] at this
  rw [e]; exact this
/-- The same world, but for what was drawn. -/
def As (w wr : World) : Prop := ∃ q, wr = w.drewN q
theorem As.drew {w wr : World} (h : As w wr) (n : Nat) : As w (wr.drewN n) := by obtain ⟨q, rfl⟩ := h; exact ⟨q + n, World.drewN_drewN _ _ _⟩
theorem As.has {w wr : World} (h : As w wr) {F : Nat → Prop} {b : Nat} {m : MS} (k : HasM w F b m) : HasM wr F b m := by obtain ⟨q, rfl⟩ := h; exact k.drew q
theorem As.cell {w wr : World} (h : As w wr) {a : Addr} {v : Value} (k : w.cell? a = some v) : wr.cell? a = some v := by obtain ⟨q, rfl⟩ := h; exact k
theorem As.below {w wr : World} (h : As w wr) {B : Nat} {w0 : World} (k : Below B w0 w) : Below B w0 wr := by obtain ⟨q, rfl⟩ := h; exact ⟨k.os, k.tape, k.output, k.size, k.block⟩
theorem K3.math {w : World} {N : Nat} {wr : World} {b : Nat} {s : Prop} {m : MS} {os : List Int} {v : Value} {k : Nat} (h : K2 w N wr b s m os v k) (z : Int) (x : UInt8) (h0 : 0 ≤ z) (h1 : z < 65536) :
    (16384 ≤ z → z < 52224 → (32768 ≤ z ∨ s) → ld (st m z x) z = bt x) ∧ (st m z x).pad = 77 ∧ ld (st m z x) 65282 = 77 ∧ ld (st m z x) 65288 = 1 := by
  refine ⟨fun a c d => ld_same m h.has.wf z x a c fun e => h.inv.bank (by rcases d with d | d; omega; exact d), (st_pad m z x).trans h.inv.pad, ?_, ?_⟩
  · rw [ld_pad, st_pad]; exact h.inv.pad
  · rw [ld_time, st_time, h.inv.time]; rfl
theorem keeps_no (p : Option Addr) (c : Nat) (bs : List (Int × List UInt8)) (hl : bs.length * 32 ≤ room) (hd : ∀ t ∈ bs, t.2.length + 1 ≤ room) (at_ : Int) (x : UInt8) (po : Option Addr) (co : Nat) (os : List Int) (w : World) (h : BnS w p bs) (hm : mayB (-1) bs = false) :
    Calls Try.prog 3 #[.slice p bs.length c, .agg #[.int .u16 at_, .int .u8 (bt x)], .slice po os.length co] w fun e w' => e = .returned (.bool true) ∧ Below w.heap.size w w' := by
  have hb0 : Below w.heap.size w (w.alloc (.cells #[.int .u16 at_, .int .u8 (bt x)] 25)).drew := ((Below.refl _ w).alloc (Nat.le_refl _) _).drew
  obtain ⟨w1, hw1⟩ : ∃ w1, w1 = (w.alloc (.cells #[.int .u16 at_, .int .u8 (bt x)] 25)).drew := ⟨_, rfl⟩
  have how := ownBanks_any p c bs hl hd (w.alloc (.cells #[.int .u16 at_, .int .u8 (bt x)] 25)).drew (h.below hb0)
  have hl1 : bs.length ≤ room := by omega
  go_enter Try.func3, Try.ntmps3
  go_wp2_with fail
  go_region
  go_wp2_with fail
  refine how.mono ?_
  rintro e w2 ⟨u, gs, rfl, hO, hb⟩
  obtain ⟨p2, c2, rfl, hn2⟩ := hO.ex (fun t ht => by have := hd t ht; omega)
  have hb2 : Below w.heap.size w w2 := hb0.trans (hb.mono hb0.size)
  have hnw := new_no p2 c2 bs hl1 w2 hn2 hm
  clear how hb hO
  go_wp2_with fail
  refine hnw.mono ?_
  rintro e w3 ⟨rfl, hb⟩
  replace hb2 := hb2.trans (hb.mono hb2.size)
  clear hnw hb
  have haw := awake_any w3
  go_wp2_with fail
  refine haw.mono ?_
  rintro e w4 ⟨rfl, hb⟩
  replace hb2 := hb2.trans (hb.mono hb2.size)
  clear haw hb
  have hmy := may_any p c bs hl1 w4 (h.below hb2)
  rw [hm] at hmy
  go_wp2_with fail
  refine hmy.mono ?_
  rintro e w5 ⟨rfl, hb⟩
  replace hb2 := hb2.trans (hb.mono hb2.size)
  go_wp2
  go_ret
  exact ⟨rfl, hb2⟩
end Go.Proofs.Ytcmaccefjlgbfaa
