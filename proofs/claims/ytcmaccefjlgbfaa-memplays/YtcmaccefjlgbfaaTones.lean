import Derived.Test.YtcmaccefjlgbfaaNewW
import Derived.BigQuiet
/-! bytes.Clone, slices.Clone, Tones, Screen; awake. -/
namespace Go.Proofs.Ytcmaccefjlgbfaa
open Go.RowKit
open Go.Proofs
set_option linter.unusedVariables false
set_option linter.unusedSimpArgs false
theorem Grew.belowAll {W W' : World} {v v' : Value} (h : Grew W W' v v') {N : Nat} (hB : ∀ g, v.ownBlock = some g → N ≤ g) {W0 : World} (h0 : Below N W0 W) (hN : N ≤ W0.heap.size) : Below N W0 W' :=
  h0.trans (h.below hB (Nat.le_trans hN h0.size))
theorem HasM.below {W W' : World} {F : Nat → Prop} {b : Nat} {m : MS} (h : HasM W F b m) (k : Below W.heap.size W W') : HasM W' F b m := h.kept fun i hi _ => k.block i hi
theorem eql_nil (t e : TypeId) (ht : Try.prog.underlying t = some (.slice e)) (W : World) (p : Option Addr) (n c : Nat) : (binOp .eql t (.slice p n c) (.slice none 0 0)).run Try.prog W = .ok (.bool p.isNone) W := by
  have h : ∀ d : Nat, (Op.equalIn (d + 1) t (.slice p n c) (.slice none 0 0)).run Try.prog W = .ok p.isNone W := fun d => by
    cases p <;> simp [Op.equalIn, run_underlying ht]
  have h2 : (Op.equal t (.slice p n c) (.slice none 0 0)).run Try.prog W = .ok p.isNone W := h 9999
  simp [binOp, h2]
set_option maxHeartbeats 1000000
set_option maxRecDepth 100000
theorem clone_any (v : Value) (l : List UInt8) (hl : l.length ≤ room) (w : World) (h : Sl w v l) :
    Calls Try.prog 44 #[v] w fun e w' => ∃ u, e = .returned u ∧ Row w' w.heap.size u l ∧ Below w.heap.size w w' := by
  have h0 := h
  rcases h with ⟨rfl, rfl⟩ | ⟨x, c, rfl, _, hc⟩
  · have hn := fun (W : World) => eql_nil 35 5 Try.underlying35 W none 0 0
    go_enter Try.func44, Try.ntmps44
    go_wp2
    go_ret
    exact ⟨_, rfl, row_nil _ _, Below.refl _ _⟩
  · have hr0 : Row (w.alloc (.cells #[] 5)) w.heap.size (.slice (some ⟨w.heap.size, 0, none⟩) 0 0) [] := row_of_alloc w w.heap.size (Nat.le_refl _) [] (by simp)
    have hb0 : Below w.heap.size w (w.alloc (.cells #[] 5)) := (Below.refl _ _).alloc (Nat.le_refl _) _
    have hs0 := h0.below hb0
    have hn := fun (W : World) => eql_nil 35 5 Try.underlying35 W (some x) l.length c
    go_enter Try.func44, Try.ntmps44
    go_wp2_with (first | (at_builtin; refine wpList_append_bytes _ rfl _ _ rfl w.heap.size _ [] rfl hr0 _ l rfl hs0 (by simpa using hl) hb0.size ?_))
    intro v' w' hr hg
    go_wp2
    go_ret
    exact ⟨_, rfl, hr, hg.belowAll (fun g e => (hr0.lt g e).1) hb0 (Nat.le_refl _)⟩
/-- A list of tones in new memory. -/
def TRow (W : World) (B : Nat) (v : Value) (l : List (Int × Int × Int)) : Prop := W.ownsRow B 90 3 v l.length (tc l)
theorem TRow.cs {W : World} {B : Nat} {v : Value} {l : List (Int × Int × Int)} (h : TRow W B v l) : Cs W v 3 l.length (tc l) := by
  have h' := h
  rcases h.2 with ⟨rfl, e⟩ | ⟨g, cap, cur, rfl, _⟩
  · exact .inl ⟨rfl, e, by rw [List.eq_nil_of_length_eq_zero e]; rfl⟩
  · refine .inr ⟨_, cap, rfl, tc_len l, World.ownsRow.cells h' rfl, tc_one l⟩
theorem Cs.below {W W' : World} {u : Value} {s n : Nat} {xs : List Value} (h : Cs W u s n xs) (b : Below W.heap.size W W') : Cs W' u s n xs := by
  rcases h with h | ⟨ad, c, e1, e2, e3, e4⟩
  · exact .inl h
  · exact .inr ⟨ad, c, e1, e2, fun j v hj => by have e := e3 j v hj; rw [b.cell (World.block_lt_of_cell? W _ e)]; exact e, e4⟩
theorem cloneT_any (v : Value) (l : List (Int × Int × Int)) (hl : l.length ≤ 1000000) (w : World) (h : TRow w 0 v l) :
    Calls Try.prog 45 #[v] w fun e w' => ∃ u, e = .returned u ∧ TRow w' w.heap.size u l ∧ Below w.heap.size w w' := by
  have h0 := h
  rcases h.2 with ⟨rfl, e⟩ | ⟨g, cap, cur, rfl, _⟩
  · have hn := fun (W : World) => eql_nil 52 90 Try.underlying52 W none 0 0
    obtain rfl := List.eq_nil_of_length_eq_zero e
    go_enter Try.func45, Try.ntmps45
    go_wp2
    go_ret
    exact ⟨_, rfl, World.ownsRow_nil _ _ _ _, Below.refl _ _⟩
  · have hr0 : (w.alloc (.cells #[] 90)).ownsRow w.heap.size 90 3 (.slice (some ⟨w.heap.size, 0, none⟩) 0 0) 0 [] :=
      ⟨rfl, .inr ⟨w.heap.size, 0, #[], rfl, Nat.le_refl _, heap_alloc_new w _, Nat.le_refl _, by decide, by simp, by simp⟩⟩
    have hb0 : Below w.heap.size w (w.alloc (.cells #[] 90)) := (Below.refl _ _).alloc (Nat.le_refl _) _
    have hs0 := h0.cs.below hb0
    have hn := fun (W : World) => eql_nil 52 90 Try.underlying52 W (some ⟨g, 0, none⟩) l.length cap
    go_enter Try.func45, Try.ntmps45
    go_wp2_with (first | (at_builtin; refine wpList_append_row _ rfl _ _ 52 90 _ 3 16 Try.underlying52 info90 rfl (by decide) rfl w.heap.size _ 0 [] rfl hr0 _ l.length (tc l) rfl hs0 (by unfold room; omega) (by unfold maxLen; omega) hb0.size ?_))
    intro v' w' hr hg
    go_wp2
    go_ret
    refine ⟨_, rfl, ?_, hg.belowAll (fun g e => (hr0.lt g e).1) hb0 (Nat.le_refl _)⟩
    simpa [TRow] using hr
theorem tones_any (b : Nat) (w : World) {F : Nat → Prop} {m : MS} (hm : HasM w F b m) (ht : m.tones.length ≤ 1000000) :
    Calls Try.prog 24 #[.pointer (some ⟨b, 0, none⟩)] w fun e w' => ∃ u, e = .returned u ∧ TRow w' w.heap.size u m.tones ∧ Below w.heap.size w w' := by
  obtain ⟨mb, L, tv, hm⟩ := hm
  have c6 := cell_of w b (19457 + 6) _ 86 _ hm.blk ((mcells_reg mb m tv hm.wf 6).trans rfl)
  simp only [Nat.reduceAdd] at c6
  have hc := cloneT_any tv m.tones ht w hm.tones
  go_enter Try.func24, Try.ntmps24
  go_wp2_with fail
  refine hc.mono ?_
  rintro e w1 ⟨u, rfl, h1, h2⟩
  go_wp2
  go_ret
  exact ⟨_, rfl, h1, h2⟩
theorem tones_nil (w : World) : Calls Try.prog 24 #[.pointer none] w fun e w' => e = .returned (.slice none 0 0) ∧ w' = w := by
  go_enter Try.func24, Try.ntmps24
  go_wp2
  go_ret
  exact ⟨rfl, rfl⟩
theorem screen_nil (w : World) : Calls Try.prog 23 #[.pointer none] w fun e w' => e = .returned (.slice none 0 0) ∧ w' = w := by
  go_enter Try.func23, Try.ntmps23
  go_wp2
  go_ret
  exact ⟨rfl, rfl⟩
theorem screen_any (b : Nat) (w : World) {F : Nat → Prop} {m : MS} (hm : HasM w F b m) :
    Calls Try.prog 23 #[.pointer (some ⟨b, 0, none⟩)] w fun e w' => ∃ u, e = .returned u ∧ Row w' w.heap.size u m.scr ∧ Below w.heap.size w w' := by
  obtain ⟨mb, L, tv, hm⟩ := hm
  have hs : Sl w (.slice (some ⟨b, 16385, none⟩) 3072 3072) m.scr := by
    refine .inr ⟨⟨b, 16385, none⟩, 3072, by rw [hm.wf.scr], by rw [hm.wf.scr]; omega, fun j x hj => ?_⟩
    have e : (⟨b, 16385, none⟩ : Addr).add j = ⟨b, 16385 + j, none⟩ := Addr.add_lit _ _ _
    rw [e]; exact cell_of w b _ _ 86 _ hm.blk (mcells_scr mb m tv hm.wf j x hj)
  have hc := clone_any _ m.scr (by rw [hm.wf.scr]; unfold room; omega) w hs
  go_enter Try.func23, Try.ntmps23
  go_wp2_with fail
  refine hc.mono ?_
  rintro e w1 ⟨u, rfl, h1, h2⟩
  go_wp2
  go_ret
  exact ⟨_, rfl, h1, h2⟩
end Go.Proofs.Ytcmaccefjlgbfaa
/-! awake. -/
namespace Go.Proofs.Ytcmaccefjlgbfaa
open Go.RowKit
open Go.Proofs
set_option linter.unusedVariables false
set_option linter.unusedSimpArgs false
def aw : MS := st (sc (plt (st (st { m0 with banks := nbk [(1, [9])] } 65280 (b8 1)) 32768 7) 2 1 5) 65284 440) 65286 3
theorem aw_a : ld aw 32768 = 7 := by kernel_rfl
theorem aw_b : ld aw 49218 = 5 := by kernel_rfl
theorem aw_c : ld aw 16384 = 9 := by kernel_rfl
theorem aw_t : aw.tones = [(0, 440, 3)] := by kernel_rfl
theorem Done.below {w w' : World} {B : Nat} {b : Nat} {m : MS} (h : Done w w' (fun k => B ≤ k) b m) (hB : B ≤ w.heap.size) : HasM w' (fun k => B ≤ k) b m ∧ Below B w w' :=
  ⟨h.1.mono fun i hi g => by rcases g with g | ⟨g, _⟩ <;> omega, h.2.below hB fun i f => f⟩
set_option maxHeartbeats 2000000
set_option maxRecDepth 100000
theorem awake_any (w : World) : Calls Try.prog 9 #[] w fun e w' => e = .returned (.bool true) ∧ Below w.heap.size w w' := by
  obtain ⟨W1, hW1⟩ : ∃ W1, W1 = (w.alloc (.cells #[.int .u8 9] 5)).alloc (.cells #[.int .i64 1, .slice (some ⟨w.heap.size, 0, none⟩) 1 1] 37) := ⟨_, rfl⟩
  have hB1 : Below w.heap.size w W1 := by rw [hW1]; exact ((Below.refl _ w).alloc (Nat.le_refl _) _).alloc (by simp) _
  have hbn : BnS W1 (some ⟨w.heap.size + 1, 0, none⟩) [(1, [9])] := by
    intro i t ht
    match i, ht with
    | 0, ht =>
      simp at ht; subst ht
      have hh : W1.heap[w.heap.size + 1]? = some (.cells [.int .i64 1, .slice (some ⟨w.heap.size, 0, none⟩) 1 1].toArray 37 (0, 0)) := by
        rw [hW1]; have := heap_alloc_new (w.alloc (.cells #[.int .u8 9] 5)) (.cells #[.int .i64 1, .slice (some ⟨w.heap.size, 0, none⟩) 1 1] 37); simpa using this
      have hd : W1.heap[w.heap.size]? = some (.cells (bv [9]).toArray 5 (0, 0)) := by
        rw [hW1]; exact (Below.heap_alloc _ _ _ (by simp)).trans (heap_alloc_new w _)
      refine ⟨_, 0, _, rfl, cell_of W1 _ _ _ 37 _ hh rfl, cell_of W1 _ _ _ 37 _ hh rfl, .inr ⟨_, 1, rfl, Nat.le_refl _, fun j b hj => ?_⟩, by decide⟩
      have e : (⟨w.heap.size, 0, none⟩ : Addr).add j = ⟨w.heap.size, j, none⟩ := by rw [Addr.add_lit]; simp
      rw [e]
      exact cell_of W1 _ _ _ 5 _ hd ((bv_get _ _ _).2 ⟨b, hj, rfl⟩)
    | n + 1, ht => simp at ht
  have hnew := new_yes (some ⟨w.heap.size + 1, 0, none⟩) 1 [(1, [9])] (by decide) W1 hbn (by decide)
  rw [hW1] at hnew
  have hsz := hB1.size
  rw [hW1] at hB1 hsz
  clear hbn hW1
  go_enter Try.func9, Try.ntmps9
  go_wp2_with fail
  refine hnew.mono ?_
  rintro e w2 ⟨b, rfl, hM, hB2⟩
  have hB3 : Below w.heap.size w w2 := hB1.trans (hB2.mono hsz)
  replace hM : HasM w2 (fun k => w.heap.size ≤ k) b { m0 with banks := nbk [(1, [9])] } := hM.mono fun i _ hi => Nat.le_trans hsz hi
  clear hnew hB2 hB1 hsz
  obtain ⟨mA, hmA⟩ : ∃ m : MS, m = st { m0 with banks := nbk [(1, [9])] } 65280 (b8 1) := ⟨_, rfl⟩
  have tA : mA.tones = [] := by rw [hmA]; kernel_rfl
  have c1 := choose_any b 1 w2 hM (by decide)
  rw [← hmA] at c1
  go_wp2_with fail
  refine c1.mono ?_
  rintro e w3 ⟨rfl, hD⟩
  obtain ⟨hM, hb⟩ := hD.below hB3.size
  replace hB3 := hB3.trans hb
  clear hb hD c1
  obtain ⟨mB, hmB⟩ : ∃ m : MS, m = st mA 32768 7 := ⟨_, rfl⟩
  have c1 := store_any b 32768 (by omega) (by omega) 7 w3 hM (by rw [tA]; decide)
  have tB : mB.tones = [] := by rw [hmB, hmA]; kernel_rfl
  rw [← hmB] at c1
  rw [show bt 7 = 7 from rfl] at c1
  go_wp2_with fail
  refine c1.mono ?_
  rintro e w4 ⟨rfl, hD⟩
  obtain ⟨hM, hb⟩ := hD.below hB3.size
  replace hB3 := hB3.trans hb
  clear hb hD c1
  obtain ⟨mC, hmC⟩ : ∃ m : MS, m = plt mB 2 1 5 := ⟨_, rfl⟩
  have c1 := plot_any b 2 1 5 (by omega) (by omega) (by omega) (by omega) w4 hM (by rw [tB]; decide)
  have tC : mC.tones = [] := by rw [hmC, hmB, hmA]; kernel_rfl
  rw [← hmC] at c1
  go_wp2_with fail
  refine c1.mono ?_
  rintro e w5 ⟨rfl, hD⟩
  obtain ⟨hM, hb⟩ := hD.below hB3.size
  replace hB3 := hB3.trans hb
  clear hb hD c1
  have c1 := play_any b 440 (by omega) (by omega) 3 w5 hM (by rw [tC]; decide)
  have eaw : st (sc mC 65284 440) 65286 3 = aw := by rw [hmC, hmB, hmA]; rfl
  rw [eaw, show bt 3 = 3 from rfl] at c1
  clear hmA hmB hmC tA tB tC eaw
  go_wp2_with fail
  refine c1.mono ?_
  rintro e w6 ⟨rfl, hD⟩
  obtain ⟨hM, hb⟩ := hD.below hB3.size
  replace hB3 := hB3.trans hb
  clear hb hD c1
  have c1 := tones_any b w6 hM (by rw [aw_t]; decide)
  rw [aw_t] at c1
  go_wp2_with fail
  refine c1.mono ?_
  rintro e w7 ⟨u, rfl, hT, hb⟩
  replace hM := hM.below hb
  replace hB3 := hB3.trans (hb.mono hB3.size)
  obtain ⟨g, cap, rfl⟩ := own_pos hT (by decide)
  have ct := World.ownsRow.cells hT (g := g) rfl 1 (.int .u16 440) rfl
  have e1 : (⟨g, 0, none⟩ : Addr).add 1 = ⟨g, 1, none⟩ := rfl
  rw [e1] at ct
  clear hb c1
  have l1 := load_any b 32768 (by omega) (by omega) w7 hM
  rw [aw_a] at l1
  go_wp2_with fail
  refine l1.mono ?_
  rintro e w8 ⟨rfl, q1, rfl⟩
  clear l1
  have l1 := load_any b 49218 (by omega) (by omega) (w7.drewN q1) (hM.drew q1)
  rw [aw_b] at l1
  go_wp2_with fail
  refine l1.mono ?_
  rintro e w8 ⟨rfl, q2, rfl⟩
  clear l1
  have l1 := fun q => load_any b 16384 (by omega) (by omega) (w7.drewN q) (hM.drew q)
  rw [aw_c] at l1
  go_wp2_with fail
  refine (l1 _).mono ?_
  rintro e w8 ⟨rfl, q3, rfl⟩
  clear l1
  have ct2 : ∀ q, (w7.drewN q).cell? ⟨g, 1, none⟩ = some (.int .u16 440) := fun q => ct
  go_wp2
  go_ret
  exact ⟨rfl, hB3.os, hB3.tape, hB3.output, hB3.size, hB3.block⟩
end Go.Proofs.Ytcmaccefjlgbfaa
/-! SameBanks, SameImage, image. -/
namespace Go.Proofs.Ytcmaccefjlgbfaa
open Go.RowKit
open Go.Proofs
set_option linter.unusedVariables false
set_option linter.unusedSimpArgs false
theorem Sl.conv {W : World} {v : Value} {l : List UInt8} (h : Sl W v l) : (convert 35 9 v).run Try.prog W = .ok (.string ⟨l.toArray⟩) W := by
  rcases h with ⟨rfl, rfl⟩ | ⟨x, c, rfl, _, h⟩
  · rw [run_convert_bytes_string W 35 9 5 none 0 0 Try.underlying35 Try.underlying5 Try.underlying9]; rfl
  · exact run_convert_bytes_back (P := Try.prog) W 35 9 5 x c l Try.underlying35 Try.underlying5 Try.underlying9 (fun j hj => h j _ (by simp))
set_option maxHeartbeats 2000000
set_option maxRecDepth 100000
theorem sameBanks_any (p p' : Option Addr) (c c' : Nat) (bs : List (Int × List UInt8)) (hl : bs.length ≤ room) (w : World) (h : BnS w p bs) (h' : BnS w p' bs) :
    Calls Try.prog 46 #[.slice p bs.length c, .slice p' bs.length c'] w fun e w' => e = .returned (.bool true) ∧ ∃ q, w' = w.drewN q := by
  unfold room at hl
  go_enter Try.func46, Try.ntmps46
  go_wp2
  go_loopw [13] (fun i wr => ∃ k q : Nat, k ≤ bs.length ∧ i = .int .i64 (k : Int) ∧ wr = w.drewN q) (fun i _ => bs.length - (intOf i).toNat)
  case atStart => exact ⟨0, 0, by omega, rfl, rfl⟩
  case round =>
    obtain ⟨k, q, hk, rfl, rfl⟩ := hrel
    by_cases hlt : k < bs.length
    · have i1 : (k : Int) < bs.length := by omega
      obtain ⟨b, o, dv, rfl, e1, e2, e3, e4⟩ := h k bs[k] (List.getElem?_eq_getElem hlt)
      obtain ⟨b', o', dv', rfl, f1, f2, f3, f4⟩ := h' k bs[k] (List.getElem?_eq_getElem hlt)
      have v1 := fun q => Sl.conv (W := w.drewN q) e3
      have v2 := fun q => Sl.conv (W := w.drewN q) f3
      obtain ⟨dp, dc, rfl, _⟩ := e3.ex
      obtain ⟨dp', dc', rfl, _⟩ := f3.ex
      generalize hn : (bs[k]).1 = n at *
      generalize hL : (bs[k]).2.length = L at *
      generalize hs : (⟨(bs[k]).2.toArray⟩ : ByteArray) = s at *
      clear e3 f3
      have g1 : ∀ q, (w.drewN q).cell? ⟨b, o + k * 2, none⟩ = some (.int .i64 n) := fun q => e1
      have g2 : ∀ q, (w.drewN q).cell? ⟨b, o + k * 2 + 1, none⟩ = some (.slice dp L dc) := fun q => e2
      have g3 : ∀ q, (w.drewN q).cell? ⟨b', o' + k * 2, none⟩ = some (.int .i64 n) := fun q => f1
      have g4 : ∀ q, (w.drewN q).cell? ⟨b', o' + k * 2 + 1, none⟩ = some (.slice dp' L dc') := fun q => f2
      go_wp2_with fail
      go_quiet (fail)
      go_wp2
      go_roundw
      case rel =>
        first
          | exact ⟨k + 1, _, by omega, by go_num, rfl⟩
          | ((repeat apply Exists.intro); refine ⟨⟨k + 1, _, by omega, ?_, rfl⟩, rfl⟩; go_num)
      case measure => simp [intOf]; omega
    · obtain rfl : k = bs.length := by omega
      go_wp2
      go_ret
      exact ⟨rfl, _, rfl⟩
/-- An image, as a value. -/
def img (pb : Option Addr) (nb cb : Nat) (rv sv : Value) (m : MS) : Value := .agg #[.slice pb nb cb, rv, sv, .int .u8 m.ch, .int .u8 m.pad, .int .u16 m.pitch, .int .u8 m.vol, .int .u16 m.time]
theorem sameImage_any (p p' : Option Addr) (c c' : Nat) (bs : List (Int × List UInt8)) (hl : bs.length ≤ room) (rv rv' sv sv' : Value) (ram scr : List UInt8) (m : MS) (w : World) (h : BnS w p bs) (h' : BnS w p' bs)
    (r : Sl w rv ram) (r' : Sl w rv' ram) (s : Sl w sv scr) (s' : Sl w sv' scr) :
    Calls Try.prog 26 #[img p bs.length c rv sv m, img p' bs.length c' rv' sv' m] w fun e w' => e = .returned (.bool true) ∧ Below w.heap.size w w' := by
  obtain ⟨W1, hW1⟩ : ∃ W1, W1 = (w.alloc (.cells #[.slice p bs.length c, rv, sv, .int .u8 m.ch, .int .u8 m.pad, .int .u16 m.pitch, .int .u8 m.vol, .int .u16 m.time] 56)).alloc (.cells #[.slice p' bs.length c', rv', sv', .int .u8 m.ch, .int .u8 m.pad, .int .u16 m.pitch, .int .u8 m.vol, .int .u16 m.time] 56) := ⟨_, rfl⟩
  have hB1 : Below w.heap.size w W1 := by rw [hW1]; exact ((Below.refl _ w).alloc (Nat.le_refl _) _).alloc (by simp) _
  have hsb := sameBanks_any p p' c c' bs hl W1 (h.below hB1) (h'.below hB1)
  have v1 := fun q => Sl.conv (W := W1.drewN q) (Sl.below (W' := W1) r hB1)
  have v2 := fun q => Sl.conv (W := W1.drewN q) (Sl.below (W' := W1) r' hB1)
  have v3 := fun q => Sl.conv (W := W1.drewN q) (Sl.below (W' := W1) s hB1)
  have v4 := fun q => Sl.conv (W := W1.drewN q) (Sl.below (W' := W1) s' hB1)
  obtain ⟨rp, rc, rfl, _⟩ := r.ex
  obtain ⟨rp', rc', rfl, _⟩ := r'.ex
  obtain ⟨sp, sc', rfl, _⟩ := s.ex
  obtain ⟨sp', sc'', rfl, _⟩ := s'.ex
  have HB : Hid _ := hB1
  clear hB1 h h' r r' s s'
  subst hW1
  unfold img
  go_enter Try.func26, Try.ntmps26
  go_wp2_with fail
  refine hsb.mono ?_
  rintro e w2 ⟨rfl, q, rfl⟩
  go_wp2
  go_ret
  exact ⟨rfl, HB.out.os, HB.out.tape, HB.out.output, HB.out.size, HB.out.block⟩
theorem image_any (p : Option Addr) (n c : Nat) (rp sp : Option Addr) (rn rc sn sc' : Nat) (m : MS) (w : World) :
    Calls Try.prog 27 #[img p n c (.slice rp rn rc) (.slice sp sn sc') m] w fun e w' => e = .returned (img p n c (.slice rp rn rc) (.slice sp sn sc') m) ∧ Below w.heap.size w w' := by
  unfold img
  go_enter Try.func27, Try.ntmps27
  go_wp2
  exact bodyPost_ret (v := .agg #[.slice p n c, .slice rp rn rc, .slice sp sn sc', .int .u8 m.ch, .int .u8 m.pad, .int .u16 m.pitch, .int .u8 m.vol, .int .u16 m.time]) (by simp [results, Try.results27, go_sem]) rfl ⟨rfl, ((Below.refl _ w).alloc (Nat.le_refl _) _).alloc (by simp) _⟩
end Go.Proofs.Ytcmaccefjlgbfaa
