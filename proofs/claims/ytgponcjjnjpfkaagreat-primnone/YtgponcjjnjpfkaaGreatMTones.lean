import Derived.Test.YtgponcjjnjpfkaaGreatMNewW
import Derived.BigQuiet
/-! bytes.Clone, slices.Clone, Tones, Screen; awake. -/
namespace Go.Proofs.YtgponcjjnjpfkaaGreat.M
open Go.RowKit
open Go.Proofs
set_option linter.unusedVariables false
set_option linter.unusedSimpArgs false
theorem Grew.belowAll {W W' : World} {v v' : Value} (h : Grew W W' v v') {N : Nat} (hB : ∀ g, v.ownBlock = some g → N ≤ g) {W0 : World} (h0 : Below N W0 W) (hN : N ≤ W0.heap.size) : Below N W0 W' :=
  h0.trans (h.below hB (Nat.le_trans hN h0.size))
theorem HasM.below {W W' : World} {F : Nat → Prop} {b : Nat} {m : MS} (h : HasM W F b m) (k : Below W.heap.size W W') : HasM W' F b m := h.kept fun i hi _ => k.block i hi
theorem eql_nil (t e : TypeId) (ht : Tryz.prog.underlying t = some (.slice e)) (W : World) (p : Option Addr) (n c : Nat) : (binOp .eql t (.slice p n c) (.slice none 0 0)).run Tryz.prog W = .ok (.bool p.isNone) W := by
  have h : ∀ d : Nat, (Op.equalIn (d + 1) t (.slice p n c) (.slice none 0 0)).run Tryz.prog W = .ok p.isNone W := fun d => by
    cases p <;> simp [Op.equalIn, run_underlying ht]
  have h2 : (Op.equal t (.slice p n c) (.slice none 0 0)).run Tryz.prog W = .ok p.isNone W := h 9999
  simp [binOp, h2]
set_option maxHeartbeats 1000000
set_option maxRecDepth 100000
theorem clone_any (v : Value) (l : List UInt8) (hl : l.length ≤ room) (w : World) (h : Sl w v l) :
    Calls Tryz.prog 81 #[v] w fun e w' => ∃ u, e = .returned u ∧ Row w' w.heap.size u l ∧ Below w.heap.size w w' := by
  have h0 := h
  rcases h with ⟨rfl, rfl⟩ | ⟨x, c, rfl, _, hc⟩
  · have hn := fun (W : World) => eql_nil 80 5 Tryz.underlying80 W none 0 0
    go_enter Tryz.func81, Tryz.ntmps81
    go_wp2
    go_ret
    exact ⟨_, rfl, row_nil _ _, Below.refl _ _⟩
  · have hr0 : Row (w.alloc (.cells #[] 5)) w.heap.size (.slice (some ⟨w.heap.size, 0, none⟩) 0 0) [] := row_of_alloc w w.heap.size (Nat.le_refl _) [] (by simp)
    have hb0 : Below w.heap.size w (w.alloc (.cells #[] 5)) := (Below.refl _ _).alloc (Nat.le_refl _) _
    have hs0 := h0.below hb0
    have hn := fun (W : World) => eql_nil 80 5 Tryz.underlying80 W (some x) l.length c
    go_enter Tryz.func81, Tryz.ntmps81
    go_wp2_with (first | (at_builtin; refine wpList_append_bytes _ rfl _ _ rfl w.heap.size _ [] rfl hr0 _ l rfl hs0 (by simpa using hl) hb0.size ?_))
    intro v' w' hr hg
    go_wp2
    go_ret
    exact ⟨_, rfl, hr, hg.belowAll (fun g e => (hr0.lt g e).1) hb0 (Nat.le_refl _)⟩
/-- A list of tones in new memory. -/
def TRow (W : World) (B : Nat) (v : Value) (l : List (Int × Int × Int)) : Prop := W.ownsRow B 53 3 v l.length (tc l)
theorem TRow.cs {W : World} {B : Nat} {v : Value} {l : List (Int × Int × Int)} (h : TRow W B v l) : Cs W v 3 l.length (tc l) := by
  have h' := h
  rcases h.2 with ⟨rfl, e⟩ | ⟨g, cap, cur, rfl, _⟩
  · exact .inl ⟨rfl, e, by rw [List.eq_nil_of_length_eq_zero e]; rfl⟩
  · refine .inr ⟨_, cap, rfl, tc_len l, World.ownsRow.cells h' rfl, tc_one l⟩
theorem Cs.below {W W' : World} {u : Value} {s n : Nat} {xs : List Value} (h : Cs W u s n xs) (b : Below W.heap.size W W') : Cs W' u s n xs := by
  rcases h with h | ⟨ad, c, e1, e2, e3, e4⟩
  · exact .inl h
  · exact .inr ⟨ad, c, e1, e2, fun j v hj => by have e := e3 j v hj; rw [b.cell (World.block_lt_of_cell? W _ e)]; exact e, e4⟩
theorem cloneT_any (v : Value) (l : List (Int × Int × Int)) (hl : l.length ≤ 1000000) (w : World) (h : TRow w 0 v l) :
    Calls Tryz.prog 53 #[v] w fun e w' => ∃ u, e = .returned u ∧ TRow w' w.heap.size u l ∧ Below w.heap.size w w' := by
  have h0 := h
  rcases h.2 with ⟨rfl, e⟩ | ⟨g, cap, cur, rfl, _⟩
  · have hn := fun (W : World) => eql_nil 50 53 Tryz.underlying50 W none 0 0
    obtain rfl := List.eq_nil_of_length_eq_zero e
    go_enter Tryz.func53, Tryz.ntmps53
    go_wp2
    go_ret
    exact ⟨_, rfl, World.ownsRow_nil _ _ _ _, Below.refl _ _⟩
  · have hr0 : (w.alloc (.cells #[] 53)).ownsRow w.heap.size 53 3 (.slice (some ⟨w.heap.size, 0, none⟩) 0 0) 0 [] :=
      ⟨rfl, .inr ⟨w.heap.size, 0, #[], rfl, Nat.le_refl _, heap_alloc_new w _, Nat.le_refl _, by decide, by simp, by simp⟩⟩
    have hb0 : Below w.heap.size w (w.alloc (.cells #[] 53)) := (Below.refl _ _).alloc (Nat.le_refl _) _
    have hs0 := h0.cs.below hb0
    have hn := fun (W : World) => eql_nil 50 53 Tryz.underlying50 W (some ⟨g, 0, none⟩) l.length cap
    go_enter Tryz.func53, Tryz.ntmps53
    go_wp2_with (first | (at_builtin; refine wpList_append_row _ rfl _ _ 50 53 _ 3 16 Tryz.underlying50 info90 rfl (by decide) rfl w.heap.size _ 0 [] rfl hr0 _ l.length (tc l) rfl hs0 (by unfold room; omega) (by unfold maxLen; omega) hb0.size ?_))
    intro v' w' hr hg
    go_wp2
    go_ret
    refine ⟨_, rfl, ?_, hg.belowAll (fun g e => (hr0.lt g e).1) hb0 (Nat.le_refl _)⟩
    simpa [TRow] using hr
theorem tones_any (b : Nat) (w : World) {F : Nat → Prop} {m : MS} (hm : HasM w F b m) (ht : m.tones.length ≤ 1000000) :
    Calls Tryz.prog 22 #[.pointer (some ⟨b, 0, none⟩)] w fun e w' => ∃ u, e = .returned u ∧ TRow w' w.heap.size u m.tones ∧ Below w.heap.size w w' := by
  obtain ⟨mb, L, tv, hm⟩ := hm
  have c6 := cell_of w b (19457 + 6) _ 119 _ hm.blk ((mcells_reg mb m tv hm.wf 6).trans rfl)
  simp only [Nat.reduceAdd] at c6
  have hc := cloneT_any tv m.tones ht w hm.tones
  go_enter Tryz.func22, Tryz.ntmps22
  go_wp2_with fail
  refine hc.mono ?_
  rintro e w1 ⟨u, rfl, h1, h2⟩
  go_wp2
  go_ret
  exact ⟨_, rfl, h1, h2⟩
theorem tones_nil (w : World) : Calls Tryz.prog 22 #[.pointer none] w fun e w' => e = .returned (.slice none 0 0) ∧ w' = w := by
  go_enter Tryz.func22, Tryz.ntmps22
  go_wp2
  go_ret
  exact ⟨rfl, rfl⟩
theorem screen_nil (w : World) : Calls Tryz.prog 82 #[.pointer none] w fun e w' => e = .returned (.slice none 0 0) ∧ w' = w := by
  go_enter Tryz.func82, Tryz.ntmps82
  go_wp2
  go_ret
  exact ⟨rfl, rfl⟩
theorem screen_any (b : Nat) (w : World) {F : Nat → Prop} {m : MS} (hm : HasM w F b m) :
    Calls Tryz.prog 82 #[.pointer (some ⟨b, 0, none⟩)] w fun e w' => ∃ u, e = .returned u ∧ Row w' w.heap.size u m.scr ∧ Below w.heap.size w w' := by
  obtain ⟨mb, L, tv, hm⟩ := hm
  have hs : Sl w (.slice (some ⟨b, 16385, none⟩) 3072 3072) m.scr := by
    refine .inr ⟨⟨b, 16385, none⟩, 3072, by rw [hm.wf.scr], by rw [hm.wf.scr]; omega, fun j x hj => ?_⟩
    have e : (⟨b, 16385, none⟩ : Addr).add j = ⟨b, 16385 + j, none⟩ := Addr.add_lit _ _ _
    rw [e]; exact cell_of w b _ _ 119 _ hm.blk (mcells_scr mb m tv hm.wf j x hj)
  have hc := clone_any _ m.scr (by rw [hm.wf.scr]; unfold room; omega) w hs
  go_enter Tryz.func82, Tryz.ntmps82
  go_wp2_with fail
  refine hc.mono ?_
  rintro e w1 ⟨u, rfl, h1, h2⟩
  go_wp2
  go_ret
  exact ⟨_, rfl, h1, h2⟩
end Go.Proofs.YtgponcjjnjpfkaaGreat.M
/-! awake. -/
namespace Go.Proofs.YtgponcjjnjpfkaaGreat.M
open Go.RowKit
open Go.Proofs
set_option linter.unusedVariables false
set_option linter.unusedSimpArgs false
theorem Done.below {w w' : World} {B : Nat} {b : Nat} {m : MS} (h : Done w w' (fun k => B ≤ k) b m) (hB : B ≤ w.heap.size) : HasM w' (fun k => B ≤ k) b m ∧ Below B w w' :=
  ⟨h.1.mono fun i hi g => by rcases g with g | ⟨g, _⟩ <;> omega, h.2.below hB fun i f => f⟩
set_option maxHeartbeats 2000000
set_option maxRecDepth 100000
end Go.Proofs.YtgponcjjnjpfkaaGreat.M
/-! SameBanks, SameImage, image. -/
namespace Go.Proofs.YtgponcjjnjpfkaaGreat.M
open Go.RowKit
open Go.Proofs
set_option linter.unusedVariables false
set_option linter.unusedSimpArgs false
theorem Sl.conv {W : World} {v : Value} {l : List UInt8} (h : Sl W v l) : (convert 80 9 v).run Tryz.prog W = .ok (.string ⟨l.toArray⟩) W := by
  rcases h with ⟨rfl, rfl⟩ | ⟨x, c, rfl, _, h⟩
  · rw [run_convert_bytes_string W 80 9 5 none 0 0 Tryz.underlying80 Tryz.underlying5 Tryz.underlying9]; rfl
  · exact run_convert_bytes_back (P := Tryz.prog) W 80 9 5 x c l Tryz.underlying80 Tryz.underlying5 Tryz.underlying9 (fun j hj => h j _ (by simp))
set_option maxHeartbeats 2000000
set_option maxRecDepth 100000
theorem sameBanks_any (p p' : Option Addr) (c c' : Nat) (bs : List (Int × List UInt8)) (hl : bs.length ≤ room) (w : World) (h : BnS w p bs) (h' : BnS w p' bs) :
    Calls Tryz.prog 84 #[.slice p bs.length c, .slice p' bs.length c'] w fun e w' => e = .returned (.bool true) ∧ ∃ q, w' = w.drewN q := by
  unfold room at hl
  go_enter Tryz.func84, Tryz.ntmps84
  go_wp2
  go_loopw [13] (fun i wr => ∃ k q : Nat, k ≤ bs.length ∧ i = .int .i64 (k : Int) ∧ wr = w.drewN q) (fun i _ => bs.length - (intOf i).toNat)
  case atStart => exact ⟨0, 0, by omega, rfl, rfl⟩
  case round =>
    obtain ⟨k, q, hk, rfl, rfl⟩ := hrel
    by_cases hlt : k < bs.length
    · have i1 : (k : Int) < bs.length := by omega
      obtain ⟨b, o, dv, rfl, e1, e2, e3, e4⟩ := h k bs[k] (List.getElem?_eq_getElem hlt)
      obtain ⟨b', o', dv', rfl, f1, f2, f3, f4⟩ := h' k bs[k] (List.getElem?_eq_getElem hlt)
      have v1 := fun q => Sl.conv (W := w.drewN q) e3
      have v2 := fun q => Sl.conv (W := w.drewN q) f3
      obtain ⟨dp, dc, rfl, _⟩ := e3.ex
      obtain ⟨dp', dc', rfl, _⟩ := f3.ex
      generalize hn : (bs[k]).1 = n at *
      generalize hL : (bs[k]).2.length = L at *
      generalize hs : (⟨(bs[k]).2.toArray⟩ : ByteArray) = s at *
      clear e3 f3
      have g1 : ∀ q, (w.drewN q).cell? ⟨b, o + k * 2, none⟩ = some (.int .i64 n) := fun q => e1
      have g2 : ∀ q, (w.drewN q).cell? ⟨b, o + k * 2 + 1, none⟩ = some (.slice dp L dc) := fun q => e2
      have g3 : ∀ q, (w.drewN q).cell? ⟨b', o' + k * 2, none⟩ = some (.int .i64 n) := fun q => f1
      have g4 : ∀ q, (w.drewN q).cell? ⟨b', o' + k * 2 + 1, none⟩ = some (.slice dp' L dc') := fun q => f2
      go_wp2_with fail
      go_quiet (fail)
      go_wp2
      go_roundw
      case rel =>
        first
          | exact ⟨k + 1, _, by omega, by go_num, rfl⟩
          | ((repeat apply Exists.intro); refine ⟨⟨k + 1, _, by omega, ?_, rfl⟩, rfl⟩; go_num)
      case measure => simp [intOf]; omega
    · obtain rfl : k = bs.length := by omega
      go_wp2
      go_ret
      exact ⟨rfl, _, rfl⟩
/-- An image, as a value. -/
def img (pb : Option Addr) (nb cb : Nat) (rv sv : Value) (m : MS) : Value := .agg #[.slice pb nb cb, rv, sv, .int .u8 m.ch, .int .u8 m.pad, .int .u16 m.pitch, .int .u8 m.vol, .int .u16 m.time]
theorem sameImage_any (p p' : Option Addr) (c c' : Nat) (bs : List (Int × List UInt8)) (hl : bs.length ≤ room) (rv rv' sv sv' : Value) (ram scr : List UInt8) (m : MS) (w : World) (h : BnS w p bs) (h' : BnS w p' bs)
    (r : Sl w rv ram) (r' : Sl w rv' ram) (s : Sl w sv scr) (s' : Sl w sv' scr) :
    Calls Tryz.prog 58 #[img p bs.length c rv sv m, img p' bs.length c' rv' sv' m] w fun e w' => e = .returned (.bool true) ∧ Below w.heap.size w w' := by
  obtain ⟨W1, hW1⟩ : ∃ W1, W1 = (w.alloc (.cells #[.slice p bs.length c, rv, sv, .int .u8 m.ch, .int .u8 m.pad, .int .u16 m.pitch, .int .u8 m.vol, .int .u16 m.time] 125)).alloc (.cells #[.slice p' bs.length c', rv', sv', .int .u8 m.ch, .int .u8 m.pad, .int .u16 m.pitch, .int .u8 m.vol, .int .u16 m.time] 125) := ⟨_, rfl⟩
  have hB1 : Below w.heap.size w W1 := by rw [hW1]; exact ((Below.refl _ w).alloc (Nat.le_refl _) _).alloc (by simp) _
  have hsb := sameBanks_any p p' c c' bs hl W1 (h.below hB1) (h'.below hB1)
  have v1 := fun q => Sl.conv (W := W1.drewN q) (Sl.below (W' := W1) r hB1)
  have v2 := fun q => Sl.conv (W := W1.drewN q) (Sl.below (W' := W1) r' hB1)
  have v3 := fun q => Sl.conv (W := W1.drewN q) (Sl.below (W' := W1) s hB1)
  have v4 := fun q => Sl.conv (W := W1.drewN q) (Sl.below (W' := W1) s' hB1)
  obtain ⟨rp, rc, rfl, _⟩ := r.ex
  obtain ⟨rp', rc', rfl, _⟩ := r'.ex
  obtain ⟨sp, sc', rfl, _⟩ := s.ex
  obtain ⟨sp', sc'', rfl, _⟩ := s'.ex
  have HB : Hid _ := hB1
  clear hB1 h h' r r' s s'
  subst hW1
  unfold img
  go_enter Tryz.func58, Tryz.ntmps58
  go_wp2_with fail
  refine hsb.mono ?_
  rintro e w2 ⟨rfl, q, rfl⟩
  go_wp2
  go_ret
  exact ⟨rfl, HB.out.os, HB.out.tape, HB.out.output, HB.out.size, HB.out.block⟩
end Go.Proofs.YtgponcjjnjpfkaaGreat.M
