import Derived.Test.YtcmaccefjlgbfaaXKit
/-! MemRestores: what Restore answers on both sides. -/
namespace Go.Proofs.Ytcmaccefjlgbfaa
open Go.RowKit
open Go.Proofs
set_option linter.unusedVariables false
set_option linter.unusedSimpArgs false
theorem allF_len (bs : List (Int × List UInt8)) (h : allF bs = true) : ∀ t ∈ bs, t.2.length ≤ 16384 := by
  intro t ht
  rw [allF, List.all_eq_true] at h
  have := h t ht
  simp at this; omega
theorem whB_parts (bs : List (Int × List UInt8)) (ram scr : List UInt8) (ch : Int) (h : whB bs ram scr ch = true) : allF bs = true ∧ ram.length = 16384 ∧ scr.length = 3072 ∧ ch < 16 := by
  simp only [whB, Bool.and_eq_true, beq_iff_eq, decide_eq_true_eq] at h
  exact ⟨h.1.1.1, h.1.1.2, h.1.2, h.2⟩
theorem rrest_no (p : Option Addr) (c : Nat) (bs : List (Int × List UInt8)) (hl : bs.length * 32 ≤ room) (rp sp : Option Addr) (rc sc' : Nat) (m : MS) (w : World) (h : BnS w p bs) (ram scr : List UInt8) (hr : Sl w (.slice rp ram.length rc) ram) (hs : Sl w (.slice sp scr.length sc') scr)
    (hn : ¬ (mayB (-1) bs = true ∧ whB bs ram scr m.ch = true)) :
    Calls Try.prog 28 #[.agg (imgC (.slice p bs.length c) (.slice rp ram.length rc) (.slice sp scr.length sc') m).toArray] w fun e w' => e = .returned (.tuple #[.pointer none, .int .i64 2]) ∧ Below w.heap.size w w' := by
  cases hm : mayB (-1) bs with
  | false => exact rrest_a p c bs hl rp sp rc sc' m w h ram scr hm
  | true =>
    by_cases q1 : ram.length = 16384
    · by_cases q2 : scr.length = 3072
      · by_cases q3 : m.ch < 16
        · refine (rrest_loop p c bs hl rp sp rc sc' m w h ram scr hm q1 q2 q3 hr hs (allF_len bs)).mono ?_
          intro e w' hd
          rcases hd with ⟨_, h1, h2⟩ | ⟨h1, _⟩
          · exact ⟨h1, h2⟩
          · exact absurd ⟨hm, by simp [whB, h1, q1, q2, q3]⟩ hn
        · exact rrest_d p c bs hl rp sp rc sc' m w h ram scr hm q1 q2 q3
      · exact rrest_c p c bs hl rp sp rc sc' m w h ram scr hm q1 q2
    · exact rrest_b p c bs hl rp sp rc sc' m w h ram scr hm q1
theorem rrest_yes (p : Option Addr) (c : Nat) (bs : List (Int × List UInt8)) (hl : bs.length * 32 ≤ room) (rp sp : Option Addr) (rc sc' : Nat) (m : MS) (w : World) (h : BnS w p bs) (ram scr : List UInt8) (hr : Sl w (.slice rp ram.length rc) ram) (hs : Sl w (.slice sp scr.length sc') scr)
    (hm : mayB (-1) bs = true) (hwb : whB bs ram scr m.ch = true) :
    Calls Try.prog 28 #[.agg (imgC (.slice p bs.length c) (.slice rp ram.length rc) (.slice sp scr.length sc') m).toArray] w fun e w' => ∃ b, e = .returned (.tuple #[.pointer (some ⟨b, 0, none⟩), .int .i64 0]) ∧ HasR w' (fun k => w.heap.size ≤ k) b (padB bs) { m with ram := padN 16384 ram, scr := padN 3072 scr, cyc := 0, tones := [] } ∧ Below w.heap.size w w' := by
  obtain ⟨h1, h2, h3, h4⟩ := whB_parts bs ram scr m.ch hwb
  refine (rrest_loop p c bs hl rp sp rc sc' m w h ram scr hm h2 h3 h4 hr hs (allF_len bs)).mono ?_
  intro e w' hd
  rcases hd with ⟨h5, _⟩ | ⟨_, h6⟩
  · rw [h1] at h5; cases h5
  · exact h6
theorem cells8 {W : World} {N : Nat} {u rv sv : Value} {m : MS} {t : TypeId} (h : W.heap[N]? = some (.cells (imgC u rv sv m).toArray t (0, 0))) :
    W.cell? ⟨N, 0, none⟩ = some u ∧ W.cell? ⟨N, 1, none⟩ = some rv ∧ W.cell? ⟨N, 2, none⟩ = some sv ∧ W.cell? ⟨N, 3, none⟩ = some (.int .u8 m.ch) ∧ W.cell? ⟨N, 4, none⟩ = some (.int .u8 m.pad) ∧ W.cell? ⟨N, 5, none⟩ = some (.int .u16 m.pitch) ∧ W.cell? ⟨N, 6, none⟩ = some (.int .u8 m.vol) ∧ W.cell? ⟨N, 7, none⟩ = some (.int .u16 m.time) :=
  ⟨cell_of _ _ 0 _ t _ h rfl, cell_of _ _ 1 _ t _ h rfl, cell_of _ _ 2 _ t _ h rfl, cell_of _ _ 3 _ t _ h rfl, cell_of _ _ 4 _ t _ h rfl, cell_of _ _ 5 _ t _ h rfl, cell_of _ _ 6 _ t _ h rfl, cell_of _ _ 7 _ t _ h rfl⟩
/-- What back has handed out, as a slice each. -/
theorem BkO.forms {W : World} {B : Nat} {u rv sv : Value} {bs : List (Int × List UInt8)} {ram scr : List UInt8} {gs : List (Nat × Nat)} {N1 N2 : Nat} (h : BkO W B u rv sv bs ram scr gs N1 N2) (hd : ∀ t ∈ bs, t.2.length ≤ room) :
    ∃ p c rp rc sp sc', u = .slice p bs.length c ∧ rv = .slice rp ram.length rc ∧ sv = .slice sp scr.length sc' ∧ BnS W p bs ∧ Sl W rv ram ∧ Sl W sv scr := by
  obtain ⟨p, c, e, hb⟩ := h.banks.ex hd
  obtain ⟨rp, rc, e2⟩ := own_form h.ram
  obtain ⟨sp, sc', e3⟩ := own_form h.scr
  exact ⟨p, c, rp, rc, sp, sc', e, e2, e3, hb, h.ram.sl, h.scr.sl⟩
theorem ImO.forms {W : World} {B : Nat} {u rv sv : Value} {bs : List (Int × List UInt8)} {ram scr : List UInt8} {gs : List (Nat × Nat)} {N1 N2 : Nat} (h : ImO W B u rv sv bs ram scr gs N1 N2) (hd : ∀ t ∈ bs, t.2.length ≤ room) :
    ∃ p c rp rc sp sc', u = .slice p bs.length c ∧ rv = .slice rp ram.length rc ∧ sv = .slice sp scr.length sc' ∧ BnS W p bs ∧ Sl W rv ram ∧ Sl W sv scr := by
  obtain ⟨p, c, e, hb⟩ := h.banks.ex hd
  obtain ⟨rp, rc, e2⟩ := own_form h.ram
  obtain ⟨sp, sc', e3⟩ := own_form h.scr
  exact ⟨p, c, rp, rc, sp, sc', e, e2, e3, hb, h.ram.sl, h.scr.sl⟩
theorem imageC (p : Option Addr) (n c : Nat) (rp sp : Option Addr) (rn rc sn sc' : Nat) (m : MS) (w : World) :
    Calls Try.prog 27 #[.agg #[.slice p n c, .slice rp rn rc, .slice sp sn sc', .int .u8 m.ch, .int .u8 m.pad, .int .u16 m.pitch, .int .u8 m.vol, .int .u16 m.time]] w fun e w' => e = .returned (.agg #[.slice p n c, .slice rp rn rc, .slice sp sn sc', .int .u8 m.ch, .int .u8 m.pad, .int .u16 m.pitch, .int .u8 m.vol, .int .u16 m.time]) ∧ Below w.heap.size w w' :=
  image_any p n c rp sp rn rc sn sc' m w
theorem sameC (p p' : Option Addr) (c c' : Nat) (bs : List (Int × List UInt8)) (hl : bs.length ≤ room) (rp rp' sp sp' : Option Addr) (rc rc' sc sc' : Nat) (ram scr : List UInt8) (m : MS) (w : World) (h : BnS w p bs) (h' : BnS w p' bs)
    (r : Sl w (.slice rp ram.length rc) ram) (r' : Sl w (.slice rp' ram.length rc') ram) (s : Sl w (.slice sp scr.length sc) scr) (s' : Sl w (.slice sp' scr.length sc') scr) :
    Calls Try.prog 26 #[.agg #[.slice p bs.length c, .slice rp ram.length rc, .slice sp scr.length sc, .int .u8 m.ch, .int .u8 m.pad, .int .u16 m.pitch, .int .u8 m.vol, .int .u16 m.time], .agg #[.slice p' bs.length c', .slice rp' ram.length rc', .slice sp' scr.length sc', .int .u8 m.ch, .int .u8 m.pad, .int .u16 m.pitch, .int .u8 m.vol, .int .u16 m.time]] w fun e w' => e = .returned (.bool true) ∧ Below w.heap.size w w' :=
  sameImage_any p p' c c' bs hl _ _ _ _ ram scr m w h h' r r' s s'
end Go.Proofs.Ytcmaccefjlgbfaa
