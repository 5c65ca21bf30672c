import Derived.Test.YtcnhfgoflfnocaaSameP
/-! The law's same. -/
namespace Go.Proofs.Ytcnhfgoflfnocaa
open Go.RowKit
open Go.Proofs
set_option linter.unusedVariables false
set_option linter.unusedSimpArgs false
section
variable {B : Nat} {bp bd br be bq : Nat} {gv gr ev qv : Value} {vs ws : List Value} {D : List Int} {R : List (Int × Int)} {n : Nat}
/-- Two lists of the cells, in memory that is new since n0. -/
structure LM (n0 : Nat) (W : World) (lv mv : Value) (D : List Int) (R : List (Int × Int)) : Prop where
  u : RowU W n0 lv D
  k : RowK W n0 mv R
theorem LM.below {n0 : Nat} {W W' : World} {lv mv : Value} (h : LM n0 W lv mv D R) (k : Below W.heap.size W W') : LM n0 W' lv mv D R := ⟨own_kept h.u fun y _ hy => k.block y hy, own_kept h.k fun y _ hy => k.block y hy⟩
set_option maxHeartbeats 4000000
set_option maxRecDepth 100000
/-- Both lists are asked for, in whatever order. -/
theorem cells_two (w W : World) (h : PX 0 0 B w bp bd br be bq gv gr ev qv vs ws D R n) (hb : Below w.heap.size w W) :
    (Calls Try.prog 16 #[.pointer (some ⟨bd, 0, none⟩)] W fun e W' => ∃ p c, e = .returned (.slice p D.length c) ∧ RowU W' W.heap.size (.slice p D.length c) D ∧ Below W.heap.size W W' ∧ Below w.heap.size w W' ∧ (W'.cell? ⟨bp, 0, none⟩ = some (ptr bd) ∧ W'.cell? ⟨bp, 1, none⟩ = some (ptr br))) ∧
    (Calls Try.prog 19 #[.pointer (some ⟨br, 0, none⟩)] W fun e W' => ∃ p c, e = .returned (.slice p R.length c) ∧ RowK W' W.heap.size (.slice p R.length c) R ∧ Below W.heap.size W W' ∧ Below w.heap.size w W' ∧ (W'.cell? ⟨bp, 0, none⟩ = some (ptr bd) ∧ W'.cell? ⟨bp, 1, none⟩ = some (ptr br))) := by
  have hc : ∀ W', Below w.heap.size w W' → W'.cell? ⟨bp, 0, none⟩ = some (ptr bd) ∧ W'.cell? ⟨bp, 1, none⟩ = some (ptr br) := fun W' k => by
    have e := (k.block bp (lt_of h.blk)).trans h.blk
    exact ⟨cell_of W' bp 0 _ 70 _ e rfl, cell_of W' bp 1 _ 70 _ e rfl⟩
  constructor
  · refine (dcells bd D W (h.d.below hb)).mono ?_
    rintro e W' ⟨u, rfl, r, b⟩
    obtain ⟨p, c, rfl⟩ := ex_slice r
    have hB := hb.trans (b.mono hb.size)
    exact ⟨p, c, rfl, r, b, hB, hc _ hB⟩
  · refine (rcells br R W (h.r.below hb)).mono ?_
    rintro e W' ⟨u, rfl, r, b⟩
    obtain ⟨p, c, rfl⟩ := ex_slice r
    have hB := hb.trans (b.mono hb.size)
    exact ⟨p, c, rfl, r, b, hB, hc _ hB⟩
theorem same_any (w : World) (h : PX 0 0 B w bp bd br be bq gv gr ev qv vs ws D R n) (hn : n ≤ 1400) :
    Calls Try.prog 23 #[.pointer (some ⟨bp, 0, none⟩)] w fun e w' => e = .returned (.bool true) ∧ PS B w' bp D R (n + 2) ∧ Below B w w' := by
  have c0 := cell_of w bp 0 _ 70 _ h.blk rfl
  have c1 := cell_of w bp 1 _ 70 _ h.blk rfl
  have hB0 : Below w.heap.size w w.drew := (Below.refl _ _).drew
  have sA : w.drew.cell? ⟨bp, 0, none⟩ = some (ptr bd) ∧ w.drew.cell? ⟨bp, 1, none⟩ = some (ptr br) := ⟨c0, c1⟩
  have HT := hid (fun W hb => cells_two w W h hb)
  have HP := hid h
  have HDl := hid h.e.len
  have HRl := hid h.q.len
  clear h
  go_enter Try.func23, Try.ntmps23
  go_upto_region 1 with fail
  go_cut [3, 4] (fun s3 s4 wc => ∃ (p c : _) (p' c' : _), s3 = .slice p D.length c ∧ s4 = .slice p' R.length c' ∧ LM w.heap.size wc (.slice p D.length c) (.slice p' R.length c') D R ∧ Below w.heap.size w wc)
  case first =>
    as_aux_lemma =>
      go_region_held (fun W => W.cell? ⟨bp, 0, none⟩ = some (ptr bd) ∧ W.cell? ⟨bp, 1, none⟩ = some (ptr br))
        (first | (with_reducible exact sA) | (with_reducible exact sD) | (with_reducible exact sR))
        ((first
          | (go_at_call 16; (first | refine (HT.out w.drew hB0).1.mono ?_ | refine (HT.out wR hBR).1.mono ?_); rintro e wD ⟨pD, cD, rfl, rD, bD, hBD, sD⟩)
          | (go_at_call 19; (first | refine (HT.out w.drew hB0).2.mono ?_ | refine (HT.out wD hBD).2.mono ?_); rintro e wR ⟨pR, cR, rfl, rR, bR, hBR, sR⟩)))
      · go_wp2
        go_meet
        case rel =>
          first
            | exact ⟨pD, cD, pR, cR, rfl, rfl, ⟨own_kept (own_mono rD hB0.size) fun y _ hy => bR.block y hy, own_mono rR hBD.size⟩, hBR⟩
            | exact ⟨pD, cD, pR, cR, rfl, rfl, ⟨own_mono rD hBR.size, own_kept (own_mono rR hB0.size) fun y _ hy => bD.block y hy⟩, hBD⟩
  case rest =>
    obtain ⟨w1, hw1⟩ : ∃ w1, w1 = wc := ⟨_, rfl⟩
    subst hw1
    obtain ⟨p1, c1', p2, c2', rfl, rfl, hL1, hb1⟩ := hcut
    have HL1 := hid hL1
    have HB1 := hid hb1
    have k0 := (hb1.block bp (lt_of HP.out.blk)).trans HP.out.blk
    have d0 := cell_of w1 bp 0 _ 70 _ k0 rfl
    have d1 := cell_of w1 bp 1 _ 70 _ k0 rfl
    have sA1 : w1.drew.cell? ⟨bp, 0, none⟩ = some (ptr bd) ∧ w1.drew.cell? ⟨bp, 1, none⟩ = some (ptr br) := ⟨d0, d1⟩
    have hB01 : Below w1.heap.size w1 w1.drew := (Below.refl _ _).drew
    have HT1 := hid (fun W hb => cells_two w1 W (HP.out.below hb1) hb)
    clear hL1 hb1 k0 sA hB0 HT c0 c1
    go_upto_region 2 with fail
    go_cut [5, 6] (fun s5 s6 wc => ∃ (p c : _) (p' c' : _), s5 = .slice p D.length c ∧ s6 = .slice p' R.length c' ∧ LM w1.heap.size wc (.slice p D.length c) (.slice p' R.length c') D R ∧ Below w1.heap.size w1 wc)
    case first =>
      as_aux_lemma =>
        go_region_held (fun W => W.cell? ⟨bp, 0, none⟩ = some (ptr bd) ∧ W.cell? ⟨bp, 1, none⟩ = some (ptr br))
          (first | (with_reducible exact sA1) | (with_reducible exact sD) | (with_reducible exact sR))
          ((first
            | (go_at_call 16; (first | refine (HT1.out w1.drew hB01).1.mono ?_ | refine (HT1.out wR hBR).1.mono ?_); rintro e wD ⟨pD, cD, rfl, rD, bD, hBD, sD⟩)
            | (go_at_call 19; (first | refine (HT1.out w1.drew hB01).2.mono ?_ | refine (HT1.out wD hBD).2.mono ?_); rintro e wR ⟨pR, cR, rfl, rR, bR, hBR, sR⟩)))
        · go_wp2
          go_meet
          case rel =>
            first
              | exact ⟨pD, cD, pR, cR, rfl, rfl, ⟨own_kept (own_mono rD hB01.size) fun y _ hy => bR.block y hy, own_mono rR hBD.size⟩, hBR⟩
              | exact ⟨pD, cD, pR, cR, rfl, rfl, ⟨own_mono rD hBR.size, own_kept (own_mono rR hB01.size) fun y _ hy => bD.block y hy⟩, hBD⟩
    case rest =>
      obtain ⟨w2, hw2⟩ : ∃ w2, w2 = wc := ⟨_, rfl⟩
      subst hw2
      obtain ⟨p3, c3', p4, c4', rfl, rfl, hL2, hb2⟩ := hcut
      have hB2 : Below w.heap.size w w2 := HB1.out.trans (hb2.mono HB1.out.size)
      have P2 := (HP.out.enter w2.heap.size).below hB2
      have hL1 := HL1.out.below hb2
      have hs01 := HB1.out.size
      have hs12 := hb2.size
      have HS := hid (show w.heap.size ≤ w1.heap.size ∧ w1.heap.size ≤ w2.heap.size from ⟨hs01, hs12⟩)
      have hU1l : ∀ g, (Value.slice p1 D.length c1').ownBlock = some g → g < w1.heap.size := fun g e => (HL1.out.u.lt g e).2
      have hK1l : ∀ g, (Value.slice p2 R.length c2').ownBlock = some g → g < w1.heap.size := fun g e => (HL1.out.k.lt g e).2
      have HU1l := hid hU1l
      have HK1l := hid hK1l
      obtain ⟨pe, ce, hev⟩ := ex_slice P2.e.row
      obtain ⟨pq, cq, hqv⟩ := ex_slice P2.q.row
      subst hev hqv
      have sl : ∀ {α : Type} {e : α → List Value} {s : Nat} {W : World} {p : Option Addr} {c : Nat} {l : List α}, Ls e s W (.slice p l.length c) l → Sl e s W p l := by
        intro α e s W p c l h
        rcases h with ⟨e1, e2⟩ | ⟨x, c, e1, _, hs⟩
        · rw [e2]; intro i a hi; simp at hi
        · simp only [Value.slice.injEq] at e1; rw [e1.1]; exact hs
      have hDr : D.length ≤ room := by have := HDl.out; unfold room; omega
      have hRr : R.length ≤ room := by have := HRl.out; unfold room; omega
      have q1 := fun q => sameU p1 pe c1' ce D hDr (w2.drewN q) (sl hL1.u.ls) (sl P2.e.row.ls)
      have q2 := fun q => sameK p2 pq c2' cq R hRr (w2.drewN q) (sl hL1.k.ls) (sl P2.q.row.ls)
      have q3 := fun q => sameU p3 pe c3' ce D hDr (w2.drewN q) (sl hL2.u.ls) (sl P2.e.row.ls)
      have q4 := fun q => sameK p4 pq c4' cq R hRr (w2.drewN q) (sl hL2.k.ls) (sl P2.q.row.ls)
      have x2 : ∀ q, (w2.drewN q).cell? ⟨bp, 2, none⟩ = some (.pointer (some ⟨be, 0, none⟩)) := fun q => cell_of w2 bp 2 _ 70 _ P2.blk rfl
      have x3 : ∀ q, (w2.drewN q).cell? ⟨bp, 3, none⟩ = some (.pointer (some ⟨bq, 0, none⟩)) := fun q => cell_of w2 bp 3 _ 70 _ P2.blk rfl
      have xe : ∀ q, (w2.drewN q).cell? ⟨be, 0, none⟩ = some (.slice pe D.length ce) := fun q => cell_of w2 be 0 _ 63 _ P2.e.blk rfl
      have xq : ∀ q, (w2.drewN q).cell? ⟨bq, 0, none⟩ = some (.slice pq R.length cq) := fun q => cell_of w2 bq 0 _ 66 _ P2.q.blk rfl
      have y2 : w2.cell? ⟨bp, 2, none⟩ = some (.pointer (some ⟨be, 0, none⟩)) := x2 0
      have ye : w2.cell? ⟨be, 0, none⟩ = some (.slice pe D.length ce) := xe 0
      have q1' := q1 0
      have z0 : w2.drewN 0 = w2 := rfl
      rw [z0] at q1'
      have HQ2 := hid q2
      have HQ3 := hid q3
      have HQ4 := hid q4
      have HX3 := hid x3
      have HX2 := hid x2
      have HXe := hid xe
      have HXq := hid xq
      have HP2 := hid P2
      have HL1' := hid hL1
      have HL2 := hid hL2
      have HB2 := hid hB2
      clear P2 hL1 hL2 hB2 hb2 hU1l hK1l hs01 hs12 sl q1 q2 q3 q4 x2 x3 xe xq z0 HT1 sA1 d0 d1 hB01 HL1 HB1 HP
      as_aux_lemma =>
        go_wp2_with fail
        refine q1'.mono ?_
        rintro e wa ⟨rfl, qa, rfl⟩
        have x3 := HX3.out
        have xq := HXq.out
        clear q1' y2 ye
        go_wp2_with fail
        refine (HQ2.out _).mono ?_
        rintro e wa ⟨rfl, qb, rfl⟩
        have x2 := HX2.out
        have xe := HXe.out
        go_wp2_with fail
        refine (HQ3.out _).mono ?_
        rintro e wa ⟨rfl, qc, rfl⟩
        go_wp2_with fail
        refine (HQ4.out _).mono ?_
        rintro e w3 ⟨rfl, qd, hq⟩
        have hh : w3.heap = w2.heap := by rw [hq]; rfl
        have ho : w3.os = w2.os ∧ w3.tape = w2.tape ∧ w3.output = w2.output := by rw [hq]; exact ⟨rfl, rfl, rfl⟩
        have b23 : Below w2.heap.size w2 w3 := ⟨ho.1, ho.2.1, ho.2.2, by rw [hh]; exact Nat.le_refl _, fun k _ => by rw [hh]⟩
        have hs3 : w3.heap.size = w2.heap.size := by rw [hh]
        have P3 := HP2.out.below b23
        have L1 := HL1'.out.below b23
        have L2 := HL2.out.below b23
        have hBw3 : B ≤ w.heap.size := Nat.le_trans P3.hbp (by rcases P3.abp with c | c; omega; have := lt_of P3.blk; omega)
        have hbp : bp < w.heap.size := by rcases P3.abp with c | c; exact c; have := lt_of P3.blk; omega
        have hgv : ∀ g, gv.ownBlock = some g → g < w.heap.size := fun g e => by rcases P3.g.ag g e with c | c; exact c; have := (P3.g.gs.lt g e).2; omega
        have hgr : ∀ g, gr.ownBlock = some g → g < w.heap.size := fun g e => by rcases P3.g.ar g e with c | c; exact c; have := (P3.g.rs.lt g e).2; omega
        have hB3 : Below B w w3 := (HB2.out.trans (b23.mono HB2.out.size)).mono hBw3
        have tk := take_any (lo := w.heap.size) (hi := w1.heap.size) (lo2 := w1.heap.size) (hi2 := w2.heap.size) _ _ D R w3 (P3.inner (by omega) _ _ (Nat.le_refl _)) (P3.inner (by omega) _ _ HS.out.1) (own_mono L1.u hBw3) (own_mono L1.k hBw3) (by have := HDl.out; omega) (by have := HRl.out; omega)
          (fun g e => ⟨(L1.u.lt g e).1, HU1l.out g e⟩) (fun g e => ⟨(L1.k.lt g e).1, HK1l.out g e⟩) (fun g e => .inl (HU1l.out g e)) (fun g e => .inl (HK1l.out g e)) (by omega) (by omega)
        have hL2 : ∀ w4, Tc (fun k => k = bp ∨ gv.ownBlock = some k ∨ gr.ownBlock = some k ∨ (Value.slice p1 D.length c1').ownBlock = some k ∨ (Value.slice p2 R.length c2').ownBlock = some k) w3 w4 → LM w1.heap.size w4 (.slice p3 D.length c3') (.slice p4 R.length c4') D R := by
          intro w4 t
          have hne : ∀ k, w1.heap.size ≤ k → ¬ (k = bp ∨ gv.ownBlock = some k ∨ gr.ownBlock = some k ∨ (Value.slice p1 D.length c1').ownBlock = some k ∨ (Value.slice p2 R.length c2').ownBlock = some k) := by
            have hs := HS.out
            rintro k hk (c | c | c | c | c)
            · omega
            · have := hgv k c; omega
            · have := hgr k c; omega
            · have := HU1l.out k c; omega
            · have := HK1l.out k c; omega
          exact ⟨own_kept L2.u fun y e hy => t.block y hy (hne y (L2.u.lt y e).1), own_kept L2.k fun y e hy => t.block y hy (hne y (L2.k.lt y e).1)⟩
        have hl2 : (∀ g, (Value.slice p3 D.length c3').ownBlock = some g → g < w2.heap.size) ∧ ∀ g, (Value.slice p4 R.length c4').ownBlock = some g → g < w2.heap.size := ⟨fun g e => (HL2.out.u.lt g e).2, fun g e => (HL2.out.k.lt g e).2⟩
        have TKK := hid tk
        have HL2' := hid hL2
        have Hl2 := hid hl2
        have HBw := hid hBw3
        have HB3 := hid hB3
        have HS3 := hid hs3
        clear hq hh ho b23 hs3 P3 L1 L2 hbp hgv hgr hB3 tk hL2 hl2 hBw3 x2 x3 xe xq HQ2 HQ3 HQ4 HX3 HX2 HXe HXq HP2 HL1' HL2 HB2
        go_wp2_with fail
        refine TKK.out.mono ?_
        rintro e w4 ⟨rfl, ⟨gv4, gr4, vs4, ws4, P4⟩, t4, b4⟩
        have L4 := HL2'.out w4 t4
        have hs4 : w2.heap.size ≤ w4.heap.size := by have := t4.size; have := HS3.out; omega
        have hBw1 : B ≤ w1.heap.size := Nat.le_trans HBw.out HS.out.1
        have tk2 := take_any (lo := w1.heap.size) (hi := w2.heap.size) (lo2 := 0) (hi2 := 0) _ _ D R w4 P4 P4.free (own_mono L4.u hBw1) (own_mono L4.k hBw1) (by have := HDl.out; omega) (by have := HRl.out; omega)
          (fun g e => ⟨(L4.u.lt g e).1, Hl2.out.1 g e⟩) (fun g e => ⟨(L4.k.lt g e).1, Hl2.out.2 g e⟩) (fun g e => .inr (Nat.zero_le _)) (fun g e => .inr (Nat.zero_le _)) (Nat.zero_le _) (by omega)
        have TK2 := hid tk2
        have HB4 := hid (HB3.out.trans b4)
        clear TKK HL2' P4 t4 b4 L4 tk2 hs4 hBw1 HB3
        go_wp2_with fail
        refine TK2.out.mono ?_
        rintro e w5 ⟨rfl, ⟨gv5, gr5, vs5, ws5, P5⟩, t5, b5⟩
        have HB5 := hid (HB4.out.trans b5)
        have HP5 := hid P5
        have x0 : ∀ q, (w5.drewN q).cell? ⟨bp, 0, none⟩ = some (.pointer (some ⟨bd, 0, none⟩)) := fun q => cell_of w5 bp 0 _ 70 _ P5.blk rfl
        have x1 : ∀ q, (w5.drewN q).cell? ⟨bp, 1, none⟩ = some (.pointer (some ⟨br, 0, none⟩)) := fun q => cell_of w5 bp 1 _ 70 _ P5.blk rfl
        have x2 : ∀ q, (w5.drewN q).cell? ⟨bp, 2, none⟩ = some (.pointer (some ⟨be, 0, none⟩)) := fun q => cell_of w5 bp 2 _ 70 _ P5.blk rfl
        have x3 : ∀ q, (w5.drewN q).cell? ⟨bp, 3, none⟩ = some (.pointer (some ⟨bq, 0, none⟩)) := fun q => cell_of w5 bp 3 _ 70 _ P5.blk rfl
        have xe : ∀ q, (w5.drewN q).cell? ⟨be, 0, none⟩ = some (.slice pe D.length ce) := fun q => cell_of w5 be 0 _ 63 _ P5.e.blk rfl
        have xq : ∀ q, (w5.drewN q).cell? ⟨bq, 0, none⟩ = some (.slice pq R.length cq) := fun q => cell_of w5 bq 0 _ 66 _ P5.q.blk rfl
        have l1 := fun q => dlen bd D (w5.drewN q) P5.d
        have l2 := fun q => rlen br R (w5.drewN q) P5.r
        clear P5 t5 b5 TK2 HB4
        go_wp2_with fail
        go_quiet ((first | (go_at_call 10; exact Calls.quiet_of_same (l1 _)) | (go_at_call 18; exact Calls.quiet_of_same (l2 _))))
        go_wp2
        go_ret
        exact ⟨rfl, ⟨_, _, _, _, _, _, _, _, _, _, HP5.out.drewN _⟩, ⟨HB5.out.os, HB5.out.tape, HB5.out.output, HB5.out.size, HB5.out.block⟩⟩
end
end Go.Proofs.Ytcnhfgoflfnocaa
