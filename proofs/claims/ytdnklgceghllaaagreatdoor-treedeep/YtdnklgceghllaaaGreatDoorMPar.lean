import Derived.Test.YtdnklgceghllaaaGreatDoorDDrop
import Derived.Test.YtdnklgceghllaaaGreatDoorDRead
import Derived.Test.YtdnklgceghllaaaGreatDoorKScanW
namespace Go.Proofs.YtdnklgceghllaaaGreatDoor.M
open Go.RowKit
open Go.Proofs
open Go.Proofs.YtdnklgceghllaaaGreatDoor.K (Tk ans Sc scanw_any end_any eT hT pv)
open Go.Proofs.YtdnklgceghllaaaGreatDoor.Y (Nd Df Ps DV BV hid)
open Go.Proofs.YtdnklgceghllaaaGreatDoor.R (lk)
open Go.Proofs.YtdnklgceghllaaaGreatDoor.D (RdO New PM Er Tks tkc read read_any sizePG sizePO row_below)
set_option linter.unusedVariables false
set_option linter.unusedSimpArgs false
set_option maxHeartbeats 4000000
set_option maxRecDepth 100000
def pans (s : ByteArray) : Except Er (List Df × List (Int × List UInt8)) :=
 if (ans s).2.2 = 0 then read (lk PM) (T.place s.data.toList s.size) (ans s).1 else .error ((ans s).2.1, (ans s).2.2)
theorem numC_in16 (l : List UInt8) : 0 <= T.numC l /\ T.numC l <= 65535 := by
 unfold T.numC T.cellOf
 split
 ·omega
 ·split <;> omega
theorem ans_tks (s : ByteArray) : Tks (ans s).1 /\ (ans s).1.length <= 1000000 := by
 unfold ans
 split
 ·exact ⟨⟨fun x hx => (by simp at hx), fun x hx => (by simp at hx)⟩, by simp⟩
 ·rename_i h
  split
  ·have hl := (K.sc_in s.data.toList).1
   rw [T.size_list] at hl
   refine ⟨⟨fun x hx => ?_, fun x hx => ?_⟩, by rw [List.length_map]; omega⟩
   ·obtain ⟨q, _, rfl⟩ := List.mem_map.1 hx
    show (s.extract q.1 q.2).size <= _
    rw [ByteArray.size_extract]; unfold maxLen; omega
   ·obtain ⟨q, _, rfl⟩ := List.mem_map.1 hx
    exact numC_in16 _
  ·exact ⟨⟨fun x hx => (by simp at hx), fun x hx => (by simp at hx)⟩, by simp⟩
theorem res_parse {a : Act} {w : World} {b : Nat} {d0 d1 p0 p1 v : Value} (h2 : a.tmps.getD 2 undef = .pointer (some ⟨b, 0, none⟩)) (h3 : a.tmps.getD 3 undef = .pointer (some ⟨b + 1, 0, none⟩)) (h4 : a.tmps.getD 4 undef = v) (k1 : w.heap[b]? = some (.cells #[d0, d1] 26 (0, 0))) (k2 : w.heap[b + 1]? = some (.cells #[p0, p1] 28 (0, 0))) :
  (results Tryz.f10 a.tmps).run Tryz.prog w = .ok (.tuple #[.agg #[d0, d1], .agg #[p0, p1], v]) w := by
 have c0 := S.cell_of w b 0 [d0, d1] _ _ k1 rfl
 have c1 := S.cell_of w b 1 [d0, d1] _ _ k1 rfl
 have c2 := S.cell_of w (b + 1) 0 [p0, p1] _ _ k2 rfl
 have c3 := S.cell_of w (b + 1) 1 [p0, p1] _ _ k2 rfl
 rw [Array.getD_eq_getD_getElem?] at h2 h3 h4
 simp [results, Tryz.results10, go_sem, h2, h3, h4, c0, c1, c2, c3]
theorem parse_any (s : ByteArray) (hs : s.size <= 140737488355328) (W : World) :
  Calls Tryz.prog 10 #[.string s] W (RdO W (pans s)) := by
 obtain ⟨W1, hW1⟩ : ∃ W1, W.alloc (.cells #[.slice none 0 0, .slice none 0 0] 26) = W1 := ⟨_, rfl⟩
 obtain ⟨W2, hW2⟩ : ∃ W2, W1.alloc (.cells #[.int .i64 0, .int .i64 0] 28) = W2 := ⟨_, rfl⟩
 have s1 : W1.heap.size = W.heap.size + 1 := by rw [<- hW1]; simp
 have hb2 : Below W.heap.size W W2 := by rw [<- hW2, <- hW1]; exact ((Below.refl _ _).alloc (Nat.le_refl _) _).alloc (by simp) _
 have k0 : W2.heap[W.heap.size]? = some (.cells #[.slice none 0 0, .slice none 0 0] 26 (0, 0)) := by
  rw [<- hW2, Below.heap_alloc _ _ _ (by omega), <- hW1]; exact heap_alloc_new W _
 have k1 : W2.heap[W.heap.size + 1]? = some (.cells #[.int .i64 0, .int .i64 0] 28 (0, 0)) := by
  rw [<- hW2, <- s1]; exact heap_alloc_new W1 _
 have hS := scanw_any s hs W2
 have hE := fun w => end_any s hs w
 obtain ⟨htk, hln⟩ := ans_tks s
 obtain ⟨RES, hRES⟩ : ∃ R, pans s = R := ⟨_, rfl⟩
 rw [hRES]
 unfold pans at hRES
 obtain ⟨ts, hts⟩ : ∃ ts, (ans s).1 = ts := ⟨_, rfl⟩
 obtain ⟨p, hp⟩ : ∃ p, (ans s).2.1 = p := ⟨_, rfl⟩
 obtain ⟨er, her⟩ : ∃ er, (ans s).2.2 = er := ⟨_, rfl⟩
 rw [hts, hp, her] at hS
 rw [hts, hp, her] at hRES
 rw [hts] at htk hln
 generalize T.place s.data.toList s.size = ep at *
 have HR := hid (And.intro hRES (And.intro htk hln))
 have HB := hid (And.intro hb2 (And.intro k0 k1))
 have e2 : (W.alloc (.cells #[.slice none 0 0, .slice none 0 0] 26)).alloc (.cells #[.int .i64 0, .int .i64 0] 28) = W2 := by rw [hW1, hW2]
 clear hRES htk hln hb2 k0 k1 hts hp her hW1 hW2 s1
 go_enter Tryz.func10, Tryz.ntmps10
 go_wp2_with fail
 try rw [e2]
 refine hS.mono ?_
 rintro e w3 ⟨⟨v, rfl, hrow⟩, hb3⟩
 unfold K.pv K.pc
 obtain ⟨hb2, k0, k1⟩ := HB.out
 have l0 := (Array.getElem?_eq_some_iff.1 k1).1
 have m0 := (hb3.block _ (by omega)).trans k0
 have m1 := (hb3.block _ (by omega)).trans k1
 have hB3 := hb2.trans (hb3.mono (by omega))
 obtain ⟨W4, hW4⟩ : ∃ W4, w3.alloc (.cells #[.int .i64 p.1, .int .i64 p.2] 28) = W4 := ⟨_, rfl⟩
 have hb4 : Below w3.heap.size w3 W4 := by rw [<- hW4]; exact (Below.refl _ _).alloc (Nat.le_refl _) _
 have v4 : W4.heap[w3.heap.size]? = some (.cells [.int .i64 p.1, .int .i64 p.2].toArray 28 (0, 0)) := by rw [<- hW4]; exact heap_alloc_new w3 _
 have n0 := (hb4.block _ (by have := hB3.size; have := hb3.size; omega)).trans m0
 have n1 := (hb4.block _ (by have := hB3.size; have := hb3.size; omega)).trans m1
 have hB4 := hB3.trans (hb4.mono hB3.size)
 have hLs : S.Ls tkc 5 W4 v ts := (S.own_sl hT (S.own_kept hrow fun k _ hk => hb4.block k hk))
 have HN := hid (And.intro hB4 (And.intro n0 (And.intro n1 (And.intro v4 hLs))))
 have Hw3 := hid (show W.heap.size + 1 < w3.heap.size from by have := hb3.size; omega)
 have q0 := S.cell_of W4 _ 0 _ 28 _ v4 rfl
 have q1 := S.cell_of W4 _ 1 _ 28 _ v4 rfl
 obtain ⟨tp, tc, rfl, _, _⟩ := hLs.ex
 clear hS hrow hb3 hb2 k0 k1 l0 m0 m1 hB3 hb4 v4 n0 n1 hB4 hLs HB e2
 by_cases he : er = 0
 ·subst he
  go_wp2_with fail
  try rw [hW4]
  refine (hE W4).mono ?_
  rintro e w5 ⟨rfl, hb5⟩
  obtain ⟨hB4, n0, n1, v4, hLs⟩ := HN.out
  obtain ⟨hRES, htk, hln⟩ := HR.out
  simp only [if_true] at hRES
  have hLs5 := hLs.below hb5
  have hc := read_any ep ts _ w5 hLs5 htk hln
  rw [hRES] at hc
  have l0 := (Array.getElem?_eq_some_iff.1 n1).1
  have r0 := (hb5.block _ (by omega)).trans n0
  have r1 := (hb5.block _ (by omega)).trans n1
  have hB5 := hB4.trans (hb5.mono hB4.size)
  have HM := hid (And.intro hB5 (And.intro r0 r1))
  have HL5 := hid (show W.heap.size + 2 <= w5.heap.size from by have := (Array.getElem?_eq_some_iff.1 r1).1; omega)
  clear hB4 n0 n1 v4 hLs hRES htk hln hLs5 l0 r0 r1 hB5 hb5 HN HR q0 q1 hW4 hE
  unfold K.pv K.pc
  go_wp2_with fail
  refine hc.mono ?_
  rintro e w6 hO
  cases hres : RES with
  | ok x =>
   rw [hres] at hO
   obtain ⟨dv, xv, rfl, hD, hX, hb6⟩ := hO
   obtain ⟨hB5, r0, r1⟩ := HM.out
   have l0 := (Array.getElem?_eq_some_iff.1 r1).1
   have z0 := (hb6.block _ (by omega)).trans r0
   have z1 := (hb6.block _ (by omega)).trans r1
   have y1 : (w6.setRow W.heap.size #[dv, xv]).heap[W.heap.size + 1]? = some (.cells #[.int .i64 0, .int .i64 0] 28 (0, 0)) := (setRow_other w6 _ _ _ (by omega)).trans z1
   have HF := hid (And.intro hD (And.intro hX (And.intro (hB5.trans (hb6.mono hB5.size)) (And.intro z0 (And.intro y1 hB5.size)))))
   obtain ⟨p1, c1, e1, _⟩ := id hD
   obtain ⟨p2, c2, e2, _⟩ := id hX
   subst e1 e2
   clear hD hX hb6 hB5 r0 r1 l0 z1 hc HM
   go_wp2_with (first | (refine wpList_store_row rfl 26 _ _ rfl W.heap.size _ rfl rfl 26 _ z0 (by exact sizePG) (by rfl) (by simp [Value.oneCell']) ?_) | (refine wpList_store_row rfl 28 _ _ rfl (W.heap.size + 1) _ rfl rfl 28 _ y1 (by exact sizePO) (by rfl) (by simp [Value.oneCell']) ?_))
   obtain ⟨hD, hX, hB6, z0, y1, hsz⟩ := HF.out
   have u0 := setRow_heap w6 W.heap.size _ #[.slice p1 x.1.length c1, .slice p2 x.2.length c2] _ _ z0
   have u1 := setRow_heap (w6.setRow W.heap.size #[.slice p1 x.1.length c1, .slice p2 x.2.length c2]) (W.heap.size + 1) _ #[.int .i64 0, .int .i64 0] _ _ y1
   have t0 := (setRow_other (w6.setRow W.heap.size #[.slice p1 x.1.length c1, .slice p2 x.2.length c2]) (W.heap.size + 1) W.heap.size #[.int .i64 0, .int .i64 0] (by omega)).trans u0
   have hBf := row_below (row_below hB6 W.heap.size (Nat.le_refl _) #[.slice p1 x.1.length c1, .slice p2 x.2.length c2]) (W.heap.size + 1) (by omega) #[.int .i64 0, .int .i64 0]
   have hl5 := HL5.out
   have hkeep : ∀ j, New w5 w6 j -> ((w6.setRow W.heap.size #[.slice p1 x.1.length c1, .slice p2 x.2.length c2]).setRow (W.heap.size + 1) #[.int .i64 0, .int .i64 0]).heap[j]? = w6.heap[j]? := fun j hj => by
    have := hj.1
    rw [setRow_other _ _ _ _ (by omega), setRow_other _ _ _ _ (by omega)]
   refine bodyPost_ret (v := .tuple #[.agg #[.slice p1 x.1.length c1, .slice p2 x.2.length c2], .agg #[.int .i64 0, .int .i64 0], .int .i64 0]) (res_parse rfl rfl rfl t0 u1) rfl (by
    show RdO W RES _ _
    rw [hres]
    exact ⟨_, _, rfl, hD.kept hkeep (fun j hj => ⟨Nat.le_trans hsz hj.1, by rw [size_setRow, size_setRow]; exact hj.2⟩), hX.kept hkeep (fun j hj => ⟨Nat.le_trans hsz hj.1, by rw [size_setRow, size_setRow]; exact hj.2⟩), hBf⟩)
  | error x =>
   rw [hres] at hO
   obtain ⟨rfl, hb6⟩ := hO
   obtain ⟨hB5, r0, r1⟩ := HM.out
   have l0 := (Array.getElem?_eq_some_iff.1 r1).1
   have z0 := (hb6.block _ (by omega)).trans r0
   have z1 := (hb6.block _ (by omega)).trans r1
   have y1 : (w6.setRow W.heap.size #[.slice none 0 0, .slice none 0 0]).heap[W.heap.size + 1]? = some (.cells #[.int .i64 0, .int .i64 0] 28 (0, 0)) := (setRow_other w6 _ _ _ (by omega)).trans z1
   have HF := hid (And.intro (hB5.trans (hb6.mono hB5.size)) (And.intro z0 y1))
   clear hb6 hB5 r0 r1 l0 z1 hc HM
   go_wp2_with (first | (refine wpList_store_row rfl 26 _ _ rfl W.heap.size _ rfl rfl 26 _ z0 (by exact sizePG) (by rfl) (by simp [Value.oneCell']) ?_) | (refine wpList_store_row rfl 28 _ _ rfl (W.heap.size + 1) _ rfl rfl 28 _ y1 (by exact sizePO) (by rfl) (by simp [Value.oneCell']) ?_))
   obtain ⟨hB6, z0, y1⟩ := HF.out
   have u0 := setRow_heap w6 W.heap.size _ #[.slice none 0 0, .slice none 0 0] _ _ z0
   have u1 := setRow_heap (w6.setRow W.heap.size #[.slice none 0 0, .slice none 0 0]) (W.heap.size + 1) _ #[.int .i64 x.1.1, .int .i64 x.1.2] _ _ y1
   have t0 := (setRow_other (w6.setRow W.heap.size #[.slice none 0 0, .slice none 0 0]) (W.heap.size + 1) W.heap.size #[.int .i64 x.1.1, .int .i64 x.1.2] (by omega)).trans u0
   have hBf := row_below (row_below hB6 W.heap.size (Nat.le_refl _) #[.slice none 0 0, .slice none 0 0]) (W.heap.size + 1) (by omega) #[.int .i64 x.1.1, .int .i64 x.1.2]
   refine bodyPost_ret (v := .tuple #[.agg #[.slice none 0 0, .slice none 0 0], .agg #[.int .i64 x.1.1, .int .i64 x.1.2], .int .i64 x.2]) (res_parse rfl rfl rfl t0 u1) rfl (by
    show RdO W RES _ _
    rw [hres]
    exact ⟨rfl, hBf⟩)
 ·have hRES := HR.out.1
  rw [if_neg he] at hRES
  subst hRES
  have b1 : (er != 0) = true := by simpa using he
  go_upto_region 3 with fail
  try rw [hW4]
  obtain ⟨hB4, n0, n1, v4, _⟩ := HN.out
  have l3 := Hw3.out
  have vd : W4.drew.heap[w3.heap.size]? = some (.cells [.int .i64 p.1, .int .i64 p.2].toArray 28 (0, 0)) := v4
  have d0 : W4.drew.heap[W.heap.size]? = some (.cells #[.slice none 0 0, .slice none 0 0] 26 (0, 0)) := n0
  have d1 : W4.drew.heap[W.heap.size + 1]? = some (.cells #[.int .i64 0, .int .i64 0] 28 (0, 0)) := n1
  have hBd : Below W.heap.size W W4.drew := hB4.trans ⟨rfl, rfl, rfl, Nat.le_refl _, fun _ _ => rfl⟩
  refine wp_region_held_drew (S := fun wz : World => wz.heap[w3.heap.size]? = some (.cells [.int .i64 p.1, .int .i64 p.2].toArray 28 (0, 0))) (by kernel_rfl) vd (fun hHeld => ?_)
  clear hB4 n0 n1 v4 HN Hw3 q0 q1 hW4 hE HR
  generalize W4.drew = y0 at *
  refine D.xH 0 (v := ?_) rfl (by kernel_rfl) (fun c a w h => h) (by rfl) ?_ hHeld ?_
  rotate_left
  ·(intro w hSw; (try dsimp only at hSw); go_simp; try with_reducible rfl)
  simp only [D.pts]
  refine D.xH 1 (v := ?_) rfl (by kernel_rfl) (fun c a w h => h) (by rfl) ?_ hHeld ?_
  rotate_left
  ·(intro w hSw; (try dsimp only at hSw); have q0 := S.cell_of w _ 0 _ 28 _ hSw rfl; have q1 := S.cell_of w _ 1 _ 28 _ hSw rfl; go_simp; try with_reducible rfl)
  simp only [D.pts]
  refine D.xH 2 (v := ?_) rfl (by kernel_rfl) (fun c a w h => h) (by rfl) ?_ hHeld ?_
  rotate_left
  ·(intro w hSw; (try dsimp only at hSw); go_simp; try with_reducible rfl)
  simp only [D.pts]
  refine wpAnyH_ready (rs := [3]) (by kernel_rfl) (by simp) ?_
  refine AllReadyH.cons rfl (fun K hK => ?_) AllReadyH.nil
  rw [if_pos (by rfl)]
  refine wp_store_row 26 _ _ rfl W.heap.size _ rfl rfl 26 _ d0 (by exact sizePG) (by rfl) (by simp [Value.oneCell']) ?_
  refine hK.out _ _ ((setRow_other y0 W.heap.size w3.heap.size _ (by omega)).trans vd) (fun hHeld => ?_)
  clear hK K
  try simp only [D.pts]
  have e0 := setRow_heap y0 W.heap.size _ #[.slice none 0 0, .slice none 0 0] _ _ d0
  have e1 := (setRow_other y0 W.heap.size (W.heap.size + 1) #[.slice none 0 0, .slice none 0 0] (by omega)).trans d1
  have ev := (setRow_other y0 W.heap.size w3.heap.size #[.slice none 0 0, .slice none 0 0] (by omega)).trans vd
  have hBe := row_below hBd W.heap.size (Nat.le_refl _) #[.slice none 0 0, .slice none 0 0]
  clear d0 d1 vd hBd
  generalize y0.setRow W.heap.size #[.slice none 0 0, .slice none 0 0] = y1 at *
  refine wpAnyH_ready (rs := [4]) (by kernel_rfl) (by simp) ?_
  refine AllReadyH.cons rfl (fun K hK => ?_) AllReadyH.nil
  rw [if_pos (by rfl)]
  refine wp_store_row 28 _ _ rfl (W.heap.size + 1) _ rfl rfl 28 _ e1 (by exact sizePO) (by rfl) (by simp [Value.oneCell']) ?_
  refine hK.out _ _ ((setRow_other y1 (W.heap.size + 1) w3.heap.size _ (by omega)).trans ev) (fun hHeld => ?_)
  clear hK K
  try simp only [D.pts]
  have f0 := (setRow_other y1 (W.heap.size + 1) W.heap.size #[.int .i64 p.1, .int .i64 p.2] (by omega)).trans e0
  have f1 := setRow_heap y1 (W.heap.size + 1) _ #[.int .i64 p.1, .int .i64 p.2] _ _ e1
  have hBf := row_below hBe (W.heap.size + 1) (by omega) #[.int .i64 p.1, .int .i64 p.2]
  clear e0 e1 ev hBe
  generalize y1.setRow (W.heap.size + 1) #[.int .i64 p.1, .int .i64 p.2] = y2 at *
  refine D.xH 5 (v := ?_) rfl (by kernel_rfl) (fun c a w h => h) (by rfl) ?_ hHeld ?_
  rotate_left
  ·(intro w hSw; (try dsimp only at hSw); go_simp; try with_reducible rfl)
  simp only [D.pts]
  refine wpAnyH_done (by kernel_rfl) ?_ _
  have HZ := hid (And.intro f0 (And.intro f1 hBf))
  clear f0 f1 hBf hHeld
  go_wp2
  exact bodyPost_ret (v := .tuple #[.agg #[.slice none 0 0, .slice none 0 0], .agg #[.int .i64 p.1, .int .i64 p.2], .int .i64 er]) (res_parse rfl rfl rfl HZ.out.1 HZ.out.2.1) rfl ⟨rfl, HZ.out.2.2⟩
end Go.Proofs.YtdnklgceghllaaaGreatDoor.M
