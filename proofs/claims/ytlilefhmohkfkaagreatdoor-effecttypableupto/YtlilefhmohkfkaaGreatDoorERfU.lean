import Derived.Test.YtlilefhmohkfkaaGreatDoorERfS
import Derived.Test.YtlilefhmohkfkaaGreatDoorECatch
import Derived.Test.YtlilefhmohkfkaaGreatDoorVDef
namespace Go.Proofs.YtlilefhmohkfkaaGreatDoor.E
open Go.RowKit
open Go.Proofs
open Go.Proofs.YtlilefhmohkfkaaGreatDoor.Y (Nd Df Ps ndc dfc hid NV DV D1 cells6 BV)
open R (En cks MP dsE dfE chk Bk lk numb lk_numb twice_no)
set_option linter.unusedVariables false
set_option linter.unusedSimpArgs false
set_option maxHeartbeats 2000000
set_option maxRecDepth 100000
theorem tys_app : ∀ (r : List Df) (l : List Ty) (d : Df), tys l (r ++ [d]) = tys l r ++ [tyOf (find (tys l r)) d]
 | [], l, d => rfl
 | e :: r, l, d => by rw [List.cons_append, tys, tys, tys_app r]
theorem ty_nm (kn : ByteArray -> Option Ty) (d : Df) : (tyOf kn d).nm = d.nm := by
 unfold tyOf
 split <;> rfl
theorem tys_nm : ∀ (r : List Df) (l : List Ty), (tys l r).map (·.nm) = l.map (·.nm) ++ r.map (·.nm)
 | [], l => by rw [tys]; simp
 | d :: r, l => by rw [tys, tys_nm r]; simp [ty_nm]
theorem tys_len (r : List Df) (l : List Ty) : (tys l r).length = l.length + r.length := by
 have := congrArg List.length (tys_nm r l)
 simpa using this
theorem find_mem {l : List Ty} {s : ByteArray} {t : Ty} (h : find l s = some t) : t ∈ l := List.mem_of_find?_eq_some h
theorem tys_ti : ∀ (r : List Df) (l : List Ty), (∀ t ∈ l, TI t) -> ∀ t ∈ tys l r, TI t
 | [], l, h => h
 | d :: r, l, h => by
  rw [tys]
  refine tys_ti r _ fun t ht => ?_
  rcases List.mem_append.1 ht with ht | ht
  ·exact h t ht
  ·rw [List.mem_singleton] at ht
   subst ht
   exact word_ti _ (fun s t e => h t (find_mem e)) d
theorem lk_get (x : ByteArray) : ∀ (ns : List ByteArray) (i n : Nat), ns.Nodup -> ns[n]? = some x -> lk (numb ns i) x = some ((i + n : Nat) : Int)
 | [], i, n, _, h => by simp at h
 | s :: r, i, 0, _, h => by
  simp only [List.getElem?_cons_zero, Option.some.injEq] at h
  subst h
  rw [numb, lk, if_pos rfl]; simp
 | s :: r, i, n + 1, hn, h => by
  simp only [List.getElem?_cons_succ] at h
  rw [numb, lk, if_neg (fun e : s = x => (List.nodup_cons.1 hn).1 (by rw [e]; exact List.mem_of_getElem? h)), lk_get x r (i + 1) n (List.nodup_cons.1 hn).2 h]
  congr 2
  omega
theorem find_get : ∀ (l : List Ty) (n : Nat) (t : Ty), (l.map (·.nm)).Nodup -> l[n]? = some t -> find l t.nm = some t
 | [], n, t, _, h => by simp at h
 | a :: r, 0, t, _, h => by
  simp only [List.getElem?_cons_zero, Option.some.injEq] at h
  subst h
  unfold find
  simp
 | a :: r, n + 1, t, hn, h => by
  simp only [List.getElem?_cons_succ] at h
  rw [List.map_cons, List.nodup_cons] at hn
  have ih := find_get r n t hn.2 h
  have hne : ¬ a.nm = t.nm := fun e => hn.1 (List.mem_map.2 ⟨t, List.mem_of_getElem? h, e.symm⟩)
  unfold find at ih ⊢
  rw [List.find?_cons_of_neg (by simpa using hne)]
  exact ih
theorem find_no (l : List Ty) (s : ByteArray) (h : s ∉ l.map (·.nm)) : find l s = none := by
 unfold find
 rw [List.find?_eq_none]
 intro t ht c
 exact h (List.mem_map.2 ⟨t, ht, by simpa using c⟩)
theorem known_find (names : List ByteArray) (hn : names.Nodup) (l : List Ty) (hl : l.map (·.nm) = names.take l.length) : known (numb names 0) l = find l := by
 have hnl : (l.map (·.nm)).Nodup := by rw [hl]; exact hn.sublist (List.take_sublist _ _)
 funext s
 unfold known
 by_cases hm : s ∈ names
 ·obtain ⟨n, hs⟩ := List.getElem?_of_mem hm
  rw [lk_get s names 0 n hn hs]
  simp only [Nat.zero_add]
  show l[((n : Nat) : Int).toNat]? = find l s
  rw [Int.toNat_natCast]
  cases ht : l[n]? with
  | some t =>
   have hlt := (List.getElem?_eq_some_iff.1 ht).1
   have e : t.nm = s := by
    have h1 : (l.map (·.nm))[n]? = some t.nm := by rw [List.getElem?_map, ht]; rfl
    rw [hl, List.getElem?_take, if_pos hlt, hs] at h1
    exact (Option.some.inj h1).symm
   rw [<- e, find_get l n t hnl ht]
  | none =>
   rw [find_no]
   intro hc
   rw [hl] at hc
   obtain ⟨m, hmm⟩ := List.getElem?_of_mem hc
   rw [List.getElem?_take] at hmm
   split at hmm
   ·rename_i hlt
    obtain ⟨l1, e1⟩ := List.getElem?_eq_some_iff.1 hmm
    obtain ⟨l2, e2⟩ := List.getElem?_eq_some_iff.1 hs
    have := (List.getElem_inj hn).1 (e1.trans e2.symm)
    have := List.getElem?_eq_none_iff.1 ht
    omega
   ·cases hmm
 ·have : lk (numb names 0) s = none := lk_no s names hm
  rw [this]
  simp only
  rw [find_no]
  intro hc
  rw [hl] at hc
  exact hm (List.mem_of_mem_take hc)
theorem tysP_tys (names : List ByteArray) (hn : names.Nodup) : ∀ (r : List Df) (l : List Ty), l.map (·.nm) ++ r.map (·.nm) = names -> tysP (numb names 0) l r = tys l r
 | [], l, h => rfl
 | d :: r, l, h => by
  have hl : l.map (·.nm) = names.take l.length := by rw [<- h, List.take_left' (by simp)]
  rw [tysP, tys, known_find names hn l hl]
  exact tysP_tys names hn r _ (by rw [<- h]; simp [ty_nm])
theorem words_nodup (ds : List Df) (h : dsE [] ds = 0) : ((wordsOf ds).map (·.nm)).Nodup := by
 have := nodup_of ds [] (by simp) h
 rw [List.nil_append] at this
 exact this.sublist ((List.filter_sublist).map _)
theorem shs_is (ds : List Df) (h : dsE [] ds = 0) : shs ds = tys [] (wordsOf ds) := tysP_tys _ (words_nodup ds h) _ [] (by simp)
theorem words_take (ds : List Df) (k : Nat) (d : Df) (h : ds[k]? = some d) : wordsOf (ds.take (k + 1)) = wordsOf (ds.take k) ++ if d.k = 1 then [d] else [] := by
 unfold wordsOf
 rw [List.take_add_one, h, List.filter_append]
 congr 1
 by_cases e : d.k = 1
 ·rw [if_pos e]; simp [e]
 ·rw [if_neg e]; simp [e]
theorem infoRT : (Tryz.prog.info? 81).map (fun i => (i.zero, i.size, i.bytes)) = some (some (.agg #[.string ⟨#[]⟩, .int .i64 0, .int .i64 0, .int .i64 0, .int .i64 0, .bool false, .int .i64 0, .int .i64 0, .int .i64 0]), 9, 80) := by kernel_rfl
def RSO (W : World) (ds : List Df) (bs : List Bk) (e : Ending) (w' : World) : Prop :=
 Below W.heap.size W w' /\ (if chk ds bs = 0 then ∃ p c, e = .returned (.tuple #[.slice p (wordsOf ds).length c, .int .i64 0]) /\ w'.ownsRow W.heap.size 81 9 (.slice p (wordsOf ds).length c) (wordsOf ds).length (S.en tyc (tys [] (wordsOf ds))) else e = .returned (.tuple #[.slice none 0 0, .int .i64 (chk ds bs)]))
theorem shapes_r (ds : List Df) (bs : List Bk) (hd : ds.length <= 1048576) (hnm : ∀ d ∈ ds, d.nm.size <= maxLen) (hlb : bs.length <= 140737488355328) (dv bv : Value) (O : Nat -> Prop) (W : World) (hO : ∀ j, O j -> j < W.heap.size) (hD : DV W O dv ds) (hK : BV W O bv bs) (hG : V.GW W) :
  Calls Tryz.prog 20 #[.agg #[dv, bv]] W (RSO W ds bs) := by
 obtain ⟨p1, c1, e1, hl1, hp⟩ := id hD
 obtain ⟨p2, c2, e2, _⟩ := id hK
 subst e1 e2
 obtain ⟨W0, hW0⟩ : ∃ W0, W.alloc (.cells #[.slice p1 ds.length c1, .slice p2 bs.length c2] 35) = W0 := ⟨_, rfl⟩
 have hB : Below W.heap.size W W0 := by rw [<- hW0]; exact (Below.refl _ _).alloc (Nat.le_refl _) _
 have v0 : W0.heap[W.heap.size]? = some (.cells [.slice p1 ds.length c1, .slice p2 bs.length c2].toArray 35 (0, 0)) := by rw [<- hW0]; exact heap_alloc_new W _
 have c0 := S.cell_of W0 _ 0 _ 35 _ v0 rfl
 have c1 := S.cell_of W0 _ 1 _ 35 _ v0 rfl
 have hs0 : W0.heap.size = W.heap.size + 1 := by rw [<- hW0]; simp
 have hc1 := V.check_any ds bs hd hnm hlb _ _ O W0 (fun j hj => Nat.lt_of_lt_of_le (hO j hj) hB.size) (hD.below hB hO) (hK.below hB hO) (hG.below hB)
 have HH := hid (And.intro hB (And.intro v0 (And.intro hp (And.intro hs0 hO))))
 clear hB v0 hD hK hO hG hs0 hp
 go_enter Tryz.func20, Tryz.ntmps20
 go_wp2_with fail
 refine hc1.mono ?_
 rintro e w1 ⟨rfl, hb1⟩
 have hB1 : Below W.heap.size W w1 := HH.out.1.trans (hb1.mono HH.out.1.size)
 have v1 := (hb1.block _ (S.lt_of HH.out.2.1)).trans HH.out.2.1
 clear hc1 hW0 c0 c1
 have HV1 := hid (And.intro hB1 v1)
 by_cases hz : chk ds bs = 0
 ·have HZ := hid hz
  rw [hz]
  clear hz hB1 v1 hb1
  go_wp2
  go_loopw [5, 6] (fun ls ix wr => ∃ (k : Nat), k <= ds.length /\ ix = .int .i64 (k : Int) /\ Below W.heap.size W wr /\ wr.heap[W.heap.size]? = some (.cells [.slice p1 ds.length c1, .slice p2 bs.length c2].toArray 35 (0, 0)) /\ wr.ownsRow (W.heap.size + 1) 81 9 ls (wordsOf (ds.take k)).length (S.en tyc (tys [] (wordsOf (ds.take k))))) (fun _ ix _ => ds.length - (intOf ix).toNat)
  case atStart => exact ⟨0, by omega, rfl, HV1.out.1, HV1.out.2, World.ownsRow_nil _ _ _ _⟩
  case round =>
   obtain ⟨k, hk, rfl, hb, hv, hR⟩ := hrel
   obtain ⟨q, cq, rfl⟩ := q_sl hR
   have y0 := S.cell_of wr _ 0 _ 35 _ hv rfl
   by_cases hlt : k < ds.length
   ·have i1 : (k : Int) < ds.length := by omega
    have ea := List.getElem?_eq_getElem hlt
    generalize ds[k] = d at *
    obtain ⟨b, o, hp1, hOb, bv, hcl, hNv⟩ := HH.out.2.2.1 k d ea
    subst hp1
    obtain ⟨qb, cb, hbv, _, _⟩ := id hNv.ex
    subst hbv
    have kb := hb.block b (HH.out.2.2.2.2 b hOb)
    obtain ⟨g0, g1, g2, g3, g4, g5⟩ := cells6 fun j x hx => (World.cell?_of_block (w := W) (a := ⟨b, o + k * 6 + j, none⟩) kb).trans (hcl j x hx)
    have HW := hid (words_take ds k d ea)
    by_cases hk1 : d.k = 1
    ·have hlen : (tys [] (wordsOf (ds.take k))).length = (wordsOf (ds.take k)).length := by rw [tys_len]; simp
     have hlw : (wordsOf (ds.take k)).length <= 1048576 := Nat.le_trans (List.length_filter_le _ _) (by rw [List.length_take]; omega)
     have hdf := dsE_at ds [] (chk_ds HZ.out) k d ea
     have hti := tys_ti (wordsOf (ds.take k)) [] (by simp)
     have HT : Y.Hd (tys [] (wordsOf (ds.take k) ++ [d]) = tys [] (wordsOf (ds.take k)) ++ [tyOf (find (tys [] (wordsOf (ds.take k)))) d]) := ⟨tys_app _ _ _⟩
     rw [if_pos hk1] at HW
     generalize wordsOf (ds.take k) = ws at *
     generalize tys [] ws = tl at *
     have hck := dfE_body _ d hdf
     have hcall := of_r tl (by omega) _ d hck (.slice qb d.body.length cb) O (.slice q ws.length cq) wr (fun j hj => Nat.lt_of_lt_of_le (HH.out.2.2.2.2 j hj) hb.size) (hNv.below hb HH.out.2.2.2.2) (fun g hg => (QV.of_own (e := tyc) (s := 9) (g := W.heap.size) (fun _ => rfl) hR hlen.symm (Nat.lt_succ_self _)).elim (fun h => .inl h) fun h => by
      obtain ⟨b', c', e1, e2, e3, ⟨cur, e4⟩, e5⟩ := h
      exact .inr ⟨b', c', e1, e2, by have := S.lt_of e4; omega, ⟨cur, e4⟩, e5⟩)
     rw [rty_is _ (fun s t e => hti t (find_mem e)) d (cks_all _ _ _ hck)] at hcall
     generalize tyOf (find tl) d = t at *
     unfold dfc at hcall
     rw [hk1] at hcall g0
     have HE := hid (And.intro hb (And.intro hv hR))
     clear hb hv hR hti hdf hck hcl hNv ea kb hk1
     go_wp2_with fail
     refine hcall.mono ?_
     rintro e w3 ⟨rfl, hb3⟩
     clear hcall g0 g1 g2 g3 g4 g5 y0
     obtain ⟨y4, hy4⟩ : ∃ y4, w3.alloc (.cells #[.string t.nm, .int .i64 t.i, .int .i64 t.o, .int .i64 t.d, .int .i64 t.r, .bool t.nv, .int .i64 t.e, .int .i64 t.p.1, .int .i64 t.p.2] 81) = y4 := ⟨_, rfl⟩
     have k4 : Below w3.heap.size w3 y4 := by rw [<- hy4]; exact (Below.refl _ _).alloc (Nat.le_refl _) _
     have v4 : y4.heap[w3.heap.size]? = some (.cells (tyc t).toArray 81 (0, 0)) := by rw [<- hy4]; exact heap_alloc_new w3 _
     have hB4 : Below wr.heap.size wr y4 := hb3.trans (k4.mono hb3.size)
     have oR : y4.ownsRow (W.heap.size + 1) 81 9 (.slice q ws.length cq) ws.length (S.en tyc tl) := S.own_kept HE.out.2.2 fun g _ hg => hB4.block g hg
     have hcs : S.Cs y4 (.slice (some ⟨w3.heap.size, 0, none⟩) 1 1) 9 1 (tyc t) := .inr ⟨_, _, rfl, rfl, fun j u hj => by rw [Addr.add_lit, Nat.zero_add]; exact S.cell_of y4 _ j _ _ u v4 hj, tyc_one _⟩
     have hsz4 : W.heap.size + 1 <= y4.heap.size := Nat.le_trans (S.lt_of HE.out.2.1) hB4.size
     have HB4 := hid (And.intro (HE.out.1.trans (hB4.mono HE.out.1.size)) ((hB4.block _ (S.lt_of HE.out.2.1)).trans HE.out.2.1))
     have HY := hid hy4
     clear k4 v4 hB4 hy4 hb3
     unfold tyc
     go_wp2_with (rw [HY.out]; refine S.wpList_append_row y4 rfl _ _ 57 81 _ 9 80 Tryz.underlying57 infoRT rfl (by decide) rfl (W.heap.size + 1) (.slice q ws.length cq) ws.length (S.en tyc tl) rfl oR _ 1 _ rfl hcs (by unfold S.room; omega) (by unfold maxLen; omega) hsz4 (fun v5 w5 hr1 hg1 => ?_); have HG := hid (And.intro hr1 hg1); clear hr1 hg1)
     have hb5 : Below (W.heap.size + 1) y4 w5 := HG.out.2.below (fun g hg => q_ge oR g hg) hsz4
     refine ⟨⟨k + 1, by omega, by rw [Int.natCast_add]; rfl, HB4.out.1.trans (hb5.mono (by omega)), (hb5.block _ (by omega)).trans HB4.out.2, ?_⟩, by simp only [intOf]; omega⟩
     rw [HW.out, HT.out, S.en_append, List.length_append]
     have e1 : S.en tyc [t] = tyc t := by simp [S.en]
     rw [e1]
     exact HG.out.1
    ·have d1 : (d.k == 1) = false := by simpa using hk1
     rw [if_neg hk1, List.append_nil] at HW
     have HE := hid (And.intro hb (And.intro hv hR))
     clear hb hv hR hcl hNv ea kb hk1
     go_wp2
     go_roundw
     case rel =>
      first
       | exact ⟨k + 1, by omega, by go_num, HE.out.1, HE.out.2.1, by rw [HW.out]; exact HE.out.2.2⟩
       | ((repeat apply Exists.intro); refine ⟨⟨k + 1, by omega, ?_, HE.out.1, HE.out.2.1, by rw [HW.out]; exact HE.out.2.2⟩, rfl⟩; go_num)
     case measure => simp [intOf]; omega
   ·have i1 : ¬ (k : Int) < ds.length := by omega
    rw [List.take_of_length_le (by omega)] at hR
    have HR := hid (And.intro hb hR)
    rw [List.take_of_length_le (by omega)]
    clear hR hb hv
    go_wp2
    refine bodyPost_ret (results_tmp2 rfl _ _ _) rfl ?_
    refine ⟨HR.out.1, ?_⟩
    rw [if_pos HZ.out]
    exact ⟨q, cq, rfl, own_mono HR.out.2 (by omega)⟩
 ·have hne : (chk ds bs != 0) = true := by simpa using hz
  have HZ := hid hz
  clear hz hB1 v1 hb1
  go_wp2
  refine bodyPost_ret (results_tmp2 rfl _ _ _) rfl ?_
  refine ⟨HV1.out.1, ?_⟩
  rw [if_neg HZ.out]
  rfl
end Go.Proofs.YtlilefhmohkfkaaGreatDoor.E
