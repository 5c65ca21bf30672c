import Derived.Test.YtdnklgceghllaaaGreatDoorMEq
import Derived.Test.YtdnklgceghllaaaGreatDoorMSame
import Derived.Test.YtdnklgceghllaaaGreatDoorMEra
namespace Go.Proofs.YtdnklgceghllaaaGreatDoor.M
open Go.Proofs
open Go.Proofs.YtdnklgceghllaaaGreatDoor.K (Tk kd tk ans sc At wd Gd Sep sp_word sep_one ext_list sc_good)
open Go.Proofs.YtdnklgceghllaaaGreatDoor.Y (Nd Df Ps Bk e0)
open Go.Proofs.YtdnklgceghllaaaGreatDoor.D (PM Er)
open Go.Proofs.YtdnklgceghllaaaGreatDoor.R (lk)
set_option linter.unusedVariables false
set_option linter.unusedSimpArgs false
set_option maxRecDepth 100000
theorem sml_fun (l l' : List Nd) (h : l.map sm = l'.map sm) (x : List Nd) : sml l x = sml l' x := by unfold sml; rw [h]
theorem sm_er (n : Nd) : sm (er n) = sm n := by
 refine Y.Nd.ind (P := fun n => sm (er n) = sm n) ?_ n
 intro n h1 h2
 have e1 : (n.th.map er).map sm = n.th.map sm := by rw [List.map_map]; exact List.map_congr_left h1
 have e2 : (n.el.map er).map sm = n.el.map sm := by rw [List.map_map]; exact List.map_congr_left h2
 obtain ⟨k, op, v, nm, th, el, has, p⟩ := n
 simp only at e1 e2
 rw [er, sm, sm, e1, e2]
theorem sml_er {l l' : List Nd} (h : l.map er = l'.map er) : sml l l' = true := by
 have e : l.map sm = l'.map sm := by
  have : (l.map er).map sm = (l'.map er).map sm := by rw [h]
  rw [List.map_map, List.map_map] at this
  rw [show (sm ∘ er) = sm from funext sm_er] at this
  exact this
 rw [sml_fun l l' e]
 exact sml_refl l'
theorem smds_er {ds ds' : List Df} (h : ds.map erD = ds'.map erD) : smds ds ds' = true := by
 refine smds_all ds ds' (by simpa using congrArg List.length h) fun i a b ha hb => ?_
 have e : (ds.map erD)[i]? = (ds'.map erD)[i]? := by rw [h]
 rw [List.getElem?_map, List.getElem?_map, ha, hb] at e
 simp only [Option.map_some, Option.some.injEq] at e
 obtain ⟨k, nm, v, body, p⟩ := a
 obtain ⟨k', nm', v', body', p'⟩ := b
 simp only [erD, Df.mk.injEq] at e
 obtain ⟨rfl, rfl, rfl, e4, _⟩ := e
 simp [smd, sml_er e4]
theorem sep_app {s t : List UInt8} (hs : Sep s) (ht : Sep t) : Sep (s ++ t) := by
 obtain ⟨c, x, e, hc⟩ := hs.hd
 refine ⟨⟨c, x ++ t, by rw [e]; rfl, hc⟩, fun p r a h => ?_⟩
 rw [List.append_assoc] at h ⊢
 have h1 := hs.skip p (t ++ r) a h
 have e1 : p ++ (s ++ (t ++ r)) = (p ++ s) ++ (t ++ r) := by simp
 have el : p.length + s.length = (p ++ s).length := by simp
 rw [e1, el] at h1
 have h2 := ht.skip (p ++ s) r a h1
 rw [e1, List.length_append, <- Nat.add_assoc, el]
 exact h2
theorem sep_blank (c : UInt8) (hc : K.bk c.toNat = true) (hs : T.seen c.toNat = false) : Sep [c] := ⟨⟨c, [], rfl, hs⟩, fun p r a h => K.step_blank p r c a hc hs h⟩
theorem sep_9 : Sep [9] := sep_blank 9 (by decide) (by decide)
theorem sep_13 : Sep [13] := sep_blank 13 (by decide) (by decide)
theorem sep_g2 : Sep [9, 32, 13, 10] := sep_app sep_9 (sep_app sep_one (sep_app sep_13 sep_nl))
theorem sep_g3 : Sep [32, 40, 32, 58, 32, 120, 32, 59, 32, 41, 32] :=
 sep_app (K.sep_comment 32 40 41 [58, 32, 120, 32, 59, 32] (by decide) (by decide) (.inr ⟨rfl, rfl⟩) (by decide)) sep_one
theorem sep_g4 : Sep [32, 92, 32, 58, 32, 121, 32, 59, 10] := K.sep_comment 32 92 10 [58, 32, 121, 32, 59] (by decide) (by decide) (.inl ⟨rfl, rfl⟩) (by decide)
theorem sep_g5 : Sep [32, 32] := sep_app sep_one sep_one
theorem sep_g6 : Sep [32, 40, 32, 97, 10, 32, 98, 32, 41, 32] :=
 sep_app (K.sep_comment 32 40 41 [97, 10, 32, 98, 32] (by decide) (by decide) (.inr ⟨rfl, rfl⟩) (by decide)) sep_one
def Pf : List (List UInt8 × List UInt8) -> List UInt8
 | [] => []
 | x :: r => x.1 ++ (x.2 ++ Pf r)
theorem pf_app (a b : List (List UInt8 × List UInt8)) : Pf (a ++ b) = Pf a ++ Pf b := by
 induction a with
 | nil => rfl
 | cons x a ih => rw [List.cons_append, Pf, Pf, ih]; simp
theorem pf_head : ∀ (ps : List (List UInt8 × List UInt8)), (∀ x ∈ ps, Sep x.1) -> Pf ps = [] \/ ∃ c t, Pf ps = c :: t /\ T.seen c.toNat = false
 | [], _ => .inl rfl
 | x :: ps, h => by
  obtain ⟨c, t, e, hc⟩ := (h x (List.mem_cons_self ..)).hd
  exact .inr ⟨c, t ++ (x.2 ++ Pf ps), by rw [Pf, e]; rfl, hc⟩
theorem pf_scan : ∀ (ps : List (List UInt8 × List UInt8)) (p : List UInt8) (a : List (Nat × Nat)), (∀ x ∈ ps, Sep x.1 /\ Gd x.2) -> At (p ++ Pf ps) p.length a -> ∃ a', sc (p ++ Pf ps) = (a ++ a', (p ++ Pf ps).length, 0) /\ a'.map (fun q => wd (p ++ Pf ps) q.1 q.2) = ps.map (·.2)
 | [], p, a, _, h => by
  have e : p ++ Pf [] = p := by simp [Pf]
  rw [e] at h ⊢
  exact ⟨[], by rw [List.append_nil]; exact h.fin (Nat.le_refl _), rfl⟩
 | (s, w) :: ps, p, a, hg, h => by
  obtain ⟨hs, hw⟩ := hg (s, w) (List.mem_cons_self ..)
  have hg' : ∀ x ∈ ps, Sep x.1 /\ Gd x.2 := fun x hx => hg x (List.mem_cons_of_mem _ hx)
  simp only at hw hs
  have e0 : p ++ Pf ((s, w) :: ps) = p ++ (s ++ (w ++ Pf ps)) := rfl
  rw [e0] at h ⊢
  have h1 := hs.skip p (w ++ Pf ps) a h
  have e1 : p ++ (s ++ (w ++ Pf ps)) = (p ++ s) ++ (w ++ Pf ps) := by simp
  have el : p.length + s.length = (p ++ s).length := by simp
  rw [e1, el] at h1
  have hsp := sp_word (p ++ s) w (Pf ps) hw (pf_head ps fun x hx => (hg' x hx).1)
  have hp0 : 0 < w.length := List.length_pos_iff.2 hw.ne
  have h2 := h1.wo (by simp only [List.length_append]; omega) hsp
  have e2 : (p ++ s) ++ (w ++ Pf ps) = (p ++ s ++ w) ++ Pf ps := by simp
  have el2 : (p ++ s).length + w.length = (p ++ s ++ w).length := by simp only [List.length_append]
  have hwd := K.wd_mid (p ++ s) w (Pf ps)
  rw [e2, el2] at h2 hwd
  obtain ⟨a', h3, h4⟩ := pf_scan ps (p ++ s ++ w) _ hg' h2
  refine ⟨((p ++ s).length, (p ++ s ++ w).length) :: a', ?_, ?_⟩
  ·rw [e1, e2, h3]; simp
  ·rw [e1, e2, List.map_cons, h4, hwd]; rfl
theorem era_tok {t t' : Tk} (h : WfT t) (h' : WfT t') (e : t.t = t'.t) : erT t = erT t' := by
 obtain ⟨h1, h2⟩ := h
 obtain ⟨h3, h4⟩ := h'
 unfold erT
 rw [h1, h2, h3, h4, e]
theorem era_toks : ∀ (l l' : List Tk), (∀ t ∈ l, WfT t) -> (∀ t ∈ l', WfT t) -> l.map (·.t) = l'.map (·.t) -> l.map erT = l'.map erT
 | [], [], _, _, _ => rfl
 | [], _ :: _, _, _, h => by cases h
 | _ :: _, [], _, _, h => by cases h
 | a :: l, b :: l', h1, h2, h => by
  simp only [List.map_cons, List.cons.injEq] at h
  rw [List.map_cons, List.map_cons, era_tok (h1 a (List.mem_cons_self ..)) (h2 b (List.mem_cons_self ..)) h.1, era_toks l l' (fun t ht => h1 t (List.mem_cons_of_mem _ ht)) (fun t ht => h2 t (List.mem_cons_of_mem _ ht)) h.2]
theorem ans_wf (s : ByteArray) (h : (ans s).2.2 = 0) : ∀ t ∈ (ans s).1, WfT t /\ Gd t.t.data.toList := by
 unfold ans at h ⊢
 split
 ·intro t ht; cases ht
 ·rename_i hl
  rw [if_neg hl] at h
  split
  ·intro t ht
   obtain ⟨q, hq, rfl⟩ := List.mem_map.1 ht
   refine ⟨?_, ?_⟩
   ·unfold WfT tk
    simp only
    rw [ext_list]
    exact ⟨rfl, rfl⟩
   ·show Gd (tk s q).t.data.toList
    have : (tk s q).t.data.toList = wd s.data.toList q.1 q.2 := by unfold tk; exact ext_list s q.1 q.2
    rw [this]
    exact sc_good _ q hq
  ·intro t ht; cases ht
theorem gap_pans (s T : ByteArray) (h : (ans s).2.2 = 0) (hT : T.size <= 65536) (gs : List (List UInt8)) (hl : gs.length = (ans s).1.length) (hg : ∀ g ∈ gs, Sep g) (e : T.data.toList = Pf (gs.zip ((ans s).1.map fun t => t.t.data.toList))) :
  erE (fun x : List Df × List (Int × List UInt8) => (x.1.map erD, x.2)) (pans s) = erE (fun x : List Df × List (Int × List UInt8) => (x.1.map erD, x.2)) (pans T) := by
 have hw := ans_wf s h
 have hps : ∀ x ∈ gs.zip ((ans s).1.map fun t => t.t.data.toList), Sep x.1 /\ Gd x.2 := fun x hx => by
  obtain ⟨a, b⟩ := x
  have h1 := List.of_mem_zip hx
  refine ⟨hg a h1.1, ?_⟩
  obtain ⟨t, ht, rfl⟩ := List.mem_map.1 h1.2
  exact (hw t ht).2
 obtain ⟨a', h1, h2⟩ := pf_scan _ [] [] hps (At.start _)
 simp only [List.nil_append] at h1 h2
 rw [<- e] at h1 h2
 obtain ⟨k1, k2, k3⟩ := toks_of T hT a' _ h1 ((ans s).1.map (·.t)) (by
  rw [h2, List.map_map, List.map_snd_zip (by rw [List.length_map]; omega)]
  rfl)
 have k4 := era_toks (ans s).1 (ans T).1 (fun t ht => (hw t ht).1) k2 k3.symm
 unfold pans
 rw [if_pos h, if_pos k1, read_er, read_er, k4]
open Go.RowKit
open Go.Proofs
open Go.Proofs.YtdnklgceghllaaaGreatDoor.K (Tk Sep sep_one)
open Go.Proofs.YtdnklgceghllaaaGreatDoor.Y (Nd Df Ps Bk DV BV hid)
set_option linter.unusedVariables false
set_option linter.unusedSimpArgs false
set_option maxHeartbeats 4000000
set_option maxRecDepth 100000
structure Gp (w : World) (e : Ending) (w' : World) : Prop where
 out : ∃ A : ByteArray, e = .returned (.string A) /\ Sep A.data.toList /\ A.size <= 16
 bel : Below w.heap.size w w'
theorem gap_any (n : Int) (hn : IntKind.min .i64 <= n /\ n <= IntKind.max .i64) (w : World) : Calls Tryz.prog 15 #[.int .i64 n] w fun e w' => Gp w e w' := by
 obtain ⟨m, hm⟩ : ∃ m, n.tmod 7 = m := ⟨_, rfl⟩
 have h1 := Int.tmod_lt_of_pos n (show (0 : Int) < 7 by decide)
 have h2 := Int.lt_tmod_of_pos n (show (0 : Int) < 7 by decide)
 rw [hm] at h1 h2
 have hw : wrap64 (m + 7) = m + 7 := by unfold wrap64; omega
 obtain ⟨k, hk⟩ : ∃ k, (m + 7).tmod 7 = k := ⟨_, rfl⟩
 have hk7 : k = 0 \/ k = 1 \/ k = 2 \/ k = 3 \/ k = 4 \/ k = 5 \/ k = 6 := by
  rw [Int.tmod_eq_emod_of_nonneg (by omega)] at hk
  omega
 clear h1 h2 hn
 have HB := hid (fun x => show Below w.heap.size w (w.alloc x) from (Below.refl _ _).alloc (Nat.le_refl _) _)
 rcases hk7 with rfl | rfl | rfl | rfl | rfl | rfl | rfl
 all_goals
  go_enter Tryz.func15, Tryz.ntmps15
  go_wp2_with fail
  go_ret
 ·exact ⟨⟨_, rfl, sep_one, by decide⟩, HB.out _⟩
 ·exact ⟨⟨_, rfl, sep_nl, by decide⟩, HB.out _⟩
 ·exact ⟨⟨_, rfl, sep_g2, by decide⟩, HB.out _⟩
 ·exact ⟨⟨_, rfl, sep_g3, by decide⟩, HB.out _⟩
 ·exact ⟨⟨_, rfl, sep_g4, by decide⟩, HB.out _⟩
 ·exact ⟨⟨_, rfl, sep_g5, by decide⟩, HB.out _⟩
 ·exact ⟨⟨_, rfl, sep_g6, by decide⟩, HB.out _⟩
end Go.Proofs.YtdnklgceghllaaaGreatDoor.M
