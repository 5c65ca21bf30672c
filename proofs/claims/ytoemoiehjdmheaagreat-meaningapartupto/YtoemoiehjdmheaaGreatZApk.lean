import Derived.Test.YtoemoiehjdmheaaGreatZNew
namespace Go.Proofs.YtoemoiehjdmheaaGreat.Z
open Go.RowKit
open Go.Proofs
open Go.Proofs.YtoemoiehjdmheaaGreat.Y (hid)
set_option linter.unusedVariables false
set_option linter.unusedSimpArgs false
theorem map_same {α β : Type} {f : α -> β} {e e' : α} (hf : f e' = f e) : ∀ {es : List α} {i : Nat}, es[i]? = some e -> (es.set i e').map f = es.map f
 | [], _, _ => rfl
 | b :: l, 0, h => by simp at h; subst h; simp [hf]
 | b :: l, i + 1, h => by
  rw [List.set_cons_succ, List.map_cons, List.map_cons, map_same hf (by simpa using h)]
theorem en_same {α : Type} {f : α -> List Value} {es : List α} {i : Nat} {e e' : α} (h : es[i]? = some e) (hf : f e' = f e) : S.en f (es.set i e') = S.en f es := by
 unfold S.en
 rw [List.flatMap_def, List.flatMap_def, map_same hf h]
theorem en_cell {α : Type} {f : α -> List Value} {s : Nat} (hs : ∀ a, (f a).length = s) : ∀ (l : List α) (i j : Nat) (a a' : α) (u : Value), l[i]? = some a -> j < s -> f a' = (f a).set j u -> S.en f (l.set i a') = (S.en f l).set (i * s + j) u
 | [], i, j, a, a', u, h, _, _ => by simp at h
 | b :: l, 0, j, a, a', u, h, hj, hf => by
  simp at h; subst h
  rw [List.set_cons_zero, S.en_cons, S.en_cons, Nat.zero_mul, Nat.zero_add, List.set_append_left _ _ (by rw [hs]; exact hj), hf]
 | b :: l, i + 1, j, a, a', u, h, hj, hf => by
  rw [List.set_cons_succ, S.en_cons, S.en_cons, en_cell hs l i j a a' u (by simpa using h) hj hf, List.set_append_right _ _ (by rw [hs, Nat.succ_mul]; omega), hs]
  congr 2
  rw [Nat.succ_mul]; omega
theorem tc_en : ∀ l : List (Int × Int × Int), M.tc l = S.en M.tcell l
 | [] => rfl
 | a :: l => by rw [S.en_cons, <- tc_en l]; rfl
theorem htc (a : Int × Int × Int) : (M.tcell a).length = 3 := rfl
theorem tn_set (l : List (Int × Int × Int)) (j : Nat) (t : Int × Int × Int) (z : Int) (h : l[j]? = some t) : M.tc (l.set j (z, t.2)) = (M.tc l).set (j * 3) (.int .i64 z) := by
 rw [tc_en, tc_en, en_cell htc l j 0 t (z, t.2) (.int .i64 z) h (by decide) rfl, Nat.add_zero]
theorem bv_set (l : List UInt8) (j : Nat) (x : UInt8) : M.bv (l.set j x) = (M.bv l).set j (.int .u8 (x.toNat : Int)) := by simp [M.bv, List.map_set]
theorem eU_set (l : List Int) (j : Nat) (a z : Int) (h : l[j]? = some a) : S.en S.eU (l.set j z) = (S.en S.eU l).set j (.int .u16 z) := by
 rw [en_cell S.hU l j 0 a z (.int .u16 z) h (by decide) rfl, Nat.add_zero, Nat.mul_one]
def tm (k : Nat) : Prop := k = 1 \/ k % 16 = 4 \/ k % 16 = 5 \/ k % 16 = 8 \/ k = 10
def wasE (e : KE) : List Int × Value × Value × List UInt8 × List (Int × Int × Int) := ([e.a0, e.a1, e.a2, e.a3, e.a4], e.s3, e.s4, e.l3, e.l4)
structure MK (W0 : World) (c0 : Nat -> Nat) (lo : Nat) (W : World) (c : Nat -> Nat) (vo vd : Value) (es0 es : List KE) (ds : List DE) : Prop where
 t : S.Tc (fun i => tm (c0 i)) W0 W
 eq : ∀ i, i < W0.heap.size -> c i = c0 i
 lz : lo <= W0.heap.size
 was : es.map wasE = es0.map wasE
 o : Rw W lo c 1 68 14 vo es.length (S.en eKE es)
 d : Rw W lo c 2 37 1 vd ds.length (ds.map DE.v)
 e1 : ∀ i e, es[i]? = some e -> Rw W lo c (16 * i + 4) 5 1 e.s1 e.l1.length (M.bv e.l1)
 e2 : ∀ i e, es[i]? = some e -> Rw W lo c (16 * i + 5) 117 3 e.s2 e.l2.length (M.tc e.l2)
 d1 : ∀ j d, ds[j]? = some d -> Rw W lo c (16 * j + 8) 57 1 d.v d.l.length (S.en S.eU d.l)
section
variable {W0 W W' : World} {c0 c c' : Nat -> Nat} {lo k : Nat} {vo vd : Value} {es0 es : List KE} {ds : List DE}
theorem MK.ts (h : MK W0 c0 lo W c vo vd es0 es ds) (p : Wr W W' c c' k) (hk : tm k) : S.Tc (fun i => tm (c0 i)) W0 W' /\ ∀ i, i < W0.heap.size -> c' i = c0 i :=
 ⟨h.t.trans p.t (fun _ h => h) fun i hi e => by rw [<- h.eq i hi, e]; exact hk, fun i hi => (p.eq i (Nat.lt_of_lt_of_le hi h.t.size)).trans (h.eq i hi)⟩
theorem was_set {i : Nat} {e e' : KE} (h : es.map wasE = es0.map wasE) (he : es[i]? = some e) (hw : wasE e' = wasE e) : (es.set i e').map wasE = es0.map wasE := by
 rw [<- h, map_same hw he]
theorem MK.put1 (h : MK W0 c0 lo W c vo vd es0 es ds) {i j g n cp : Nat} {e : KE} (he : es[i]? = some e) (hs : e.s1 = .slice (some ⟨g, 0, none⟩) n cp) (hn : n = e.l1.length) (x : UInt8) :
  MK W0 c0 lo (W.setCell ⟨g, j, none⟩ (.int .u8 (x.toNat : Int))) c vo vd es0 (es.set i { e with l1 := e.l1.set j x }) ds := by
 have r := h.e1 i e he
 subst hn
 rw [hs] at r
 obtain ⟨r', p⟩ := r.set j (.int .u8 (x.toNat : Int))
 obtain ⟨t, eq⟩ := h.ts p (.inr (.inl (by omega)))
 refine ⟨t, eq, h.lz, was_set h.was he rfl, ?_, h.d.sp p (by omega), fam_set (fun m e' hm hne => (h.e1 m e' hm).sp p (by omega)) ?_, fam_set (fun m e' hm _ => (h.e2 m e' hm).sp p (by omega)) ((h.e2 i e he).sp p (by omega)), fun m d hm => (h.d1 m d hm).sp p (by omega)⟩
 ·rw [List.length_set, en_same he (show eKE { e with l1 := e.l1.set j x } = eKE e from rfl)]; exact h.o.sp p (by omega)
 ·simp only [List.length_set, bv_set, hs]; exact r'
theorem MK.put2 (h : MK W0 c0 lo W c vo vd es0 es ds) {i j g n cp : Nat} {e : KE} {q : Int × Int × Int} (he : es[i]? = some e) (hs : e.s2 = .slice (some ⟨g, 0, none⟩) n cp) (hn : n = e.l2.length) (hq : e.l2[j]? = some q) (z : Int) :
  MK W0 c0 lo (W.setCell ⟨g, j * 3, none⟩ (.int .i64 z)) c vo vd es0 (es.set i { e with l2 := e.l2.set j (z, q.2) }) ds := by
 have r := h.e2 i e he
 subst hn
 rw [hs] at r
 obtain ⟨r', p⟩ := r.set (j * 3) (.int .i64 z)
 obtain ⟨t, eq⟩ := h.ts p (.inr (.inr (.inl (by omega))))
 refine ⟨t, eq, h.lz, was_set h.was he rfl, ?_, h.d.sp p (by omega), fam_set (fun m e' hm _ => (h.e1 m e' hm).sp p (by omega)) ((h.e1 i e he).sp p (by omega)), fam_set (fun m e' hm hne => (h.e2 m e' hm).sp p (by omega)) ?_, fun m d hm => (h.d1 m d hm).sp p (by omega)⟩
 ·rw [List.length_set, en_same he (show eKE { e with l2 := e.l2.set j (z, q.2) } = eKE e from rfl)]; exact h.o.sp p (by omega)
 ·simp only [List.length_set, tn_set _ _ _ _ hq, hs]; exact r'
theorem MK.put3 (h : MK W0 c0 lo W c vo vd es0 es ds) {i j g n cp : Nat} {d : DE} {a : Int} (he : ds[i]? = some d) (hs : d.v = .slice (some ⟨g, 0, none⟩) n cp) (hn : n = d.l.length) (hq : d.l[j]? = some a) (z : Int) :
  MK W0 c0 lo (W.setCell ⟨g, j, none⟩ (.int .u16 z)) c vo vd es0 es (ds.set i { d with l := d.l.set j z }) := by
 have r := h.d1 i d he
 subst hn
 rw [hs] at r
 obtain ⟨r', p⟩ := r.set j (.int .u16 z)
 obtain ⟨t, eq⟩ := h.ts p (.inr (.inr (.inr (.inl (by omega)))))
 have hm : (ds.set i { d with l := d.l.set j z }).map DE.v = ds.map DE.v := map_same (e := d) (show ({ d with l := d.l.set j z } : DE).v = d.v from rfl) he
 refine ⟨t, eq, h.lz, h.was, h.o.sp p (by omega), ?_, fun m e hm => (h.e1 m e hm).sp p (by omega), fun m e hm => (h.e2 m e hm).sp p (by omega), fam_set (fun m e' hm hne => (h.d1 m e' hm).sp p (by omega)) ?_⟩
 ·rw [List.length_set, hm]; exact h.d.sp p (by omega)
 ·simp only [List.length_set, eU_set _ _ _ _ hq, hs]; exact r'
theorem MK.app1 (h : MK W0 c0 lo W c vo vd es0 es ds) {i go cp : Nat} {e : KE} {v' : Value} {l' : List UInt8} (he : es[i]? = some e) (hvo : vo = .slice (some ⟨go, 0, none⟩) es.length cp) (g : S.Grew W W' e.s1 v') (hr : W'.ownsRow lo 5 1 v' l'.length (M.bv l')) :
  ∃ c', MK W0 c0 lo (W'.setCell ⟨go, i * 14 + 5, none⟩ v') c' vo vd es0 (es.set i { e with s1 := v', l1 := l' }) ds := by
 obtain ⟨r', p⟩ := (h.e1 i e he).grew g hr
 have o' := h.o.sp p (by omega)
 rw [hvo] at o'
 obtain ⟨o2, p2⟩ := o'.set (i * 14 + 5) v'
 obtain ⟨t, eq⟩ := h.ts p (.inr (.inl (by omega)))
 refine ⟨_, ⟨t.trans p2.t (fun _ h => h) fun i hi e => by rw [<- eq i hi, e]; exact .inl rfl, fun i hi => (p2.eq i (Nat.lt_of_lt_of_le hi t.size)).trans (eq i hi), h.lz, was_set h.was he rfl, ?_, (h.d.sp p (by omega)).sp p2 (by omega), fam_set (fun m e' hm hne => ((h.e1 m e' hm).sp p (by omega)).sp p2 (by omega)) (r'.sp p2 (by omega)), fam_set (fun m e' hm _ => ((h.e2 m e' hm).sp p (by omega)).sp p2 (by omega)) (((h.e2 i e he).sp p (by omega)).sp p2 (by omega)), fun m d hm => ((h.d1 m d hm).sp p (by omega)).sp p2 (by omega)⟩⟩
 rw [List.length_set, hvo, en_cell hKE es i 5 e _ v' he (by decide) rfl]; exact o2
theorem MK.app2 (h : MK W0 c0 lo W c vo vd es0 es ds) {i go cp : Nat} {e : KE} {v' : Value} {l' : List (Int × Int × Int)} (he : es[i]? = some e) (hvo : vo = .slice (some ⟨go, 0, none⟩) es.length cp) (g : S.Grew W W' e.s2 v') (hr : W'.ownsRow lo 117 3 v' l'.length (M.tc l')) :
  ∃ c', MK W0 c0 lo (W'.setCell ⟨go, i * 14 + 6, none⟩ v') c' vo vd es0 (es.set i { e with s2 := v', l2 := l' }) ds := by
 obtain ⟨r', p⟩ := (h.e2 i e he).grew g hr
 have o' := h.o.sp p (by omega)
 rw [hvo] at o'
 obtain ⟨o2, p2⟩ := o'.set (i * 14 + 6) v'
 obtain ⟨t, eq⟩ := h.ts p (.inr (.inr (.inl (by omega))))
 refine ⟨_, ⟨t.trans p2.t (fun _ h => h) fun i hi e => by rw [<- eq i hi, e]; exact .inl rfl, fun i hi => (p2.eq i (Nat.lt_of_lt_of_le hi t.size)).trans (eq i hi), h.lz, was_set h.was he rfl, ?_, (h.d.sp p (by omega)).sp p2 (by omega), fam_set (fun m e' hm _ => ((h.e1 m e' hm).sp p (by omega)).sp p2 (by omega)) (((h.e1 i e he).sp p (by omega)).sp p2 (by omega)), fam_set (fun m e' hm hne => ((h.e2 m e' hm).sp p (by omega)).sp p2 (by omega)) (r'.sp p2 (by omega)), fun m d hm => ((h.d1 m d hm).sp p (by omega)).sp p2 (by omega)⟩⟩
 rw [List.length_set, hvo, en_cell hKE es i 6 e _ v' he (by decide) rfl]; exact o2
theorem MK.o1 (h : MK W0 c0 lo W c vo vd es0 es ds) {i go n cp m : Nat} {e : KE} {v' : Value} {xs : List Value} (hn : n = es.length) (he : es[i]? = some e) (hvo : vo = .slice (some ⟨go, 0, none⟩) n cp) (g : S.Grew W W' e.s1 v') (hr : W'.ownsRow lo 5 1 v' m xs) (j : Nat) (u : Value) (hj : (eKE e)[j]? = some u) : W'.cell? ⟨go, i * 14 + j, none⟩ = some u /\ W'.frozen? ⟨go, i * 14 + j, none⟩ = false := by
 subst hn
 have o' := h.o.sp ((h.e1 i e he).grew g hr).2 (by omega)
 rw [hvo] at o'
 have hj' : j < 14 := by rw [<- hKE e]; exact (List.getElem?_eq_some_iff.1 hj).1
 exact o'.cell _ _ (by rw [S.en_get hKE es i j e he hj']; exact hj)
theorem MK.o2 (h : MK W0 c0 lo W c vo vd es0 es ds) {i go n cp m : Nat} {e : KE} {v' : Value} {xs : List Value} (hn : n = es.length) (he : es[i]? = some e) (hvo : vo = .slice (some ⟨go, 0, none⟩) n cp) (g : S.Grew W W' e.s2 v') (hr : W'.ownsRow lo 117 3 v' m xs) (j : Nat) (u : Value) (hj : (eKE e)[j]? = some u) : W'.cell? ⟨go, i * 14 + j, none⟩ = some u /\ W'.frozen? ⟨go, i * 14 + j, none⟩ = false := by
 subst hn
 have o' := h.o.sp ((h.e2 i e he).grew g hr).2 (by omega)
 rw [hvo] at o'
 have hj' : j < 14 := by rw [<- hKE e]; exact (List.getElem?_eq_some_iff.1 hj).1
 exact o'.cell _ _ (by rw [S.en_get hKE es i j e he hj']; exact hj)
end
set_option maxHeartbeats 4000000
set_option maxRecDepth 100000
structure FO where
  a0 : Int
  a1 : Int
  a2 : Int
  a3 : Int
  a4 : Int
  l1 : List UInt8
  l2 : List (Int × Int × Int)
def nxv (v : VS) (x : UInt8) (B : Int) : VS := if 4 <= B /\ B <= 16384 then (frame v (x.toNat : Int) B).v else v
def fo (v : VS) (x : UInt8) (B : Int) : FO := if 4 <= B /\ B <= 16384 then ⟨(frame v (x.toNat : Int) B).v.st, (frame v (x.toNat : Int) B).v.fa, (frame v (x.toNat : Int) B).steps, (frame v (x.toNat : Int) B).spent, B - (frame v (x.toNat : Int) B).spent, (frame v (x.toNat : Int) B).v.m.scr, (frame v (x.toNat : Int) B).v.m.tones⟩ else ⟨0, 0, 0, 0, 0, [], []⟩
def foV (o : FO) (p1 p2 : Option Addr) (c1 c2 : Nat) : Value := .agg #[.int .i64 o.a0, .int .i64 o.a1, .int .i64 o.a2, .int .i64 o.a3, .int .i64 o.a4, .slice p1 o.l1.length c1, .slice p2 o.l2.length c2]
theorem FB.same {w w' : World} {b : MB} {v : VS} (h : b.mv w v) (k : Below w.heap.size w w') : FB w w' w'.heap.size b b v :=
  ⟨rfl, MB.below h k, k.size, Nat.le_refl _, fun _ h => .inl h, fun _ h => .inl h, S.Tc.of_below k fun i h1 h2 => absurd h1 (by omega)⟩
theorem frame_u (x : UInt8) (B : Int) (b : MB) (v : VS) (w : World) (hk : calls v.R = v.o.length) (h : b.mv w v) :
    Calls Tryz.prog 7 #[.pointer (some ⟨b.g, 0, none⟩), .int .u8 (x.toNat : Int), .int .i64 B] w fun e w' => ∃ er p1 c1 p2 c2 lo b', e = .returned (.tuple #[foV (fo v x B) p1 p2 c1 c2, .int .i64 er]) /\ M.Row w' lo (.slice p1 (fo v x B).l1.length c1) (fo v x B).l1 /\ M.TRow w' lo (.slice p2 (fo v x B).l2.length c2) (fo v x B).l2 /\ FB w w' lo b b' (nxv v x B) /\ calls (nxv v x B).R = (nxv v x B).o.length /\ (fo v x B).l1.length <= 1000000 /\ (fo v x B).l2.length <= 1000000 := by
  unfold foV fo nxv
  by_cases q : 4 <= B /\ B <= 16384
  · rw [if_pos q, if_pos q]
    refine (frame_b x B q.1 q.2 b v w hk h).mono ?_
    rintro e w' ⟨p1, c1, p2, c2, lo, b', rfl, h1, h2, h3⟩
    refine ⟨0, p1, c1, p2, c2, lo, b', rfl, h1, h2, h3, frame_calls v _ B hk, ?_, ?_⟩
    · rw [(MV.ps h3.mv).m.wf.scr]; decide
    · have ht := wk_tones B B.toNat { v with m := M.bg v.m (x.toNat : Int) } 0 0
      simp only [M.bg, List.length_nil] at ht
      unfold frame
      simp only [M.bg]
      omega
  · rw [if_neg q, if_neg q]
    refine (frame_bud b.g (x.toNat : Int) B (by omega) w).mono ?_
    rintro e w' ⟨rfl, hb⟩
    exact ⟨190, none, 0, none, 0, w'.heap.size, b, rfl, M.row_nil _ _, World.ownsRow_nil _ _ _ _, FB.same h hb, hk, by simp, by simp⟩
structure ZI (W0 W : World) (c : Nat -> Nat) (a b : MB) (u v : VS) : Prop where
  ti : TI W0 W a b u v
  za : ∀ i, a.bk i -> c i = 0
  zb : ∀ i, b.bk i -> c i = 0
  zl : ∀ i, i < W0.heap.size -> c i = 0
section
variable {W0 W W' : World} {c c' : Nat -> Nat} {a b a' : MB} {u v u' : VS} {k lo : Nat}
theorem ZI.sp (h : ZI W0 W c a b u v) (p : Wr W W' c c' k) (hk : k ≠ 0) : ZI W0 W' c' a b u v :=
  ⟨⟨⟨MB.kept h.ti.two.ma (fun i hi => p.t.block i (MB.lt h.ti.two.ma i hi) (by rw [h.za i hi]; exact fun e => hk e.symm)) p.t.size, MB.kept h.ti.two.mb (fun i hi => p.t.block i (MB.lt h.ti.two.mb i hi) (by rw [h.zb i hi]; exact fun e => hk e.symm)) p.t.size, h.ti.two.ab, h.ti.two.ba⟩, h.ti.ca, h.ti.cb, h.ti.bel.trans (S.Tc.below p.t h.ti.bel.size fun i hi => by
      apply Decidable.byContradiction
      intro q
      have := h.zl i (by omega)
      exact hk (by rw [<- hi]; exact this)), h.ti.la, h.ti.lb⟩,
    fun i hi => (p.eq i (MB.lt h.ti.two.ma i hi)).trans (h.za i hi), fun i hi => (p.eq i (MB.lt h.ti.two.mb i hi)).trans (h.zb i hi), fun i hi => (p.eq i (Nat.lt_of_lt_of_le hi h.ti.bel.size)).trans (h.zl i hi)⟩
theorem ZI.below (h : ZI W0 W c a b u v) (k : Below W.heap.size W W') : ZI W0 W' c a b u v := ⟨h.ti.idle k, h.za, h.zb, h.zl⟩
def exf (W : World) (c : Nat -> Nat) (s1 s2 : Value) (k1 k2 : Nat) : Nat -> Nat := fun i => if i < W.heap.size then c i else if s1.ownBlock = some i then k1 else if s2.ownBlock = some i then k2 else 0
theorem ZI.left {p1 p2 : Option Addr} {c1 c2 lo' : Nat} {l1 : List UInt8} {l2 : List (Int × Int × Int)} (h : ZI W0 W c a b u v) (f : FB W W' lo a a' u') (hc : calls u'.R = u'.o.length) (r1 : M.Row W' lo (.slice p1 l1.length c1) l1) (r2 : M.TRow W' lo (.slice p2 l2.length c2) l2) (hlo : lo' <= W.heap.size) (k1 k2 : Nat) :
    ZI W0 W' (exf W c (.slice p1 l1.length c1) (.slice p2 l2.length c2) k1 k2) a' b u' v /\ Wr W W' c (exf W c (.slice p1 l1.length c1) (.slice p2 l2.length c2) k1 k2) 0 /\ Rw W' lo' (exf W c (.slice p1 l1.length c1) (.slice p2 l2.length c2) k1 k2) k1 5 1 (.slice p1 l1.length c1) l1.length (M.bv l1) /\ Rw W' lo' (exf W c (.slice p1 l1.length c1) (.slice p2 l2.length c2) k1 k2) k2 117 3 (.slice p2 l2.length c2) l2.length (M.tc l2) := by
  have e0 : ∀ i, i < W.heap.size -> exf W c (.slice p1 l1.length c1) (.slice p2 l2.length c2) k1 k2 i = c i := fun i hi => if_pos hi
  have g1 := fun g e => (World.ownsRow.lt r1 g e).1
  have g2 := fun g e => (World.ownsRow.lt r2 g e).1
  have l0 := f.l0
  have ez : ∀ i, W.heap.size <= i -> i < lo -> exf W c (.slice p1 l1.length c1) (.slice p2 l2.length c2) k1 k2 i = 0 := fun i h1 h2 => by
    unfold exf
    rw [if_neg (by omega), if_neg (fun e => by have := g1 i e; omega), if_neg (fun e => by have := g2 i e; omega)]
  have hW : Wr W W' c (exf W c (.slice p1 l1.length c1) (.slice p2 l2.length c2) k1 k2) 0 :=
    ⟨f.t.trans (S.Tc.refl (fun _ => False) W') (fun i hi => h.za i (.inl hi)) (fun _ _ e => e.elim), e0⟩
  refine ⟨⟨h.ti.left f hc, fun i hi => ?_, fun i hi => (e0 i (MB.lt h.ti.two.mb i hi)).trans (h.zb i hi), fun i hi => (e0 i (Nat.lt_of_lt_of_le hi h.ti.bel.size)).trans (h.zl i hi)⟩, hW, ⟨S.own_mono r1 (Nat.le_trans hlo l0), fun g e => ?_⟩, ⟨S.own_mono r2 (Nat.le_trans hlo l0), fun g e => ?_⟩⟩
  · rcases f.bk i hi with q | ⟨q1, q2⟩
    · exact (e0 i (MB.lt h.ti.two.ma i q)).trans (h.za i q)
    · exact ez i q1 q2
  · have := g1 g e
    unfold exf
    rw [if_neg (by omega), if_pos e]
  · have := g2 g e
    unfold exf
    rw [if_neg (by omega), if_neg (fun e' => ?_), if_pos e]
    obtain ⟨x1, q1⟩ := M.own_block r1 g e'
    obtain ⟨x2, q2⟩ := M.own_block r2 g e
    rw [q1] at q2; simp at q2
end
set_option maxRecDepth 100000
theorem infoU8 : (Tryz.prog.info? 5).map (fun i => (i.zero, i.size, i.bytes)) = some (some (.int .u8 0), 1, 1) := by kernel_rfl
theorem infoU16 : (Tryz.prog.info? 57).map (fun i => (i.zero, i.size, i.bytes)) = some (some (.int .u16 0), 1, 2) := by kernel_rfl
theorem z8 : zeros (.int .u8 0) 64 = M.bv (List.replicate 64 0) := by kernel_rfl
theorem z16 : zeros (.int .u16 0) 64 = S.en S.eU (List.replicate 64 0) := by kernel_rfl
theorem z3 : zeros (.agg #[.int .i64 0, .int .u16 0, .int .u8 0]) 64 = M.tc (List.replicate 64 (0, 0, 0)) := by kernel_rfl
theorem wpList_apm (w : World) {ops : Array Oper} {rest : List Oper} {o : Oper} {a : Act} {Q : Exit -> Act -> World -> Prop} (hgd : o.guard = none) (s : Operand) (t e : TypeId) (z : Value) (size bytes m : Nat) (cm : Int) (hcm : cm = (m : Int)) (hm : 0 < m)
  (ht : Tryz.prog.underlying t = some (.slice e)) (hinf : (Tryz.prog.info? e).map (fun i => (i.zero, i.size, i.bytes)) = some (some z, size, bytes)) (hzs : z.cells.size = size) (hsz : 0 < size) (h1 : ∀ u ∈ zeros z m, u.oneCell' = true)
  (ho : o.op = .call { callee := .builtin .append, args := #[s, .const (.int .i64 cm)], argTypes := #[t, 3] }) (B : Nat) (v : Value) (n : Nat) (xs : List Value) (hs : a.eval s = v) (hown : w.ownsRow B e size v n xs)
  (hb : (n + m) * bytes <= S.room) (hb2 : n + m <= maxLen) (hB : B <= w.heap.size)
  (h : ∀ v' w', w'.ownsRow B e size v' (n + m) (xs ++ zeros z m) -> S.Grew w w' v v' -> wpList Tryz.prog ops Q rest (a.put o.dst v') w') : wpList Tryz.prog ops Q (o :: rest) a w := by
 refine wpList_plain hgd fun K hK => ?_
 obtain ⟨i0, hi, hz0, hz1, hz2⟩ := info_parts hinf
 unfold S.room at hb
 obtain ⟨v', w', hr, r1, r2, r3, r4⟩ := run_apm (P := Tryz.prog) w t 3 o.type e .i64 i0 z size bytes ht Tryz.underlying3 hi hz0 hz1 hz2 hzs hsz m h1 B v n xs hown hm hb2 hb hB
 have hr' : (Builtin.append_ #[t, 3] o.type #[v, .int .i64 cm]).run Tryz.prog w = .ok v' w' := by rw [hcm]; exact hr
 have hcc : a.eval (.const (.int .i64 cm)) = .int .i64 cm := rfl
 unfold Oper.wp execOp
 simp only [ho, resolve, invoke, builtin, Sem.run_bind, Sem.run_pure, Result.andThen_ok, List.map_toArray, List.map_cons, List.map_nil, hs, hcc, hr']
 exact hK _ _ (h v' w' r1 ⟨r2.os, r2.tape, r2.output, r2.size, fun k hk e => r2.block k hk e, r3, r4.imp_right fun g k hk => g.block k hk (by simp)⟩)
theorem one8 : ∀ u ∈ zeros (.int .u8 0) 64, u.oneCell' = true := List.all_eq_true.1 (by kernel_rfl)
theorem one16 : ∀ u ∈ zeros (.int .u16 0) 64, u.oneCell' = true := List.all_eq_true.1 (by kernel_rfl)
theorem one3 : ∀ u ∈ zeros (.agg #[.int .i64 0, .int .u16 0, .int .u8 0]) 64, u.oneCell' = true := List.all_eq_true.1 (by kernel_rfl)
set_option maxRecDepth 100000
theorem infoUs : (Tryz.prog.info? 37).map (fun i => (i.zero, i.size, i.bytes)) = some (some (.slice none 0 0), 1, 24) := by kernel_rfl
def RdU (W : World) (c : Nat -> Nat) (k : Nat) (v : Value) (l : List Int) : Prop := ∀ (m : Nat) x, l[m]? = some x -> ∃ g n cp, v = .slice (some ⟨g, 0, none⟩) n cp /\ l.length <= n /\ c g = k /\ g < W.heap.size /\ W.cell? ⟨g, m, none⟩ = some (.int .u16 x)
section
variable {W0 W W' : World} {c0 c c' : Nat -> Nat} {lo k j : Nat} {vo vd v v' : Value} {es0 es : List KE} {ds : List DE} {l : List Int}
theorem RdU.sp (h : RdU W c j v l) (p : Wr W W' c c' k) (hj : j ≠ k) : RdU W' c' j v l := fun m x hx => by
 obtain ⟨g, n, cp, e, hn, hc, hg, hv⟩ := h m x hx
 exact ⟨g, n, cp, e, hn, (p.eq g hg).trans hc, Nat.lt_of_lt_of_le hg p.t.size, (World.cell?_of_block (a := ⟨g, m, none⟩) (p.t.block g hg (by rw [hc]; exact hj))).trans hv⟩
theorem eU_at {l : List Int} {j : Nat} {x : Int} (h : l[j]? = some x) : (S.en S.eU l)[j]? = some (.int .u16 x) := by
 have := S.en_get S.hU l j 0 x h (by decide)
 rw [Nat.mul_one, Nat.add_zero] at this
 rw [this]; rfl
theorem Rw.rd (h : Rw W lo c k 57 1 v l.length (S.en S.eU l)) : RdU W c k v l := fun m x hx => by
 obtain ⟨g, cp, rfl⟩ := h.pos (by have := (List.getElem?_eq_some_iff.1 hx).1; omega)
 exact ⟨g, _, cp, rfl, Nat.le_refl _, h.2 g rfl, (h.1.lt g rfl).2, (h.cell m _ (eU_at hx)).1⟩
theorem RdU.grew {x : List Int} (h : Rw W lo c k 57 1 v l.length (S.en S.eU l)) (g : S.Grew W W' v v') (hr : W'.ownsRow lo 57 1 v' (l ++ x).length (S.en S.eU (l ++ x))) : RdU W' (ext W c k) k v l /\ RdU W' (ext W c k) k v' l /\ Wr W W' c (ext W c k) k := by
 obtain ⟨r', p⟩ := h.grew g hr
 refine ⟨fun m y hy => ?_, fun m y hy => ?_, p⟩
 ·obtain ⟨b, n, cp, e, hn, hc, hb, hv⟩ := h.rd m y hy
  refine ⟨b, n, cp, e, hn, (p.eq b hb).trans hc, Nat.lt_of_lt_of_le hb g.size, ?_⟩
  rcases g.stay with q | q
  ·rw [e] at q
   obtain ⟨b', cp', rfl⟩ := r'.pos (by have := (List.getElem?_eq_some_iff.1 hy).1; simp; omega)
   simp only [Value.ownBlock, Option.some.injEq] at q
   subst q
   exact (r'.cell m _ (eU_at (by rw [List.getElem?_append_left (List.getElem?_eq_some_iff.1 hy).1]; exact hy))).1
  ·exact (World.cell?_of_block (a := ⟨b, m, none⟩) (q b hb)).trans hv
 ·obtain ⟨b, n, cp, e, hn, hc, hb, hv⟩ := r'.rd m y (by rw [List.getElem?_append_left (List.getElem?_eq_some_iff.1 hy).1]; exact hy)
  exact ⟨b, n, cp, e, by rw [List.length_append] at hn; omega, hc, hb, hv⟩
structure MZ (W0 : World) (c0 : Nat -> Nat) (lo : Nat) (W : World) (c : Nat -> Nat) (vo vd vl : Value) (es0 es : List KE) (ds : List DE) (lv : List Value) (k : Nat) : Prop where
 t : S.Tc (fun i => tm (c0 i)) W0 W
 eq : ∀ i, i < W0.heap.size -> c i = c0 i
 lz : lo <= W0.heap.size
 was : es.map wasE = es0.map wasE
 o : Rw W lo c 1 68 14 vo es.length (S.en eKE es)
 d : Rw W lo c 2 37 1 vd ds.length (ds.map DE.v)
 e1 : ∀ i e, es[i]? = some e -> Rw W lo c (16 * i + 4) 5 1 e.s1 e.l1.length (M.bv e.l1)
 e2 : ∀ i e, es[i]? = some e -> Rw W lo c (16 * i + 5) 117 3 e.s2 e.l2.length (M.tc e.l2)
 d1 : ∀ j d, k <= j -> ds[j]? = some d -> Rw W lo c (16 * j + 8) 57 1 d.v d.l.length (S.en S.eU d.l)
 d2 : ∀ (j : Nat) (d : DE), j < k -> ds[j]? = some d -> RdU W c (16 * j + 8) d.v d.l /\ ∃ v, lv[j]? = some v /\ RdU W c (16 * j + 8) v d.l
 ll : Rw W lo c 10 37 1 vl ds.length lv
 ls : ∀ (i : Nat) (v : Value), lv[i]? = some v -> ∃ p n cp, v = .slice p n cp
theorem MZ.of (h : MK W0 c0 lo W c vo vd es0 es ds) (b : Below W.heap.size W W') {vl : Value} {lv : List Value} (hl : W'.ownsRow W.heap.size 37 1 vl ds.length lv) (hls : ∀ (i : Nat) (v : Value), lv[i]? = some v -> ∃ p n cp, v = .slice p n cp) : ∃ c', MZ W0 c0 lo W' c' vo vd vl es0 es ds lv 0 := by
 obtain ⟨r, p⟩ := Rw.new (lo := lo) (c := c) b hl (Nat.le_trans h.lz h.t.size) 10 10
 obtain ⟨t, eq⟩ := h.ts p (.inr (.inr (.inr (.inr rfl))))
 exact ⟨_, ⟨t, eq, h.lz, h.was, h.o.sp p (by omega), h.d.sp p (by omega), fun i e q => (h.e1 i e q).sp p (by omega), fun i e q => (h.e2 i e q).sp p (by omega), fun i e _ q => (h.d1 i e q).sp p (by omega), fun j d q => by omega, r, hls⟩⟩
theorem MZ.app {g n cp : Nat} {lv : List Value} {d : DE} {x : List Int} (h : MZ W0 c0 lo W c vo vd (.slice (some ⟨g, 0, none⟩) n cp) es0 es ds lv k) (he : ds[k]? = some d) (q : S.Grew W W' d.v v') (hn : n = ds.length) (hr : W'.ownsRow lo 57 1 v' (d.l ++ x).length (S.en S.eU (d.l ++ x))) (hv : ∃ p n cp, v' = .slice p n cp) :
  ∃ c' p9 n9 q9, W'.cell? ⟨g, k, none⟩ = some (.slice p9 n9 q9) /\ W'.frozen? ⟨g, k, none⟩ = false /\ MZ W0 c0 lo (W'.setCell ⟨g, k, none⟩ v') c' vo vd (.slice (some ⟨g, 0, none⟩) n cp) es0 es ds (lv.set k v') (k + 1) := by
 obtain ⟨y1, y2, p⟩ := RdU.grew (h.d1 k d (Nat.le_refl _) he) q hr
 subst hn
 have ll := h.ll.sp p (by omega)
 have hk := (List.getElem?_eq_some_iff.1 he).1
 have hkl : k < lv.length := by rw [h.ll.1.1]; omega
 have hlv := List.getElem?_eq_getElem hkl
 obtain ⟨x1, x2⟩ := ll.cell k _ hlv
 obtain ⟨p9, n9, q9, e9⟩ := h.ls k _ hlv
 rw [e9] at x1
 obtain ⟨r2, p2⟩ := ll.set k v'
 have t2 := h.t.trans p.t (fun _ h => h) (H := fun i => tm (c0 i)) fun i hi e => by rw [<- h.eq i hi, e]; exact .inr (.inr (.inr (.inl (by omega))))
 have eq2 : ∀ i, i < W0.heap.size -> ext W c (16 * k + 8) i = c0 i := fun i hi => (p.eq i (Nat.lt_of_lt_of_le hi h.t.size)).trans (h.eq i hi)
 refine ⟨_, p9, n9, q9, x1, x2, ⟨t2.trans p2.t (fun _ h => h) fun i hi e => by rw [<- eq2 i hi, e]; exact .inr (.inr (.inr (.inr rfl))), fun i hi => (p2.eq i (Nat.lt_of_lt_of_le hi t2.size)).trans (eq2 i hi), h.lz, h.was, (h.o.sp p (by omega)).sp p2 (by omega), (h.d.sp p (by omega)).sp p2 (by omega), fun i e q => ((h.e1 i e q).sp p (by omega)).sp p2 (by omega), fun i e q => ((h.e2 i e q).sp p (by omega)).sp p2 (by omega), fun i e hi q => ((h.d1 i e (by omega) q).sp p (by omega)).sp p2 (by omega), fun i e hi q => ?_, r2, fam_set (fun i v hi _ => h.ls i v hi) hv⟩⟩
 by_cases hik : i = k
 ·subst hik
  rw [he] at q; cases q
  exact ⟨y1.sp p2 (by omega), v', by rw [List.getElem?_set_self hkl], y2.sp p2 (by omega)⟩
 ·obtain ⟨a1, v, a2, a3⟩ := h.d2 i e (by omega) q
  exact ⟨(a1.sp p (by omega)).sp p2 (by omega), v, by rw [List.getElem?_set_ne (by omega)]; exact a2, (a3.sp p (by omega)).sp p2 (by omega)⟩
theorem MZ.celld {gd n cp i : Nat} {vl : Value} {lv : List Value} {d : DE} (h : MZ W0 c0 lo W c vo (.slice (some ⟨gd, 0, none⟩) n cp) vl es0 es ds lv k) (hn : n = ds.length) (he : ds[i]? = some d) : W.cell? ⟨gd, i, none⟩ = some d.v := by
 subst hn
 exact (h.d.cell _ _ (by rw [List.getElem?_map, he]; rfl)).1
theorem MZ.celll {gd n cp i : Nat} {lv : List Value} {u : Value} (h : MZ W0 c0 lo W c vo vd (.slice (some ⟨gd, 0, none⟩) n cp) es0 es ds lv k) (hn : n = ds.length) (he : lv[i]? = some u) : W.cell? ⟨gd, i, none⟩ = some u := by
 subst hn
 exact (h.ll.cell _ _ he).1
theorem MZ.cell5 {go n cp i : Nat} {vl : Value} {lv : List Value} {e : KE} (h : MZ W0 c0 lo W c (.slice (some ⟨go, 0, none⟩) n cp) vd vl es0 es ds lv k) (hn : n = es.length) (he : es[i]? = some e) (j : Nat) (u : Value) (hj : (eKE e)[j]? = some u) : W.cell? ⟨go, i * 14 + j, none⟩ = some u := by
 subst hn
 have hj' : j < 14 := by rw [<- hKE e]; exact (List.getElem?_eq_some_iff.1 hj).1
 exact (h.o.cell _ _ (by rw [S.en_get hKE es i j e he hj']; exact hj)).1
end
set_option maxHeartbeats 40000000
set_option maxRecDepth 100000
def mk8 (i : Nat) : UInt8 := UInt8.ofNat (i + 1)
theorem mk8_nat (i : Nat) (h : i <= 10) : ((mk8 i).toNat : Int) = (i : Int) + 1 := by
 have e : (mk8 i).toNat = (i + 1) % 256 := by simp [mk8]
 rw [e]; omega
structure MA (es0 es : List KE) (k : Nat) : Prop where
 n : es.length = es0.length
 l1 : ∀ (i : Nat) (e e0 : KE), es[i]? = some e -> es0[i]? = some e0 -> e.l1.length = e0.l1.length /\ e.l2.length = e0.l2.length
 m1 : ∀ (i : Nat) (e : KE), i < k -> es[i]? = some e -> ∀ (j : Nat) x, e.l1[j]? = some x -> x = mk8 i
 m2 : ∀ (i : Nat) (e : KE), i < k -> es[i]? = some e -> ∀ (j : Nat) (t : Int × Int × Int), e.l2[j]? = some t -> t.1 = -(i : Int)
theorem MA.put {es0 es : List KE} {k : Nat} {e e' : KE} (h : MA es0 es k) (he : es[k]? = some e) (h1 : e'.l1.length = e.l1.length) (h2 : e'.l2.length = e.l2.length) : MA es0 (es.set k e') k := by
 refine ⟨by rw [List.length_set]; exact h.n, fun i x x0 hx h0 => ?_, fun i x hk hx => ?_, fun i x hk hx => ?_⟩
 ·rw [List.getElem?_set] at hx
  split at hx
  ·rename_i q; subst q
   split at hx
   ·cases hx; have := h.l1 k e x0 he h0; omega
   ·cases hx
  ·exact h.l1 i x x0 hx h0
 ·rw [List.getElem?_set_ne (by omega)] at hx; exact h.m1 i x hk hx
 ·rw [List.getElem?_set_ne (by omega)] at hx; exact h.m2 i x hk hx
theorem MA.next {es0 es : List KE} {k : Nat} {e : KE} (h : MA es0 es k) (he : es[k]? = some e) (h1 : ∀ (j : Nat) x, e.l1[j]? = some x -> x = mk8 k) (h2 : ∀ (j : Nat) (t : Int × Int × Int), e.l2[j]? = some t -> t.1 = -(k : Int)) : MA es0 es (k + 1) :=
 ⟨h.n, h.l1, fun i x hk hx => by
  by_cases q : i = k
  ·subst q; rw [he] at hx; cases hx; exact h1
  ·exact h.m1 i x (by omega) hx, fun i x hk hx => by
  by_cases q : i = k
  ·subst q; rw [he] at hx; cases hx; exact h2
  ·exact h.m2 i x (by omega) hx⟩
theorem set_put {α : Type} {es : List α} {i : Nat} {e e' : α} (he : es[i]? = some e) : (es.set i e')[i]? = some e' := by
 rw [List.getElem?_set_self (List.getElem?_eq_some_iff.1 he).1]
theorem set_id {α : Type} : ∀ {es : List α} {i : Nat} {e : α}, es[i]? = some e -> es.set i e = es
 | [], _, _, _ => rfl
 | b :: l, 0, e, h => by simp at h; subst h; rfl
 | b :: l, i + 1, e, h => by rw [List.set_cons_succ, set_id (by simpa using h)]
theorem MK.cell5 {W0 W : World} {c0 c : Nat -> Nat} {lo go n cp i : Nat} {vd : Value} {es0 es : List KE} {ds : List DE} {e : KE} (h : MK W0 c0 lo W c (.slice (some ⟨go, 0, none⟩) n cp) vd es0 es ds) (hn : n = es.length) (he : es[i]? = some e) (j : Nat) (u : Value) (hj : (eKE e)[j]? = some u) : W.cell? ⟨go, i * 14 + j, none⟩ = some u /\ W.frozen? ⟨go, i * 14 + j, none⟩ = false := by
 subst hn
 have hj' : j < 14 := by rw [<- hKE e]; exact (List.getElem?_eq_some_iff.1 hj).1
 exact h.o.cell _ _ (by rw [S.en_get hKE es i j e he hj']; exact hj)
theorem bv_at {l : List UInt8} {j : Nat} {x : UInt8} (h : l[j]? = some x) : (M.bv l)[j]? = some (.int .u8 (x.toNat : Int)) := by
 obtain ⟨h1, h2⟩ := List.getElem?_eq_some_iff.1 h
 simp [M.bv, h]
structure MJ (ds0 ds : List DE) (k : Nat) : Prop where
 n : ds.length = ds0.length
 l : ∀ (i : Nat) (e e0 : DE), ds[i]? = some e -> ds0[i]? = some e0 -> e.l.length = e0.l.length
 m : ∀ (i : Nat) (e : DE), i < k -> ds[i]? = some e -> ∀ (j : Nat) x, e.l[j]? = some x -> x = (i : Int)
theorem MJ.put {ds0 ds : List DE} {k : Nat} {e e' : DE} (h : MJ ds0 ds k) (he : ds[k]? = some e) (h1 : e'.l.length = e.l.length) : MJ ds0 (ds.set k e') k := by
 refine ⟨by rw [List.length_set]; exact h.n, fun i x x0 hx h0 => ?_, fun i x hk hx => ?_⟩
 ·rw [List.getElem?_set] at hx
  split at hx
  ·rename_i q; subst q
   split at hx
   ·cases hx; have := h.l k e x0 he h0; omega
   ·cases hx
  ·exact h.l i x x0 hx h0
 ·rw [List.getElem?_set_ne (by omega)] at hx; exact h.m i x hk hx
theorem MJ.next {ds0 ds : List DE} {k : Nat} {e : DE} (h : MJ ds0 ds k) (he : ds[k]? = some e) (h1 : ∀ (j : Nat) x, e.l[j]? = some x -> x = (k : Int)) : MJ ds0 ds (k + 1) :=
 ⟨h.n, h.l, fun i x hk hx => by
  by_cases q : i = k
  ·subst q; rw [he] at hx; cases hx; exact h1
  ·exact h.m i x (by omega) hx⟩
structure MQ (es0 es : List KE) (k : Nat) : Prop where
 n : es.length = es0.length
 c : ∀ (i : Nat) (e e0 : KE), es[i]? = some e -> es0[i]? = some e0 -> (∀ j, j < e0.l1.length -> e.l1[j]? = some (mk8 i)) /\ (∀ j, j < e0.l2.length -> ∃ t, e.l2[j]? = some t /\ t.1 = -(i : Int))
 l : ∀ (i : Nat) (e e0 : KE), k <= i -> es[i]? = some e -> es0[i]? = some e0 -> e.l1.length = e0.l1.length /\ e.l2.length = e0.l2.length
theorem MQ.of {es0 es : List KE} {k : Nat} (h : MA es0 es k) (hk : k = es0.length) : MQ es0 es 0 :=
 ⟨h.n, fun i e e0 he h0 => by
  have hl := h.l1 i e e0 he h0
  have hi : i < k := by rw [hk]; exact (List.getElem?_eq_some_iff.1 h0).1
  exact ⟨fun j hj => by
   have q := List.getElem?_eq_getElem (show j < e.l1.length by omega)
   rw [q, h.m1 i e hi he j _ q], fun j hj => by
   have q := List.getElem?_eq_getElem (show j < e.l2.length by omega)
   exact ⟨_, q, h.m2 i e hi he j _ q⟩⟩, fun i e e0 _ => h.l1 i e e0⟩
theorem MQ.app {es0 es : List KE} {k : Nat} {e e' : KE} {x : List UInt8} {y : List (Int × Int × Int)} (h : MQ es0 es k) (he : es[k]? = some e) (h1 : e'.l1 = e.l1 ++ x) (h2 : e'.l2 = e.l2 ++ y) : MQ es0 (es.set k e') (k + 1) := by
 refine ⟨by rw [List.length_set]; exact h.n, fun i q q0 hq h0 => ?_, fun i q q0 hk hq h0 => ?_⟩
 ·rw [List.getElem?_set] at hq
  split at hq
  ·rename_i r; subst r
   split at hq
   ·cases hq
    have hc := h.c k e q0 he h0
    have hl := h.l k e q0 (Nat.le_refl _) he h0
    rw [h1, h2]
    exact ⟨fun j hj => by rw [List.getElem?_append_left (by omega)]; exact hc.1 j hj, fun j hj => by rw [List.getElem?_append_left (by omega)]; exact hc.2 j hj⟩
   ·cases hq
  ·exact h.c i q q0 hq h0
 ·rw [List.getElem?_set_ne (by omega)] at hq; exact h.l i q q0 (by omega) hq h0
theorem MK.celld {W0 W : World} {c0 c : Nat -> Nat} {lo gd n cp i : Nat} {vo : Value} {es0 es : List KE} {ds : List DE} {d : DE} (h : MK W0 c0 lo W c vo (.slice (some ⟨gd, 0, none⟩) n cp) es0 es ds) (hn : n = ds.length) (he : ds[i]? = some d) : W.cell? ⟨gd, i, none⟩ = some d.v /\ W.frozen? ⟨gd, i, none⟩ = false := by
 subst hn
 exact h.d.cell _ _ (by rw [List.getElem?_map, he]; rfl)
theorem bv_app (l : List UInt8) : M.bv l ++ zeros (.int .u8 0) 64 = M.bv (l ++ List.replicate 64 0) := by rw [z8]; simp [M.bv]
theorem tc_app (l : List (Int × Int × Int)) : M.tc l ++ zeros (.agg #[.int .i64 0, .int .u16 0, .int .u8 0]) 64 = M.tc (l ++ List.replicate 64 (0, 0, 0)) := by rw [z3, tc_en, tc_en, tc_en, S.en_append]
theorem eU_app (l : List Int) : S.en S.eU l ++ zeros (.int .u16 0) 64 = S.en S.eU (l ++ List.replicate 64 0) := by rw [z16, S.en_append]
theorem was_at {es0 es : List KE} (h : es.map wasE = es0.map wasE) {i : Nat} {e e0 : KE} (he : es[i]? = some e) (h0 : es0[i]? = some e0) : wasE e = wasE e0 := by
 have : (es.map wasE)[i]? = (es0.map wasE)[i]? := by rw [h]
 rw [List.getElem?_map, List.getElem?_map, he, h0] at this
 exact Option.some.inj this
def MpX (W w' : World) (c0 : Nat -> Nat) (lo : Nat) (vo : Value) (es : List KE) : Prop := ∃ c es', S.Tc (fun i => tm (c0 i)) W w' /\ (∀ i, i < W.heap.size -> c i = c0 i) /\ es'.map wasE = es.map wasE /\ es'.length = es.length /\ Rw w' lo c 1 68 14 vo es'.length (S.en eKE es')
theorem wn (k : Int) (h : 0 <= k) (h2 : k <= 1000000) : wrap64 (-k) = -k := by unfold wrap64; omega
theorem w1s (y : Nat) (h : y < 1000000) : wrap64 ((y : Int) + 1) = ((y + 1 : Nat) : Int) := by unfold wrap64; omega
theorem marks_any {W : World} {c0 : Nat -> Nat} {lo : Nat} {po pd : Option Addr} {co cd : Nat} {es : List KE} {ds : List DE} (h : MK W c0 lo W c0 (.slice po es.length co) (.slice pd ds.length cd) es es ds) (hn : es.length <= 10) (hd : ds.length <= 20)
  (hl : ∀ e ∈ es, e.l1.length <= 1000000 /\ e.l2.length <= 1000000) (hdl : ∀ d ∈ ds, d.l.length <= 256)
  (hs : ∀ e ∈ es, (∃ p c, e.s3 = .slice p e.l1.length c) /\ ∃ p c, e.s4 = .slice p e.l2.length c) :
  Calls Tryz.prog 21 #[.slice po es.length co, .slice pd ds.length cd] W fun e w' => e = .returned (.bool true) /\ MpX W w' c0 lo (.slice po es.length co) es := by
 have H0 := hid h
 have HL := hid (And.intro hl (And.intro hdl hs))
 clear h hl hdl hs
 obtain ⟨n, hln⟩ : ∃ n, n = es.length := ⟨_, rfl⟩
 obtain ⟨nd, hld⟩ : ∃ n, n = ds.length := ⟨_, rfl⟩
 rw [<- hln] at H0 hn ⊢
 rw [<- hld] at H0 hd ⊢
 have HN := hid (And.intro hln hld)
 clear hln hld
 go_enter Tryz.func21, Tryz.ntmps21
 go_wp2
 go_loopw [21] (fun i wr => ∃ (k : Nat) (es' : List KE) (c : Nat -> Nat), k <= n /\ i = .int .i64 (k : Int) /\ MA es es' k /\ MK W c0 lo wr c (.slice po n co) (.slice pd nd cd) es es' ds) (fun i _ => n - (intOf i).toNat)
 case atStart => exact ⟨0, es, c0, Nat.zero_le _, rfl, ⟨rfl, fun i e e0 h h0 => by rw [h] at h0; cases h0; exact ⟨rfl, rfl⟩, fun i e h => by omega, fun i e h => by omega⟩, H0.out⟩
 case round =>
  obtain ⟨k, es', c, hk, rfl, hA, hK⟩ := hrel
  by_cases hlt : k < n
  ·have i1 : (k : Int) < n := Int.ofNat_lt.mpr hlt
   have w1' : wrap64 ((k : Int) + 1) = ((k + 1 : Nat) : Int) := by unfold wrap64; omega
   have hke : k < es'.length := by rw [hA.n, <- HN.out.1]; exact hlt
   have he := List.getElem?_eq_getElem hke
   generalize es'[k] = e at *
   have hnn : n = es'.length := by rw [hA.n]; exact HN.out.1
   obtain ⟨go, cg, hgo⟩ := hK.o.pos (by omega)
   obtain ⟨rfl, _, rfl⟩ : po = some ⟨go, 0, none⟩ /\ True /\ co = cg := by simp only [Value.slice.injEq] at hgo; exact ⟨hgo.1, trivial, hgo.2.2⟩
   obtain ⟨p1, cc1, h1⟩ := (hK.e1 k e he).ex
   have c5 := (hK.cell5 hnn he 5 _ rfl).1
   rw [h1] at c5
   have hle : e.l1.length <= 1000000 /\ e.l2.length <= 1000000 := by
    have h0 := List.getElem?_eq_getElem (show k < es.length by rw [<- HN.out.1]; exact hlt)
    have h1 := hA.l1 k e _ he h0
    rw [h1.1, h1.2]
    exact HL.out.1 _ (List.getElem_mem _)
   have HE := hid hle
   have HNN := hid hnn
   have HA := hid hA
   have HK := hid hK
   clear hle
   clear hA hK hgo hnn
   go_wp2
   go_loopw [31] (fun j w3 => ∃ (y : Nat) (lx : List UInt8) (c : Nat -> Nat), y <= e.l1.length /\ j = .int .i64 (y : Int) /\ lx.length = e.l1.length /\ (∀ m, m < y -> lx[m]? = some (mk8 k)) /\ MK W c0 lo w3 c (.slice (some ⟨go, 0, none⟩) n co) (.slice pd nd cd) es (es'.set k { e with l1 := lx }) ds) (fun j _ => e.l1.length - (intOf j).toNat)
   case atStart => exact ⟨0, e.l1, c, Nat.zero_le _, rfl, rfl, fun m hm => by omega, by rw [set_id he]; exact HK.out⟩
   case round =>
    clear HK c5
    rename_i w3 hrel
    obtain ⟨y, lx, c, hy, rfl, hlx, hm, hK⟩ := hrel
    have hln : n = (es'.set k { e with l1 := lx }).length := by rw [List.length_set]; exact HNN.out
    have he3 := set_put (e' := { e with l1 := lx }) he
    have c5 := (hK.cell5 hln he3 5 _ rfl).1
    simp only [h1] at c5
    by_cases hyl : y < e.l1.length
    ·have i2 : (y : Int) < e.l1.length := Int.ofNat_lt.mpr hyl
     have w2' : wrap64 ((y : Int) + 1) = ((y + 1 : Nat) : Int) := by have := HE.out.1; unfold wrap64; omega
     have r1 := hK.e1 k _ he3
     simp only [h1, hlx] at r1
     obtain ⟨g1, cg1, hg1⟩ := r1.pos (by omega)
     obtain ⟨rfl, rfl⟩ : p1 = some ⟨g1, 0, none⟩ /\ cc1 = cg1 := by simp only [Value.slice.injEq] at hg1; exact ⟨hg1.1, hg1.2.2⟩
     have hx := List.getElem?_eq_getElem (show y < lx.length by omega)
     obtain ⟨y1, z1⟩ := r1.cell y _ (bv_at hx)
     have hP := hK.put1 (j := y) he3 h1 hlx.symm (mk8 k)
     rw [mk8_nat k (by omega)] at hP
     rw [List.set_set] at hP
     simp only at hP
     have HP := hid hP
     have HM := hid (show ∀ m, m < y + 1 -> (lx.set y (mk8 k))[m]? = some (mk8 k) from fun m hm' => by
      rw [List.getElem?_set]
      by_cases q : y = m
      ·rw [if_pos q, if_pos (by omega)]
      ·rw [if_neg q]; exact hm m (by omega))
     clear hP hK r1 hm hg1
     go_wp2
     go_roundw
     case rel => exact ⟨y + 1, lx.set y (mk8 k), c, hyl, (by first | rw [w2'] | simp), by rw [List.length_set]; exact hlx, HM.out, HP.out⟩
     case measure => exact msr2 e.l1.length _ _ y (by first | rw [w2'] | simp) rfl hyl
    ·obtain rfl : y = e.l1.length := by omega
     have i2 : ¬ (e.l1.length : Int) < e.l1.length := by omega
     have hA2 := (HA.out.put he (e' := { e with l1 := lx }) hlx rfl)
     have hM1 : ∀ (j : Nat) x, lx[j]? = some x -> x = mk8 k := fun j x hj => by
      have := hm j (by have := (List.getElem?_eq_some_iff.1 hj).1; omega)
      rw [this] at hj; exact (Option.some.inj hj).symm
     have HA2 := hid (And.intro hA2 (And.intro hM1 he3))
     obtain ⟨p2, cc2, h2⟩ := (hK.e2 k _ he3).ex
     have c6 := (hK.cell5 hln he3 6 _ rfl).1
     simp only at h2
     simp only [h2] at c6
     clear hln
     have HK := hid hK
     have HA0 := hid HA.out
     clear hA2 hM1 hK hm c5
     go_wp2
     go_loopw [53] (fun j w3 => ∃ (y : Nat) (lt : List (Int × Int × Int)) (c : Nat -> Nat), y <= e.l2.length /\ j = .int .i64 (y : Int) /\ lt.length = e.l2.length /\ (∀ (m : Nat) t, m < y -> lt[m]? = some t -> t.1 = -(k : Int)) /\ MK W c0 lo w3 c (.slice (some ⟨go, 0, none⟩) n co) (.slice pd nd cd) es (es'.set k { e with l1 := lx, l2 := lt }) ds) (fun j _ => e.l2.length - (intOf j).toNat)
     case atStart => exact ⟨0, e.l2, c, Nat.zero_le _, rfl, rfl, fun m t hm => by omega, HK.out⟩
     case round =>
      clear HK c6
      obtain ⟨y, lt, c, hy, rfl, hlt', hm, hK⟩ := hrel
      have hln : n = (es'.set k { e with l1 := lx, l2 := lt }).length := by rw [List.length_set]; exact HNN.out
      have he4 := set_put (e' := { e with l1 := lx, l2 := lt }) he
      have c6 := (hK.cell5 hln he4 6 _ rfl).1
      simp only [h2] at c6
      clear hln
      by_cases hyl : y < e.l2.length
      ·have i2 : (y : Int) < e.l2.length := Int.ofNat_lt.mpr hyl
       have r1 := hK.e2 k _ he4
       simp only [h2, hlt'] at r1
       obtain ⟨g1, cg1, hg1⟩ := r1.pos (Nat.lt_of_le_of_lt (Nat.zero_le y) hyl)
       obtain ⟨rfl, rfl⟩ : p2 = some ⟨g1, 0, none⟩ /\ cc2 = cg1 := by simp only [Value.slice.injEq] at hg1; exact ⟨hg1.1, hg1.2.2⟩
       obtain ⟨tq, hx⟩ : ∃ tq, lt[y]? = some tq := ⟨_, List.getElem?_eq_getElem (show y < lt.length by rw [hlt']; exact hyl)⟩
       obtain ⟨y1, z1⟩ := r1.cell (y * 3) _ (tc_get lt y _ hx).1
       have hP := hK.put2 (j := y) he4 h2 hlt'.symm hx (-(k : Int))
       rw [List.set_set] at hP
       simp only at hP
       have HP := hid hP
       have HM := hid (show ∀ (m : Nat) t, m < y + 1 -> (lt.set y (-(k : Int), tq.2))[m]? = some t -> t.1 = -(k : Int) from fun m t hm' ht => by
        rw [List.getElem?_set] at ht
        by_cases q : y = m
        ·rw [if_pos q, if_pos (by rw [hlt']; exact hyl)] at ht; cases ht; rfl
        ·rw [if_neg q] at ht; exact hm m t (Nat.lt_of_le_of_ne (Nat.le_of_lt_succ hm') fun e => q e.symm) ht)
       clear hP hK r1 hm hg1
       have w3' : wrap64 (-(k : Int)) = -(k : Int) := wn (k : Int) (Int.natCast_nonneg k) (Int.le_trans (Int.ofNat_le.mpr (Nat.le_trans (Nat.le_of_lt hlt) hn)) (by decide))
       have w2' : wrap64 ((y : Int) + 1) = ((y + 1 : Nat) : Int) := w1s y (Nat.lt_of_lt_of_le hyl HE.out.2)
       go_wp2
       go_roundw
       case rel => exact ⟨y + 1, lt.set y (-(k : Int), tq.2), c, hyl, (by first | rw [w2'] | simp), by rw [List.length_set]; exact hlt', HM.out, HP.out⟩
       case measure => exact msr2 e.l2.length _ _ y (by first | rw [w2'] | simp) rfl hyl
      ·obtain rfl : y = e.l2.length := by omega
       have i2 : ¬ (e.l2.length : Int) < e.l2.length := by omega
       have hA3 : MA es (es'.set k { e with l1 := lx, l2 := lt }) k := HA0.out.put he hlx hlt'
       have hN := hA3.next he4 HA2.out.2.1 (fun j t hj => hm j t (by have := (List.getElem?_eq_some_iff.1 hj).1; rw [<- hlt']; exact this) hj)
       have HX := hid (And.intro hN hK)
       clear hA3 hN hK hm c6
       go_wp2
       go_roundw
       case rel => exact ⟨k + 1, _, c, hlt, (by first | rw [w1'] | simp), HX.out.1, HX.out.2⟩
       case measure => exact msr2 n _ _ k (by first | rw [w1'] | simp) rfl hlt
  ·obtain rfl : k = n := by omega
   have i1 : ¬ (k : Int) < k := by omega
   have HA := hid (And.intro (MQ.of hA HN.out.1) hK)
   clear hA hK H0
   go_wp2
   go_loopw [71] (fun i wr => ∃ (y : Nat) (ds' : List DE) (c : Nat -> Nat), y <= nd /\ i = .int .i64 (y : Int) /\ MJ ds ds' y /\ MK W c0 lo wr c (.slice po k co) (.slice pd nd cd) es es' ds') (fun i _ => nd - (intOf i).toNat)
   case atStart => exact ⟨0, ds, c, Nat.zero_le _, rfl, ⟨rfl, fun i e e0 h h0 => by rw [h] at h0; cases h0; rfl, fun i e h => by omega⟩, HA.out.2⟩
   case round =>
    have HC := hid HA.out.1
    clear HA
    rename_i w2 hrel
    obtain ⟨y, ds', c, hy, rfl, hD, hK⟩ := hrel
    by_cases hlt : y < nd
    ·have i2 : (y : Int) < nd := Int.ofNat_lt.mpr hlt
     have hnn : nd = ds'.length := by rw [hD.n]; exact HN.out.2
     have he := List.getElem?_eq_getElem (show y < ds'.length by rw [<- hnn]; exact hlt)
     generalize ds'[y] = d at *
     obtain ⟨gd, cg, hgo⟩ := hK.d.pos (by rw [<- hnn]; exact Nat.lt_of_le_of_lt (Nat.zero_le _) hlt)
     obtain ⟨rfl, rfl⟩ : pd = some ⟨gd, 0, none⟩ /\ cd = cg := by simp only [Value.slice.injEq] at hgo; exact ⟨hgo.1, hgo.2.2⟩
     obtain ⟨p1, cc1, h1⟩ := (hK.d1 y d he).ex
     have c5 := (hK.celld hnn he).1
     rw [h1] at c5
     have hle : d.l.length <= 256 := by
      have h0 := List.getElem?_eq_getElem (show y < ds.length by rw [<- HN.out.2]; exact hlt)
      rw [hD.l y d _ he h0]
      exact HL.out.2.1 _ (List.getElem_mem _)
     have HE := hid hle
     have HD := hid hD
     have HK := hid hK
     have HNN := hid hnn
     clear hD hK hgo hnn hle
     go_wp2
     go_loopw [79] (fun j w3 => ∃ (z : Nat) (lx : List Int) (c : Nat -> Nat), z <= d.l.length /\ j = .int .i64 (z : Int) /\ lx.length = d.l.length /\ (∀ (m : Nat) x, m < z -> lx[m]? = some x -> x = (y : Int)) /\ MK W c0 lo w3 c (.slice po k co) (.slice (some ⟨gd, 0, none⟩) nd cd) es es' (ds'.set y { d with l := lx })) (fun j _ => d.l.length - (intOf j).toNat)
     case atStart => exact ⟨0, d.l, c, Nat.zero_le _, rfl, rfl, fun m x hm => by omega, by rw [set_id he]; exact HK.out⟩
     case round =>
      clear HK c5
      rename_i w3 hrel
      obtain ⟨z, lx, c, hz, rfl, hlx, hm, hK⟩ := hrel
      have he3 := set_put (e' := { d with l := lx }) he
      have c5 := (hK.celld (show nd = _ by rw [List.length_set]; exact HNN.out) he3).1
      simp only [h1] at c5
      by_cases hyl : z < d.l.length
      ·have i3 : (z : Int) < d.l.length := Int.ofNat_lt.mpr hyl
       have r1 := hK.d1 y _ he3
       simp only [h1, hlx] at r1
       obtain ⟨g1, cg1, hg1⟩ := r1.pos (Nat.lt_of_le_of_lt (Nat.zero_le z) hyl)
       obtain ⟨rfl, rfl⟩ : p1 = some ⟨g1, 0, none⟩ /\ cc1 = cg1 := by simp only [Value.slice.injEq] at hg1; exact ⟨hg1.1, hg1.2.2⟩
       obtain ⟨tq, hx⟩ : ∃ tq, lx[z]? = some tq := ⟨_, List.getElem?_eq_getElem (show z < lx.length by rw [hlx]; exact hyl)⟩
       obtain ⟨y1, z1⟩ := r1.cell z _ (eU_at hx)
       have hP := hK.put3 (j := z) he3 h1 hlx.symm hx (y : Int)
       rw [List.set_set] at hP
       simp only at hP
       have HP := hid hP
       have HM := hid (show ∀ (m : Nat) x, m < z + 1 -> (lx.set z (y : Int))[m]? = some x -> x = (y : Int) from fun m x hm' ht => by
        rw [List.getElem?_set] at ht
        by_cases q : z = m
        ·rw [if_pos q, if_pos (by rw [hlx]; exact hyl)] at ht; cases ht; rfl
        ·rw [if_neg q] at ht; exact hm m x (Nat.lt_of_le_of_ne (Nat.le_of_lt_succ hm') fun e => q e.symm) ht)
       clear hP hK r1 hm hg1
       have w2' : wrap64 ((z : Int) + 1) = ((z + 1 : Nat) : Int) := w1s z (Nat.lt_of_lt_of_le hyl (Nat.le_trans HE.out (by decide)))
       go_wp2
       go_roundw
       case rel => exact ⟨z + 1, lx.set z (y : Int), c, hyl, (by first | rw [w2'] | simp), by rw [List.length_set]; exact hlx, HM.out, HP.out⟩
       case measure => exact msr2 d.l.length _ _ z (by first | rw [w2'] | simp) rfl hyl
      ·obtain rfl : z = d.l.length := by omega
       have i3 : ¬ (d.l.length : Int) < d.l.length := by omega
       have hN := (HD.out.put he (e' := { d with l := lx }) hlx).next he3 (fun j x hj => hm j x (by have := (List.getElem?_eq_some_iff.1 hj).1; rw [<- hlx]; exact this) hj)
       have HX := hid (And.intro hN hK)
       clear hN hK hm c5
       have w1' : wrap64 ((y : Int) + 1) = ((y + 1 : Nat) : Int) := w1s y (Nat.lt_of_lt_of_le hlt (Nat.le_trans hd (by decide)))
       go_wp2
       go_roundw
       case rel => exact ⟨y + 1, _, c, hlt, (by first | rw [w1'] | simp), HX.out.1, HX.out.2⟩
       case measure => exact msr2 nd _ _ y (by first | rw [w1'] | simp) rfl hlt
    ·obtain rfl : y = nd := by omega
     have i2 : ¬ (y : Int) < y := by omega
     have HB := hid (And.intro hD hK)
     have HQ0 := hid HC.out
     clear hD hK
     clear HC
     go_wp2
     go_loopw [94] (fun i wr => ∃ (q : Nat) (es2 : List KE) (c : Nat -> Nat), q <= k /\ i = .int .i64 (q : Int) /\ MQ es es2 q /\ MK W c0 lo wr c (.slice po k co) (.slice pd y cd) es es2 ds') (fun i _ => k - (intOf i).toNat)
     case atStart => exact ⟨0, es', c, Nat.zero_le _, rfl, HQ0.out, HB.out.2⟩
     case round =>
      have HJ := hid HB.out.1
      clear HB HQ0
      obtain ⟨q, es2, c, hq, rfl, hQ, hK⟩ := hrel
      by_cases hlt : q < k
      ·have i3 : (q : Int) < k := Int.ofNat_lt.mpr hlt
       have hnn : k = es2.length := by rw [hQ.n]; exact HN.out.1
       have he := List.getElem?_eq_getElem (show q < es2.length by rw [<- hnn]; exact hlt)
       generalize es2[q] = e at *
       obtain ⟨go, cg, hgo⟩ := hK.o.pos (by rw [<- hnn]; exact Nat.lt_of_le_of_lt (Nat.zero_le _) hlt)
       obtain ⟨rfl, rfl⟩ : po = some ⟨go, 0, none⟩ /\ co = cg := by simp only [Value.slice.injEq] at hgo; exact ⟨hgo.1, hgo.2.2⟩
       have hle : e.l1.length <= 1000000 /\ e.l2.length <= 1000000 := by
        have h0 := List.getElem?_eq_getElem (show q < es.length by rw [<- HN.out.1]; exact hlt)
        have h1 := hQ.l q e _ (Nat.le_refl _) he h0
        rw [h1.1, h1.2]
        exact HL.out.1 _ (List.getElem_mem _)
       have hzl : lo <= wr.heap.size := Nat.le_trans hK.lz hK.t.size
       have r1 := hK.e1 q e he
       have r2 := hK.e2 q e he
       obtain ⟨p1, cc1, h1⟩ := r1.ex
       obtain ⟨p2, cc2, h2⟩ := r2.ex
       have c5 := (hK.cell5 hnn he 5 _ rfl).1
       rw [h1] at c5
       have r1' := r1.1
       rw [h1] at r1'
       have HR := hid (And.intro hK (And.intro hnn hle))
       have HQ := hid hQ
       have b1 : (e.l1.length + 64) * 1 <= S.room /\ e.l1.length + 64 <= maxLen := by unfold S.room maxLen; omega
       have b2 : (e.l2.length + 64) * 16 <= S.room /\ e.l2.length + 64 <= maxLen := by unfold S.room maxLen; omega
       have HB2 := hid b2
       clear hK hQ hgo hnn hle r1 r2 b2
       go_upto_region 28 with (at_builtin; refine wpList_apm wr rfl _ 25 5 _ 1 1 64 64 rfl (by decide) Tryz.underlying25 infoU8 rfl (by decide) one8 rfl lo (.slice p1 e.l1.length cc1) e.l1.length (M.bv e.l1) rfl r1' b1.1 b1.2 hzl (fun v1 w1 x1 g1 => ?_); rw [bv_app] at x1; obtain ⟨q1, d1, rfl⟩ := own_form x1; have g1' : S.Grew wr w1 e.s1 (.slice q1 (e.l1.length + 64) d1) := by { rw [h1]; exact g1 }; obtain ⟨c5', z5'⟩ := HR.out.1.o1 HR.out.2.1 he rfl g1' x1 5 _ rfl; clear c5)
       obtain ⟨c9, hK9⟩ := HR.out.1.app1 (l' := e.l1 ++ List.replicate 64 0) he (by rw [HR.out.2.1]) g1' (by rw [List.length_append, List.length_replicate]; exact x1)
       clear g1' g1 x1 c5' z5' r1' b1
       generalize w1.setCell ⟨go, q * 14 + 5, none⟩ (.slice q1 (e.l1.length + 64) d1) = w5 at *
       have he5 := set_put (e' := { e with s1 := .slice q1 (e.l1.length + 64) d1, l1 := e.l1 ++ List.replicate 64 0 }) he
       have hnn : k = (es2.set q { e with s1 := .slice q1 (e.l1.length + 64) d1, l1 := e.l1 ++ List.replicate 64 0 }).length := by rw [List.length_set]; exact HR.out.2.1
       have c6 := (hK9.cell5 hnn he5 6 _ rfl).1
       simp only [h2] at c6
       have r2 := hK9.e2 q _ he5
       simp only [h2] at r2
       have r2' := r2.1
       have hz5 : lo <= w5.heap.size := Nat.le_trans hK9.lz hK9.t.size
       have HR5 := hid (And.intro hK9 (And.intro hnn he5))
       have h2' : ({ e with s1 := .slice q1 (e.l1.length + 64) d1, l1 := e.l1 ++ List.replicate 64 0 } : KE).s2 = .slice p2 e.l2.length cc2 := h2
       have HE2 := hid h2'
       clear hK9 hnn he5 r2 h2'
       have b2 := HB2.out
       go_wp2_with (at_builtin; refine wpList_apm w5 rfl _ 26 117 _ 3 16 64 64 rfl (by decide) Tryz.underlying26 infoTone rfl (by decide) one3 rfl lo (.slice p2 e.l2.length cc2) e.l2.length (M.tc e.l2) rfl r2' b2.1 b2.2 hz5 (fun v2 w2 x2 g2 => ?_); rw [tc_app] at x2; obtain ⟨q2, d2, rfl⟩ := own_form x2; have g2' := HE2.out ▸ g2; obtain ⟨c6', z6'⟩ := HR5.out.1.o2 HR5.out.2.1 HR5.out.2.2 rfl g2' x2 6 _ rfl; clear c6)
       obtain ⟨c10, hK10⟩ := HR5.out.1.app2 (l' := e.l2 ++ List.replicate 64 (0, 0, 0)) HR5.out.2.2 (by rw [HR5.out.2.1]) g2' (by rw [List.length_append, List.length_replicate]; exact x2)
       rw [List.set_set] at hK10
       have hQ' := HQ.out.app he (e' := { e with s1 := .slice q1 (e.l1.length + 64) d1, l1 := e.l1 ++ List.replicate 64 0, s2 := .slice q2 (e.l2.length + 64) d2, l2 := e.l2 ++ List.replicate 64 (0, 0, 0) }) rfl rfl
       have HX := hid (And.intro hQ' hK10)
       clear g2' g2 x2 c6' z6' r2' b2 hQ' hK10
       go_roundw
       case rel => exact ⟨q + 1, _, c10, hlt, (by first | simp | rw [w1s q (Nat.lt_of_lt_of_le hlt (Nat.le_trans hn (by decide)))]), HX.out.1, HX.out.2⟩
       case measure => exact msr2 k _ _ q (by first | simp | rw [w1s q (Nat.lt_of_lt_of_le hlt (Nat.le_trans hn (by decide)))]) rfl hlt
      ·obtain rfl : q = k := by omega
       have i3 : ¬ (q : Int) < q := by omega
       have mk := D.run_make_any wr 65 37 (.slice none 0 0) 1 24 Tryz.underlying65 infoUs y (by omega) (by unfold maxLen; omega)
       obtain ⟨V, hV⟩ : ∃ V, wr.alloc (.cells (madeCells (Value.slice none 0 0).cells (y * 1)) 37) = V := ⟨_, rfl⟩
       have bV : Below wr.heap.size wr V := by rw [<- hV]; exact P.bel_alloc _ _
       have oV : V.ownsRow wr.heap.size 37 1 (.slice (some ⟨wr.heap.size, 0, none⟩) y y) y (madeCells (Value.slice none 0 0).cells (y * 1)).toList := by
        rw [<- hV]; exact World.ownsRow_lit wr _ y (Nat.le_refl _) (by unfold maxLen; omega) (size_madeCells _ _)
       rw [hV] at mk
       have hnd : y = ds'.length := by rw [HJ.out.n]; exact HN.out.2
       rw [hnd] at oV
       obtain ⟨cz, hZ⟩ := MZ.of hK bV oV (fun i v hi => by rw [show (Value.slice none 0 0).cells = #[Value.slice none 0 0] from rfl, toList_madeCells_one, List.getElem?_replicate] at hi; split at hi <;> cases hi; exact ⟨_, _, _, rfl⟩)
       rw [<- hnd] at hZ
       obtain ⟨gl, hgl⟩ : ∃ g, g = wr.heap.size := ⟨_, rfl⟩
       rw [<- hgl] at hZ mk
       have HZ := hid (And.intro hQ hZ)
       have HV := hid hV
       have HND := hid hnd
       have HS := hid (show ∀ (t : Nat) (d : DE), ds'[t]? = some d -> ∃ p c, d.v = .slice p d.l.length c from fun t d ht => (hK.d1 t d ht).ex)
       clear hQ hK hV bV oV hnd hZ hgl
       go_wp2
       go_loopw [127] (fun i w5 => ∃ (z : Nat) (lv : List Value) (c : Nat -> Nat), z <= y /\ i = .int .i64 (z : Int) /\ MZ W c0 lo w5 c (.slice po q co) (.slice pd y cd) (.slice (some ⟨gl, 0, none⟩) y y) es es2 ds' lv z) (fun i _ => y - (intOf i).toNat)
       case atStart => exact ⟨0, _, cz, Nat.zero_le _, rfl, HZ.out.2⟩
       case round =>
        have HQ := hid HZ.out.1
        clear HZ mk HV
        obtain ⟨z, lv, c, hz, rfl, hZ⟩ := hrel
        by_cases hlt : z < y
        ·have i4 : (z : Int) < y := Int.ofNat_lt.mpr hlt
         have he := List.getElem?_eq_getElem (show z < ds'.length by rw [<- HND.out]; exact hlt)
         generalize ds'[z] = d at *
         obtain ⟨gd, cg, hgo⟩ := hZ.d.pos (by rw [<- HND.out]; exact Nat.lt_of_le_of_lt (Nat.zero_le _) hlt)
         obtain ⟨rfl, rfl⟩ : pd = some ⟨gd, 0, none⟩ /\ cd = cg := by simp only [Value.slice.injEq] at hgo; exact ⟨hgo.1, hgo.2.2⟩
         have hle : d.l.length <= 256 := by
          have h0 := List.getElem?_eq_getElem (show z < ds.length by rw [<- HN.out.2]; exact hlt)
          rw [HJ.out.l z d _ he h0]
          exact HL.out.2.1 _ (List.getElem_mem _)
         have r1 := hZ.d1 z d (Nat.le_refl _) he
         obtain ⟨p1, cc1, h1⟩ := r1.ex
         have c5 := hZ.celld HND.out he
         rw [h1] at c5
         have r1' := r1.1
         rw [h1] at r1'
         have b1 : (d.l.length + 64) * 2 <= S.room /\ d.l.length + 64 <= maxLen := by unfold S.room maxLen; omega
         have hzl : lo <= wr.heap.size := Nat.le_trans hZ.lz hZ.t.size
         have HZZ := hid hZ
         clear hZ hgo r1 hle
         go_wp2_with (at_builtin; refine wpList_apm wr rfl _ 37 57 _ 1 2 64 64 rfl (by decide) Tryz.underlying37 infoU16 rfl (by decide) one16 rfl lo (.slice p1 d.l.length cc1) d.l.length (S.en S.eU d.l) rfl r1' b1.1 b1.2 hzl (fun v1 w1 x1 g1 => ?_); rw [eU_app] at x1; obtain ⟨q1, d1, rfl⟩ := own_form x1; have g1' : S.Grew wr w1 d.v (.slice q1 (d.l.length + 64) d1) := by { rw [h1]; exact g1 }; obtain ⟨c9, p9, n9, q9, y9, z9, hZ9⟩ := HZZ.out.app he g1' HND.out (x := List.replicate 64 0) (by rw [List.length_append, List.length_replicate]; exact x1) ⟨_, _, _, rfl⟩; clear c5)
         have HX := hid hZ9
         clear hZ9 g1' g1 x1 y9 z9 r1' b1
         go_roundw
         case rel => exact ⟨z + 1, _, c9, hlt, (by first | simp | rw [w1s z (Nat.lt_of_lt_of_le hlt (Nat.le_trans hd (by decide)))]), HX.out⟩
         case measure => exact msr2 y _ _ z (by first | simp | rw [w1s z (Nat.lt_of_lt_of_le hlt (Nat.le_trans hd (by decide)))]) rfl hlt
        ·obtain rfl : z = y := by omega
         have i4 : ¬ (z : Int) < z := by omega
         have HZ := hid hZ
         clear hZ
         obtain ⟨V, hwV⟩ : ∃ V, V = wr := ⟨_, rfl⟩
         rw [<- hwV] at HZ ⊢
         have HWV := hid hwV
         clear hwV
         go_wp2
         go_loopw [141] (fun i w5 => ∃ (x : Nat), x <= q /\ i = .int .i64 (x : Int) /\ w5 = V) (fun i _ => q - (intOf i).toNat)
         case atStart => exact ⟨0, Nat.zero_le _, rfl, rfl⟩
         case round =>
          obtain ⟨x, hx, rfl, hwv⟩ := hrel
          obtain rfl : V = wr := hwv.symm
          by_cases hlt : x < q
          ·have i5 : (x : Int) < q := Int.ofNat_lt.mpr hlt
           obtain ⟨e, he⟩ : ∃ e, es2[x]? = some e := ⟨_, List.getElem?_eq_getElem (show x < es2.length by rw [HQ.out.n, <- HN.out.1]; exact hlt)⟩
           obtain ⟨e0, h0⟩ : ∃ e, es[x]? = some e := ⟨_, List.getElem?_eq_getElem (show x < es.length by rw [<- HN.out.1]; exact hlt)⟩
           have hsz := HL.out.1 e0 (List.mem_of_getElem? h0)
           have hss := HL.out.2.2 e0 (List.mem_of_getElem? h0)
           obtain ⟨go, cg, hgo⟩ := HZ.out.o.pos (by rw [HQ.out.n, <- HN.out.1]; exact Nat.lt_of_le_of_lt (Nat.zero_le _) hlt)
           obtain ⟨rfl, rfl⟩ : po = some ⟨go, 0, none⟩ /\ co = cg := by simp only [Value.slice.injEq] at hgo; exact ⟨hgo.1, hgo.2.2⟩
           have hnn : q = es2.length := by rw [HQ.out.n]; exact HN.out.1
           have hw := was_at HZ.out.was he h0
           simp only [wasE, Prod.mk.injEq] at hw
           obtain ⟨⟨p3, c3, e3⟩, p4, c4, e4⟩ := hss
           have e3' : e.s3 = .slice p3 e0.l1.length c3 := hw.2.1.trans e3
           have e4' : e.s4 = .slice p4 e0.l2.length c4 := hw.2.2.1.trans e4
           have r1 := HZ.out.e1 x e he
           have r2 := HZ.out.e2 x e he
           obtain ⟨p1, cc1, h1⟩ := r1.ex
           obtain ⟨p2, cc2, h2⟩ := r2.ex
           have c5 := HZ.out.cell5 hnn he 5 _ rfl
           have c6 := HZ.out.cell5 hnn he 6 _ rfl
           have c12 := HZ.out.cell5 hnn he 12 _ rfl
           have c13 := HZ.out.cell5 hnn he 13 _ rfl
           rw [h1] at c5
           rw [h2] at c6
           rw [e3'] at c12
           rw [e4'] at c13
           have hc := HQ.out.c x e e0 he h0
           have HG := hid (And.intro r1 (And.intro r2 (And.intro hc (And.intro h1 h2))))
           have HSZ := hid hsz
           clear hgo hnn hw e3 e4 e3' e4' r1 r2 hc hsz
           go_wp2
           go_loopw [15] (fun i w5 => ∃ (j : Nat), j <= e0.l1.length /\ i = .int .i64 (j : Int) /\ w5 = V) (fun i _ => e0.l1.length - (intOf i).toNat)
           case atStart => exact ⟨0, Nat.zero_le _, rfl, rfl⟩
           case round =>
            obtain ⟨j, hj, rfl, hwv⟩ := hrel
            obtain rfl : V = wr := hwv.symm
            by_cases hjl : j < e0.l1.length
            ·have i6 : (j : Int) < e0.l1.length := Int.ofNat_lt.mpr hjl
             have q1 := HG.out.2.2.1.1 j hjl
             have hjm := (List.getElem?_eq_some_iff.1 q1).1
             have i7 : (j : Int) < e.l1.length := Int.ofNat_lt.mpr hjm
             have r1 := HG.out.1
             rw [HG.out.2.2.2.1] at r1
             obtain ⟨g1, cg1, hg1⟩ := r1.pos (Nat.lt_of_le_of_lt (Nat.zero_le j) hjm)
             obtain ⟨rfl, rfl⟩ : p1 = some ⟨g1, 0, none⟩ /\ cc1 = cg1 := by simp only [Value.slice.injEq] at hg1; exact ⟨hg1.1, hg1.2.2⟩
             have y1 := (r1.cell j _ (bv_at q1)).1
             rw [mk8_nat x (Nat.le_trans (Nat.le_of_lt hlt) hn)] at y1
             have w2' : wrap64 ((j : Int) + 1) = ((j + 1 : Nat) : Int) := w1s j (Nat.lt_of_lt_of_le hjl HSZ.out.1)
             clear r1 hg1 q1
             go_wp2
             go_roundw
             case rel => exact ⟨j + 1, hjl, (by first | rw [w2'] | simp), (by first | rfl | trivial)⟩
             case measure => exact msr2 e0.l1.length _ _ j (by first | rw [w2'] | simp) rfl hjl
            ·obtain rfl : j = e0.l1.length := by omega
             have i6 : ¬ (e0.l1.length : Int) < e0.l1.length := by omega
             go_wp2
             go_loopw [176] (fun i w5 => ∃ (j : Nat), j <= e0.l2.length /\ i = .int .i64 (j : Int) /\ w5 = V) (fun i _ => e0.l2.length - (intOf i).toNat)
             case atStart => exact ⟨0, Nat.zero_le _, rfl, rfl⟩
             case round =>
              obtain ⟨j, hj, rfl, hwv⟩ := hrel
              obtain rfl : V = wr := hwv.symm
              by_cases hjl : j < e0.l2.length
              ·have i7 : (j : Int) < e0.l2.length := Int.ofNat_lt.mpr hjl
               obtain ⟨tq, q1, q2⟩ := HG.out.2.2.1.2 j hjl
               have hjm := (List.getElem?_eq_some_iff.1 q1).1
               have i8 : (j : Int) < e.l2.length := Int.ofNat_lt.mpr hjm
               have r1 := HG.out.2.1
               rw [HG.out.2.2.2.2] at r1
               obtain ⟨g1, cg1, hg1⟩ := r1.pos (Nat.lt_of_le_of_lt (Nat.zero_le j) hjm)
               obtain ⟨rfl, rfl⟩ : p2 = some ⟨g1, 0, none⟩ /\ cc2 = cg1 := by simp only [Value.slice.injEq] at hg1; exact ⟨hg1.1, hg1.2.2⟩
               have y1 := (r1.cell (j * 3) _ (tc_get e.l2 j tq q1).1).1
               rw [q2] at y1
               have w3' : wrap64 (-(x : Int)) = -(x : Int) := wn (x : Int) (Int.natCast_nonneg x) (Int.le_trans (Int.ofNat_le.mpr (Nat.le_trans (Nat.le_of_lt hlt) hn)) (by decide))
               have w2' : wrap64 ((j : Int) + 1) = ((j + 1 : Nat) : Int) := w1s j (Nat.lt_of_lt_of_le hjl HSZ.out.2)
               clear r1 hg1 q1 q2
               go_wp2
               go_roundw
               case rel => exact ⟨j + 1, hjl, (by first | rw [w2'] | simp), (by first | rfl | trivial)⟩
               case measure => exact msr2 e0.l2.length _ _ j (by first | rw [w2'] | simp) rfl hjl
              ·obtain rfl : j = e0.l2.length := by omega
               have i7 : ¬ (e0.l2.length : Int) < e0.l2.length := by omega
               have w1' : wrap64 ((x : Int) + 1) = ((x + 1 : Nat) : Int) := w1s x (Nat.lt_of_lt_of_le hlt (Nat.le_trans hn (by decide)))
               clear HG HSZ
               go_wp2
               go_roundw
               case rel => exact ⟨x + 1, hlt, (by first | rw [w1'] | simp), (by first | rfl | trivial)⟩
               case measure => exact msr2 q _ _ x (by first | rw [w1'] | simp) rfl hlt
          ·obtain rfl : x = q := by omega
           have i5 : ¬ (x : Int) < x := by omega
           go_wp2
           go_loopw [196] (fun i w5 => ∃ (x : Nat), x <= z /\ i = .int .i64 (x : Int) /\ w5 = V) (fun i _ => z - (intOf i).toNat)
           case atStart => exact ⟨0, Nat.zero_le _, rfl, rfl⟩
           case round =>
            obtain ⟨t, ht, rfl, hwv⟩ := hrel
            obtain rfl : V = wr := hwv.symm
            by_cases hlt : t < z
            ·have i6 : (t : Int) < z := Int.ofNat_lt.mpr hlt
             obtain ⟨d, he⟩ : ∃ e, ds'[t]? = some e := ⟨_, List.getElem?_eq_getElem (show t < ds'.length by rw [<- HND.out]; exact hlt)⟩
             obtain ⟨d0, h0⟩ : ∃ e, ds[t]? = some e := ⟨_, List.getElem?_eq_getElem (show t < ds.length by rw [<- HN.out.2]; exact hlt)⟩
             have hle : d.l.length <= 256 := by rw [HJ.out.l t d d0 he h0]; exact HL.out.2.1 d0 (List.mem_of_getElem? h0)
             obtain ⟨gd, cg, hgo⟩ := HZ.out.d.pos (by rw [<- HND.out]; exact Nat.lt_of_le_of_lt (Nat.zero_le _) hlt)
             obtain ⟨rfl, rfl⟩ : pd = some ⟨gd, 0, none⟩ /\ cd = cg := by simp only [Value.slice.injEq] at hgo; exact ⟨hgo.1, hgo.2.2⟩
             obtain ⟨a1, v, a2, a3⟩ := HZ.out.d2 t d hlt he
             obtain ⟨pv, nv, cv, rfl⟩ := HZ.out.ls t v a2
             obtain ⟨p1, cc1, h1⟩ := HS.out t d he
             have c5 := HZ.out.celld HND.out he
             have c6 := HZ.out.celll HND.out a2
             rw [h1] at c5 a1
             have hmj := HJ.out.m t d hlt he
             have HG := hid (And.intro a1 (And.intro a3 hmj))
             have HE := hid hle
             clear hgo a1 a3 hmj hle
             go_wp2
             go_loopw [204] (fun i w5 => ∃ (j : Nat), j <= d.l.length /\ i = .int .i64 (j : Int) /\ w5 = V) (fun i _ => d.l.length - (intOf i).toNat)
             case atStart => exact ⟨0, Nat.zero_le _, rfl, rfl⟩
             case round =>
              obtain ⟨j, hj, rfl, hwv⟩ := hrel
              obtain rfl : V = wr := hwv.symm
              by_cases hjl : j < d.l.length
              ·have i7 : (j : Int) < d.l.length := Int.ofNat_lt.mpr hjl
               obtain ⟨xq, hxq⟩ : ∃ e, d.l[j]? = some e := ⟨_, List.getElem?_eq_getElem hjl⟩
               obtain rfl := HG.out.2.2 j xq hxq
               obtain ⟨g1, n1, k1, e1, _, _, _, y1⟩ := HG.out.1 j _ hxq
               obtain ⟨g2, n2, k2, e2, hn2, _, _, y2⟩ := HG.out.2.1 j _ hxq
               simp only [Value.slice.injEq] at e1 e2
               obtain ⟨rfl, rfl, rfl⟩ := e1
               obtain ⟨rfl, rfl, rfl⟩ := e2
               have i8 : (j : Int) < nv := Int.ofNat_lt.mpr (Nat.lt_of_lt_of_le hjl hn2)
               have w2' : wrap64 ((j : Int) + 1) = ((j + 1 : Nat) : Int) := w1s j (Nat.lt_of_lt_of_le hjl (Nat.le_trans HE.out (by decide)))
               clear hxq hn2
               go_wp2
               go_roundw
               case rel => exact ⟨j + 1, hjl, (by first | rw [w2'] | simp), (by first | rfl | trivial)⟩
               case measure => exact msr2 d.l.length _ _ j (by first | rw [w2'] | simp) rfl hjl
              ·obtain rfl : j = d.l.length := by omega
               have i7 : ¬ (d.l.length : Int) < d.l.length := by omega
               have w1' : wrap64 ((t : Int) + 1) = ((t + 1 : Nat) : Int) := w1s t (Nat.lt_of_lt_of_le hlt (Nat.le_trans hd (by decide)))
               clear HG HE
               go_wp2
               go_roundw
               case rel => exact ⟨t + 1, hlt, (by first | rw [w1'] | simp), (by first | rfl | trivial)⟩
               case measure => exact msr2 z _ _ t (by first | rw [w1'] | simp) rfl hlt
            ·obtain rfl : t = z := by omega
             have i6 : ¬ (t : Int) < t := by omega
             go_wp2
             go_ret
             exact ⟨rfl, c, es2, HZ.out.t, HZ.out.eq, HZ.out.was, HQ.out.n, HZ.out.o⟩
end Go.Proofs.YtoemoiehjdmheaaGreat.Z
