import Derived.Test.YtlilefhmohkfkaaGreatDoorECatch
/-! typed. -/
namespace Go.Proofs.YtlilefhmohkfkaaGreatDoor.E
open Go.RowKit
open Go.Proofs
open Go.Proofs.YtlilefhmohkfkaaGreatDoor.Y (Nd Df Ps ndc dfc hid NV DV D1 cells6)
open R (En cks MP)
set_option linter.unusedVariables false
set_option linter.unusedSimpArgs false
set_option maxHeartbeats 2000000
set_option maxRecDepth 100000
theorem infoTy : (Tryz.prog.info? 47).map (fun i => (i.zero, i.size, i.bytes)) = some (some (.agg #[.string ⟨#[]⟩, .int .i64 0, .int .i64 0, .int .i64 0, .int .i64 0, .bool false, .int .i64 0, .int .i64 0, .int .i64 0]), 9, 80) := by kernel_rfl
/-- The words' shapes, as the program looks the names up. -/
def tysP (at_ : En) : List Ty → List Df → List Ty
  | l, [] => l
  | l, d :: r => tysP at_ (l ++ [tyOf (known at_ l) d]) r
theorem tysP_app (at_ : En) : ∀ (r : List Df) (l : List Ty) (d : Df), tysP at_ l (r ++ [d]) = tysP at_ l r ++ [tyOf (known at_ (tysP at_ l r)) d]
  | [], l, d => rfl
  | e :: r, l, d => by rw [List.cons_append, tysP, tysP, tysP_app at_ r]
theorem tysP_take (at_ : En) (ds : List Df) (k : Nat) (d : Df) (h : ds[k]? = some d) : tysP at_ [] (ds.take (k + 1)) = tysP at_ [] (ds.take k) ++ [tyOf (known at_ (tysP at_ [] (ds.take k))) d] := by
  rw [List.take_add_one, h]
  exact tysP_app at_ _ _ _
theorem tysP_len (at_ : En) : ∀ (r : List Df) (l : List Ty), (tysP at_ l r).length = l.length + r.length
  | [], l => rfl
  | e :: r, l => by rw [tysP, tysP_len at_ r, List.length_append, List.length_cons, List.length_cons, List.length_nil]; omega
theorem tyc_one (t : Ty) : ∀ u ∈ tyc t, u.oneCell' = true := by
  intro u hu
  simp only [tyc, List.mem_cons, List.not_mem_nil, or_false] at hu
  rcases hu with rfl | rfl | rfl | rfl | rfl | rfl | rfl | rfl | rfl <;> rfl
theorem own_tl {w : World} {B g n c : Nat} {l : List Ty} (ho : w.ownsRow B 47 9 (.slice (some ⟨g, 0, none⟩) n c) n (S.en tyc l)) (hn : n = l.length) (hl : l.length ≤ 1048576) : TL w (.slice (some ⟨g, 0, none⟩) n c) l := by
  subst hn
  refine ⟨g, c, rfl, by omega, fun i t j x hi hj => ?_⟩
  have hlt := (List.getElem?_eq_some_iff.1 hi).1
  obtain ⟨g', c', e, h2, h3, h4⟩ := own_cell ho (by omega)
  cases e
  have hj9 : j < 9 := by
    have := (List.getElem?_eq_some_iff.1 hj).1
    simpa [tyc] using this
  exact h4 _ _ ((S.en_get (e := tyc) (s := 9) (fun a => rfl) l i j t hi hj9).trans hj)
theorem own_at {w : World} {B : Nat} {e : TypeId} {s g n c : Nat} {xs : List Value} (ho : w.ownsRow B e s (.slice (some ⟨g, 0, none⟩) n c) n xs) : B ≤ g ∧ g < w.heap.size := by
  rcases ho.2 with ⟨e, _⟩ | ⟨g', cap, cur, e, h2, h3, _⟩
  · cases e
  · cases e; exact ⟨h2, S.lt_of h3⟩
theorem typed_any (at_ : En) (ds : List Df) (hd : ds.length ≤ 1048576) (hq : ∀ (k : Nat) (d : Df), ds[k]? = some d → ∃ names, QN at_ (tysP at_ [] (ds.take k)) names ∧ cks names d.body (0, false) = 0) (v : Value) (O : Nat → Prop) (mb : Nat) (W : World) (hO : ∀ j, O j → j < W.heap.size) (h : DV W O v ds) (hM : MP W mb at_) :
    Calls Tryz.prog 30 #[v, .map (some mb)] W fun e w' => ∃ g c, e = .returned (.slice (some ⟨g, 0, none⟩) ds.length c) ∧ Below W.heap.size W w' ∧ w'.ownsRow W.heap.size 47 9 (.slice (some ⟨g, 0, none⟩) ds.length c) ds.length (S.en tyc (tysP at_ [] ds)) := by
  obtain ⟨p, c, rfl, hl, hp⟩ := h
  obtain ⟨i0, hi, hz0, hz1, hz2⟩ := info_parts infoTy
  obtain ⟨W0, hmk, hw0, hw1⟩ := run_make_own (P := Tryz.prog) W W.heap.size 39 47 i0 _ 9 Tryz.underlying39 hi hz0 hz1 .i64 .i64 ds.length (by rw [hz2]; omega) (by unfold maxLen; omega) (Nat.le_refl _)
  have hB : Below W.heap.size W W0 := ⟨hw1.os, hw1.tape, hw1.output, hw1.size, fun k hk => hw1.block k hk (by simp)⟩
  have HV := hid (And.intro hw0 hB)
  clear hw0 hB hi hz0 hz1 hz2 i0 hw1
  go_enter Tryz.func30, Tryz.ntmps30
  go_wp2
  clear hmk
  go_loopw [5, 13] (fun ls ix wr => ∃ (k g cp : Nat), k ≤ ds.length ∧ ls = .slice (some ⟨g, 0, none⟩) k cp ∧ ix = .int .i64 (k : Int) ∧ Below W.heap.size W wr ∧ wr.ownsRow W.heap.size 47 9 (.slice (some ⟨g, 0, none⟩) k cp) k (S.en tyc (tysP at_ [] (ds.take k)))) (fun _ ix _ => ds.length - (intOf ix).toNat)
  case atStart => exact ⟨0, _, _, by omega, rfl, rfl, HV.out.2, HV.out.1⟩
  case round =>
    obtain ⟨k, g, cp, hk, rfl, rfl, hb, hR⟩ := hrel
    by_cases hlt : k < ds.length
    · have i1 : (k : Int) < ds.length := by omega
      have ea := List.getElem?_eq_getElem hlt
      generalize ds[k] = d at *
      obtain ⟨b, o, rfl, hOb, bv, hcl, hNv⟩ := hp k d ea
      obtain ⟨q, cq, rfl, _, _⟩ := id hNv.ex
      have k1 := hb.block b (hO b hOb)
      obtain ⟨g0, g1, g2, g3, g4, g5⟩ := cells6 fun j x hx => (World.cell?_of_block (w := W) (a := ⟨b, o + k * 6 + j, none⟩) k1).trans (hcl j x hx)
      obtain ⟨W2, hW2⟩ : ∃ W2, wr.alloc (.cells #[.int .i64 d.k, .string d.nm, .int .u16 d.v, .slice q d.body.length cq, .int .i64 d.p.1, .int .i64 d.p.2] 27) = W2 := ⟨_, rfl⟩
      have z2 : Below wr.heap.size wr W2 := by rw [← hW2]; exact (Below.refl _ _).alloc (Nat.le_refl _) _
      have v2 : W2.heap[wr.heap.size]? = some (.cells (dfc d (.slice q d.body.length cq)).toArray 27 (0, 0)) := by rw [← hW2]; exact heap_alloc_new wr _
      have hB2 : Below W.heap.size W W2 := hb.trans (z2.mono hb.size)
      obtain ⟨x0, x1, x2, x3, x4, x5⟩ := df_cells v2
      have hR2 : W2.ownsRow W.heap.size 47 9 (.slice (some ⟨g, 0, none⟩) k cp) k (S.en tyc (tysP at_ [] (ds.take k))) := S.own_kept hR fun g _ hg => z2.block g hg
      obtain ⟨names, hqn, hck⟩ := hq k d ea
      have hlen : (tysP at_ [] (ds.take k)).length = k := by rw [tysP_len, List.length_nil, List.length_take, Nat.zero_add]; omega
      have HT := hid (tysP_take at_ ds k d ea)
      generalize tysP at_ [] (ds.take k) = tl at *
      have hcall := typedOf_any at_ tl names hqn d _ O mb _ W2 (fun j hj => Nat.lt_of_lt_of_le (hO j hj) hB2.size) (hNv.below hB2 hO) hck (hM.below hB2 hM.lt) (own_tl hR2 hlen.symm (by omega)) (own_at hR2).2
      unfold dfc at hcall
      have HH := hid (And.intro hB2 hR2)
      generalize tyOf (known at_ tl) d = t at *
      clear z2 v2 hb k1 hcl ea hB2 hNv hR hR2 hp hO hq hqn hck
      go_wp2_with fail
      refine hcall.mono ?_
      rintro e w3 ⟨rfl, hb3⟩
      clear hcall x0 x1 x2 x3 x4 x5 g0 g1 g2 g3 g4 g5 hW2
      obtain ⟨y4, hy4⟩ : ∃ y4, w3.alloc (.cells #[.string t.nm, .int .i64 t.i, .int .i64 t.o, .int .i64 t.d, .int .i64 t.r, .bool t.nv, .int .i64 t.e, .int .i64 t.p.1, .int .i64 t.p.2] 47) = y4 := ⟨_, rfl⟩
      have k4 : Below w3.heap.size w3 y4 := by rw [← hy4]; exact (Below.refl _ _).alloc (Nat.le_refl _) _
      have v4 : y4.heap[w3.heap.size]? = some (.cells (tyc t).toArray 47 (0, 0)) := by rw [← hy4]; exact heap_alloc_new w3 _
      have hB4 : Below W2.heap.size W2 y4 := hb3.trans (k4.mono hb3.size)
      have oR : y4.ownsRow W.heap.size 47 9 (.slice (some ⟨g, 0, none⟩) k cp) k (S.en tyc tl) := S.own_kept HH.out.2 fun g _ hg => hB4.block g hg
      have hcs : S.Cs y4 (.slice (some ⟨w3.heap.size, 0, none⟩) 1 1) 9 1 (tyc t) := .inr ⟨_, _, rfl, rfl, fun j u hj => by rw [Addr.add_lit, Nat.zero_add]; exact S.cell_of y4 _ j _ _ u v4 hj, tyc_one _⟩
      have hBW : Below W.heap.size W y4 := HH.out.1.trans (hB4.mono HH.out.1.size)
      have hsz4 : W.heap.size ≤ y4.heap.size := hBW.size
      have HB4 := hid hBW
      have HY := hid hy4
      clear k4 v4 hB4 hy4 hb3 hBW
      unfold tyc
      go_wp2_with (rw [HY.out]; refine S.wpList_append_row y4 rfl _ _ 39 47 _ 9 80 Tryz.underlying39 infoTy rfl (by decide) rfl W.heap.size (.slice (some ⟨g, 0, none⟩) k cp) k (S.en tyc tl) rfl oR _ 1 _ rfl hcs (by unfold S.room; omega) (by unfold maxLen; omega) hsz4 (fun v5 w5 hr1 hg1 => ?_); have HG := hid (And.intro hr1 hg1); clear hr1 hg1)
      have hB5 : Below W.heap.size W w5 := HG.out.2.belowAll (own_ge oR) HB4.out (Nat.le_refl _)
      obtain ⟨g5, c5, rfl, _⟩ := own_cell HG.out.1 (by omega)
      refine ⟨⟨k + 1, g5, c5, by omega, rfl, by rw [Int.natCast_add]; rfl, hB5, ?_⟩, by simp only [intOf]; omega⟩
      rw [HT.out, S.en_append]
      have e1 : S.en tyc [t] = tyc t := by simp [S.en]
      rw [e1]
      exact HG.out.1
    · have i1 : ¬ (k : Int) < ds.length := by omega
      obtain rfl : k = ds.length := by omega
      rw [List.take_length] at hR
      have HR := hid hR
      clear hR hq hp
      go_wp2
      go_ret
      exact ⟨_, _, rfl, hb, HR.out⟩
end Go.Proofs.YtlilefhmohkfkaaGreatDoor.E
/-! effect.Shapes. -/
namespace Go.Proofs.YtlilefhmohkfkaaGreatDoor.E
open Go.RowKit
open Go.Proofs
open Go.Proofs.YtlilefhmohkfkaaGreatDoor.Y (Nd Df Ps ndc dfc hid NV DV D1 cells6 BV)
open R (En cks MP dsE dfE chk Bk lk numb lk_numb twice_no)
set_option linter.unusedVariables false
set_option linter.unusedSimpArgs false
set_option maxHeartbeats 2000000
set_option maxRecDepth 100000
theorem word_ti (kn : ByteArray → Option Ty) (hk : ∀ s t, kn s = some t → TI t) (d : Df) : TI (tyOf kn d) := by
  unfold tyOf
  cases hw : word kn d with
  | error e => intro _; simp
  | ok w =>
    unfold word at hw
    cases hb : body kn d.body (w0, s0) with
    | error e => rw [hb] at hw; cases hw
    | ok x =>
      rw [hb] at hw
      have hx := (body_inv kn hk d.body _ _ xi_start hb).1
      simp only at hw
      have hw2 : ∃ w', WI w' ∧ (if w'.nv = true ∨ w'.i + w'.lf ≤ 256 then (.ok w' : Except Er Wk) else .error (153, d.p)) = .ok w := by
        by_cases hdd : x.2.dead = true
        · rw [if_pos hdd] at hw
          exact ⟨x.1, hx.1, hw⟩
        · rw [if_neg hdd] at hw
          cases hl : leave x.2 d.p x.1 with
          | error e => rw [hl] at hw; cases hw
          | ok w' => rw [hl] at hw; exact ⟨w', (leave_inv hx.1 hx.2 hl).1, hw⟩
      obtain ⟨w', hI, he⟩ := hw2
      split at he
      · rename_i hc
        cases he
        intro _
        have := hI.i0; have := hI.i1; have := hI.d0; have := hI.d1; have := hI.r0; have := hI.r1; have := hI.l0
        have h2 := hI.l2
        cases hnv : w.nv with
        | true => simp only [hnv, if_true]; omega
        | false =>
          have hc2 : w.i + w.lf ≤ 256 := by
            rcases hc with hc | hc
            · rw [hnv] at hc; cases hc
            · exact hc
          have h3 := h2 hnv
          simp only [hnv, Bool.false_eq_true, if_false]
          omega
      · cases he
theorem tysP_ti (at_ : En) : ∀ (r : List Df) (l : List Ty), (∀ t ∈ l, TI t) → ∀ t ∈ tysP at_ l r, TI t
  | [], l, h => h
  | d :: r, l, h => by
    rw [tysP]
    refine tysP_ti at_ r _ fun t ht => ?_
    rcases List.mem_append.1 ht with ht | ht
    · exact h t ht
    · rw [List.mem_singleton] at ht
      subst ht
      exact word_ti _ (fun s t e => known_ti h s t e) d
theorem dsE_at : ∀ (ds : List Df) (ns : List ByteArray), dsE ns ds = 0 → ∀ (k : Nat) (d : Df), ds[k]? = some d → dfE (ns ++ (ds.take k).map (·.nm)) d = 0
  | [], ns, _, k, d, h => by simp at h
  | e :: r, ns, h, k, d, hk => by
    rw [dsE] at h
    by_cases h0 : dfE ns e = 0
    · rw [if_pos h0] at h
      cases k with
      | zero =>
        simp only [List.getElem?_cons_zero, Option.some.injEq] at hk
        subst hk
        simpa using h0
      | succ k =>
        have := dsE_at r _ h k d (by simpa using hk)
        simpa [List.append_assoc] using this
    · rw [if_neg h0] at h
      exact (h0 h).elim
theorem dfE_new (names : List ByteArray) (d : Df) (h : dfE names d = 0) : d.nm ∉ names := by
  intro hm
  have h2 := twice_no names d h
  have h3 := lk_numb d.nm names 0
  rw [h2] at h3
  have h4 : (names.any fun s => decide (s = d.nm)) = true := List.any_eq_true.2 ⟨d.nm, hm, by simp⟩
  rw [h4] at h3
  cases h3
theorem dfE_body (names : List ByteArray) (d : Df) (h : dfE names d = 0) : cks names d.body (0, false) = 0 := by
  unfold dfE at h
  split at h
  · cases h
  · split at h
    · cases h
    · split at h
      · cases h
      · split at h
        · cases h
        · exact h
theorem nodup_of : ∀ (ds : List Df) (ns : List ByteArray), ns.Nodup → dsE ns ds = 0 → (ns ++ ds.map (·.nm)).Nodup
  | [], ns, hn, _ => by simpa using hn
  | d :: r, ns, hn, h => by
    rw [dsE] at h
    by_cases h0 : dfE ns d = 0
    · rw [if_pos h0] at h
      have := nodup_of r (ns ++ [d.nm]) (by
        rw [List.nodup_append]
        refine ⟨hn, by simp, fun a ha b hb => ?_⟩
        rw [List.mem_singleton] at hb
        subst hb
        intro e
        exact dfE_new ns d h0 (e ▸ ha)) h
      simpa [List.append_assoc] using this
    · rw [if_neg h0] at h
      exact (h0 h).elim
theorem filter_at {p : Df → Bool} : ∀ (ds : List Df) (j : Nat) (d : Df), (ds.filter p)[j]? = some d → ∃ k, ds[k]? = some d ∧ (ds.take k).filter p = (ds.filter p).take j
  | [], j, d, h => by simp at h
  | e :: r, j, d, h => by
    by_cases hp : p e = true
    · rw [List.filter_cons_of_pos hp] at h ⊢
      cases j with
      | zero => exact ⟨0, by simpa using h, rfl⟩
      | succ j =>
        obtain ⟨k, h1, h2⟩ := filter_at r j d (by simpa using h)
        exact ⟨k + 1, by simpa using h1, by rw [List.take_succ_cons, List.filter_cons_of_pos hp, List.take_succ_cons, h2]⟩
    · rw [List.filter_cons_of_neg hp] at h ⊢
      obtain ⟨k, h1, h2⟩ := filter_at r j d h
      exact ⟨k + 1, by simpa using h1, by rw [List.take_succ_cons, List.filter_cons_of_neg hp, h2]⟩
theorem lk_at (x : ByteArray) : ∀ (ns : List ByteArray) (i : Nat) (z : Int), lk (numb ns i) x = some z → ∃ n : Nat, z = ((i + n : Nat) : Int) ∧ ns[n]? = some x
  | [], i, z, h => by cases h
  | s :: r, i, z, h => by
    rw [numb, lk] at h
    by_cases hs : s = x
    · rw [if_pos hs] at h
      cases h
      exact ⟨0, by simp, by simp [hs]⟩
    · rw [if_neg hs] at h
      obtain ⟨n, h1, h2⟩ := lk_at x r (i + 1) z h
      exact ⟨n + 1, by rw [h1]; congr 1; omega, by simpa using h2⟩
theorem lk_no (x : ByteArray) (ns : List ByteArray) (h : x ∉ ns) : lk (numb ns 0) x = none := by
  cases e : lk (numb ns 0) x with
  | none => rfl
  | some z =>
    obtain ⟨n, _, h2⟩ := lk_at x ns 0 z e
    exact (h (List.mem_of_getElem? h2)).elim
theorem words_new (ds : List Df) (h : dsE [] ds = 0) (k : Nat) (d : Df) (hk : (wordsOf ds)[k]? = some d) : lk (numb (((wordsOf ds).take k).map (·.nm)) 0) d.nm = none := by
  obtain ⟨i, h1, h2⟩ := filter_at ds k d hk
  have h3 := dfE_new _ d (dsE_at ds [] h i d h1)
  refine lk_no _ _ fun hm => h3 ?_
  rw [List.nil_append]
  have h4 : (wordsOf ds).take k = (ds.take i).filter fun d => d.k == 1 := h2.symm
  rw [h4] at hm
  obtain ⟨e, he, h5⟩ := List.mem_map.1 hm
  exact List.mem_map.2 ⟨e, (List.mem_filter.1 he).1, h5⟩
theorem words_qn (ds : List Df) (h : dsE [] ds = 0) (k : Nat) (d : Df) (hk : (wordsOf ds)[k]? = some d) : ∃ names, QN (numb ((wordsOf ds).map (·.nm)) 0) (tysP (numb ((wordsOf ds).map (·.nm)) 0) [] ((wordsOf ds).take k)) names ∧ cks names d.body (0, false) = 0 := by
  obtain ⟨i, h1, h2⟩ := filter_at ds k d hk
  have hkl := (List.getElem?_eq_some_iff.1 hk).1
  have h0 := dsE_at ds [] h i d h1
  rw [List.nil_append] at h0
  refine ⟨(ds.take i).map (·.nm), ⟨tysP_ti _ _ _ (by simp), fun s hs z hz => ?_⟩, dfE_body _ d h0⟩
  obtain ⟨n, rfl, hn⟩ := lk_at s _ 0 z hz
  rw [Nat.zero_add, tysP_len, List.length_nil, Nat.zero_add, List.length_take, Nat.min_eq_left (by unfold wordsOf at hkl ⊢; omega)]
  refine ⟨by omega, ?_⟩
  by_cases hnk : n < k
  · exact_mod_cast hnk
  · exfalso
    have hnd := nodup_of ds [] (by simp) h
    rw [List.nil_append, ← List.take_append_drop i ds, List.map_append, List.nodup_append] at hnd
    rw [List.getElem?_map] at hn
    obtain ⟨e, he, rfl⟩ : ∃ e, (wordsOf ds)[n]? = some e ∧ e.nm = s := by
      cases c : (wordsOf ds)[n]? with
      | none => rw [c] at hn; cases hn
      | some e => rw [c] at hn; exact ⟨e, rfl, by simpa using hn⟩
    have hsp : wordsOf ds = (wordsOf ds).take k ++ wordsOf (ds.drop i) := by
      have h6 : wordsOf ds = wordsOf (ds.take i) ++ wordsOf (ds.drop i) := by unfold wordsOf; rw [← List.filter_append, List.take_append_drop]
      have h7 : wordsOf (ds.take i) = (wordsOf ds).take k := h2
      rw [h7] at h6
      exact h6
    have hin : e ∈ wordsOf (ds.drop i) := by
      rw [hsp, List.getElem?_append_right (by rw [List.length_take]; omega)] at he
      exact List.mem_of_getElem? he
    exact hnd.2.2 e.nm hs e.nm (List.mem_map.2 ⟨e, (List.mem_filter.1 hin).1, rfl⟩) rfl
theorem own_mono {w : World} {B B' : Nat} {e : TypeId} {s : Nat} {v : Value} {n : Nat} {xs : List Value} (h : w.ownsRow B e s v n xs) (hb : B' ≤ B) : w.ownsRow B' e s v n xs := by
  refine ⟨h.1, ?_⟩
  rcases h.2 with h | ⟨g, cap, cur, h1, h2, h3⟩
  · exact .inl h
  · exact .inr ⟨g, cap, cur, h1, Nat.le_trans hb h2, h3⟩
/-- effect.Shapes' words. -/
def shs (ds : List Df) : List Ty := tysP (numb ((wordsOf ds).map (·.nm)) 0) [] (wordsOf ds)
theorem chk_ds {ds : List Df} {bs : List Bk} (h : chk ds bs = 0) : dsE [] ds = 0 := by
  unfold chk at h
  by_cases h0 : dsE [] ds = 0
  · exact h0
  · rw [if_neg h0] at h; exact h
/-- What Shapes answers. -/
def SO (W : World) (ds : List Df) (bs : List Bk) (e : Ending) (w' : World) : Prop :=
  Below W.heap.size W w' ∧ (if chk ds bs = 0 then ∃ g c, e = .returned (.tuple #[.slice (some ⟨g, 0, none⟩) (wordsOf ds).length c, .int .i64 0]) ∧ w'.ownsRow W.heap.size 47 9 (.slice (some ⟨g, 0, none⟩) (wordsOf ds).length c) (wordsOf ds).length (S.en tyc (shs ds)) else e = .returned (.tuple #[.slice none 0 0, .int .i64 (chk ds bs)]))
theorem shapes_any (ds : List Df) (bs : List Bk) (hd : ds.length ≤ 1048576) (hnm : ∀ d ∈ ds, d.nm.size ≤ maxLen) (hlb : bs.length ≤ 140737488355328) (dv bv : Value) (O : Nat → Prop) (W : World) (hO : ∀ j, O j → j < W.heap.size) (hD : DV W O dv ds) (hK : BV W O bv bs) :
    Calls Tryz.prog 12 #[.agg #[dv, bv]] W (SO W ds bs) := by
  obtain ⟨p1, c1, e1, _, _⟩ := id hD
  obtain ⟨p2, c2, e2, _⟩ := id hK
  subst e1 e2
  obtain ⟨W0, hW0⟩ : ∃ W0, W.alloc (.cells #[.slice p1 ds.length c1, .slice p2 bs.length c2] 35) = W0 := ⟨_, rfl⟩
  have hB : Below W.heap.size W W0 := by rw [← hW0]; exact (Below.refl _ _).alloc (Nat.le_refl _) _
  have v0 : W0.heap[W.heap.size]? = some (.cells [.slice p1 ds.length c1, .slice p2 bs.length c2].toArray 35 (0, 0)) := by rw [← hW0]; exact heap_alloc_new W _
  have c0 := S.cell_of W0 _ 0 _ 35 _ v0 rfl
  have c1 := S.cell_of W0 _ 1 _ 35 _ v0 rfl
  have hc1 := R.check_any ds bs hnm hlb _ _ O W0 (fun j hj => Nat.lt_of_lt_of_le (hO j hj) hB.size) (hD.below hB hO) (hK.below hB hO)
  have HH := hid (And.intro hB (And.intro v0 (And.intro hD (And.intro hK hO))))
  clear hB v0 hD hK hO
  go_enter Tryz.func12, Tryz.ntmps12
  go_wp2_with fail
  refine hc1.mono ?_
  rintro e w1 ⟨rfl, hb1⟩
  have hB1 : Below W.heap.size W w1 := HH.out.1.trans (hb1.mono HH.out.1.size)
  have v1 := (hb1.block _ (S.lt_of HH.out.2.1)).trans HH.out.2.1
  clear hc1 hW0 c0 c1
  have HV1 := hid (And.intro hB1 v1)
  by_cases hz : chk ds bs = 0
  · have HZ := hid hz
    rw [hz]
    clear hz
    have c0 := S.cell_of w1 _ 0 _ 35 _ v1 rfl
    have c1 := S.cell_of w1 _ 1 _ 35 _ v1 rfl
    have hcw := wordsOf_any ds hd _ (.slice p2 bs.length c2) ⟨_, _, _, rfl⟩ O w1 (fun j hj => Nat.lt_of_lt_of_le (HH.out.2.2.2.2 j hj) hB1.size) (HH.out.2.2.1.below hB1 HH.out.2.2.2.2)
    clear hB1 v1 hb1
    go_wp2_with fail
    refine hcw.mono ?_
    rintro e w2 ⟨wo, rfl, hb2, hdv⟩
    clear hcw c0 c1
    have hwl : (wordsOf ds).length ≤ 1048576 := Nat.le_trans (List.length_filter_le _ _) hd
    have hO2 : ∀ j, (O j ∨ (w1.heap.size ≤ j ∧ j < w2.heap.size)) → j < w2.heap.size := fun j hj => by
      rcases hj with hj | hj
      · exact Nat.lt_of_lt_of_le (HH.out.2.2.2.2 j hj) (Nat.le_trans HV1.out.1.size hb2.size)
      · exact hj.2
    have hcp := placesOf_any (wordsOf ds) (words_new ds (chk_ds HZ.out)) wo _ w2 hO2 hdv
    have hB2 : Below W.heap.size W w2 := HV1.out.1.trans (hb2.mono HV1.out.1.size)
    obtain ⟨wp, wc, e3, _⟩ := id hdv
    subst e3
    have HD := hid (And.intro hdv (And.intro hO2 (And.intro hB2 hwl)))
    clear hdv hO2 hB2 hwl hb2
    go_wp2_with fail
    refine hcp.mono ?_
    rintro e w3 ⟨rfl, hb3, hM⟩
    clear hcp
    have hct := typed_any _ (wordsOf ds) HD.out.2.2.2 (words_qn ds (chk_ds HZ.out)) _ _ w2.heap.size w3 (fun j hj => Nat.lt_of_lt_of_le (HD.out.2.1 j hj) hb3.size) (HD.out.1.below hb3 HD.out.2.1) hM
    have HB3 := hid (HD.out.2.2.1.trans (hb3.mono HD.out.2.2.1.size))
    clear hb3 hM
    go_wp2_with fail
    refine hct.mono ?_
    rintro e w4 ⟨g, c, rfl, hb4, hR⟩
    have HR := hid (And.intro hb4 hR)
    clear hct hb4 hR
    go_wp2
    refine bodyPost_ret (results_tmp2 rfl _ _ _) rfl ?_
    refine ⟨HB3.out.trans (HR.out.1.mono HB3.out.size), ?_⟩
    rw [if_pos HZ.out]
    exact ⟨g, c, rfl, own_mono HR.out.2 HB3.out.size⟩
  · have hne : (chk ds bs != 0) = true := by simpa using hz
    have HZ := hid hz
    clear hz hB1 v1 hb1
    go_wp2
    refine bodyPost_ret (results_tmp2 rfl _ _ _) rfl ?_
    refine ⟨HV1.out.1, ?_⟩
    rw [if_neg HZ.out]
    rfl
end Go.Proofs.YtlilefhmohkfkaaGreatDoor.E
/-! effect.mark. -/
namespace Go.Proofs.YtlilefhmohkfkaaGreatDoor.E
open Go.RowKit
open Go.Proofs
open Go.Proofs.YtlilefhmohkfkaaGreatDoor.Y (Nd Df Ps ndc dfc hid NV cells9)
open R (En MP lk look_no look_yes)
set_option linter.unusedVariables false
set_option linter.unusedSimpArgs false
set_option maxHeartbeats 2000000
set_option maxRecDepth 100000
def mk1 (at_ : En) (nm : ByteArray) (led : List Bool) : List Bool := match lk at_ nm with | none => led | some i => led.set i.toNat true
def mrun : List (List Bool → List Bool) → List Bool → List Bool
  | [], l => l
  | f :: r, l => mrun r (f l)
def mkN (at_ : En) : Nd → List Bool → List Bool
  | ⟨_, _, _, nm, th, el, _, _⟩ => fun led => mrun (el.map (mkN at_)) (mrun (th.map (mkN at_)) (mk1 at_ nm led))
/-- What mark marks. -/
def mks (at_ : En) (l : List Nd) : List Bool → List Bool := mrun (l.map (mkN at_))
theorem mkN_is (at_ : En) (n : Nd) (led : List Bool) : mkN at_ n led = mks at_ n.el (mks at_ n.th (mk1 at_ n.nm led)) := by cases n; rw [mkN]; rfl
theorem mrun_app : ∀ (fs gs : List (List Bool → List Bool)) (l : List Bool), mrun (fs ++ gs) l = mrun gs (mrun fs l)
  | [], gs, l => rfl
  | f :: r, gs, l => by rw [List.cons_append, mrun, mrun, mrun_app r gs]
theorem mks_take (at_ : En) (l : List Nd) (k : Nat) (n : Nd) (h : l[k]? = some n) (led : List Bool) : mks at_ (l.take (k + 1)) led = mkN at_ n (mks at_ (l.take k) led) := by
  unfold mks
  rw [List.take_add_one, h, List.map_append, mrun_app]
  rfl
theorem mk1_len (at_ : En) (nm : ByteArray) (led : List Bool) : (mk1 at_ nm led).length = led.length := by
  unfold mk1
  split
  · rfl
  · simp
theorem mrun_len : ∀ (fs : List (List Bool → List Bool)), (∀ f ∈ fs, ∀ l : List Bool, (f l).length = l.length) → ∀ l, (mrun fs l).length = l.length
  | [], _, l => rfl
  | f :: r, h, l => by rw [mrun, mrun_len r (fun g hg => h g (by simp [hg])), h f (by simp)]
theorem mkN_len (at_ : En) (n : Nd) : ∀ led, (mkN at_ n led).length = led.length :=
  Nd.ind (P := fun n => ∀ led, (mkN at_ n led).length = led.length) (fun n h1 h2 led => by
    rw [mkN_is]
    unfold mks
    rw [mrun_len _ (fun f hf => by obtain ⟨m, hm, rfl⟩ := List.mem_map.1 hf; exact h2 m hm), mrun_len _ (fun f hf => by obtain ⟨m, hm, rfl⟩ := List.mem_map.1 hf; exact h1 m hm), mk1_len]) n
theorem mks_len (at_ : En) (l : List Nd) (led : List Bool) : (mks at_ l led).length = led.length := mrun_len _ (fun f hf => by obtain ⟨m, hm, rfl⟩ := List.mem_map.1 hf; exact mkN_len at_ m) led
/-- A row of bools, its block told whole. -/
def LB (W : World) (g : Nat) (led : List Bool) : Prop := W.heap[g]? = some (.cells (led.map Value.bool).toArray 4 (0, 0))
theorem LB.lt {W : World} {g : Nat} {led : List Bool} (h : LB W g led) : g < W.heap.size := S.lt_of h
theorem LB.cell {W : World} {g : Nat} {led : List Bool} (h : LB W g led) (i : Nat) (b : Bool) (hi : led[i]? = some b) : W.cell? ⟨g, i, none⟩ = some (.bool b) := S.cell_of W g i _ 4 _ h (by rw [List.getElem?_map, hi]; rfl)
theorem LB.fro {W : World} {g : Nat} {led : List Bool} (h : LB W g led) (i : Nat) : W.frozen? ⟨g, i, none⟩ = false := S.frozen_of W g i _ 4 h
theorem LB.set {W : World} {g : Nat} {led : List Bool} (h : LB W g led) (i : Nat) (b : Bool) : LB (W.setCell ⟨g, i, none⟩ (.bool b)) g (led.set i b) := by
  have := S.setCell_heap W g i _ 4 (.bool b) h
  unfold LB
  rw [this, List.map_set]
def MKE (at_ : En) (l : List Nd) : Prop := ∀ (v : Value) (O : Nat → Prop) (led : List Bool) (g mb c : Nat) (W : World), (∀ j, O j → j < W.heap.size) → ¬ O g → mb ≠ g → NV W O v l → MP W mb at_ → LB W g led → (∀ s i, lk at_ s = some i → 0 ≤ i ∧ i < led.length) → led.length ≤ 1048576 →
  Calls Tryz.prog 47 #[v, .map (some mb), .slice (some ⟨g, 0, none⟩) led.length c] W fun e w' => e = .returned (.tuple #[]) ∧ LB w' g (mks at_ l led) ∧ Gw g W w'
theorem mp_gw {W V : World} {mb g : Nat} {at_ : En} (h : MP W mb at_) (k : Gw g W V) (hg : mb ≠ g) : MP V mb at_ := (k.block mb h.lt hg).trans h
theorem mark_of (at_ : En) (l : List Nd) (hn : ∀ m ∈ l, MKE at_ m.th ∧ MKE at_ m.el) : MKE at_ l := by
  intro v O led g mb c W hO hOg hmg hV hM hL hat hll
  obtain ⟨p, cc, rfl, hl, hp⟩ := hV.ex
  clear hV
  have HM := hid (And.intro hM (And.intro hmg hat))
  have HL := hid hL
  clear hM hmg hat hL
  go_enter Tryz.func47, Tryz.ntmps47
  go_wp2
  go_loopw [12] (fun ix wr => ∃ k : Nat, k ≤ l.length ∧ ix = .int .i64 (k : Int) ∧ Gw g W wr ∧ LB wr g (mks at_ (l.take k) led)) (fun ix _ => l.length - (intOf ix).toNat)
  case atStart => exact ⟨0, by omega, rfl, Gw.refl _ _, HL.out⟩
  case round =>
    obtain ⟨k, hk, rfl, hG, hB⟩ := hrel
    by_cases hlt : k < l.length
    · have i1 : (k : Int) < l.length := by omega
      have ea := List.getElem?_eq_getElem hlt
      have hm := hn l[k] (List.getElem_mem _)
      generalize l[k] = n at *
      obtain ⟨b, o, rfl, hOb, hN⟩ := hp k n ea
      obtain ⟨tv, ev, hcl, ht, he⟩ := hN.ex
      obtain ⟨q1, d1, rfl, _, _⟩ := ht.ex
      obtain ⟨q2, d2, rfl, _, _⟩ := he.ex
      have hbne : b ≠ g := fun e => hOg (e ▸ hOb)
      have kb := hG.block b (hO b hOb) hbne
      obtain ⟨g0, g1, g2, g3, g4, g5, g6, g7, g8⟩ := cells9 fun j x hx => (World.cell?_of_block (w := W) (a := ⟨b, o + k * 9 + j, none⟩) kb).trans (hcl j x hx)
      have hstep := mks_take at_ l k n ea led
      rw [mkN_is] at hstep
      obtain ⟨ld, hld⟩ : ∃ ld, mks at_ (l.take k) led = ld := ⟨_, rfl⟩
      have hlen : ld.length = led.length := by rw [← hld]; exact mks_len at_ _ led
      rw [hld] at hB hstep
      clear hld
      obtain ⟨y, hy⟩ : ∃ y, wr.alloc (.cells #[.int .i64 n.k, .int .i64 n.op, .int .u16 n.v, .string n.nm, .slice q1 n.th.length d1, .slice q2 n.el.length d2, .bool n.has, .int .i64 n.p.1, .int .i64 n.p.2] 30) = y := ⟨_, rfl⟩
      have zb : Below wr.heap.size wr y := by rw [← hy]; exact (Below.refl _ _).alloc (Nat.le_refl _) _
      have vb : y.heap[wr.heap.size]? = some (.cells (ndc n (.slice q1 n.th.length d1) (.slice q2 n.el.length d2)).toArray 30 (0, 0)) := by rw [← hy]; exact heap_alloc_new wr _
      have hwg : wr.heap.size ≠ g := by have := hB.lt; omega
      have hGy : Gw g W y := hG.trans (Gw.of zb)
      have hBy : LB y g ld := (zb.block g hB.lt).trans hB
      have HY := hid (And.intro hGy (And.intro hBy (And.intro vb (And.intro hstep (And.intro hlen hwg)))))
      have HT := hid (And.intro ht (And.intro he (And.intro hm.1 hm.2)))
      have Hk := hid hk
      have hmy := mp_gw HM.out.1 hGy HM.out.2.1
      obtain ⟨c0, c1, c2, c3, c4, c5, c6, c7, c8⟩ := nd_cells vb
      have HO := hid (And.intro hO hOg)
      have key : ∀ z, Gw g W z → LB z g (mk1 at_ n.nm ld) → z.heap[wr.heap.size]? = y.heap[wr.heap.size]? → Calls Tryz.prog 47 #[.slice q1 n.th.length d1, .map (some mb), .slice (some ⟨g, 0, none⟩) led.length c] z fun e w' => e = .returned (.tuple #[]) ∧ Gw g W w' ∧ w'.heap[wr.heap.size]? = y.heap[wr.heap.size]? ∧
          Calls Tryz.prog 47 #[.slice q2 n.el.length d2, .map (some mb), .slice (some ⟨g, 0, none⟩) led.length c] w' fun e w'' => e = .returned (.tuple #[]) ∧ Gw g W w'' ∧ LB w'' g (mks at_ (l.take (k + 1)) led) := by
        intro z hz hLz hbz
        have e1 : (mk1 at_ n.nm ld).length = led.length := by rw [mk1_len]; exact HY.out.2.2.2.2.1
        have hc := HT.out.2.2.1 (.slice q1 n.th.length d1) O (mk1 at_ n.nm ld) g mb c z (fun j hj => Nat.lt_of_lt_of_le (HO.out.1 j hj) hz.size) HO.out.2 HM.out.2.1 (nv_gw HT.out.1 hz HO.out.1 HO.out.2) (mp_gw HM.out.1 hz HM.out.2.1) hLz (fun s i h => by rw [e1]; exact HM.out.2.2 s i h) (by omega)
        rw [e1] at hc
        refine hc.mono ?_
        rintro e w1 ⟨rfl, hl1, hg1⟩
        have hz1 : Gw g W w1 := hz.trans hg1
        have e2 : (mks at_ n.th (mk1 at_ n.nm ld)).length = led.length := by rw [mks_len]; exact e1
        refine ⟨rfl, hz1, ?_, ?_⟩
        · have hlt2 : wr.heap.size < z.heap.size := by
            have : y.heap[wr.heap.size]? ≠ none := by rw [HY.out.2.2.1]; simp
            rw [← hbz] at this
            by_cases hc : wr.heap.size < z.heap.size
            · exact hc
            · exact absurd (Array.getElem?_eq_none (by omega)) this
          exact (hg1.block _ hlt2 HY.out.2.2.2.2.2).trans hbz
        have hc2 := HT.out.2.2.2 (.slice q2 n.el.length d2) O (mks at_ n.th (mk1 at_ n.nm ld)) g mb c w1 (fun j hj => Nat.lt_of_lt_of_le (HO.out.1 j hj) hz1.size) HO.out.2 HM.out.2.1 (nv_gw HT.out.2.1 hz1 HO.out.1 HO.out.2) (mp_gw HM.out.1 hz1 HM.out.2.1) hl1 (fun s i h => by rw [e2]; exact HM.out.2.2 s i h) (by omega)
        rw [e2] at hc2
        refine hc2.mono ?_
        rintro e w2 ⟨rfl, hl2, hg2⟩
        exact ⟨rfl, hz1.trans hg2, by rw [HY.out.2.2.2.1]; exact hl2⟩
      have HKEY := hid key
      clear key hbne kb hcl ht he hN hm hp ea hB hG zb vb hwg hGy hBy hO hOg hstep hk hlen
      cases hlk : lk at_ n.nm with
      | none =>
        have hlo := look_no y mb n.nm at_ hmy hlk
        have hkc := HKEY.out y HY.out.1 (by unfold mk1; rw [hlk]; exact HY.out.2.1) rfl
        clear hmy hlk
        go_wp2_with fail
        refine hkc.mono ?_
        rintro e w1 ⟨rfl, hg1, hb1, hk2⟩
        have v1 := hb1.trans HY.out.2.2.1
        clear hkc hlo hy g0 g1 g2 g3 g4 g5 g6 g7 g8 c0 c1 c2 c3 c4 c5 c6 c7 c8 hb1
        obtain ⟨c0, c1, c2, c3, c4, c5, c6, c7, c8⟩ := nd_cells v1
        clear v1 hg1
        go_wp2_with fail
        refine hk2.mono ?_
        rintro e w2 ⟨rfl, hg2, hl2⟩
        clear hk2 c0 c1 c2 c3 c4 c5 c6 c7 c8
        have HE := hid (And.intro hg2 hl2)
        clear hg2 hl2
        go_wp2
        go_roundw
        case rel =>
          first
            | exact ⟨k + 1, by omega, by go_num, HE.out.1, HE.out.2⟩
            | ((repeat apply Exists.intro); refine ⟨⟨k + 1, by omega, ?_, HE.out.1, HE.out.2⟩, rfl⟩; go_num)
        case measure => simp [intOf]; omega
      | some i =>
        obtain ⟨j0, j1⟩ := HM.out.2.2 _ _ hlk
        obtain ⟨j, rfl⟩ : ∃ j : Nat, i = (j : Int) := ⟨i.toNat, by omega⟩
        have j2 : (j : Int) < led.length := j1
        have hlo := look_yes y mb n.nm (j : Int) at_ hmy hlk
        obtain ⟨bb, hbb⟩ : ∃ bb, ld[j]? = some bb := ⟨_, List.getElem?_eq_getElem (by have := HY.out.2.2.2.2.1; omega)⟩
        have fc := HY.out.2.1.cell j bb hbb
        have ff := HY.out.2.1.fro j
        have hkc := HKEY.out (y.setCell ⟨g, j, none⟩ (.bool true)) (HY.out.1.setG _ _) (by unfold mk1; rw [hlk]; exact HY.out.2.1.set j true) (S.setCell_other _ _ _ _ _ HY.out.2.2.2.2.2)
        have v1 : (y.setCell ⟨g, j, none⟩ (.bool true)).heap[wr.heap.size]? = _ := (S.setCell_other y g j wr.heap.size (.bool true) HY.out.2.2.2.2.2).trans HY.out.2.2.1
        obtain ⟨e0, e1, e2, e3, e4, e5, e6, e7, e8⟩ := nd_cells v1
        clear hmy hlk hbb v1 j0 j1
        go_wp2_with fail
        refine hkc.mono ?_
        rintro e w1 ⟨rfl, hg1, hb1, hk2⟩
        have v1 := hb1.trans HY.out.2.2.1
        clear hkc hlo hy g0 g1 g2 g3 g4 g5 g6 g7 g8 c0 c1 c2 c3 c4 c5 c6 c7 c8 hb1 e0 e1 e2 e3 e4 e5 e6 e7 e8 fc ff
        obtain ⟨c0, c1, c2, c3, c4, c5, c6, c7, c8⟩ := nd_cells v1
        clear v1 hg1
        go_wp2_with fail
        refine hk2.mono ?_
        rintro e w2 ⟨rfl, hg2, hl2⟩
        clear hk2 c0 c1 c2 c3 c4 c5 c6 c7 c8
        have HE := hid (And.intro hg2 hl2)
        clear hg2 hl2
        go_wp2
        go_roundw
        case rel =>
          first
            | exact ⟨k + 1, by omega, by go_num, HE.out.1, HE.out.2⟩
            | ((repeat apply Exists.intro); refine ⟨⟨k + 1, by omega, ?_, HE.out.1, HE.out.2⟩, rfl⟩; go_num)
        case measure => simp [intOf]; omega
    · have i1 : ¬ (k : Int) < l.length := by omega
      rw [List.take_of_length_le (by omega)] at hB
      have HB := hid (And.intro hB hG)
      clear hB hG
      go_wp2
      go_end0
      exact ⟨rfl, HB.out.1, HB.out.2⟩
theorem mark_any (at_ : En) (l : List Nd) : MKE at_ l := mark_of at_ l fun m _ =>
  Nd.ind (P := fun n => MKE at_ n.th ∧ MKE at_ n.el) (fun n h1 h2 => ⟨mark_of at_ n.th h1, mark_of at_ n.el h2⟩) m
end Go.Proofs.YtlilefhmohkfkaaGreatDoor.E
/-! effect.ledTo. -/
namespace Go.Proofs.YtlilefhmohkfkaaGreatDoor.E
open Go.RowKit
open Go.Proofs
open Go.Proofs.YtlilefhmohkfkaaGreatDoor.Y (Nd Df Ps ndc dfc hid NV DV D1 cells6)
open R (En MP lk)
set_option linter.unusedVariables false
set_option linter.unusedSimpArgs false
set_option maxHeartbeats 2000000
set_option maxRecDepth 100000
def bodyAt (ws : List Df) (k : Nat) : List Nd := match ws[k]? with | none => [] | some d => d.body
def dnn (at_ : En) (ws : List Df) : Nat → List Bool → List Bool
  | 0, l => l
  | k + 1, l => dnn at_ ws k (if l.getD k false then mks at_ (bodyAt ws k) l else l)
/-- The words that main leads to. -/
def ledP (at_ : En) (ws : List Df) (m : Nat) : List Bool := dnn at_ ws (m + 1) ((List.replicate ws.length false).set m true)
theorem dnn_len (at_ : En) (ws : List Df) : ∀ (k : Nat) (l : List Bool), (dnn at_ ws k l).length = l.length
  | 0, l => rfl
  | k + 1, l => by
    rw [dnn, dnn_len at_ ws k]
    split
    · exact mks_len _ _ _
    · rfl
theorem ledP_len (at_ : En) (ws : List Df) (m : Nat) : (ledP at_ ws m).length = ws.length := by unfold ledP; rw [dnn_len]; simp
theorem Gw.below0 {W V : World} (h : Gw W.heap.size W V) : Below W.heap.size W V := ⟨h.os, h.tape, h.output, h.size, fun k hk => h.block k hk (by omega)⟩
theorem infoB : (Tryz.prog.info? 4).map (fun i => (i.zero, i.size, i.bytes)) = some (some (.bool false), 1, 1) := by kernel_rfl
theorem run_makeB (W : World) (n : Nat) (h : n ≤ 1048576) : ∃ W0, (Instr.makeSlice 77 (.int .i64 (n : Int)) (.int .i64 (n : Int))).run Tryz.prog W = .ok (.slice (some ⟨W.heap.size, 0, none⟩) n n) W0 ∧ LB W0 W.heap.size (List.replicate n false) ∧ Below W.heap.size W W0 := by
  obtain ⟨i0, hi, hz0, hz1, hz2⟩ := info_parts infoB
  have hb' : (i0.bytes : Int) * (n : Int) ≤ 281474976710656 := by rw [hz2]; omega
  have hr := run_make (P := Tryz.prog) W 77 4 i0 _ Tryz.underlying77 hi hz0 .i64 .i64 n n (by omega) (Int.le_refl _) hb' (by omega)
  simp only [Int.toNat_natCast, hz1, Nat.mul_one] at hr
  refine ⟨_, hr, ?_, (Below.refl _ _).alloc (Nat.le_refl _) _⟩
  unfold LB
  rw [heap_alloc_new]
  congr 2
  apply Array.toList_inj.1
  rw [List.toList_toArray, List.map_replicate]
  exact toList_madeCells_one (.bool false) n
theorem ledTo_any (at_ : En) (ws : List Df) (m : Nat) (hm : m < ws.length) (hw : ws.length ≤ 1048576) (hat : ∀ s i, lk at_ s = some i → 0 ≤ i ∧ i < ws.length) (v : Value) (O : Nat → Prop) (mb : Nat) (W : World) (hO : ∀ j, O j → j < W.heap.size) (h : DV W O v ws) (hM : MP W mb at_) :
    Calls Tryz.prog 32 #[v, .map (some mb), .int .i64 (m : Int)] W fun e w' => e = .returned (.slice (some ⟨W.heap.size, 0, none⟩) ws.length ws.length) ∧ LB w' W.heap.size (ledP at_ ws m) ∧ Below W.heap.size W w' := by
  obtain ⟨p, c, rfl, hl, hp⟩ := h
  obtain ⟨W0, hmk, hL0, hB0⟩ := run_makeB W ws.length hw
  have hmb : mb ≠ W.heap.size := by have := hM.lt; omega
  have hOg : ¬ O W.heap.size := fun h => by have := hO _ h; omega
  have i0 : (m : Int) < ws.length := by omega
  have fc := hL0.cell m false (by simp [hm])
  have ff := hL0.fro m
  have hL1 := hL0.set m true
  have hG1 : Gw W.heap.size W (W0.setCell ⟨W.heap.size, m, none⟩ (.bool true)) := (Gw.of (g := W.heap.size) hB0).setG m (.bool true)
  obtain ⟨R, hR⟩ : ∃ R, ledP at_ ws m = R := ⟨_, rfl⟩
  have HR : Y.Hd (R = dnn at_ ws (m + 1) ((List.replicate ws.length false).set m true)) := ⟨hR.symm⟩
  rw [hR]
  have HS := hid (And.intro hL1 hG1)
  have HM := hid (And.intro hM (And.intro hmb hat))
  have HO := hid (And.intro hO hOg)
  clear hR hL1 hG1 hM hmb hat hO hOg hL0 hB0
  go_enter Tryz.func32, Tryz.ntmps32
  go_wp2
  clear hmk fc ff
  go_loopw [8] (fun ix wr => ∃ (k : Nat) (l : List Bool), k ≤ m + 1 ∧ ix = .int .i64 ((k : Int) - 1) ∧ l.length = ws.length ∧ LB wr W.heap.size l ∧ Gw W.heap.size W wr ∧ R = dnn at_ ws k l) (fun ix _ => (intOf ix + 1).toNat)
  case atStart => exact ⟨m + 1, _, by omega, by simp, by simp, HS.out.1, HS.out.2, HR.out⟩
  case round =>
    obtain ⟨k, l, hk, rfl, hll, hL, hG, hR⟩ := hrel
    cases k with
    | zero =>
      have HE := hid (And.intro hL (And.intro hG hR))
      clear hL hG hR
      have e0 : ((0 : Nat) : Int) - 1 = -1 := by decide
      rw [e0]
      go_wp2
      go_ret
      refine ⟨rfl, ?_, HE.out.2.1.below0⟩
      rw [HE.out.2.2]
      exact HE.out.1
    | succ j =>
      have e0 : ((j + 1 : Nat) : Int) - 1 = (j : Int) := by omega
      rw [e0]
      have hj : j < ws.length := by omega
      have i1 : (j : Int) < ws.length := by omega
      have i2 : (0 : Int) ≤ (j : Int) := by omega
      have ea := List.getElem?_eq_getElem hj
      generalize ws[j] = d at *
      obtain ⟨b, o, rfl, hOb, bv, hcl, hN⟩ := hp j d ea
      obtain ⟨q, cq, rfl, _, _⟩ := hN.ex
      have hbne : b ≠ W.heap.size := fun e => HO.out.2 (e ▸ hOb)
      have k1 := hG.block b (HO.out.1 b hOb) hbne
      obtain ⟨g0, g1, g2, g3, g4, g5⟩ := cells6 fun t x hx => (World.cell?_of_block (w := W) (a := ⟨b, o + j * 6 + t, none⟩) k1).trans (hcl t x hx)
      obtain ⟨bb, hbb⟩ : ∃ bb, l[j]? = some bb := ⟨_, List.getElem?_eq_getElem (by omega)⟩
      have fc := hL.cell j bb hbb
      rw [dnn, List.getD_eq_getElem?_getD, hbb, Option.getD_some] at hR
      have hbd : bodyAt ws j = d.body := by unfold bodyAt; rw [ea]
      rw [hbd] at hR
      cases bb with
      | false =>
        replace hR : R = dnn at_ ws j l := hR
        have HE := hid (And.intro hL (And.intro hG (And.intro hR hll)))
        clear hL hG hR hll hp hN hcl ea k1 hbd hbb hbne
        go_wp2
        go_roundw
        case rel =>
          first
            | exact ⟨j, l, by omega, by go_num, HE.out.2.2.2, HE.out.1, HE.out.2.1, HE.out.2.2.1⟩
            | ((repeat apply Exists.intro); refine ⟨⟨j, l, by omega, ?_, HE.out.2.2.2, HE.out.1, HE.out.2.1, HE.out.2.2.1⟩, rfl⟩; go_num)
        case measure => simp [intOf] <;> omega
      | true =>
        replace hR : R = dnn at_ ws j (mks at_ d.body l) := hR
        have hcm := mark_any at_ d.body _ O l W.heap.size mb ws.length wr (fun j hj => Nat.lt_of_lt_of_le (HO.out.1 j hj) hG.size) HO.out.2 HM.out.2.1 (nv_gw hN hG HO.out.1 HO.out.2) (mp_gw HM.out.1 hG HM.out.2.1) hL (fun s i h => by rw [hll]; exact HM.out.2.2 s i h) (by omega)
        rw [hll] at hcm
        have HE := hid (And.intro hG (And.intro hR hll))
        clear hL hG hR hll hp hN hcl ea k1 hbd hbb hbne
        go_wp2_with fail
        refine hcm.mono ?_
        rintro e w1 ⟨rfl, hl1, hg1⟩
        have HF := hid (And.intro hl1 (HE.out.1.trans hg1))
        clear hcm hl1 hg1 g0 g1 g2 g3 g4 g5 fc
        go_wp2
        go_roundw
        case rel =>
          first
            | exact ⟨j, mks at_ d.body l, by omega, by go_num, by rw [mks_len]; exact HE.out.2.2, HF.out.1, HF.out.2, HE.out.2.1⟩
            | ((repeat apply Exists.intro); refine ⟨⟨j, mks at_ d.body l, by omega, ?_, by rw [mks_len]; exact HE.out.2.2, HF.out.1, HF.out.2, HE.out.2.1⟩, rfl⟩; go_num)
        case measure => simp [intOf] <;> omega
end Go.Proofs.YtlilefhmohkfkaaGreatDoor.E
/-! Whether a program is typable, as a pure function. -/
namespace Go.Proofs.YtlilefhmohkfkaaGreatDoor.E
open Go.Proofs.YtlilefhmohkfkaaGreatDoor.Y (Nd Df Ps)
open R (En lk numb chk Bk dsE dfE)
set_option linter.unusedVariables false
set_option linter.unusedSimpArgs false
def nMain : ByteArray := ⟨#[109, 97, 105, 110]⟩
/-- The places of the words. -/
def atW (ds : List Df) : En := numb ((wordsOf ds).map (·.nm)) 0
def mainAt (ds : List Df) : Nat := match lk (atW ds) nMain with | none => 0 | some i => i.toNat
/-- The first word that is needed and has a fault. -/
def fb : List Bool → List Ty → Option (Int × Ps)
  | b :: bs, t :: ts => if b = true ∧ t.e ≠ 0 then some (t.e, t.p) else fb bs ts
  | _, _ => none
def lastOf (ds : List Df) (m : Nat) : Int × Ps :=
  match (shs ds)[m]?, (wordsOf ds)[m]? with
  | some t, some d => if t.i ≠ 0 ∨ t.o ≠ 0 then (154, d.p) else (0, (0, 0))
  | _, _ => (0, (0, 0))
/-- effect.Typable. -/
def typP (ds : List Df) (bs : List Bk) : Int × Ps :=
  if chk ds bs = 0 then (fb (ledP (atW ds) (wordsOf ds) (mainAt ds)) (shs ds)).getD (lastOf ds (mainAt ds)) else (chk ds bs, (0, 0))
theorem fb_cons (b : Bool) (t : Ty) (bs : List Bool) (ts : List Ty) : fb (b :: bs) (t :: ts) = if b = true ∧ t.e ≠ 0 then some (t.e, t.p) else fb bs ts := rfl
theorem lk_mem (x : ByteArray) : ∀ (ns : List ByteArray) (i : Nat), x ∈ ns → ∃ n : Nat, lk (numb ns i) x = some ((i + n : Nat) : Int) ∧ n < ns.length ∧ ns[n]? = some x
  | [], i, h => by simp at h
  | s :: r, i, h => by
    rw [numb, lk]
    by_cases hs : s = x
    · rw [if_pos hs]
      exact ⟨0, by simp, by simp, by simp [hs]⟩
    · rw [if_neg hs]
      have hm : x ∈ r := by
        rcases List.mem_cons.1 h with h | h
        · exact absurd h.symm hs
        · exact h
      obtain ⟨n, h1, h2, h3⟩ := lk_mem x r (i + 1) hm
      exact ⟨n + 1, by rw [h1]; congr 2; omega, by simp; omega, by simpa using h3⟩
theorem main_in {ds : List Df} {bs : List Bk} (h : chk ds bs = 0) : ∃ m : Nat, lk (atW ds) nMain = some (m : Int) ∧ m < (wordsOf ds).length ∧ mainAt ds = m := by
  have hm : ds.any R.isMain = true := by
    unfold chk at h
    rw [if_pos (chk_ds h)] at h
    by_cases hb : R.bkE (-1) bs = 0
    · rw [if_pos hb] at h
      cases e : ds.any R.isMain with
      | true => rfl
      | false => rw [e] at h; cases h
    · rw [if_neg hb] at h; exact absurd h hb
  obtain ⟨d, hd, hi⟩ := List.any_eq_true.1 hm
  unfold R.isMain at hi
  simp only [Bool.and_eq_true, decide_eq_true_eq] at hi
  have hw : nMain ∈ (wordsOf ds).map (·.nm) := List.mem_map.2 ⟨d, List.mem_filter.2 ⟨hd, hi.1⟩, hi.2⟩
  obtain ⟨n, h1, h2, _⟩ := lk_mem nMain _ 0 hw
  rw [Nat.zero_add] at h1
  refine ⟨n, h1, by simpa using h2, ?_⟩
  unfold mainAt
  have h1' : lk (atW ds) nMain = some (n : Int) := h1
  rw [h1']
  rfl
theorem at_in (ds : List Df) (s : ByteArray) (i : Int) (h : lk (atW ds) s = some i) : 0 ≤ i ∧ i < (wordsOf ds).length := by
  obtain ⟨n, rfl, hn⟩ := lk_at s _ 0 i h
  have := (List.getElem?_eq_some_iff.1 hn).1
  rw [List.length_map] at this
  omega
theorem shs_len (ds : List Df) : (shs ds).length = (wordsOf ds).length := by unfold shs; rw [tysP_len]; simp
end Go.Proofs.YtlilefhmohkfkaaGreatDoor.E
