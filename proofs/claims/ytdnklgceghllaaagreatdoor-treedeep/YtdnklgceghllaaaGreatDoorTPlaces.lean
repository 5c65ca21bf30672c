import Derived.Test.YtdnklgceghllaaaGreatDoorTTell
import Derived.Test.YtdnklgceghllaaaGreatDoorTLeaf
import Derived.Lib.DecodeN
namespace Go.Proofs.YtdnklgceghllaaaGreatDoor.T
open Go.RowKit
set_option linter.unusedVariables false
theorem cont_bytes (n b0 b1 b2 b3 : Nat) (hn : 1 <= n) : (Lib.decodeN n b0 b1 b2 b3).2 <= n /\ (1 < (Lib.decodeN n b0 b1 b2 b3).2 -> 128 <= b1) /\ (2 < (Lib.decodeN n b0 b1 b2 b3).2 -> 128 <= b2) /\ (3 < (Lib.decodeN n b0 b1 b2 b3).2 -> 128 <= b3) /\ (Lib.decodeN n b0 b1 b2 b3).2 <= 4 := by
  unfold Lib.decodeN
  repeat' split
  all_goals (simp only; omega)
theorem get_bang (s : ByteArray) (i : Nat) (h : i < s.size) : s.get! i = s[i] := by
  simp [ByteArray.get!, getElem!_pos, h]; rfl
theorem rune_step (s : ByteArray) (pos : Nat) (h : pos < s.size) : pos + (Utf8.decode s pos).2 <= s.size /\ ∀ k (hk : k < s.size), pos < k -> k < pos + (Utf8.decode s pos).2 -> (s[k]'hk).toNat ≠ 10 := by
  have hd := cont_bytes (s.size - pos) (s.get! pos).toNat (s.get! (pos + 1)).toNat (s.get! (pos + 2)).toNat (s.get! (pos + 3)).toNat (by omega)
  rw [<- Lib.decode_at] at hd
  obtain ⟨h1, h2, h3, h4, h5⟩ := hd
  refine ⟨by omega, ?_⟩
  intro k hk a b
  have hg := get_bang s k hk
  rw [<- hg]
  by_cases e1 : k = pos + 1
  · subst e1; have := h2 (by omega); omega
  · by_cases e2 : k = pos + 2
    · subst e2; have := h3 (by omega); omega
    · have e3 : k = pos + 3 := by omega
      subst e3; have := h4 (by omega); omega
theorem rune_ten (s : ByteArray) (pos : Nat) (h : pos < s.size) : ((Utf8.decode s pos).1 = 10 ↔ s[pos].toNat = 10) /\ (s[pos].toNat = 10 -> (Utf8.decode s pos).2 = 1) := by
  by_cases ha : (s[pos]'h).toNat < 128
  · rw [decode_ascii s pos h ha]; exact ⟨Iff.rfl, fun _ => rfl⟩
  · have h1 := (decode_high s pos h (by omega)).1
    exact ⟨⟨fun e => by omega, fun e => by omega⟩, fun e => by omega⟩
structure At (l : List UInt8) (pos : Nat) (line : Int) (beg : Nat) : Prop where
  le : beg <= pos
  pl : place l beg = (line, 1)
  no : ∀ k (hk : k < l.length), beg <= k -> k < pos -> l[k].toNat ≠ 10
theorem At.told {l : List UInt8} {pos : Nat} {line : Int} {beg : Nat} (h : At l pos line beg) (o : Nat) (h1 : beg <= o) (h2 : o <= pos) (h3 : o <= l.length) : place l o = (line, (o : Int) - beg + 1) :=
  place_seg l beg line h.pl o h1 h3 (fun k hk a b => h.no k hk a (by omega))
theorem At.step {l : List UInt8} {pos p2 : Nat} {line : Int} {beg : Nat} (h : At l pos line beg) (hp : pos <= p2) (hn : ∀ k (hk : k < l.length), pos <= k -> k < p2 -> l[k].toNat ≠ 10) : At l p2 line beg :=
  ⟨Nat.le_trans h.le hp, h.pl, fun k hk a b => if c : k < pos then h.no k hk a c else hn k hk (by omega) b⟩
theorem At.line {l : List UInt8} {pos : Nat} {line : Int} {beg : Nat} (h : At l pos line beg) (hp : pos < l.length) (h10 : l[pos].toNat = 10) : At l (pos + 1) (line + 1) (pos + 1) := by
  refine ⟨Nat.le_refl _, ?_, fun k hk a b => by omega⟩
  rw [place_nl l pos hp h10, h.told pos h.le (Nat.le_refl _) (by omega)]
theorem ps_iter {s : Bl} {w0 W : World} {n : Nat} {f : Nat -> Int} {ord : Nat -> Nat} {T : Nat -> Int × Int} {line beg : Int} {j r : Nat} (ok : s.ok) (h : PS s w0 W n f ord T line beg j r) (k : Nat) (hk : s.bg < k) (t : ByteArray) (p : Nat) : PS s w0 (W.iterAt k t p) n f ord T line beg j r := by
  have o1 := ok.h0; have o2 := ok.h1; have o3 := ok.h2; have o4 := ok.h3; have o5 := ok.h4; have o6 := ok.h5; have o7 := ok.h6; have o8 := ok.h7
  have key : ∀ i, i <= s.bg -> (W.iterAt k t p).heap[i]? = W.heap[i]? := fun i hi => Lib.iterAt_other W k i t p (by omega)
  obtain ⟨a, ha, ha2⟩ := h.rest
  obtain ⟨pl, hp, hp2⟩ := h.told
  exact ⟨Lib.below_iterAt h.below (by omega) t p, h.sum, (key _ (by omega)).trans h.offs, (key _ (by omega)).trans h.plac, ⟨a, (key _ (by omega)).trans ha, ha2⟩, (key _ (by omega)).trans h.lin, (key _ (by omega)).trans h.begn,
    h.with_.kept (key _ (by omega)), h.ordr.kept (key _ (by omega)), ⟨pl, hp.kept (key _ (by omega)), hp2⟩⟩
theorem ps_line {s : Bl} {w0 W : World} {n : Nat} {f : Nat -> Int} {ord : Nat -> Nat} {T : Nat -> Int × Int} {line beg : Int} {j r : Nat} (ok : s.ok) (h : PS s w0 W n f ord T line beg j r) (a b : Int) :
    PS s w0 ((W.setCell ⟨s.bl, 0, none⟩ (.int .i64 a)).setCell ⟨s.bg, 0, none⟩ (.int .i64 b)) n f ord T a b j r := by
  have o1 := ok.h0; have o2 := ok.h1; have o3 := ok.h2; have o4 := ok.h3; have o5 := ok.h4; have o6 := ok.h5; have o7 := ok.h6; have o8 := ok.h7
  have key : ∀ i, i ≠ s.bl -> i ≠ s.bg -> ((W.setCell ⟨s.bl, 0, none⟩ (.int .i64 a)).setCell ⟨s.bg, 0, none⟩ (.int .i64 b)).heap[i]? = W.heap[i]? := fun i h1 h2 => by
    rw [Below.heap_setCell _ _ _ _ (by exact h2), Below.heap_setCell _ _ _ _ (by exact h1)]
  obtain ⟨c, ha, ha2⟩ := h.rest
  obtain ⟨pl, hp, hp2⟩ := h.told
  refine ⟨(h.below.setCell (p := ⟨s.bl, 0, none⟩) (by show s.B <= s.bl; omega) _).setCell (p := ⟨s.bg, 0, none⟩) (by show s.B <= s.bg; omega) _, h.sum, (key _ (by omega) (by omega)).trans h.offs, (key _ (by omega) (by omega)).trans h.plac, ⟨c, (key _ (by omega) (by omega)).trans ha, ha2⟩, ?_, ?_,
    h.with_.kept (key _ (by omega) (by omega)), h.ordr.kept (key _ (by omega) (by omega)), ⟨pl, hp.kept (key _ (by omega) (by omega)), hp2⟩⟩
  · rw [Below.heap_setCell _ _ _ _ (by show s.bl ≠ s.bg; omega), heap_setCell_same W s.bl 0 _ 3 _ h.lin]; rfl
  · rw [heap_setCell_same _ s.bg 0 #[.int .i64 beg] 3 _ (by rw [Below.heap_setCell _ _ _ _ (by show s.bg ≠ s.bl; omega)]; exact h.begn)]; rfl
theorem ps_alloc {s : Bl} {w0 W : World} {n : Nat} {f : Nat -> Int} {ord : Nat -> Nat} {T : Nat -> Int × Int} {line beg : Int} {j r : Nat} (ok : s.ok) (h : PS s w0 W n f ord T line beg j r) (o : Obj) : PS s w0 (W.alloc o) n f ord T line beg j r := by
  have o1 := ok.h0; have o2 := ok.h1; have o3 := ok.h2; have o4 := ok.h3; have o5 := ok.h4; have o6 := ok.h5; have o7 := ok.h6; have o8 := ok.h7
  have hg : s.bg < W.heap.size := (Array.getElem?_eq_some_iff.1 h.begn).1
  have key : ∀ i, i <= s.bg -> (W.alloc o).heap[i]? = W.heap[i]? := fun i hi => Below.heap_alloc W o i (by omega)
  obtain ⟨a, ha, ha2⟩ := h.rest
  obtain ⟨pl, hp, hp2⟩ := h.told
  exact ⟨h.below.alloc (by omega) o, h.sum, (key _ (by omega)).trans h.offs, (key _ (by omega)).trans h.plac, ⟨a, (key _ (by omega)).trans ha, ha2⟩, (key _ (by omega)).trans h.lin, (key _ (by omega)).trans h.begn,
    h.with_.kept (key _ (by omega)), h.ordr.kept (key _ (by omega)), ⟨pl, hp.kept (key _ (by omega)), hp2⟩⟩
def bls (B M R : Nat) : Bl := { B := B, bf := B, bp := B + 1, bv := B + 1 + 1, bw := B + 3, bo := M + 1, br := R, bl := R + 1, bg := R + 1 + 1 }
theorem bls_ok (B M R : Nat) (h1 : B + 3 < M) (h2 : M + 1 < R) : (bls B M R).ok := by
  constructor <;> simp [bls] <;> omega
theorem ps_start (w w4 : World) (M n : Nat) (F : Nat -> Int) (ord : Nat -> Nat) (T : Nat -> Int × Int) (h1 : w.heap.size + 3 < M) (h2 : M + 1 < w4.heap.size) (hB : Below w.heap.size w w4) (hr : IRow w4 (w.heap.size + 3) 3 F n)
    (ho : w4.heap[w.heap.size]? = some (.cells #[.slice (some ⟨w.heap.size + 3, 0, none⟩) n n] 38 (0, 0))) (hp : w4.heap[w.heap.size + 1]? = some (.cells (irow (fun _ => 0) (n * 2)) 28 (0, 0)))
    (hv : w4.heap[w.heap.size + 1 + 1]? = some (.cells #[.slice (some ⟨w.heap.size + 1, 0, none⟩) n n] 81 (0, 0))) (hd : IRow w4 (M + 1) 3 (fun k => (ord k : Int)) n) :
    PS (bls w.heap.size M w4.heap.size) w (((w4.alloc (.cells #[.slice (some ⟨M + 1, 0, none⟩) n n] 38)).alloc (.cells #[.int .i64 1] 3)).alloc (.cells #[.int .i64 0] 3)) n F ord T 1 0 0 n := by
  have key : ∀ k, k < w4.heap.size -> (((w4.alloc (.cells #[.slice (some ⟨M + 1, 0, none⟩) n n] 38)).alloc (.cells #[.int .i64 1] 3)).alloc (.cells #[.int .i64 0] 3)).heap[k]? = w4.heap[k]? := fun k hk => by
    rw [Below.heap_alloc _ _ _ (by simp; omega), Below.heap_alloc _ _ _ (by simp; omega), Below.heap_alloc _ _ _ hk]
  refine ⟨((hB.alloc (by omega) _).alloc (by simp; omega) _).alloc (by simp; omega) _, by omega, (key _ (by show w.heap.size < _; omega)).trans ho, (key _ (by show w.heap.size + 1 + 1 < _; omega)).trans hv, ⟨⟨M + 1, 0, none⟩, ?_, fun _ => rfl⟩, ?_, ?_,
    hr.kept (key _ (by omega)), hd.kept (key _ (by omega)), ⟨fun _ => (0, 0), ?_, fun k hk => by omega⟩⟩
  · show (((w4.alloc (.cells #[.slice (some ⟨M + 1, 0, none⟩) n n] 38)).alloc (.cells #[.int .i64 1] 3)).alloc (.cells #[.int .i64 0] 3)).heap[w4.heap.size]? = _
    rw [Below.heap_alloc _ _ _ (by simp; omega), Below.heap_alloc _ _ _ (by simp)]
    exact heap_alloc_new w4 _
  · show (((w4.alloc (.cells #[.slice (some ⟨M + 1, 0, none⟩) n n] 38)).alloc (.cells #[.int .i64 1] 3)).alloc (.cells #[.int .i64 0] 3)).heap[w4.heap.size + 1]? = _
    rw [Below.heap_alloc _ _ _ (by simp)]
    have := heap_alloc_new (w4.alloc (.cells #[.slice (some ⟨M + 1, 0, none⟩) n n] 38)) (.cells #[.int .i64 1] 3)
    simpa using this
  · show (((w4.alloc (.cells #[.slice (some ⟨M + 1, 0, none⟩) n n] 38)).alloc (.cells #[.int .i64 1] 3)).alloc (.cells #[.int .i64 0] 3)).heap[w4.heap.size + 1 + 1]? = _
    have := heap_alloc_new ((w4.alloc (.cells #[.slice (some ⟨M + 1, 0, none⟩) n n] 38)).alloc (.cells #[.int .i64 1] 3)) (.cells #[.int .i64 0] 3)
    simpa using this
  · have hp' : IRow w4 (w.heap.size + 1) 28 (fun _ => 0) (n * 2) := hp
    exact (hp'.congr (g := posf fun _ => (0, 0)) (fun j _ => by simp [posf])).kept (key _ (by omega))
def want (s : ByteArray) (f : Nat -> Int) : Nat -> Int × Int := fun i => place s.data.toList (clampN (f i) s.size)
set_option maxHeartbeats 4000000 in
set_option maxRecDepth 100000 in
theorem places_big (s : ByteArray) (hs : s.size <= 281474976710656) (p : Option Addr) (n c : Nat) (hn : n <= 1000000) (f : Nat -> Int) (w : World)
    (hc : n = 0 \/ ∃ x, p = some x /\ x.block < w.heap.size /\ ∀ j, j < n -> w.cell? (x.add j) = some (.int .i64 (f j))) :
    Calls Tryz.prog 35 #[.string s, .slice p n c] w fun e w' => e = .returned (.slice (some ⟨w.heap.size + 1, 0, none⟩) n n) /\ Below w.heap.size w w' /\ IRow w' (w.heap.size + 1) 28 (posf (want s f)) (n * 2) := by
  have hm := fun W => make_poss n hn W
  have hsm : s.size <= maxLen := by unfold maxLen; omega
  have HC : Hid (n = 0 \/ ∃ x, p = some x /\ x.block < w.heap.size /\ ∀ j, j < n -> w.cell? (x.add j) = some (.int .i64 (f j))) := hc
  have hcall : Calls Tryz.prog 61 #[.slice p n c, .int .i64 (s.size : Int)] (((w.alloc (.cells #[.slice p n c] 38)).alloc (.cells (irow (fun _ => 0) (n * 2)) 28)).alloc (.cells #[.slice (some ⟨w.heap.size + 1, 0, none⟩) n n] 81)) fun e w' => e = .returned (.slice (some ⟨w.heap.size + 3, 0, none⟩) n n) /\ Below (w.heap.size + 3) (((w.alloc (.cells #[.slice p n c] 38)).alloc (.cells (irow (fun _ => 0) (n * 2)) 28)).alloc (.cells #[.slice (some ⟨w.heap.size + 1, 0, none⟩) n n] 81)) w' /\ IRow w' (w.heap.size + 3) 3 (fun j => clampI (f j) s.size) n := by
    have h := within_any p n c f s.size hn hsm (((w.alloc (.cells #[.slice p n c] 38)).alloc (.cells (irow (fun _ => 0) (n * 2)) 28)).alloc (.cells #[.slice (some ⟨w.heap.size + 1, 0, none⟩) n n] 81)) (by
      rcases HC.out with h | ⟨x, hx, hb, hcx⟩
      · exact .inl h
      · refine .inr ⟨x, hx, by simp; omega, fun j hj => ?_⟩
        rw [World.cell?_of_block (w := w) (by rw [add_block, Below.heap_alloc _ _ _ (by simp; omega), Below.heap_alloc _ _ _ (by simp; omega), Below.heap_alloc _ _ _ hb])]
        exact hcx j hj)
    simpa using h
  have hbase : ∀ k, k < w.heap.size -> (((w.alloc (.cells #[.slice p n c] 38)).alloc (.cells (irow (fun _ => 0) (n * 2)) 28)).alloc (.cells #[.slice (some ⟨w.heap.size + 1, 0, none⟩) n n] 81)).heap[k]? = w.heap[k]? := fun k hk => by
    rw [Below.heap_alloc _ _ _ (by simp; omega), Below.heap_alloc _ _ _ (by simp; omega), Below.heap_alloc _ _ _ hk]
  have h0 : (((w.alloc (.cells #[.slice p n c] 38)).alloc (.cells (irow (fun _ => 0) (n * 2)) 28)).alloc (.cells #[.slice (some ⟨w.heap.size + 1, 0, none⟩) n n] 81)).heap[w.heap.size]? = some (.cells #[.slice p n c] 38 (0, 0)) := by
    rw [Below.heap_alloc _ _ _ (by simp; omega), Below.heap_alloc _ _ _ (by simp)]; exact heap_alloc_new w _
  have h1 : (((w.alloc (.cells #[.slice p n c] 38)).alloc (.cells (irow (fun _ => 0) (n * 2)) 28)).alloc (.cells #[.slice (some ⟨w.heap.size + 1, 0, none⟩) n n] 81)).heap[w.heap.size + 1]? = some (.cells (irow (fun _ => 0) (n * 2)) 28 (0, 0)) := by
    rw [Below.heap_alloc _ _ _ (by simp)]
    have := heap_alloc_new (w.alloc (.cells #[.slice p n c] 38)) (.cells (irow (fun _ => 0) (n * 2)) 28)
    simpa using this
  have h2 : (((w.alloc (.cells #[.slice p n c] 38)).alloc (.cells (irow (fun _ => 0) (n * 2)) 28)).alloc (.cells #[.slice (some ⟨w.heap.size + 1, 0, none⟩) n n] 81)).heap[w.heap.size + 1 + 1]? = some (.cells #[.slice (some ⟨w.heap.size + 1, 0, none⟩) n n] 81 (0, 0)) := by
    have := heap_alloc_new ((w.alloc (.cells #[.slice p n c] 38)).alloc (.cells (irow (fun _ => 0) (n * 2)) 28)) (.cells #[.slice (some ⟨w.heap.size + 1, 0, none⟩) n n] 81)
    simpa using this
  have HB : Hid (Below w.heap.size w (((w.alloc (.cells #[.slice p n c] 38)).alloc (.cells (irow (fun _ => 0) (n * 2)) 28)).alloc (.cells #[.slice (some ⟨w.heap.size + 1, 0, none⟩) n n] 81))) :=
    (((Below.refl _ _).alloc (Nat.le_refl _) _).alloc (by simp) _).alloc (by simp; omega) _
  have H0 : Hid _ := h0
  have H1 : Hid _ := h1
  have H2 : Hid _ := h2
  clear hc hbase h0 h1 h2
  go_enter Tryz.func35, Tryz.ntmps35
  go_wp2_with fail
  refine hcall.mono ?_
  rintro e w2 ⟨rfl, hb2, hr2⟩
  clear hcall hm
  have hz2 : w.heap.size + 3 < w2.heap.size := hr2.lt
  have ho2 : w2.heap[w.heap.size]? = some (.cells #[.slice p n c] 38 (0, 0)) := (hb2.block _ (by omega)).trans H0.out
  have hp2 : w2.heap[w.heap.size + 1]? = some (.cells (irow (fun _ => 0) (n * 2)) 28 (0, 0)) := (hb2.block _ (by omega)).trans H1.out
  have hv2 : w2.heap[w.heap.size + 1 + 1]? = some (.cells #[.slice (some ⟨w.heap.size + 1, 0, none⟩) n n] 81 (0, 0)) := (hb2.block _ (by omega)).trans H2.out
  have hB2 : Below w.heap.size w w2 := HB.out.trans (hb2.mono (by omega))
  clear hb2 HB H0 H1 H2
  obtain ⟨w3, hw3⟩ : ∃ w3, w3 = w2.setCell ⟨w.heap.size, 0, none⟩ (.slice (some ⟨w.heap.size + 3, 0, none⟩) n n) := ⟨_, rfl⟩
  have hz3 : w3.heap.size = w2.heap.size := by rw [hw3]; simp
  have ho3 : w3.heap[w.heap.size]? = some (.cells #[.slice (some ⟨w.heap.size + 3, 0, none⟩) n n] 38 (0, 0)) := by rw [hw3, heap_setCell_same w2 _ 0 _ 38 _ ho2]; rfl
  have hk3 : ∀ k, k ≠ w.heap.size -> w3.heap[k]? = w2.heap[k]? := fun k hk => by rw [hw3]; exact Below.heap_setCell _ _ _ _ hk
  have hr3 : IRow w3 (w.heap.size + 3) 3 (fun j => clampI (f j) s.size) n := hr2.kept (hk3 _ (by omega))
  have hp3 := (hk3 (w.heap.size + 1) (by omega)).trans hp2
  have hv3 := (hk3 (w.heap.size + 1 + 1) (by omega)).trans hv2
  have hB3 : Below w.heap.size w w3 := by rw [hw3]; exact hB2.setCell (p := ⟨w.heap.size, 0, none⟩) (Nat.le_refl _) _
  have hcall2 := rising_any (w.heap.size + 3) n _ hn w3 hr3
  have c2 := cell_of_row w2 w.heap.size 0 _ _ _ ho2
  have z2 := frozen_of_row w2 w.heap.size 0 _ _ ho2
  simp only [List.getElem?_toArray, List.getElem?_cons_zero] at c2
  have c3 := cell_of_row w3 w.heap.size 0 _ _ _ ho3
  simp only [List.getElem?_toArray, List.getElem?_cons_zero] at c3
  have H3 : Hid (Below w.heap.size w w3 /\ IRow w3 (w.heap.size + 3) 3 (fun j => clampI (f j) s.size) n /\ w3.heap[w.heap.size]? = some (.cells #[.slice (some ⟨w.heap.size + 3, 0, none⟩) n n] 38 (0, 0)) /\ w3.heap[w.heap.size + 1]? = some (.cells (irow (fun _ => 0) (n * 2)) 28 (0, 0)) /\ w3.heap[w.heap.size + 1 + 1]? = some (.cells #[.slice (some ⟨w.heap.size + 1, 0, none⟩) n n] 81 (0, 0))) := ⟨hB3, hr3, ho3, hp3, hv3⟩
  have hz3' : w.heap.size + 3 < w3.heap.size := by omega
  clear ho2 hp2 hv2 hB2 ho3 hk3 hr3 hp3 hv3 hB3 hr2 hz3
  rw [hw3] at c3
  go_wp2_with fail
  rw [<- hw3]
  refine hcall2.mono ?_
  rintro e w4 ⟨rfl, hb4, ord, hord, hr4⟩
  clear hcall2 c2 z2 c3 hw3
  have hz4 : w3.heap.size + 1 < w4.heap.size := hr4.lt
  have H4 : Hid (Below w.heap.size w w4 /\ IRow w4 (w.heap.size + 3) 3 (fun j => clampI (f j) s.size) n /\ w4.heap[w.heap.size]? = some (.cells #[.slice (some ⟨w.heap.size + 3, 0, none⟩) n n] 38 (0, 0)) /\ w4.heap[w.heap.size + 1]? = some (.cells (irow (fun _ => 0) (n * 2)) 28 (0, 0)) /\ w4.heap[w.heap.size + 1 + 1]? = some (.cells #[.slice (some ⟨w.heap.size + 1, 0, none⟩) n n] 81 (0, 0)) /\ IRow w4 (w3.heap.size + 1) 3 (fun k => (ord k : Int)) n) := by
    obtain ⟨a1, a2, a3, a4, a5⟩ := H3.out
    exact ⟨a1.trans (hb4.mono (by omega)), a2.kept (hb4.block _ (by omega)), (hb4.block _ (by omega)).trans a3, (hb4.block _ (by omega)).trans a4, (hb4.block _ (by omega)).trans a5, hr4⟩
  clear hb4 hr4 H3
  have hok := bls_ok w.heap.size w3.heap.size w4.heap.size hz3' hz4
  have HS : Hid (PS (bls w.heap.size w3.heap.size w4.heap.size) w (((w4.alloc (.cells #[.slice (some ⟨w3.heap.size + 1, 0, none⟩) n n] 38)).alloc (.cells #[.int .i64 1] 3)).alloc (.cells #[.int .i64 0] 3)) n (fun j => clampI (f j) s.size) ord (want s f) 1 0 0 n) := by
    obtain ⟨a1, a2, a3, a4, a5, a6⟩ := H4.out
    exact ps_start w w4 w3.heap.size n _ ord _ hz3' hz4 a1 a2 a3 a4 a5 a6
  clear H4
  go_wp2_with fail
  go_loopw [10] (fun _ wr => ∃ (pos beg j r : Nat) (line : Int), pos <= s.size /\ wr.heap[w4.heap.size + 1 + 1 + 1]? = some (.stringIter s pos) /\ PS (bls w.heap.size w3.heap.size w4.heap.size) w wr n (fun j => clampI (f j) s.size) ord (want s f) line (beg : Int) j r /\ At s.data.toList pos line beg /\ ∀ k, j <= k -> k < n -> (beg : Int) <= clampI (f (ord k)) s.size) (fun _ wr => s.size - wr.iterPos (w4.heap.size + 1 + 1 + 1))
  case atStart =>
    refine ⟨0, 0, 0, n, 1, Nat.zero_le _, ?_, ps_alloc hok HS.out _, ⟨Nat.le_refl _, rfl, fun k hk a b => by omega⟩, fun k _ _ => by unfold clampI; omega⟩
    have := World.iter_heap (((w4.alloc (.cells #[.slice (some ⟨w3.heap.size + 1, 0, none⟩) n n] 38)).alloc (.cells #[.int .i64 1] 3)).alloc (.cells #[.int .i64 0] 3)) s 0
    simpa using this
  case round =>
    clear HS
    obtain ⟨pos, beg, j, r, line, hpos, hit, hps, hat, hge⟩ := hrel
    have hsz : w4.heap.size + 1 + 1 + 1 < wr.heap.size := (Array.getElem?_eq_some_iff.1 hit).1
    have hl1 := place_line_pos s.data.toList beg
    rw [hat.pl] at hl1
    have hbl := hat.le
    have hlA : 0 <= line := by simp at hl1; omega
    have hlB : line <= 281474976710657 := by simp at hl1; omega
    have HT : Hid (∀ k, j <= k -> k < n -> clampI (f (ord k)) s.size <= (pos : Int) -> want s f (ord k) = (line, clampI (f (ord k)) s.size - beg + 1)) := by
      intro k h1 h2 h3
      unfold want
      have hcc := clamp_cast (f (ord k)) s.size
      have hcl := clamp_le (f (ord k)) s.size
      have hgk := hge k h1 h2
      rw [hat.told (clampN (f (ord k)) s.size) (by omega) (by omega) (by rw [size_list]; exact hcl), hcc]
    have hF : ∀ i, i < n -> 0 <= clampI (f i) s.size /\ clampI (f i) s.size <= 1000000000000000 := fun i _ => by unfold clampI; omega
    have tellc : ∀ W, PS (bls w.heap.size w3.heap.size w4.heap.size) w W n (fun j => clampI (f j) s.size) ord (want s f) line (beg : Int) j r ->
        Calls Tryz.prog 63 #[.int .i64 (pos : Int), .pointer (some ⟨w4.heap.size, 0, none⟩), .pointer (some ⟨w.heap.size, 0, none⟩), .pointer (some ⟨w4.heap.size + 1, 0, none⟩), .pointer (some ⟨w4.heap.size + 1 + 1, 0, none⟩), .pointer (some ⟨w.heap.size + 1 + 1, 0, none⟩)] W
          fun e w' => e = .returned (.tuple #[]) /\ Keeps (bls w.heap.size w3.heap.size w4.heap.size) W w' /\ ∃ j' r', j <= j' /\ PS (bls w.heap.size w3.heap.size w4.heap.size) w w' n (fun j => clampI (f j) s.size) ord (want s f) line (beg : Int) j' r' /\ ∀ k, j' <= k -> k < n -> (pos : Int) < clampI (f (ord k)) s.size :=
      fun W h => tell_any (bls w.heap.size w3.heap.size w4.heap.size) hok w W n hn (fun j => clampI (f j) s.size) ord (want s f) line (beg : Int) (pos : Int) j r hord hF (by simp at hl1; omega) (by omega) HT.out h
    by_cases hp : pos < s.size
    · have hnx : ∀ ty, (Instr.next (.pointer (some ⟨w4.heap.size + 1 + 1 + 1, 0, none⟩)) true ty).run Tryz.prog wr = _ := fun ty => Lib.run_next_any_at wr (w4.heap.size + 1 + 1 + 1) s pos ty hit hp
      obtain ⟨ht1, ht2⟩ := rune_ten s pos hp
      obtain ⟨hs1, hs2⟩ := rune_step s pos hp
      have hwd := width_pos s pos hp
      have hle := decode_le s pos
      have hit2 := Lib.iterAt_heap wr (w4.heap.size + 1 + 1 + 1) s pos (pos + (Utf8.decode s pos).2) hit
      have hps2 := ps_iter hok hps (w4.heap.size + 1 + 1 + 1) (by show w4.heap.size + 1 + 1 < _; omega) s (pos + (Utf8.decode s pos).2)
      by_cases h10 : s[pos].toNat = 10
      · have e1 := ht1.2 h10
        have e2 := ht2 h10
        have hat2 := hat.line (by rw [size_list]; exact hp) h10
        rw [e1, e2] at hnx
        rw [e2] at hit2 hps2
        have HA : Hid (At s.data.toList (pos + 1) (line + 1) (pos + 1)) := hat2
        have Hit : Hid ((wr.iterAt (w4.heap.size + 1 + 1 + 1) s (pos + 1)).heap[w4.heap.size + 1 + 1 + 1]? = some (.stringIter s (pos + 1))) := hit2
        have Hi1 : Hid (wr.heap[w4.heap.size + 1 + 1 + 1]? = some (.stringIter s pos)) := hit
        have hcall3 := tellc _ hps2
        clear hat2 hat hge HT hF tellc ht1 ht2 hs1 hs2 hwd hle hps hps2 e1 e2 hit hit2 h10 hl1
        go_wp2_with (go_at_call 63; refine hcall3.mono ?_; rintro e w5 ⟨rfl, hk5, j', r', hj, hps5, hlt5⟩; have c5 : w5.cell? ⟨w4.heap.size + 1, 0, none⟩ = some (.int .i64 line) := cell_of_row _ _ 0 _ _ _ hps5.lin; have c6 : w5.cell? ⟨w4.heap.size + 1 + 1, 0, none⟩ = some (.int .i64 (beg : Int)) := cell_of_row _ _ 0 _ _ _ hps5.begn; have z5 : w5.frozen? ⟨w4.heap.size + 1, 0, none⟩ = false := frozen_of_row _ _ 0 _ _ hps5.lin; have z6 : w5.frozen? ⟨w4.heap.size + 1 + 1, 0, none⟩ = false := frozen_of_row _ _ 0 _ _ hps5.begn; have HP5 : Hid _ := hps5; have HK5 : Hid _ := hk5; have HL5 : Hid _ := hlt5; clear hps5 hk5 hlt5 hcall3)
        have hps6 := ps_line hok HP5.out (line + 1) ((pos + 1 : Nat) : Int)
        have hit6 : ((w5.setCell ⟨w4.heap.size + 1, 0, none⟩ (.int .i64 (line + 1))).setCell ⟨w4.heap.size + 1 + 1, 0, none⟩ (.int .i64 ((pos : Int) + 1))).heap[w4.heap.size + 1 + 1 + 1]? = some (.stringIter s (pos + 1)) := by
          rw [Below.heap_setCell _ _ _ _ (by show w4.heap.size + 1 + 1 + 1 ≠ w4.heap.size + 1 + 1; omega), Below.heap_setCell _ _ _ _ (by show w4.heap.size + 1 + 1 + 1 ≠ w4.heap.size + 1; omega), HK5.out.block _ (by show w4.heap.size + 1 + 1 + 1 ≠ w.heap.size + 1; omega) (by show w4.heap.size + 1 + 1 + 1 ≠ w4.heap.size; omega)]
          exact Hit.out
        go_roundw
        case rel => exact ⟨pos + 1, pos + 1, j', r', line + 1, by omega, hit6, hps6, HA.out, fun k h1 h2 => by have := HL5.out k h1 h2; omega⟩
        case measure => simp only [World.iterPos, hit6, Hi1.out]; omega
      · have hr10 : ¬ (((Utf8.decode s pos).1 : Nat) : Int) = 10 := by
          intro e; exact h10 (ht1.1 (by omega))
        have hat2 : At s.data.toList (pos + (Utf8.decode s pos).2) line beg := hat.step (by omega) (fun k hk a b => by
          by_cases e : k = pos
          · subst e; exact h10
          · exact hs2 k (by rw [size_list] at hk; exact hk) (by omega) b)
        have HX : Hid (At s.data.toList (pos + (Utf8.decode s pos).2) line beg /\ (∀ k, j <= k -> k < n -> (beg : Int) <= clampI (f (ord k)) s.size) /\ PS (bls w.heap.size w3.heap.size w4.heap.size) w (wr.iterAt (w4.heap.size + 1 + 1 + 1) s (pos + (Utf8.decode s pos).2)) n (fun j => clampI (f j) s.size) ord (want s f) line (beg : Int) j r /\ (wr.iterAt (w4.heap.size + 1 + 1 + 1) s (pos + (Utf8.decode s pos).2)).heap[w4.heap.size + 1 + 1 + 1]? = some (.stringIter s (pos + (Utf8.decode s pos).2))) := ⟨hat2, hge, hps2, hit2⟩
        have Hi1 : Hid (wr.heap[w4.heap.size + 1 + 1 + 1]? = some (.stringIter s pos)) := hit
        clear hat2 hat hge HT hF tellc ht1 ht2 hs2 hps hps2 hit hit2 h10 hl1
        generalize (Utf8.decode s pos).1 = r at *
        generalize (Utf8.decode s pos).2 = wd at *
        go_wp2_with fail
        obtain ⟨x1, x2, x3, x4⟩ := HX.out
        go_roundw
        case rel => exact ⟨pos + wd, beg, j, _, line, hs1, x4, x3, x1, x2⟩
        case measure => simp only [World.iterPos, x4, Hi1.out]; omega
    · have hnx : ∀ ty, (Instr.next (.pointer (some ⟨w4.heap.size + 1 + 1 + 1, 0, none⟩)) true ty).run Tryz.prog wr = _ := fun ty => Lib.run_next_end_at wr (w4.heap.size + 1 + 1 + 1) s pos ty hit hp
      obtain rfl : pos = s.size := by omega
      have hcall3 := tellc _ hps
      clear hat hge HT tellc hps hit hl1
      go_wp2_with (go_at_call 63; refine hcall3.mono ?_; rintro e w5 ⟨rfl, hk5, j', r', hj, hps5, hlt5⟩; have c5 : w5.cell? ⟨w.heap.size + 1 + 1, 0, none⟩ = some (.slice (some ⟨w.heap.size + 1, 0, none⟩) n n) := cell_of_row _ _ 0 _ _ _ hps5.plac; have HP5 : Hid _ := hps5; have HL5 : Hid _ := hlt5; clear hps5 hk5 hlt5 hcall3)
      go_ret
      have hjn : j' = n := by
        have h1 := HP5.out.sum
        by_cases e : j' < n
        · have h2 := HL5.out j' (Nat.le_refl _) e
          have h3 : clampI (f (ord j')) s.size <= s.size := by unfold clampI; omega
          omega
        · omega
      subst hjn
      obtain ⟨pl, hpl, htold⟩ := HP5.out.told
      refine ⟨rfl, HP5.out.below, hpl.congr fun i hi => ?_⟩
      have hi2 : i / 2 < j' := by omega
      obtain ⟨k, hk, hok⟩ := hord.onto (i / 2) hi2
      have := htold k hk
      rw [hok] at this
      unfold posf
      rw [this]
theorem places_any (s : ByteArray) (hs : s.size <= 140737488355328) (p : Option Addr) (n c : Nat) (hn : n <= 1000000) (f : Nat -> Int) (w : World)
    (hc : n = 0 \/ ∃ x, p = some x /\ x.block < w.heap.size /\ ∀ j, j < n -> w.cell? (x.add j) = some (.int .i64 (f j))) :
    Calls Tryz.prog 35 #[.string s, .slice p n c] w fun e w' => e = .returned (.slice (some ⟨w.heap.size + 1, 0, none⟩) n n) /\ Below w.heap.size w w' /\ IRow w' (w.heap.size + 1) 28 (posf (want s f)) (n * 2) :=
  places_big s (by omega) p n c hn f w hc
end Go.Proofs.YtdnklgceghllaaaGreatDoor.T
