import Derived.Test.YtdnklgceghllaaaGreatDoorKTok
import Derived.Test.YtdnklgceghllaaaGreatDoorSKit
import Derived.WalkMore
import Derived.Deep.DeepCutAuto
namespace Go.Proofs.YtdnklgceghllaaaGreatDoor.K
open Go.RowKit
open Go.Proofs
open Go.Proofs.YtdnklgceghllaaaGreatDoor
open Go.Proofs.YtdnklgceghllaaaGreatDoor.T (size_list numE numC)
set_option linter.unusedVariables false
set_option linter.unusedSimpArgs false
structure Tk where
  k : Int
  t : ByteArray
  v : Int
  p : Int × Int
def eT (x : Tk) : List Value := (tc x.k x.t x.v x.p).toList
def eI (z : Int) : List Value := [.int .i64 z]
theorem hT (a : Tk) : (eT a).length = 5 := rfl
theorem hI (a : Int) : (eI a).length = 1 := rfl
theorem infoT : (Tryz.prog.info? 53).map (fun i => (i.zero, i.size, i.bytes)) = some (some (.agg zc), 5, 48) := by kernel_rfl
theorem infoI : (Tryz.prog.info? 3).map (fun i => (i.zero, i.size, i.bytes)) = some (some (.int .i64 0), 1, 8) := by kernel_rfl
structure TB (w wr : World) (vT vB : Value) (ts : List Tk) (bs : List Int) : Prop where
  toks : wr.ownsRow w.heap.size 53 5 vT ts.length (S.en eT ts)
  begs : wr.ownsRow w.heap.size 3 1 vB bs.length (S.en eI bs)
  apart : ∀ g, vT.ownBlock = some g -> vB.ownBlock ≠ some g
  bel : Below w.heap.size w wr
theorem TB.start (w : World) : TB w w (.slice none 0 0) (.slice none 0 0) [] [] :=
  ⟨World.ownsRow_nil w _ _ _, World.ownsRow_nil w _ _ _, (fun g h => by cases h), Below.refl _ _⟩
theorem TB.below {w wr wq : World} {vT vB : Value} {ts : List Tk} {bs : List Int} (h : TB w wr vT vB ts bs) (k : Below wr.heap.size wr wq) : TB w wq vT vB ts bs :=
  ⟨S.own_kept h.toks fun g _ hg => k.block g hg, S.own_kept h.begs fun g _ hg => k.block g hg, h.apart, trB h.bel k h.bel.size⟩
theorem TB.putT {w wr w4 : World} {vT vB v' : Value} {ts : List Tk} {bs : List Int} {x : Tk} (h : TB w wr vT vB ts bs) (ho : w4.ownsRow w.heap.size 53 5 v' (ts.length + 1) (S.en eT ts ++ eT x)) (hg : S.Grew wr w4 vT v') : TB w w4 v' vB (ts ++ [x]) bs := by
  refine ⟨?_, ?_, ?_, hg.belowAll (fun g e => (h.toks.lt g e).1) h.bel (Nat.le_refl _)⟩
  · rw [S.en_append, List.length_append]; simpa [S.en] using ho
  · exact S.own_kept h.begs fun g hg2 hlt => hg.block g hlt fun e => h.apart g e.symm hg2
  · intro g e1 e2
    rcases hg.own with q | q
    · exact h.apart g (by rw [<- q]; exact e1) e2
    · have h1 := q g e1
      have h2 := (h.begs.lt g e2).2
      omega
theorem TB.putB {w wr w4 : World} {vT vB v' : Value} {ts : List Tk} {bs : List Int} {x : Int} (h : TB w wr vT vB ts bs) (ho : w4.ownsRow w.heap.size 3 1 v' (bs.length + 1) (S.en eI bs ++ eI x)) (hg : S.Grew wr w4 vB v') : TB w w4 vT v' ts (bs ++ [x]) := by
  refine ⟨?_, ?_, ?_, hg.belowAll (fun g e => (h.begs.lt g e).1) h.bel (Nat.le_refl _)⟩
  · exact S.own_kept h.toks fun g hg2 hlt => hg.block g hlt fun e => h.apart g hg2 e.symm
  · rw [S.en_append, List.length_append]; simpa [S.en] using ho
  · intro g e1 e2
    rcases hg.own with q | q
    · exact h.apart g e1 (by rw [<- q]; exact e2)
    · have h1 := q g e2
      have h2 := (h.toks.lt g e1).2
      omega
def tk0 (s : ByteArray) (q : Nat × Nat) : Tk := ⟨kd (wd s.data.toList q.1 q.2), s.extract q.1 q.2, numC (wd s.data.toList q.1 q.2), (0, 0)⟩
def tk (s : ByteArray) (q : Nat × Nat) : Tk := ⟨kd (wd s.data.toList q.1 q.2), s.extract q.1 q.2, numC (wd s.data.toList q.1 q.2), T.place s.data.toList q.1⟩
theorem kd_cases (l : List UInt8) (h : numE l ≠ 21) : (numE l = 0 /\ kd l = 2) \/ (numE l = 20 /\ kd l = 1 /\ numC l = 0) := by
  rcases numE_cases l with h0 | ⟨h1, _⟩ | ⟨h2, h3⟩
  · exact .inl ⟨h0, by unfold kd; rw [if_pos h0]⟩
  · exact absurd h1 h
  · exact .inr ⟨h2, by unfold kd; rw [if_neg (by rw [h2]; decide)], h3⟩
theorem tokenOf_ok (s : ByteArray) (hs : s.size <= maxLen) (h : s.size <= 31) (hn : numE s.data.toList ≠ 21) (w : World) :
    Calls Tryz.prog 60 #[.string s] w fun e w' => e = .returned (.tuple #[tv (kd s.data.toList) s (numC s.data.toList) (0, 0), .int .i64 0]) /\ Below w.heap.size w w' := by
  rcases kd_cases _ hn with ⟨h0, h1⟩ | ⟨h0, h1, h2⟩
  · rw [h1]; exact tokenOf_num s hs h h0 w
  · rw [h1, h2]; exact tokenOf_word s hs h h0 w
theorem cs_alloc (W : World) (c : List Value) (t : TypeId) (size : Nat) (h1 : c.length = size) (h2 : ∀ v ∈ c, v.oneCell' = true) : S.Cs (W.alloc (.cells c.toArray t)) (.slice (some ⟨W.heap.size, 0, none⟩) 1 1) size 1 c := by
  refine .inr ⟨⟨W.heap.size, 0, none⟩, 1, rfl, by rw [h1, Nat.one_mul], ?_, h2⟩
  intro j x hj
  have e : (⟨W.heap.size, 0, none⟩ : Addr).add j = ⟨W.heap.size, j, none⟩ := by rw [Addr.add_lit]; simp
  rw [e]
  exact S.cell_of _ _ _ c t x (heap_alloc_new W _) hj
theorem bel_alloc (w : World) (o : Obj) : Below w.heap.size w (w.alloc o) := (Below.refl _ w).alloc (Nat.le_refl _) o
theorem hid {p : Prop} (h : p) : Hid p := h
def ScanO (s : ByteArray) (w : World) (e : Ending) (w' : World) : Prop :=
  ∃ vT vB, e = .returned (.tuple #[vT, vB, .int .i64 (((sc s.data.toList).2.1 : Nat) : Int), .int .i64 (sc s.data.toList).2.2]) /\
      TB w w' vT vB ((sc s.data.toList).1.map (tk0 s)) ((sc s.data.toList).1.map fun q => (q.1 : Int))
theorem scan_fin {s : ByteArray} {w wr : World} {a : Act} {i : Nat} {ws : List (Nat × Nat)} {e : Int} {vT vB : Value} (hd : a.defers = []) (h2 : a.tmps.getD 2 undef = vT) (h3 : a.tmps.getD 3 undef = vB) (h4 : a.tmps.getD 4 undef = .int .i64 (i : Int)) (h5 : a.tmps.getD 5 undef = .int .i64 e)
    (hsc : sc s.data.toList = (ws, i, e)) (hB : TB w wr vT vB (ws.map (tk0 s)) (ws.map fun q => (q.1 : Int))) : bodyPost Tryz.prog Tryz.f34 (fun e w' => ScanO s w e w') .ret a wr := by
  refine bodyPost_ret (v := .tuple #[vT, vB, .int .i64 (i : Int), .int .i64 e]) ?_ hd ⟨vT, vB, ?_, ?_⟩
  · have g2 : a.tmps[2]?.getD undef = vT := by simpa using h2
    have g3 : a.tmps[3]?.getD undef = vB := by simpa using h3
    have g4 : a.tmps[4]?.getD undef = .int .i64 (i : Int) := by simpa using h4
    have g5 : a.tmps[5]?.getD undef = .int .i64 e := by simpa using h5
    simp [results, Tryz.results34, g2, g3, g4, g5, go_sem]
  · rw [hsc]
  · rw [hsc]; exact hB
theorem len_map {α β : Type} (f : α -> β) (a : List α) : (a.map f).length = a.length := List.length_map f
set_option maxHeartbeats 4000000 in
set_option maxRecDepth 20000 in
theorem scan_any (s : ByteArray) (hs : s.size <= 65536) (w : World) :
    Calls Tryz.prog 34 #[.string s] w fun e w' => ScanO s w e w' := by
  have hm : s.size <= maxLen := by unfold maxLen; omega
  go_enter Tryz.func34, Tryz.ntmps34
  go_wp2
  go_step3
  go_wp2
  go_step3
  go_wp2
  go_loopw [2, 3, 4, 5] (fun vT vB x y wr => ∃ (i : Nat) (a : List (Nat × Nat)), x = .int .i64 (i : Int) /\ y = .int .i64 0 /\ At s.data.toList i a /\ TB w wr vT vB (a.map (tk0 s)) (a.map fun q => (q.1 : Int))) (fun _ _ x _ _ => s.size - (Lib.intOf x).toNat)
  case atStart => exact ⟨0, [], rfl, rfl, At.start _, TB.start w⟩
  case round =>
    obtain ⟨i, a, rfl, rfl, hA, hB⟩ := hrel
    have hi0 : i <= s.size := by have := hA.le; rwa [size_list] at this
    by_cases hlt : i < s.size
    case neg =>
      have HN := hid (hA.fin (by rw [size_list]; omega))
      have HB := hid hB
      clear hA hB
      go_wp2_with fail
      rw [Exit.noGoto_ret]
      exact scan_fin rfl rfl rfl rfl rfl HN.out HB.out
    have hl : i < s.data.toList.length := by rw [size_list]; exact hlt
    have HA := hid hA
    have HB := hid hB
    clear hA hB
    have hg := getD_byte s i hlt
    have hwe : wend s.data.toList i <= s.size := by have := wend_le s.data.toList i (Nat.le_of_lt hl); rwa [size_list] at this
    obtain ⟨wo, hwo⟩ : ∃ wo, wo = s.extract i (wend s.data.toList i) := ⟨_, rfl⟩
    have hwl : wo.data.toList = wd s.data.toList i (wend s.data.toList i) := by rw [hwo, ext_list]
    have hwz : wo.size = wend s.data.toList i - i := by rw [hwo, ext_size _ _ _ hwe]
    have hW := fun W => wordAt_any s i hm hi0 W
    simp only [<- hwo] at hW
    have HWO := hid hwo
    clear hwo
    rcases sp_cases s.data.toList i hl with ⟨h1, h2, h3, h⟩ | ⟨h1, h2, h3, h⟩ | ⟨h1, h2, h, h3⟩ | ⟨h1, h2, h3, h4, h⟩ | ⟨k, h1, h2, h3, h4, h⟩ | ⟨j, h1, h0, h2, h3, h4, h⟩ | ⟨j, h1, h0, h2, h3, h4, h5, h⟩ | ⟨j, h1, h0, h2, h3, h4, h5, h⟩
    · -- a blank
      rw [h1, wd_nil] at hwl
      have e0 := list_emp wo hwl
      rw [hg] at h3
      have HN := hid (HA.out.to hl h)
      clear h h1 h2 hg hwl hl hwe hwz
      go_wp2_with (first | (go_at_call 56; refine (hW _).mono ?_; rintro e w' ⟨rfl, rfl⟩) | (go_at_call 57; refine (blank_any s[i].toNat _).mono ?_; rintro e w' ⟨rfl, rfl⟩; rw [h3]))
      go_roundw
      case rel => exact ⟨i + 1, a, by simp, rfl, HN.out, HB.out⟩
      case measure => simp only [Lib.intOf]; omega
    · -- a byte
      rw [h1, wd_nil] at hwl
      have e0 := list_emp wo hwl
      rw [hg] at h3
      have HN := hid (HA.out.no hl h)
      clear h h1 h2 hg hwl hl hwe hwz
      go_wp2_with (first | (go_at_call 56; refine (hW _).mono ?_; rintro e w' ⟨rfl, rfl⟩) | (go_at_call 57; refine (blank_any s[i].toNat _).mono ?_; rintro e w' ⟨rfl, rfl⟩; rw [h3]))
      rw [Exit.noGoto_ret]
      exact scan_fin rfl rfl rfl rfl rfl HN.out HB.out
    · -- a comment to the line
      rw [h1] at hwl
      have e0 := list_full wo (by rw [hwl, h2]; simp)
      have e1 := list_is wo 92 (by rw [hwl, h2])
      have HN := hid (HA.out.to hl h)
      have hto := sp_to _ _ _ hl h
      rw [size_list] at hto
      have hN := fun W => behindNext_any s i 10 hs hi0 W
      rw [size_list] at HN
      generalize hj : (nxt 10 s.data.toList i).getD s.size = j at *
      simp only [show (10 : UInt8).toNat = 10 from rfl, hj] at hN
      clear h h1 h2 h3 hg hwl hl hwe hwz hj
      go_wp2_with (first | (go_at_call 56; refine (hW _).mono ?_; rintro e w' ⟨rfl, rfl⟩) | (go_at_call 58; refine (hN _).mono ?_; rintro e w' ⟨rfl, rfl⟩))
      go_roundw
      case rel => exact ⟨j, a, by simp, rfl, HN.out, HB.out⟩
      case measure => simp only [Lib.intOf]; omega
    · -- a comment that does not end
      rw [h1] at hwl
      have e0 := list_full wo (by rw [hwl, h2]; simp)
      have e1 := list_no wo 92 (by rw [hwl, h2]; decide)
      have e2 := list_is wo 40 (by rw [hwl, h2])
      have HN := hid (HA.out.no hl h)
      have hC := fun W => contains_any s i 41 W
      simp only [show (41 : UInt8).toNat = 41 from rfl, h3, Option.isSome_none] at hC
      clear h h1 h2 h3 h4 hg hwl hl hwe hwz
      go_wp2_with (first | (go_at_call 56; refine (hW _).mono ?_; rintro e w' ⟨rfl, rfl⟩) | (go_at_call 59; refine (hC _).mono ?_; rintro e w' ⟨rfl, rfl⟩))
      rw [Exit.noGoto_ret]
      exact scan_fin rfl rfl rfl rfl rfl HN.out HB.out
    · -- a comment in brackets
      rw [h1] at hwl
      have e0 := list_full wo (by rw [hwl, h2]; simp)
      have e1 := list_no wo 92 (by rw [hwl, h2]; decide)
      have e2 := list_is wo 40 (by rw [hwl, h2])
      have HN := hid (HA.out.to hl h)
      have hto := sp_to _ _ _ hl h
      rw [size_list] at hto
      have hC := fun W => contains_any s i 41 W
      simp only [show (41 : UInt8).toNat = 41 from rfl, h3, Option.isSome_some] at hC
      have hN := fun W => behindNext_any s i 41 hs hi0 W
      simp only [show (41 : UInt8).toNat = 41 from rfl, h3, Option.getD_some] at hN
      clear h h1 h2 h3 h4 hg hwl hl hwe hwz
      go_wp2_with (first | (go_at_call 56; refine (hW _).mono ?_; rintro e w' ⟨rfl, rfl⟩) | (go_at_call 59; refine (hC _).mono ?_; rintro e w' ⟨rfl, rfl⟩) | (go_at_call 58; refine (hN _).mono ?_; rintro e w' ⟨rfl, rfl⟩))
      go_roundw
      case rel => exact ⟨k, a, by simp, rfl, HN.out, HB.out⟩
      case measure => simp only [Lib.intOf]; omega
    · -- a wide word
      rw [h1] at hwl hwz hwe
      have e0 := list_full wo (by rw [hwl]; exact wd_ne _ _ _ (by rw [size_list]; omega) h0)
      have e1 := list_no wo 92 (by rw [hwl]; exact h2)
      have e2 := list_no wo 40 (by rw [hwl]; exact h3)
      have hwm : wo.size <= maxLen := by unfold maxLen; omega
      have hT := fun W => tokenOf_wide wo hwm (by omega) W
      have HN := hid (HA.out.no hl h)
      clear h h1 h2 h3 hg hwl hl hwe hwz
      go_wp2_with (first | (go_at_call 56; refine (hW _).mono ?_; rintro e w' ⟨rfl, rfl⟩))
      refine (hT _).mono ?_
      rintro e w1 ⟨rfl, hb1⟩
      obtain ⟨W2, hA2⟩ : ∃ W2, w1.alloc (.cells #[.int .i64 0, .string { data := #[] }, .int .u16 0, .int .i64 0, .int .i64 0] 53) = W2 := ⟨_, rfl⟩
      have hz2 : W2.heap[w1.heap.size]? = some (.cells zc 53 (0, 0)) := by rw [<- hA2]; exact heap_alloc_new w1 _
      have hb2 : Below w'.heap.size w' W2 := by rw [<- hA2]; exact hb1.alloc hb1.size _
      go_wp2_with (refine wpList_store_row rfl 53 _ _ rfl w1.heap.size _ rfl rfl 53 zc hz2 (by exact sizeT) (by rfl) (by simp [Value.oneCell', tc]) ?_)
      rw [Exit.noGoto_ret]
      exact scan_fin rfl rfl rfl rfl rfl HN.out (HB.out.below (Below.setRow hb2 w1.heap.size hb1.size _))
    · -- a great numeral
      rw [h1] at hwl hwz hwe
      have e0 := list_full wo (by rw [hwl]; exact wd_ne _ _ _ (by rw [size_list]; omega) h0)
      have e1 := list_no wo 92 (by rw [hwl]; exact h2)
      have e2 := list_no wo 40 (by rw [hwl]; exact h3)
      have hwm : wo.size <= maxLen := by unfold maxLen; omega
      have hT := fun W => tokenOf_great wo hwm (by omega) (by rw [hwl]; exact h5) W
      have HN := hid (HA.out.no hl h)
      clear h h1 h2 h3 h5 hg hwl hl hwe hwz
      go_wp2_with (first | (go_at_call 56; refine (hW _).mono ?_; rintro e w' ⟨rfl, rfl⟩))
      refine (hT _).mono ?_
      rintro e w1 ⟨rfl, hb1⟩
      obtain ⟨W2, hA2⟩ : ∃ W2, w1.alloc (.cells #[.int .i64 0, .string { data := #[] }, .int .u16 0, .int .i64 0, .int .i64 0] 53) = W2 := ⟨_, rfl⟩
      have hz2 : W2.heap[w1.heap.size]? = some (.cells zc 53 (0, 0)) := by rw [<- hA2]; exact heap_alloc_new w1 _
      have hb2 : Below w'.heap.size w' W2 := by rw [<- hA2]; exact hb1.alloc hb1.size _
      go_wp2_with (refine wpList_store_row rfl 53 _ _ rfl w1.heap.size _ rfl rfl 53 zc hz2 (by exact sizeT) (by rfl) (by simp [Value.oneCell', tc]) ?_)
      rw [Exit.noGoto_ret]
      exact scan_fin rfl rfl rfl rfl rfl HN.out (HB.out.below (Below.setRow hb2 w1.heap.size hb1.size _))
    · -- a word
      rw [h1] at hwl hwz hwe
      have e0 := list_full wo (by rw [hwl]; exact wd_ne _ _ _ (by rw [size_list]; omega) h0)
      have e1 := list_no wo 92 (by rw [hwl]; exact h2)
      have e2 := list_no wo 40 (by rw [hwl]; exact h3)
      have hwm : wo.size <= maxLen := by unfold maxLen; omega
      have hT := fun W => tokenOf_ok wo hwm (by omega) (by rw [hwl]; exact h5) W
      have HN := hid (HA.out.wo hl h)
      have hfew : a.length <= i := HA.out.few
      have hje : ((i : Int) + (wo.size : Int)) = (j : Int) := by omega
      have htk : (⟨kd wo.data.toList, wo, numC wo.data.toList, (0, 0)⟩ : Tk) = tk0 s (i, j) := by rw [hwl]; have := HWO.out; rw [h1] at this; rw [this]; rfl
      have HTK := hid htk
      clear h h1 h2 h3 h5 hg hwl hl hwe htk
      generalize kd wo.data.toList = kk at *
      generalize numC wo.data.toList = vv at *
      go_wp2_with (first | (go_at_call 56; refine (hW _).mono ?_; rintro e w' ⟨rfl, rfl⟩))
      refine (hT _).mono ?_
      rintro e w1 ⟨rfl, hb1⟩
      obtain ⟨W2, hA2⟩ : ∃ W2, w1.alloc (.cells #[.int .i64 0, .string { data := #[] }, .int .u16 0, .int .i64 0, .int .i64 0] 53) = W2 := ⟨_, rfl⟩
      have hz2 : W2.heap[w1.heap.size]? = some (.cells zc 53 (0, 0)) := by rw [<- hA2]; exact heap_alloc_new w1 _
      have hb2 : Below w'.heap.size w' W2 := by rw [<- hA2]; exact hb1.alloc hb1.size _
      obtain ⟨W3, hA3⟩ : ∃ W3, W2.setRow w1.heap.size (tc kk wo vv (0, 0)) = W3 := ⟨_, rfl⟩
      have hg3 : W3.heap[w1.heap.size]? = some (.cells (tc kk wo vv (0, 0)) 53 (0, 0)) := by rw [<- hA3]; exact setRow_heap W2 w1.heap.size _ _ _ _ hz2
      have hb3 : Below w'.heap.size w' W3 := by rw [<- hA3]; exact Below.setRow hb2 w1.heap.size hb1.size _
      have c0 : W3.cell? ⟨w1.heap.size, 0, none⟩ = some (.int .i64 kk) := cell_of_row _ _ 0 _ _ _ hg3
      have c1 : W3.cell? ⟨w1.heap.size, 1, none⟩ = some (.string wo) := cell_of_row _ _ 1 _ _ _ hg3
      have c2 : W3.cell? ⟨w1.heap.size, 2, none⟩ = some (.int .u16 vv) := cell_of_row _ _ 2 _ _ _ hg3
      have c3 : W3.cell? ⟨w1.heap.size, 3, none⟩ = some (.int .i64 0) := cell_of_row _ _ 3 _ _ _ hg3
      have c4 : W3.cell? ⟨w1.heap.size, 4, none⟩ = some (.int .i64 0) := cell_of_row _ _ 4 _ _ _ hg3
      go_upto_region 4 with (refine wpList_store_row rfl 53 _ _ rfl w1.heap.size _ rfl rfl 53 zc hz2 (by exact sizeT) (by rfl) (by simp [Value.oneCell', tc]) ?_)
      obtain ⟨W4, hA4⟩ : ∃ W4, W3.alloc (.cells #[.int .i64 kk, .string wo, .int .u16 vv, .int .i64 0, .int .i64 0] 53) = W4 := ⟨_, rfl⟩
      have hb4 : Below w'.heap.size w' W4 := by rw [<- hA4]; exact hb3.alloc hb3.size _
      have hcs4 : S.Cs W4 (.slice (some ⟨W3.heap.size, 0, none⟩) 1 1) 5 1 (eT ⟨kk, wo, vv, (0, 0)⟩) := by
        rw [<- hA4]; exact cs_alloc W3 (eT ⟨kk, wo, vv, (0, 0)⟩) 53 5 rfl (by intro v hv; simp [eT, tc] at hv; rcases hv with rfl | rfl | rfl | rfl | rfl <;> rfl)
      have hB4 := HB.out.below hb4
      have hO4 := hB4.toks
      rw [len_map] at hO4
      have hwz4 : w.heap.size <= W4.heap.size := hB4.bel.size
      have hend : ∀ v5 w5, w5.ownsRow w.heap.size 53 5 v5 (a.length + 1) (S.en eT (a.map (tk0 s)) ++ eT ⟨kk, wo, vv, (0, 0)⟩) -> S.Grew W4 w5 u2 v5 -> TB w w5 v5 u3 ((a ++ [(i, j)]).map (tk0 s)) (a.map fun q => (q.1 : Int)) := by
        intro v5 w5 ho hg
        have := hB4.putT (x := ⟨kk, wo, vv, (0, 0)⟩) (by rw [len_map]; exact ho) hg
        rw [HTK.out] at this
        rw [List.map_append]; exact this
      have HE := hid hend
      clear hend hB4 HB hb2 hb3 hb4 hz2 hg3
      go_wp2_with (first | (at_builtin; refine S.wpList_append_row _ rfl (.tmp 24) (.tmp 26) 47 53 (.agg zc) 5 48 Tryz.underlying47 infoT rfl (by decide) rfl w.heap.size u2 a.length (S.en eT (a.map (tk0 s))) rfl hO4 _ 1 (eT ⟨kk, wo, vv, (0, 0)⟩) rfl hcs4 (by unfold S.room; omega) (by unfold maxLen; omega) hwz4 ?_))
      intro v5 w5 ho5 hg5
      have hB5 := HE.out v5 w5 ho5 hg5
      obtain ⟨W6, hA6⟩ : ∃ W6, w5.alloc (.cells #[.int .i64 (i : Int)] 3) = W6 := ⟨_, rfl⟩
      have hcs6 : S.Cs W6 (.slice (some ⟨w5.heap.size, 0, none⟩) 1 1) 1 1 (eI (i : Int)) := by
        rw [<- hA6]; exact cs_alloc w5 (eI (i : Int)) 3 1 rfl (by intro v hv; simp [eI] at hv; subst hv; rfl)
      have hB6 : TB w W6 v5 u3 ((a ++ [(i, j)]).map (tk0 s)) (a.map fun q => (q.1 : Int)) := by rw [<- hA6]; exact hB5.below (bel_alloc _ _)
      have hO6 := hB6.begs
      rw [len_map] at hO6
      have hwz6 : w.heap.size <= W6.heap.size := hB6.bel.size
      have hend : ∀ v7 w7, w7.ownsRow w.heap.size 3 1 v7 (a.length + 1) (S.en eI (a.map fun q => (q.1 : Int)) ++ eI (i : Int)) -> S.Grew W6 w7 u3 v7 -> TB w w7 v5 v7 ((a ++ [(i, j)]).map (tk0 s)) ((a ++ [(i, j)]).map fun q => (q.1 : Int)) := by
        intro v7 w7 ho hg
        have := hB6.putB (x := (i : Int)) (by rw [len_map]; exact ho) hg
        rw [List.map_append (f := fun q : Nat × Nat => (q.1 : Int))]; exact this
      have HE2 := hid hend
      clear hend hB5 hB6 HE ho5 hg5 hcs4 hO4 c0 c1 c2 c3 c4
      go_wp2_with (first | (at_builtin; refine S.wpList_append_row _ rfl (.tmp 28) (.tmp 30) 38 3 (.int .i64 0) 1 8 Tryz.underlying38 infoI rfl (by decide) rfl w.heap.size u3 a.length (S.en eI (a.map fun q => (q.1 : Int))) rfl hO6 _ 1 (eI (i : Int)) rfl hcs6 (by unfold S.room; omega) (by unfold maxLen; omega) hwz6 ?_))
      intro v7 w7 ho7 hg7
      have HB7 := hid (HE2.out v7 w7 ho7 hg7)
      clear ho7 hg7 HE2 hO6 hcs6
      go_wp2_with fail
      go_roundw
      case rel => exact ⟨j, a ++ [(i, j)], by congr 1; omega, rfl, HN.out, HB7.out⟩
      case measure => simp only [Lib.intOf]; omega
end Go.Proofs.YtdnklgceghllaaaGreatDoor.K
