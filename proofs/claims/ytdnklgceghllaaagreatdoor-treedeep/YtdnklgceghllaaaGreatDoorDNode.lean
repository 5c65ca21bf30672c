import Derived.Test.YtdnklgceghllaaaGreatDoorDDrop
import Derived.Test.YtdnklgceghllaaaGreatDoorDLeave
import Derived.Test.YtdnklgceghllaaaGreatDoorDRs
import Derived.Test.YtdnklgceghllaaaGreatDoorRRes
import Derived.Deep.QuietTactic
namespace Go.Proofs.YtdnklgceghllaaaGreatDoor.D
open Go.RowKit
open Go.Proofs
open Go.Proofs.YtdnklgceghllaaaGreatDoor.K (Tk)
open Go.Proofs.YtdnklgceghllaaaGreatDoor.Y (Nd Df Ps ndc dfc NV NA N1 ZV hid)
open Go.Proofs.YtdnklgceghllaaaGreatDoor.R (MP En numb)
set_option linter.unusedVariables false
set_option linter.unusedSimpArgs false
set_option maxHeartbeats 4000000
set_option maxRecDepth 100000
open Go.Proofs.YtdnklgceghllaaaGreatDoor.R (lk look_no look_yes lk_numb reserved_any)
theorem ctl_nil (g : Nat) (s : ByteArray) (hc : ctl s = none) : cvl g s = .nilFunc := by
 unfold ctl at hc
 unfold cvl
 cases h0 : isW s [105, 102]
 rotate_left
 ·rw [h0, if_pos rfl] at hc
  cases hc
 rw [h0, if_neg (show ¬ (false = true) by decide)] at hc
 rw [if_neg (show ¬ (false = true) by decide)]
 cases h1 : isW s [101, 108, 115, 101]
 rotate_left
 ·rw [h1, if_pos rfl] at hc
  cases hc
 rw [h1, if_neg (show ¬ (false = true) by decide)] at hc
 rw [if_neg (show ¬ (false = true) by decide)]
 cases h2 : isW s [116, 104, 101, 110]
 rotate_left
 ·rw [h2, if_pos rfl] at hc
  cases hc
 rw [h2, if_neg (show ¬ (false = true) by decide)] at hc
 rw [if_neg (show ¬ (false = true) by decide)]
 cases h3 : isW s [98, 101, 103, 105, 110]
 rotate_left
 ·rw [h3, if_pos rfl] at hc
  cases hc
 rw [h3, if_neg (show ¬ (false = true) by decide)] at hc
 rw [if_neg (show ¬ (false = true) by decide)]
 cases h4 : isW s [117, 110, 116, 105, 108]
 rotate_left
 ·rw [h4, if_pos rfl] at hc
  cases hc
 rw [h4, if_neg (show ¬ (false = true) by decide)] at hc
 rw [if_neg (show ¬ (false = true) by decide)]
 cases h5 : isW s [97, 103, 97, 105, 110]
 rotate_left
 ·rw [h5, if_pos rfl] at hc
  cases hc
 rw [h5, if_neg (show ¬ (false = true) by decide)] at hc
 rw [if_neg (show ¬ (false = true) by decide)]
 cases h6 : isW s [119, 104, 105, 108, 101]
 rotate_left
 ·rw [h6, if_pos rfl] at hc
  cases hc
 rw [h6, if_neg (show ¬ (false = true) by decide)] at hc
 rw [if_neg (show ¬ (false = true) by decide)]
 cases h7 : isW s [114, 101, 112, 101, 97, 116]
 rotate_left
 ·rw [h7, if_pos rfl] at hc
  cases hc
 rw [h7, if_neg (show ¬ (false = true) by decide)] at hc
 rw [if_neg (show ¬ (false = true) by decide)]
 cases h8 : isW s [100, 111]
 rotate_left
 ·rw [h8, if_pos rfl] at hc
  cases hc
 rw [h8, if_neg (show ¬ (false = true) by decide)] at hc
 rw [if_neg (show ¬ (false = true) by decide)]
 cases h9 : isW s [108, 111, 111, 112]
 rotate_left
 ·rw [h9, if_pos rfl] at hc
  cases hc
 rw [h9, if_neg (show ¬ (false = true) by decide)] at hc
 rw [if_neg (show ¬ (false = true) by decide)]
 cases h10 : isW s [101, 120, 105, 116]
 rotate_left
 ·rw [h10, if_pos rfl] at hc
  cases hc
 rw [h10, if_neg (show ¬ (false = true) by decide)] at hc
 rw [if_neg (show ¬ (false = true) by decide)]
 cases h11 : isW s [59]
 rotate_left
 ·rw [h11, if_pos rfl] at hc
  cases hc
 rw [h11, if_neg (show ¬ (false = true) by decide)] at hc
 rw [if_neg (show ¬ (false = true) by decide)]
theorem node_lit (W0 : World) (pm : Px) (g : Nat) (e : Ps) (W : World) (r : Rd) (q : Rv) (h : RS W0 pm g e W r q) (hb : Bd r) (hk : r.at_.k = 2) :
  Calls Tryz.prog 107 #[.pointer (some ⟨g, 0, none⟩), .agg (tkc r.at_).toArray] W (RO W0 pm g e (fun _ => .tuple #[]) (.ok (add (lit r.at_.v r.at_.p) r))) := by
 obtain ⟨W1, hW1⟩ : ∃ W1, W.alloc (.cells #[.int .i64 r.at_.k, .string r.at_.t, .int .u16 r.at_.v, .int .i64 r.at_.p.1, .int .i64 r.at_.p.2] 53) = W1 := ⟨_, rfl⟩
 have hB : Below W.heap.size W W1 := by rw [<- hW1]; exact (Below.refl _ _).alloc (Nat.le_refl _) _
 have v1 : W1.heap[W.heap.size]? = some (.cells (tkc r.at_).toArray 53 (0, 0)) := by rw [<- hW1]; exact heap_alloc_new W _
 have hR := h.next hB
 have hlt : W.heap.size < W1.heap.size := (Array.getElem?_eq_some_iff.1 v1).1
 have HBX := hid (fun (w : World) (hb : Below W1.heap.size W1 w) => show (w.cell? ⟨W.heap.size, 0, none⟩ = some (.int .i64 r.at_.k) /\ w.cell? ⟨W.heap.size, 1, none⟩ = some (.string r.at_.t) /\ w.cell? ⟨W.heap.size, 2, none⟩ = some (.int .u16 r.at_.v) /\ w.cell? ⟨W.heap.size, 3, none⟩ = some (.int .i64 r.at_.p.1) /\ w.cell? ⟨W.heap.size, 4, none⟩ = some (.int .i64 r.at_.p.2)) from by
  have v2 := (hb.block _ hlt).trans v1
  exact ⟨S.cell_of w _ 0 _ 53 _ v2 rfl, S.cell_of w _ 1 _ 53 _ v2 rfl, S.cell_of w _ 2 _ 53 _ v2 rfl, S.cell_of w _ 3 _ 53 _ v2 rfl, S.cell_of w _ 4 _ 53 _ v2 rfl⟩)
 have hBr : Below W1.heap.size W1 W1 := Below.refl _ _
 obtain ⟨x0, x1, x2, x3, x4⟩ := HBX.out W1 hBr
 have hadd := add_any W0 pm g e W1 r q hR hb (lit r.at_.v r.at_.p) (.slice none 0 0) (.slice none 0 0) (NV.nil (.inl rfl)) (NV.nil (.inl rfl))
 unfold ndc lit at hadd
 have hk2 : (r.at_.k == 2) = true := by rw [hk]; rfl
 clear hR hb hBr HBX hk
 clear v1 hB h hlt
 unfold tkc
 go_enter Tryz.func107, Tryz.ntmps107
 go_wp2_with fail
 refine hadd.mono ?_
 rintro e' w9 ⟨rfl, hq⟩
 have HQ := hid hq
 clear hq hadd
 go_wp2
 go_end0
 exact ro_ok rfl HQ.out
theorem node_c0 (W0 : World) (pm : Px) (g : Nat) (e : Ps) (W : World) (r : Rd) (q : Rv) (h : RS W0 pm g e W r q) (hb : Bd r) (hk : (r.at_.k == 2) = false) (f : Rd -> Re) (hv : cvl g r.at_.t = .func (.func 214) #[.pointer (some ⟨g, 0, none⟩)] #[]) (hf : ∀ W, RS W0 pm g e W r q -> Calls Tryz.prog 214 #[.pointer (some ⟨g, 0, none⟩)] W (RO W0 pm g e (fun _ => .tuple #[]) (f r))) :
  Calls Tryz.prog 107 #[.pointer (some ⟨g, 0, none⟩), .agg (tkc r.at_).toArray] W (RO W0 pm g e (fun _ => .tuple #[]) (f r)) := by
 obtain ⟨W1, hW1⟩ : ∃ W1, W.alloc (.cells #[.int .i64 r.at_.k, .string r.at_.t, .int .u16 r.at_.v, .int .i64 r.at_.p.1, .int .i64 r.at_.p.2] 53) = W1 := ⟨_, rfl⟩
 have hB : Below W.heap.size W W1 := by rw [<- hW1]; exact (Below.refl _ _).alloc (Nat.le_refl _) _
 have v1 : W1.heap[W.heap.size]? = some (.cells (tkc r.at_).toArray 53 (0, 0)) := by rw [<- hW1]; exact heap_alloc_new W _
 have hR := h.next hB
 have hlt : W.heap.size < W1.heap.size := (Array.getElem?_eq_some_iff.1 v1).1
 have HBX := hid (fun (w : World) (hb : Below W1.heap.size W1 w) => show (w.cell? ⟨W.heap.size, 0, none⟩ = some (.int .i64 r.at_.k) /\ w.cell? ⟨W.heap.size, 1, none⟩ = some (.string r.at_.t) /\ w.cell? ⟨W.heap.size, 2, none⟩ = some (.int .u16 r.at_.v) /\ w.cell? ⟨W.heap.size, 3, none⟩ = some (.int .i64 r.at_.p.1) /\ w.cell? ⟨W.heap.size, 4, none⟩ = some (.int .i64 r.at_.p.2)) from by
  have v2 := (hb.block _ hlt).trans v1
  exact ⟨S.cell_of w _ 0 _ 53 _ v2 rfl, S.cell_of w _ 1 _ 53 _ v2 rfl, S.cell_of w _ 2 _ 53 _ v2 rfl, S.cell_of w _ 3 _ 53 _ v2 rfl, S.cell_of w _ 4 _ 53 _ v2 rfl⟩)
 have hBr : Below W1.heap.size W1 W1 := Below.refl _ _
 obtain ⟨x0, x1, x2, x3, x4⟩ := HBX.out W1 hBr
 have hcon := control_any g r.at_.t W1
 have hcf := hf W1 hR
 have hnf := fun W => neq_fn W 214 #[.pointer (some ⟨g, 0, none⟩)] #[]
 rw [hv] at hcon
 clear hv hR hb hBr HBX hf
 generalize f r = res at *
 clear v1 hB h hlt
 unfold tkc
 go_enter Tryz.func107, Tryz.ntmps107
 go_wp2_with fail
 refine hcon.mono ?_
 rintro e' w2 ⟨rfl, hw2⟩
 obtain rfl := hw2.symm
 clear hcon
 go_wp2_with fail
 refine hcf.mono ?_
 intro en w9 h9
 cases res with
 | ok r' =>
  obtain ⟨rfl, h1⟩ := h9
  have H1 := hid h1
  clear h1 hcf
  go_wp2
  go_end0
  exact ro_ok rfl H1.out
 | error er =>
  obtain ⟨rfl, h1⟩ := h9
  exact ⟨rfl, ro_er rfl h1⟩
theorem node_c1 (W0 : World) (pm : Px) (g : Nat) (e : Ps) (W : World) (r : Rd) (q : Rv) (h : RS W0 pm g e W r q) (hb : Bd r) (hk : (r.at_.k == 2) = false) (f : Rd -> Re) (hv : cvl g r.at_.t = .func (.func 215) #[.pointer (some ⟨g, 0, none⟩)] #[]) (hf : ∀ W, RS W0 pm g e W r q -> Calls Tryz.prog 215 #[.pointer (some ⟨g, 0, none⟩)] W (RO W0 pm g e (fun _ => .tuple #[]) (f r))) :
  Calls Tryz.prog 107 #[.pointer (some ⟨g, 0, none⟩), .agg (tkc r.at_).toArray] W (RO W0 pm g e (fun _ => .tuple #[]) (f r)) := by
 obtain ⟨W1, hW1⟩ : ∃ W1, W.alloc (.cells #[.int .i64 r.at_.k, .string r.at_.t, .int .u16 r.at_.v, .int .i64 r.at_.p.1, .int .i64 r.at_.p.2] 53) = W1 := ⟨_, rfl⟩
 have hB : Below W.heap.size W W1 := by rw [<- hW1]; exact (Below.refl _ _).alloc (Nat.le_refl _) _
 have v1 : W1.heap[W.heap.size]? = some (.cells (tkc r.at_).toArray 53 (0, 0)) := by rw [<- hW1]; exact heap_alloc_new W _
 have hR := h.next hB
 have hlt : W.heap.size < W1.heap.size := (Array.getElem?_eq_some_iff.1 v1).1
 have HBX := hid (fun (w : World) (hb : Below W1.heap.size W1 w) => show (w.cell? ⟨W.heap.size, 0, none⟩ = some (.int .i64 r.at_.k) /\ w.cell? ⟨W.heap.size, 1, none⟩ = some (.string r.at_.t) /\ w.cell? ⟨W.heap.size, 2, none⟩ = some (.int .u16 r.at_.v) /\ w.cell? ⟨W.heap.size, 3, none⟩ = some (.int .i64 r.at_.p.1) /\ w.cell? ⟨W.heap.size, 4, none⟩ = some (.int .i64 r.at_.p.2)) from by
  have v2 := (hb.block _ hlt).trans v1
  exact ⟨S.cell_of w _ 0 _ 53 _ v2 rfl, S.cell_of w _ 1 _ 53 _ v2 rfl, S.cell_of w _ 2 _ 53 _ v2 rfl, S.cell_of w _ 3 _ 53 _ v2 rfl, S.cell_of w _ 4 _ 53 _ v2 rfl⟩)
 have hBr : Below W1.heap.size W1 W1 := Below.refl _ _
 obtain ⟨x0, x1, x2, x3, x4⟩ := HBX.out W1 hBr
 have hcon := control_any g r.at_.t W1
 have hcf := hf W1 hR
 have hnf := fun W => neq_fn W 215 #[.pointer (some ⟨g, 0, none⟩)] #[]
 rw [hv] at hcon
 clear hv hR hb hBr HBX hf
 generalize f r = res at *
 clear v1 hB h hlt
 unfold tkc
 go_enter Tryz.func107, Tryz.ntmps107
 go_wp2_with fail
 refine hcon.mono ?_
 rintro e' w2 ⟨rfl, hw2⟩
 obtain rfl := hw2.symm
 clear hcon
 go_wp2_with fail
 refine hcf.mono ?_
 intro en w9 h9
 cases res with
 | ok r' =>
  obtain ⟨rfl, h1⟩ := h9
  have H1 := hid h1
  clear h1 hcf
  go_wp2
  go_end0
  exact ro_ok rfl H1.out
 | error er =>
  obtain ⟨rfl, h1⟩ := h9
  exact ⟨rfl, ro_er rfl h1⟩
theorem node_c2 (W0 : World) (pm : Px) (g : Nat) (e : Ps) (W : World) (r : Rd) (q : Rv) (h : RS W0 pm g e W r q) (hb : Bd r) (hk : (r.at_.k == 2) = false) (f : Rd -> Re) (hv : cvl g r.at_.t = .func (.func 216) #[.pointer (some ⟨g, 0, none⟩)] #[]) (hf : ∀ W, RS W0 pm g e W r q -> Calls Tryz.prog 216 #[.pointer (some ⟨g, 0, none⟩)] W (RO W0 pm g e (fun _ => .tuple #[]) (f r))) :
  Calls Tryz.prog 107 #[.pointer (some ⟨g, 0, none⟩), .agg (tkc r.at_).toArray] W (RO W0 pm g e (fun _ => .tuple #[]) (f r)) := by
 obtain ⟨W1, hW1⟩ : ∃ W1, W.alloc (.cells #[.int .i64 r.at_.k, .string r.at_.t, .int .u16 r.at_.v, .int .i64 r.at_.p.1, .int .i64 r.at_.p.2] 53) = W1 := ⟨_, rfl⟩
 have hB : Below W.heap.size W W1 := by rw [<- hW1]; exact (Below.refl _ _).alloc (Nat.le_refl _) _
 have v1 : W1.heap[W.heap.size]? = some (.cells (tkc r.at_).toArray 53 (0, 0)) := by rw [<- hW1]; exact heap_alloc_new W _
 have hR := h.next hB
 have hlt : W.heap.size < W1.heap.size := (Array.getElem?_eq_some_iff.1 v1).1
 have HBX := hid (fun (w : World) (hb : Below W1.heap.size W1 w) => show (w.cell? ⟨W.heap.size, 0, none⟩ = some (.int .i64 r.at_.k) /\ w.cell? ⟨W.heap.size, 1, none⟩ = some (.string r.at_.t) /\ w.cell? ⟨W.heap.size, 2, none⟩ = some (.int .u16 r.at_.v) /\ w.cell? ⟨W.heap.size, 3, none⟩ = some (.int .i64 r.at_.p.1) /\ w.cell? ⟨W.heap.size, 4, none⟩ = some (.int .i64 r.at_.p.2)) from by
  have v2 := (hb.block _ hlt).trans v1
  exact ⟨S.cell_of w _ 0 _ 53 _ v2 rfl, S.cell_of w _ 1 _ 53 _ v2 rfl, S.cell_of w _ 2 _ 53 _ v2 rfl, S.cell_of w _ 3 _ 53 _ v2 rfl, S.cell_of w _ 4 _ 53 _ v2 rfl⟩)
 have hBr : Below W1.heap.size W1 W1 := Below.refl _ _
 obtain ⟨x0, x1, x2, x3, x4⟩ := HBX.out W1 hBr
 have hcon := control_any g r.at_.t W1
 have hcf := hf W1 hR
 have hnf := fun W => neq_fn W 216 #[.pointer (some ⟨g, 0, none⟩)] #[]
 rw [hv] at hcon
 clear hv hR hb hBr HBX hf
 generalize f r = res at *
 clear v1 hB h hlt
 unfold tkc
 go_enter Tryz.func107, Tryz.ntmps107
 go_wp2_with fail
 refine hcon.mono ?_
 rintro e' w2 ⟨rfl, hw2⟩
 obtain rfl := hw2.symm
 clear hcon
 go_wp2_with fail
 refine hcf.mono ?_
 intro en w9 h9
 cases res with
 | ok r' =>
  obtain ⟨rfl, h1⟩ := h9
  have H1 := hid h1
  clear h1 hcf
  go_wp2
  go_end0
  exact ro_ok rfl H1.out
 | error er =>
  obtain ⟨rfl, h1⟩ := h9
  exact ⟨rfl, ro_er rfl h1⟩
theorem node_c3 (W0 : World) (pm : Px) (g : Nat) (e : Ps) (W : World) (r : Rd) (q : Rv) (h : RS W0 pm g e W r q) (hb : Bd r) (hk : (r.at_.k == 2) = false) (f : Rd -> Re) (hv : cvl g r.at_.t = .func (.func 217) #[.pointer (some ⟨g, 0, none⟩)] #[]) (hf : ∀ W, RS W0 pm g e W r q -> Calls Tryz.prog 217 #[.pointer (some ⟨g, 0, none⟩)] W (RO W0 pm g e (fun _ => .tuple #[]) (f r))) :
  Calls Tryz.prog 107 #[.pointer (some ⟨g, 0, none⟩), .agg (tkc r.at_).toArray] W (RO W0 pm g e (fun _ => .tuple #[]) (f r)) := by
 obtain ⟨W1, hW1⟩ : ∃ W1, W.alloc (.cells #[.int .i64 r.at_.k, .string r.at_.t, .int .u16 r.at_.v, .int .i64 r.at_.p.1, .int .i64 r.at_.p.2] 53) = W1 := ⟨_, rfl⟩
 have hB : Below W.heap.size W W1 := by rw [<- hW1]; exact (Below.refl _ _).alloc (Nat.le_refl _) _
 have v1 : W1.heap[W.heap.size]? = some (.cells (tkc r.at_).toArray 53 (0, 0)) := by rw [<- hW1]; exact heap_alloc_new W _
 have hR := h.next hB
 have hlt : W.heap.size < W1.heap.size := (Array.getElem?_eq_some_iff.1 v1).1
 have HBX := hid (fun (w : World) (hb : Below W1.heap.size W1 w) => show (w.cell? ⟨W.heap.size, 0, none⟩ = some (.int .i64 r.at_.k) /\ w.cell? ⟨W.heap.size, 1, none⟩ = some (.string r.at_.t) /\ w.cell? ⟨W.heap.size, 2, none⟩ = some (.int .u16 r.at_.v) /\ w.cell? ⟨W.heap.size, 3, none⟩ = some (.int .i64 r.at_.p.1) /\ w.cell? ⟨W.heap.size, 4, none⟩ = some (.int .i64 r.at_.p.2)) from by
  have v2 := (hb.block _ hlt).trans v1
  exact ⟨S.cell_of w _ 0 _ 53 _ v2 rfl, S.cell_of w _ 1 _ 53 _ v2 rfl, S.cell_of w _ 2 _ 53 _ v2 rfl, S.cell_of w _ 3 _ 53 _ v2 rfl, S.cell_of w _ 4 _ 53 _ v2 rfl⟩)
 have hBr : Below W1.heap.size W1 W1 := Below.refl _ _
 obtain ⟨x0, x1, x2, x3, x4⟩ := HBX.out W1 hBr
 have hcon := control_any g r.at_.t W1
 have hcf := hf W1 hR
 have hnf := fun W => neq_fn W 217 #[.pointer (some ⟨g, 0, none⟩)] #[]
 rw [hv] at hcon
 clear hv hR hb hBr HBX hf
 generalize f r = res at *
 clear v1 hB h hlt
 unfold tkc
 go_enter Tryz.func107, Tryz.ntmps107
 go_wp2_with fail
 refine hcon.mono ?_
 rintro e' w2 ⟨rfl, hw2⟩
 obtain rfl := hw2.symm
 clear hcon
 go_wp2_with fail
 refine hcf.mono ?_
 intro en w9 h9
 cases res with
 | ok r' =>
  obtain ⟨rfl, h1⟩ := h9
  have H1 := hid h1
  clear h1 hcf
  go_wp2
  go_end0
  exact ro_ok rfl H1.out
 | error er =>
  obtain ⟨rfl, h1⟩ := h9
  exact ⟨rfl, ro_er rfl h1⟩
theorem node_c4 (W0 : World) (pm : Px) (g : Nat) (e : Ps) (W : World) (r : Rd) (q : Rv) (h : RS W0 pm g e W r q) (hb : Bd r) (hk : (r.at_.k == 2) = false) (f : Rd -> Re) (hv : cvl g r.at_.t = .func (.func 218) #[.pointer (some ⟨g, 0, none⟩)] #[]) (hf : ∀ W, RS W0 pm g e W r q -> Calls Tryz.prog 218 #[.pointer (some ⟨g, 0, none⟩)] W (RO W0 pm g e (fun _ => .tuple #[]) (f r))) :
  Calls Tryz.prog 107 #[.pointer (some ⟨g, 0, none⟩), .agg (tkc r.at_).toArray] W (RO W0 pm g e (fun _ => .tuple #[]) (f r)) := by
 obtain ⟨W1, hW1⟩ : ∃ W1, W.alloc (.cells #[.int .i64 r.at_.k, .string r.at_.t, .int .u16 r.at_.v, .int .i64 r.at_.p.1, .int .i64 r.at_.p.2] 53) = W1 := ⟨_, rfl⟩
 have hB : Below W.heap.size W W1 := by rw [<- hW1]; exact (Below.refl _ _).alloc (Nat.le_refl _) _
 have v1 : W1.heap[W.heap.size]? = some (.cells (tkc r.at_).toArray 53 (0, 0)) := by rw [<- hW1]; exact heap_alloc_new W _
 have hR := h.next hB
 have hlt : W.heap.size < W1.heap.size := (Array.getElem?_eq_some_iff.1 v1).1
 have HBX := hid (fun (w : World) (hb : Below W1.heap.size W1 w) => show (w.cell? ⟨W.heap.size, 0, none⟩ = some (.int .i64 r.at_.k) /\ w.cell? ⟨W.heap.size, 1, none⟩ = some (.string r.at_.t) /\ w.cell? ⟨W.heap.size, 2, none⟩ = some (.int .u16 r.at_.v) /\ w.cell? ⟨W.heap.size, 3, none⟩ = some (.int .i64 r.at_.p.1) /\ w.cell? ⟨W.heap.size, 4, none⟩ = some (.int .i64 r.at_.p.2)) from by
  have v2 := (hb.block _ hlt).trans v1
  exact ⟨S.cell_of w _ 0 _ 53 _ v2 rfl, S.cell_of w _ 1 _ 53 _ v2 rfl, S.cell_of w _ 2 _ 53 _ v2 rfl, S.cell_of w _ 3 _ 53 _ v2 rfl, S.cell_of w _ 4 _ 53 _ v2 rfl⟩)
 have hBr : Below W1.heap.size W1 W1 := Below.refl _ _
 obtain ⟨x0, x1, x2, x3, x4⟩ := HBX.out W1 hBr
 have hcon := control_any g r.at_.t W1
 have hcf := hf W1 hR
 have hnf := fun W => neq_fn W 218 #[.pointer (some ⟨g, 0, none⟩)] #[]
 rw [hv] at hcon
 clear hv hR hb hBr HBX hf
 generalize f r = res at *
 clear v1 hB h hlt
 unfold tkc
 go_enter Tryz.func107, Tryz.ntmps107
 go_wp2_with fail
 refine hcon.mono ?_
 rintro e' w2 ⟨rfl, hw2⟩
 obtain rfl := hw2.symm
 clear hcon
 go_wp2_with fail
 refine hcf.mono ?_
 intro en w9 h9
 cases res with
 | ok r' =>
  obtain ⟨rfl, h1⟩ := h9
  have H1 := hid h1
  clear h1 hcf
  go_wp2
  go_end0
  exact ro_ok rfl H1.out
 | error er =>
  obtain ⟨rfl, h1⟩ := h9
  exact ⟨rfl, ro_er rfl h1⟩
theorem node_c5 (W0 : World) (pm : Px) (g : Nat) (e : Ps) (W : World) (r : Rd) (q : Rv) (h : RS W0 pm g e W r q) (hb : Bd r) (hk : (r.at_.k == 2) = false) (f : Rd -> Re) (hv : cvl g r.at_.t = .func (.func 219) #[.pointer (some ⟨g, 0, none⟩)] #[]) (hf : ∀ W, RS W0 pm g e W r q -> Calls Tryz.prog 219 #[.pointer (some ⟨g, 0, none⟩)] W (RO W0 pm g e (fun _ => .tuple #[]) (f r))) :
  Calls Tryz.prog 107 #[.pointer (some ⟨g, 0, none⟩), .agg (tkc r.at_).toArray] W (RO W0 pm g e (fun _ => .tuple #[]) (f r)) := by
 obtain ⟨W1, hW1⟩ : ∃ W1, W.alloc (.cells #[.int .i64 r.at_.k, .string r.at_.t, .int .u16 r.at_.v, .int .i64 r.at_.p.1, .int .i64 r.at_.p.2] 53) = W1 := ⟨_, rfl⟩
 have hB : Below W.heap.size W W1 := by rw [<- hW1]; exact (Below.refl _ _).alloc (Nat.le_refl _) _
 have v1 : W1.heap[W.heap.size]? = some (.cells (tkc r.at_).toArray 53 (0, 0)) := by rw [<- hW1]; exact heap_alloc_new W _
 have hR := h.next hB
 have hlt : W.heap.size < W1.heap.size := (Array.getElem?_eq_some_iff.1 v1).1
 have HBX := hid (fun (w : World) (hb : Below W1.heap.size W1 w) => show (w.cell? ⟨W.heap.size, 0, none⟩ = some (.int .i64 r.at_.k) /\ w.cell? ⟨W.heap.size, 1, none⟩ = some (.string r.at_.t) /\ w.cell? ⟨W.heap.size, 2, none⟩ = some (.int .u16 r.at_.v) /\ w.cell? ⟨W.heap.size, 3, none⟩ = some (.int .i64 r.at_.p.1) /\ w.cell? ⟨W.heap.size, 4, none⟩ = some (.int .i64 r.at_.p.2)) from by
  have v2 := (hb.block _ hlt).trans v1
  exact ⟨S.cell_of w _ 0 _ 53 _ v2 rfl, S.cell_of w _ 1 _ 53 _ v2 rfl, S.cell_of w _ 2 _ 53 _ v2 rfl, S.cell_of w _ 3 _ 53 _ v2 rfl, S.cell_of w _ 4 _ 53 _ v2 rfl⟩)
 have hBr : Below W1.heap.size W1 W1 := Below.refl _ _
 obtain ⟨x0, x1, x2, x3, x4⟩ := HBX.out W1 hBr
 have hcon := control_any g r.at_.t W1
 have hcf := hf W1 hR
 have hnf := fun W => neq_fn W 219 #[.pointer (some ⟨g, 0, none⟩)] #[]
 rw [hv] at hcon
 clear hv hR hb hBr HBX hf
 generalize f r = res at *
 clear v1 hB h hlt
 unfold tkc
 go_enter Tryz.func107, Tryz.ntmps107
 go_wp2_with fail
 refine hcon.mono ?_
 rintro e' w2 ⟨rfl, hw2⟩
 obtain rfl := hw2.symm
 clear hcon
 go_wp2_with fail
 refine hcf.mono ?_
 intro en w9 h9
 cases res with
 | ok r' =>
  obtain ⟨rfl, h1⟩ := h9
  have H1 := hid h1
  clear h1 hcf
  go_wp2
  go_end0
  exact ro_ok rfl H1.out
 | error er =>
  obtain ⟨rfl, h1⟩ := h9
  exact ⟨rfl, ro_er rfl h1⟩
theorem node_c6 (W0 : World) (pm : Px) (g : Nat) (e : Ps) (W : World) (r : Rd) (q : Rv) (h : RS W0 pm g e W r q) (hb : Bd r) (hk : (r.at_.k == 2) = false) (f : Rd -> Re) (hv : cvl g r.at_.t = .func (.func 220) #[.pointer (some ⟨g, 0, none⟩)] #[]) (hf : ∀ W, RS W0 pm g e W r q -> Calls Tryz.prog 220 #[.pointer (some ⟨g, 0, none⟩)] W (RO W0 pm g e (fun _ => .tuple #[]) (f r))) :
  Calls Tryz.prog 107 #[.pointer (some ⟨g, 0, none⟩), .agg (tkc r.at_).toArray] W (RO W0 pm g e (fun _ => .tuple #[]) (f r)) := by
 obtain ⟨W1, hW1⟩ : ∃ W1, W.alloc (.cells #[.int .i64 r.at_.k, .string r.at_.t, .int .u16 r.at_.v, .int .i64 r.at_.p.1, .int .i64 r.at_.p.2] 53) = W1 := ⟨_, rfl⟩
 have hB : Below W.heap.size W W1 := by rw [<- hW1]; exact (Below.refl _ _).alloc (Nat.le_refl _) _
 have v1 : W1.heap[W.heap.size]? = some (.cells (tkc r.at_).toArray 53 (0, 0)) := by rw [<- hW1]; exact heap_alloc_new W _
 have hR := h.next hB
 have hlt : W.heap.size < W1.heap.size := (Array.getElem?_eq_some_iff.1 v1).1
 have HBX := hid (fun (w : World) (hb : Below W1.heap.size W1 w) => show (w.cell? ⟨W.heap.size, 0, none⟩ = some (.int .i64 r.at_.k) /\ w.cell? ⟨W.heap.size, 1, none⟩ = some (.string r.at_.t) /\ w.cell? ⟨W.heap.size, 2, none⟩ = some (.int .u16 r.at_.v) /\ w.cell? ⟨W.heap.size, 3, none⟩ = some (.int .i64 r.at_.p.1) /\ w.cell? ⟨W.heap.size, 4, none⟩ = some (.int .i64 r.at_.p.2)) from by
  have v2 := (hb.block _ hlt).trans v1
  exact ⟨S.cell_of w _ 0 _ 53 _ v2 rfl, S.cell_of w _ 1 _ 53 _ v2 rfl, S.cell_of w _ 2 _ 53 _ v2 rfl, S.cell_of w _ 3 _ 53 _ v2 rfl, S.cell_of w _ 4 _ 53 _ v2 rfl⟩)
 have hBr : Below W1.heap.size W1 W1 := Below.refl _ _
 obtain ⟨x0, x1, x2, x3, x4⟩ := HBX.out W1 hBr
 have hcon := control_any g r.at_.t W1
 have hcf := hf W1 hR
 have hnf := fun W => neq_fn W 220 #[.pointer (some ⟨g, 0, none⟩)] #[]
 rw [hv] at hcon
 clear hv hR hb hBr HBX hf
 generalize f r = res at *
 clear v1 hB h hlt
 unfold tkc
 go_enter Tryz.func107, Tryz.ntmps107
 go_wp2_with fail
 refine hcon.mono ?_
 rintro e' w2 ⟨rfl, hw2⟩
 obtain rfl := hw2.symm
 clear hcon
 go_wp2_with fail
 refine hcf.mono ?_
 intro en w9 h9
 cases res with
 | ok r' =>
  obtain ⟨rfl, h1⟩ := h9
  have H1 := hid h1
  clear h1 hcf
  go_wp2
  go_end0
  exact ro_ok rfl H1.out
 | error er =>
  obtain ⟨rfl, h1⟩ := h9
  exact ⟨rfl, ro_er rfl h1⟩
theorem node_c7 (W0 : World) (pm : Px) (g : Nat) (e : Ps) (W : World) (r : Rd) (q : Rv) (h : RS W0 pm g e W r q) (hb : Bd r) (hk : (r.at_.k == 2) = false) (f : Rd -> Re) (hv : cvl g r.at_.t = .func (.func 221) #[.pointer (some ⟨g, 0, none⟩)] #[]) (hf : ∀ W, RS W0 pm g e W r q -> Calls Tryz.prog 221 #[.pointer (some ⟨g, 0, none⟩)] W (RO W0 pm g e (fun _ => .tuple #[]) (f r))) :
  Calls Tryz.prog 107 #[.pointer (some ⟨g, 0, none⟩), .agg (tkc r.at_).toArray] W (RO W0 pm g e (fun _ => .tuple #[]) (f r)) := by
 obtain ⟨W1, hW1⟩ : ∃ W1, W.alloc (.cells #[.int .i64 r.at_.k, .string r.at_.t, .int .u16 r.at_.v, .int .i64 r.at_.p.1, .int .i64 r.at_.p.2] 53) = W1 := ⟨_, rfl⟩
 have hB : Below W.heap.size W W1 := by rw [<- hW1]; exact (Below.refl _ _).alloc (Nat.le_refl _) _
 have v1 : W1.heap[W.heap.size]? = some (.cells (tkc r.at_).toArray 53 (0, 0)) := by rw [<- hW1]; exact heap_alloc_new W _
 have hR := h.next hB
 have hlt : W.heap.size < W1.heap.size := (Array.getElem?_eq_some_iff.1 v1).1
 have HBX := hid (fun (w : World) (hb : Below W1.heap.size W1 w) => show (w.cell? ⟨W.heap.size, 0, none⟩ = some (.int .i64 r.at_.k) /\ w.cell? ⟨W.heap.size, 1, none⟩ = some (.string r.at_.t) /\ w.cell? ⟨W.heap.size, 2, none⟩ = some (.int .u16 r.at_.v) /\ w.cell? ⟨W.heap.size, 3, none⟩ = some (.int .i64 r.at_.p.1) /\ w.cell? ⟨W.heap.size, 4, none⟩ = some (.int .i64 r.at_.p.2)) from by
  have v2 := (hb.block _ hlt).trans v1
  exact ⟨S.cell_of w _ 0 _ 53 _ v2 rfl, S.cell_of w _ 1 _ 53 _ v2 rfl, S.cell_of w _ 2 _ 53 _ v2 rfl, S.cell_of w _ 3 _ 53 _ v2 rfl, S.cell_of w _ 4 _ 53 _ v2 rfl⟩)
 have hBr : Below W1.heap.size W1 W1 := Below.refl _ _
 obtain ⟨x0, x1, x2, x3, x4⟩ := HBX.out W1 hBr
 have hcon := control_any g r.at_.t W1
 have hcf := hf W1 hR
 have hnf := fun W => neq_fn W 221 #[.pointer (some ⟨g, 0, none⟩)] #[]
 rw [hv] at hcon
 clear hv hR hb hBr HBX hf
 generalize f r = res at *
 clear v1 hB h hlt
 unfold tkc
 go_enter Tryz.func107, Tryz.ntmps107
 go_wp2_with fail
 refine hcon.mono ?_
 rintro e' w2 ⟨rfl, hw2⟩
 obtain rfl := hw2.symm
 clear hcon
 go_wp2_with fail
 refine hcf.mono ?_
 intro en w9 h9
 cases res with
 | ok r' =>
  obtain ⟨rfl, h1⟩ := h9
  have H1 := hid h1
  clear h1 hcf
  go_wp2
  go_end0
  exact ro_ok rfl H1.out
 | error er =>
  obtain ⟨rfl, h1⟩ := h9
  exact ⟨rfl, ro_er rfl h1⟩
theorem node_c8 (W0 : World) (pm : Px) (g : Nat) (e : Ps) (W : World) (r : Rd) (q : Rv) (h : RS W0 pm g e W r q) (hb : Bd r) (hk : (r.at_.k == 2) = false) (f : Rd -> Re) (hv : cvl g r.at_.t = .func (.func 222) #[.pointer (some ⟨g, 0, none⟩)] #[]) (hf : ∀ W, RS W0 pm g e W r q -> Calls Tryz.prog 222 #[.pointer (some ⟨g, 0, none⟩)] W (RO W0 pm g e (fun _ => .tuple #[]) (f r))) :
  Calls Tryz.prog 107 #[.pointer (some ⟨g, 0, none⟩), .agg (tkc r.at_).toArray] W (RO W0 pm g e (fun _ => .tuple #[]) (f r)) := by
 obtain ⟨W1, hW1⟩ : ∃ W1, W.alloc (.cells #[.int .i64 r.at_.k, .string r.at_.t, .int .u16 r.at_.v, .int .i64 r.at_.p.1, .int .i64 r.at_.p.2] 53) = W1 := ⟨_, rfl⟩
 have hB : Below W.heap.size W W1 := by rw [<- hW1]; exact (Below.refl _ _).alloc (Nat.le_refl _) _
 have v1 : W1.heap[W.heap.size]? = some (.cells (tkc r.at_).toArray 53 (0, 0)) := by rw [<- hW1]; exact heap_alloc_new W _
 have hR := h.next hB
 have hlt : W.heap.size < W1.heap.size := (Array.getElem?_eq_some_iff.1 v1).1
 have HBX := hid (fun (w : World) (hb : Below W1.heap.size W1 w) => show (w.cell? ⟨W.heap.size, 0, none⟩ = some (.int .i64 r.at_.k) /\ w.cell? ⟨W.heap.size, 1, none⟩ = some (.string r.at_.t) /\ w.cell? ⟨W.heap.size, 2, none⟩ = some (.int .u16 r.at_.v) /\ w.cell? ⟨W.heap.size, 3, none⟩ = some (.int .i64 r.at_.p.1) /\ w.cell? ⟨W.heap.size, 4, none⟩ = some (.int .i64 r.at_.p.2)) from by
  have v2 := (hb.block _ hlt).trans v1
  exact ⟨S.cell_of w _ 0 _ 53 _ v2 rfl, S.cell_of w _ 1 _ 53 _ v2 rfl, S.cell_of w _ 2 _ 53 _ v2 rfl, S.cell_of w _ 3 _ 53 _ v2 rfl, S.cell_of w _ 4 _ 53 _ v2 rfl⟩)
 have hBr : Below W1.heap.size W1 W1 := Below.refl _ _
 obtain ⟨x0, x1, x2, x3, x4⟩ := HBX.out W1 hBr
 have hcon := control_any g r.at_.t W1
 have hcf := hf W1 hR
 have hnf := fun W => neq_fn W 222 #[.pointer (some ⟨g, 0, none⟩)] #[]
 rw [hv] at hcon
 clear hv hR hb hBr HBX hf
 generalize f r = res at *
 clear v1 hB h hlt
 unfold tkc
 go_enter Tryz.func107, Tryz.ntmps107
 go_wp2_with fail
 refine hcon.mono ?_
 rintro e' w2 ⟨rfl, hw2⟩
 obtain rfl := hw2.symm
 clear hcon
 go_wp2_with fail
 refine hcf.mono ?_
 intro en w9 h9
 cases res with
 | ok r' =>
  obtain ⟨rfl, h1⟩ := h9
  have H1 := hid h1
  clear h1 hcf
  go_wp2
  go_end0
  exact ro_ok rfl H1.out
 | error er =>
  obtain ⟨rfl, h1⟩ := h9
  exact ⟨rfl, ro_er rfl h1⟩
theorem node_c9 (W0 : World) (pm : Px) (g : Nat) (e : Ps) (W : World) (r : Rd) (q : Rv) (h : RS W0 pm g e W r q) (hb : Bd r) (hk : (r.at_.k == 2) = false) (f : Rd -> Re) (hv : cvl g r.at_.t = .func (.func 223) #[.pointer (some ⟨g, 0, none⟩)] #[]) (hf : ∀ W, RS W0 pm g e W r q -> Calls Tryz.prog 223 #[.pointer (some ⟨g, 0, none⟩)] W (RO W0 pm g e (fun _ => .tuple #[]) (f r))) :
  Calls Tryz.prog 107 #[.pointer (some ⟨g, 0, none⟩), .agg (tkc r.at_).toArray] W (RO W0 pm g e (fun _ => .tuple #[]) (f r)) := by
 obtain ⟨W1, hW1⟩ : ∃ W1, W.alloc (.cells #[.int .i64 r.at_.k, .string r.at_.t, .int .u16 r.at_.v, .int .i64 r.at_.p.1, .int .i64 r.at_.p.2] 53) = W1 := ⟨_, rfl⟩
 have hB : Below W.heap.size W W1 := by rw [<- hW1]; exact (Below.refl _ _).alloc (Nat.le_refl _) _
 have v1 : W1.heap[W.heap.size]? = some (.cells (tkc r.at_).toArray 53 (0, 0)) := by rw [<- hW1]; exact heap_alloc_new W _
 have hR := h.next hB
 have hlt : W.heap.size < W1.heap.size := (Array.getElem?_eq_some_iff.1 v1).1
 have HBX := hid (fun (w : World) (hb : Below W1.heap.size W1 w) => show (w.cell? ⟨W.heap.size, 0, none⟩ = some (.int .i64 r.at_.k) /\ w.cell? ⟨W.heap.size, 1, none⟩ = some (.string r.at_.t) /\ w.cell? ⟨W.heap.size, 2, none⟩ = some (.int .u16 r.at_.v) /\ w.cell? ⟨W.heap.size, 3, none⟩ = some (.int .i64 r.at_.p.1) /\ w.cell? ⟨W.heap.size, 4, none⟩ = some (.int .i64 r.at_.p.2)) from by
  have v2 := (hb.block _ hlt).trans v1
  exact ⟨S.cell_of w _ 0 _ 53 _ v2 rfl, S.cell_of w _ 1 _ 53 _ v2 rfl, S.cell_of w _ 2 _ 53 _ v2 rfl, S.cell_of w _ 3 _ 53 _ v2 rfl, S.cell_of w _ 4 _ 53 _ v2 rfl⟩)
 have hBr : Below W1.heap.size W1 W1 := Below.refl _ _
 obtain ⟨x0, x1, x2, x3, x4⟩ := HBX.out W1 hBr
 have hcon := control_any g r.at_.t W1
 have hcf := hf W1 hR
 have hnf := fun W => neq_fn W 223 #[.pointer (some ⟨g, 0, none⟩)] #[]
 rw [hv] at hcon
 clear hv hR hb hBr HBX hf
 generalize f r = res at *
 clear v1 hB h hlt
 unfold tkc
 go_enter Tryz.func107, Tryz.ntmps107
 go_wp2_with fail
 refine hcon.mono ?_
 rintro e' w2 ⟨rfl, hw2⟩
 obtain rfl := hw2.symm
 clear hcon
 go_wp2_with fail
 refine hcf.mono ?_
 intro en w9 h9
 cases res with
 | ok r' =>
  obtain ⟨rfl, h1⟩ := h9
  have H1 := hid h1
  clear h1 hcf
  go_wp2
  go_end0
  exact ro_ok rfl H1.out
 | error er =>
  obtain ⟨rfl, h1⟩ := h9
  exact ⟨rfl, ro_er rfl h1⟩
theorem node_c10 (W0 : World) (pm : Px) (g : Nat) (e : Ps) (W : World) (r : Rd) (q : Rv) (h : RS W0 pm g e W r q) (hb : Bd r) (hk : (r.at_.k == 2) = false) (f : Rd -> Re) (hv : cvl g r.at_.t = .func (.func 224) #[.pointer (some ⟨g, 0, none⟩)] #[]) (hf : ∀ W, RS W0 pm g e W r q -> Calls Tryz.prog 224 #[.pointer (some ⟨g, 0, none⟩)] W (RO W0 pm g e (fun _ => .tuple #[]) (f r))) :
  Calls Tryz.prog 107 #[.pointer (some ⟨g, 0, none⟩), .agg (tkc r.at_).toArray] W (RO W0 pm g e (fun _ => .tuple #[]) (f r)) := by
 obtain ⟨W1, hW1⟩ : ∃ W1, W.alloc (.cells #[.int .i64 r.at_.k, .string r.at_.t, .int .u16 r.at_.v, .int .i64 r.at_.p.1, .int .i64 r.at_.p.2] 53) = W1 := ⟨_, rfl⟩
 have hB : Below W.heap.size W W1 := by rw [<- hW1]; exact (Below.refl _ _).alloc (Nat.le_refl _) _
 have v1 : W1.heap[W.heap.size]? = some (.cells (tkc r.at_).toArray 53 (0, 0)) := by rw [<- hW1]; exact heap_alloc_new W _
 have hR := h.next hB
 have hlt : W.heap.size < W1.heap.size := (Array.getElem?_eq_some_iff.1 v1).1
 have HBX := hid (fun (w : World) (hb : Below W1.heap.size W1 w) => show (w.cell? ⟨W.heap.size, 0, none⟩ = some (.int .i64 r.at_.k) /\ w.cell? ⟨W.heap.size, 1, none⟩ = some (.string r.at_.t) /\ w.cell? ⟨W.heap.size, 2, none⟩ = some (.int .u16 r.at_.v) /\ w.cell? ⟨W.heap.size, 3, none⟩ = some (.int .i64 r.at_.p.1) /\ w.cell? ⟨W.heap.size, 4, none⟩ = some (.int .i64 r.at_.p.2)) from by
  have v2 := (hb.block _ hlt).trans v1
  exact ⟨S.cell_of w _ 0 _ 53 _ v2 rfl, S.cell_of w _ 1 _ 53 _ v2 rfl, S.cell_of w _ 2 _ 53 _ v2 rfl, S.cell_of w _ 3 _ 53 _ v2 rfl, S.cell_of w _ 4 _ 53 _ v2 rfl⟩)
 have hBr : Below W1.heap.size W1 W1 := Below.refl _ _
 obtain ⟨x0, x1, x2, x3, x4⟩ := HBX.out W1 hBr
 have hcon := control_any g r.at_.t W1
 have hcf := hf W1 hR
 have hnf := fun W => neq_fn W 224 #[.pointer (some ⟨g, 0, none⟩)] #[]
 rw [hv] at hcon
 clear hv hR hb hBr HBX hf
 generalize f r = res at *
 clear v1 hB h hlt
 unfold tkc
 go_enter Tryz.func107, Tryz.ntmps107
 go_wp2_with fail
 refine hcon.mono ?_
 rintro e' w2 ⟨rfl, hw2⟩
 obtain rfl := hw2.symm
 clear hcon
 go_wp2_with fail
 refine hcf.mono ?_
 intro en w9 h9
 cases res with
 | ok r' =>
  obtain ⟨rfl, h1⟩ := h9
  have H1 := hid h1
  clear h1 hcf
  go_wp2
  go_end0
  exact ro_ok rfl H1.out
 | error er =>
  obtain ⟨rfl, h1⟩ := h9
  exact ⟨rfl, ro_er rfl h1⟩
theorem node_c11 (W0 : World) (pm : Px) (g : Nat) (e : Ps) (W : World) (r : Rd) (q : Rv) (h : RS W0 pm g e W r q) (hb : Bd r) (hk : (r.at_.k == 2) = false) (f : Rd -> Re) (hv : cvl g r.at_.t = .func (.func 225) #[.pointer (some ⟨g, 0, none⟩)] #[]) (hf : ∀ W, RS W0 pm g e W r q -> Calls Tryz.prog 225 #[.pointer (some ⟨g, 0, none⟩)] W (RO W0 pm g e (fun _ => .tuple #[]) (f r))) :
  Calls Tryz.prog 107 #[.pointer (some ⟨g, 0, none⟩), .agg (tkc r.at_).toArray] W (RO W0 pm g e (fun _ => .tuple #[]) (f r)) := by
 obtain ⟨W1, hW1⟩ : ∃ W1, W.alloc (.cells #[.int .i64 r.at_.k, .string r.at_.t, .int .u16 r.at_.v, .int .i64 r.at_.p.1, .int .i64 r.at_.p.2] 53) = W1 := ⟨_, rfl⟩
 have hB : Below W.heap.size W W1 := by rw [<- hW1]; exact (Below.refl _ _).alloc (Nat.le_refl _) _
 have v1 : W1.heap[W.heap.size]? = some (.cells (tkc r.at_).toArray 53 (0, 0)) := by rw [<- hW1]; exact heap_alloc_new W _
 have hR := h.next hB
 have hlt : W.heap.size < W1.heap.size := (Array.getElem?_eq_some_iff.1 v1).1
 have HBX := hid (fun (w : World) (hb : Below W1.heap.size W1 w) => show (w.cell? ⟨W.heap.size, 0, none⟩ = some (.int .i64 r.at_.k) /\ w.cell? ⟨W.heap.size, 1, none⟩ = some (.string r.at_.t) /\ w.cell? ⟨W.heap.size, 2, none⟩ = some (.int .u16 r.at_.v) /\ w.cell? ⟨W.heap.size, 3, none⟩ = some (.int .i64 r.at_.p.1) /\ w.cell? ⟨W.heap.size, 4, none⟩ = some (.int .i64 r.at_.p.2)) from by
  have v2 := (hb.block _ hlt).trans v1
  exact ⟨S.cell_of w _ 0 _ 53 _ v2 rfl, S.cell_of w _ 1 _ 53 _ v2 rfl, S.cell_of w _ 2 _ 53 _ v2 rfl, S.cell_of w _ 3 _ 53 _ v2 rfl, S.cell_of w _ 4 _ 53 _ v2 rfl⟩)
 have hBr : Below W1.heap.size W1 W1 := Below.refl _ _
 obtain ⟨x0, x1, x2, x3, x4⟩ := HBX.out W1 hBr
 have hcon := control_any g r.at_.t W1
 have hcf := hf W1 hR
 have hnf := fun W => neq_fn W 225 #[.pointer (some ⟨g, 0, none⟩)] #[]
 rw [hv] at hcon
 clear hv hR hb hBr HBX hf
 generalize f r = res at *
 clear v1 hB h hlt
 unfold tkc
 go_enter Tryz.func107, Tryz.ntmps107
 go_wp2_with fail
 refine hcon.mono ?_
 rintro e' w2 ⟨rfl, hw2⟩
 obtain rfl := hw2.symm
 clear hcon
 go_wp2_with fail
 refine hcf.mono ?_
 intro en w9 h9
 cases res with
 | ok r' =>
  obtain ⟨rfl, h1⟩ := h9
  have H1 := hid h1
  clear h1 hcf
  go_wp2
  go_end0
  exact ro_ok rfl H1.out
 | error er =>
  obtain ⟨rfl, h1⟩ := h9
  exact ⟨rfl, ro_er rfl h1⟩
theorem node_ctl (W0 : World) (pm : Px) (g : Nat) (e : Ps) (W : World) (r : Rd) (q : Rv) (h : RS W0 pm g e W r q) (hb : Bd r) (hk : (r.at_.k == 2) = false) (f : Rd -> Re) (hc : ctl r.at_.t = some f) :
  Calls Tryz.prog 107 #[.pointer (some ⟨g, 0, none⟩), .agg (tkc r.at_).toArray] W (RO W0 pm g e (fun _ => .tuple #[]) (f r)) := by
 unfold ctl at hc
 cases h0 : isW r.at_.t [105, 102]
 rotate_left
 ·rw [h0, if_pos rfl] at hc
  obtain rfl := Option.some.inj hc
  exact node_c0 W0 pm g e W r q h hb hk _ (by unfold cvl; simp only [h0, Bool.false_eq_true, if_false, if_true]) (fun W h => openIf_any W0 pm g e W r q h hb)
 rw [h0, if_neg (show ¬ (false = true) by decide)] at hc
 cases h1 : isW r.at_.t [101, 108, 115, 101]
 rotate_left
 ·rw [h1, if_pos rfl] at hc
  obtain rfl := Option.some.inj hc
  exact node_c1 W0 pm g e W r q h hb hk _ (by unfold cvl; simp only [h0, h1, Bool.false_eq_true, if_false, if_true]) (fun W h => else_any W0 pm g e W r q h hb)
 rw [h1, if_neg (show ¬ (false = true) by decide)] at hc
 cases h2 : isW r.at_.t [116, 104, 101, 110]
 rotate_left
 ·rw [h2, if_pos rfl] at hc
  obtain rfl := Option.some.inj hc
  exact node_c2 W0 pm g e W r q h hb hk _ (by unfold cvl; simp only [h0, h1, h2, Bool.false_eq_true, if_false, if_true]) (fun W h => closeThen_any W0 pm g e W r q h hb)
 rw [h2, if_neg (show ¬ (false = true) by decide)] at hc
 cases h3 : isW r.at_.t [98, 101, 103, 105, 110]
 rotate_left
 ·rw [h3, if_pos rfl] at hc
  obtain rfl := Option.some.inj hc
  exact node_c3 W0 pm g e W r q h hb hk _ (by unfold cvl; simp only [h0, h1, h2, h3, Bool.false_eq_true, if_false, if_true]) (fun W h => openBegin_any W0 pm g e W r q h hb)
 rw [h3, if_neg (show ¬ (false = true) by decide)] at hc
 cases h4 : isW r.at_.t [117, 110, 116, 105, 108]
 rotate_left
 ·rw [h4, if_pos rfl] at hc
  obtain rfl := Option.some.inj hc
  exact node_c4 W0 pm g e W r q h hb hk _ (by unfold cvl; simp only [h0, h1, h2, h3, h4, Bool.false_eq_true, if_false, if_true]) (fun W h => closeUntil_any W0 pm g e W r q h hb)
 rw [h4, if_neg (show ¬ (false = true) by decide)] at hc
 cases h5 : isW r.at_.t [97, 103, 97, 105, 110]
 rotate_left
 ·rw [h5, if_pos rfl] at hc
  obtain rfl := Option.some.inj hc
  exact node_c5 W0 pm g e W r q h hb hk _ (by unfold cvl; simp only [h0, h1, h2, h3, h4, h5, Bool.false_eq_true, if_false, if_true]) (fun W h => closeAgain_any W0 pm g e W r q h hb)
 rw [h5, if_neg (show ¬ (false = true) by decide)] at hc
 cases h6 : isW r.at_.t [119, 104, 105, 108, 101]
 rotate_left
 ·rw [h6, if_pos rfl] at hc
  obtain rfl := Option.some.inj hc
  exact node_c6 W0 pm g e W r q h hb hk _ (by unfold cvl; simp only [h0, h1, h2, h3, h4, h5, h6, Bool.false_eq_true, if_false, if_true]) (fun W h => while_any W0 pm g e W r q h hb)
 rw [h6, if_neg (show ¬ (false = true) by decide)] at hc
 cases h7 : isW r.at_.t [114, 101, 112, 101, 97, 116]
 rotate_left
 ·rw [h7, if_pos rfl] at hc
  obtain rfl := Option.some.inj hc
  exact node_c7 W0 pm g e W r q h hb hk _ (by unfold cvl; simp only [h0, h1, h2, h3, h4, h5, h6, h7, Bool.false_eq_true, if_false, if_true]) (fun W h => closeRepeat_any W0 pm g e W r q h hb)
 rw [h7, if_neg (show ¬ (false = true) by decide)] at hc
 cases h8 : isW r.at_.t [100, 111]
 rotate_left
 ·rw [h8, if_pos rfl] at hc
  obtain rfl := Option.some.inj hc
  exact node_c8 W0 pm g e W r q h hb hk _ (by unfold cvl; simp only [h0, h1, h2, h3, h4, h5, h6, h7, h8, Bool.false_eq_true, if_false, if_true]) (fun W h => openDo_any W0 pm g e W r q h hb)
 rw [h8, if_neg (show ¬ (false = true) by decide)] at hc
 cases h9 : isW r.at_.t [108, 111, 111, 112]
 rotate_left
 ·rw [h9, if_pos rfl] at hc
  obtain rfl := Option.some.inj hc
  exact node_c9 W0 pm g e W r q h hb hk _ (by unfold cvl; simp only [h0, h1, h2, h3, h4, h5, h6, h7, h8, h9, Bool.false_eq_true, if_false, if_true]) (fun W h => closeLoop_any W0 pm g e W r q h hb)
 rw [h9, if_neg (show ¬ (false = true) by decide)] at hc
 cases h10 : isW r.at_.t [101, 120, 105, 116]
 rotate_left
 ·rw [h10, if_pos rfl] at hc
  obtain rfl := Option.some.inj hc
  exact node_c10 W0 pm g e W r q h hb hk _ (by unfold cvl; simp only [h0, h1, h2, h3, h4, h5, h6, h7, h8, h9, h10, Bool.false_eq_true, if_false, if_true]) (fun W h => leave_any W0 pm g e W r q h hb)
 rw [h10, if_neg (show ¬ (false = true) by decide)] at hc
 cases h11 : isW r.at_.t [59]
 rotate_left
 ·rw [h11, if_pos rfl] at hc
  obtain rfl := Option.some.inj hc
  exact node_c11 W0 pm g e W r q h hb hk _ (by unfold cvl; simp only [h0, h1, h2, h3, h4, h5, h6, h7, h8, h9, h10, h11, Bool.false_eq_true, if_false, if_true]) (fun W h => finish_any W0 pm g e W r q h hb)
 rw [h11, if_neg (show ¬ (false = true) by decide)] at hc
 cases hc
theorem node_call (W0 : World) (pm : Px) (g : Nat) (e : Ps) (W : World) (r : Rd) (q : Rv) (h : RS W0 pm g e W r q) (hb : Bd r) (hk : (r.at_.k == 2) = false) (hc : ctl r.at_.t = none) (hn : known r r.at_.t = true) :
  Calls Tryz.prog 107 #[.pointer (some ⟨g, 0, none⟩), .agg (tkc r.at_).toArray] W (RO W0 pm g e (fun _ => .tuple #[]) (.ok (add (cll r.at_.t r.at_.p) r))) := by
 obtain ⟨W1, hW1⟩ : ∃ W1, W.alloc (.cells #[.int .i64 r.at_.k, .string r.at_.t, .int .u16 r.at_.v, .int .i64 r.at_.p.1, .int .i64 r.at_.p.2] 53) = W1 := ⟨_, rfl⟩
 have hB : Below W.heap.size W W1 := by rw [<- hW1]; exact (Below.refl _ _).alloc (Nat.le_refl _) _
 have v1 : W1.heap[W.heap.size]? = some (.cells (tkc r.at_).toArray 53 (0, 0)) := by rw [<- hW1]; exact heap_alloc_new W _
 have hR := h.next hB
 have hlt : W.heap.size < W1.heap.size := (Array.getElem?_eq_some_iff.1 v1).1
 have HBX := hid (fun (w : World) (hb : Below W1.heap.size W1 w) => show (w.cell? ⟨W.heap.size, 0, none⟩ = some (.int .i64 r.at_.k) /\ w.cell? ⟨W.heap.size, 1, none⟩ = some (.string r.at_.t) /\ w.cell? ⟨W.heap.size, 2, none⟩ = some (.int .u16 r.at_.v) /\ w.cell? ⟨W.heap.size, 3, none⟩ = some (.int .i64 r.at_.p.1) /\ w.cell? ⟨W.heap.size, 4, none⟩ = some (.int .i64 r.at_.p.2)) from by
  have v2 := (hb.block _ hlt).trans v1
  exact ⟨S.cell_of w _ 0 _ 53 _ v2 rfl, S.cell_of w _ 1 _ 53 _ v2 rfl, S.cell_of w _ 2 _ 53 _ v2 rfl, S.cell_of w _ 3 _ 53 _ v2 rfl, S.cell_of w _ 4 _ 53 _ v2 rfl⟩)
 have hBr : Below W1.heap.size W1 W1 := Below.refl _ _
 obtain ⟨x0, x1, x2, x3, x4⟩ := HBX.out W1 hBr
 have hcon := control_any g r.at_.t W1
 have hv : cvl g r.at_.t = .nilFunc := ctl_nil g _ hc
 rw [hv] at hcon
 have hnf := neq_nil
 have hln : ∃ zn : Int, ∀ w : World, Below W1.heap.size W1 w -> (Instr.lookup 94 (.map (some q.mn)) (.string r.at_.t) true).run Tryz.prog w = .ok (.tuple #[.int .i64 zn, .bool true]) w := by
  cases hl : lk (numb (r.defs.map (·.nm)) 0) r.at_.t with
  | none =>
   have := lk_numb r.at_.t (r.defs.map (·.nm)) 0; rw [hl] at this; unfold known at hn; rw [<- this] at hn; cases hn
  | some v =>
   exact ⟨v, fun w hw => look_yes w q.mn r.at_.t v _ (hR.known.below hw hR.known.lt) hl⟩
 obtain ⟨zn, hln⟩ := hln
 have HLN := hid hln
 have Hb := hid hb
 clear hv hc hb hln hn
 clear v1 hB h hlt
 unfold tkc
 go_enter Tryz.func107, Tryz.ntmps107
 go_wp2_with fail
 refine hcon.mono ?_
 rintro e' w2 ⟨rfl, hw2⟩
 obtain rfl := hw2.symm
 clear hcon x0 x1 x2 x3 x4
 go_upto_region 6 with fail
 have hS6 : W1.drew.cell? ⟨g, 5, none⟩ = some (.map (some q.mn)) /\ W1.drew.cell? ⟨W.heap.size, 1, none⟩ = some (.string r.at_.t) /\ (Instr.lookup 94 (.map (some q.mn)) (.string r.at_.t) true).run Tryz.prog W1.drew = .ok (.tuple #[.int .i64 zn, .bool true]) W1.drew := ⟨(rd_cells hR.blk).2.2.2.2.2.1, (HBX.out _ hBr).2.1, HLN.out _ (hBr.trans ⟨rfl, rfl, rfl, Nat.le_refl _, fun _ _ => rfl⟩)⟩
 refine wp_region_held_drew (S := fun wz : World => wz.cell? ⟨g, 5, none⟩ = some (.map (some q.mn)) /\ wz.cell? ⟨W.heap.size, 1, none⟩ = some (.string r.at_.t) /\ (Instr.lookup 94 (.map (some q.mn)) (.string r.at_.t) true).run Tryz.prog wz = .ok (.tuple #[.int .i64 zn, .bool true]) wz) (by kernel_rfl) hS6 (fun hHeld => ?_)
 clear hS6
 replace hR : RS W0 pm g e W1.drew r q := hR.next ⟨rfl, rfl, rfl, Nat.le_refl _, fun _ _ => rfl⟩
 replace hBr : Below W1.heap.size W1 W1.drew := hBr.trans ⟨rfl, rfl, rfl, Nat.le_refl _, fun _ _ => rfl⟩
 generalize W1.drew = y6 at *
 refine D.zH (is := [0, 1, 2, 3, 4, 5, 6, 7, 8, 9, 10, 11]) ?_
 iterate 12
  refine D.yH (v := ?_) rfl (by kernel_rfl) (fun c a w h => h) (by rfl) ?_ hHeld ?_
  rotate_left
  ·(intro w hSw; (try dsimp only at hSw); go_simp; try with_reducible rfl)
  simp only [D.pts]
 refine D.eH ?_
 refine wpAnyH_done (by kernel_rfl) ?_ _
 clear hHeld
 obtain ⟨x0, x1, x2, x3, x4⟩ := HBX.out _ hBr
 have hadd := add_any W0 pm g e y6 r q hR Hb.out (cll r.at_.t r.at_.p) (.slice none 0 0) (.slice none 0 0) (NV.nil (.inl rfl)) (NV.nil (.inl rfl))
 unfold ndc cll at hadd
 clear hR hBr HBX HLN Hb
 go_wp2_with fail
 refine hadd.mono ?_
 rintro e' w9 ⟨rfl, hq⟩
 have HQ := hid hq
 clear hq hadd
 go_wp2
 go_end0
 exact ro_ok rfl HQ.out
theorem node_prim (W0 : World) (pm : Px) (g : Nat) (e : Ps) (W : World) (r : Rd) (q : Rv) (h : RS W0 pm g e W r q) (hb : Bd r) (hk : (r.at_.k == 2) = false) (hc : ctl r.at_.t = none) (hn : known r r.at_.t = false) (zp : Int) (hp : lk pm.m r.at_.t = some zp) :
  Calls Tryz.prog 107 #[.pointer (some ⟨g, 0, none⟩), .agg (tkc r.at_).toArray] W (RO W0 pm g e (fun _ => .tuple #[]) (.ok (add (prm zp r.at_.p) r))) := by
 obtain ⟨W1, hW1⟩ : ∃ W1, W.alloc (.cells #[.int .i64 r.at_.k, .string r.at_.t, .int .u16 r.at_.v, .int .i64 r.at_.p.1, .int .i64 r.at_.p.2] 53) = W1 := ⟨_, rfl⟩
 have hB : Below W.heap.size W W1 := by rw [<- hW1]; exact (Below.refl _ _).alloc (Nat.le_refl _) _
 have v1 : W1.heap[W.heap.size]? = some (.cells (tkc r.at_).toArray 53 (0, 0)) := by rw [<- hW1]; exact heap_alloc_new W _
 have hR := h.next hB
 have hlt : W.heap.size < W1.heap.size := (Array.getElem?_eq_some_iff.1 v1).1
 have HBX := hid (fun (w : World) (hb : Below W1.heap.size W1 w) => show (w.cell? ⟨W.heap.size, 0, none⟩ = some (.int .i64 r.at_.k) /\ w.cell? ⟨W.heap.size, 1, none⟩ = some (.string r.at_.t) /\ w.cell? ⟨W.heap.size, 2, none⟩ = some (.int .u16 r.at_.v) /\ w.cell? ⟨W.heap.size, 3, none⟩ = some (.int .i64 r.at_.p.1) /\ w.cell? ⟨W.heap.size, 4, none⟩ = some (.int .i64 r.at_.p.2)) from by
  have v2 := (hb.block _ hlt).trans v1
  exact ⟨S.cell_of w _ 0 _ 53 _ v2 rfl, S.cell_of w _ 1 _ 53 _ v2 rfl, S.cell_of w _ 2 _ 53 _ v2 rfl, S.cell_of w _ 3 _ 53 _ v2 rfl, S.cell_of w _ 4 _ 53 _ v2 rfl⟩)
 have hBr : Below W1.heap.size W1 W1 := Below.refl _ _
 obtain ⟨x0, x1, x2, x3, x4⟩ := HBX.out W1 hBr
 have hcon := control_any g r.at_.t W1
 have hv : cvl g r.at_.t = .nilFunc := ctl_nil g _ hc
 rw [hv] at hcon
 have hnf := neq_nil
 have hln : ∃ zn : Int, ∀ w : World, Below W1.heap.size W1 w -> (Instr.lookup 94 (.map (some q.mn)) (.string r.at_.t) true).run Tryz.prog w = .ok (.tuple #[.int .i64 zn, .bool false]) w := by
  cases hl : lk (numb (r.defs.map (·.nm)) 0) r.at_.t with
  | none =>
   exact ⟨0, fun w hw => look_no w q.mn r.at_.t _ (hR.known.below hw hR.known.lt) hl⟩
  | some v =>
   have := lk_numb r.at_.t (r.defs.map (·.nm)) 0; rw [hl] at this; unfold known at hn; rw [<- this] at hn; cases hn
 obtain ⟨zn, hln⟩ := hln
 have HLN := hid hln
 have hlp : ∀ w : World, Below W1.heap.size W1 w -> (Instr.lookup 94 (.map (some q.mp)) (.string r.at_.t) true).run Tryz.prog w = .ok (.tuple #[.int .i64 zp, .bool true]) w := fun w hw => look_yes w q.mp r.at_.t zp _ (hR.prims.below hw hR.prims.lt) hp
 have HLP := hid hlp
 clear hlp
 have Hb := hid hb
 clear hv hc hb hln hn hp
 clear v1 hB h hlt
 unfold tkc
 go_enter Tryz.func107, Tryz.ntmps107
 go_wp2_with fail
 refine hcon.mono ?_
 rintro e' w2 ⟨rfl, hw2⟩
 obtain rfl := hw2.symm
 clear hcon x0 x1 x2 x3 x4
 go_upto_region 6 with fail
 have hS6 : W1.drew.cell? ⟨g, 5, none⟩ = some (.map (some q.mn)) /\ W1.drew.cell? ⟨W.heap.size, 1, none⟩ = some (.string r.at_.t) /\ (Instr.lookup 94 (.map (some q.mn)) (.string r.at_.t) true).run Tryz.prog W1.drew = .ok (.tuple #[.int .i64 zn, .bool false]) W1.drew := ⟨(rd_cells hR.blk).2.2.2.2.2.1, (HBX.out _ hBr).2.1, HLN.out _ (hBr.trans ⟨rfl, rfl, rfl, Nat.le_refl _, fun _ _ => rfl⟩)⟩
 refine wp_region_held_drew (S := fun wz : World => wz.cell? ⟨g, 5, none⟩ = some (.map (some q.mn)) /\ wz.cell? ⟨W.heap.size, 1, none⟩ = some (.string r.at_.t) /\ (Instr.lookup 94 (.map (some q.mn)) (.string r.at_.t) true).run Tryz.prog wz = .ok (.tuple #[.int .i64 zn, .bool false]) wz) (by kernel_rfl) hS6 (fun hHeld => ?_)
 clear hS6
 replace hR : RS W0 pm g e W1.drew r q := hR.next ⟨rfl, rfl, rfl, Nat.le_refl _, fun _ _ => rfl⟩
 replace hBr : Below W1.heap.size W1 W1.drew := hBr.trans ⟨rfl, rfl, rfl, Nat.le_refl _, fun _ _ => rfl⟩
 generalize W1.drew = y6 at *
 refine D.zH (is := [0, 1, 2, 3, 4, 5, 6, 7, 8, 9, 10, 11]) ?_
 iterate 12
  refine D.yH (v := ?_) rfl (by kernel_rfl) (fun c a w h => h) (by rfl) ?_ hHeld ?_
  rotate_left
  ·(intro w hSw; (try dsimp only at hSw); go_simp; try with_reducible rfl)
  simp only [D.pts]
 refine D.eH ?_
 refine wpAnyH_done (by kernel_rfl) ?_ _
 clear hHeld
 go_upto_region 9 with fail
 have hS9 : y6.drew.cell? ⟨g, 6, none⟩ = some (.map (some q.mp)) /\ y6.drew.cell? ⟨W.heap.size, 1, none⟩ = some (.string r.at_.t) /\ (Instr.lookup 94 (.map (some q.mp)) (.string r.at_.t) true).run Tryz.prog y6.drew = .ok (.tuple #[.int .i64 zp, .bool true]) y6.drew := ⟨(rd_cells hR.blk).2.2.2.2.2.2.1, (HBX.out _ hBr).2.1, HLP.out _ (hBr.trans ⟨rfl, rfl, rfl, Nat.le_refl _, fun _ _ => rfl⟩)⟩
 refine wp_region_held_drew (S := fun wz : World => wz.cell? ⟨g, 6, none⟩ = some (.map (some q.mp)) /\ wz.cell? ⟨W.heap.size, 1, none⟩ = some (.string r.at_.t) /\ (Instr.lookup 94 (.map (some q.mp)) (.string r.at_.t) true).run Tryz.prog wz = .ok (.tuple #[.int .i64 zp, .bool true]) wz) (by kernel_rfl) hS9 (fun hHeld => ?_)
 clear hS9
 replace hR : RS W0 pm g e y6.drew r q := hR.next ⟨rfl, rfl, rfl, Nat.le_refl _, fun _ _ => rfl⟩
 replace hBr : Below W1.heap.size W1 y6.drew := hBr.trans ⟨rfl, rfl, rfl, Nat.le_refl _, fun _ _ => rfl⟩
 generalize y6.drew = y9 at *
 refine D.zH (is := [0, 1, 2, 3, 4, 5, 6, 7, 8, 9, 10, 11]) ?_
 iterate 12
  refine D.yH (v := ?_) rfl (by kernel_rfl) (fun c a w h => h) (by rfl) ?_ hHeld ?_
  rotate_left
  ·(intro w hSw; (try dsimp only at hSw); go_simp; try with_reducible rfl)
  simp only [D.pts]
 refine D.eH ?_
 refine wpAnyH_done (by kernel_rfl) ?_ _
 clear hHeld
 obtain ⟨x0, x1, x2, x3, x4⟩ := HBX.out _ hBr
 have hadd := add_any W0 pm g e y9 r q hR Hb.out (prm zp r.at_.p) (.slice none 0 0) (.slice none 0 0) (NV.nil (.inl rfl)) (NV.nil (.inl rfl))
 unfold ndc prm at hadd
 clear hR hBr HBX HLN HLP Hb
 go_wp2_with fail
 refine hadd.mono ?_
 rintro e' w9 ⟨rfl, hq⟩
 have HQ := hid hq
 clear hq hadd
 go_wp2
 go_end0
 exact ro_ok rfl HQ.out
theorem node_res (W0 : World) (pm : Px) (g : Nat) (e : Ps) (W : World) (r : Rd) (q : Rv) (h : RS W0 pm g e W r q) (hb : Bd r) (hk : (r.at_.k == 2) = false) (hc : ctl r.at_.t = none) (hn : known r r.at_.t = false) (hp : lk pm.m r.at_.t = none) (hre : R.isRes r.at_.t = true) :
  Calls Tryz.prog 107 #[.pointer (some ⟨g, 0, none⟩), .agg (tkc r.at_).toArray] W (RO W0 pm g e (fun _ => .tuple #[]) (.error (r.at_.p, 104))) := by
 obtain ⟨W1, hW1⟩ : ∃ W1, W.alloc (.cells #[.int .i64 r.at_.k, .string r.at_.t, .int .u16 r.at_.v, .int .i64 r.at_.p.1, .int .i64 r.at_.p.2] 53) = W1 := ⟨_, rfl⟩
 have hB : Below W.heap.size W W1 := by rw [<- hW1]; exact (Below.refl _ _).alloc (Nat.le_refl _) _
 have v1 : W1.heap[W.heap.size]? = some (.cells (tkc r.at_).toArray 53 (0, 0)) := by rw [<- hW1]; exact heap_alloc_new W _
 have hR := h.next hB
 have hlt : W.heap.size < W1.heap.size := (Array.getElem?_eq_some_iff.1 v1).1
 have HBX := hid (fun (w : World) (hb : Below W1.heap.size W1 w) => show (w.cell? ⟨W.heap.size, 0, none⟩ = some (.int .i64 r.at_.k) /\ w.cell? ⟨W.heap.size, 1, none⟩ = some (.string r.at_.t) /\ w.cell? ⟨W.heap.size, 2, none⟩ = some (.int .u16 r.at_.v) /\ w.cell? ⟨W.heap.size, 3, none⟩ = some (.int .i64 r.at_.p.1) /\ w.cell? ⟨W.heap.size, 4, none⟩ = some (.int .i64 r.at_.p.2)) from by
  have v2 := (hb.block _ hlt).trans v1
  exact ⟨S.cell_of w _ 0 _ 53 _ v2 rfl, S.cell_of w _ 1 _ 53 _ v2 rfl, S.cell_of w _ 2 _ 53 _ v2 rfl, S.cell_of w _ 3 _ 53 _ v2 rfl, S.cell_of w _ 4 _ 53 _ v2 rfl⟩)
 have hBr : Below W1.heap.size W1 W1 := Below.refl _ _
 obtain ⟨x0, x1, x2, x3, x4⟩ := HBX.out W1 hBr
 have hcon := control_any g r.at_.t W1
 have hv : cvl g r.at_.t = .nilFunc := ctl_nil g _ hc
 rw [hv] at hcon
 have hnf := neq_nil
 have hln : ∃ zn : Int, ∀ w : World, Below W1.heap.size W1 w -> (Instr.lookup 94 (.map (some q.mn)) (.string r.at_.t) true).run Tryz.prog w = .ok (.tuple #[.int .i64 zn, .bool false]) w := by
  cases hl : lk (numb (r.defs.map (·.nm)) 0) r.at_.t with
  | none =>
   exact ⟨0, fun w hw => look_no w q.mn r.at_.t _ (hR.known.below hw hR.known.lt) hl⟩
  | some v =>
   have := lk_numb r.at_.t (r.defs.map (·.nm)) 0; rw [hl] at this; unfold known at hn; rw [<- this] at hn; cases hn
 obtain ⟨zn, hln⟩ := hln
 have HLN := hid hln
 have hlp : ∀ w : World, Below W1.heap.size W1 w -> (Instr.lookup 94 (.map (some q.mp)) (.string r.at_.t) true).run Tryz.prog w = .ok (.tuple #[.int .i64 0, .bool false]) w := fun w hw => look_no w q.mp r.at_.t _ (hR.prims.below hw hR.prims.lt) hp
 have HLP := hid hlp
 clear hlp
 have Hb := hid hb
 clear hv hc hb hln hn hp
 clear v1 hB h hlt
 unfold tkc
 go_enter Tryz.func107, Tryz.ntmps107
 go_wp2_with fail
 refine hcon.mono ?_
 rintro e' w2 ⟨rfl, hw2⟩
 obtain rfl := hw2.symm
 clear hcon x0 x1 x2 x3 x4
 go_upto_region 6 with fail
 have hS6 : W1.drew.cell? ⟨g, 5, none⟩ = some (.map (some q.mn)) /\ W1.drew.cell? ⟨W.heap.size, 1, none⟩ = some (.string r.at_.t) /\ (Instr.lookup 94 (.map (some q.mn)) (.string r.at_.t) true).run Tryz.prog W1.drew = .ok (.tuple #[.int .i64 zn, .bool false]) W1.drew := ⟨(rd_cells hR.blk).2.2.2.2.2.1, (HBX.out _ hBr).2.1, HLN.out _ (hBr.trans ⟨rfl, rfl, rfl, Nat.le_refl _, fun _ _ => rfl⟩)⟩
 refine wp_region_held_drew (S := fun wz : World => wz.cell? ⟨g, 5, none⟩ = some (.map (some q.mn)) /\ wz.cell? ⟨W.heap.size, 1, none⟩ = some (.string r.at_.t) /\ (Instr.lookup 94 (.map (some q.mn)) (.string r.at_.t) true).run Tryz.prog wz = .ok (.tuple #[.int .i64 zn, .bool false]) wz) (by kernel_rfl) hS6 (fun hHeld => ?_)
 clear hS6
 replace hR : RS W0 pm g e W1.drew r q := hR.next ⟨rfl, rfl, rfl, Nat.le_refl _, fun _ _ => rfl⟩
 replace hBr : Below W1.heap.size W1 W1.drew := hBr.trans ⟨rfl, rfl, rfl, Nat.le_refl _, fun _ _ => rfl⟩
 generalize W1.drew = y6 at *
 refine D.zH (is := [0, 1, 2, 3, 4, 5, 6, 7, 8, 9, 10, 11]) ?_
 iterate 12
  refine D.yH (v := ?_) rfl (by kernel_rfl) (fun c a w h => h) (by rfl) ?_ hHeld ?_
  rotate_left
  ·(intro w hSw; (try dsimp only at hSw); go_simp; try with_reducible rfl)
  simp only [D.pts]
 refine D.eH ?_
 refine wpAnyH_done (by kernel_rfl) ?_ _
 clear hHeld
 go_upto_region 9 with fail
 have hS9 : y6.drew.cell? ⟨g, 6, none⟩ = some (.map (some q.mp)) /\ y6.drew.cell? ⟨W.heap.size, 1, none⟩ = some (.string r.at_.t) /\ (Instr.lookup 94 (.map (some q.mp)) (.string r.at_.t) true).run Tryz.prog y6.drew = .ok (.tuple #[.int .i64 0, .bool false]) y6.drew := ⟨(rd_cells hR.blk).2.2.2.2.2.2.1, (HBX.out _ hBr).2.1, HLP.out _ (hBr.trans ⟨rfl, rfl, rfl, Nat.le_refl _, fun _ _ => rfl⟩)⟩
 refine wp_region_held_drew (S := fun wz : World => wz.cell? ⟨g, 6, none⟩ = some (.map (some q.mp)) /\ wz.cell? ⟨W.heap.size, 1, none⟩ = some (.string r.at_.t) /\ (Instr.lookup 94 (.map (some q.mp)) (.string r.at_.t) true).run Tryz.prog wz = .ok (.tuple #[.int .i64 0, .bool false]) wz) (by kernel_rfl) hS9 (fun hHeld => ?_)
 clear hS9
 replace hR : RS W0 pm g e y6.drew r q := hR.next ⟨rfl, rfl, rfl, Nat.le_refl _, fun _ _ => rfl⟩
 replace hBr : Below W1.heap.size W1 y6.drew := hBr.trans ⟨rfl, rfl, rfl, Nat.le_refl _, fun _ _ => rfl⟩
 generalize y6.drew = y9 at *
 refine D.zH (is := [0, 1, 2, 3, 4, 5, 6, 7, 8, 9, 10, 11]) ?_
 iterate 12
  refine D.yH (v := ?_) rfl (by kernel_rfl) (fun c a w h => h) (by rfl) ?_ hHeld ?_
  rotate_left
  ·(intro w hSw; (try dsimp only at hSw); go_simp; try with_reducible rfl)
  simp only [D.pts]
 refine D.eH ?_
 refine wpAnyH_done (by kernel_rfl) ?_ _
 clear hHeld
 have HRS := hid (fun w => reserved_any r.at_.t w)
 rw [hre] at HRS
 have HM := hid (fun w => must_false r.at_ 104 w)
 have HM2 := hid (fun w => must_false r.at_ 103 w)
 unfold tkc at HM HM2
 have HR := hid hR
 have HBr := hid hBr
 clear hre HLN HLP Hb hR hBr
 go_upto_region 12 with fail
 have hS12 : y9.drew.cell? ⟨W.heap.size, 0, none⟩ = some (.int .i64 r.at_.k) /\ y9.drew.cell? ⟨W.heap.size, 1, none⟩ = some (.string r.at_.t) /\ y9.drew.cell? ⟨W.heap.size, 2, none⟩ = some (.int .u16 r.at_.v) /\ y9.drew.cell? ⟨W.heap.size, 3, none⟩ = some (.int .i64 r.at_.p.1) /\ y9.drew.cell? ⟨W.heap.size, 4, none⟩ = some (.int .i64 r.at_.p.2) := HBX.out _ (HBr.out.trans ⟨rfl, rfl, rfl, Nat.le_refl _, fun _ _ => rfl⟩)
 refine wp_region_held_drew (S := fun wz : World => wz.cell? ⟨W.heap.size, 0, none⟩ = some (.int .i64 r.at_.k) /\ wz.cell? ⟨W.heap.size, 1, none⟩ = some (.string r.at_.t) /\ wz.cell? ⟨W.heap.size, 2, none⟩ = some (.int .u16 r.at_.v) /\ wz.cell? ⟨W.heap.size, 3, none⟩ = some (.int .i64 r.at_.p.1) /\ wz.cell? ⟨W.heap.size, 4, none⟩ = some (.int .i64 r.at_.p.2)) (by kernel_rfl) hS12 (fun hHeld => ?_)
 clear hS12
 have hR : RS W0 pm g e y9.drew r q := HR.out.next ⟨rfl, rfl, rfl, Nat.le_refl _, fun _ _ => rfl⟩
 have hBr : Below W1.heap.size W1 y9.drew := HBr.out.trans ⟨rfl, rfl, rfl, Nat.le_refl _, fun _ _ => rfl⟩
 clear HR HBr
 generalize y9.drew = y0 at *
 refine D.zH (is := [0, 1, 4]) ?_
 iterate 3
  refine D.yH (v := ?_) rfl (by kernel_rfl) (fun c a w h => h) (by rfl) ?_ hHeld ?_
  rotate_left
  ·(intro w hSw; (try dsimp only at hSw); go_simp; try with_reducible rfl)
  simp only [D.pts]
 refine D.eH ?_
 refine wpAnyH_ready (rs := [2]) (by kernel_rfl) (by simp) ?_
 refine AllReadyH.cons rfl (fun K hK => ?_) AllReadyH.nil
 rw [if_pos (by rfl)]
 go_simp
 refine (HRS.out y0).mono ?_
 rintro e' y1 ⟨rfl, hb1⟩
 replace hR := hR.next hb1
 replace hBr := hBr.trans (hb1.mono hBr.size)
 refine hK.out _ _ (HBX.out _ hBr) (fun hHeld => ?_)
 clear hK K
 try simp only [D.pts]
 refine D.xH 3 (v := ?_) rfl (by kernel_rfl) (fun c a w h => h) (by rfl) ?_ hHeld ?_
 rotate_left
 ·(intro w hSw; (try dsimp only at hSw); go_simp; try with_reducible rfl)
 simp only [D.pts]
 refine wpAnyH_ready (rs := [5]) (by kernel_rfl) (by simp) ?_
 refine AllReadyH.cons rfl (fun K hK => ?_) AllReadyH.nil
 rw [if_pos (by rfl)]
 go_simp
 refine (HM.out y1).mono ?_
 rintro e' y2 ⟨rfl, hb2⟩
 exact ⟨rfl, ro_er rfl (hR.err hb2)⟩
theorem node_word (W0 : World) (pm : Px) (g : Nat) (e : Ps) (W : World) (r : Rd) (q : Rv) (h : RS W0 pm g e W r q) (hb : Bd r) (hk : (r.at_.k == 2) = false) (hc : ctl r.at_.t = none) (hn : known r r.at_.t = false) (hp : lk pm.m r.at_.t = none) (hre : R.isRes r.at_.t = false) :
  Calls Tryz.prog 107 #[.pointer (some ⟨g, 0, none⟩), .agg (tkc r.at_).toArray] W (RO W0 pm g e (fun _ => .tuple #[]) (.error (r.at_.p, 103))) := by
 obtain ⟨W1, hW1⟩ : ∃ W1, W.alloc (.cells #[.int .i64 r.at_.k, .string r.at_.t, .int .u16 r.at_.v, .int .i64 r.at_.p.1, .int .i64 r.at_.p.2] 53) = W1 := ⟨_, rfl⟩
 have hB : Below W.heap.size W W1 := by rw [<- hW1]; exact (Below.refl _ _).alloc (Nat.le_refl _) _
 have v1 : W1.heap[W.heap.size]? = some (.cells (tkc r.at_).toArray 53 (0, 0)) := by rw [<- hW1]; exact heap_alloc_new W _
 have hR := h.next hB
 have hlt : W.heap.size < W1.heap.size := (Array.getElem?_eq_some_iff.1 v1).1
 have HBX := hid (fun (w : World) (hb : Below W1.heap.size W1 w) => show (w.cell? ⟨W.heap.size, 0, none⟩ = some (.int .i64 r.at_.k) /\ w.cell? ⟨W.heap.size, 1, none⟩ = some (.string r.at_.t) /\ w.cell? ⟨W.heap.size, 2, none⟩ = some (.int .u16 r.at_.v) /\ w.cell? ⟨W.heap.size, 3, none⟩ = some (.int .i64 r.at_.p.1) /\ w.cell? ⟨W.heap.size, 4, none⟩ = some (.int .i64 r.at_.p.2)) from by
  have v2 := (hb.block _ hlt).trans v1
  exact ⟨S.cell_of w _ 0 _ 53 _ v2 rfl, S.cell_of w _ 1 _ 53 _ v2 rfl, S.cell_of w _ 2 _ 53 _ v2 rfl, S.cell_of w _ 3 _ 53 _ v2 rfl, S.cell_of w _ 4 _ 53 _ v2 rfl⟩)
 have hBr : Below W1.heap.size W1 W1 := Below.refl _ _
 obtain ⟨x0, x1, x2, x3, x4⟩ := HBX.out W1 hBr
 have hcon := control_any g r.at_.t W1
 have hv : cvl g r.at_.t = .nilFunc := ctl_nil g _ hc
 rw [hv] at hcon
 have hnf := neq_nil
 have hln : ∃ zn : Int, ∀ w : World, Below W1.heap.size W1 w -> (Instr.lookup 94 (.map (some q.mn)) (.string r.at_.t) true).run Tryz.prog w = .ok (.tuple #[.int .i64 zn, .bool false]) w := by
  cases hl : lk (numb (r.defs.map (·.nm)) 0) r.at_.t with
  | none =>
   exact ⟨0, fun w hw => look_no w q.mn r.at_.t _ (hR.known.below hw hR.known.lt) hl⟩
  | some v =>
   have := lk_numb r.at_.t (r.defs.map (·.nm)) 0; rw [hl] at this; unfold known at hn; rw [<- this] at hn; cases hn
 obtain ⟨zn, hln⟩ := hln
 have HLN := hid hln
 have hlp : ∀ w : World, Below W1.heap.size W1 w -> (Instr.lookup 94 (.map (some q.mp)) (.string r.at_.t) true).run Tryz.prog w = .ok (.tuple #[.int .i64 0, .bool false]) w := fun w hw => look_no w q.mp r.at_.t _ (hR.prims.below hw hR.prims.lt) hp
 have HLP := hid hlp
 clear hlp
 have Hb := hid hb
 clear hv hc hb hln hn hp
 clear v1 hB h hlt
 unfold tkc
 go_enter Tryz.func107, Tryz.ntmps107
 go_wp2_with fail
 refine hcon.mono ?_
 rintro e' w2 ⟨rfl, hw2⟩
 obtain rfl := hw2.symm
 clear hcon x0 x1 x2 x3 x4
 go_upto_region 6 with fail
 have hS6 : W1.drew.cell? ⟨g, 5, none⟩ = some (.map (some q.mn)) /\ W1.drew.cell? ⟨W.heap.size, 1, none⟩ = some (.string r.at_.t) /\ (Instr.lookup 94 (.map (some q.mn)) (.string r.at_.t) true).run Tryz.prog W1.drew = .ok (.tuple #[.int .i64 zn, .bool false]) W1.drew := ⟨(rd_cells hR.blk).2.2.2.2.2.1, (HBX.out _ hBr).2.1, HLN.out _ (hBr.trans ⟨rfl, rfl, rfl, Nat.le_refl _, fun _ _ => rfl⟩)⟩
 refine wp_region_held_drew (S := fun wz : World => wz.cell? ⟨g, 5, none⟩ = some (.map (some q.mn)) /\ wz.cell? ⟨W.heap.size, 1, none⟩ = some (.string r.at_.t) /\ (Instr.lookup 94 (.map (some q.mn)) (.string r.at_.t) true).run Tryz.prog wz = .ok (.tuple #[.int .i64 zn, .bool false]) wz) (by kernel_rfl) hS6 (fun hHeld => ?_)
 clear hS6
 replace hR : RS W0 pm g e W1.drew r q := hR.next ⟨rfl, rfl, rfl, Nat.le_refl _, fun _ _ => rfl⟩
 replace hBr : Below W1.heap.size W1 W1.drew := hBr.trans ⟨rfl, rfl, rfl, Nat.le_refl _, fun _ _ => rfl⟩
 generalize W1.drew = y6 at *
 refine D.zH (is := [0, 1, 2, 3, 4, 5, 6, 7, 8, 9, 10, 11]) ?_
 iterate 12
  refine D.yH (v := ?_) rfl (by kernel_rfl) (fun c a w h => h) (by rfl) ?_ hHeld ?_
  rotate_left
  ·(intro w hSw; (try dsimp only at hSw); go_simp; try with_reducible rfl)
  simp only [D.pts]
 refine D.eH ?_
 refine wpAnyH_done (by kernel_rfl) ?_ _
 clear hHeld
 go_upto_region 9 with fail
 have hS9 : y6.drew.cell? ⟨g, 6, none⟩ = some (.map (some q.mp)) /\ y6.drew.cell? ⟨W.heap.size, 1, none⟩ = some (.string r.at_.t) /\ (Instr.lookup 94 (.map (some q.mp)) (.string r.at_.t) true).run Tryz.prog y6.drew = .ok (.tuple #[.int .i64 0, .bool false]) y6.drew := ⟨(rd_cells hR.blk).2.2.2.2.2.2.1, (HBX.out _ hBr).2.1, HLP.out _ (hBr.trans ⟨rfl, rfl, rfl, Nat.le_refl _, fun _ _ => rfl⟩)⟩
 refine wp_region_held_drew (S := fun wz : World => wz.cell? ⟨g, 6, none⟩ = some (.map (some q.mp)) /\ wz.cell? ⟨W.heap.size, 1, none⟩ = some (.string r.at_.t) /\ (Instr.lookup 94 (.map (some q.mp)) (.string r.at_.t) true).run Tryz.prog wz = .ok (.tuple #[.int .i64 0, .bool false]) wz) (by kernel_rfl) hS9 (fun hHeld => ?_)
 clear hS9
 replace hR : RS W0 pm g e y6.drew r q := hR.next ⟨rfl, rfl, rfl, Nat.le_refl _, fun _ _ => rfl⟩
 replace hBr : Below W1.heap.size W1 y6.drew := hBr.trans ⟨rfl, rfl, rfl, Nat.le_refl _, fun _ _ => rfl⟩
 generalize y6.drew = y9 at *
 refine D.zH (is := [0, 1, 2, 3, 4, 5, 6, 7, 8, 9, 10, 11]) ?_
 iterate 12
  refine D.yH (v := ?_) rfl (by kernel_rfl) (fun c a w h => h) (by rfl) ?_ hHeld ?_
  rotate_left
  ·(intro w hSw; (try dsimp only at hSw); go_simp; try with_reducible rfl)
  simp only [D.pts]
 refine D.eH ?_
 refine wpAnyH_done (by kernel_rfl) ?_ _
 clear hHeld
 have HRS := hid (fun w => reserved_any r.at_.t w)
 rw [hre] at HRS
 have HM := hid (fun w => must_true r.at_ 104 w)
 have HM2 := hid (fun w => must_false r.at_ 103 w)
 unfold tkc at HM HM2
 have HR := hid hR
 have HBr := hid hBr
 clear hre HLN HLP Hb hR hBr
 go_upto_region 12 with fail
 have hS12 : y9.drew.cell? ⟨W.heap.size, 0, none⟩ = some (.int .i64 r.at_.k) /\ y9.drew.cell? ⟨W.heap.size, 1, none⟩ = some (.string r.at_.t) /\ y9.drew.cell? ⟨W.heap.size, 2, none⟩ = some (.int .u16 r.at_.v) /\ y9.drew.cell? ⟨W.heap.size, 3, none⟩ = some (.int .i64 r.at_.p.1) /\ y9.drew.cell? ⟨W.heap.size, 4, none⟩ = some (.int .i64 r.at_.p.2) := HBX.out _ (HBr.out.trans ⟨rfl, rfl, rfl, Nat.le_refl _, fun _ _ => rfl⟩)
 refine wp_region_held_drew (S := fun wz : World => wz.cell? ⟨W.heap.size, 0, none⟩ = some (.int .i64 r.at_.k) /\ wz.cell? ⟨W.heap.size, 1, none⟩ = some (.string r.at_.t) /\ wz.cell? ⟨W.heap.size, 2, none⟩ = some (.int .u16 r.at_.v) /\ wz.cell? ⟨W.heap.size, 3, none⟩ = some (.int .i64 r.at_.p.1) /\ wz.cell? ⟨W.heap.size, 4, none⟩ = some (.int .i64 r.at_.p.2)) (by kernel_rfl) hS12 (fun hHeld => ?_)
 clear hS12
 have hR : RS W0 pm g e y9.drew r q := HR.out.next ⟨rfl, rfl, rfl, Nat.le_refl _, fun _ _ => rfl⟩
 have hBr : Below W1.heap.size W1 y9.drew := HBr.out.trans ⟨rfl, rfl, rfl, Nat.le_refl _, fun _ _ => rfl⟩
 clear HR HBr
 generalize y9.drew = y0 at *
 refine D.zH (is := [0, 1, 4]) ?_
 iterate 3
  refine D.yH (v := ?_) rfl (by kernel_rfl) (fun c a w h => h) (by rfl) ?_ hHeld ?_
  rotate_left
  ·(intro w hSw; (try dsimp only at hSw); go_simp; try with_reducible rfl)
  simp only [D.pts]
 refine D.eH ?_
 refine wpAnyH_ready (rs := [2]) (by kernel_rfl) (by simp) ?_
 refine AllReadyH.cons rfl (fun K hK => ?_) AllReadyH.nil
 rw [if_pos (by rfl)]
 go_simp
 refine (HRS.out y0).mono ?_
 rintro e' y1 ⟨rfl, hb1⟩
 replace hR := hR.next hb1
 replace hBr := hBr.trans (hb1.mono hBr.size)
 refine hK.out _ _ (HBX.out _ hBr) (fun hHeld => ?_)
 clear hK K
 try simp only [D.pts]
 refine D.xH 3 (v := ?_) rfl (by kernel_rfl) (fun c a w h => h) (by rfl) ?_ hHeld ?_
 rotate_left
 ·(intro w hSw; (try dsimp only at hSw); go_simp; try with_reducible rfl)
 simp only [D.pts]
 refine wpAnyH_ready (rs := [5]) (by kernel_rfl) (by simp) ?_
 refine AllReadyH.cons rfl (fun K hK => ?_) AllReadyH.nil
 rw [if_pos (by rfl)]
 go_simp
 refine (HM.out y1).mono ?_
 rintro e' y2 ⟨rfl, hb2⟩
 replace hR := hR.next hb2
 replace hBr := hBr.trans (hb2.mono hBr.size)
 refine hK.out _ _ (HBX.out _ hBr) (fun hHeld => ?_)
 clear hK K
 try simp only [D.pts]
 refine wpAnyH_done (by kernel_rfl) ?_ _
 obtain ⟨x0, x1, x2, x3, x4⟩ := HBX.out _ hBr
 have HR := hid hR
 clear hHeld hR hBr hb1 hb2 HM HRS HBX
 go_wp2_with fail
 refine (HM2.out y2).mono ?_
 rintro e' y3 ⟨rfl, hb3⟩
 exact ⟨rfl, ro_er rfl (HR.out.err hb3)⟩
theorem node_any (W0 : World) (pm : Px) (g : Nat) (e : Ps) (W : World) (r : Rd) (q : Rv) (h : RS W0 pm g e W r q) (hb : Bd r) :
  Calls Tryz.prog 107 #[.pointer (some ⟨g, 0, none⟩), .agg (tkc r.at_).toArray] W (RO W0 pm g e (fun _ => .tuple #[]) (node (lk pm.m) r)) := by
 unfold node
 cases hk : (r.at_.k == 2) with
 | true => rw [if_pos rfl]; exact node_lit W0 pm g e W r q h hb (by simpa using hk)
 | false =>
  rw [if_neg (by decide)]
  cases hc : ctl r.at_.t with
  | some f => exact node_ctl W0 pm g e W r q h hb hk f hc
  | none =>
   cases hn : known r r.at_.t with
   | true => exact node_call W0 pm g e W r q h hb hk hc hn
   | false =>
    cases hp : lk pm.m r.at_.t with
    | some zp => exact node_prim W0 pm g e W r q h hb hk hc hn zp hp
    | none =>
     cases hre : R.isRes r.at_.t with
     | true => exact node_res W0 pm g e W r q h hb hk hc hn hp hre
     | false => exact node_word W0 pm g e W r q h hb hk hc hn hp hre
end Go.Proofs.YtdnklgceghllaaaGreatDoor.D
