import Derived.Test.YtdnklgceghllaaaGreatDoorDMath
import Derived.Test.YtdnklgceghllaaaGreatDoorRMap
import Derived.Test.YtdnklgceghllaaaGreatDoorYBank
namespace Go.Proofs.YtdnklgceghllaaaGreatDoor.D
open Go.RowKit
open Go.Proofs
open Go.Proofs.YtdnklgceghllaaaGreatDoor.K (Tk)
open Go.Proofs.YtdnklgceghllaaaGreatDoor.Y (Nd Df Ps ndc dfc NV NA N1 ZV hid)
open Go.Proofs.YtdnklgceghllaaaGreatDoor.R (MP En numb)
set_option linter.unusedVariables false
set_option linter.unusedSimpArgs false
set_option maxRecDepth 100000
abbrev RD : TypeId := 97
abbrev DF : TypeId := 45
abbrev BK : TypeId := 63
def tkc (t : Tk) : List Value := [.int .i64 t.k, .string t.t, .int .u16 t.v, .int .i64 t.p.1, .int .i64 t.p.2]
theorem htk (t : Tk) : (tkc t).length = 5 := rfl
def flt (e : Er) : List PanicEntry := [{ v := .iface 92 (.agg #[.int .i64 e.1.1, .int .i64 e.1.2, .int .i64 e.2]), recovered := false }]
def okT (t : TypeId) : Bool := t != ND && t != RD && t != DF && t != BK && t != 5
structure Px where
 m : En
 x : List (Nat × List Value × TypeId)
structure Rv where
 rv : Value
 dv : Value
 xv : Value
 mn : Nat
 mp : Nat
 bv : Value
 ov : Value
 ys : Ys
 c : Nat -> Nat
 ws : List Value
 zs : List Value
def rdc (e : Ps) (r : Rd) (q : Rv) : List Value := [q.rv, .int .i64 e.1, .int .i64 e.2, q.dv, q.xv, .map (some q.mn), .map (some q.mp), .int .i64 r.at_.k, .string r.at_.t, .int .u16 r.at_.v, .int .i64 r.at_.p.1, .int .i64 r.at_.p.2, q.bv, q.ov, .bool r.ended]
def dcs : List Df -> List Value -> List Value
 | d :: l, w :: ws => dfc d w ++ dcs l ws
 | _, _ => []
def bcs : List (Int × List UInt8) -> List Value -> List Value
 | b :: l, w :: ws => [.int .i64 b.1, w] ++ bcs l ws
 | _, _ => []
structure RS (W0 : World) (pm : Px) (g : Nat) (e : Ps) (W : World) (r : Rd) (q : Rv) : Prop where
 old : W0.heap.size <= g
 bel : Below W0.heap.size W0 W
 blk : W.heap[g]? = some (.cells (rdc e r q).toArray RD (0, 0))
 rest : S.Ls tkc 5 W0 q.rv r.rest
 known : MP W q.mn (numb (r.defs.map (·.nm)) 0)
 prims : MP W q.mp pm.m
 hmn : q.mn ≠ g /\ W0.heap.size <= q.mn
 hmp : q.mp ≠ g
 mkp : q.mn ≠ q.mp
 ns : NS W q.c q.bv q.ov r.body r.opn q.ys
 cg : ∀ b, q.c b ≠ 0 -> g < b
 drow : W.ownsRow (g + 1) DF 6 q.dv r.defs.length (dcs r.defs q.ws)
 dlen : q.ws.length = r.defs.length
 dnv : ∀ (i : Nat) (d : Df) (w : Value), r.defs[i]? = some d -> q.ws[i]? = some w -> NV W (fun b => q.c b = 1) w d.body
 brow : W.ownsRow (g + 1) BK 2 q.xv r.banks.length (bcs r.banks q.zs)
 blen : q.zs.length = r.banks.length
 bdat : ∀ (i : Nat) (d : Int × List UInt8) (w : Value), r.banks[i]? = some d -> q.zs[i]? = some w -> W.ownsRow (g + 1) 5 1 w d.2.length (d.2.map fun x => .int .u8 (x.toNat : Int))
 ex : ∀ x ∈ pm.x, okT x.2.2 = true /\ W.heap[x.1]? = some (.cells x.2.1.toArray x.2.2 (0, 0))
theorem okT_ne {t : TypeId} (h : okT t = true) : t ≠ ND /\ t ≠ RD /\ t ≠ DF /\ t ≠ BK /\ t ≠ 5 := by
 unfold okT at h
 simp only [Bool.and_eq_true, bne_iff_ne, ne_eq] at h
 exact ⟨h.1.1.1.1, h.1.1.1.2, h.1.1.2, h.1.2, h.2⟩
theorem ty_ne {W : World} {b b' : Nat} {c : Array Value} {c' : Array Value} {t t' : TypeId} {m m' : Nat × Nat} (h : W.heap[b]? = some (.cells c t m)) (h' : W.heap[b']? = some (.cells c' t' m')) (ne : t ≠ t') : b ≠ b' := by
 rintro rfl
 rw [h] at h'
 simp only [Option.some.injEq, Obj.cells.injEq] at h'
 exact ne h'.2.1
theorem ex_kept {pm : Px} {W W' : World} (h : ∀ x ∈ pm.x, okT x.2.2 = true /\ W.heap[x.1]? = some (.cells x.2.1.toArray x.2.2 (0, 0))) {g : Nat} {c : Array Value} {t : TypeId} {m : Nat × Nat} (hg : W.heap[g]? = some (.cells c t m)) (ht : okT t = false) (ho : ∀ b, b < W.heap.size -> b ≠ g -> W'.heap[b]? = W.heap[b]?) : ∀ x ∈ pm.x, okT x.2.2 = true /\ W'.heap[x.1]? = some (.cells x.2.1.toArray x.2.2 (0, 0)) := fun x hx => by
 obtain ⟨h1, h2⟩ := h x hx
 exact ⟨h1, (ho x.1 (Array.getElem?_eq_some_iff.1 h2).1 (ty_ne h2 hg (by rintro e; rw [e, ht] at h1; cases h1))).trans h2⟩
theorem RS.lt {W0 : World} {pm : Px} {g : Nat} {e : Ps} {W : World} {r : Rd} {q : Rv} (h : RS W0 pm g e W r q) : g < W.heap.size := (Array.getElem?_eq_some_iff.1 h.blk).1
theorem RS.next {W0 : World} {pm : Px} {g : Nat} {e : Ps} {W W' : World} {r : Rd} {q : Rv} (h : RS W0 pm g e W r q) (b : Below W.heap.size W W') : RS W0 pm g e W' r q := by
 have hl := h.lt
 have hold := h.old
 refine ⟨h.old, h.bel.trans (b.mono (by omega)), (b.block g hl).trans h.blk, h.rest, h.known.kept (b.block _ h.known.lt), h.prims.kept (b.block _ h.prims.lt), h.hmn, h.hmp, h.mkp, h.ns.below b, h.cg, S.own_kept h.drow (fun k _ hk => b.block k hk), h.dlen, fun i d w hd hw => (h.dnv i d w hd hw).kept (fun k hk => b.block k (h.ns.lt k (by omega))) (fun _ hk => hk), S.own_kept h.brow (fun k _ hk => b.block k hk), h.blen, fun i d w hd hw => S.own_kept (h.bdat i d w hd hw) (fun k _ hk => b.block k hk), fun x hx => ⟨(h.ex x hx).1, (b.block _ (Array.getElem?_eq_some_iff.1 (h.ex x hx).2).1).trans (h.ex x hx).2⟩⟩
def Bx (W0 : World) (pm : Px) (w' : World) : Prop := Below W0.heap.size W0 w' /\ ∀ x ∈ pm.x, okT x.2.2 = true /\ w'.heap[x.1]? = some (.cells x.2.1.toArray x.2.2 (0, 0))
theorem Bx.sub {W0 : World} {pm : Px} {a : Nat × List Value × TypeId} {w' : World} (h : Bx W0 { pm with x := a :: pm.x } w') : Bx W0 pm w' := ⟨h.1, fun x hx => h.2 x (List.mem_cons_of_mem _ hx)⟩
structure RC (W0 : World) (pm : Px) (g : Nat) (e : Ps) (W : World) (r : Rd) (q : Rv) : Prop where
 old : W0.heap.size <= g
 bel : Below W0.heap.size W0 W
 blk : W.heap[g]? = some (.cells (rdc e r q).toArray RD (0, 0))
 rest : S.Ls tkc 5 W0 q.rv r.rest
 known : MP W q.mn (numb (r.defs.map (·.nm)) 0)
 prims : MP W q.mp pm.m
 hmn : q.mn ≠ g /\ W0.heap.size <= q.mn
 hmp : q.mp ≠ g
 mkp : q.mn ≠ q.mp
 ty : ∀ b, q.c b ≠ 0 -> ∃ cs, W.heap[b]? = some (.cells cs ND (0, 0))
 cg : ∀ b, q.c b ≠ 0 -> g < b
 drow : W.ownsRow (g + 1) DF 6 q.dv r.defs.length (dcs r.defs q.ws)
 dlen : q.ws.length = r.defs.length
 dnv : ∀ (i : Nat) (d : Df) (w : Value), r.defs[i]? = some d -> q.ws[i]? = some w -> NV W (fun b => q.c b = 1) w d.body
 brow : W.ownsRow (g + 1) BK 2 q.xv r.banks.length (bcs r.banks q.zs)
 blen : q.zs.length = r.banks.length
 bdat : ∀ (i : Nat) (d : Int × List UInt8) (w : Value), r.banks[i]? = some d -> q.zs[i]? = some w -> W.ownsRow (g + 1) 5 1 w d.2.length (d.2.map fun x => .int .u8 (x.toNat : Int))
 ex : ∀ x ∈ pm.x, okT x.2.2 = true /\ W.heap[x.1]? = some (.cells x.2.1.toArray x.2.2 (0, 0))
theorem RS.core {W0 : World} {pm : Px} {g : Nat} {e : Ps} {W : World} {r : Rd} {q : Rv} (h : RS W0 pm g e W r q) : RC W0 pm g e W r q :=
 ⟨h.old, h.bel, h.blk, h.rest, h.known, h.prims, h.hmn, h.hmp, h.mkp, h.ns.ty, h.cg, h.drow, h.dlen, h.dnv, h.brow, h.blen, h.bdat, h.ex⟩
theorem RC.live {W0 : World} {pm : Px} {g : Nat} {e : Ps} {W : World} {r : Rd} {q : Rv} (h : RC W0 pm g e W r q) (hn : NS W q.c q.bv q.ov r.body r.opn q.ys) : RS W0 pm g e W r q :=
 ⟨h.old, h.bel, h.blk, h.rest, h.known, h.prims, h.hmn, h.hmp, h.mkp, hn, h.cg, h.drow, h.dlen, h.dnv, h.brow, h.blen, h.bdat, h.ex⟩
theorem RC.lt {W0 : World} {pm : Px} {g : Nat} {e : Ps} {W : World} {r : Rd} {q : Rv} (h : RC W0 pm g e W r q) : g < W.heap.size := (Array.getElem?_eq_some_iff.1 h.blk).1
theorem RC.clt {W0 : World} {pm : Px} {g : Nat} {e : Ps} {W : World} {r : Rd} {q : Rv} (h : RC W0 pm g e W r q) (b : Nat) (hb : q.c b ≠ 0) : b < W.heap.size := by
 obtain ⟨cs, hc⟩ := h.ty b hb
 exact (Array.getElem?_eq_some_iff.1 hc).1
theorem RC.next {W0 : World} {pm : Px} {g : Nat} {e : Ps} {W W' : World} {r : Rd} {q : Rv} (h : RC W0 pm g e W r q) (b : Below W.heap.size W W') : RC W0 pm g e W' r q := by
 have hl := h.lt
 have hold := h.old
 refine ⟨h.old, h.bel.trans (b.mono (by omega)), (b.block g hl).trans h.blk, h.rest, h.known.kept (b.block _ h.known.lt), h.prims.kept (b.block _ h.prims.lt), h.hmn, h.hmp, h.mkp, fun k hk => by rw [b.block k (h.clt k hk)]; exact h.ty k hk, h.cg, S.own_kept h.drow (fun k _ hk => b.block k hk), h.dlen, fun i d w hd hw => (h.dnv i d w hd hw).kept (fun k hk => b.block k (h.clt k (by omega))) (fun _ hk => hk), S.own_kept h.brow (fun k _ hk => b.block k hk), h.blen, fun i d w hd hw => S.own_kept (h.bdat i d w hd hw) (fun k _ hk => b.block k hk), fun x hx => ⟨(h.ex x hx).1, (b.block _ (Array.getElem?_eq_some_iff.1 (h.ex x hx).2).1).trans (h.ex x hx).2⟩⟩
theorem RC.err {W0 : World} {pm : Px} {g : Nat} {e : Ps} {W w' : World} {r : Rd} {q : Rv} (h : RC W0 pm g e W r q) (hb : Below W.heap.size W w') : Bx W0 pm w' := ⟨h.bel.trans (hb.mono (by have := h.lt; have := h.old; omega)), (h.next hb).ex⟩
theorem RS.own {W0 : World} {pm : Px} {g : Nat} {e : Ps} {W : World} {r r' : Rd} {q q' : Rv} (h : RS W0 pm g e W r q) (j : Nat) (x : Value) (hx : (rdc e r q).set j x = rdc e r' q')
  (h1 : r'.defs = r.defs) (h2 : r'.banks = r.banks) (h3 : r'.body = r.body) (h4 : r'.opn = r.opn) (hr : S.Ls tkc 5 W0 q'.rv r'.rest)
  (k1 : q'.dv = q.dv) (k2 : q'.xv = q.xv) (k3 : q'.mn = q.mn) (k4 : q'.mp = q.mp) (k5 : q'.bv = q.bv) (k6 : q'.ov = q.ov) (k7 : q'.ys = q.ys) (k8 : q'.c = q.c) (k9 : q'.ws = q.ws) (k10 : q'.zs = q.zs) : RS W0 pm g e (W.setCell ⟨g, j, none⟩ x) r' q' := by
 have ho : ∀ b, b ≠ g -> (W.setCell ⟨g, j, none⟩ x).heap[b]? = W.heap[b]? := fun b hb => heap_setCell_other W ⟨g, j, none⟩ b x hb
 have hm := h.hmn
 have hp := h.hmp
 have hob : ∀ {t : TypeId} {s n : Nat} {v : Value} {xs : List Value}, W.ownsRow (g + 1) t s v n xs -> (W.setCell ⟨g, j, none⟩ x).ownsRow (g + 1) t s v n xs := fun hh => S.own_kept hh (fun k e hk => ho k (by have := (hh.lt k e).1; omega))
 have hset : (W.setCell ⟨g, j, none⟩ x).heap[g]? = some (.cells ((rdc e r q).set j x).toArray RD (0, 0)) := by
  have := heap_setCell_same W g j _ _ x h.blk
  rw [this]
  simp
 refine ⟨h.old, h.bel.setCell (p := ⟨g, j, none⟩) h.old _, by rw [hset, hx], hr, ?_, ?_, by rw [k3]; exact hm, by rw [k4]; exact hp, by rw [k3, k4]; exact h.mkp, ?_, ?_, ?_, ?_, ?_, ?_, ?_, ?_, ex_kept h.ex h.blk (by decide) (fun b _ hb => ho b hb)⟩
 ·rw [k3, h1]; exact h.known.kept (ho _ (by omega))
 ·rw [k4]; exact h.prims.kept (ho _ (by omega))
 ·rw [k8, k5, k6, k7, h3, h4]; exact h.ns.kept (fun b hb => ho b (by have := h.cg b hb; omega))
 ·rw [k8]; exact h.cg
 ·rw [k1, k9, h1]; exact hob h.drow
 ·rw [k9, h1]; exact h.dlen
 ·rw [k9, h1, k8]; exact fun i d w hd hw => (h.dnv i d w hd hw).kept (fun k hk => ho k (by have := h.cg k (by omega); omega)) (fun _ hk => hk)
 ·rw [k2, k10, h2]; exact hob h.brow
 ·rw [k10, h2]; exact h.blen
 ·rw [k10, h2]; exact fun i d w hd hw => hob (h.bdat i d w hd hw)
def RO (W0 : World) (pm : Px) (g : Nat) (e : Ps) (val : Rd -> Value) (res : Re) (en : Ending) (w' : World) : Prop :=
 match res with
 | .ok r => en = .returned (val r) /\ ∃ q, RS W0 pm g e w' r q
 | .error er => en = .panicked (flt er) /\ Bx W0 pm w'
def ROc (W0 : World) (pm : Px) (g : Nat) (e : Ps) (val : Rd -> Value) (res : Re) (en : Ending) (w' : World) : Prop :=
 match res with
 | .ok r => en = .returned (val r) /\ ∃ q, RC W0 pm g e w' r q
 | .error er => en = .panicked (flt er) /\ Bx W0 pm w'
theorem roc_ok {W0 : World} {pm : Px} {g : Nat} {e : Ps} {val : Rd -> Value} {r : Rd} {en : Ending} {w' : World} (h1 : en = .returned (val r)) (h2 : ∃ q, RC W0 pm g e w' r q) : ROc W0 pm g e val (.ok r) en w' := ⟨h1, h2⟩
theorem roc_er {W0 : World} {pm : Px} {g : Nat} {e : Ps} {val : Rd -> Value} {er : Er} {en : Ending} {w' : World} (h1 : en = .panicked (flt er)) (h2 : Bx W0 pm w') : ROc W0 pm g e val (.error er) en w' := ⟨h1, h2⟩
theorem must_true (t : Tk) (e : Int) (W : World) : Calls Tryz.prog 80 #[.bool true, .agg (tkc t).toArray, .int .i64 e] W fun r w' => r = .returned (.tuple #[]) /\ Below W.heap.size W w' := by
 unfold tkc
 go_enter Tryz.func80, Tryz.ntmps80
 go_wp2
 go_end0
 exact ⟨rfl, (Below.refl _ _).alloc (Nat.le_refl _) _⟩
theorem must_false (t : Tk) (e : Int) (W : World) : Calls Tryz.prog 80 #[.bool false, .agg (tkc t).toArray, .int .i64 e] W fun r w' => r = .panicked (flt (t.p, e)) /\ Below W.heap.size W w' := by
 obtain ⟨W1, hW1⟩ : ∃ W1, W.alloc (.cells #[.int .i64 t.k, .string t.t, .int .u16 t.v, .int .i64 t.p.1, .int .i64 t.p.2] 53) = W1 := ⟨_, rfl⟩
 have v1 : W1.heap[W.heap.size]? = some (.cells (tkc t).toArray 53 (0, 0)) := by rw [<- hW1]; exact heap_alloc_new W _
 have HB := hid (show Below W.heap.size W W1 by rw [<- hW1]; exact (Below.refl _ _).alloc (Nat.le_refl _) _)
 have x0 := S.cell_of W1 _ 3 _ 53 _ v1 rfl
 have x1 := S.cell_of W1 _ 4 _ 53 _ v1 rfl
 clear v1
 unfold flt tkc
 go_enter Tryz.func80, Tryz.ntmps80
 go_wp2
 exact ⟨rfl, rfl, HB.out⟩
set_option maxHeartbeats 4000000
set_option maxRecDepth 100000
theorem isW_eq {s : ByteArray} {l : List UInt8} (h : isW s l = true) : s = ⟨l.toArray⟩ := by
 have h1 := eq_of_beq h
 cases s
 simp at h1
 rw [<- h1]
theorem isW_no {s : ByteArray} {l : List UInt8} (h : isW s l = false) : (s.toList == l) = false := by
 rw [ByteArray.toList_eq]
 exact h
theorem isW_yes {s : ByteArray} {l : List UInt8} (h : isW s l = true) : (s.toList == l) = true := by
 rw [ByteArray.toList_eq]
 exact h
theorem eqIn_fn (W : World) (d fn : Nat) (xs ys : Array Value) : (Op.equalIn (d + 1) 1 (.func (.func fn) xs ys) .nilFunc).run Tryz.prog W = .ok false W := by
 simp [Op.equalIn, run_underlying Tryz.underlying1]
theorem eqIn_nil (W : World) (d : Nat) : (Op.equalIn (d + 1) 1 .nilFunc .nilFunc).run Tryz.prog W = .ok true W := by
 simp [Op.equalIn, run_underlying Tryz.underlying1]
theorem neq_fn (W : World) (fn : Nat) (xs ys : Array Value) : (binOp .neq 1 (.func (.func fn) xs ys) .nilFunc).run Tryz.prog W = .ok (.bool true) W := by
 have h := eqIn_fn W 9999 fn xs ys
 simp only [binOp, Op.equal, Sem.run_bind, Sem.run_pure]
 rw [show Op.maxDepth = 9999 + 1 from rfl, h]
 rfl
theorem neq_nil (W : World) : (binOp .neq 1 .nilFunc .nilFunc).run Tryz.prog W = .ok (.bool false) W := by
 have h := eqIn_nil W 9999
 simp only [binOp, Op.equal, Sem.run_bind, Sem.run_pure]
 rw [show Op.maxDepth = 9999 + 1 from rfl, h]
 rfl
def cvl (g : Nat) (s : ByteArray) : Value :=
 if isW s [105, 102] then .func (.func 214) #[.pointer (some ⟨g, 0, none⟩)] #[] else
 if isW s [101, 108, 115, 101] then .func (.func 215) #[.pointer (some ⟨g, 0, none⟩)] #[] else
 if isW s [116, 104, 101, 110] then .func (.func 216) #[.pointer (some ⟨g, 0, none⟩)] #[] else
 if isW s [98, 101, 103, 105, 110] then .func (.func 217) #[.pointer (some ⟨g, 0, none⟩)] #[] else
 if isW s [117, 110, 116, 105, 108] then .func (.func 218) #[.pointer (some ⟨g, 0, none⟩)] #[] else
 if isW s [97, 103, 97, 105, 110] then .func (.func 219) #[.pointer (some ⟨g, 0, none⟩)] #[] else
 if isW s [119, 104, 105, 108, 101] then .func (.func 220) #[.pointer (some ⟨g, 0, none⟩)] #[] else
 if isW s [114, 101, 112, 101, 97, 116] then .func (.func 221) #[.pointer (some ⟨g, 0, none⟩)] #[] else
 if isW s [100, 111] then .func (.func 222) #[.pointer (some ⟨g, 0, none⟩)] #[] else
 if isW s [108, 111, 111, 112] then .func (.func 223) #[.pointer (some ⟨g, 0, none⟩)] #[] else
 if isW s [101, 120, 105, 116] then .func (.func 224) #[.pointer (some ⟨g, 0, none⟩)] #[] else
 if isW s [59] then .func (.func 225) #[.pointer (some ⟨g, 0, none⟩)] #[] else .nilFunc
theorem con_0 (g : Nat) (W : World) : Calls Tryz.prog 145 #[.pointer (some ⟨g, 0, none⟩), .string ⟨#[105, 102]⟩] W fun en w' => en = .returned (.func (.func 214) #[.pointer (some ⟨g, 0, none⟩)] #[]) /\ w' = W := by
 go_enter Tryz.func145, Tryz.ntmps145
 go_wp2
 go_ret
 exact ⟨rfl, rfl⟩
theorem con_1 (g : Nat) (W : World) : Calls Tryz.prog 145 #[.pointer (some ⟨g, 0, none⟩), .string ⟨#[101, 108, 115, 101]⟩] W fun en w' => en = .returned (.func (.func 215) #[.pointer (some ⟨g, 0, none⟩)] #[]) /\ w' = W := by
 go_enter Tryz.func145, Tryz.ntmps145
 go_wp2
 go_ret
 exact ⟨rfl, rfl⟩
theorem con_2 (g : Nat) (W : World) : Calls Tryz.prog 145 #[.pointer (some ⟨g, 0, none⟩), .string ⟨#[116, 104, 101, 110]⟩] W fun en w' => en = .returned (.func (.func 216) #[.pointer (some ⟨g, 0, none⟩)] #[]) /\ w' = W := by
 go_enter Tryz.func145, Tryz.ntmps145
 go_wp2
 go_ret
 exact ⟨rfl, rfl⟩
theorem con_3 (g : Nat) (W : World) : Calls Tryz.prog 145 #[.pointer (some ⟨g, 0, none⟩), .string ⟨#[98, 101, 103, 105, 110]⟩] W fun en w' => en = .returned (.func (.func 217) #[.pointer (some ⟨g, 0, none⟩)] #[]) /\ w' = W := by
 go_enter Tryz.func145, Tryz.ntmps145
 go_wp2
 go_ret
 exact ⟨rfl, rfl⟩
theorem con_4 (g : Nat) (W : World) : Calls Tryz.prog 145 #[.pointer (some ⟨g, 0, none⟩), .string ⟨#[117, 110, 116, 105, 108]⟩] W fun en w' => en = .returned (.func (.func 218) #[.pointer (some ⟨g, 0, none⟩)] #[]) /\ w' = W := by
 go_enter Tryz.func145, Tryz.ntmps145
 go_wp2
 go_ret
 exact ⟨rfl, rfl⟩
theorem con_5 (g : Nat) (W : World) : Calls Tryz.prog 145 #[.pointer (some ⟨g, 0, none⟩), .string ⟨#[97, 103, 97, 105, 110]⟩] W fun en w' => en = .returned (.func (.func 219) #[.pointer (some ⟨g, 0, none⟩)] #[]) /\ w' = W := by
 go_enter Tryz.func145, Tryz.ntmps145
 go_wp2
 go_ret
 exact ⟨rfl, rfl⟩
theorem con_6 (g : Nat) (W : World) : Calls Tryz.prog 145 #[.pointer (some ⟨g, 0, none⟩), .string ⟨#[119, 104, 105, 108, 101]⟩] W fun en w' => en = .returned (.func (.func 220) #[.pointer (some ⟨g, 0, none⟩)] #[]) /\ w' = W := by
 go_enter Tryz.func145, Tryz.ntmps145
 go_wp2
 go_ret
 exact ⟨rfl, rfl⟩
theorem con_7 (g : Nat) (W : World) : Calls Tryz.prog 145 #[.pointer (some ⟨g, 0, none⟩), .string ⟨#[114, 101, 112, 101, 97, 116]⟩] W fun en w' => en = .returned (.func (.func 221) #[.pointer (some ⟨g, 0, none⟩)] #[]) /\ w' = W := by
 go_enter Tryz.func145, Tryz.ntmps145
 go_wp2
 go_ret
 exact ⟨rfl, rfl⟩
theorem con_8 (g : Nat) (W : World) : Calls Tryz.prog 145 #[.pointer (some ⟨g, 0, none⟩), .string ⟨#[100, 111]⟩] W fun en w' => en = .returned (.func (.func 222) #[.pointer (some ⟨g, 0, none⟩)] #[]) /\ w' = W := by
 go_enter Tryz.func145, Tryz.ntmps145
 go_wp2
 go_ret
 exact ⟨rfl, rfl⟩
theorem con_9 (g : Nat) (W : World) : Calls Tryz.prog 145 #[.pointer (some ⟨g, 0, none⟩), .string ⟨#[108, 111, 111, 112]⟩] W fun en w' => en = .returned (.func (.func 223) #[.pointer (some ⟨g, 0, none⟩)] #[]) /\ w' = W := by
 go_enter Tryz.func145, Tryz.ntmps145
 go_wp2
 go_ret
 exact ⟨rfl, rfl⟩
theorem con_10 (g : Nat) (W : World) : Calls Tryz.prog 145 #[.pointer (some ⟨g, 0, none⟩), .string ⟨#[101, 120, 105, 116]⟩] W fun en w' => en = .returned (.func (.func 224) #[.pointer (some ⟨g, 0, none⟩)] #[]) /\ w' = W := by
 go_enter Tryz.func145, Tryz.ntmps145
 go_wp2
 go_ret
 exact ⟨rfl, rfl⟩
theorem con_11 (g : Nat) (W : World) : Calls Tryz.prog 145 #[.pointer (some ⟨g, 0, none⟩), .string ⟨#[59]⟩] W fun en w' => en = .returned (.func (.func 225) #[.pointer (some ⟨g, 0, none⟩)] #[]) /\ w' = W := by
 go_enter Tryz.func145, Tryz.ntmps145
 go_wp2
 go_ret
 exact ⟨rfl, rfl⟩
theorem con_none (g : Nat) (s : ByteArray) (W : World) (h0 : isW s [105, 102] = false) (h1 : isW s [101, 108, 115, 101] = false) (h2 : isW s [116, 104, 101, 110] = false) (h3 : isW s [98, 101, 103, 105, 110] = false) (h4 : isW s [117, 110, 116, 105, 108] = false) (h5 : isW s [97, 103, 97, 105, 110] = false) (h6 : isW s [119, 104, 105, 108, 101] = false) (h7 : isW s [114, 101, 112, 101, 97, 116] = false) (h8 : isW s [100, 111] = false) (h9 : isW s [108, 111, 111, 112] = false) (h10 : isW s [101, 120, 105, 116] = false) (h11 : isW s [59] = false) : Calls Tryz.prog 145 #[.pointer (some ⟨g, 0, none⟩), .string s] W fun en w' => en = .returned .nilFunc /\ w' = W := by
 replace h0 := isW_no h0
 replace h1 := isW_no h1
 replace h2 := isW_no h2
 replace h3 := isW_no h3
 replace h4 := isW_no h4
 replace h5 := isW_no h5
 replace h6 := isW_no h6
 replace h7 := isW_no h7
 replace h8 := isW_no h8
 replace h9 := isW_no h9
 replace h10 := isW_no h10
 replace h11 := isW_no h11
 go_enter Tryz.func145, Tryz.ntmps145
 go_wp2
 go_ret
 exact ⟨rfl, rfl⟩
theorem control_any (g : Nat) (s : ByteArray) (W : World) : Calls Tryz.prog 145 #[.pointer (some ⟨g, 0, none⟩), .string s] W fun en w' => en = .returned (cvl g s) /\ w' = W := by
 unfold cvl
 cases h0 : isW s [105, 102]
 rotate_left
 ·rw [if_pos rfl, isW_eq h0]; exact con_0 g W
 rw [if_neg (by decide)]
 cases h1 : isW s [101, 108, 115, 101]
 rotate_left
 ·rw [if_pos rfl, isW_eq h1]; exact con_1 g W
 rw [if_neg (by decide)]
 cases h2 : isW s [116, 104, 101, 110]
 rotate_left
 ·rw [if_pos rfl, isW_eq h2]; exact con_2 g W
 rw [if_neg (by decide)]
 cases h3 : isW s [98, 101, 103, 105, 110]
 rotate_left
 ·rw [if_pos rfl, isW_eq h3]; exact con_3 g W
 rw [if_neg (by decide)]
 cases h4 : isW s [117, 110, 116, 105, 108]
 rotate_left
 ·rw [if_pos rfl, isW_eq h4]; exact con_4 g W
 rw [if_neg (by decide)]
 cases h5 : isW s [97, 103, 97, 105, 110]
 rotate_left
 ·rw [if_pos rfl, isW_eq h5]; exact con_5 g W
 rw [if_neg (by decide)]
 cases h6 : isW s [119, 104, 105, 108, 101]
 rotate_left
 ·rw [if_pos rfl, isW_eq h6]; exact con_6 g W
 rw [if_neg (by decide)]
 cases h7 : isW s [114, 101, 112, 101, 97, 116]
 rotate_left
 ·rw [if_pos rfl, isW_eq h7]; exact con_7 g W
 rw [if_neg (by decide)]
 cases h8 : isW s [100, 111]
 rotate_left
 ·rw [if_pos rfl, isW_eq h8]; exact con_8 g W
 rw [if_neg (by decide)]
 cases h9 : isW s [108, 111, 111, 112]
 rotate_left
 ·rw [if_pos rfl, isW_eq h9]; exact con_9 g W
 rw [if_neg (by decide)]
 cases h10 : isW s [101, 120, 105, 116]
 rotate_left
 ·rw [if_pos rfl, isW_eq h10]; exact con_10 g W
 rw [if_neg (by decide)]
 cases h11 : isW s [59]
 rotate_left
 ·rw [if_pos rfl, isW_eq h11]; exact con_11 g W
 rw [if_neg (by decide)]
 exact con_none g s W h0 h1 h2 h3 h4 h5 h6 h7 h8 h9 h10 h11
end Go.Proofs.YtdnklgceghllaaaGreatDoor.D
