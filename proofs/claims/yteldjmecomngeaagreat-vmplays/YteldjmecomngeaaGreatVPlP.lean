import Derived.Test.YteldjmecomngeaaGreatVRFr8
import Derived.Test.YteldjmecomngeaaGreatVLSt
namespace Go.Proofs.YteldjmecomngeaaGreat.V
open Go.RowKit
open Go.Proofs
set_option linter.unusedVariables false
set_option linter.unusedSimpArgs false
set_option maxHeartbeats 8000000
set_option maxRecDepth 100000
structure PI (w0 W : World) (N : Nat -> Prop) (pp : Nat) (c : T.Ct) (kp : Option Addr) (kc : Nat) (ep : Option Addr) (ec : Nat) (bp : Option Addr) (bc : Nat) (tb : Nat) (p : Nat -> PM) (r : Nat -> RM) : Prop where
 q : PQ W N (mkO p r)
 blk : W.heap[pp]? = some (.cells [.slice kp c.code.length kc, .int .u16 (c.entry : Int), .slice ep c.effs.length ec, .slice bp c.banks.length bc, .pointer (some ⟨(p 0).g, 0, none⟩), .pointer (some ⟨(p 1).g, 0, none⟩), .pointer (some ⟨(r 0).g, 0, none⟩), .pointer (some ⟨(r 1).g, 0, none⟩)].toArray 87 (0, 0))
 e : ∀ i, i < 2 -> Em (p i).v (r i).v
 cd : ∀ i, i < 2 -> (p i).v.code = c.code
 gd : ∀ i, i < 2 -> Gd (fun n => (M.nbk c.banks n).isSome) (p i).v
 tn : ∀ i, i < 2 -> (p i).v.m.tones.length <= tb /\ (r i).v.m.tones.length <= tb
 pn : N pp
 n0 : w0.heap.size <= pp
 g0 : ∀ k, k < w0.heap.size -> N k
 bel : Below w0.heap.size w0 W
 hC : T.IsC w0 (.agg #[.slice kp c.code.length kc, .int .u16 (c.entry : Int), .slice ep c.effs.length ec, .slice bp c.banks.length bc]) c ep ec bp bc (.slice kp c.code.length kc)
 may : T.may c = true
 en : ep = none -> ec = 0
 kn : ∀ i, i < 2 -> ∀ k, ((p i).kv.ownBlock = some k \/ (r i).kv.ownBlock = some k) -> k ≠ pp
section
variable {w0 W W' : World} {N : Nat -> Prop} {pp : Nat} {c : T.Ct} {kp : Option Addr} {kc : Nat} {ep : Option Addr} {ec : Nat} {bp : Option Addr} {bc tb : Nat} {p : Nat -> PM} {r : Nat -> RM}
theorem PI.lt (h : PI w0 W N pp c kp kc ep ec bp bc tb p r) : pp < W.heap.size := S.lt_of h.blk
theorem PI.next (h : PI w0 W N pp c kp kc ep ec bp bc tb p r) (b : Below W.heap.size W W') : PI w0 W' N pp c kp kc ep ec bp bc tb p r :=
 { h with q := h.q.next b, blk := (b.block _ h.lt).trans h.blk, bel := h.bel.trans (b.mono h.bel.size) }
theorem PI.cm (h : PI w0 W N pp c kp kc ep ec bp bc tb p r) (i : Nat) (hi : i < 2) : W.cell? ⟨pp, 4 + i, none⟩ = some (.pointer (some ⟨(p i).g, 0, none⟩)) := by
 rcases (show i = 0 \/ i = 1 by omega) with rfl | rfl
 ·exact S.cell_of W pp 4 _ _ _ h.blk rfl
 ·exact S.cell_of W pp 5 _ _ _ h.blk rfl
theorem PI.cr (h : PI w0 W N pp c kp kc ep ec bp bc tb p r) (i : Nat) (hi : i < 2) : W.cell? ⟨pp, 6 + i, none⟩ = some (.pointer (some ⟨(r i).g, 0, none⟩)) := by
 rcases (show i = 0 \/ i = 1 by omega) with rfl | rfl
 ·exact S.cell_of W pp 6 _ _ _ h.blk rfl
 ·exact S.cell_of W pp 7 _ _ _ h.blk rfl
theorem PI.tcN (h : PQ W N (mkO p r)) (i : Nat) (hi : i < 4) (t : S.Tc (mkO p r i).S W W') : Kp N W W' := ⟨t.os, t.tape, t.output, t.size, fun k f => t.block k (h.nN k f) (fun e => h.lo i hi k e f)⟩
theorem PI.both (h : PI w0 W N pp c kp kc ep ec bp bc tb p r) (i : Nat) (hi : i < 2) {x : PM} {y : RM} (hq : PQ W' N (mkO (upP p i x) (upR r i y))) (b : Kp N W W') (hg : x.g = (p i).g) (hG : y.g = (r i).g) (hk : x.kv = (p i).kv) (hK : y.kv = (r i).kv) (he : Em x.v y.v) (hc : x.v.code = (p i).v.code) (hd : Gd (fun n => (M.nbk c.banks n).isSome) x.v) {tb' : Nat} (ht : tb <= tb') (h1 : x.v.m.tones.length <= tb') (h2 : y.v.m.tones.length <= tb') :
  PI w0 W' N pp c kp kc ep ec bp bc tb' (upP p i x) (upR r i y) := by
 have gp : ∀ j, (upP p i x j).g = (p j).g := fun j => by unfold upP; split <;> first | (rename_i e; rw [e]; exact hg) | rfl
 have gr : ∀ j, (upR r i y j).g = (r j).g := fun j => by unfold upR; split <;> first | (rename_i e; rw [e]; exact hG) | rfl
 refine ⟨hq, ?_, fun j hj => ?_, fun j hj => ?_, fun j hj => ?_, fun j hj => ?_, h.pn, h.n0, h.g0, h.bel.trans (b.below h.g0), h.hC, h.may, h.en, fun j hj k e => ?_⟩
 ·rw [b.block _ h.pn, h.blk, gp, gp, gr, gr]
 ·unfold upP upR
  by_cases e : j = i
  ·rw [if_pos e, if_pos e]; exact he
  ·rw [if_neg e, if_neg e]; exact h.e j hj
 ·unfold upP
  by_cases e : j = i
  ·rw [if_pos e, hc]; exact h.cd i hi
  ·rw [if_neg e]; exact h.cd j hj
 ·unfold upP
  by_cases e : j = i
  ·rw [if_pos e]; exact hd
  ·rw [if_neg e]; exact h.gd j hj
 ·unfold upP upR
  by_cases e : j = i
  ·rw [if_pos e, if_pos e]; exact ⟨h1, h2⟩
  ·rw [if_neg e, if_neg e]; exact ⟨Nat.le_trans (h.tn j hj).1 ht, Nat.le_trans (h.tn j hj).2 ht⟩
 ·unfold upP upR at e
  by_cases q : j = i
  ·rw [if_pos q, if_pos q, hk, hK] at e; exact h.kn i hi k e
  ·rw [if_neg q, if_neg q] at e; exact h.kn j hj k e
end
set_option maxHeartbeats 8000000
set_option maxRecDepth 100000
theorem turn_code (v : VS) : (turn v).v.code = v.code := by
 unfold turn
 split
 ·rfl
 ·split
  ·rfl
  ·split
   ·rfl
   ·split
    ·rfl
    ·split <;> rfl
theorem dn_code (op x be : Int) (v : VS) : (dn op x be v).v.code = v.code := by
 unfold dn
 split
 ·split <;> rfl
 ·split <;> rfl
 ·split <;> rfl
 ·rfl
 ·split <;> rfl
 ·split
  ·exact turn_code v
  ·exact turn_code v
 ·split
  ·rfl
  ·split <;> rfl
 ·rfl
 ·rfl
 ·unfold pl
  show (if _ then _ else _ : VS).code = _
  split <;> rfl
theorem step_code (v : VS) : (step v).2.code = v.code := by
 unfold step
 split
 ·split
  ·split
   ·unfold doo
    show (if _ then _ else _ : VS).code = _
    split
    ·exact dn_code _ _ _ _
    ·rfl
   ·rfl
  ·rfl
 ·rfl
theorem step_tones (v : VS) : (step v).2.m.tones.length <= v.m.tones.length + 3 := by
 have hd := doo_tones (look v).op (look v).x v
 unfold step
 split
 ·split
  ·split
   ·exact hd
   ·show v.m.tones.length <= _; omega
  ·show v.m.tones.length <= _; omega
 ·show v.m.tones.length <= _; omega
set_option maxHeartbeats 8000000
set_option maxRecDepth 100000
section
variable {w0 W W' : World} {N : Nat -> Prop} {pp : Nat} {c : T.Ct} {kp : Option Addr} {kc : Nat} {ep : Option Addr} {ec : Nat} {bp : Option Addr} {bc tb : Nat} {p : Nat -> PM} {r : Nat -> RM}
theorem PI.up (h : PI w0 W N pp c kp kc ep ec bp bc tb p r) {tb' : Nat} (ht : tb <= tb') : PI w0 W N pp c kp kc ep ec bp bc tb' p r := { h with tn := fun i hi => ⟨Nat.le_trans (h.tn i hi).1 ht, Nat.le_trans (h.tn i hi).2 ht⟩ }
theorem PI.two (h : PI w0 W N pp c kp kc ep ec bp bc tb p r) (i : Nat) (hi : i < 2) {W1 : World} {v v' : VS} (k : VD W W1 (p i).g (p i).bd (p i).br (p i).bm (p i).kv (p i).F v) (y : RY W1 W' (r i).g (r i).b (r i).kv (r i).F v') (he : Em v v') (hc : v.code = (p i).v.code) (hd : Gd (fun n => (M.nbk c.banks n).isSome) v) {tb' : Nat} (ht : tb <= tb') (h1 : v.m.tones.length <= tb') (h2 : v'.m.tones.length <= tb') :
  ∃ p' r', PI w0 W' N pp c kp kc ep ec bp bc tb' p' r' := by
 have hqb := h.q.prog i hi k
 obtain ⟨dv, rv, F2, hq⟩ := hqb.ref i hi y
 have b1 := PI.tcN h.q i (by omega) (by unfold mkO; rw [if_pos hi]; exact k.t)
 have b2 : Kp N W1 W' := PI.tcN hqb (i + 2) (by omega) (by
  have e : mkO (upP p i { p i with F := M.gr (p i).F W W1, v := v }) r (i + 2) = (r i).o := by unfold mkO; rw [if_neg (by omega), show i + 2 - 2 = i by omega]
  rw [e]; have t := y.t; exact ⟨t.os, t.tape, t.output, t.size, fun j hj hn => t.block j hj fun f => hn (f.elim .inl fun f => .inr (.inl f))⟩)
 exact ⟨_, _, h.both i hi hq (b1.trans b2) rfl rfl rfl rfl he hc hd ht h1 h2⟩
theorem RX.rd {g b : Nat} {kv dv rv : Value} {F : Nat -> Prop} {v : VS} {m : M.MS} (h : RX W g b kv dv rv F v) (k : M.RD W W' F b m) : RY W W' g b kv F { v with m := m } := by
 refine ⟨⟨dv, rv, M.gr F W W', fun j f => f.elim .inl fun f => .inr f.1, fun j e => ?_, h.goes k⟩, ⟨k.2.os, k.2.tape, k.2.output, k.2.size, fun j hj hn => k.2.block j hj fun f => hn (.inr f)⟩⟩
 rcases e with e | e
 ·exact .inr ⟨dv, .inl h.c4, e⟩
 ·exact .inr ⟨rv, .inr h.c5, e⟩
end
set_option maxHeartbeats 8000000
set_option maxRecDepth 100000
section
variable {w0 W W' : World} {N : Nat -> Prop} {pp : Nat} {c : T.Ct} {kp : Option Addr} {kc : Nat} {ep : Option Addr} {ec : Nat} {bp : Option Addr} {bc tb : Nat} {p : Nat -> PM} {r : Nat -> RM}
theorem PQ.pair (h : PQ W N (mkO p r)) (hp : N pp) (kn : ∀ i, i < 2 -> ∀ k, ((p i).kv.ownBlock = some k \/ (r i).kv.ownBlock = some k) -> k ≠ pp) (i : Nat) (u : Value) : PQ (W.setCell ⟨pp, i, none⟩ u) N (mkO p r) := by
 refine ⟨fun j hj => (mkO p r j).kept W _ (h.ok j hj) (by rw [S.setCell_size]; exact Nat.le_refl _) fun k hk e => S.setCell_other _ _ _ _ _ ?_, h.ap, h.kc, h.lo, fun k f => by rw [S.setCell_size]; exact h.nN k f⟩
 rcases e with e | e
 ·exact fun q => h.lo j hj k e (by rw [q]; exact hp)
 ·unfold mkO at e
  by_cases q : j < 2
  ·rw [if_pos q] at e; exact kn j q k (.inl e)
  ·rw [if_neg q] at e; exact kn (j - 2) (by omega) k (.inr e)
theorem PI.put (h : PI w0 W N pp c kp kc ep ec bp bc tb p r) (i : Nat) (hi : i < 2) {x : PM} {y : RM} (hq : PQ W' N (mkO (upP p i x) (upR r i y))) (hb : W'.heap[pp]? = some (.cells ((([.slice kp c.code.length kc, .int .u16 (c.entry : Int), .slice ep c.effs.length ec, .slice bp c.banks.length bc, .pointer (some ⟨(p 0).g, 0, none⟩), .pointer (some ⟨(p 1).g, 0, none⟩), .pointer (some ⟨(r 0).g, 0, none⟩), .pointer (some ⟨(r 1).g, 0, none⟩)] : List Value).set (4 + i) (.pointer (some ⟨x.g, 0, none⟩))).set (6 + i) (.pointer (some ⟨y.g, 0, none⟩))).toArray 87 (0, 0))) (bel : Below w0.heap.size w0 W') (hk : ∀ k, (x.kv.ownBlock = some k \/ y.kv.ownBlock = some k) -> k ≠ pp) (he : Em x.v y.v) (hc : x.v.code = c.code) (hd : Gd (fun n => (M.nbk c.banks n).isSome) x.v) {tb' : Nat} (ht : tb <= tb') (h1 : x.v.m.tones.length <= tb') (h2 : y.v.m.tones.length <= tb') :
  PI w0 W' N pp c kp kc ep ec bp bc tb' (upP p i x) (upR r i y) := by
 refine ⟨hq, ?_, fun j hj => ?_, fun j hj => ?_, fun j hj => ?_, fun j hj => ?_, h.pn, h.n0, h.g0, bel, h.hC, h.may, h.en, fun j hj k e => ?_⟩
 ·rw [hb]
  rcases (show i = 0 \/ i = 1 by omega) with rfl | rfl <;> rfl
 ·unfold upP upR
  by_cases e : j = i
  ·rw [if_pos e, if_pos e]; exact he
  ·rw [if_neg e, if_neg e]; exact h.e j hj
 ·unfold upP
  by_cases e : j = i
  ·rw [if_pos e]; exact hc
  ·rw [if_neg e]; exact h.cd j hj
 ·unfold upP
  by_cases e : j = i
  ·rw [if_pos e]; exact hd
  ·rw [if_neg e]; exact h.gd j hj
 ·unfold upP upR
  by_cases e : j = i
  ·rw [if_pos e, if_pos e]; exact ⟨h1, h2⟩
  ·rw [if_neg e, if_neg e]; exact ⟨Nat.le_trans (h.tn j hj).1 ht, Nat.le_trans (h.tn j hj).2 ht⟩
 ·unfold upP upR at e
  by_cases q : j = i
  ·rw [if_pos q, if_pos q] at e; exact hk k e
  ·rw [if_neg q, if_neg q] at e; exact h.kn j hj k e
theorem get_pm (p : Nat -> PM) (r : Nat -> RM) (k : Nat) (hk : k < 2) : ([.slice kp c.code.length kc, .int .u16 (c.entry : Int), .slice ep c.effs.length ec, .slice bp c.banks.length bc, .pointer (some ⟨(p 0).g, 0, none⟩), .pointer (some ⟨(p 1).g, 0, none⟩), .pointer (some ⟨(r 0).g, 0, none⟩), .pointer (some ⟨(r 1).g, 0, none⟩)] : List Value)[4 + k]? = some (.pointer (some ⟨(p k).g, 0, none⟩)) := by
 rcases (show k = 0 \/ k = 1 by omega) with rfl | rfl <;> rfl
theorem get_rm (p : Nat -> PM) (r : Nat -> RM) (k : Nat) (hk : k < 2) (u : Value) : (([.slice kp c.code.length kc, .int .u16 (c.entry : Int), .slice ep c.effs.length ec, .slice bp c.banks.length bc, .pointer (some ⟨(p 0).g, 0, none⟩), .pointer (some ⟨(p 1).g, 0, none⟩), .pointer (some ⟨(r 0).g, 0, none⟩), .pointer (some ⟨(r 1).g, 0, none⟩)] : List Value).set (4 + k) u)[6 + k]? = some (.pointer (some ⟨(r k).g, 0, none⟩)) /\ ∀ u', ((([.slice kp c.code.length kc, .int .u16 (c.entry : Int), .slice ep c.effs.length ec, .slice bp c.banks.length bc, .pointer (some ⟨(p 0).g, 0, none⟩), .pointer (some ⟨(p 1).g, 0, none⟩), .pointer (some ⟨(r 0).g, 0, none⟩), .pointer (some ⟨(r 1).g, 0, none⟩)] : List Value).set (4 + k) u).set (6 + k) u')[4 + k]? = some u := by
 rcases (show k = 0 \/ k = 1 by omega) with rfl | rfl <;> exact ⟨rfl, fun _ => rfl⟩
end
set_option maxHeartbeats 8000000
set_option maxRecDepth 100000
theorem look_b (v : VS) : (look v).op = 0 \/ (1 <= (look v).op /\ (look v).op < 64) := by
 by_cases h : (look v).f = 0
 ·by_cases q : v.st = 1
  ·have := look_ok v q h
   exact .inr ⟨this.1, this.2.1⟩
  ·left; unfold look; rw [if_neg q]
 ·exact .inl (look_no v h)
theorem ri_tk (op : Nat) (h1 : 1 <= op) (h2 : op < 64) : (tkN op : Int) = P.ri op /\ (lvN op : Int) = P.ro op :=
 (show ∀ k, k < 64 -> 1 <= k -> (tkN k : Int) = P.ri k /\ (lvN k : Int) = P.ro k by decide) op h2 h1
set_option maxHeartbeats 8000000
set_option maxRecDepth 100000
structure SI (t0 t1 t2 : TypeId) (z1 z2 : Nat) (W wr : World) (lo nB : Nat) (oc : List Value) (v1 v2 : Value) (n1 n2 : Nat) : Prop where
 b : Below lo W wr
 nl : lo <= nB
 o : wr.heap[nB]? = some (.cells oc.toArray t0 (0, 0))
 r1 : ∃ xs, wr.ownsRow lo t1 z1 v1 n1 xs
 r2 : ∃ xs, wr.ownsRow lo t2 z2 v2 n2 xs
theorem own_tyS {W : World} {B g n cap : Nat} {e : TypeId} {size : Nat} {xs : List Value} (h : W.ownsRow B e size (.slice (some ⟨g, 0, none⟩) n cap) n xs) : B <= g /\ ∃ cur, W.heap[g]? = some (.cells cur e (0, 0)) := by
 rcases h.2 with ⟨h', _⟩ | ⟨g', cap', cur, h', hb, hg, _⟩
 ·simp at h'
 ·simp only [Value.slice.injEq, Option.some.injEq, Addr.mk.injEq, and_true, true_and] at h'
  obtain ⟨rfl, rfl⟩ := h'; exact ⟨hb, cur, hg⟩
theorem own_neS {W : World} {B g : Nat} {e e' : TypeId} {size n : Nat} {v : Value} {xs : List Value} (h : W.ownsRow B e size v n xs) (cur : Array Value) (x : Nat × Nat) (hg : W.heap[g]? = some (.cells cur e' x)) (hne : e ≠ e') : ∀ k, v.ownBlock = some k -> k ≠ g := by
 rintro k hk rfl
 obtain ⟨c, hc⟩ := M.own_block h k hk
 rw [hc] at hg
 simp at hg
 exact hne hg.2.1
theorem bel_set {W wr : World} {lo : Nat} (b : Below lo W wr) (g j : Nat) (h : lo <= g) (u : Value) : Below lo W (wr.setCell ⟨g, j, none⟩ u) :=
 ⟨b.os, b.tape, b.output, by rw [S.setCell_size]; exact b.size, fun k hk => (S.setCell_other wr g j k u (by omega)).trans (b.block k hk)⟩
section
variable {t0 t1 t2 : TypeId} {z1 z2 : Nat} {W wr : World} {lo nB : Nat} {oc : List Value} {v1 v2 : Value} {n1 n2 : Nat}
theorem SI.pos1 (h : SI t0 t1 t2 z1 z2 W wr lo nB oc v1 v2 n1 n2) (hn : 0 < n1) : ∃ g c, v1 = .slice (some ⟨g, 0, none⟩) n1 c := by
 obtain ⟨xs, h1⟩ := h.r1
 rcases h1.2 with ⟨_, e⟩ | ⟨g, cap, cur, e, _⟩
 ·omega
 ·exact ⟨g, cap, e⟩
theorem SI.pos2 (h : SI t0 t1 t2 z1 z2 W wr lo nB oc v1 v2 n1 n2) (hn : 0 < n2) : ∃ g c, v2 = .slice (some ⟨g, 0, none⟩) n2 c := by
 obtain ⟨xs, h1⟩ := h.r2
 rcases h1.2 with ⟨_, e⟩ | ⟨g, cap, cur, e, _⟩
 ·omega
 ·exact ⟨g, cap, e⟩
theorem SI.m1 (h : SI t0 t1 t2 z1 z2 W wr lo nB oc v1 v2 n1 n2) : n1 <= 9223372036854775807 := by
 obtain ⟨xs, h1⟩ := h.r1
 rcases h1.2 with ⟨_, e⟩ | ⟨g, cap, cur, e, _, _, a, b, _⟩
 ·omega
 ·unfold maxLen at b; omega
theorem SI.set1 {g c : Nat} (h : SI t0 t1 t2 z1 z2 W wr lo nB oc (.slice (some ⟨g, 0, none⟩) n1 c) v2 n1 n2) (h01 : t1 ≠ t0) (h12 : t2 ≠ t1) (j : Nat) (u : Value) : SI t0 t1 t2 z1 z2 W (wr.setCell ⟨g, j, none⟩ u) lo nB oc (.slice (some ⟨g, 0, none⟩) n1 c) v2 n1 n2 := by
 obtain ⟨xs, h1⟩ := h.r1
 obtain ⟨ys, h2⟩ := h.r2
 obtain ⟨hg, cur, hc⟩ := own_tyS h1
 have n0 : nB ≠ g := by rintro rfl; exact own_neS h1 _ _ h.o h01 _ rfl rfl
 exact ⟨bel_set h.b g j hg u, h.nl, (S.setCell_other wr g j nB u n0).trans h.o, ⟨_, (h1.stored j u).1⟩, ⟨_, S.own_kept h2 fun k e _ => S.setCell_other wr g j k u (own_neS h2 cur _ hc h12 k e)⟩⟩
theorem SI.set2 {g c : Nat} (h : SI t0 t1 t2 z1 z2 W wr lo nB oc v1 (.slice (some ⟨g, 0, none⟩) n2 c) n1 n2) (h02 : t2 ≠ t0) (h12 : t1 ≠ t2) (j : Nat) (u : Value) : SI t0 t1 t2 z1 z2 W (wr.setCell ⟨g, j, none⟩ u) lo nB oc v1 (.slice (some ⟨g, 0, none⟩) n2 c) n1 n2 := by
 obtain ⟨xs, h1⟩ := h.r1
 obtain ⟨ys, h2⟩ := h.r2
 obtain ⟨hg, cur, hc⟩ := own_tyS h2
 have n0 : nB ≠ g := by rintro rfl; exact own_neS h2 _ _ h.o h02 _ rfl rfl
 exact ⟨bel_set h.b g j hg u, h.nl, (S.setCell_other wr g j nB u n0).trans h.o, ⟨_, S.own_kept h1 fun k e _ => S.setCell_other wr g j k u (own_neS h1 cur _ hc h12 k e)⟩, ⟨_, (h2.stored j u).1⟩⟩
theorem row_at {g c n z : Nat} {t : TypeId} (h : ∃ xs, wr.ownsRow lo t z (.slice (some ⟨g, 0, none⟩) n c) n xs) (j : Nat) (hj : j < n * z) : (∃ u, wr.cell? ⟨g, j, none⟩ = some u) /\ wr.frozen? ⟨g, j, none⟩ = false := by
 obtain ⟨xs, h1⟩ := h
 refine ⟨?_, h1.frozenAt j⟩
 rw [h1.cellAt j hj]
 exact ⟨_, List.getElem?_eq_getElem (by have := h1.1; omega)⟩
theorem SI.grow1 {W1 w4 : World} {v' : Value} {ys : List Value} {n' i : Nat} (h : SI t0 t1 t2 z1 z2 W wr lo nB oc v1 v2 n1 n2) (h01 : t1 ≠ t0) (h02 : t2 ≠ t0) (h12 : t2 ≠ t1) (hl : lo <= W.heap.size) (hb : Below wr.heap.size wr W1) (hg : S.Grew W1 w4 v1 v') (hr : w4.ownsRow lo t1 z1 v' n' ys) :
  w4.heap[nB]? = some (.cells oc.toArray t0 (0, 0)) /\ SI t0 t1 t2 z1 z2 W (w4.setCell ⟨nB, i, none⟩ v') lo nB (oc.set i v') v' v2 n' n2 := by
 obtain ⟨xs, h1⟩ := h.r1
 obtain ⟨ys, h2⟩ := h.r2
 have o1 : W1.heap[nB]? = some (.cells oc.toArray t0 (0, 0)) := (hb.block nB (S.lt_of h.o)).trans h.o
 have h1' : W1.ownsRow lo t1 z1 v1 n1 xs := S.own_kept h1 fun k _ hk => hb.block k hk
 have h2' : W1.ownsRow lo t2 z2 v2 n2 ys := S.own_kept h2 fun k _ hk => hb.block k hk
 have o4 : w4.heap[nB]? = some (.cells oc.toArray t0 (0, 0)) := (hg.block nB (S.lt_of o1) (fun e => own_neS h1' _ _ o1 h01 nB e.symm rfl)).trans o1
 have b4 : Below lo W w4 := hg.belowAll (fun g e => (h1'.lt g e).1) (h.b.trans (hb.mono (Nat.le_trans hl h.b.size))) hl
 have h4 : w4.ownsRow lo t2 z2 v2 n2 ys := S.own_kept h2' fun k e hk => hg.block k hk (fun e' => by
  obtain ⟨c, hc⟩ := M.own_block h1' k e'.symm; exact own_neS h2' _ _ hc h12 k e rfl)
 exact ⟨o4, bel_set b4 nB i h.nl v', h.nl, S.setCell_heap w4 nB i _ _ v' o4, ⟨_, S.own_kept hr fun k e _ => S.setCell_other w4 nB i k v' (own_neS hr _ _ o4 h01 k e)⟩, ⟨_, S.own_kept h4 fun k e _ => S.setCell_other w4 nB i k v' (own_neS h4 _ _ o4 h02 k e)⟩⟩
theorem SI.grow2 {W1 w4 : World} {v' : Value} {ys : List Value} {n' i : Nat} (h : SI t0 t1 t2 z1 z2 W wr lo nB oc v1 v2 n1 n2) (h01 : t1 ≠ t0) (h02 : t2 ≠ t0) (h12 : t1 ≠ t2) (hl : lo <= W.heap.size) (hb : Below wr.heap.size wr W1) (hg : S.Grew W1 w4 v2 v') (hr : w4.ownsRow lo t2 z2 v' n' ys) :
  w4.heap[nB]? = some (.cells oc.toArray t0 (0, 0)) /\ SI t0 t1 t2 z1 z2 W (w4.setCell ⟨nB, i, none⟩ v') lo nB (oc.set i v') v1 v' n1 n' := by
 obtain ⟨xs, h1⟩ := h.r1
 obtain ⟨ys, h2⟩ := h.r2
 have o1 : W1.heap[nB]? = some (.cells oc.toArray t0 (0, 0)) := (hb.block nB (S.lt_of h.o)).trans h.o
 have h1' : W1.ownsRow lo t1 z1 v1 n1 xs := S.own_kept h1 fun k _ hk => hb.block k hk
 have h2' : W1.ownsRow lo t2 z2 v2 n2 ys := S.own_kept h2 fun k _ hk => hb.block k hk
 have o4 : w4.heap[nB]? = some (.cells oc.toArray t0 (0, 0)) := (hg.block nB (S.lt_of o1) (fun e => own_neS h2' _ _ o1 h02 nB e.symm rfl)).trans o1
 have b4 : Below lo W w4 := hg.belowAll (fun g e => (h2'.lt g e).1) (h.b.trans (hb.mono (Nat.le_trans hl h.b.size))) hl
 have h4 : w4.ownsRow lo t1 z1 v1 n1 xs := S.own_kept h1' fun k e hk => hg.block k hk (fun e' => by
  obtain ⟨c, hc⟩ := M.own_block h2' k e'.symm; exact own_neS h1' _ _ hc h12 k e rfl)
 exact ⟨o4, bel_set b4 nB i h.nl v', h.nl, S.setCell_heap w4 nB i _ _ v' o4, ⟨_, S.own_kept h4 fun k e _ => S.setCell_other w4 nB i k v' (own_neS h4 _ _ o4 h01 k e)⟩, ⟨_, S.own_kept hr fun k e _ => S.setCell_other w4 nB i k v' (own_neS hr _ _ o4 h02 k e)⟩⟩
end
theorem doo_code (op : Nat) (x : Int) (v : VS) : (doo op x v).2.code = v.code := by
 unfold doo
 simp only
 split
 ·exact dn_code op x _ v
 ·rfl
theorem wk_code (B : Int) : ∀ (k : Nat) (v : VS) (n s : Int), (wk k B v n s).v.code = v.code
 | 0, v, n, s => rfl
 | k + 1, v, n, s => by
  unfold wk
  split
  ·split
   ·split
    ·rfl
    ·split
     ·split
      ·exact doo_code _ _ (cyc s v)
      ·exact (wk_code B k _ _ _).trans (doo_code _ _ (cyc s v))
     ·rfl
   ·rfl
  ·rfl
theorem frame_code (v : VS) (pad B : Int) : (frame v pad B).v.code = v.code := wk_code B _ _ _ _
theorem PQ.not {W : World} {N : Nat -> Prop} {l : Nat -> Ob} (h : PQ W N l) (i : Nat) (hi : i < 4) (k : Nat) (hk : W.heap.size <= k) : ¬ (l i).S k := fun f => by have := (l i).lt W (h.ok i hi) k (.inl f); omega
theorem PQ.nextL {W W' : World} {N : Nat -> Prop} {l : Nat -> Ob} (h : PQ W N l) (lo : Nat) (hlo : ∀ i, i < 4 -> ∀ k, ((l i).S k \/ (l i).kv.ownBlock = some k) -> k < lo) (b : Below lo W W') : PQ W' N l :=
 ⟨fun i hi => (l i).kept W W' (h.ok i hi) b.size fun j hj e => b.block j (hlo i hi j e), h.ap, h.kc, h.lo, fun k f => Nat.lt_of_lt_of_le (h.nN k f) b.size⟩
theorem PQ.progL {W W' : World} {N : Nat -> Prop} {p : Nat -> PM} {r : Nat -> RM} (h : PQ W N (mkO p r)) (i : Nat) (hi : i < 2) {v : VS} {lo : Nat} (k : VL W W' lo (p i).g (p i).bd (p i).br (p i).bm (p i).kv (p i).F v) :
  PQ W' N (mkO (upP p i { p i with F := fun k => (p i).F k \/ (W.heap.size <= k /\ k < lo), v := v }) r) /\ ∀ j, j < 4 -> ∀ k, ((mkO (upP p i { p i with F := fun k => (p i).F k \/ (W.heap.size <= k /\ k < lo), v := v }) r j).S k \/ (mkO (upP p i { p i with F := fun k => (p i).F k \/ (W.heap.size <= k /\ k < lo), v := v }) r j).kv.ownBlock = some k) -> k < lo := by
 rw [<- upd_p p r i hi]
 have e : mkO p r i = (p i).o := by unfold mkO; rw [if_pos hi]
 have l0 := k.l0
 refine ⟨h.call i (by omega) _ k.s (by rw [e]; exact k.t) (fun j f => ?_) (by rw [e]; rfl), fun j hj q f => ?_⟩
 ·rw [e]
  rcases f with f | f | f | f
  ·exact .inl (.inl f)
  ·exact .inl (.inr (.inl f))
  ·exact .inl (.inr (.inr (.inl f)))
  ·rcases f with f | ⟨f, _⟩
   ·exact .inl (.inr (.inr (.inr f)))
   ·exact .inr f
 ·by_cases c : j = i
  ·subst c
   rw [upd_at] at f; have hl := fun q f => (mkO p r j).lt W (h.ok j hj) q f
   rw [e] at hl
   rcases f with (f | f | f | f) | f
   ·have := hl q (.inl (.inl f)); omega
   ·have := hl q (.inl (.inr (.inl f))); omega
   ·have := hl q (.inl (.inr (.inr (.inl f)))); omega
   ·rcases f with f | ⟨_, f⟩
    ·have := hl q (.inl (.inr (.inr (.inr f)))); omega
    ·exact f
   ·have := hl q (.inr f); omega
  ·rw [upd_ne _ _ _ _ c] at f
   have := (mkO p r j).lt W (h.ok j hj) q f
   omega
theorem frame_no (pad B : Int) (hB : B < 4 \/ 16384 < B) (g : Nat) (W : World) :
  Calls Tryz.prog 13 #[.pointer (some ⟨g, 0, none⟩), .int .u8 pad, .int .i64 B] W fun e W' => e = .returned (.tuple #[.agg #[.int .i64 0, .int .i64 0, .int .i64 0, .int .i64 0, .int .i64 0, .slice none 0 0, .slice none 0 0], .int .i64 190]) /\ Below W.heap.size W W' := by
 obtain ⟨hz, hfin, hb⟩ := mkRow W #[.int .i64 0, .int .i64 0, .int .i64 0, .int .i64 0, .int .i64 0, .slice none 0 0, .slice none 0 0] #[.int .i64 0, .int .i64 0, .int .i64 0, .int .i64 0, .int .i64 0, .slice none 0 0, .slice none 0 0] 39
 rcases (show B < 4 \/ (¬ B < 4 /\ 16384 < B) by omega) with i1 | ⟨i1, i2⟩
 ·go_enter Tryz.func13, Tryz.ntmps13
  go_wp2_with (refine wpList_store_row rfl 39 _ _ rfl W.heap.size _ rfl rfl 39 z7 hz (by exact size39) (by rfl) (by simp [Value.oneCell']) ?_)
  refine bodyPost_ret (v := .tuple #[.agg #[.int .i64 0, .int .i64 0, .int .i64 0, .int .i64 0, .int .i64 0, .slice none 0 0, .slice none 0 0], .int .i64 190]) ?_ rfl ⟨rfl, hb⟩; rw [results_cell_tmp rfl]
  simp [asAddr, run_loadVar_row _ W.heap.size _ 39 _ _ _ hfin Tryz.underlying39 rfl size39]
 ·go_enter Tryz.func13, Tryz.ntmps13
  go_wp2_with (refine wpList_store_row rfl 39 _ _ rfl W.heap.size _ rfl rfl 39 z7 hz (by exact size39) (by rfl) (by simp [Value.oneCell']) ?_)
  refine bodyPost_ret (v := .tuple #[.agg #[.int .i64 0, .int .i64 0, .int .i64 0, .int .i64 0, .int .i64 0, .slice none 0 0, .slice none 0 0], .int .i64 190]) ?_ rfl ⟨rfl, hb⟩; rw [results_cell_tmp rfl]
  simp [asAddr, run_loadVar_row _ W.heap.size _ 39 _ _ _ hfin Tryz.underlying39 rfl size39]
set_option maxHeartbeats 8000000
set_option maxRecDepth 100000
structure O6 where
 kd : Int
 wh : Int
 pad : UInt8
 n : Int
 at_ : Int
 x : UInt8
def Sc6 (W : World) (p : Option Addr) (l : List O6) : Prop := ∀ (i : Nat) t, l[i]? = some t -> (∃ b o, p = some ⟨b, o, none⟩ /\ W.cell? ⟨b, o + i * 6, none⟩ = some (.int .i64 t.kd) /\ W.cell? ⟨b, o + i * 6 + 1, none⟩ = some (.int .i64 t.wh) /\ W.cell? ⟨b, o + i * 6 + 2, none⟩ = some (.int .u8 (M.bt t.pad)) /\ W.cell? ⟨b, o + i * 6 + 3, none⟩ = some (.int .i64 t.n) /\ W.cell? ⟨b, o + i * 6 + 4, none⟩ = some (.int .u16 t.at_) /\ W.cell? ⟨b, o + i * 6 + 5, none⟩ = some (.int .u8 (M.bt t.x))) /\ C.C t.at_
theorem cell_bel {W W' : World} (b : Below W.heap.size W W') {a : Addr} {u : Value} (h : W.cell? a = some u) : W'.cell? a = some u := by
 rw [World.cell?_of_block (w := W) (w' := W') (a := a) (b.block _ (World.block_lt_of_cell? W a h))]; exact h
theorem Sc6.below {W W' : World} {p : Option Addr} {l : List O6} (h : Sc6 W p l) (b : Below W.heap.size W W') : Sc6 W' p l := fun i t hi => by
 obtain ⟨⟨x, o, e, c0, c1, c2, c3, c4, c5⟩, q⟩ := h i t hi
 exact ⟨⟨x, o, e, cell_bel b c0, cell_bel b c1, cell_bel b c2, cell_bel b c3, cell_bel b c4, cell_bel b c5⟩, q⟩
theorem set5 {W : World} {B g j n : Nat} {v u : Value} {cur : Array Value} (h : ∃ xs, W.ownsRow B 5 1 v n xs) (hg : W.heap[g]? = some (.cells cur 5 (0, 0))) : ∃ xs, (W.setCell ⟨g, j, none⟩ u).ownsRow B 5 1 v n xs := by
 obtain ⟨xs, h⟩ := h
 rcases h.2 with ⟨e1, e2⟩ | ⟨x, cap, cur', e, _⟩
 ·exact ⟨xs, h.1, .inl ⟨e1, e2⟩⟩
 ·subst e
  by_cases q : x = g
  ·subst q; exact ⟨_, (h.stored j u).1⟩
  ·exact ⟨xs, S.own_kept h fun k e _ => S.setCell_other W g j k u (by simp [Value.ownBlock] at e; omega)⟩
structure LI (w6 wr : World) (B n nI : Nat) (c : T.Ct) (row : List Value) (kv bv : Value) (prs : List (T.Bk × Value)) : Prop where
 b : Below B w6 wr
 hi : ∀ k, n <= k -> k < w6.heap.size -> wr.heap[k]? = w6.heap[k]?
 o : wr.heap[nI]? = some (.cells row.toArray 27 (0, 0))
 m : prs.map Prod.fst = c.banks
 r : wr.ownsRow B 81 2 bv prs.length (T.bcs prs)
 d : ∀ x ∈ prs, ∃ xs, wr.ownsRow B 5 1 x.2 x.1.2.length xs
 k : ∃ xs, wr.ownsRow B 5 1 kv c.code.length xs
 u : ∀ v g, (v = kv \/ ∃ x ∈ prs, x.2 = v) -> v.ownBlock = some g -> g < n
theorem LI.set {w6 wr : World} {B n nI : Nat} {c : T.Ct} {row : List Value} {kv bv : Value} {prs : List (T.Bk × Value)} (h : LI w6 wr B n nI c row kv bv prs) {v : Value} {g l cap : Nat} (hv : v = kv \/ ∃ x ∈ prs, x.2 = v) (e : v = .slice (some ⟨g, 0, none⟩) l cap) (ho : ∃ xs, wr.ownsRow B 5 1 v l xs) (j : Nat) (u : Value) :
  LI w6 (wr.setCell ⟨g, j, none⟩ u) B n nI c row kv bv prs := by
 obtain ⟨xs, ho⟩ := ho
 have hgn : g < n := h.u v g hv (by rw [e]; rfl)
 subst e
 obtain ⟨hg, cur, hc⟩ := own_tyS ho
 have oth : ∀ k, k ≠ g -> (wr.setCell ⟨g, j, none⟩ u).heap[k]? = wr.heap[k]? := fun k hk => S.setCell_other wr g j k u hk
 refine ⟨bel_set h.b g j hg u, fun k h1 h2 => (oth k (by omega)).trans (h.hi k h1 h2), (oth nI ?_).trans h.o, h.m, S.own_kept h.r fun k e _ => oth k (own_neS h.r cur _ hc (by decide) k e), fun x hx => set5 (h.d x hx) hc, set5 h.k hc, h.u⟩
 rintro rfl
 have := h.o
 rw [hc] at this
 simp at this
theorem LI.start {w1 w2 w6 : World} {B : Nat} {c : T.Ct} {row : List Value} {kv bv : Value} (h : OwC8 w1 B c kv bv) (b2 : Below w1.heap.size w1 w2) (b6 : Below w2.heap.size w2 w6) (o : w2.heap[w1.heap.size]? = some (.cells row.toArray 27 (0, 0))) : ∃ prs, LI w6 w6 B w2.heap.size w1.heap.size c row kv bv prs := by
 obtain ⟨prs, hm, hr, hd, hk⟩ := h
 have b16 : ∀ g, g < w1.heap.size -> w6.heap[g]? = w1.heap[g]? := fun g hg => (b6.block g (Nat.lt_of_lt_of_le hg b2.size)).trans (b2.block g hg)
 refine ⟨prs, Below.refl _ _, fun _ _ _ => rfl, (b6.block _ (S.lt_of o)).trans o, hm, S.own_kept hr fun g _ hg => b16 g hg, fun x hx => ⟨_, S.own_kept (hd x hx) fun g _ hg => b16 g hg⟩, ⟨_, S.own_kept hk fun g _ hg => b16 g hg⟩, ?_⟩
 rintro v g (rfl | ⟨x, hx, rfl⟩) e
 ·exact Nat.lt_of_lt_of_le (World.ownsRow.lt hk g e).2 b2.size
 ·exact Nat.lt_of_lt_of_le (World.ownsRow.lt (hd x hx) g e).2 b2.size
theorem PQ.four {W : World} {N : Nat -> Prop} {l : Nat -> Ob} (a b : Nat -> Nat) (hok : ∀ i, i < 4 -> (l i).ok W) (hr : ∀ i, i < 4 -> ∀ k, (l i).S k -> a i <= k /\ k < b i) (hd : ∀ i j, i < 4 -> j < 4 -> i ≠ j -> b i <= a j \/ b j <= a i)
  (hk : ∀ j, j < 4 -> ∃ i, i < 4 /\ ∀ k, (l j).kv.ownBlock = some k -> a i <= k /\ k < b i /\ ¬ (l i).S k) (hN : ∀ i, i < 4 -> ∀ k, a i <= k -> k < b i -> ¬ N k) (nN : ∀ k, N k -> k < W.heap.size) : PQ W N l := by
 refine ⟨hok, fun i j hi hj hne k f g => ?_, fun i j hi hj k f e => ?_, fun i hi k f => hN i hi k (hr i hi k f).1 (hr i hi k f).2, nN⟩
 ·have h1 := hr i hi k f
  have h2 := hr j hj k g
  rcases hd i j hi hj hne with q | q <;> omega
 ·obtain ⟨q, hq, h2⟩ := hk j hj
  obtain ⟨h3, h4, h5⟩ := h2 k e; have h1 := hr i hi k f
  by_cases c : i = q
  ·subst c; exact h5 f
  ·rcases hd i q hi hq c with z | z <;> omega
def two {α : Type} (x y : α) (i : Nat) : α := if i = 0 then x else y
theorem mv_at {w2 w3 w7 : World} {g bd br bm : Nat} {ku : Value} {F : Nat -> Prop} {v : VS} (hM : MV w3 g bd br bm ku F v) (hF : Fresh w2.heap.size g bd br bm ku F) (hs : w3.heap.size <= w7.heap.size) (hk3 : ∀ k, w2.heap.size <= k -> k < w3.heap.size -> w7.heap[k]? = w3.heap[k]?) : MV w7 g bd br bm ku F v :=
 MV.kept hM hs fun i hi e => hk3 i (by
   rcases e with (e | e | e | e) | e
   ·have := hF.g; omega
   ·have := hF.d; omega
   ·have := hF.r; omega
   ·exact hF.f i e
   ·exact hF.k i e) hi
theorem rx_at {w2 w4 w5 w7 : World} {G b : Nat} {kU dv rv : Value} {F' : Nat -> Prop} {v : VS} (hX : RX w5 G b kU dv rv F' v) (hG : w4.heap.size <= G /\ (∀ k, kU.ownBlock = some k -> w4.heap.size <= k) /\ ∀ k, F' k -> w4.heap.size <= k) (hdv : dv.ownBlock = none) (hrv : rv.ownBlock = none) (s57 : w5.heap.size <= w7.heap.size) (s24 : w2.heap.size <= w4.heap.size) (hk5 : ∀ k, w2.heap.size <= k -> k < w5.heap.size -> w7.heap[k]? = w5.heap[k]?) : RX w7 G b kU dv rv F' v :=
 (rmO G b kU dv rv F' v).kept w5 w7 hX s57 fun i hi e => hk5 i (by
   rcases e with (e | e | e | e) | e
   ·have := hG.1; omega
   ·have := hG.2.2 i e; omega
   ·rw [hdv] at e; cases e
   ·rw [hrv] at e; cases e
   ·have := hG.2.1 i e; omega) hi
theorem pi_born {w0 w2 w3 w4 w5 w7 w8 w9 : World} {c : T.Ct} {kp : Option Addr} {kc : Nat} {ep : Option Addr} {ec : Nat} {bp : Option Addr} {bc : Nat}
  {g bd br bm : Nat} {ku : Value} {F : Nat -> Prop} (hM : MV w3 g bd br bm ku F (born c)) (hF : Fresh w2.heap.size g bd br bm ku F)
  {G b : Nat} {kU dv rv : Value} {F' : Nat -> Prop} (hX : RX w5 G b kU dv rv F' (born c)) (hG : w4.heap.size <= G /\ (∀ k, kU.ownBlock = some k -> w4.heap.size <= k) /\ ∀ k, F' k -> w4.heap.size <= k) (hdv : dv.ownBlock = none) (hrv : rv.ownBlock = none)
  (s02 : w0.heap.size <= w2.heap.size) (s34 : w3.heap.size <= w4.heap.size) (s57 : w5.heap.size <= w7.heap.size) (s45 : w4.heap.size <= w5.heap.size)
  (hk3 : ∀ k, w2.heap.size <= k -> k < w3.heap.size -> w7.heap[k]? = w3.heap[k]?) (hk5 : ∀ k, w2.heap.size <= k -> k < w5.heap.size -> w7.heap[k]? = w5.heap[k]?)
  {g' bd' br' bm' : Nat} {E : Nat -> Prop} (hM2 : MV w8 g' bd' br' bm' ku E (born c)) (hE : w7.heap.size <= g' /\ w7.heap.size <= bd' /\ w7.heap.size <= br' /\ ∀ k, E k -> w7.heap.size <= k) (b78 : Below w7.heap.size w7 w8)
  {G' b' : Nat} {dv' rv' : Value} {E' : Nat -> Prop} (hX2 : RX w9 G' b' kU dv' rv' E' (born c)) (hE' : RFr w8.heap.size G' dv' rv' E') (b89 : Below w8.heap.size w8 w9)
  (bel : Below w0.heap.size w0 w9) (hC : T.IsC w0 (.agg #[.slice kp c.code.length kc, .int .u16 (c.entry : Int), .slice ep c.effs.length ec, .slice bp c.banks.length bc]) c ep ec bp bc (.slice kp c.code.length kc)) (may : T.may c = true) (en : ep = none -> ec = 0) (W : World)
  (hW : W = w9.alloc (.cells #[.slice kp c.code.length kc, .int .u16 (c.entry : Int), .slice ep c.effs.length ec, .slice bp c.banks.length bc, .pointer (some ⟨g, 0, none⟩), .pointer (some ⟨g', 0, none⟩), .pointer (some ⟨G, 0, none⟩), .pointer (some ⟨G', 0, none⟩)] 87)) :
  ∃ N p r, PI w0 W N w9.heap.size c kp kc ep ec bp bc 60000 p r := by
 have s23 : w2.heap.size <= w3.heap.size := by have := hF.g; have := hM.lt; omega
 have s78 := b78.size
 have s89 := b89.size
 have bW : Below w9.heap.size w9 W := by rw [hW]; exact P.bel_alloc w9 _
 have hblk : W.heap[w9.heap.size]? = some (.cells #[.slice kp c.code.length kc, .int .u16 (c.entry : Int), .slice ep c.effs.length ec, .slice bp c.banks.length bc, .pointer (some ⟨g, 0, none⟩), .pointer (some ⟨g', 0, none⟩), .pointer (some ⟨G, 0, none⟩), .pointer (some ⟨G', 0, none⟩)] 87 (0, 0)) := by rw [hW]; exact heap_alloc_new w9 _
 have b79 : Below w7.heap.size w7 w9 := b78.trans (b89.mono s78)
 have b7W : Below w7.heap.size w7 W := b79.trans (bW.mono (by omega))
 have b8W : Below w8.heap.size w8 W := b89.trans (bW.mono s89)
 have sW := bW.size
 have lW := S.lt_of hblk
 have m0 : MV W g bd br bm ku F (born c) := by
  have h7 : MV w7 g bd br bm ku F (born c) := mv_at hM hF (by omega) hk3; exact h7.below b7W
 have r0 : RX W G b kU dv rv F' (born c) := by
  have h7 : RX w7 G b kU dv rv F' (born c) := rx_at hX hG hdv hrv s57 (by omega) hk5; exact h7.below b7W
 have m1 := hM2.below b8W
 have r1 := hX2.below bW
 have S0 : ∀ k, TV g bd br F k -> w2.heap.size <= k /\ k < w3.heap.size := by
  rintro k (e | e | e | e)
  ·subst e; exact ⟨hF.g, hM.lt⟩
  ·subst e; exact ⟨hF.d, hM.lt_d⟩
  ·subst e; exact ⟨hF.r, hM.lt_r⟩
  ·exact ⟨hF.f k e, hM.fb k e⟩
 have S1 : ∀ k, TV g' bd' br' E k -> w7.heap.size <= k /\ k < w8.heap.size := by
  rintro k (e | e | e | e)
  ·subst e; exact ⟨hE.1, hM2.lt⟩
  ·subst e; exact ⟨hE.2.1, hM2.lt_d⟩
  ·subst e; exact ⟨hE.2.2.1, hM2.lt_r⟩
  ·exact ⟨hE.2.2.2 k e, hM2.fb k e⟩
 have S2 : ∀ k, (k = G \/ F' k \/ dv.ownBlock = some k \/ rv.ownBlock = some k) -> w4.heap.size <= k /\ k < w5.heap.size := by
  rintro k (e | e | e | e)
  ·subst e; exact ⟨hG.1, hX.lt⟩
  ·exact ⟨hG.2.2 k e, hX.fb k e⟩
  ·rw [hdv] at e; cases e
  ·rw [hrv] at e; cases e
 have S3 : ∀ k, (k = G' \/ E' k \/ dv'.ownBlock = some k \/ rv'.ownBlock = some k) -> w8.heap.size <= k /\ k < w9.heap.size := by
  rintro k (e | e | e | e)
  ·subst e; exact ⟨hE'.g, hX2.lt⟩
  ·exact ⟨hE'.f k e, hX2.fb k e⟩
  ·exact ⟨hE'.d k e, (hX2.ck k (.inr (.inl e))).1⟩
  ·exact ⟨hE'.r k e, (hX2.ck k (.inr (.inr e))).1⟩
 refine ⟨fun k => k < w0.heap.size \/ k = w9.heap.size, two ⟨g, bd, br, bm, ku, F, born c⟩ ⟨g', bd', br', bm', ku, E, born c⟩, two ⟨G, b, kU, dv, rv, F', born c⟩ ⟨G', b', kU, dv', rv', E', born c⟩, ⟨?_, hblk, ?_, ?_, ?_, ?_, .inr rfl, by have := bel.size; exact this, fun k h => .inl h, bel.trans (bW.mono bel.size), hC, may, en, ?_⟩⟩
 ·refine PQ.four (fun i => if i = 0 then w2.heap.size else if i = 1 then w7.heap.size else if i = 2 then w4.heap.size else w8.heap.size) (fun i => if i = 0 then w3.heap.size else if i = 1 then w8.heap.size else if i = 2 then w5.heap.size else w9.heap.size) ?_ ?_ ?_ ?_ ?_ ?_
  ·intro i hi
   rcases (show i = 0 \/ i = 1 \/ i = 2 \/ i = 3 by omega) with rfl | rfl | rfl | rfl
   ·exact m0
   ·exact m1
   ·exact r0
   ·exact r1
  ·intro i hi k f
   rcases (show i = 0 \/ i = 1 \/ i = 2 \/ i = 3 by omega) with rfl | rfl | rfl | rfl
   ·exact S0 k f
   ·exact S1 k f
   ·exact S2 k f
   ·exact S3 k f
  ·intro i j hi hj hne
   rcases (show i = 0 \/ i = 1 \/ i = 2 \/ i = 3 by omega) with rfl | rfl | rfl | rfl <;> rcases (show j = 0 \/ j = 1 \/ j = 2 \/ j = 3 by omega) with rfl | rfl | rfl | rfl <;> simp <;> omega
  ·intro j hj
   rcases (show j = 0 \/ j = 1 \/ j = 2 \/ j = 3 by omega) with rfl | rfl | rfl | rfl
   ·exact ⟨0, by omega, fun k e => ⟨hF.k k e, hM.ck k e, fun f => by
     rcases f with f | f | f | f
     ·exact (hM.cb k e).1 f
     ·exact (hM.cb k e).2.1 f
     ·exact (hM.cb k e).2.2.1 f
     ·exact (hM.cb k e).2.2.2 f⟩⟩
   ·exact ⟨0, by omega, fun k e => ⟨hF.k k e, hM.ck k e, fun f => by
     rcases f with f | f | f | f
     ·exact (hM.cb k e).1 f
     ·exact (hM.cb k e).2.1 f
     ·exact (hM.cb k e).2.2.1 f
     ·exact (hM.cb k e).2.2.2 f⟩⟩
   ·exact ⟨2, by omega, fun k e => ⟨hG.2.1 k e, (hX.ck k (.inl e)).1, fun f => by
     rcases f with f | f | f | f
     ·exact (hX.ck k (.inl e)).2.1 f
     ·exact (hX.ck k (.inl e)).2.2 f
     ·rw [show (mkO _ _ 2 : Ob).kv = kU from rfl] at e; change dv.ownBlock = some k at f; rw [hdv] at f; cases f
     ·change rv.ownBlock = some k at f; rw [hrv] at f; cases f⟩⟩
   ·exact ⟨2, by omega, fun k e => ⟨hG.2.1 k e, (hX.ck k (.inl e)).1, fun f => by
     rcases f with f | f | f | f
     ·exact (hX.ck k (.inl e)).2.1 f
     ·exact (hX.ck k (.inl e)).2.2 f
     ·change dv.ownBlock = some k at f; rw [hdv] at f; cases f
     ·change rv.ownBlock = some k at f; rw [hrv] at f; cases f⟩⟩
  ·intro i hi k h1 h2 f
   rcases (show i = 0 \/ i = 1 \/ i = 2 \/ i = 3 by omega) with rfl | rfl | rfl | rfl <;> simp at h1 h2 <;> rcases f with f | f <;> omega
  ·rintro k (f | f)
   ·have := bel.size; omega
   ·omega
 ·intro i hi
  rcases (show i = 0 \/ i = 1 by omega) with rfl | rfl <;> exact Em.refl _
 ·intro i hi
  rcases (show i = 0 \/ i = 1 by omega) with rfl | rfl <;> rfl
 ·intro i hi
  rcases (show i = 0 \/ i = 1 by omega) with rfl | rfl <;> exact born_gd c
 ·intro i hi
  rcases (show i = 0 \/ i = 1 by omega) with rfl | rfl <;> exact ⟨Nat.zero_le _, Nat.zero_le _⟩
 ·intro i hi k e
  have h1 : ku.ownBlock = some k -> k < w3.heap.size := hM.ck k; have h2 : kU.ownBlock = some k -> k < w5.heap.size := fun e => (hX.ck k (.inl e)).1
  rcases (show i = 0 \/ i = 1 by omega) with rfl | rfl <;> rcases e with e | e <;> first | (have := h1 e; omega) | (have := h2 e; omega)
end Go.Proofs.YteldjmecomngeaaGreat.V
