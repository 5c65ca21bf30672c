import Derived.Test.YtlilefhmohkfkaaGreatDoorERfU
import Derived.Test.YtlilefhmohkfkaaGreatDoorECatch
import Derived.Test.YtlilefhmohkfkaaGreatDoorEMark
import Derived.Test.YtlilefhmohkfkaaGreatDoorYWhoP
import Derived.Test.YtlilefhmohkfkaaGreatDoorSKit
namespace Go.Proofs.YtlilefhmohkfkaaGreatDoor.E
open Go.RowKit
open Go.Proofs
open Go.Proofs.YtlilefhmohkfkaaGreatDoor.Y (Nd Df Ps ndc dfc hid NV DV D1 cells6 BV QD OWN WN nl own_prog whole_prog)
open R (En cks MP dsE dfE chk Bk)
set_option linter.unusedVariables false
set_option linter.unusedSimpArgs false
set_option maxHeartbeats 2000000
set_option maxRecDepth 100000
def tls (ds : List Df) (bs : List Bk) : List Ty := if chk ds bs = 0 then tys [] (wordsOf ds) else []
theorem rso_tls {W w' : World} {ds : List Df} {bs : List Bk} {e : Ending} (h : RSO W ds bs e w') : ∃ p c, e = .returned (.tuple #[.slice p (tls ds bs).length c, .int .i64 (chk ds bs)]) /\ w'.ownsRow W.heap.size 81 9 (.slice p (tls ds bs).length c) (tls ds bs).length (S.en tyc (tls ds bs)) /\ Below W.heap.size W w' := by
 obtain ⟨hb, h⟩ := h
 unfold tls
 by_cases hz : chk ds bs = 0
 ·rw [if_pos hz] at h
  obtain ⟨g, c, he, hr⟩ := h
  rw [if_pos hz, hz]
  have hl : (tys [] (wordsOf ds)).length = (wordsOf ds).length := by rw [tys_len]; simp
  rw [hl]
  exact ⟨_, c, he, hr, hb⟩
 ·rw [if_neg hz] at h
  rw [if_neg hz]
  exact ⟨none, 0, h, World.ownsRow_nil _ _ _ _, hb⟩
theorem tls_len (ds : List Df) (bs : List Bk) : (tls ds bs).length <= ds.length := by
 unfold tls
 split
 ·rw [tys_len, List.length_nil, Nat.zero_add]; exact List.length_filter_le _ _
 ·simp
theorem own_dv {W w : World} {U : Nat -> Prop} {b c : Nat} {bkv : Value} {ds : List Df} {bs : List Bk} (h : OWN W w U b c bkv ds bs) : DV w (fun i => W.heap.size <= i /\ i < w.heap.size) (.slice (some ⟨b, 0, none⟩) ds.length c) ds /\ BV w (fun i => W.heap.size <= i /\ i < w.heap.size) bkv bs := by
 refine ⟨⟨some ⟨b, 0, none⟩, c, rfl, by have := h.d.len; omega, fun i d hi => ?_⟩, h.k.kept (fun _ _ => rfl) fun i hi => ⟨hi.1, hi.2.1⟩⟩
 obtain ⟨bv, h1, h2⟩ := h.d.d i d hi
 exact ⟨b, 0, rfl, h.bb, bv, fun j x hx => by rw [Nat.zero_add]; exact h1 j x hx, (h2.nv).kept (fun _ _ => rfl) fun i hi => ⟨(h.u i hi).1, (h.u i hi).2.1⟩⟩
end Go.Proofs.YtlilefhmohkfkaaGreatDoor.E
