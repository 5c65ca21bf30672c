import Derived.Test.YteldjmecomngeaaGreatProg
import Derived.Deep.RegionHeld
namespace Go.Proofs.YteldjmecomngeaaGreat.V
section
variable {G : Program} {ops : Array Oper} {Q : Exit -> Act -> World -> Prop} {md : Region.Mode} {S : World -> Prop}
def wpT (_ : List Nat) (G : Program) (md : Region.Mode) (ops : Array Oper) (Q : Exit -> Act -> World -> Prop) (S : World -> Prop) (fuel : Nat) (l : Array Bool) (a : Act) (w : World) : Prop := wpAnyH G md ops Q S fuel l a w
theorem wtk0 {is : List Nat} {fuel : Nat} {l : Array Bool} {a : Act} {w : World} (h : wpT is G md ops Q S fuel l a w) : wpAnyH G md ops Q S fuel l a w := h
theorem wtkE {fuel : Nat} {l : Array Bool} {a : Act} {w : World} (h : wpAnyH G md ops Q S fuel l a w) : wpT [] G md ops Q S fuel l a w := h
theorem wtk {i : Nat} {is : List Nat} {oi : Oper} {v : Value} {fuel : Nat} {l : Array Bool} {a : Act} {w : World} (hi : ops[i]? = some oi)
  (hs : Region.noSelect ops = true) (hf : Region.free md ops l i = true) (hr : (Region.ready md ops l).contains i = true)
  (hQ : ∀ c a w, Q (.panic c) (a.put oi.dst v) w -> Q (.panic c) a w) (hy : YieldsIf G ops S oi v a) (hS : S w)
  (h : wpT is G md ops Q S fuel (l.setIfInBounds i true) (a.put oi.dst v) w) : wpT (i :: is) G md ops Q S (fuel + 1) l a w :=
 wpAnyH_take hi hs hf hr hQ hy hS h
end
end Go.Proofs.YteldjmecomngeaaGreat.V
