import Derived.Test.YteldjmecomngeaaGreatVRHA
import Derived.Test.YteldjmecomngeaaGreatVRHB
namespace Go.Proofs.YteldjmecomngeaaGreat.V
open Go.RowKit
open Go.Proofs
set_option linter.unusedVariables false
set_option linter.unusedSimpArgs false
set_option maxRecDepth 100000
theorem rst_ok (g b : Nat) (kv dv rv : Value) (F : Nat -> Prop) (v : VS) (op : Nat) (o1 : 1 <= op) (o2 : op <= 63) (hst : v.st = 1) (hlk : look v = ⟨op, (look v).x, 0⟩) (hf : rfa op v.D v.R = 0) (ht : v.m.tones.length <= 999000) (W : World) (h : RX W g b kv dv rv F v) :
  Calls Tryz.prog 38 #[.pointer (some ⟨g, 0, none⟩)] W fun e W' => e = .returned (.bool (op == 10)) /\ RY W W' g b kv F { (dn op (look v).x (beh v.pc op) v).v with pc := (dn op (look v).x (beh v.pc op) v).on } := by
 rcases P.num_cases op o1 (by omega) with rfl | rfl | rfl | rfl | rfl | rfl | rfl | rfl | rfl | rfl | rfl | rfl | rfl | rfl | rfl | rfl | rfl | rfl | rfl | rfl | rfl | rfl | rfl | rfl | rfl | rfl | rfl | rfl | rfl | rfl | rfl | rfl | rfl | rfl | rfl | rfl | rfl | rfl | rfl | rfl | rfl | rfl | rfl | rfl | rfl | rfl | rfl | rfl | rfl | rfl | rfl | rfl | rfl | rfl | rfl | rfl | rfl | rfl | rfl | rfl | rfl | rfl | rfl
 all_goals first | exact rst_RHA g b kv dv rv F v _ (look v).x (by decide) (by decide) (by decide) hst hlk hf ht W h | exact rst_RHB g b kv dv rv F v _ (look v).x (by decide) (by decide) (by decide) hst hlk hf ht W h
theorem rstep_any (g b : Nat) (kv dv rv : Value) (F : Nat -> Prop) (v : VS) (ht : v.m.tones.length <= 999000) (W : World) (h : RX W g b kv dv rv F v) :
  Calls Tryz.prog 38 #[.pointer (some ⟨g, 0, none⟩)] W fun e W' => e = .returned (.bool (step v).1) /\ RY W W' g b kv F (step v).2 := by
 by_cases q1 : v.st = 1
 ·by_cases q2 : (look v).f = 0
  ·obtain ⟨o1, o2, _⟩ := look_ok v q1 q2
   have hlk : look v = ⟨(look v).op, (look v).x, 0⟩ := by rw [<- q2]
   have hfa := dn_f (look v).op o1 (by omega) (look v).x (beh v.pc (look v).op) v h.dl h.rl
   by_cases q3 : rfa (look v).op v.D v.R = 0
   ·have e : step v = ((look v).op == 10, { (dn (look v).op (look v).x (beh v.pc (look v).op) v).v with pc := (dn (look v).op (look v).x (beh v.pc (look v).op) v).on }) := by
     unfold step doo; rw [if_pos q1, if_pos q2, hfa, if_pos q3, if_pos q3]
    rw [e]; exact rst_ok g b kv dv rv F v (look v).op o1 (by omega) q1 hlk q3 ht W h
   ·have e : step v = (false, fail (rfa (look v).op v.D v.R) v) := by
     unfold step doo; rw [if_pos q1, if_pos q2, hfa, if_neg q3]
    rw [e]; exact rst_fa g b kv dv rv F v (look v).op (look v).x _ o1 (by omega) q1 hlk rfl q3 W h
  ·have e : step v = (false, fail (look v).f v) := by
    unfold step; rw [if_pos q1, if_neg q2]
   rw [e]; exact rst_lk g b kv dv rv F v _ q1 rfl q2 W h
 ·have e : step v = (false, v) := by
   unfold step; rw [if_neg q1]
  rw [e]; exact rst_stop g b kv dv rv F v q1 W h
end Go.Proofs.YteldjmecomngeaaGreat.V
