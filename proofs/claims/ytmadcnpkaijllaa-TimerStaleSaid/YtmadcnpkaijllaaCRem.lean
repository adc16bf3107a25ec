/- Remove takes a task out. Conditions: the Queue holds ns, not too many. -/
import Derived.Test.YtmadcnpkaijllaaCPsh
namespace Go.Proofs.Ytmadcnpkaijllaa.Ch
open Go.RowKit
set_option linter.unusedVariables false
set_option maxRecDepth 100000

def isT (t : Int) (x : Wt) : Bool := x.t == t
def kp (t : Int) (ns : Ns) : Ns := ns.filter fun m => !isT t m.2
def ct (t : Int) (ns : Ns) : Nat := ns.countP fun m => isT t m.2
def RemR (s : Bool) (q : Nat) (R : Rs) (t : Int) (ns : Ns) (w : World) (e : Ending) (w' : World) : Prop := e = .returned (.int .i64 (ct t ns : Int)) ∧ LQ w' s q R (kp t ns) ∧ Tn (qF q ns) w w'
structure RemS (W : World) (s : Bool) (q : Nat) (R : Rs) (ns : Ns) (t : Int) (pre rest : Ns) (k : Nat) (wr : World) : Prop where
  e : ns = pre ++ rest
  lq : LQ wr s q R (kp t pre ++ rest)
  fr : Tn (qF q ns) W wr
  hk : k = ct t pre
theorem kp_sub (t : Int) (ns : Ns) : ∀ m ∈ kp t ns, m ∈ ns := fun m hm => (List.mem_filter.1 hm).1
theorem RemS.sub {W wr : World} {s : Bool} {q : Nat} {R : Rs} {ns : Ns} {t : Int} {pre rest : Ns} {k : Nat} (h : RemS W s q R ns t pre rest k wr) : ∀ m ∈ kp t pre ++ rest, m ∈ ns := fun m hm => by
  rw [h.e]
  rcases List.mem_append.1 hm with hm | hm
  · exact List.mem_append_left _ (kp_sub t pre m hm)
  · exact List.mem_append_right _ hm
theorem kp_le (t : Int) (ns : Ns) : (kp t ns).length ≤ ns.length := List.length_filter_le _ _
theorem ct_le (t : Int) (ns : Ns) : ct t ns ≤ ns.length := List.countP_le_length
theorem kp_out {t : Int} {x : Wt} (h : isT t x = true) (pre : Ns) (b : Nat) : kp t (pre ++ [(b, x)]) = kp t pre := by simp [kp, List.filter_append, h]
theorem kp_in {t : Int} {x : Wt} (h : isT t x = false) (pre : Ns) (b : Nat) : kp t (pre ++ [(b, x)]) = kp t pre ++ [(b, x)] := by simp [kp, List.filter_append, h]
theorem ct_out {t : Int} {x : Wt} (h : isT t x = true) (pre : Ns) (b : Nat) : ct t (pre ++ [(b, x)]) = ct t pre + 1 := by simp [ct, List.countP_append, h]
theorem ct_in {t : Int} {x : Wt} (h : isT t x = false) (pre : Ns) (b : Nat) : ct t (pre ++ [(b, x)]) = ct t pre := by simp [ct, List.countP_append, h]
theorem kp_map (t : Int) (ns : Ns) : (kp t ns).map (·.2) = (ns.map (·.2)).filter fun x => !isT t x := by simp [kp, List.filter_map]; rfl
theorem ct_map (t : Int) (ns : Ns) : ct t ns = (ns.map (·.2)).countP (isT t) := by simp [ct, List.countP_map]; rfl
end Go.Proofs.Ytmadcnpkaijllaa.Ch
