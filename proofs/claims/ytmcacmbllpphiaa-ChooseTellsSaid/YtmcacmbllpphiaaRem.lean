/- Remove takes a task out. Conditions: the Queue holds ns, not too many. -/
import Derived.Test.YtmcacmbllpphiaaPsh
namespace Go.Proofs.Ytmcacmbllpphiaa
open Go.RowKit
set_option linter.unusedVariables false

def isT (t : Int) (x : Wt) : Bool := x.t == t
def kp (t : Int) (ns : Ns) : Ns := ns.filter fun m => !isT t m.2
def ct (t : Int) (ns : Ns) : Nat := ns.countP fun m => isT t m.2
def RemR (s : Bool) (q : Nat) (R : Rs) (t : Int) (ns : Ns) (w : World) (e : Ending) (w' : World) : Prop := e = .returned (.int .i64 (ct t ns : Int)) ∧ LQ w' s q R (kp t ns) ∧ Tn (qF q ns) w w'
structure RemS (W : World) (s : Bool) (q : Nat) (R : Rs) (ns : Ns) (t : Int) (pre rest : Ns) (k : Nat) (wr : World) : Prop where
  e : ns = pre ++ rest
  lq : LQ wr s q R (kp t pre ++ rest)
  fr : Tn (qF q ns) W wr
  hk : k = ct t pre
theorem kp_sub (t : Int) (ns : Ns) : ∀ m ∈ kp t ns, m ∈ ns := fun m hm => (List.mem_filter.1 hm).1
theorem RemS.sub {W wr : World} {s : Bool} {q : Nat} {R : Rs} {ns : Ns} {t : Int} {pre rest : Ns} {k : Nat} (h : RemS W s q R ns t pre rest k wr) : ∀ m ∈ kp t pre ++ rest, m ∈ ns := fun m hm => by
  rw [h.e]
  rcases List.mem_append.1 hm with hm | hm
  · exact List.mem_append_left _ (kp_sub t pre m hm)
  · exact List.mem_append_right _ hm
theorem kp_le (t : Int) (ns : Ns) : (kp t ns).length ≤ ns.length := List.length_filter_le _ _
theorem ct_le (t : Int) (ns : Ns) : ct t ns ≤ ns.length := List.countP_le_length
theorem kp_out {t : Int} {x : Wt} (h : isT t x = true) (pre : Ns) (b : Nat) : kp t (pre ++ [(b, x)]) = kp t pre := by simp [kp, List.filter_append, h]
theorem kp_in {t : Int} {x : Wt} (h : isT t x = false) (pre : Ns) (b : Nat) : kp t (pre ++ [(b, x)]) = kp t pre ++ [(b, x)] := by simp [kp, List.filter_append, h]
theorem ct_out {t : Int} {x : Wt} (h : isT t x = true) (pre : Ns) (b : Nat) : ct t (pre ++ [(b, x)]) = ct t pre + 1 := by simp [ct, List.countP_append, h]
theorem ct_in {t : Int} {x : Wt} (h : isT t x = false) (pre : Ns) (b : Nat) : ct t (pre ++ [(b, x)]) = ct t pre := by simp [ct, List.countP_append, h]
theorem kp_map (t : Int) (ns : Ns) : (kp t ns).map (·.2) = (ns.map (·.2)).filter fun x => !isT t x := by simp [kp, List.filter_map]; rfl
theorem ct_map (t : Int) (ns : Ns) : ct t ns = (ns.map (·.2)).countP (isT t) := by simp [ct, List.countP_map]; rfl
theorem remove_any {w : World} {s : Bool} {q : Nat} {R : Rs} {ns : Ns} (t : Int) (h : LQ w s q R ns) (hl : ns.length ≤ 1000000) : Calls Try.prog 72 #[.pointer (some ⟨q, off s, none⟩), .int .i64 t] w (RemR s q R t ns w) := by
  have HS : Hid (RemS w s q R ns t [] ns 0 w) := ⟨rfl, h, Tn.refl _ _, rfl⟩
  have HL := Lib.hid h
  clear h
  go_enter Try.func72, Try.ntmps72
  go_wp2_with fail
  refine (head_any HL.out).mono ?_
  rintro e w' ⟨rfl, rfl⟩
  clear HL
  go_wp2_with fail
  go_loopg [5, 6] ns.length (fun m g p wr => ∃ (pre rest : Ns) (k : Nat), g = .int .i64 (k : Int) ∧ p = .pointer (adr (hd rest none)) ∧ rest.length = m ∧ Hid (RemS w s q R ns t pre rest k wr))
  case atStart => exact ⟨[], ns, 0, rfl, rfl, rfl, HS⟩
  case round =>
    obtain ⟨pre, rest, k, rfl, rfl, hm, hS⟩ := hrel
    have hk : k ≤ 1000000 := by
      have h1 := ct_le t pre
      have h2 := hS.out.hk
      have h3 : ns.length = pre.length + rest.length := by rw [hS.out.e, List.length_append]
      omega
    have k1 : (k : Int) ≤ 1000000 := by omega
    clear HS
    cases rest with
    | nil =>
      rw [hd_nil, adr_none]
      go_wp2_with fail
      go_ret
      obtain ⟨e, lq, fr, hk2⟩ := hS.out
      rw [List.append_nil] at e lq
      subst e
      exact ⟨ret_int (by rw [hk2]), lq, fr⟩
    | cons bx r =>
      obtain ⟨b, x⟩ := bx
      rw [hd_cons, adr_some]
      obtain ⟨s1, hN, s2⟩ := hS.out.lq.mid
      have c0 := hN.c0
      have hlen : (kp t pre).length ≤ 1000000 ∧ r.length ≤ 1000000 := by
        have h1 := kp_le t pre
        have h3 := congrArg List.length hS.out.e
        rw [List.length_append, List.length_cons] at h3
        omega
      by_cases hx : x.t = t
      · have hT := Lib.hid (show isT t x = true by simp [isT, hx])
        have k2 : (x.t == t) = true := by simp [hx]
        clear s1 hN s2
        have HM := Lib.hid hm
        have HN := Lib.hid hlen
        clear hm hlen hx
        go_wp2_with fail
        refine (cut_any hS.out.lq HN.out.1 HN.out.2).mono ?_
        rintro e w2 ⟨rfl, hq2, hb2, hf2⟩
        have c4 : w2.cell? ⟨b, 4, none⟩ = some (.pointer (adr (hd r none))) := by rw [cell_blk hb2]; exact hS.out.lq.mid.2.1.c4
        have HS2 : Hid (RemS w s q R ns t (pre ++ [(b, x)]) r (k + 1) w2) := ⟨by rw [hS.out.e]; simp, by rw [kp_out hT.out]; exact hq2, hS.out.fr.comp hf2 (fun k hk => .inl (qF_sub hS.out.sub k hk)), by rw [ct_out hT.out, hS.out.hk]⟩
        clear hq2 hb2 hf2 hS c0
        go_wp2_with fail
        go_roundg r.length
        case measure => have := HM.out; simp at this; omega
        case rel => exact ⟨pre ++ [(b, x)], r, k + 1, by go_num, rfl, rfl, HS2⟩
      · have hT := Lib.hid (show isT t x = false by simp [isT, hx])
        have k2 : (x.t == t) = false := by simp [hx]
        have c4 := hN.c4
        clear s1 hN s2
        have HM := Lib.hid hm
        clear hm hlen hx
        have HS2 : Hid (RemS w s q R ns t (pre ++ [(b, x)]) r k wr) := ⟨by rw [hS.out.e]; simp, by rw [kp_in hT.out, List.append_assoc]; exact hS.out.lq, hS.out.fr, by rw [ct_in hT.out, hS.out.hk]⟩
        clear hS
        go_wp2_with fail
        go_roundg r.length
        case measure => have := HM.out; simp at this; omega
        case rel => exact ⟨pre ++ [(b, x)], r, k, rfl, rfl, rfl, HS2⟩
end Go.Proofs.Ytmcacmbllpphiaa
