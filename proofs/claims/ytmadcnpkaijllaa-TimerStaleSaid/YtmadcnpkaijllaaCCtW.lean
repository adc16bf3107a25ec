/- cut walked, at each of the four places. Conditions: the Queue has the link there. -/
import Derived.Test.YtmadcnpkaijllaaCCut
namespace Go.Proofs.Ytmadcnpkaijllaa.Ch
open Go.RowKit
set_option linter.unusedVariables false
set_option maxRecDepth 100000

section
variable {w : World} {s : Bool} {R : Rs} {q b : Nat} {x : Wt}
theorem cut_one (h : LQ w s q R [(b, x)]) : Calls Try.prog 58 #[.pointer (some ⟨q, off s, none⟩), .pointer (some ⟨b, 0, none⟩)] w (CutR s q R b [(b, x)] [] w) := by
  have HE := Lib.hid (CutR.one h)
  have hne := h.ne (b, x) (by simp)
  have hN := h.sg.1
  have n3 := hN.c3
  have n4 := hN.c4
  have q2 : w.cell? ⟨q, off s + 2, none⟩ = some (.int .i64 1) := h.hq.c2
  have q0 := h.hq.c0
  have q1 := h.hq.c1
  have f0 := h.hq.fz (off s)
  have f1 := h.hq.fz (off s + 1)
  have f2 := h.hq.fz (off s + 2)
  simp only [hd, lst, adr_none, adr_some] at n3 n4 q0 q1
  clear h hN
  cases s
  all_goals
   simp only [off, Nat.reduceAdd] at *
   go_enter Try.func58, Try.ntmps58
   go_wp2
   go_end0
   exact HE.out
theorem cut_first {c : Nat} {z : Wt} {r : Ns} (h : LQ w s q R ((b, x) :: (c, z) :: r)) (hl : r.length ≤ 1000000) : Calls Try.prog 58 #[.pointer (some ⟨q, off s, none⟩), .pointer (some ⟨b, 0, none⟩)] w (CutR s q R b (((b, x) :: (c, z) :: r)) ((c, z) :: r) w) := by
  have HE := Lib.hid (CutR.first h)
  have hne := h.ne (b, x) (by simp)
  have hnc := h.ne (c, z) (by simp)
  have hbc := (nodup_mid (l := []) h.nd).2.1 (c, z) (by simp)
  have hN := h.sg.1
  have hC := h.sg.2.1
  have n3 := hN.c3
  have n4 := hN.c4
  have c3 := hC.c3
  have fc := hC.fz 3
  have q2 : w.cell? ⟨q, off s + 2, none⟩ = some (.int .i64 ((r.length : Int) + 1 + 1)) := h.hq.c2
  have q0 := h.hq.c0
  have f0 := h.hq.fz (off s)
  have f2 := h.hq.fz (off s + 2)
  simp only [hd, adr_none, adr_some] at n3 n4 q0 c3 hne hnc hbc
  clear h hN hC
  cases s
  all_goals
   simp only [off, Nat.reduceAdd] at *
   go_enter Try.func58, Try.ntmps58
   go_wp2_with fail
   go_region
   go_wp2
   go_end0
   exact HE.out.draw rfl rfl rfl rfl
theorem cut_last {a : Nat} {y : Wt} {l : Ns} (h : LQ w s q R (l ++ [(a, y)] ++ [(b, x)])) (hl : l.length ≤ 1000000) : Calls Try.prog 58 #[.pointer (some ⟨q, off s, none⟩), .pointer (some ⟨b, 0, none⟩)] w (CutR s q R b (l ++ [(a, y)] ++ [(b, x)]) (l ++ [(a, y)]) w) := by
  have HE := Lib.hid (CutR.last h)
  have hne := h.ne (b, x) (by simp)
  have hna := h.ne (a, y) (by simp)
  have hab := (nodup_mid h.nd).1 (a, y) (by simp)
  obtain ⟨s1, hN, _⟩ := h.mid
  have hA := ((Sg.app _ _ _ _).1 s1).2.1
  rw [lst_snoc] at hN
  have n3 := hN.c3
  have n4 := hN.c4
  have a4 := hA.c4
  have fa := hA.fz 4
  have q2 : w.cell? ⟨q, off s + 2, none⟩ = some (.int .i64 ((l.length : Int) + 1 + 1)) := by have := h.hq.c2; rw [this]; simp; omega
  have q1 := h.hq.c1
  rw [lst_snoc] at q1
  have f1 := h.hq.fz (off s + 1)
  have f2 := h.hq.fz (off s + 2)
  simp only [hd, adr_none, adr_some] at n3 n4 q1 a4 hne hna hab
  clear h hN hA s1
  cases s
  all_goals
   simp only [off, Nat.reduceAdd] at *
   go_enter Try.func58, Try.ntmps58
   go_wp2_with fail
   go_region
   go_wp2
   go_end0
   exact HE.out.draw rfl rfl rfl rfl
theorem cut_midst {a c : Nat} {y z : Wt} {l r : Ns} (h : LQ w s q R (l ++ [(a, y)] ++ (b, x) :: (c, z) :: r)) (hl : l.length ≤ 1000000) (hr : r.length ≤ 1000000) : Calls Try.prog 58 #[.pointer (some ⟨q, off s, none⟩), .pointer (some ⟨b, 0, none⟩)] w (CutR s q R b (l ++ [(a, y)] ++ (b, x) :: (c, z) :: r) (l ++ [(a, y)] ++ (c, z) :: r) w) := by
  have HE := CutR.midst h
  rw [show (((l ++ [(a, y)] ++ (c, z) :: r).length : Nat) : Int) = (l.length : Int) + (r.length : Int) + 2 from by simp; omega] at HE
  replace HE := Lib.hid HE
  have hne := h.ne (b, x) (by simp)
  have hna := h.ne (a, y) (by simp)
  have hnc := h.ne (c, z) (by simp)
  obtain ⟨hL, hR, _, hX⟩ := nodup_mid h.nd
  have hab := hL (a, y) (by simp)
  have hcb := hR (c, z) (by simp)
  have hac := hX (a, y) (by simp) (c, z) (by simp)
  obtain ⟨s1, hN, s2⟩ := h.mid
  have hA := ((Sg.app _ _ _ _).1 s1).2.1
  have hC := s2.1
  rw [lst_snoc] at hN
  have n3 := hN.c3
  have n4 := hN.c4
  have a4 := hA.c4
  have fa := hA.fz 4
  have c3 := hC.c3
  have fc := hC.fz 3
  have q2 : w.cell? ⟨q, off s + 2, none⟩ = some (.int .i64 ((l.length : Int) + (r.length : Int) + 3)) := by
    have := h.hq.c2
    rw [this, show (((l ++ [(a, y)] ++ (b, x) :: (c, z) :: r).length : Nat) : Int) = (l.length : Int) + (r.length : Int) + 3 from by simp; omega]
  have f2 := h.hq.fz (off s + 2)
  simp only [hd, adr_some] at n3 n4 a4 c3 hne hna hab hnc hcb hac
  have k1 : (0 : Int) ≤ (l.length : Int) + (r.length : Int) := by omega
  have k2 : (l.length : Int) + (r.length : Int) ≤ 2000000 := by omega
  have k3 : (l.length : Int) + (r.length : Int) + 3 - 1 = (l.length : Int) + (r.length : Int) + 2 := by omega
  clear h hN hA hC s1 s2 hL hR hX
  cases s
  all_goals
   simp only [off, Nat.reduceAdd] at *
   go_enter Try.func58, Try.ntmps58
   go_wp2_with fail
   go_region
   go_wp2_with fail
   go_region
   go_wp2
   go_end0
   exact HE.out.draw rfl rfl rfl rfl
end
/-- At any place. -/
theorem snoc_cases (l : Ns) : l = [] ∨ ∃ l0 a y, l = l0 ++ [(a, y)] := by
  rcases l.eq_nil_or_concat with h | ⟨l0, ⟨a, y⟩, h⟩
  · exact .inl h
  · exact .inr ⟨l0, a, y, by rw [h, List.concat_eq_append]⟩
theorem cut_any {w : World} {s : Bool} {R : Rs} {q b : Nat} {x : Wt} {l r : Ns} (h : LQ w s q R (l ++ (b, x) :: r)) (hl : l.length ≤ 1000000) (hr : r.length ≤ 1000000) : Calls Try.prog 58 #[.pointer (some ⟨q, off s, none⟩), .pointer (some ⟨b, 0, none⟩)] w (CutR s q R b (l ++ (b, x) :: r) (l ++ r) w) := by
  rcases snoc_cases l with rfl | ⟨l0, a, y, rfl⟩
  · cases r with
    | nil => exact cut_one h
    | cons cz r => exact cut_first h (by simp at hr; omega)
  · cases r with
    | nil => rw [List.append_nil]; exact cut_last h (by simp at hl; omega)
    | cons cz r => exact cut_midst h (by simp at hl; omega) (by simp at hr; omega)
end Go.Proofs.Ytmadcnpkaijllaa.Ch
