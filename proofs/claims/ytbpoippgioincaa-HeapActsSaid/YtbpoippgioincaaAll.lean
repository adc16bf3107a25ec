/- What Rows and All of package heap answer. Conditions: each theorem's own premises. -/
import Derived.Test.YtbpoippgioincaaSee
import Derived.Test.YtbpoippgioincaaShl
namespace Go.Proofs.Ytbpoippgioincaa
open Go.RowKit Go.Sort
set_option linter.unusedVariables false
set_option maxRecDepth 100000
instance : Inhabited It := ⟨zI⟩
section
variable {B o b c n g : Nat} {p : Option Nat} {P : Option Addr} {S l : List It} {w w' : World}
theorem eI_get (x : It) (i : Nat) (hi : i < 3) : (eI x)[i]? = some ((eI x)[i]!) := by
  match i, hi with
  | 0, _ => rfl
  | 1, _ => rfl
  | 2, _ => rfl
theorem holds_of_own (h : w.ownsRow B 36 3 (.slice (some ⟨g, 0, none⟩) l.length c) l.length (iV l)) : HoldsK eI 3 w g 0 l.toArray := by
  intro j hj
  rw [size_flatK] at hj
  have hj' : j < l.length * 3 := by simpa using hj
  refine ⟨?_, by rw [Nat.zero_add]; exact h.frozenAt j⟩
  rw [get_flatK _ _ _ _ hj, Nat.zero_add, h.cellAt j hj']
  obtain ⟨x, hx⟩ := ex_at (l := l) (p := j / 3) (by omega)
  have e1 : l.toArray[j / 3]! = x := by
    have : j / 3 < l.length := by omega
    rw [List.getElem?_eq_some_iff] at hx
    obtain ⟨h1, h2⟩ := hx
    simp [h1, h2]
  have e2 := iV_at hx (j % 3) (by omega)
  rw [show j / 3 * 3 + j % 3 = j by omega] at e2
  rw [e1, e2]
  exact eI_get x _ (by omega)
theorem rt_of_holds {d : Array It} (h : HoldsK eI 3 w g 0 d) (hg : g < w.heap.size) : Rt w (some ⟨g, 0, none⟩) d.toList.length d.toList := by
  refine ⟨rfl, fun _ => ⟨g, 0, rfl, hg, fun j x hx => ?_⟩⟩
  have hj := at_lt hx
  have e1 : d[j]! = x := by
    rw [List.getElem?_eq_some_iff] at hx
    obtain ⟨h1, h2⟩ := hx
    have h1' : j < d.size := by simpa using h1
    simp [h1', ← h2]
  have hj' : j < d.size := by simpa using hj
  have h0 := (h.cell hj' (c := 0) (by omega)).1
  have h1 := (h.cell hj' (c := 1) (by omega)).1
  have h2 := (h.cell hj' (c := 2) (by omega)).1
  rw [e1] at h0 h1 h2
  exact ⟨h0, h1, h2⟩
theorem below_sort {d : Array It} {m : Nat} {os : Array Obj} (hB : B ≤ g) (hs : B ≤ w.heap.size) : Below B w (sortWorldK eI 3 w g 0 m d os) := by
  refine ⟨rfl, rfl, rfl, ?_, fun k hk => ?_⟩
  · show w.heap.size ≤ ((w.heap.modify g _) ++ os).size
    rw [Array.size_append, Array.size_modify]; omega
  · show ((w.heap.modify g _) ++ os)[k]? = w.heap[k]?
    rw [Array.getElem?_append_left (by rw [Array.size_modify]; omega), Array.getElem?_modify, if_neg (by omega)]
theorem lt_bool (x y : It) : ltOf ordI x y = true ↔ x.lt y := by unfold ltOf; simp [ord_neg]
theorem lt_false (x y : It) : ltOf ordI x y = false ↔ ¬ x.lt y := by unfold ltOf; simp [← ord_neg]
theorem swo_ord : SWO (ltOf ordI) where
  irrefl x := (lt_false x x).2 (It.lt_irrefl x)
  trans x y z h1 h2 := (lt_bool x z).2 (It.lt_trans ((lt_bool x y).1 h1) ((lt_bool y z).1 h2))
  ntrans x y z h1 h2 := by
    rw [lt_false] at *
    exact It.not_lt (It.le_trans (It.le_of_not h2) (It.le_of_not h1))
theorem sorted_is {n : Nat} {d d' : Array It} (hS : Ok n S) (hp : d.toList.Perm S) (h1 : PermIn 0 d.size d d') (h2 : SortedIn (ltOf ordI) 0 d.size d') : d'.toList = S := by
  obtain ⟨e1, _, e2⟩ := h1
  have e3 : d'.extract 0 d.size = d' := by rw [← e1]; exact Array.extract_size
  rw [e3, Array.extract_size] at e2
  have e4 := e2.trans hp
  refine e4.eq_of_pairwise (le := It.le) (fun a b ha hb hab hba => ?_) ?_ (hS.srt.imp fun h => It.le_of_lt h)
  · obtain ⟨i, hi, _⟩ := mem_at (e4.mem_iff.1 ha)
    obtain ⟨j, hj, _⟩ := mem_at hb
    have es : a.s = b.s := by unfold It.le at *; omega
    have a1 : (S.map It.s)[i]? = some a.s := by simp [hi]
    have a2 : (S.map It.s)[j]? = some b.s := by simp [hj]
    have := (List.getElem?_inj (by simp; exact at_lt hi) hS.one).1 (a1.trans ((congrArg some es).trans a2.symm))
    subst this
    rw [hi] at hj; injection hj
  · rw [List.pairwise_iff_getElem]
    intro i j hi hj hij
    have hi' : i < d'.size := by simpa using hi
    have hj' : j < d'.size := by simpa using hj
    have := h2 i j (Nat.zero_le _) hij (by omega)
    rw [lt_false] at this
    simp only [hi', hj', getElem!_pos] at this
    simpa using It.le_of_not this

theorem cmp_lays (g size : Nat) (w : World) : CmpLays Try.prog 47 #[] eI 3 ordI g 0 size w := fun _ _ _ _ x y => order_any x y _
theorem sort_any (h : w.ownsRow B 36 3 (.slice P l.length c) l.length (iV l)) (hS : Ok n S) (hp : l.Perm S) (hl : l.length ≤ 1000) (hB : B ≤ w.heap.size) :
    Calls Try.prog 46 #[.slice P l.length c, .func (.func 47) #[] #[]] w fun e w' => e = .returned (.tuple #[]) ∧ Rt w' P S.length S ∧ Below B w w' := by
  rcases h.2 with ⟨h1, h2⟩ | ⟨g, cap, cur, h1, _⟩
  · injection h1 with h1 h3 h4
    subst h1
    have h9 : l = [] := List.eq_nil_of_length_eq_zero h2
    subst h9
    have hS0 := hp.symm.eq_nil
    subst hS0
    refine (AnyF.slices_SortFunc_none (P := Try.prog) { Try.sortIt with } none c (.func (.func 47) #[] #[]) w).mono ?_
    rintro e w' ⟨rfl, rfl⟩
    exact ⟨rfl, Rt.nil _ _, Below.refl _ _⟩
  · injection h1 with h1 h3 h4
    subst h1
    have hb := row_lt h (k := g) rfl
    have eg : ∀ args w, (callFunc 47 args).run Try.prog w = .ok (.enter 47 args) w := enters_of Try.func47 (by kernel_rfl) rfl
    refine (AnyQ.slices_SortFunc Try.sortIt 3 Try.isAgg36 Try.sizeOf36 eI eI_len eI_one ordI swo_ord 47 #[] g 0 c l.toArray w eg (cmp_lays g _ w) (holds_of_own h) hb.2 (by simp; omega)).mono ?_
    rintro e w' ⟨rfl, d', m, os, q1, q2, rfl⟩
    have e1 := sorted_is hS (by simpa using hp) q1 q2
    have hh := holdsK_sortWorldK_c eI 3 w g 0 l.toArray d' m os (holds_of_own h) hb.2 q1.1
    have hbel : Below B w (sortWorldK eI 3 w g 0 m d' os) := below_sort hb.1 hB
    have hr := rt_of_holds hh (by
      show g < ((w.heap.modify g _) ++ os).size
      rw [Array.size_append, Array.size_modify]; omega)
    rw [e1] at hr
    exact ⟨rfl, hr, hbel⟩

theorem clone_any (h : w.ownsRow B 36 3 (.slice P l.length c) l.length (iV l)) (hl : l.length ≤ 1000) :
    Calls Try.prog 48 #[.slice P l.length c] w fun e w' => ∃ A c', e = .returned (.slice A l.length c') ∧ w'.ownsRow w.heap.size 36 3 (.slice A l.length c') l.length (iV l) ∧ Below w.heap.size w w' := by
  rcases h.2 with ⟨h1, h2⟩ | ⟨g, cap, cur, h1, _⟩
  · injection h1 with h1 h3 h4
    subst h1
    refine (AnyE.slices_Clone_nil Try.cloneIt l.length c w).mono ?_
    rintro e w' ⟨rfl, rfl⟩
    have h9 : l = [] := List.eq_nil_of_length_eq_zero h2
    subst h9
    exact ⟨none, 0, rfl, World.ownsRow_nil _ _ _ _, Below.refl _ _⟩
  · injection h1 with h1 h3 h4
    subst h1
    obtain ⟨i0, hi, hz0, hz1, hz2⟩ := info_parts inf36
    refine (AnyE.slices_Clone Try.cloneIt i0 _ 3 24 hi hz0 hz1 hz2 rfl (by omega) Try.sizeOf36 g 0 l.length c (iV l) w (iV_len l) (by unfold maxLen; omega) (by omega) (fun j u hu => ?_) (iV_one l)).mono ?_
    · have : j < (iV l).length := at_lt hu
      rw [iV_len] at this
      rw [Nat.zero_add, h.cellAt j this]; exact hu
    · rintro e w' ⟨v, rfl, hown, _, hb⟩
      rcases hown.2 with ⟨h1, h2⟩ | ⟨g', cap', cur', h1, _⟩
      · subst h1
        exact ⟨none, 0, by rw [h2], by rw [h2] at hown ⊢; exact hown, hb⟩
      · subst h1
        exact ⟨_, _, rfl, hown, hb⟩
/-- All as they stand, in a slice of its own. -/
def RowsR (S : List It) (w : World) (e : Ending) (w' : World) : Prop := ∃ A c l, e = .returned (.slice A l.length c) ∧ w'.ownsRow w.heap.size 36 3 (.slice A l.length c) l.length (iV l) ∧ Hp l ∧ l.Perm S ∧ Below w.heap.size w w'
theorem rows_any (h : HG B w o b p n S) (hl : S.length ≤ 1000) : Calls Try.prog 26 #[.pointer (some ⟨o, 0, none⟩)] w (RowsR S w) := by
  obtain ⟨P, c, m, f, e0, h1, h2, h3, h4⟩ := h
  have c0 := h1.c0
  have hm : m.length ≤ 1000 := by rw [h4.length_eq]; exact hl
  have HA := Lib.hid h1
  have HP := Lib.hid (And.intro h3 h4)
  clear h1 h2 h3 h4
  go_enter Try.func26, Try.ntmps26
  go_wp2_with fail
  refine (clone_any HA.out.own hm).mono ?_
  rintro e w' ⟨A, c', rfl, r1, r2⟩
  go_wp2_with fail
  go_ret
  exact ⟨A, c', m, rfl, r1, HP.out.1, HP.out.2, r2⟩
/-- All, in order, in a slice of its own. -/
def AllR (S : List It) (w : World) (e : Ending) (w' : World) : Prop := ∃ A c, e = .returned (.slice A S.length c) ∧ Rt w' A S.length S ∧ Below w.heap.size w w'
theorem all_any (h : HG B w o b p n S) (hS : Ok n S) (hl : S.length ≤ 1000) : Calls Try.prog 25 #[.pointer (some ⟨o, 0, none⟩)] w (AllR S w) := by
  have HA := Lib.hid (rows_any h hl)
  have HS := Lib.hid hS
  clear h hS
  go_enter Try.func25, Try.ntmps25
  go_wp2_with fail
  refine HA.out.mono ?_
  rintro e w1 ⟨A, c', l, rfl, r1, r2, r3, r4⟩
  have e1 := Lib.hid r3.length_eq
  go_wp2_with fail
  refine (sort_any r1 HS.out r3 (by have := e1.out; omega) r4.size).mono ?_
  rintro e w2 ⟨rfl, q1, q2⟩
  have HR : Hid (AllR S w (.returned (.slice A l.length c')) w2) := ⟨A, c', by rw [e1.out], q1, r4.trans q2⟩
  clear r1 r2 r3 r4 q1 q2 e1
  go_wp2_with fail
  go_ret
  exact HR.out
end
end Go.Proofs.Ytbpoippgioincaa
