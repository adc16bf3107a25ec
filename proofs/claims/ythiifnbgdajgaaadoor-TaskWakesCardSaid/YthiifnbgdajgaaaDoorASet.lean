/- A task changed in an arena; one more. Conditions: each theorem's own premises. -/
import Derived.Test.YthiifnbgdajgaaaDoorAOps
import Derived.Test.YthiifnbgdajgaaaDoorLsq
namespace Go.Proofs.YthiifnbgdajgaaaDoor.Ar
open Go.RowKit
set_option linter.unusedVariables false
set_option maxRecDepth 100000
section
variable {B a most n c : Nat} {P : Option Addr} {D : List Tk}
theorem Chg.early {a : Nat} {o : Option Nat} {w w' : World} {ob : Obj} (h : Chg a o o (w.alloc ob).drew w') : Chg a o o w w' := by
  have hs : (w.alloc ob).drew.heap.size = w.heap.size + 1 := World.size_alloc w ob
  exact ⟨h.os, h.tape, h.output, by have := h.size; omega, fun k hk h1 h2 => (h.block k (by omega) h1 h2).trans (Below.heap_alloc w ob k hk), .inl rfl⟩
/-- One is changed. -/
def SetR (B a most n : Nat) (P : Option Addr) (c : Nat) (D : List Tk) (w : World) (e : Ending) (w' : World) : Prop :=
  e = .returned (.bool true) ∧ TA B w' a most n P c D ∧ Chg a (blk P) (blk P) w w'
theorem set_yes (x : Tk) (t : T0) (A : Option Addr) (cap : Nat) (w : World) (h : TA B w a most n P c D) (hl : D.length = n) (i : Nat) (hx : D[i]? = some x) : Calls Tryd.prog 30 #[.pointer (some ⟨a, 0, none⟩), .int .i64 (i : Int), .agg (tW t A cap)] w (SetR B a most n P c (D.set i ⟨t, A, cap⟩) w) := by
  have hi : i < n := by have := (List.getElem?_eq_some_iff.1 hx).1; omega
  obtain ⟨g, rfl, hgl, hrg, hth⟩ := TA.cells h hl hx
  have b1 : (i : Int) < (n : Int) := by omega
  have b2 : (0 : Int) ≤ (i : Int) := by omega
  have HA := Lib.hid h
  have HX := Lib.hid hx
  have HH := Lib.hid hth
  clear h hrg hx hth
  go_enter Tryd.func30, Tryd.ntmps30
  go_wp2_with fail
  refine (has_yes _ (HA.out.later (below_al w _)) i hi).mono ?_
  rintro e w' ⟨rfl, rfl⟩
  go_wp2_with fail
  have KP : Hid (∀ w', Below (w.alloc (.cells (tW t A cap) 47)).heap.size (w.alloc (.cells (tW t A cap) 47)) w' → w'.cell? ⟨a, 0, none⟩ = some (.slice (some ⟨g, 0, none⟩) n c) ∧ w'.rangeAt w.heap.size 0 (tW t A cap).toList) := fun w' hb => ⟨((HA.out.later (below_al w _)).later hb).c0, ((Bk.new w _ 47).later hb).range⟩
  have HT : (w.alloc (.cells (tW t A cap) 47)).drew.there g (i * 18) 18 := (World.there_drew ..).2 (World.there_alloc HH.out _)
  have HF : Hid (SetR B a most n (some ⟨g, 0, none⟩) c (D.set i ⟨t, A, cap⟩) w (.returned (.bool true)) ((w.alloc (.cells (tW t A cap) 47)).drew.setCells g (i * 18) (tW t A cap).toList)) := by
    have hA := HA.out.later (w' := (w.alloc (.cells (tW t A cap) 47)).drew) ((below_al w _).drew)
    have := hA.put tV_len rfl HX.out ⟨t, A, cap⟩
    exact ⟨rfl, this.1, Chg.early this.2⟩
  generalize HE : w.alloc (.cells (tW t A cap) 47) = w2 at *
  refine but_startQ 7 (fun w' => w'.cell? ⟨a, 0, none⟩ = some (.slice (some ⟨g, 0, none⟩) n c) ∧ w'.rangeAt w.heap.size 0 (tW t A cap).toList) (by kernel_rfl) (by as_aux_lemma => kernel_rfl) ?_
  intro hTidy
  have hHeld := KP.out w2.drew ((Below.refl _ _).drew)
  change AnyBut _ _ _ _ _ _ 8 _ _ _
  refine tkQ 0 rfl hTidy hHeld ?_
  refine tkQ 1 rfl hTidy hHeld ?_
  refine tkQ 2 rfl hTidy hHeld ?_
  refine tkQ 3 rfl hTidy hHeld ?_
  refine tkQ 4 rfl hTidy hHeld ?_
  refine tkL 5 (ty := 47) (.tmp 5) (tW t A cap) rfl hTidy hHeld rfl rfl (fun w h => h.2) Tryd.underlying47 rfl i47 ?_
  refine tkQ 6 rfl hTidy hHeld ?_
  try simp only [List.getElem_toArray, List.getElem_cons_succ, List.getElem_cons_zero, Act.put, List.setIfInBounds_toArray, List.set_cons_zero, List.set_cons_succ]
  refine but_one (i := 7) (by kernel_rfl) rfl ?_
  intro K hK
  rw [if_pos (by first | kernel_rfl | rfl)]
  refine wp_store_mid 47 (.tmp 17) (.tmp 16) rfl g (i * 18) (tW t A cap) rfl rfl HT i47 (tU_one ..) ?_
  refine hK _ _ (fun h => absurd rfl h) ?_
  clear hK K hHeld
  try simp only [List.getElem_toArray, List.getElem_cons_succ, List.getElem_cons_zero, Act.put]
  refine but_done (by kernel_rfl) ?_
  try clear hHeld
  clear hTidy
  go_wp2_with fail
  go_ret
  exact HF.out
/-- One more is there, under the next number. -/
def AddR (B a most n : Nat) (P : Option Addr) (D : List Tk) (w : World) (e : Ending) (w' : World) : Prop :=
  e = .returned (.tuple #[.int .i64 (n : Int), .int .i64 0]) ∧ ∃ g c', TA B w' a most (n + 1) (some ⟨g, 0, none⟩) c' D ∧ Chg a (blk P) (some g) w w'
theorem add_mid {wx w w1 : World} (hg : wx.grownBy w1 (Value.slice P n c).ownBlock) (h : TA B w a most n P c D) (hx : Below w.heap.size w wx) : w1.cell? ⟨a, 0, none⟩ = some (.slice P n c) ∧ w1.frozen? ⟨a, 0, none⟩ = false := by
  have hk := (hg.block a (by have := hx.size; have := h.lt; omega) (by rw [own_blk]; exact fun e => h.ne e.symm)).trans (hx.block a h.lt)
  exact ⟨(cell_blk hk 0).trans h.c0, (World.frozen?_of_block (a := ⟨a, 0, none⟩) hk).trans (h.fa 0)⟩
theorem snoc_eq (D : List Tk) (t : T0) (A : Option Addr) (cap : Nat) : D.flatMap tV ++ (tW t A cap).toList = (D ++ [(⟨t, A, cap⟩ : Tk)]).flatMap tV := by simp [tV]
theorem below_two {w wx : World} {o1 o2 : Obj} (hh : wx.heap = ((w.alloc o1).alloc o2).heap) (h1 : wx.os = w.os) (h2 : wx.tape = w.tape) (h3 : wx.output = w.output) : Below w.heap.size w wx :=
  ⟨h1, h2, h3, by rw [hh]; simp; omega, fun k hk => by rw [hh]; exact (Below.heap_alloc _ _ k (by simp; omega)).trans (Below.heap_alloc _ _ k hk)⟩
theorem add_room (t : T0) (A : Option Addr) (cap : Nat) (w : World) (h : TA B w a most n P c D) (hm : most ≤ 1000) (hn : n < most) (hB : B ≤ w.heap.size) : Calls Tryd.prog 24 #[.pointer (some ⟨a, 0, none⟩), .agg (tW t A cap)] w (AddR B a most n P (D ++ [⟨t, A, cap⟩]) w) := by
  obtain ⟨i0, hi, hz0, hz1, hz2⟩ := info_parts inf
  have b1 : (((most : Int) - (n : Int)) == 0) = false := by simp; omega
  have b2 : (n : Int) ≤ 1000 := by omega
  have b3 : (0 : Int) ≤ (n : Int) := by omega
  have HA := Lib.hid h
  have HV : Hid (∀ u ∈ (tW t A cap).toList, u.oneCell' = true) := tV_one ⟨t, A, cap⟩
  clear h
  go_enter Tryd.func24, Tryd.ntmps24
  go_wp2_with fail
  refine (left_any _ (HA.out.later (below_al w _)) hm).mono ?_
  rintro e w' ⟨rfl, q, rfl⟩
  go_wp2_with fail
  have HB1 := Lib.hid ((below_al w (.cells (tW t A cap) 47)).trans (below_drewN _ q |>.mono (Nat.le_of_lt (by simp))))
  have HK := Lib.hid ((Bk.new w (tW t A cap) 47).drewN q)
  generalize (w.alloc (.cells (tW t A cap) 47)).drewN q = w3 at *
  have KP : Hid (∀ w', Below w3.heap.size w3 w' → w'.cell? ⟨a, 0, none⟩ = some (.slice P n c) ∧ w'.rangeAt w.heap.size 0 (tW t A cap).toList) := fun w' hb => ⟨((HA.out.later HB1.out).later hb).c0, (HK.out.later hb).range⟩
  have HB3 : Hid (Below w3.heap.size w3 (w3.drew.alloc (.cells (tW t A cap) 47))) := ((Below.refl w3.heap.size w3).drew).alloc (Nat.le_refl _) _
  have HB2 := Lib.hid (HB1.out.trans ((((Below.refl w3.heap.size w3).drew).alloc (Nat.le_refl _) (.cells (tW t A cap) 47)).mono HB1.out.size))
  refine but_startQ 10 (fun w' => w'.cell? ⟨a, 0, none⟩ = some (.slice P n c) ∧ w'.rangeAt w.heap.size 0 (tW t A cap).toList) (by kernel_rfl) (by as_aux_lemma => kernel_rfl) ?_
  intro hTidy
  have hHeld := KP.out w3.drew ((Below.refl _ _).drew)
  change AnyBut _ _ _ _ _ _ 11 _ _ _
  refine tkQ 0 rfl hTidy hHeld ?_
  refine tkQ 1 rfl hTidy hHeld ?_
  refine tkQ 2 rfl hTidy hHeld ?_
  refine tkQ 3 rfl hTidy hHeld ?_
  refine tkQ 4 rfl hTidy hHeld ?_
  refine tkL 5 (ty := 47) (.tmp 3) (tW t A cap) rfl hTidy hHeld rfl rfl (fun w h => h.2) Tryd.underlying47 rfl i47 ?_
  try simp only [List.getElem_toArray, List.getElem_cons_succ, List.getElem_cons_zero, Act.put, List.setIfInBounds_toArray, List.set_cons_zero, List.set_cons_succ]
  refine but_one (i := 6) (by kernel_rfl) rfl ?_
  intro K hK
  rw [if_pos (by first | kernel_rfl | rfl)]
  refine wp_run (ex_bs rfl rfl build_slice) ?_
  have hHeld2 := KP.out _ HB3.out
  refine hK _ _ (fun _ => hHeld2) ?_
  clear hK K hHeld
  have hHeld := hHeld2
  clear hHeld2
  try simp only [List.getElem_toArray, List.getElem_cons_succ, List.getElem_cons_zero, Act.put, List.setIfInBounds_toArray, List.set_cons_zero, List.set_cons_succ]
  try simp only [List.getElem_toArray, List.getElem_cons_succ, List.getElem_cons_zero, Act.put, List.setIfInBounds_toArray, List.set_cons_zero, List.set_cons_succ]
  refine but_one (i := 7) (by kernel_rfl) rfl ?_
  intro K hK
  refine step_append_lies _ (by rfl) _ _ _ (by rfl) B 47 i0 (.agg zR) 18 160 Tryd.underlying74 hi hz0 hz1 hz2 rfl (by omega) (.slice P n c) n (D.flatMap tV) (by rfl) (row_later HA.out.own HB2.out) ⟨w3.heap.size, 0, none⟩ 1 1 (tW t A cap).toList (by rfl) (by rfl) (World.news_of_block (cs := tW t A cap) (t := 47) (fr := (0, 0)) (heap_alloc_new w3.drew _)) HV.out (by omega) (by unfold maxLen; omega) (by omega) (Nat.le_trans hB HB2.out.size) (w3.heap.size + 1) (by simp) ?_
  intro g cap1 w4 hown hgrow hat hlt1
  have HM := add_mid hgrow HA.out HB2.out
  have HE := Lib.hid (AR.added HA.out hn (by decide) HB2.out hown hgrow (hat.imp id (by have := HB1.out.size; omega)))
  have HR2 : w4.rangeAt w.heap.size 0 (tW t A cap).toList := (((HK.out.later HB3.out).keep (hgrow.block w.heap.size (Nat.lt_of_lt_of_le HK.out.lt HB3.out.size) (by rw [own_blk]; exact fun e => absurd (row_lt HA.out.own e.symm).2 (Nat.lt_irrefl _)))).range)
  have hHeld2 := And.intro HM.1 HR2
  refine hK _ _ (fun _ => hHeld2) ?_
  clear hK K hHeld
  have hHeld := hHeld2
  clear hHeld2
  try simp only [List.getElem_toArray, List.getElem_cons_succ, List.getElem_cons_zero, Act.put, List.setIfInBounds_toArray, List.set_cons_zero, List.set_cons_succ]
  try simp only [List.getElem_toArray, List.getElem_cons_succ, List.getElem_cons_zero, Act.put, List.setIfInBounds_toArray, List.set_cons_zero, List.set_cons_succ]
  refine but_one (i := 8) (by kernel_rfl) rfl ?_
  intro K hK
  go_simp
  have hHeld2 := hHeld
  refine hK _ _ (fun _ => hHeld2) ?_
  clear hK K hHeld
  have hHeld := hHeld2
  clear hHeld2
  try simp only [List.getElem_toArray, List.getElem_cons_succ, List.getElem_cons_zero, Act.put, List.setIfInBounds_toArray, List.set_cons_zero, List.set_cons_succ]
  refine tkQ 9 rfl hTidy hHeld ?_
  try simp only [List.getElem_toArray, List.getElem_cons_succ, List.getElem_cons_zero, Act.put, List.setIfInBounds_toArray, List.set_cons_zero, List.set_cons_succ]
  refine but_one (i := 10) (by kernel_rfl) rfl ?_
  intro K hK
  go_simp
  refine hK _ _ (fun h => absurd rfl h) ?_
  clear hK K hHeld
  try simp only [List.getElem_toArray, List.getElem_cons_succ, List.getElem_cons_zero, Act.put]
  refine but_done (by kernel_rfl) ?_
  try clear hHeld
  clear hTidy
  go_wp2_with fail
  go_ret2
  have h9 := HE.out
  rw [snoc_eq] at h9
  exact ⟨rfl, g, cap1, h9⟩
end
end Go.Proofs.YthiifnbgdajgaaaDoor.Ar
