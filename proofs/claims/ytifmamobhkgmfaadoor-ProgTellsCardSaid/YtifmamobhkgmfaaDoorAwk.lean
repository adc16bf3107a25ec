/- The laws' own examples hold. Condition: the table lies in its variable. -/
import Derived.Test.YtifmamobhkgmfaaDoorInt
namespace Go.Proofs.YtifmamobhkgmfaaDoor
open Go.RowKit
set_option linter.unusedVariables false

abbrev cs2 : List Ca := [⟨false, 4, 0⟩, ⟨true, 5, 6⟩]
abbrev e15 (g : Nat) : In := ⟨15, 1, 2, 3, some ⟨g, 0, none⟩, 2, 2, true, cs2⟩
abbrev pl (op a b : Int) : In := ⟨op, a, b, 0, none, 0, 0, false, []⟩
theorem At_pl (w : World) (op a b : Int) : In.At w (pl op a b) := ⟨Nat.le_refl _, by show 0 ≤ _; omega, RdC.nil _ _⟩
theorem At_15 {w : World} {g : Nat} (h : RdC w (some ⟨g, 0, none⟩) 2 cs2) : In.At w (e15 g) := ⟨Nat.le_refl _, by show 2 ≤ _; omega, h⟩
theorem Check_new {w : World} (hF : FT w) (l : List In) (n : Nat) (cs : Array Value) (hn : l.length = n) (h : cs.toList = l.flatMap iV) (hat : ∀ e ∈ l, In.At w e) (b : Bool) (hc : checkB l 16 = b) (z : Int) (hz : eN b = z) :
    Calls Tryd.prog 14 #[.slice (some ⟨w.heap.size, 0, none⟩) n n] (w.alloc (.cells cs 36)) (fun e w' => e = .returned (.int .i64 z) ∧ Below w.heap.size w w') := by
  have hb := below_al w (.cells cs 36)
  refine (Check_any _ _ _ l _ (hF.later hb) (RdI.new w l n cs 36 hn h hat)).mono ?_
  rintro e w' ⟨rfl, h2⟩
  exact ⟨by rw [hc, hz], hb.trans (h2.mono hb.size)⟩

structure AwS (W w : World) (g : Nat) : Prop where
  bel : Below W.heap.size W w
  ft : FT w
  rd : RdC w (some ⟨g, 0, none⟩) 2 cs2
  lt : g + 1 < w.heap.size
  ce : ∀ j, w.cell? ⟨g + 1, j, none⟩ = (#[Value.int .i64 15, .int .i64 1, .int .i64 2, .int .i64 3, .slice (some ⟨g, 0, none⟩) 2 2, .bool true])[j]?
theorem AwS.later {W w w' : World} {g : Nat} (h : AwS W w g) (hb : Below w.heap.size w w') : AwS W w' g :=
  ⟨h.bel.trans (hb.mono h.bel.size), h.ft.later hb, h.rd.later hb, Nat.lt_of_lt_of_le h.lt hb.size, fun j => (cell_blk (hb.block _ h.lt) j).trans (h.ce j)⟩
theorem AwS.mk0 (W : World) (hF : FT W) : AwS W ((W.alloc (.cells #[.bool false, .int .i64 4, .int .i64 0, .bool true, .int .i64 5, .int .i64 6] 41)).alloc (.cells #[.int .i64 15, .int .i64 1, .int .i64 2, .int .i64 3, .slice (some ⟨W.heap.size, 0, none⟩) 2 2, .bool true] 36)) W.heap.size := by
  have h1 := below_al W (.cells #[.bool false, .int .i64 4, .int .i64 0, .bool true, .int .i64 5, .int .i64 6] 41)
  have h2 := below_al (W.alloc (.cells #[.bool false, .int .i64 4, .int .i64 0, .bool true, .int .i64 5, .int .i64 6] 41)) (.cells #[.int .i64 15, .int .i64 1, .int .i64 2, .int .i64 3, .slice (some ⟨W.heap.size, 0, none⟩) 2 2, .bool true] 36)
  have h3 := h1.trans (h2.mono h1.size)
  refine ⟨h3, hF.later h3, (RdC.new W cs2 2 _ 41 rfl rfl).later h2, by simp, fun j => ?_⟩
  rw [World.cell?_alloc_at _ _ _ _ (by simp)]

theorem chk1 {W w : World} {g : Nat} (h : AwS W w g) : Calls Tryd.prog 14 #[.slice (some ⟨w.heap.size, 0, none⟩) 2 2] (w.alloc (.cells #[.int .i64 15, .int .i64 1, .int .i64 2, .int .i64 3, .slice (some ⟨g, 0, none⟩) 2 2, .bool true, .int .i64 4, .int .i64 2, .int .i64 0, .int .i64 0, .slice none 0 0, .bool false] 36)) (fun e w' => e = .returned (.int .i64 0) ∧ Below w.heap.size w w') := by
  refine Check_new h.ft [e15 g, pl 4 2 0] 2 _ rfl rfl (fun e he => ?_) true rfl 0 rfl
  simp only [List.mem_cons, List.not_mem_nil, or_false] at he
  rcases he with rfl | rfl
  · exact At_15 h.rd
  · exact At_pl _ _ _ _
theorem chk2 {w : World} (h : FT w) : Calls Tryd.prog 14 #[.slice (some ⟨w.heap.size, 0, none⟩) 1 1] (w.alloc (.cells #[.int .i64 4, .int .i64 2, .int .i64 0, .int .i64 0, .slice none 0 0, .bool false] 36)) (fun e w' => e = .returned (.int .i64 1) ∧ Below w.heap.size w w') := by
  refine Check_new h [pl 4 2 0] 1 _ rfl rfl (fun e he => ?_) false rfl 1 rfl
  simp only [List.mem_cons, List.not_mem_nil, or_false] at he
  subst he; exact At_pl _ _ _ _
theorem chk3 {w : World} (h : FT w) : Calls Tryd.prog 14 #[.slice (some ⟨w.heap.size, 0, none⟩) 1 1] (w.alloc (.cells #[.int .i64 1, .int .i64 8, .int .i64 0, .int .i64 0, .slice none 0 0, .bool false] 36)) (fun e w' => e = .returned (.int .i64 1) ∧ Below w.heap.size w w') := by
  refine Check_new h [pl 1 8 0] 1 _ rfl rfl (fun e he => ?_) false rfl 1 rfl
  simp only [List.mem_cons, List.not_mem_nil, or_false] at he
  subst he; exact At_pl _ _ _ _
abbrev goB : Obj := .cells #[.int .i64 8, .int .i64 0, .int .i64 1, .int .i64 0, .slice none 0 0, .bool false] 36
theorem pr_go (w : World) : Pr.At (w.alloc goB) ⟨some ⟨w.heap.size, 0, none⟩, 1, 1, [pl 8 0 1]⟩ := by
  refine ⟨Nat.le_refl _, by show 1 ≤ _; omega, RdI.new w [pl 8 0 1] 1 _ 36 rfl rfl fun e he => ?_⟩
  simp only [List.mem_cons, List.not_mem_nil, or_false] at he
  subst he; exact At_pl _ _ _ _
theorem All_new {w : World} (hF : FT w) (l : List Pr) (n : Nat) (cs : Array Value) (hn : l.length = n) (h : cs.toList = l.flatMap pV) (hat : ∀ e ∈ l, Pr.At w e) (b : Bool) (hc : allB l = b) (z : Int) (hz : eN b = z) (N : Nat) (hN : N = w.heap.size) :
    Calls Tryd.prog 10 #[.slice (some ⟨N, 0, none⟩) n n] (w.alloc (.cells cs 29)) (fun e w' => e = .returned (.int .i64 z) ∧ Below w.heap.size w w') := by
  subst hN
  have hb := below_al w (.cells cs 29)
  refine (All_any _ _ _ l _ (hF.later hb) (RdP.new w l n cs 29 hn h hat)).mono ?_
  rintro e w' ⟨rfl, h2⟩
  exact ⟨by rw [hc, hz], hb.trans (h2.mono hb.size)⟩
theorem all1 {w : World} (h : FT w) : Calls Tryd.prog 10 #[.slice (some ⟨w.heap.size + 1, 0, none⟩) 2 2] ((w.alloc goB).alloc (.cells #[.slice (some ⟨w.heap.size, 0, none⟩) 1 1, .slice none 0 0] 29)) (fun e w' => e = .returned (.int .i64 0) ∧ Below w.heap.size w w') := by
  have hb := below_al w goB
  refine (All_new (h.later hb) [⟨some ⟨w.heap.size, 0, none⟩, 1, 1, [pl 8 0 1]⟩, ⟨none, 0, 0, []⟩] 2 _ rfl rfl (fun e he => ?_) true rfl 0 rfl _ (by simp)).mono fun e w' h2 => ⟨h2.1, hb.trans (h2.2.mono hb.size)⟩
  simp only [List.mem_cons, List.not_mem_nil, or_false] at he
  rcases he with rfl | rfl
  · exact pr_go w
  · exact ⟨Nat.le_refl _, by show 0 ≤ _; omega, RdI.nil _ _⟩
theorem all2 {w : World} (h : FT w) : Calls Tryd.prog 10 #[.slice (some ⟨w.heap.size + 1, 0, none⟩) 1 1] ((w.alloc goB).alloc (.cells #[.slice (some ⟨w.heap.size, 0, none⟩) 1 1] 29)) (fun e w' => e = .returned (.int .i64 1) ∧ Below w.heap.size w w') := by
  have hb := below_al w goB
  refine (All_new (h.later hb) [⟨some ⟨w.heap.size, 0, none⟩, 1, 1, [pl 8 0 1]⟩] 1 _ rfl rfl (fun e he => ?_) false rfl 1 rfl _ (by simp)).mono fun e w' h2 => ⟨h2.1, hb.trans (h2.2.mono hb.size)⟩
  simp only [List.mem_cons, List.not_mem_nil, or_false] at he
  subst he
  exact pr_go w
theorem all3 {w : World} (h : FT w) : Calls Tryd.prog 10 #[.slice none 0 0] w (fun e w' => e = .returned (.int .i64 1) ∧ Below w.heap.size w w') :=
  (All_any none 0 0 [] w h ⟨rfl, Rd.nil _ _ _ _, fun e he => by simp at he⟩)
theorem reads15 {W w : World} {g : Nat} (h : AwS W w g) : Calls Tryd.prog 17 #[vI (e15 g)] w (ListR [4, 5, 6] w) := by
  have h1 := Reads_any (e15 g) w h.ft h.rd
  rwa [show readL (e15 g) = [4, 5, 6] from by kernel_rfl] at h1
theorem writes15 {W w : World} {g : Nat} (h : AwS W w g) : Calls Tryd.prog 19 #[vI (e15 g)] w (ListR [1, 2, 3] w) := by
  have h1 := Writes_any (e15 g) w h.ft h.rd
  rwa [show writeL (e15 g) = [1, 2, 3] from by kernel_rfl] at h1
theorem ints3 {w : World} {A : Option Addr} {c : Nat} {l : List Int} (h : RdN w A 3 l) (cs : Array Value) (hcs : cs.toList = nV l) : Calls Tryd.prog 16 #[.slice A 3 c, .slice (some ⟨w.heap.size, 0, none⟩) 3 3] (w.alloc (.cells cs 3)) (fun e w' => e = .returned (.bool true) ∧ Below w.heap.size w w') := by
  have hb := below_al w (.cells cs 3)
  refine (Ints_yes (by omega) (h.later hb) (RdN.new w l 3 cs 3 h.1 hcs) rfl).mono ?_
  rintro e w' ⟨rfl, h2⟩
  exact ⟨rfl, hb.trans (h2.mono hb.size)⟩
theorem name32 {w : World} (h : FT w) : Calls Tryd.prog 12 #[.int .i64 32] w (StrR ⟨#[117, 110, 97, 102, 116, 101, 114]⟩ w) := Name_any 32 w h
theorem name0 {w : World} (h : FT w) : Calls Tryd.prog 12 #[.int .i64 0] w (StrR ⟨#[]⟩ w) := Name_any 0 w h

set_option maxRecDepth 100000 in
set_option maxHeartbeats 2000000 in
theorem awake_any (W : World) (hF : Hid (FT W)) : Calls Tryd.prog 9 #[] W (BoolR true W) := by
  have HA := Lib.hid (AwS.mk0 W hF.out)
  have HC := Lib.hid (chk1 HA.out)
  have hsz : ((W.alloc (.cells #[.bool false, .int .i64 4, .int .i64 0, .bool true, .int .i64 5, .int .i64 6] 41)).alloc (.cells #[.int .i64 15, .int .i64 1, .int .i64 2, .int .i64 3, .slice (some ⟨W.heap.size, 0, none⟩) 2 2, .bool true] 36)).heap.size = W.heap.size + 1 + 1 := by simp
  have HC' := HC.out
  rw [hsz] at HC'
  have HC1 := Lib.hid HC'
  clear HC HC' hsz
  go_enter Tryd.func9, Tryd.ntmps9
  go_wp2_with fail
  refine HC1.out.mono ?_
  clear HC1
  rintro e w1 ⟨rfl, hb⟩
  have HA1 := Lib.hid (HA.out.later (by rw [World.size_alloc, World.size_alloc]; exact hb))
  clear hb HA
  generalize W.heap.size = g at *
  go_wp2_with fail
  refine (chk2 HA1.out.ft).mono ?_
  rintro e w2 ⟨rfl, hb⟩
  have HA2 := Lib.hid (HA1.out.later hb)
  clear hb HA1
  go_wp2_with fail
  refine (chk3 HA2.out.ft).mono ?_
  rintro e w3 ⟨rfl, hb⟩
  have HA3 := Lib.hid (HA2.out.later hb)
  clear hb HA2
  go_wp2_with fail
  refine (all1 HA3.out.ft).mono ?_
  rintro e w4 ⟨rfl, hb⟩
  have HA4 := Lib.hid (HA3.out.later hb)
  clear hb HA3
  go_wp2_with fail
  refine (all2 HA4.out.ft).mono ?_
  rintro e w5 ⟨rfl, hb⟩
  have HA5 := Lib.hid (HA4.out.later hb)
  clear hb HA4
  go_wp2_with fail
  refine (all3 HA5.out.ft).mono ?_
  rintro e w6 ⟨rfl, hb⟩
  have HA6 := Lib.hid (HA5.out.later hb)
  clear hb HA5
  have i0 : w6.cell? ⟨g + 1, 0, none⟩ = some (.int .i64 15) := HA6.out.ce 0
  have i1 : w6.cell? ⟨g + 1, 1, none⟩ = some (.int .i64 1) := HA6.out.ce 1
  have i2 : w6.cell? ⟨g + 1, 2, none⟩ = some (.int .i64 2) := HA6.out.ce 2
  have i3 : w6.cell? ⟨g + 1, 3, none⟩ = some (.int .i64 3) := HA6.out.ce 3
  have i4 : w6.cell? ⟨g + 1, 4, none⟩ = some (.slice (some ⟨g, 0, none⟩) 2 2) := HA6.out.ce 4
  have i5 : w6.cell? ⟨g + 1, 5, none⟩ = some (.bool true) := HA6.out.ce 5
  go_wp2_with fail
  clear i0 i1 i2 i3 i4 i5
  refine (reads15 HA6.out).mono ?_
  rintro e w7 ⟨hb, A, c, hc1, hc2, rfl, hR⟩
  have HA7 := Lib.hid (HA6.out.later hb)
  have HR : Hid (RdN w7 A 3 [4, 5, 6]) := hR
  clear hb HA6 hR
  simp only [List.length_cons, List.length_nil, Nat.reduceAdd] at hc1 ⊢
  go_wp2_with fail
  refine (ints3 HR.out _ rfl).mono ?_
  rintro e w8 ⟨rfl, hb⟩
  have HA8 := Lib.hid (HA7.out.later hb)
  clear hb HA7 HR
  have i0 : w8.cell? ⟨g + 1, 0, none⟩ = some (.int .i64 15) := HA8.out.ce 0
  have i1 : w8.cell? ⟨g + 1, 1, none⟩ = some (.int .i64 1) := HA8.out.ce 1
  have i2 : w8.cell? ⟨g + 1, 2, none⟩ = some (.int .i64 2) := HA8.out.ce 2
  have i3 : w8.cell? ⟨g + 1, 3, none⟩ = some (.int .i64 3) := HA8.out.ce 3
  have i4 : w8.cell? ⟨g + 1, 4, none⟩ = some (.slice (some ⟨g, 0, none⟩) 2 2) := HA8.out.ce 4
  have i5 : w8.cell? ⟨g + 1, 5, none⟩ = some (.bool true) := HA8.out.ce 5
  go_wp2_with fail
  clear i0 i1 i2 i3 i4 i5
  refine (writes15 HA8.out).mono ?_
  rintro e w9 ⟨hb, A2, c2, hc3, hc4, rfl, hR⟩
  have HA9 := Lib.hid (HA8.out.later hb)
  have HR : Hid (RdN w9 A2 3 [1, 2, 3]) := hR
  clear hb HA8 hR
  simp only [List.length_cons, List.length_nil, Nat.reduceAdd] at hc3 ⊢
  go_wp2_with fail
  refine (ints3 HR.out _ rfl).mono ?_
  rintro e w10 ⟨rfl, hb⟩
  have HA10 := Lib.hid (HA9.out.later hb)
  clear hb HA9 HR
  go_wp2_with fail
  refine (name32 HA10.out.ft).mono ?_
  rintro e w11 ⟨rfl, hb⟩
  have HA11 := Lib.hid (HA10.out.later hb)
  clear hb HA10
  go_wp2_with fail
  refine (name0 HA11.out.ft).mono ?_
  rintro e w12 ⟨rfl, hb⟩
  have HA12 := Lib.hid (HA11.out.later hb)
  clear hb HA11
  go_wp2_with fail
  go_ret
  exact ⟨rfl, HA12.out.bel⟩
end Go.Proofs.YtifmamobhkgmfaaDoor
