/- The walk of the law on strange errors. Condition: the variable errors.errorType reads as its program lays it. -/
import Derived.Test.YtbdicgnmaonjgaaDoorAwk
namespace Go.Proofs.YtbdicgnmaonjgaaDoor
open Go.RowKit Go.Extern.Stop Go.Stop Go.Extern
set_option linter.unusedVariables false

theorem new_any (s : ByteArray) (W : World) : Calls Tryd.prog 15 #[.string s] W (fun e w => e = .returned (.iface 52 (.pointer (some ⟨W.heap.size, 0, none⟩))) ∧ Below W.heap.size W w) := by
  go_enter Tryd.func15, Tryd.ntmps15
  go_wp2_with fail
  go_ret
  exact ⟨rfl, below_al _ _⟩
theorem EIs.alien (w : World) (S : Nat → Prop) (a : Addr) : EIs w S 0 ⟨#[]⟩ .nil (.iface 52 (.pointer (some a))) := .inr (.inr ⟨rfl, rfl, rfl, .inr ⟨a, rfl⟩⟩)
theorem EIs.none (w : World) (S : Nat → Prop) : EIs w S 0 ⟨#[]⟩ .nil .nilIface := .inr (.inr ⟨rfl, rfl, rfl, .inl rfl⟩)
theorem mXA : mayB 0 allB (.cons 0 ⟨#[]⟩ .nil .nil) = false := by decide +kernel
theorem joinA (a : Addr) (w : World) : Calls Tryd.prog 9 #[.slice (some ⟨w.heap.size, 0, none⟩) 1 1] (w.alloc (.cells #[.iface 52 (.pointer (some a))] 29)) (NilPost (w.alloc (.cells #[.iface 52 (.pointer (some a))] 29))) := by
  refine (join_some [.iface 52 (.pointer (some a))] (.cons 0 ⟨#[]⟩ .nil .nil) ⟨by decide, trivial, trivial⟩ _ w.heap.size 0 1 (by simp) (by simp) (by simp) ?_ (by simp) ⟨EIs.alien _ _ a, trivial⟩).1 mXA
  intro j u hu
  match j, hu with
  | 0, hu => obtain rfl : Value.iface 52 (.pointer (some a)) = u := by simpa using hu
             exact ⟨by simp, .inr ⟨_, _, rfl⟩⟩
  | j + 1, hu => simp at hu

set_option maxRecDepth 100000 in
set_option maxHeartbeats 1000000 in
theorem strange_walk (s : ByteArray) (x : Int) (hs : s.size ≤ maxLen) (W : World) (hE : ETy W) : Calls Tryd.prog 6 #[.string s, .int .i64 x] W (BoolPost true W) := by
  unfold maxLen at hs
  by_cases hl : 100 < s.size
  · have HC := Lib.hid (awake_any W hE)
    clear hE
    go_enter Tryd.func6, Tryd.ntmps6
    go_wp2_with fail
    refine HC.out.mono ?_
    rintro e w1 ⟨rfl, hb⟩
    have HB := Lib.hid hb
    clear hb
    go_wp2_with fail
    go_ret
    exact ⟨rfl, HB.out⟩
  · have HT := Lib.hid hE
    clear hE
    go_enter Tryd.func6, Tryd.ntmps6
    go_wp2_with fail
    refine (new_any s W).mono ?_
    rintro e w1 ⟨rfl, hb⟩
    have HB1 := Lib.hid hb
    clear hb
    go_wp2_with fail
    refine ((shape_any 0 ⟨#[]⟩ .nil ⟨by decide, trivial, trivial⟩ w1 _ (EIs.alien _ _ _)).1 m0).mono ?_
    rintro e w2 ⟨rfl, hb⟩
    have HB2 := Lib.hid (HB1.out.trans (hb.mono HB1.out.size))
    clear hb HB1
    go_wp2_with fail
    have HB3 := Lib.hid (HB2.out.trans ((below_al w2 (.cells #[.int .i64 0, .string ⟨#[]⟩, .slice none 0 0] 27)).mono HB2.out.size))
    refine (find_foreign _ _ (HT.out.below HB3.out)).mono ?_
    rintro e w4 ⟨rfl, hb⟩
    have HB4 := Lib.hid (HB3.out.trans (hb.mono HB3.out.size))
    clear hb HB3 HB2
    go_wp2_with fail
    refine ((shape_any 0 ⟨#[]⟩ .nil ⟨by decide, trivial, trivial⟩ w4 _ (EIs.none _ _)).1 m0).mono ?_
    rintro e w5 ⟨rfl, hb⟩
    have HB5 := Lib.hid (HB4.out.trans (hb.mono HB4.out.size))
    clear hb HB4
    go_wp2_with fail
    have HB6 := Lib.hid (HB5.out.trans ((below_al w5 (.cells #[.int .i64 0, .string ⟨#[]⟩, .slice none 0 0] 27)).mono HB5.out.size))
    refine (has_of x _ _ false (gois_foreign x _ _)).mono ?_
    rintro e w6 ⟨rfl, hb⟩
    have HB7 := Lib.hid (HB6.out.trans (hb.mono HB6.out.size))
    clear hb HB6 HB5
    go_wp2_with fail
    refine (has_of x _ _ false (gois_nil x _)).mono ?_
    rintro e w7 ⟨rfl, hb⟩
    have HB8 := Lib.hid (HB7.out.trans (hb.mono HB7.out.size))
    clear hb HB7
    go_wp2_with fail
    refine ((wrap_any ⟨#[120]⟩ 0 ⟨#[]⟩ .nil ⟨by decide, trivial, trivial⟩ w7 _ (EIs.alien _ _ _)).1 mXn).mono ?_
    rintro e w8 ⟨rfl, hb⟩
    have HB9 := Lib.hid (HB8.out.trans (hb.mono HB8.out.size))
    clear hb HB8
    go_wp2_with fail
    refine (joinA _ w8).mono ?_
    rintro e w9 ⟨rfl, hb⟩
    have HB10 := Lib.hid (HB9.out.trans (((below_al w8 (.cells #[.iface 52 (.pointer (some ⟨W.heap.size, 0, none⟩))] 29)).trans (hb.mono (by simp))).mono HB9.out.size))
    clear hb HB9
    go_wp2_with fail
    refine (awake_any _ (HT.out.below HB10.out)).mono ?_
    rintro e w10 ⟨rfl, hb⟩
    have HB11 := Lib.hid (HB10.out.trans (hb.mono HB10.out.size))
    clear hb HB10
    go_wp2_with fail
    go_ret
    exact ⟨rfl, HB11.out⟩
#print axioms strange_walk
end Go.Proofs.YtbdicgnmaonjgaaDoor
