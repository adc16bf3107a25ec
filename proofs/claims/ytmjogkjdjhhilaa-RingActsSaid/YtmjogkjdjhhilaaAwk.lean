/- The laws' own examples hold. No condition. -/
import Derived.Test.YtmjogkjdjhhilaaInts
namespace Go.Proofs.Ytmjogkjdjhhilaa
open Go.RowKit
set_option linter.unusedVariables false

/-- Since the call began a ring of its own has come to hold l; nothing that was there has turned. -/
structure ST (W : World) (a p sz : Nat) (l : List Int) (w : World) : Prop where
  bel : Below W.heap.size W w
  ga : W.heap.size ≤ a
  gp : W.heap.size ≤ p
  rg : RG w a p sz l
section
variable {W w w' : World} {a p sz : Nat} {l l' : List Int}
theorem ST.go (h : ST W a p sz l w) (r : RG w' a p sz l') (o : Only a p w w') : ST W a p sz l' w' := ⟨h.bel.trans (o.below h.ga h.gp), h.ga, h.gp, r⟩
theorem ST.later (h : ST W a p sz l w) (hb : Below w.heap.size w w') : ST W a p sz l w' := ⟨h.bel.trans (hb.mono h.bel.size), h.ga, h.gp, h.rg.later hb⟩
theorem ST.alloc (h : ST W a p sz l w) (o : Obj) : ST W a p sz l (w.alloc o) := h.later (below_al _ _)
theorem ST.drewN (h : ST W a p sz l w) (n : Nat) : ST W a p sz l (w.drewN n) := ⟨⟨h.bel.os, h.bel.tape, h.bel.output, h.bel.size, h.bel.block⟩, h.ga, h.gp, h.rg.keep rfl rfl⟩
end
theorem ST.start {n : Nat} {W w' : World} {e : Ending} (h : NewR n W e w') : ST W (W.heap.size + 1) W.heap.size n [] w' := ⟨h.2.2.1, Nat.le_succ _, Nat.le_refl _, h.2.1⟩
theorem Rn.new (w : World) (l : List Int) (n : Nat) (cs : Array Value) (hn : l.length = n) (h : cs = iA l) : Rn (w.alloc (.cells cs 3)) (w.alloc (.cells cs 3)).heap.size (some ⟨w.heap.size, 0, none⟩) n l := by
  subst h
  refine ⟨hn, fun _ => ⟨w.heap.size, 0, rfl, by simp, fun j u hu => ?_⟩⟩
  rw [Nat.zero_add, World.cell?_alloc_at _ _ _ _ rfl]
  exact iA_at hu

set_option maxRecDepth 100000 in
set_option maxHeartbeats 2000000 in
theorem awake_any (W : World) : Calls Try.prog 7 #[] W (BoolR true W) := by
  go_enter Try.func7, Try.ntmps7
  go_wp2_with fail
  refine (new_yes 2 W (by omega)).mono ?_
  rintro e w1 h1
  obtain rfl := h1.1
  have S1 := Lib.hid (ST.start h1)
  clear h1
  go_wp2_with fail
  refine (new_no 65 w1 (by omega)).mono ?_
  rintro e w' ⟨rfl, rfl⟩
  go_wp2_with fail
  refine (push_room 1 w1 S1.out.rg (by omega) (by decide)).mono ?_
  rintro e w2 ⟨rfl, r2, o2⟩
  have S2 : Hid (ST W (W.heap.size + 1) W.heap.size 2 [1] w2) := S1.out.go r2 o2
  clear r2 o2 S1
  go_wp2_with fail
  refine (push_room 2 w2 S2.out.rg (by omega) (by decide)).mono ?_
  rintro e w3 ⟨rfl, r3, o3⟩
  have S3 : Hid (ST W (W.heap.size + 1) W.heap.size 2 [1, 2] w3) := S2.out.go r3 o3
  clear r3 o3 S2
  go_wp2_with fail
  refine (push_full 3 w3 S3.out.rg rfl).mono ?_
  rintro e w4 ⟨rfl, r4, o4⟩
  have S4 : Hid (ST W (W.heap.size + 1) W.heap.size 2 [1, 2] w4) := S3.out.go r4 o4
  clear r4 o4 S3
  go_wp2_with fail
  refine (pop_some w4 S4.out.rg (by omega)).mono ?_
  rintro e w5 ⟨rfl, r5, o5⟩
  have S5 : Hid (ST W (W.heap.size + 1) W.heap.size 2 [2] w5) := S4.out.go r5 o5
  clear r5 o5 S4
  go_wp2_with fail
  refine (push_room 4 w5 S5.out.rg (by omega) (by decide)).mono ?_
  rintro e w6 ⟨rfl, r6, o6⟩
  have S6 : Hid (ST W (W.heap.size + 1) W.heap.size 2 [2, 4] w6) := S5.out.go r6 o6
  clear r6 o6 S5
  go_wp2_with fail
  refine (all_any w6 S6.out.rg (by omega)).mono ?_
  rintro e w7 ⟨A, c, rfl, R7, b7⟩
  have S7 := Lib.hid (S6.out.later b7)
  have HR : Hid (Rn w7 w7.heap.size A 2 [2, 4]) := R7
  clear R7 b7 S6
  go_wp2_with fail
  refine (pop_nil w7).mono ?_
  rintro e w' ⟨rfl, rfl⟩
  go_wp2_with fail
  refine (ints_eq (HR.out.later (below_al _ _)) (Rn.new w7 [2, 4] 2 #[.int .i64 2, .int .i64 4] rfl rfl) (by omega)).mono ?_
  rintro e w' ⟨rfl, q8, rfl⟩
  have S8 := Lib.hid ((S7.out.alloc (.cells #[.int .i64 2, .int .i64 4] 3)).drewN q8)
  generalize (w7.alloc (.cells #[.int .i64 2, .int .i64 4] 3)).drewN q8 = w8 at *
  clear S7 HR
  go_wp2_with fail
  refine (len_any w8 S8.out.rg).mono ?_
  rintro e w' ⟨rfl, rfl⟩
  go_wp2_with fail
  refine (size_any w8 S8.out.rg).mono ?_
  rintro e w' ⟨rfl, rfl⟩
  go_wp2_with fail
  refine (clear_any w8 S8.out.rg).mono ?_
  rintro e w9 ⟨rfl, r9, o9⟩
  have S9 := Lib.hid (S8.out.go r9 o9)
  clear r9 o9 S8
  go_wp2_with fail
  refine (len_any w9 S9.out.rg).mono ?_
  rintro e w' ⟨rfl, rfl⟩
  go_wp2_with fail
  refine (push_nil 1 w9).mono ?_
  rintro e w' ⟨rfl, qa, rfl⟩
  have SA := Lib.hid (S9.out.drewN qa)
  generalize w9.drewN qa = wa at *
  clear S9
  go_wp2_with fail
  refine (len_nil wa).mono ?_
  rintro e w' ⟨rfl, rfl⟩
  go_wp2_with fail
  go_ret
  exact ⟨rfl, SA.out.bel⟩
end Go.Proofs.Ytmjogkjdjhhilaa
