/- As and Find find the first code of an error. Conditions: the error lies in memory, each group of it was made here; the variable errors.errorType reads as its program lays it. -/
import Derived.Test.YtbdicgnmaonjgaaDoorAs
namespace Go.Proofs.YtbdicgnmaonjgaaDoor
open Go.RowKit Go.Extern.Stop Go.Stop Go.Extern
set_option linter.unusedVariables false

/-- What errors.errorType reads as. -/
def ETy (W : World) : Prop := W.cell? ⟨0, 0, none⟩ = some (.iface 78 (.agg #[.pointer (some ⟨5, 29, none⟩)]))
theorem ETy.pos {W : World} (h : ETy W) : 0 < W.heap.size := World.block_lt_of_cell? W _ h
theorem ETy.below {W W' : World} (h : ETy W) (hb : Below W.heap.size W W') : ETy W' := by
  unfold ETy at *; rw [cell_blk (hb.block 0 (World.block_lt_of_cell? W _ h)) 0]; exact h

def AsP (b : Bool) (L : Nat) (R : World → Prop) (W : World) (e : Ending) (w : World) : Prop := e = .returned (.bool b) ∧ Below L W w ∧ R w
set_option maxRecDepth 100000 in
set_option maxHeartbeats 1000000 in
theorem goas_of (T : TypeId) (u : Value) (W : World) (L : Nat) (b : Bool) (hE : ETy W) (hL : L < W.heap.size) (R : World → Prop)
    (h : Hid (∀ W1 vb, Below W.heap.size W W1 → W1.cell? ⟨vb, 0, none⟩ = some (.pointer (some ⟨L, 0, none⟩)) → Calls Tryd.prog 34 #[.iface T u, tgV L, vlV vb, tyV] W1 (AsP b L R W1))) :
    Calls Tryd.prog 25 #[.iface T u, tgV L] W (AsP b L R W) := by
  have hpos := hE.pos
  have v56 := Tryd.vOf56
  have t56 := Tryd.vType56
  have mK := Tryd.mKind
  have k56 := Tryd.kind56
  have k40 := Tryd.kind40
  have n8 := Tryd.isNil56 ⟨W.heap.size, 0, none⟩ ⟨L, 0, none⟩ ((W.alloc (.cells #[.pointer (some ⟨L, 0, none⟩)] 56)).alloc (.cells #[.pointer (some ⟨5, 56, none⟩), .pointer (some ⟨W.heap.size, 0, none⟩), .int .u64 150] 70)) (by simp)
  have mE := Tryd.mElem
  have e56 := Tryd.elem56
  have mI := Tryd.mImpl
  have i40 := Tryd.impl40
  have hg2 : ((W.alloc (.cells #[.pointer (some ⟨L, 0, none⟩)] 56)).alloc (.cells #[.pointer (some ⟨5, 56, none⟩), .pointer (some ⟨W.heap.size, 0, none⟩), .int .u64 150] 70)).cell? ⟨0, 0, none⟩ = some (.iface 78 (.agg #[.pointer (some ⟨5, 29, none⟩)])) := by
    rw [cell_al _ (by simp), cell_al _ hpos]; exact hE
  have HC := Lib.hid (h.out ((W.alloc (.cells #[.pointer (some ⟨L, 0, none⟩)] 56)).alloc (.cells #[.pointer (some ⟨5, 56, none⟩), .pointer (some ⟨W.heap.size, 0, none⟩), .int .u64 150] 70)) W.heap.size ((below_al _ _).alloc (by simp) _) (by simp))
  have HB : Hid (Below W.heap.size W ((W.alloc (.cells #[.pointer (some ⟨L, 0, none⟩)] 56)).alloc (.cells #[.pointer (some ⟨5, 56, none⟩), .pointer (some ⟨W.heap.size, 0, none⟩), .int .u64 150] 70))) := (below_al _ _).alloc (by simp) _
  clear h hE
  go_enter Tryd.func25, Tryd.ntmps25
  go_wp2_with fail
  refine HC.out.mono ?_
  rintro e w' ⟨rfl, hb, hr⟩
  have HB2 := Lib.hid hb
  have HR := Lib.hid hr
  clear hb hr
  go_wp2_with fail
  go_ret
  exact ⟨rfl, (HB.out.mono (Nat.le_of_lt hL)).trans HB2.out, HR.out⟩

set_option maxRecDepth 100000 in
theorem goas_nil (t : Value) (W : World) (L : Nat) : Calls Tryd.prog 25 #[.nilIface, t] W (AsP false L (fun _ => True) W) := by
  go_enter Tryd.func25, Tryd.ntmps25
  go_wp2_with fail
  go_ret
  exact ⟨rfl, Below.refl _ _, trivial⟩

def FndPost (x : Int) (b : Bool) (W : World) (e : Ending) (w : World) : Prop := e = .returned (.tuple #[.int .i64 x, .bool b]) ∧ Below W.heap.size W w

set_option maxRecDepth 100000 in
theorem find_yes (v : Value) (W : World) (x : Int) (h : Hid (∀ W1, Below W.heap.size W W1 → W.heap.size < W1.heap.size → W1.cell? ⟨W.heap.size, 0, none⟩ = some (.int .i64 0) → W1.frozen? ⟨W.heap.size, 0, none⟩ = false → Calls Tryd.prog 25 #[v, tgV W.heap.size] W1 (AsP true W.heap.size (fun w => w.cell? ⟨W.heap.size, 0, none⟩ = some (.int .i64 x)) W1))) :
    Calls Tryd.prog 16 #[v] W (FndPost x true W) := by
  have HC := Lib.hid (h.out (W.alloc (.cells #[.int .i64 0] 40)) (below_al _ _) (by simp) (by simp) (by simp))
  clear h
  go_enter_defers Tryd.func16, Tryd.ntmps16
  go_wp2_with (first | (go_at_call 25; (with_reducible refine HC.out.mono ?_); rintro e w' ⟨rfl, hb, hr⟩; have HB := Lib.hid hb; clear hb))
  refine leaves_cons (f := 24) (args := #[]) (by simp) (by simp [go_sem]) ?_
  refine (idle24 _).mono ?_
  rintro e u' w'' ⟨rfl, rfl, rfl⟩
  simp [Leaves, settle, results, Tryd.results16, go_sem]
  exact ⟨rfl, (below_al _ _).trans HB.out⟩
set_option maxRecDepth 100000 in
theorem find_no (v : Value) (W : World) (h : Hid (∀ W1, Below W.heap.size W W1 → W.heap.size < W1.heap.size → Calls Tryd.prog 25 #[v, tgV W.heap.size] W1 (AsP false W.heap.size (fun _ => True) W1))) :
    Calls Tryd.prog 16 #[v] W (FndPost 0 false W) := by
  have HC := Lib.hid (h.out (W.alloc (.cells #[.int .i64 0] 40)) (below_al _ _) (by simp))
  clear h
  go_enter_defers Tryd.func16, Tryd.ntmps16
  go_wp2_with (first | (go_at_call 25; (with_reducible refine HC.out.mono ?_); rintro e w' ⟨rfl, hb, _⟩; have HB := Lib.hid hb; clear hb))
  refine leaves_cons (f := 24) (args := #[]) (by simp) (by simp [go_sem]) ?_
  refine (idle24 _).mono ?_
  rintro e u' w'' ⟨rfl, rfl, rfl⟩
  simp [Leaves, settle, results, Tryd.results16, go_sem]
  exact ⟨rfl, (below_al _ _).trans HB.out⟩

theorem find_made (c : Int) (o : ByteArray) (ks : Fo) (hok : okF (.cons c o ks .nil)) (hsh : shortF (.cons c o ks .nil)) (W : World) (v : Value) (hv : EIs W (Lt W.heap.size) c o ks v) (hE : ETy W) :
    Calls Tryd.prog 16 #[v] W (FndPost (firstF (.cons c o ks .nil)) true W) := by
  obtain ⟨T, u, rfl⟩ := hv.made hok
  refine find_yes _ W _ fun W1 hb1 hs1 hc1 hf1 => goas_of T u W1 W.heap.size true (hE.below hb1) hs1 _ fun W2 vb hb2 hvc => ?_
  have hbb := hb1.trans (hb2.mono hb1.size)
  refine (as_any c o ks hok hsh W2 _ W.heap.size vb (.int .i64 0) (hv.agr (fun x hx => hbb.block x hx) (fun _ h => h)) (Nat.lt_of_lt_of_le hs1 hb2.size) ?_ ?_ hvc).mono fun e w ⟨h1, h2, h3⟩ => ⟨h1, h2, h3⟩
  · rw [cell_blk (hb2.block _ hs1)]; exact hc1
  · rw [hb2.frozen (p := ⟨W.heap.size, 0, none⟩) hs1]; exact hf1
theorem find_foreign (a : Value) (W : World) (hE : ETy W) : Calls Tryd.prog 16 #[.iface 52 a] W (FndPost 0 false W) :=
  find_no _ W fun W1 hb1 hs1 => goas_of 52 a W1 W.heap.size false (hE.below hb1) hs1 _ fun W2 vb hb2 hvc => (as_foreign W2 a _ _ ⟨vb, rfl⟩).mono fun e w ⟨h1, h2⟩ => ⟨h1, h2.mono (Nat.le_of_lt (Nat.lt_of_lt_of_le hs1 hb2.size)), trivial⟩
theorem find_nil (W : World) : Calls Tryd.prog 16 #[.nilIface] W (FndPost 0 false W) :=
  find_no _ W fun W1 hb1 hs1 => goas_nil _ W1 _
#print axioms find_made
end Go.Proofs.YtbdicgnmaonjgaaDoor
