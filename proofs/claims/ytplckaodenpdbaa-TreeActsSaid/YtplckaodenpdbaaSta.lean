/- What a law knows: a tree of its own and rows of its own, apart; what each call makes of it. No condition. -/
import Derived.Test.YtplckaodenpdbaaAdd
import Derived.Test.YtplckaodenpdbaaDet
namespace Go.Proofs.Ytplckaodenpdbaa
open Go.RowKit
set_option linter.unusedVariables false
set_option maxRecDepth 100000

/-- A row of one's own: where, how wide, what. -/
structure Rr where
  P : Option Addr
  c : Nat
  l : List Int
def Rr.apart (a b : Rr) : Prop := ∀ k, blk a.P = some k → blk b.P ≠ some k
/-- Since W, block t has come to be the tree S, and there are rows; nothing that was there has turned. -/
structure LS (W : World) (t : Nat) (S : TS) (rs : List Rr) (w : World) : Prop where
  ex : ∃ F : Nat → Prop, TR F 0 S w t ∧ (∀ k, F k → W.heap.size ≤ k ∧ k < w.heap.size) ∧ ∀ r ∈ rs, ∀ k, blk r.P = some k → ¬ F k
  bel : Below W.heap.size W w
  rows : ∀ r ∈ rs, Rw 0 w r.P r.c r.l ∧ ∀ k, blk r.P = some k → W.heap.size ≤ k
  ap : rs.Pairwise Rr.apart
section
variable {W w w' : World} {t : Nat} {S S' : TS} {rs : List Rr}
theorem LS.later (h : LS W t S rs w) (hb : Below w.heap.size w w') : LS W t S rs w' := by
  obtain ⟨F, h1, h2, h3⟩ := h.ex
  exact ⟨⟨F, h1.later hb, fun k hk => ⟨(h2 k hk).1, Nat.lt_of_lt_of_le (h2 k hk).2 hb.size⟩, h3⟩, h.bel.trans (hb.mono h.bel.size), fun r hr => ⟨row_later (h.rows r hr).1 hb, (h.rows r hr).2⟩, h.ap⟩
theorem LS.drewN (h : LS W t S rs w) (q : Nat) : LS W t S rs (w.drewN q) := h.later (below_drewN w q)
theorem LS.alloc (h : LS W t S rs w) (o : Obj) : LS W t S rs (w.alloc o) := h.later (below_al w o)
theorem LS.wf (h : LS W t S rs w) : WF S := by obtain ⟨F, h1, _⟩ := h.ex; exact h1.wf
theorem LS.le (h : LS W t S rs w) : S.length ≤ 1000 := by obtain ⟨F, h1, _⟩ := h.ex; exact h1.le
theorem LS.sub (h : LS W t S rs w) {rs' : List Rr} (hs : rs'.Sublist rs) : LS W t S rs' w := by
  obtain ⟨F, h1, h2, h3⟩ := h.ex
  exact ⟨⟨F, h1, h2, fun r hr => h3 r (hs.subset hr)⟩, h.bel, fun r hr => h.rows r (hs.subset hr), h.ap.sublist hs⟩
/-- A call that changed the tree. -/
theorem LS.go {F : Nat → Prop} (h : LS W t S rs w) (h2 : ∀ k, F k → W.heap.size ≤ k ∧ k < w.heap.size) (h3 : ∀ r ∈ rs, ∀ k, blk r.P = some k → ¬ F k) (g : Go F 0 t S' w w') : LS W t S' rs w' := by
  have hs := g.2.size
  have hW := h.bel.size
  refine ⟨⟨fun k => okN F w.heap.size k ∧ k < w'.heap.size, g.1.mono fun k hk hf => ⟨hf, hk⟩, ?_, ?_⟩, h.bel.trans (g.2.below hW fun k hk => (h2 k hk).1), ?_, h.ap⟩
  · rintro k ⟨hk | hk, hl⟩
    · exact ⟨(h2 k hk).1, hl⟩
    · exact ⟨by omega, hl⟩
  · rintro r hr k hk ⟨hf | hf, _⟩
    · exact h3 r hr k hk hf
    · have := (row_lt (h.rows r hr).1 hk).2; omega
  · intro r hr
    refine ⟨row_keep (h.rows r hr).1 fun k hk => ?_, (h.rows r hr).2⟩
    exact g.2.block k (row_lt (h.rows r hr).1 hk).2 (h3 r hr k hk)
/-- A new row. -/
theorem LS.row {P : Option Addr} {c : Nat} {l : List Int} (h : LS W t S rs w) (hr : Rw w.heap.size w' P c l) (hb : Below w.heap.size w w') : LS W t S (⟨P, c, l⟩ :: rs) w' := by
  have h' := h.later hb
  obtain ⟨F, h1, h2, h3⟩ := h.ex
  have hW := h.bel.size
  have new : ∀ k, blk P = some k → w.heap.size ≤ k := fun k hk => (row_lt hr hk).1
  refine ⟨⟨F, h1.later hb, fun k hk => ⟨(h2 k hk).1, Nat.lt_of_lt_of_le (h2 k hk).2 hb.size⟩, ?_⟩, h'.bel, ?_, ?_⟩
  · intro r hr2 k hk hf
    rcases List.mem_cons.1 hr2 with rfl | hr2
    · have := new k hk; have := (h2 k hf).2; omega
    · exact h3 r hr2 k hk hf
  · intro r hr2
    rcases List.mem_cons.1 hr2 with rfl | hr2
    · exact ⟨row_low hr (Nat.zero_le _), fun k hk => by have := new k hk; omega⟩
    · exact h'.rows r hr2
  · rw [List.pairwise_cons]
    refine ⟨fun r hr2 k hk e => ?_, h.ap⟩
    have := new k hk; have := (row_lt (h.rows r hr2).1 e).2; omega
/-- A row has turned: a store into it, or an append. -/
theorem LS.turn {i : Nat} {r : Rr} {P' : Option Addr} {c' : Nat} {l' : List Int} (h : LS W t S rs w) (hr : rs[i]? = some r) (T : Tn (fun k => blk r.P = some k) w w') (own : Rw 0 w' P' c' l') (hat : ∀ k, blk P' = some k → blk r.P = some k ∨ w.heap.size ≤ k) : LS W t S (rs.set i ⟨P', c', l'⟩) w' := by
  obtain ⟨F, h1, h2, h3⟩ := h.ex
  have hW := h.bel.size
  have hs := T.size
  have hrm : r ∈ rs := List.mem_of_getElem? hr
  have key : ∀ (j : Nat) (x : Rr), (rs.set i ⟨P', c', l'⟩)[j]? = some x → (j = i ∧ x = ⟨P', c', l'⟩) ∨ (j ≠ i ∧ rs[j]? = some x) := fun j x hx => set_at hx
  have ap : ∀ (j : Nat) (x : Rr), rs[j]? = some x → j ≠ i → ∀ k, blk x.P = some k → blk r.P ≠ some k := by
    intro j x hx hne k hk e
    have hp := h.ap
    rw [List.pairwise_iff_getElem] at hp
    obtain ⟨hj, rfl⟩ := List.getElem?_eq_some_iff.1 hx
    obtain ⟨hi, rfl⟩ := List.getElem?_eq_some_iff.1 hr
    rcases Nat.lt_or_gt_of_ne hne with c | c
    · exact hp j i hj hi c k hk e
    · exact hp i j hi hj c k e hk
  refine ⟨⟨F, h1.keep fun k hk hf => T.block k hk fun e => h3 r hrm k e hf, fun k hk => ⟨(h2 k hk).1, Nat.lt_of_lt_of_le (h2 k hk).2 hs⟩, ?_⟩, h.bel.trans (T.below hW fun k hk => (h.rows r hrm).2 k hk), ?_, ?_⟩
  · intro x hx k hk hf
    obtain ⟨j, hj⟩ := List.getElem?_of_mem hx
    rcases key j x hj with ⟨_, rfl⟩ | ⟨_, hj⟩
    · rcases hat k hk with e | e
      · exact h3 r hrm k e hf
      · have := (h2 k hf).2; omega
    · exact h3 x (List.mem_of_getElem? hj) k hk hf
  · intro x hx
    obtain ⟨j, hj⟩ := List.getElem?_of_mem hx
    rcases key j x hj with ⟨_, rfl⟩ | ⟨hne, hj⟩
    · refine ⟨own, fun k hk => ?_⟩
      rcases hat k hk with e | e
      · exact (h.rows r hrm).2 k e
      · omega
    · have hx2 := h.rows x (List.mem_of_getElem? hj)
      exact ⟨row_keep hx2.1 fun k hk => T.block k (row_lt hx2.1 hk).2 (ap j x hj hne k hk), hx2.2⟩
  · rw [List.pairwise_iff_getElem]
    intro a b ha hb hab k hk e
    have xa := key a _ (List.getElem?_eq_getElem ha)
    have xb := key b _ (List.getElem?_eq_getElem hb)
    have lt : ∀ (j : Nat) (x : Rr), rs[j]? = some x → blk x.P = some k → k < w.heap.size := fun j x hj hk => (row_lt (h.rows x (List.mem_of_getElem? hj)).1 hk).2
    rcases xa with ⟨rfl, ea⟩ | ⟨na, ea⟩
    · rcases xb with ⟨rfl, eb⟩ | ⟨nb, eb⟩
      · omega
      · rw [ea] at hk
        rcases hat k hk with e1 | e1
        · exact ap b _ eb nb k e e1
        · have := lt b _ eb e; omega
    · rcases xb with ⟨rfl, eb⟩ | ⟨nb, eb⟩
      · rw [eb] at e
        rcases hat k e with e1 | e1
        · exact ap a _ ea na k hk e1
        · have := lt a _ ea hk; omega
      · have hp := h.ap
        rw [List.pairwise_iff_getElem] at hp
        obtain ⟨ha', ea'⟩ := List.getElem?_eq_some_iff.1 ea
        obtain ⟨hb', eb'⟩ := List.getElem?_eq_some_iff.1 eb
        rw [← ea'] at hk
        rw [← eb'] at e
        exact hp a b ha' hb' hab k hk e
theorem LS.own (h : LS W t S rs w) {i : Nat} {r : Rr} (hr : rs[i]? = some r) : Rw 0 w r.P r.c r.l := (h.rows r (List.mem_of_getElem? hr)).1

/-! The calls. -/
theorem new_ls (hb : Below W.heap.size W w) : Calls Try.prog 9 #[] w fun e w' => ∃ t, e = .returned (.pointer (some ⟨t, 0, none⟩)) ∧ LS W t [] [] w' := by
  have hs := hb.size
  refine (new_any w).mono ?_
  rintro e w' ⟨rfl, h, b⟩
  obtain ⟨P, c, D, x, o⟩ := h.ex
  have x0 : TX (fun k => w.heap.size ≤ k) 0 w' w.heap.size P c D := ⟨x.ht, row_low x.own (Nat.zero_le _), fun i d hd => row_low (x.kid i d hd) (Nat.zero_le _), x.apart, Nat.zero_le _, x.ft, x.fP, x.fk⟩
  refine ⟨_, rfl, ⟨fun k => w.heap.size ≤ k ∧ k < w'.heap.size, ⟨h.wf, h.le, P, c, D, x0.mono fun k hk hf => ⟨hf, hk⟩, o⟩, fun k hk => ⟨by have := hk.1; omega, hk.2⟩, fun r hr => by cases hr⟩, hb.trans (b.mono hs), fun r hr => (by cases hr), .nil⟩
def AddL (W : World) (t : Nat) (S S' : TS) (rs : List Rr) (e : Ending) (w' : World) : Prop := e = .returned (.tuple #[.int .i64 (S.length : Int), .int .i64 0]) ∧ Hid (LS W t S' rs w')
theorem add_ls (h : LS W t S rs w) {a : Array Value} (hc : ∀ F, TR F 0 S w t → Calls Try.prog 10 a w (AddR F 0 t S S' w)) : Calls Try.prog 10 a w fun e w' => AddL W t S S' rs e w' := by
  obtain ⟨F, h1, h2, h3⟩ := h.ex
  exact (hc F h1).mono fun e w' ⟨he, g⟩ => ⟨he, h.go h2 h3 g⟩
theorem root_ls (h : LS W t S rs w) (hn : S.length < 1000) (l : Bool) : Calls Try.prog 10 #[.pointer (some ⟨t, 0, none⟩), .int .i64 (-1), .bool l] w fun e w' => AddL W t S (S ++ [(-1, false)]) rs e w' := add_ls h fun F x => add_root w x hn l
theorem off_ls (h : LS W t S rs w) (hn : S.length < 1000) (i : Nat) (hi : i < S.length) : Calls Try.prog 10 #[.pointer (some ⟨t, 0, none⟩), .int .i64 (i : Int), .bool false] w fun e w' => AddL W t S (S ++ [((i : Int), false)]) rs e w' := add_ls h fun F x => add_off w x hn i hi
theorem hung_ls (h : LS W t S rs w) (hn : S.length < 1000) (i : Nat) (hi : i < S.length) : Calls Try.prog 10 #[.pointer (some ⟨t, 0, none⟩), .int .i64 (i : Int), .bool true] w fun e w' => AddL W t S (S ++ [((i : Int), true)]) rs e w' := add_ls h fun F x => add_hung w x hn i hi
theorem arg_ls (h : LS W t S rs w) (p : Int) (l : Bool) (hp : p < -1 ∨ (S.length : Int) ≤ p) : Calls Try.prog 10 #[.pointer (some ⟨t, 0, none⟩), .int .i64 p, .bool l] w fun e w' => e = .returned (.tuple #[.int .i64 0, .int .i64 1]) ∧ w = w' := by
  obtain ⟨F, h1, h2, h3⟩ := h.ex
  exact add_arg w h1 p l hp
theorem full_ls (h : LS W t S rs w) (hn : S.length = 1000) (p : Int) (l : Bool) (hp : p = -1 ∨ 0 ≤ p ∧ p < (S.length : Int)) : Calls Try.prog 10 #[.pointer (some ⟨t, 0, none⟩), .int .i64 p, .bool l] w fun e w' => e = .returned (.tuple #[.int .i64 0, .int .i64 3]) ∧ w = w' := by
  obtain ⟨F, h1, h2, h3⟩ := h.ex
  exact add_full w h1 hn p l hp
theorem cut_ls (h : LS W t S rs w) (i : Nat) {p : Nat} (hs : S[i]? = some ((p : Int), true)) : Calls Try.prog 12 #[.pointer (some ⟨t, 0, none⟩), .int .i64 (i : Int)] w fun e w' => e = .returned (.bool true) ∧ Hid (LS W t (cut S i) rs w') := by
  obtain ⟨F, h1, h2, h3⟩ := h.ex
  exact (detach_yes w h1 (fun k hk => (h2 k hk).2) i hs).mono fun e w' ⟨he, g⟩ => ⟨he, h.go h2 h3 g⟩
theorem uncut_ls (h : LS W t S rs w) (i : Nat) {p : Int} (hs : S[i]? = some (p, false)) : Calls Try.prog 12 #[.pointer (some ⟨t, 0, none⟩), .int .i64 (i : Int)] w fun e w' => e = .returned (.bool false) ∧ Hid (LS W t S rs w') := by
  obtain ⟨F, h1, h2, h3⟩ := h.ex
  exact (detach_off w h1 i hs).mono fun e w' ⟨he, b⟩ => ⟨he, h.later b⟩
/-- A new row is told. -/
def RowL (W : World) (t : Nat) (S : TS) (rs : List Rr) (l : List Int) (e : Ending) (w' : World) : Prop := ∃ P c n, Hid (n = l.length) ∧ e = .returned (.slice P n c) ∧ Hid (LS W t S (⟨P, c, l⟩ :: rs) w')
theorem row_ls (h : LS W t S rs w) {f : FuncId} {a : Array Value} {l : List Int} (hc : ∀ F, TR F 0 S w t → (∀ k, F k → k < w.heap.size) → Calls Try.prog f a w (RowR l w)) : Calls Try.prog f a w fun e w' => RowL W t S rs l e w' := by
  obtain ⟨F, h1, h2, h3⟩ := h.ex
  exact (hc F h1 fun k hk => (h2 k hk).2).mono fun e w' ⟨P, c, n, hn, he, hr, hb⟩ => ⟨P, c, n, hn, he, h.row hr hb⟩
theorem walk_ls (h : LS W t S rs w) (i : Nat) (hi : i < S.length) : Calls Try.prog 20 #[.pointer (some ⟨t, 0, none⟩), .int .i64 (i : Int)] w fun e w' => RowL W t S rs (nz (walk S i)) e w' := row_ls h fun F x hF => walk_yes w x hF i hi
theorem kids_ls (h : LS W t S rs w) (i : Nat) (hi : i < S.length) : Calls Try.prog 18 #[.pointer (some ⟨t, 0, none⟩), .int .i64 (i : Int)] w fun e w' => RowL W t S rs (nz (kids S i)) e w' := row_ls h fun F x hF => kids_yes w x i hi
theorem len_ls (h : LS W t S rs w) : Calls Try.prog 14 #[.pointer (some ⟨t, 0, none⟩)] w fun e w' => e = .returned (.int .i64 (S.length : Int)) ∧ w = w' := by
  obtain ⟨F, h1, h2, h3⟩ := h.ex
  exact len_any w h1
theorem under_ls (h : LS W t S rs w) (i : Nat) (hi : i < S.length) (top : Int) : Calls Try.prog 21 #[.pointer (some ⟨t, 0, none⟩), .int .i64 (i : Int), .int .i64 top] w fun e w' => e = .returned (.bool (upZ S i top)) ∧ w = w' := by
  obtain ⟨F, h1, h2, h3⟩ := h.ex
  exact under_yes w h1 i hi top
theorem ununder_ls (h : LS W t S rs w) (i top : Int) (hi : i < 0 ∨ (S.length : Int) ≤ i) : Calls Try.prog 21 #[.pointer (some ⟨t, 0, none⟩), .int .i64 i, .int .i64 top] w fun e w' => e = .returned (.bool false) ∧ w = w' := by
  obtain ⟨F, h1, h2, h3⟩ := h.ex
  exact under_no w h1 i top hi
theorem par_ls (h : LS W t S rs w) (i : Nat) {p : Int} {l : Bool} (hs : S[i]? = some (p, l)) : Calls Try.prog 15 #[.pointer (some ⟨t, 0, none⟩), .int .i64 (i : Int)] w fun e w' => e = .returned (.tuple #[.int .i64 p, .bool l, .bool true]) ∧ Hid (LS W t S rs w') := by
  obtain ⟨F, h1, h2, h3⟩ := h.ex
  exact (par_yes w h1 i hs).mono fun e w' ⟨he, b⟩ => ⟨he, h.later b⟩
end
end Go.Proofs.Ytplckaodenpdbaa
