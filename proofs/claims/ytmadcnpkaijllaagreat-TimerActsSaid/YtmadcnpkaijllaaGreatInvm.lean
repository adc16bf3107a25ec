/- What holds of who is armed, behind each call. Conditions: each theorem's own premises.
Both sides' set beside one another; what holds of them. Conditions: each theorem's own premises.
Both sides make one: Timer, Ticker, Func, Lapse. Conditions: each theorem's own premises. -/
import Derived.Test.YtmadcnpkaijllaaGreatSrsm
import Derived.Test.YtmadcnpkaijllaaGreatRfi
namespace Go.Proofs.YtmadcnpkaijllaaGreat
open Go.RowKit Ch
set_option linter.unusedVariables false
set_option maxRecDepth 100000
/-- Who is armed is so in order; times and periods fit, and nobody else has a period; all their numbers are below N. -/
structure Inv (N n : Nat) (S : List It) (g : Int → Int) : Prop where
  ok : Ok n S
  ft : ∀ x ∈ S, Fit x.w
  fg : ∀ k, Fit (g k)
  nz : ∀ k, k ∉ ids S → g k = 0
  rn : ∀ k ∈ ids S, 0 ≤ k ∧ k < (N : Int)
section
variable {N n : Nat} {S : List It} {g : Int → Int} {k x y : Int}
theorem Inv.start : Inv 0 0 [] (fun _ => 0) := ⟨Ok.nil 0, fun x h => (by cases h), fun _ => ⟨by omega, by omega⟩, fun _ _ => rfl, fun k h => (by cases h)⟩
theorem Inv.up {N' : Nat} (h : Inv N n S g) (hN : N ≤ N') : Inv N' n S g := ⟨h.ok, h.ft, h.fg, h.nz, fun k hk => by have := h.rn k hk; omega⟩
theorem Inv.arm (h : Inv N n S g) (hx : Fit x) (hy : Fit y) (hk : 0 ≤ k ∧ k < (N : Int)) : Inv N (n + 1) (ins ⟨k, x, (n : Int) + 1⟩ (YtmadcnpkaijllaaGreat.del k S)) (fput g k y) := by
  refine ⟨(h.ok.del k).ins k x del_ids, fun z hz => ?_, fun j => ?_, fun j hj => ?_, fun j hj => ?_⟩
  · rcases ins_mem.1 hz with rfl | hz
    · exact hx
    · exact h.ft z (del_mem.1 hz).1
  · unfold fput; split
    · exact hy
    · exact h.fg j
  · have h1 : ¬ (j = k ∨ j ∈ ids (YtmadcnpkaijllaaGreat.del k S)) := fun e => hj (by rw [ids_ins.mem_iff]; simpa using e)
    have h2 : j ≠ k := fun e => h1 (.inl e)
    rw [fput_ne h2]
    exact h.nz j fun e => h1 (.inr (mem_del_ids.2 ⟨e, h2⟩))
  · have h1 : j = k ∨ j ∈ ids (YtmadcnpkaijllaaGreat.del k S) := by
      rw [ids_ins.mem_iff] at hj; simpa using hj
    rcases h1 with rfl | h1
    · exact hk
    · exact h.rn j (mem_del_ids.1 h1).1
theorem Inv.del (h : Inv N n S g) : Inv N n (YtmadcnpkaijllaaGreat.del k S) (fput g k 0) := by
  refine ⟨h.ok.del k, fun z hz => h.ft z (del_mem.1 hz).1, fun j => ?_, fun j hj => ?_, fun j hj => h.rn j (mem_del_ids.1 hj).1⟩
  · unfold fput; split
    · exact ⟨by omega, by omega⟩
    · exact h.fg j
  · by_cases e : j = k
    · subst e; exact fput_at _ _ _
    · rw [fput_ne e]
      exact h.nz j fun e2 => hj (mem_del_ids.2 ⟨e2, e⟩)
theorem Inv.both (h : Inv N n S g) : ∀ x ∈ S, Fit x.w ∧ Fit (g x.id) := fun x hx => ⟨h.ft x hx, h.fg x.id⟩
/-- As many are armed as there are numbers, at most. -/
theorem nodup_le : ∀ {N : Nat} {l : List Int}, l.Nodup → (∀ k ∈ l, 0 ≤ k ∧ k < (N : Int)) → l.length ≤ N
  | 0, [], _, _ => Nat.le_refl _
  | 0, a :: l, _, hr => by have := hr a (by simp); omega
  | N + 1, l, h, hr => by
    by_cases hm : (N : Int) ∈ l
    · have := nodup_le (N := N) (h.erase (N : Int)) (fun k hk => by
        have h1 := (h.mem_erase_iff).1 hk
        have h3 := hr k h1.2
        have h2 : k ≠ (N : Int) := h1.1
        omega)
      rw [List.length_erase_of_mem hm] at this
      omega
    · have := nodup_le (N := N) h (fun k hk => by
        have h1 := hr k hk
        have h2 : k ≠ (N : Int) := fun e => hm (e ▸ hk)
        omega)
      omega
theorem Inv.len (h : Inv N n S g) : S.length ≤ N := by
  have := nodup_le h.ok.ids h.rn
  simpa [ids] using this
theorem Inv.take (h : Inv N n S g) (now : Int) : Inv N (tk now n S g).2.1 (tk now n S g).2.2.1 (tk now n S g).2.2.2 ∧ (tk now n S g).2.1 ≤ n + 1 ∧ ∀ x, (tk now n S g).1 = some x → x ∈ S := by
  cases S with
  | nil => exact ⟨h, by show n ≤ n + 1; omega, fun x hx => by cases hx⟩
  | cons x r =>
    have ht := h.ok.tail
    have hdel := h.del (k := x.id)
    rw [ht.1] at hdel
    unfold tk
    by_cases h1 : now < x.w
    · simp only [if_pos h1]
      exact ⟨h, by omega, fun y hy => by cases hy⟩
    · by_cases h2 : Gon x.w (g x.id) now
      · simp only [if_neg h1, if_pos h2]
        refine ⟨?_, by omega, fun y hy => by injection hy with hy; subst hy; simp⟩
        have hr := h.rn x.id (mem_ids (by simp))
        have ha := h.arm (k := x.id) (x := nx x.w (g x.id) now) (y := g x.id) (by
          unfold Fit
          have := (h.ft x (by simp))
          have h4 := h.fg x.id
          unfold Fit at this h4
          have h5 := h2.2
          have h6 : nx x.w (g x.id) now ≤ 4611686018427387904 := by
            unfold nx; split
            · omega
            · exact hd_hi _
          omega) (h.fg x.id) hr
        rw [ht.1] at ha
        have e : fput g x.id (g x.id) = g := by
          funext y; unfold fput; split
          · rename_i e; rw [e]
          · rfl
        rw [e] at ha
        exact ha
      · simp only [if_neg h1, if_neg h2]
        exact ⟨hdel, by omega, fun y hy => by injection hy with hy; subst hy; simp⟩
end
end Go.Proofs.YtmadcnpkaijllaaGreat
namespace Go.Proofs.YtmadcnpkaijllaaGreat
open Go.RowKit Ch
set_option linter.unusedVariables false
set_option maxRecDepth 100000
/-- One that was made, as both sides hold it: its channel by its place. -/
structure Oc where
  kd : Int
  dt : Int
  q : Option Nat
  gn : Int
def on (B : List Nat) (x : Oc) : On := ⟨x.kd, x.dt, x.q.map fun j => (B[j]?).getD 0, x.gn⟩
/-- What holds of both behind k acts, and r firings of one more. -/
structure Iv (k r : Nat) (X : List Oc) (T : List CS) (m n : Nat) (S : List It) (g : Int → Int) (now : Int) : Prop where
  kd : ∀ x ∈ X, (x.kd = 1 ∨ x.kd = 2 ∨ x.kd = 3 ∨ x.kd = 4) ∧ 0 ≤ x.gn ∧ x.gn ≤ k
  ch : ∀ x ∈ X, ∀ j, x.q = some j → j < T.length
  ts : ∀ s ∈ T, s.kd = 1 ∧ s.sz = 1 ∧ s.cl = false ∧ s.ss = [] ∧ s.l.length ≤ 1 ∧ s.rs.length ≤ k
  inv : Inv X.length n S g
  m64 : m ≤ 64
  nn : n ≤ 200 * k + r
  xl : X.length ≤ k
  now : Fit now
/-- Both sides, and the bed that holds them. -/
structure BD (W : World) (b t mo : Nat) (B RC : List Nat) (X : List Oc) (T : List CS) (m n : Nat) (S : List It) (g : Int → Int) (now : Int) (w : World) : Prop where
  ss : SS W RC T t (X.map (on B)) m n S g (B.zip T) w
  rs : RS W mo (X.map (on RC)) m n S g w
  eB : B.length = T.length
  eC : RC.length = T.length
  cb : w.heap[b]? = some (.cells #[pS t, pM mo, .int .i64 now] 37 (0, 0))
  lo : W.heap.size ≤ b
def BE (W : World) (b t mo k : Nat) (w : World) : Prop := ∃ B RC X T m n S g now, BD W b t mo B RC X T m n S g now w ∧ Iv k 0 X T m n S g now
section
variable {W w w' w'' w1 w2 : World} {b t mo m n k i j c : Nat} {B RC : List Nat} {X : List Oc} {T : List CS} {S S' : List It} {g g' : Int → Int} {now : Int} {x : Oc} {s s' : CS} {v : Value} {e : Ending}
theorem BD.later (h : BD W b t mo B RC X T m n S g now w) (hb : Below w.heap.size w w') : BD W b t mo B RC X T m n S g now w' :=
  ⟨h.ss.later hb, h.rs.later hb, h.eB, h.eC, (hb.block b (lt_of_blk h.cb)).trans h.cb, h.lo⟩
theorem BE.later (h : BE W b t mo k w) (hb : Below w.heap.size w w') : BE W b t mo k w' := by
  obtain ⟨B, RC, X, T, m, n, S, g, now, h1, h2⟩ := h
  exact ⟨B, RC, X, T, m, n, S, g, now, h1.later hb, h2⟩
theorem BD.ms (h : BD W b t mo B RC X T m n S g now w) : MS W RC T (B.zip T) w := h.ss.ms
theorem on_at {B : List Nat} (hx : X[i]? = some x) : (X.map (on B))[i]? = some (on B x) := by simp [hx]
theorem on_len (B : List Nat) : (X.map (on B)).length = X.length := by simp
theorem on_more (B : List Nat) (c : Nat) (h : ∀ x ∈ X, ∀ j, x.q = some j → j < B.length) : X.map (on (B ++ [c])) = X.map (on B) := by
  apply List.map_congr_left
  intro x hx
  unfold on
  cases hq : x.q with
  | none => rfl
  | some j =>
    have := h x hx j hq
    simp [List.getElem?_append_left this]
theorem zip_snoc {B : List Nat} (h : B.length = T.length) (c : Nat) (s : CS) : (B ++ [c]).zip (T ++ [s]) = B.zip T ++ [(c, s)] := by
  rw [List.zip_append h]; rfl
theorem zip_at {B : List Nat} (hB : B[j]? = some c) (hT : T[j]? = some s) : (B.zip T)[j]? = some (c, s) := by
  rw [List.getElem?_zip_eq_some]; exact ⟨hB, hT⟩
theorem zip_set {B : List Nat} (hB : B[j]? = some c) (s : CS) : (B.zip T).set j (c, s) = B.zip (T.set j s) := by
  apply List.ext_getElem?
  intro i
  by_cases e : j = i
  · subst e
    by_cases hj : j < T.length
    · have hj2 : j < (B.zip T).length := by
        have := (List.getElem?_eq_some_iff.1 hB).1
        simp; omega
      rw [List.getElem?_set_self hj2]
      exact (zip_at hB (List.getElem?_set_self hj)).symm
    · rw [List.getElem?_eq_none (by simp; omega), List.getElem?_eq_none (by simp; omega)]
  · rw [List.getElem?_set_ne e]
    cases h1 : B[i]? with
    | none =>
      have := List.getElem?_eq_none_iff.1 h1
      rw [List.getElem?_eq_none (by simp; omega), List.getElem?_eq_none (by simp; omega)]
    | some a =>
      cases h2 : T[i]? with
      | none =>
        have := List.getElem?_eq_none_iff.1 h2
        rw [List.getElem?_eq_none (by simp; omega), List.getElem?_eq_none (by simp; omega)]
      | some d =>
        rw [zip_at h1 h2, zip_at h1 (by rw [List.getElem?_set_ne e]; exact h2)]
theorem on_ch {B : List Nat} (hB : B.length = T.length) (hq : x.q = some j) (hj : j < T.length) : ∃ c, B[j]? = some c ∧ (on B x).ch = some c := by
  have : j < B.length := by omega
  refine ⟨B[j], List.getElem?_eq_getElem this, ?_⟩
  unfold on; rw [hq]; simp [List.getElem?_eq_getElem this]
theorem on_none {B : List Nat} (hq : x.q = none) : (on B x).ch = none := by unfold on; rw [hq]; rfl
/-- The program's side has gone on. -/
structure BM (W : World) (b t mo : Nat) (E : List On) (m n : Nat) (S : List It) (g : Int → Int) (L : List (Nat × CS)) (RC : List Nat) (T : List CS) (E0 : List On) (m0 n0 : Nat) (S0 : List It) (g0 : Int → Int) (now : Int) (w : World) : Prop where
  ss : SS W RC T t E m n S g L w
  rs : RS W mo E0 m0 n0 S0 g0 w
  cb : w.heap[b]? = some (.cells #[pS t, pM mo, .int .i64 now] 37 (0, 0))
  lo : W.heap.size ≤ b
end
end Go.Proofs.YtmadcnpkaijllaaGreat
namespace Go.Proofs.YtmadcnpkaijllaaGreat
open Go.RowKit Ch
set_option linter.unusedVariables false
set_option maxRecDepth 100000
/-- The bed's own block. -/
def Bc (b t mo : Nat) (now : Int) (w : World) : Prop := w.heap[b]? = some (.cells #[pS t, pM mo, .int .i64 now] 37 (0, 0))
theorem Bc.later {b t mo : Nat} {now : Int} {w w' : World} (h : Bc b t mo now w) (hb : Below w.heap.size w w') : Bc b t mo now w' := (hb.block b (lt_of_blk h)).trans h
theorem Bc.cells {b t mo : Nat} {now : Int} {w : World} (h : Bc b t mo now w) : w.cell? ⟨b, 0, none⟩ = some (pS t) ∧ w.cell? ⟨b, 1, none⟩ = some (pM mo) ∧ w.cell? ⟨b, 2, none⟩ = some (.int .i64 now) ∧ w.frozen? ⟨b, 2, none⟩ = false := by
  refine ⟨?_, ?_, ?_, frozen_of_row w b 2 _ _ h⟩
  · rw [cell_of_row w b 0 _ _ _ h]; rfl
  · rw [cell_of_row w b 1 _ _ _ h]; rfl
  · rw [cell_of_row w b 2 _ _ _ h]; rfl
/-- The law's own blocks stay. -/
def Fz (w w' : World) : Prop := ∀ (k : Nat) (cs : Array Value) (ty : TypeId) (fr : Nat × Nat), w.heap[k]? = some (.cells cs ty fr) → (ty = 40 ∨ ty = 49 ∨ ty = 76) → w'.heap[k]? = some (.cells cs ty fr)
theorem Fz.refl (w : World) : Fz w w := fun _ _ _ _ h _ => h
theorem Fz.trans {u v w : World} (h : Fz u v) (k : Fz v w) : Fz u w := fun i cs ty fr h1 h2 => k i cs ty fr (h i cs ty fr h1 h2) h2
theorem Fz.of_below {w w' : World} (h : Below w.heap.size w w') : Fz w w' := fun k cs ty fr h1 _ => (h.block k (lt_of_blk h1)).trans h1
theorem OZ.fz {w w' : World} (h : OZ w w') : Fz w w' := fun k cs ty fr h1 h2 => h k cs ty fr h1 (by rcases h2 with rfl | rfl | rfl <;> decide)
theorem RY.fz {w w' : World} (h : RY w w') : Fz w w' := fun k cs ty fr h1 h2 => h.at h1 (by rcases h2 with rfl | rfl | rfl <;> decide)
/-- Two calls, one behind the other, that answer a number, a channel and an error: alike; and both sides have gone on by one act. -/
def Pr3 (W : World) (b t mo k : Nat) (now : Int) (f r : Nat) (xs : List Value) (w : World) : Prop :=
  ∃ (i c9 : Int) (z : Bool), Calls Tryz.prog f (pS t :: xs).toArray w fun e w1 => ∃ P : Option Addr, e = .returned (.tuple #[.int .i64 i, .pointer P, .int .i64 c9]) ∧ P.isNone = z ∧ Bc b t mo now w1 ∧ Fz w w1 ∧
    ∀ w', Below w1.heap.size w1 w' → Calls Tryz.prog r (pM mo :: xs).toArray w' fun e w2 => ∃ P' : Option Addr, e = .returned (.tuple #[.int .i64 i, .pointer P', .int .i64 c9]) ∧ P'.isNone = z ∧ BE W b t mo (k + 1) w2 ∧ Fz w' w2 ∧ Bc b t mo now w2
def isI (v : Value) : Prop := ∃ x, v = .int .i64 x
def isB (v : Value) : Prop := ∃ d, v = .bool d
/-- The same for two that answer a value and an error. -/
def Pr2 (K : Value → Prop) (W : World) (b t mo k : Nat) (now : Int) (f r : Nat) (xs : List Value) (w : World) : Prop :=
  ∃ (i : Value) (c9 : Int), K i ∧ Calls Tryz.prog f (pS t :: xs).toArray w fun e w1 => e = .returned (.tuple #[i, .int .i64 c9]) ∧ Bc b t mo now w1 ∧ Fz w w1 ∧
    ∀ w', Below w1.heap.size w1 w' → Calls Tryz.prog r (pM mo :: xs).toArray w' fun e w2 => e = .returned (.tuple #[i, .int .i64 c9]) ∧ BE W b t mo (k + 1) w2 ∧ Fz w' w2 ∧ Bc b t mo now w2
section
variable {W w w' w'' w1 w2 : World} {b t mo m n k i j c f r : Nat} {B RC : List Nat} {X : List Oc} {T : List CS} {S S' : List It} {g g' : Int → Int} {now d p : Int} {x : Oc} {s s' : CS} {v : Value} {e : Ending}
theorem OZ.bc {now : Int} (h : OZ w w') (hb : Bc b t mo now w) : Bc b t mo now w' := h b _ _ _ hb (by decide)
theorem RY.bc {now : Int} (h : RY w w') (hb : Bc b t mo now w) : Bc b t mo now w' := h.at hb (by decide)
theorem Iv.up {q : Nat} (h : Iv k q X T m n S g now) (hq : q ≤ 200 := by omega) : Iv (k + 1) 0 X T m n S g now :=
  ⟨fun x hx => ⟨(h.kd x hx).1, (h.kd x hx).2.1, by have := (h.kd x hx).2.2; omega⟩, h.ch, fun s hs => ⟨(h.ts s hs).1, (h.ts s hs).2.1, (h.ts s hs).2.2.1, (h.ts s hs).2.2.2.1, (h.ts s hs).2.2.2.2.1, by have := (h.ts s hs).2.2.2.2.2; omega⟩, h.inv, h.m64, by have := h.nn; omega, by have := h.xl; omega, h.now⟩
/-- Nothing has turned: both stand. -/
theorem BD.be (h : BD W b t mo B RC X T m n S g now w) (iv : Iv k 0 X T m n S g now) : BE W b t mo (k + 1) w := ⟨B, RC, X, T, m, n, S, g, now, h, iv.up⟩
/-- One more with a channel. -/
theorem iv_ch {kd : Int} (hkd : kd = 1 ∨ kd = 2) (iv : Iv k 0 X T m n S g now) (hm : m < 64) : Iv (k + 1) 0 (X ++ [⟨kd, 0, some T.length, 1⟩]) (T ++ [cN]) (m + 1) (n + 1) (ins ⟨(X.length : Int), wn now d, (n : Int) + 1⟩ (del (X.length : Int) S)) (fput g (X.length : Int) (per kd d)) now := by
  have u := iv.up
  refine ⟨fun x hx => ?_, fun x hx j hj => ?_, fun s hs => ?_, ?_, by omega, by have := iv.nn; omega, by have := iv.xl; simp; omega, iv.now⟩
  · rcases List.mem_append.1 hx with hx | hx
    · exact u.kd x hx
    · simp at hx; subst hx
      exact ⟨by rcases hkd with rfl | rfl <;> simp, by show (0 : Int) ≤ 1; decide, by show (1 : Int) ≤ ((k + 1 : Nat) : Int); omega⟩
  · rcases List.mem_append.1 hx with hx | hx
    · have := iv.ch x hx j hj; simp; omega
    · simp at hx; subst hx
      injection hj with hj; subst hj; simp
  · rcases List.mem_append.1 hs with hs | hs
    · exact u.ts s hs
    · simp at hs; subst hs
      exact ⟨rfl, rfl, rfl, rfl, by show 0 ≤ 1; omega, by show 0 ≤ k + 1; omega⟩
  · exact (iv.inv.up (by simp)).arm (wn_fit d iv.now) (per_fit kd d) ⟨by omega, by simp; omega⟩
theorem iv_fn {kd wh p : Int} (hkd : kd = 3 ∨ kd = 4) (iv : Iv k 0 X T m n S g now) (hw : Fit wh) {m' : Nat} (hm : m' ≤ 64) : Iv (k + 1) 0 (X ++ [⟨kd, p, none, 1⟩]) T m' (n + 1) (ins ⟨(X.length : Int), wh, (n : Int) + 1⟩ (del (X.length : Int) S)) (fput g (X.length : Int) 0) now := by
  have u := iv.up
  refine ⟨fun x hx => ?_, fun x hx j hj => ?_, u.ts, ?_, hm, by have := iv.nn; omega, by have := iv.xl; simp; omega, iv.now⟩
  · rcases List.mem_append.1 hx with hx | hx
    · exact u.kd x hx
    · simp at hx; subst hx
      exact ⟨by rcases hkd with rfl | rfl <;> simp, by show (0 : Int) ≤ 1; decide, by show (1 : Int) ≤ ((k + 1 : Nat) : Int); omega⟩
  · rcases List.mem_append.1 hx with hx | hx
    · exact iv.ch x hx j hj
    · simp at hx; subst hx; cases hj
  · exact (iv.inv.up (by simp)).arm hw (by decide) ⟨by omega, by simp; omega⟩
theorem on_snoc (B : List Nat) (x : Oc) : (X ++ [x]).map (on B) = X.map (on B) ++ [on B x] := by simp
/-- Timer and Ticker. -/
theorem pair_ch {kd : Int} (hkd : kd = 1 ∨ kd = 2) (h : BD W b t mo B RC X T m n S g now w) (iv : Iv k 0 X T m n S g now) (hk : k ≤ 120)
    (pk : ∀ {w : World} {E : List On} {L : List (Nat × CS)} {RC : List Nat} {RT : List CS}, SS W RC RT t E m n S g L w → DueOk kd now d → m < 64 → E.length < 100000 → n ≤ 1000000 → S.length < 1000 → Calls Tryz.prog f [pS t, .int .i64 now, .int .i64 d].toArray w (MkC W RC RT t E m n S g L kd now d (fun c => .tuple #[.int .i64 (E.length : Int), .pointer (some ⟨c, 0, none⟩), .int .i64 0]) w))
    (pn : ∀ {a : Int} (w : World), a ≠ 0 → (Calls Tryz.prog 45 #[pS t, .int .i64 kd, .int .i64 now, .int .i64 d, .int .i64 0] w fun e w' => e = .returned (.tuple #[.int .i64 0, .int .i64 a]) ∧ w = w') → Calls Tryz.prog f [pS t, .int .i64 now, .int .i64 d].toArray w fun e w' => e = .returned (.tuple #[.int .i64 0, .pointer none, .int .i64 a]) ∧ w = w')
    (rk : ∀ {w : World} {E : List On} {L : List (Nat × CS)}, RS W mo E m n S g w → MS W RC T L w → DueOk kd now d → m < 64 → E.length < 100000 → n ≤ 1000000 → S.length ≤ 999 → Calls Tryz.prog r [pM mo, .int .i64 now, .int .i64 d].toArray w (RkC W RC T mo E m n S g L kd now d (fun c => .tuple #[.int .i64 (E.length : Int), .pointer (some ⟨c, 0, none⟩), .int .i64 0]) w))
    (rn : ∀ {a : Int} (w : World), a ≠ 0 → (Calls Tryz.prog 55 #[pM mo, .int .i64 kd, .int .i64 now, .int .i64 d, .int .i64 0] w fun e w' => e = .returned (.tuple #[.int .i64 0, .int .i64 a]) ∧ w = w') → Calls Tryz.prog r [pM mo, .int .i64 now, .int .i64 d].toArray w fun e w' => e = .returned (.tuple #[.int .i64 0, .pointer none, .int .i64 a]) ∧ w = w') :
    Pr3 W b t mo k now f r [.int .i64 now, .int .i64 d] w := by
  have hX := iv.xl
  have hS := iv.inv.len
  have hN := iv.nn
  have no : ∀ a : Int, a ≠ 0 → (∀ w', BD W b t mo B RC X T m n S g now w' → Calls Tryz.prog 45 #[pS t, .int .i64 kd, .int .i64 now, .int .i64 d, .int .i64 0] w' fun e w'' => e = .returned (.tuple #[.int .i64 0, .int .i64 a]) ∧ w' = w'') →
      (∀ w', BD W b t mo B RC X T m n S g now w' → Calls Tryz.prog 55 #[pM mo, .int .i64 kd, .int .i64 now, .int .i64 d, .int .i64 0] w' fun e w'' => e = .returned (.tuple #[.int .i64 0, .int .i64 a]) ∧ w' = w'') → Pr3 W b t mo k now f r [.int .i64 now, .int .i64 d] w := fun a ha h1 h2 => by
    refine ⟨0, a, true, (pn w ha (h1 w h)).mono ?_⟩
    rintro e w1 ⟨rfl, rfl⟩
    refine ⟨none, rfl, rfl, h.cb, Fz.refl _, fun w' hb => (rn w' ha (h2 w' (h.later hb))).mono ?_⟩
    rintro e w2 ⟨rfl, rfl⟩
    exact ⟨none, rfl, rfl, (h.later hb).be iv, Fz.refl _, (h.later hb).cb⟩
  by_cases hd : DueOk kd now d
  · by_cases hm : m < 64
    · refine ⟨(X.length : Int), 0, false, (pk h.ss hd hm (by simp; omega) (by omega) (by omega)).mono ?_⟩
      rintro e w1 ⟨c, rfl, hs, ho⟩
      rw [on_len] at hs ⊢
      refine ⟨some ⟨c, 0, none⟩, rfl, rfl, ho.bc h.cb, ho.fz, fun w' hb => ?_⟩
      have hs2 := hs.later hb
      have hr2 := (h.rs.oz ho).later hb
      refine (rk hr2 hs2.ms hd hm (by simp; omega) (by omega) (by omega)).mono ?_
      rintro e w2 ⟨c2, rfl, q1, q2, q3⟩
      rw [on_len] at q1 ⊢
      have hB : ∀ x ∈ X, ∀ j, x.q = some j → j < B.length := fun x hx j hj => by rw [h.eB]; exact iv.ch x hx j hj
      have hC : ∀ x ∈ X, ∀ j, x.q = some j → j < RC.length := fun x hx j hj => by rw [h.eC]; exact iv.ch x hx j hj
      refine ⟨some ⟨c2, 0, none⟩, rfl, rfl, ⟨B ++ [c], RC ++ [c2], _, T ++ [cN], m + 1, n + 1, _, _, now, ⟨?_, ?_, by simp [h.eB], by simp [h.eC], q3.bc ((ho.bc h.cb).later hb), h.lo⟩, iv_ch (d := d) hkd iv hm⟩, q3.fz, q3.bc ((ho.bc h.cb).later hb)⟩
      · rw [zip_snoc h.eB, on_snoc, on_more B c hB]
        have e1 : on (B ++ [c]) ⟨kd, 0, some T.length, 1⟩ = ⟨kd, 0, some c, 1⟩ := by
          unfold on; simp [← h.eB]
        rw [e1]
        exact hs2.ry q3 q2
      · rw [on_snoc, on_more RC c2 hC]
        have e1 : on (RC ++ [c2]) ⟨kd, 0, some T.length, 1⟩ = ⟨kd, 0, some c2, 1⟩ := by
          unfold on; simp [← h.eC]
        rw [e1]
        exact q1
    · have hm4 : m = 64 := by have := iv.m64; omega
      subst hm4
      exact no 3 (by decide) (fun w' h' => start_full h'.ss hd (by decide)) (fun w' h' => rmake_full (by rcases hkd with e | e <;> simp [e]) h'.rs hd (by decide))
  · exact no 1 (by decide) (fun w' h' => start_due _ w' hd) (fun w' h' => rmake_bad _ w' (fun e => hd e.1))
theorem pair_timer (h : BD W b t mo B RC X T m n S g now w) (iv : Iv k 0 X T m n S g now) (hk : k ≤ 120) : Pr3 W b t mo k now 8 17 [.int .i64 now, .int .i64 d] w :=
  pair_ch (.inl rfl) h iv hk (fun h1 h2 h3 h4 h5 h6 => timer_ok h1 h2.1 h3 h4 h5 h6) (fun w ha hs => timer_no _ w ha hs)
    (fun h1 h2 h3 h4 h5 h6 h7 => rtimer_any (rwith_ok (.inl rfl) h1 h2 h3 iv.inv.ok h4 h5 h6 h7) fun e w' ⟨c, h1, _⟩ => ⟨_, _, _, h1⟩)
    (fun w ha hs => rtimer_any (rwith_no _ w ha hs) fun e w' h => ⟨_, _, _, h.1⟩)
theorem pair_ticker (h : BD W b t mo B RC X T m n S g now w) (iv : Iv k 0 X T m n S g now) (hk : k ≤ 120) : Pr3 W b t mo k now 11 18 [.int .i64 now, .int .i64 d] w :=
  pair_ch (.inr rfl) h iv hk (fun h1 h2 h3 h4 h5 h6 => ticker_ok h1 h2.1 (h2.2 rfl) h3 h4 h5 h6) (fun w ha hs => ticker_no _ w ha hs)
    (fun h1 h2 h3 h4 h5 h6 h7 => rticker_any (rwith_ok (.inr rfl) h1 h2 h3 iv.inv.ok h4 h5 h6 h7) fun e w' ⟨c, h1, _⟩ => ⟨_, _, _, h1⟩)
    (fun w ha hs => rticker_any (rwith_no _ w ha hs) fun e w' h => ⟨_, _, _, h.1⟩)
/-- Func and Lapse, where they make one. -/
theorem pair_fn {kd wh : Int} {m' : Nat} {xs : List Value} (hkd : kd = 3 ∨ kd = 4) (h : BD W b t mo B RC X T m n S g now w) (iv : Iv k 0 X T m n S g now) (hw : Fit wh) (hm : m' ≤ 64)
    (pk : Calls Tryz.prog f (pS t :: xs).toArray w (MkF W RC T t (X.map (on B)) m m' n S g (B.zip T) kd wh p w))
    (rk : ∀ w', RS W mo (X.map (on RC)) m n S g w' → Calls Tryz.prog r (pM mo :: xs).toArray w' (RkF W mo (X.map (on RC)) m m' n S g kd wh p w')) : Pr2 isI W b t mo k now f r xs w := by
  refine ⟨.int .i64 (X.length : Int), 0, ⟨_, rfl⟩, pk.mono ?_⟩
  intro e w1 hz
  unfold MkF at hz
  rw [on_len] at hz
  refine ⟨hz.1, hz.2.2.bc h.cb, hz.2.2.fz, fun w' hb => ?_⟩
  have hs2 := hz.2.1.later hb
  refine (rk w' ((h.rs.oz hz.2.2).later hb)).mono ?_
  intro e w2 hr
  unfold RkF at hr
  rw [on_len] at hr
  refine ⟨hr.1, ⟨B, RC, X ++ [⟨kd, p, none, 1⟩], T, m', n + 1, _, _, now, ⟨?_, ?_, h.eB, h.eC, hr.2.2.1.ry.bc ((hz.2.2.bc h.cb).later hb), h.lo⟩, iv_fn (p := p) hkd iv hw hm⟩, hr.2.2.1.ry.fz, hr.2.2.1.ry.bc ((hz.2.2.bc h.cb).later hb)⟩
  · rw [on_snoc]
    exact hs2.ry hr.2.2.1.ry (hs2.ms.rx hr.2.2.1 hr.2.2.2)
  · rw [on_snoc]; exact hr.2.1
/-- Where both refuse, and nothing has turned. -/
theorem pair_no {a : Int} {v : Value} {xs : List Value} (hv : isI v) (h : BD W b t mo B RC X T m n S g now w) (iv : Iv k 0 X T m n S g now)
    (pk : Calls Tryz.prog f (pS t :: xs).toArray w fun e w' => e = .returned (.tuple #[v, .int .i64 a]) ∧ w = w')
    (rk : ∀ w', RS W mo (X.map (on RC)) m n S g w' → Calls Tryz.prog r (pM mo :: xs).toArray w' fun e w'' => e = .returned (.tuple #[v, .int .i64 a]) ∧ w' = w'') : Pr2 isI W b t mo k now f r xs w := by
  refine ⟨v, a, hv, pk.mono ?_⟩
  rintro e w1 ⟨rfl, rfl⟩
  refine ⟨rfl, h.cb, Fz.refl _, fun w' hb => (rk w' (h.later hb).rs).mono ?_⟩
  rintro e w2 ⟨rfl, rfl⟩
  exact ⟨rfl, (h.later hb).be iv, Fz.refl _, (h.later hb).cb⟩
theorem pair_func (h : BD W b t mo B RC X T m n S g now w) (iv : Iv k 0 X T m n S g now) (hk : k ≤ 120) : Pr2 isI W b t mo k now 12 19 [.int .i64 now, .int .i64 d, .int .i64 p] w := by
  have hX := iv.xl
  have hS := iv.inv.len
  have hN := iv.nn
  have hd : DueOk 3 now d := ⟨iv.now, fun e => absurd e (by decide)⟩
  by_cases hp : 0 ≤ p
  · by_cases hm : m < 64
    · exact pair_fn (.inl rfl) h iv (wn_fit d iv.now) (m' := m + 1) (by omega) (func_ok h.ss iv.now hp hm (by simp; omega) (by omega) (by omega))
        fun w' h1 => rfunc_any (rmake_fn h1 iv.now hp iv.inv.ok hm (by simp; omega) (by omega) (by omega)) fun e w' h1 => ⟨_, _, h1.1⟩
    · have hm4 : m = 64 := by have := iv.m64; omega
      subst hm4
      exact pair_no ⟨0, rfl⟩ h iv (func_no _ w (start_full h.ss hd hp)) fun w' h1 => rfunc_any (rmake_full (.inr (.inr rfl)) h1 hd hp) fun e w' h => ⟨_, _, h.1⟩
  · exact pair_no ⟨0, rfl⟩ h iv (func_no _ w (start_prog _ w hd (by omega))) fun w' h1 => rfunc_any (rmake_bad _ w' (fun e => hp e.2)) fun e w' h => ⟨_, _, h.1⟩
theorem pair_lapse {wh : Int} (h : BD W b t mo B RC X T m n S g now w) (iv : Iv k 0 X T m n S g now) (hk : k ≤ 120) : Pr2 isI W b t mo k now 14 20 [.int .i64 wh, .int .i64 p] w := by
  have hX := iv.xl
  have hS := iv.inv.len
  have hN := iv.nn
  by_cases hp : 0 ≤ p
  · exact pair_fn (.inr rfl) h iv (hz_fit wh) (m' := m) iv.m64 (lapse_ok h.ss hp (by simp; omega) (by omega) (by omega))
      fun w' h1 => rlapse_ok h1 hp iv.inv.ok (by simp; omega) (by omega) (by omega)
  · exact pair_no ⟨0, rfl⟩ h iv (lapse_no _ w (by omega)) fun w' h1 => rlapse_no _ w' (by omega)
end
end Go.Proofs.YtmadcnpkaijllaaGreat
