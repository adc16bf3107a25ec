/- Both sides fire one; what they tell lies in blocks of the law's own. Conditions: each theorem's own premises. -/
import Derived.Test.YtmadcnpkaijllaaGreatBfi
namespace Go.Proofs.YtmadcnpkaijllaaGreat
open Go.RowKit Ch
set_option linter.unusedVariables false
set_option maxRecDepth 100000
/-- Nothing but blocks of one tag has turned. -/
def Tz (ty : TypeId) (w w' : World) : Prop := w.heap.size ≤ w'.heap.size ∧ ∀ (k : Nat) (o : Obj), w.heap[k]? = some o → (∀ cs fr, o ≠ .cells cs ty fr) → w'.heap[k]? = some o
/-- A tag of what was told. -/
def Tt (ty : TypeId) : Prop := ty = 49 ∨ ty = 76
section
variable {W w w' w'' w1 w2 : World} {b t mo m n k q i j c f r : Nat} {B RC : List Nat} {X X' : List Oc} {T T' : List CS} {S S' : List It} {g g' : Int → Int} {now d p a : Int} {x : Oc} {s s' : CS} {v : Value} {e : Ending} {bb : Bool} {E : List On} {L : List (Nat × CS)} {ty : TypeId}
theorem Tz.at (h : Tz ty w w') {k : Nat} {cs : Array Value} {ty0 : TypeId} {fr : Nat × Nat} (hk : w.heap[k]? = some (.cells cs ty0 fr)) (ht : ty0 ≠ ty) : w'.heap[k]? = some (.cells cs ty0 fr) :=
  h.2 k _ hk fun cs' fr' e => by injection e with _ e _; exact ht e
theorem Tz.refl (w : World) : Tz ty w w := ⟨Nat.le_refl _, fun _ _ h _ => h⟩
theorem Tz.trans {u v w : World} (h : Tz ty u v) (k : Tz ty v w) : Tz ty u w := ⟨Nat.le_trans h.1 k.1, fun i o h1 h2 => k.2 i o (h.2 i o h1 h2) h2⟩
theorem Tz.of_below (h : Below w.heap.size w w') : Tz ty w w' := ⟨h.size, fun k o h1 _ => (h.block k (lt_of_blk h1)).trans h1⟩
theorem Tz.cell {cs : Array Value} {fr : Nat × Nat} {b : Nat} (hb : w.heap[b]? = some (.cells cs ty fr)) (k : Nat) (u : Value) : Tz ty w (w.setCell ⟨b, k, none⟩ u) :=
  ⟨by simp [World.setCell], fun q o e1 e2 => (Below.heap_setCell _ _ _ _ (show q ≠ b by
    rintro rfl
    rw [hb] at e1; injection e1 with e1; exact e2 cs fr e1.symm)).trans e1⟩
theorem SS.tz (ht : Tt ty) (h : SS W RC T t E m n S g L w) (k : Tz ty w w') (hb : Below W.heap.size W w') : SS W RC T t E m n S g L w' := by
  obtain ⟨h0, P, c, h1, h2⟩ := h
  refine ⟨h0.tg ⟨k.1, fun b cs ty' fr e1 e2 => k.at e1 (by rcases ht with rfl | rfl <;> (rcases e2 with rfl | rfl | rfl | rfl | rfl | rfl <;> decide))⟩ hb, P, c, h1.keep fun j hj hi => ?_, row_keep h2 fun q hq => ?_⟩
  · rcases hi with ⟨cs, ty', fr, e1, e2⟩ | ⟨es, cl, e1⟩
    · rw [e1]; exact k.at e1 (by rcases ht with rfl | rfl <;> (rcases e2 with rfl | rfl | rfl <;> decide))
    · rw [e1]
      exact k.2 j _ e1 fun cs fr e => (by cases e)
  · obtain ⟨cs, fr, e1⟩ := row_tag h2 hq
    rw [e1]; exact k.at e1 (by rcases ht with rfl | rfl <;> decide)
theorem RS.tz (ht : Tt ty) (h : RS W mo E m n S g w) (k : Tz ty w w') : RS W mo E m n S g w' := by
  obtain ⟨p, P, c, h1, h2⟩ := h
  refine ⟨p, P, c, h1.rf fun k0 cs ty' fr e1 e2 => k.at e1 (by rcases ht with rfl | rfl <;> (rcases e2 with rfl | rfl <;> decide)), row_keep h2 fun q hq => ?_⟩
  obtain ⟨cs, fr, e1⟩ := row_tag h2 hq
  rw [e1]; exact k.at e1 (by rcases ht with rfl | rfl <;> decide)
theorem Ch.RdK.tz {A : Option Addr} {n : Nat} {l : List Wk} (ht : Tt ty) (h : RdK w A n l) (y : Tz ty w w') : RdK w' A n l := h.keep fun b cs e => (y.at e (by rcases ht with rfl | rfl <;> decide)).trans e.symm
theorem Tz.bc (ht : Tt ty) (k : Tz ty w w') (hb : Bc b t mo now w) : Bc b t mo now w' := k.at hb (by rcases ht with rfl | rfl <;> decide)
/-- What one tells, in a block. -/
def Tb (ty : TypeId) (r : Nat) (id kd yw at_ dt : Int) (A : Option Addr) (l c : Nat) (z : Bool) (w : World) : Prop := w.heap[r]? = some (.cells #[.int .i64 id, .int .i64 kd, .int .i64 yw, .int .i64 at_, .int .i64 dt, .slice A l c, .bool z] ty (0, 0))
/-- The program's side has fired; the document's has not. -/
structure FM (W : World) (b t mo : Nat) (B RC : List Nat) (X : List Oc) (T T' : List CS) (m n : Nat) (S : List It) (g : Int → Int) (n' : Nat) (S' : List It) (g' : Int → Int) (now : Int) (ws : List Wk) (A : Option Addr) (w : World) : Prop where
  ss : SS W RC T t (X.map (on B)) m n' S' g' (B.zip T') w
  rs : RS W mo (X.map (on RC)) m n S g w
  rd : RdK w A ws.length ws
  cb : Bc b t mo now w
  lo : W.heap.size ≤ b
/-- Both have. -/
structure FN (W : World) (b t mo : Nat) (B RC : List Nat) (X : List Oc) (T' : List CS) (m n' : Nat) (S' : List It) (g' : Int → Int) (now : Int) (ws : List Wk) (A A' : Option Addr) (w : World) : Prop where
  bd : BD W b t mo B RC X T' m n' S' g' now w
  rd : RdK w A ws.length ws
  rd' : RdK w A' ws.length ws
variable {n' : Nat} {ws : List Wk} {A A' : Option Addr}
theorem FM.later (h : FM W b t mo B RC X T T' m n S g n' S' g' now ws A w) (hb : Below w.heap.size w w') : FM W b t mo B RC X T T' m n S g n' S' g' now ws A w' :=
  ⟨h.ss.later hb, h.rs.later hb, h.rd.later hb, h.cb.later hb, h.lo⟩
theorem FM.cell {cs : Array Value} {fr : Nat × Nat} {r : Nat} (ht : Tt ty) (h : FM W b t mo B RC X T T' m n S g n' S' g' now ws A w) (hr : w.heap[r]? = some (.cells cs ty fr)) (hW : W.heap.size ≤ r) (k : Nat) (u : Value) : FM W b t mo B RC X T T' m n S g n' S' g' now ws A (w.setCell ⟨r, k, none⟩ u) :=
  ⟨h.ss.tz ht (Tz.cell hr k u) (h.ss.bel.setCell (show W.heap.size ≤ (⟨r, k, none⟩ : Addr).block from hW) _), h.rs.tz ht (Tz.cell hr k u), h.rd.tz ht (Tz.cell hr k u), (Tz.cell hr k u).bc ht h.cb, h.lo⟩
theorem BD.tz (ht : Tt ty) (h : BD W b t mo B RC X T m n S g now w) (k : Tz ty w w') (hb : Below W.heap.size W w') : BD W b t mo B RC X T m n S g now w' :=
  ⟨h.ss.tz ht k hb, h.rs.tz ht k, h.eB, h.eC, k.bc ht h.cb, h.lo⟩
theorem FN.later (h : FN W b t mo B RC X T' m n' S' g' now ws A A' w) (hb : Below w.heap.size w w') : FN W b t mo B RC X T' m n' S' g' now ws A A' w' :=
  ⟨h.bd.later hb, h.rd.later hb, h.rd'.later hb⟩
theorem FN.cell {cs : Array Value} {fr : Nat × Nat} {r : Nat} (ht : Tt ty) (h : FN W b t mo B RC X T' m n' S' g' now ws A A' w) (hr : w.heap[r]? = some (.cells cs ty fr)) (hW : W.heap.size ≤ r) (k : Nat) (u : Value) : FN W b t mo B RC X T' m n' S' g' now ws A A' (w.setCell ⟨r, k, none⟩ u) :=
  ⟨h.bd.tz ht (Tz.cell hr k u) (h.bd.ss.bel.setCell (show W.heap.size ≤ (⟨r, k, none⟩ : Addr).block from hW) _), h.rd.tz ht (Tz.cell hr k u), h.rd'.tz ht (Tz.cell hr k u)⟩
theorem FM.tz (ht : Tt ty) (h : FM W b t mo B RC X T T' m n S g n' S' g' now ws A w) (k : Tz ty w w') (hb : Below W.heap.size W w') : FM W b t mo B RC X T T' m n S g n' S' g' now ws A w' :=
  ⟨h.ss.tz ht k hb, h.rs.tz ht k, h.rd.tz ht k, k.bc ht h.cb, h.lo⟩
theorem FN.tz (ht : Tt ty) (h : FN W b t mo B RC X T' m n' S' g' now ws A A' w) (k : Tz ty w w') (hb : Below W.heap.size W w') : FN W b t mo B RC X T' m n' S' g' now ws A A' w' :=
  ⟨h.bd.tz ht k hb, h.rd.tz ht k, h.rd'.tz ht k⟩
/-- A block that is not written yet. -/
abbrev zF (ty : TypeId) : Obj := .cells #[.int .i64 0, .int .i64 0, .int .i64 0, .int .i64 0, .int .i64 0, .slice none 0 0, .bool false] ty
def Zb (ty : TypeId) (r : Nat) (w : World) : Prop := w.heap[r]? = some (.cells #[.int .i64 0, .int .i64 0, .int .i64 0, .int .i64 0, .int .i64 0, .slice none 0 0, .bool false] ty (0, 0))
theorem Zb.cells {r : Nat} (h : Zb ty r w) : w.cell? ⟨r, 0, none⟩ = some (.int .i64 0) ∧ w.cell? ⟨r, 1, none⟩ = some (.int .i64 0) ∧ w.cell? ⟨r, 2, none⟩ = some (.int .i64 0) ∧ w.cell? ⟨r, 3, none⟩ = some (.int .i64 0) ∧ w.cell? ⟨r, 4, none⟩ = some (.int .i64 0) ∧ w.cell? ⟨r, 5, none⟩ = some (.slice none 0 0) ∧ w.cell? ⟨r, 6, none⟩ = some (.bool false) ∧ ∀ k, w.frozen? ⟨r, k, none⟩ = false := by
  refine ⟨?_, ?_, ?_, ?_, ?_, ?_, ?_, fun k => frozen_of_row w r k _ _ h⟩
  · rw [cell_of_row w r 0 _ _ _ h]; rfl
  · rw [cell_of_row w r 1 _ _ _ h]; rfl
  · rw [cell_of_row w r 2 _ _ _ h]; rfl
  · rw [cell_of_row w r 3 _ _ _ h]; rfl
  · rw [cell_of_row w r 4 _ _ _ h]; rfl
  · rw [cell_of_row w r 5 _ _ _ h]; rfl
  · rw [cell_of_row w r 6 _ _ _ h]; rfl
theorem Tb.cells {r l c : Nat} {id kd yw at_ dt : Int} {z : Bool} (h : Tb ty r id kd yw at_ dt A l c z w) : w.cell? ⟨r, 0, none⟩ = some (.int .i64 id) ∧ w.cell? ⟨r, 1, none⟩ = some (.int .i64 kd) ∧ w.cell? ⟨r, 2, none⟩ = some (.int .i64 yw) ∧ w.cell? ⟨r, 3, none⟩ = some (.int .i64 at_) ∧ w.cell? ⟨r, 4, none⟩ = some (.int .i64 dt) ∧ w.cell? ⟨r, 5, none⟩ = some (.slice A l c) ∧ w.cell? ⟨r, 6, none⟩ = some (.bool z) := by
  refine ⟨?_, ?_, ?_, ?_, ?_, ?_, ?_⟩
  · rw [cell_of_row w r 0 _ _ _ h]; rfl
  · rw [cell_of_row w r 1 _ _ _ h]; rfl
  · rw [cell_of_row w r 2 _ _ _ h]; rfl
  · rw [cell_of_row w r 3 _ _ _ h]; rfl
  · rw [cell_of_row w r 4 _ _ _ h]; rfl
  · rw [cell_of_row w r 5 _ _ _ h]; rfl
  · rw [cell_of_row w r 6 _ _ _ h]; rfl
/-- It is written, cell by cell. -/
def fillW (r : Nat) (id kd yw at_ dt : Int) (A : Option Addr) (l c : Nat) (z : Bool) (w : World) : World :=
  ((((((w.setCell ⟨r, 0, none⟩ (.int .i64 id)).setCell ⟨r, 1, none⟩ (.int .i64 kd)).setCell ⟨r, 2, none⟩ (.int .i64 yw)).setCell ⟨r, 3, none⟩ (.int .i64 at_)).setCell ⟨r, 4, none⟩ (.int .i64 dt)).setCell ⟨r, 5, none⟩ (.slice A l c)).setCell ⟨r, 6, none⟩ (.bool z)
theorem Zb.fill {r l c : Nat} {id kd yw at_ dt : Int} {z : Bool} (h : Zb ty r w) : Tb ty r id kd yw at_ dt A l c z (fillW r id kd yw at_ dt A l c z w) ∧ Tz ty w (fillW r id kd yw at_ dt A l c z w) ∧ ∀ (N : Nat) (w0 : World), N ≤ r → Below N w0 w → Below N w0 (fillW r id kd yw at_ dt A l c z w) := by
  unfold fillW
  have h1 := heap_setCell_same w r 0 _ _ (.int .i64 id) h
  have h2 := heap_setCell_same _ r 1 _ _ (.int .i64 kd) h1
  have h3 := heap_setCell_same _ r 2 _ _ (.int .i64 yw) h2
  have h4 := heap_setCell_same _ r 3 _ _ (.int .i64 at_) h3
  have h5 := heap_setCell_same _ r 4 _ _ (.int .i64 dt) h4
  have h6 := heap_setCell_same _ r 5 _ _ (.slice A l c) h5
  have h7 := heap_setCell_same _ r 6 _ _ (.bool z) h6
  refine ⟨h7, (((((((Tz.cell h 0 _).trans (Tz.cell h1 1 _)).trans (Tz.cell h2 2 _)).trans (Tz.cell h3 3 _)).trans (Tz.cell h4 4 _)).trans (Tz.cell h5 5 _)).trans (Tz.cell h6 6 _)), fun N w0 hN hb => ?_⟩
  exact ((((((hb.setCell (by exact hN) _).setCell (by exact hN) _).setCell (by exact hN) _).setCell (by exact hN) _).setCell (by exact hN) _).setCell (by exact hN) _).setCell (by exact hN) _
theorem fill_ne {r k l c : Nat} {id kd yw at_ dt : Int} {z : Bool} (hk : k ≠ r) : (fillW r id kd yw at_ dt A l c z w).heap[k]? = w.heap[k]? := by
  unfold fillW
  rw [Below.heap_setCell _ _ _ _ (by exact hk), Below.heap_setCell _ _ _ _ (by exact hk), Below.heap_setCell _ _ _ _ (by exact hk), Below.heap_setCell _ _ _ _ (by exact hk), Below.heap_setCell _ _ _ _ (by exact hk), Below.heap_setCell _ _ _ _ (by exact hk), Below.heap_setCell _ _ _ _ (by exact hk)]
theorem Fz.fill {r l c : Nat} {id kd yw at_ dt : Int} {z : Bool} {u : World} (h : Fz u w) (hr : u.heap.size ≤ r) : Fz u (fillW r id kd yw at_ dt A l c z w) := fun k cs ty fr e1 e2 => (fill_ne (by have := lt_of_blk e1; omega)).trans (h k cs ty fr e1 e2)
theorem Tb.later {r l c : Nat} {id kd yw at_ dt : Int} {z : Bool} (h : Tb ty r id kd yw at_ dt A l c z w) (hb : Below w.heap.size w w') : Tb ty r id kd yw at_ dt A l c z w' := (hb.block r (lt_of_blk h)).trans h
theorem Tb.fz {r l c : Nat} {id kd yw at_ dt : Int} {z : Bool} (ht : Tt ty) (h : Tb ty r id kd yw at_ dt A l c z w) (hb : Fz w w') : Tb ty r id kd yw at_ dt A l c z w' := hb _ _ _ _ h (by rcases ht with rfl | rfl <;> simp)
theorem Tb.tz {r l c : Nat} {id kd yw at_ dt : Int} {z : Bool} {ty' : TypeId} (hne : ty ≠ ty') (h : Tb ty r id kd yw at_ dt A l c z w) (k : Tz ty' w w') : Tb ty r id kd yw at_ dt A l c z w' := k.at h hne
theorem Zb.fz {r : Nat} (ht : Tt ty) (h : Zb ty r w) (hb : Fz w w') : Zb ty r w' := hb _ _ _ _ h (by rcases ht with rfl | rfl <;> simp)
theorem put_fit (iv : Iv k q X T m n S g now) (hx : X[i]? = some x) (eB : B.length = T.length) (eC : RC.length = T.length) (hk : k ≤ 120) (a : Int) :
    ∃ T' ws kept, Pt (B.zip T) (on B x) a (B.zip T') ws kept ∧ RPt RC T (on RC x) a T' ws kept ∧ T'.length = T.length ∧ (∀ s ∈ T', Tk k s) ∧ ws.length ≤ 1 ∧ ((on RC x).ch = none → T' = T ∧ ws = [] ∧ kept = false) := by
  cases hq : x.q with
  | none => exact ⟨T, [], false, Pt.none (on_none hq), ⟨.inl ⟨on_none hq, rfl, rfl, rfl⟩⟩, rfl, iv.ts, by simp, fun _ => ⟨rfl, rfl, rfl⟩⟩
  | some j =>
    have hj := iv.ch x (List.mem_of_getElem? hx) j hq
    obtain ⟨c, hB, e1⟩ := on_ch eB hq hj
    obtain ⟨c', hC, e2⟩ := on_ch eC hq hj
    have hT : T[j]? = some T[j] := List.getElem?_eq_getElem hj
    have hs : Tk k T[j] := iv.ts _ (List.getElem_mem hj)
    generalize T[j] = s at hT hs
    have hg := gv_tk hs a
    have hs6 := hs.2.2.2.2.2
    have hs5 := hs.2.2.2.2.1
    refine ⟨T.set j (gv s a).1, (gv s a).2.1, (gv s a).2.2, ?_, ⟨.inr ⟨c', j, s, (gv s a).1, e2, hC, hT, hs.1, by rw [hs.2.1]; omega, by omega, by omega, rfl, rfl⟩⟩, by simp, Tk.set iv.ts hg.1 j, hg.2, fun e => by rw [e2] at e; cases e⟩
    rw [← zip_set hB]
    exact Pt.chan e1 (zip_at hB hT) hs.1 (by omega) rfl
/-- Both fire: alike, whatever the worlds that they stand in. -/
theorem fire_both (iv : Iv k q X T m n S g now) (eB : B.length = T.length) (eC : RC.length = T.length) (hk : k ≤ 120) (hq : q ≤ 200) (a : Int) :
    ∃ (id kd yw at_ dt : Int) (ws : List Wk) (b9 d : Bool) (T' : List CS) (n' : Nat) (S' : List It) (g' : Int → Int), ws.length ≤ 1 ∧ (d = (tk a n S g).1.isSome ∧ n' = (tk a n S g).2.1 ∧ S' = (tk a n S g).2.2.1 ∧ g' = (tk a n S g).2.2.2) ∧ Iv k (q + 1) X T' m n' S' g' now ∧
      (∀ w, BD W b t mo B RC X T m n S g now w → Calls Tryz.prog 9 #[pS t, .int .i64 a] w fun e w1 => ∃ A c1, e = .returned (.tuple #[vF id kd yw at_ dt A ws.length c1 b9, .bool d]) ∧ FM W b t mo B RC X T T' m n S g n' S' g' now ws A w1 ∧ Fz w w1) ∧
      (∀ A w, FM W b t mo B RC X T T' m n S g n' S' g' now ws A w → Calls Tryz.prog 23 #[pM mo, .int .i64 a] w fun e w2 => ∃ A' c2, e = .returned (.tuple #[vF id kd yw at_ dt A' ws.length c2 b9, .bool d]) ∧ FN W b t mo B RC X T' m n' S' g' now ws A A' w2 ∧ Fz w w2) := by
  have hX := iv.xl
  have hS := iv.inv.len
  have hN := iv.nn
  have iT := iv.inv.take a
  have ivn : ∀ T', T'.length = T.length → (∀ s ∈ T', Tk k s) → Iv k (q + 1) X T' m (tk a n S g).2.1 (tk a n S g).2.2.1 (tk a n S g).2.2.2 now := fun T' h1 h2 =>
    ⟨iv.kd, fun y hy j hj => by rw [h1]; exact iv.ch y hy j hj, h2, iT.1, iv.m64, by have := iT.2.1; omega, iv.xl, iv.now⟩
  cases hy : (tk a n S g).1 with
  | none =>
    have e0 := tk_none hy
    have ivn0 := ivn T rfl iv.ts
    rw [e0] at ivn0
    refine ⟨0, 0, 0, 0, 0, [], false, false, T, n, S, g, by simp, ⟨rfl, by rw [e0], by rw [e0], by rw [e0]⟩, ivn0, fun w h => ?_, fun A w h => ?_⟩
    · refine (fire_no h.ss e0 (by omega) (by omega)).mono ?_
      intro e w1 hz
      exact ⟨none, 0, hz.1, ⟨hz.2.1, h.rs.oz hz.2.2, RdK.nil _ _, hz.2.2.bc h.cb, h.lo⟩, hz.2.2.fz⟩
    · refine (rfire_no h.rs h.ss.ms e0 iv.inv.ok iv.inv.both (by omega) (by omega)).mono ?_
      intro e w2 hr
      exact ⟨none, 0, hr.1, ⟨⟨h.ss.ry hr.2.2.2 hr.2.2.1, hr.2.1, eB, eC, hr.2.2.2.bc h.cb, h.lo⟩, h.rd.ry hr.2.2.2, RdK.nil _ _⟩, hr.2.2.2.fz⟩
  | some y =>
    have hm := iT.2.2 y hy
    have hr9 := iv.inv.rn y.id (mem_ids hm)
    obtain ⟨i, hi⟩ : ∃ i : Nat, y.id = (i : Int) := ⟨y.id.toNat, by omega⟩
    have hiX : i < X.length := by omega
    have hx : X[i]? = some X[i] := List.getElem?_eq_getElem hiX
    generalize X[i] = x at hx
    have hT : tk a n S g = (some ⟨(i : Int), y.w, y.s⟩, (tk a n S g).2.1, (tk a n S g).2.2.1, (tk a n S g).2.2.2) := by
      rw [← hi]
      show tk a n S g = (some y, (tk a n S g).2.1, (tk a n S g).2.2.1, (tk a n S g).2.2.2)
      rw [← hy]
    obtain ⟨T', ws, kept, h1, h2, h3, h4, h5, h6⟩ := put_fit (B := B) (RC := RC) iv hx eB eC hk a
    refine ⟨i, x.kd, y.w, a, x.dt, ws, kept, true, T', _, _, _, h5, ⟨rfl, rfl, rfl, rfl⟩, ivn T' h3 h4, fun w h => ?_, fun A w h => ?_⟩
    · refine (fire_some h.ss hT (on_at hx) h1 (by rw [on_len]; omega) (by omega) (by omega)).mono ?_
      rintro e w1 ⟨A, c1, rfl, hrd, hss, hoz⟩
      exact ⟨A, c1, rfl, ⟨hss, h.rs.oz hoz, hrd, hoz.bc h.cb, h.lo⟩, hoz.fz⟩
    · cases hc : (on RC x).ch with
      | none =>
        obtain ⟨rfl, rfl, rfl⟩ := h6 hc
        refine (rfire_nil h.rs h.ss.ms hT (on_at hx) hc iv.inv.ok iv.inv.both (by omega) (by omega)).mono ?_
        intro e w2 hr
        exact ⟨none, 0, hr.1, ⟨⟨h.ss.ry hr.2.2.2 hr.2.2.1, hr.2.1, eB, eC, hr.2.2.2.bc h.cb, h.lo⟩, h.rd.ry hr.2.2.2, RdK.nil _ _⟩, hr.2.2.2.fz⟩
      | some c' =>
        refine (rfire_ch h.rs h.ss.ms hT (on_at hx) hc h2 iv.inv.ok iv.inv.both (by omega) (by omega)).mono ?_
        rintro e w2 ⟨A', c2, rfl, hr1, hr2⟩
        exact ⟨A', c2, rfl, ⟨⟨h.ss.ry hr2.ry hr2.ms, hr2.rs, by rw [h3]; exact eB, by rw [h3]; exact eC, hr2.ry.bc h.cb, h.lo⟩, h.rd.ry hr2.ry, hr1⟩, hr2.ry.fz⟩
/-- How many are due. -/
def due (a : Int) (S : List It) : Nat := S.countP fun x => decide (x.w ≤ a)
theorem due_le (a : Int) (S : List It) : due a S ≤ S.length := List.countP_le_length
/-- Each that is taken is due no more. -/
theorem due_take (ho : Ok n S) (h : (tk a n S g).1.isSome = true) : due a (tk a n S g).2.2.1 + 1 = due a S := by
  cases S with
  | nil => cases h
  | cons x r =>
    unfold tk at h ⊢
    by_cases h1 : a < x.w
    · simp only [if_pos h1] at h; cases h
    · by_cases h2 : Gon x.w (g x.id) a
      · simp only [if_neg h1, if_pos h2]
        unfold due
        rw [(ins_perm _ r).countP_eq, List.countP_cons, List.countP_cons, if_neg (by have := h2.2; simp; omega), if_pos (by simp; omega)]
      · simp only [if_neg h1, if_neg h2]
        unfold due
        rw [List.countP_cons, if_pos (by simp; omega)]
end
end Go.Proofs.YtmadcnpkaijllaaGreat
