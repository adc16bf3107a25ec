/- Slices of numbers that came in; the one at n of so many. Conditions: each theorem's own premises.
What a cancellation does where nothing starts: the contexts on the walk, and nobody else. Conditions: each theorem's own premises.
A star of contexts with deadlines of their own: whose are set, in which order; what a cancellation, and a lapse, make of them. Conditions: each theorem's own premises. -/
import Derived.Test.YtdpapnfjpefhkaaAwpm
namespace Go.Proofs.Ytdpapnfjpefhkaa
open Go.RowKit Tr
set_option linter.unusedVariables false
set_option maxRecDepth 100000
def Rni (w : World) (A : Option Addr) (n : Nat) (l : List Int) : Prop :=
  l.length = n ∧ (0 < n → ∃ b off, A = some ⟨b, off, none⟩ ∧ b < w.heap.size ∧ ∀ j x, l[j]? = some x → w.cell? ⟨b, off + j, none⟩ = some (.int .i64 x))
theorem Rni.later {w w' : World} {A : Option Addr} {n : Nat} {l : List Int} (h : Rni w A n l) (hb : Below w.heap.size w w') : Rni w' A n l :=
  ⟨h.1, fun h0 => by
    obtain ⟨b, off, e, hl, hc⟩ := h.2 h0
    have := hb.size
    exact ⟨b, off, e, by omega, fun j u hu => (cell_blk (hb.block b hl) _).trans (hc j u hu)⟩⟩
theorem rn_nil (w : World) (A : Option Addr) : Rni w A 0 [] := ⟨rfl, fun h => absurd h (by omega)⟩
/-! Slices that came in. -/
theorem cells_at {k : IntKind} {w : World} {x : Addr} {zs : List Int} (hcell : ∀ i, i < zs.length → w.cell? (x.add i) = some (.int k (zs.getD i 0))) (h0 : 0 < zs.length) :
    ∃ b off, x = ⟨b, off, none⟩ ∧ b < w.heap.size ∧ ∀ i, i < zs.length → w.cell? ⟨b, off + i, none⟩ = some (.int k (zs.getD i 0)) := by
  have hc := hcell 0 h0
  obtain ⟨b, off, spot⟩ := x
  have hspot : spot = none := by simpa [Addr.add] using World.cell?_spot hc
  subst hspot
  have e : ∀ i, (⟨b, off, none⟩ : Addr).add i = ⟨b, off + i, none⟩ := by
    intro i; unfold Addr.add
    by_cases h : i = 0
    · subst h; simp
    · simp [h]
  exact ⟨b, off, rfl, by simpa [e] using World.block_lt_of_cell? _ _ hc, fun i hi => by rw [← e]; exact hcell i hi⟩
theorem rn_of {w : World} {a : Option Addr} {len cap : Nat} {zs : List Int}
    (h : (a = none ∧ len = 0 ∧ cap = 0 ∧ zs = []) ∨ ∃ x, a = some x ∧ len ≤ cap ∧ cap ≤ maxLen ∧ zs.length = cap ∧ (∀ i, i < zs.length → w.cell? (x.add i) = some (.int .i64 (zs.getD i 0))) ∧ ∀ n ∈ zs, (Lit.int .i64 n).wf = true) : Rni w a len (zs.take len) := by
  rcases h with ⟨rfl, rfl, rfl, rfl⟩ | ⟨x, rfl, h1, h2, h3, h4, _⟩
  · exact rn_nil _ _
  · refine ⟨by rw [List.length_take]; omega, fun h0 => ?_⟩
    obtain ⟨b, off, rfl, hb, hc⟩ := cells_at h4 (by omega)
    refine ⟨b, off, rfl, hb, fun j y hy => ?_⟩
    have hj : j < (zs.take len).length := (List.getElem?_eq_some_iff.1 hy).1
    rw [List.length_take] at hj
    rw [hc j (by omega)]
    rw [List.getElem?_take, if_pos (by omega)] at hy
    simp [List.getD_eq_getElem?_getD, hy]
/-- Its element k, later on. -/
theorem Rni.cell {W w : World} {A : Option Addr} {n k : Nat} {l : List Int} (h : Rni W A n l) (hb : Below W.heap.size W w) (hk : k < n) : ∃ b off x, A = some ⟨b, off, none⟩ ∧ b < W.heap.size ∧ l[k]? = some x ∧ w.cell? ⟨b, off + k, none⟩ = some (.int .i64 x) := by
  obtain ⟨b, off, e, h1, h2⟩ := h.2 (by omega)
  have hx : l[k]? = some (l[k]'(by rw [h.1]; exact hk)) := List.getElem?_eq_getElem _
  exact ⟨b, off, _, e, h1, hx, (cell_blk (hb.block b h1) _).trans (h2 k _ hx)⟩

/-- The one at n of so many, going round. -/
def pk (n : Int) (m : Nat) : Nat := (n % (m : Int)).toNat
theorem pk_lt (n : Int) {m : Nat} (h : 0 < m) : pk n m < m := by
  unfold pk
  have := Int.emod_lt_of_pos n (show (0 : Int) < (m : Int) by omega)
  have := Int.emod_nonneg n (show (m : Int) ≠ 0 by omega)
  omega
theorem round_any (n : Int) (m : Nat) (w : World) (h : 0 < m) (hm : m ≤ 2147483648) : Calls Try.prog 13 #[.int .i64 n, .int .i64 (m : Int)] w fun e w' => e = .returned (.int .i64 (pk n m : Int)) ∧ w = w' := by
  have b2 : ((m : Int) == 0) = false := by simp <;> omega
  have b3 : ((m : Int) == -1) = false := by simp <;> omega
  have l1 : -(m : Int) < n.tmod m := by
    have h1 := Int.tmod_lt_of_pos (-n) (show (0 : Int) < (m : Int) by omega)
    rw [Int.neg_tmod] at h1; omega
  have l2 : n.tmod m < m := Int.tmod_lt_of_pos n (by omega)
  have e1 : (n.tmod (m : Int) + (m : Int)).tmod m = (pk n m : Int) := by
    rw [Int.tmod_eq_emod_of_nonneg (by omega), Int.add_emod_right]
    unfold pk
    have h1 := Int.emod_nonneg n (show (m : Int) ≠ 0 by omega)
    have h4 : (n.tmod m) % m = n % m := by rw [Int.tmod_def, Int.sub_mul_emod_self_left]
    rw [h4]; omega
  have w1 : IntKind.i64.wrap (n.tmod (m : Int)) = n.tmod (m : Int) := by rw [IntKind.wrap_i64]; omega
  have l3 : -2147483648 ≤ n.tmod (m : Int) ∧ n.tmod (m : Int) ≤ 2147483648 := by omega
  have w2 : IntKind.i64.wrap (n.tmod (m : Int) + (m : Int)) = n.tmod (m : Int) + (m : Int) := by rw [IntKind.wrap_i64]; omega
  have w3 : IntKind.i64.wrap (pk n m : Int) = (pk n m : Int) := by have := pk_lt n h; rw [IntKind.wrap_i64]; omega
  go_enter Try.func13, Try.ntmps13
  go_wp2
  go_ret
  exact ⟨rfl, rfl⟩
theorem round_at (z : Int) (k : Nat) (hk : k ≤ 2000) (w : World) : Calls Try.prog 13 #[.int .i64 z, .int .i64 ((k : Int) + 1)] w fun e w' => e = .returned (.int .i64 (pk z (k + 1) : Int)) ∧ w = w' := by
  have := round_any z (k + 1) w (by omega) (by omega)
  rwa [show ((k + 1 : Nat) : Int) = (k : Int) + 1 from by omega] at this
/-! Truths that came in. -/
def Rb (w : World) (A : Option Addr) (n : Nat) (l : List Bool) : Prop :=
  l.length = n ∧ (0 < n → ∃ b off, A = some ⟨b, off, none⟩ ∧ b < w.heap.size ∧ ∀ j x, l[j]? = some x → w.cell? ⟨b, off + j, none⟩ = some (.bool x))
theorem Rb.later {w w' : World} {A : Option Addr} {n : Nat} {l : List Bool} (h : Rb w A n l) (hb : Below w.heap.size w w') : Rb w' A n l :=
  ⟨h.1, fun h0 => by
    obtain ⟨b, off, e, hl, hc⟩ := h.2 h0
    have := hb.size
    exact ⟨b, off, e, by omega, fun j u hu => (cell_blk (hb.block b hl) _).trans (hc j u hu)⟩⟩
theorem Rb.cell {W w : World} {A : Option Addr} {n k : Nat} {l : List Bool} (h : Rb W A n l) (hb : Below W.heap.size W w) (hk : k < n) : ∃ b off x, A = some ⟨b, off, none⟩ ∧ b < W.heap.size ∧ l[k]? = some x ∧ w.cell? ⟨b, off + k, none⟩ = some (.bool x) := by
  obtain ⟨b, off, e, h1, h2⟩ := h.2 (by omega)
  have hx : l[k]? = some (l[k]'(by rw [h.1]; exact hk)) := List.getElem?_eq_getElem _
  exact ⟨b, off, _, e, h1, hx, (cell_blk (hb.block b h1) _).trans (h2 k _ hx)⟩
section
variable {W w w' wx w1 : World} {t i j c g cap n : Nat} {p : Option Nat} {s s' : St} {rs : List Rr} {O : Nat → Prop}
/-! Rows of one's own: numbers, truths. -/
def rwI (P : Option Addr) (c : Nat) (l : List Int) : Rr := ⟨P, 3, 1, c, l.length, Tr.iV l⟩
def bV (l : List Bool) : List Value := l.map Value.bool
def rwB (P : Option Addr) (c : Nat) (l : List Bool) : Rr := ⟨P, 4, 1, c, l.length, bV l⟩
/-- A row that is new. -/
theorem LQ.news (h : LQ W t p s rs w) (b : Below w.heap.size w w') {r : Rr} (hr : w'.ownsRow w.heap.size r.e r.z (.slice r.P r.n r.c) r.n r.xs) (ho : OthZ r.e) : LQ W t p s (r :: rs) w' := by
  have h' := h.later b
  have hW := h.bel.size
  obtain ⟨O, f, h3⟩ := h.ex
  refine ⟨⟨O, f.later b, fun q hq k hk => ?_⟩, fun q hq => ?_, List.pairwise_cons.2 ⟨fun q hq k hk e => ?_, h'.ap⟩, h'.iv⟩
  · rcases List.mem_cons.1 hq with rfl | hq
    · intro hO
      have := (row_lt hr hk).1; have := f.lt hO; omega
    · exact h3 q hq k hk
  · rcases List.mem_cons.1 hq with rfl | hq
    · exact ⟨row_low hr (Nat.zero_le _), ho, fun k hk => Nat.le_trans hW (row_lt hr hk).1⟩
    · exact h'.rows q hq
  · have := (row_lt hr hk).1; have := h.rlt hq e; omega
theorem LQ.nil (h : LQ W t p s rs w) : LQ W t p s (rwI none 0 [] :: rs) w := h.news (Below.refl _ _) (r := rwI none 0 []) (World.ownsRow_nil _ _ _ _) (by show OthZ 3; decide)
/-- An append onto a row of numbers. -/
theorem LQ.app {l : List Int} {P : Option Addr} {x : Int} (h : LQ W t p s rs wx) (hr : rs[i]? = some (rwI P c l)) (hn : n = l.length) (hown : w1.ownsRow 0 3 1 (.slice (some ⟨g, 0, none⟩) (n + 1) cap) (n + 1) (Tr.iV l ++ [.int .i64 x])) (hgrow : wx.grownBy w1 (Value.slice P n c).ownBlock) (hat : (Value.slice P n c).ownBlock = some g ∨ wx.heap.size ≤ g) :
    LQ W t p s (rs.set i (rwI (some ⟨g, 0, none⟩) cap (l ++ [x]))) w1 := by
  subst hn
  rw [own_blk] at hgrow hat
  refine h.turn hr (Tn.grown (Below.refl _ _) hgrow) ?_ rfl ?_
  · show w1.ownsRow 0 3 1 (.slice (some ⟨g, 0, none⟩) (l ++ [x]).length cap) (l ++ [x]).length (Tr.iV (l ++ [x]))
    rw [show (l ++ [x]).length = l.length + 1 from by simp, Tr.iV_app]
    exact hown
  · intro k hk
    have hk : g = k := by simpa [rwI, blk] using hk
    subst hk
    exact hat
theorem LQ.appB {l : List Bool} {P : Option Addr} {x : Bool} (h : LQ W t p s rs wx) (hr : rs[i]? = some (rwB P c l)) (hn : n = l.length) (hown : w1.ownsRow 0 4 1 (.slice (some ⟨g, 0, none⟩) (n + 1) cap) (n + 1) (bV l ++ [.bool x])) (hgrow : wx.grownBy w1 (Value.slice P n c).ownBlock) (hat : (Value.slice P n c).ownBlock = some g ∨ wx.heap.size ≤ g) :
    LQ W t p s (rs.set i (rwB (some ⟨g, 0, none⟩) cap (l ++ [x]))) w1 := by
  subst hn
  rw [own_blk] at hgrow hat
  refine h.turn hr (Tn.grown (Below.refl _ _) hgrow) ?_ rfl ?_
  · show w1.ownsRow 0 4 1 (.slice (some ⟨g, 0, none⟩) (l ++ [x]).length cap) (l ++ [x]).length (bV (l ++ [x]))
    rw [show (l ++ [x]).length = l.length + 1 from by simp, show bV (l ++ [x]) = bV l ++ [.bool x] from by simp [bV]]
    exact hown
  · intro k hk
    have hk : g = k := by simpa [rwB, blk] using hk
    subst hk
    exact hat
theorem LQ.ownI {l : List Int} {P : Option Addr} (h : LQ W t p s rs w) (hr : rs[i]? = some (rwI P c l)) (hn : n = l.length) : w.ownsRow 0 3 1 (.slice P n c) n (Tr.iV l) := by subst hn; exact h.own hr
theorem LQ.ownB {l : List Bool} {P : Option Addr} (h : LQ W t p s rs w) (hr : rs[i]? = some (rwB P c l)) (hn : n = l.length) : w.ownsRow 0 4 1 (.slice P n c) n (bV l) := by subst hn; exact h.own hr
/-- A number in a row. -/
theorem LQ.icell {l : List Int} {P : Option Addr} {x : Int} (h : LQ W t p s rs w) (hr : rs[i]? = some (rwI P c l)) (hx : l[j]? = some x) : ∃ q, P = some ⟨q, 0, none⟩ ∧ q < w.heap.size ∧ w.cell? ⟨q, j, none⟩ = some (.int .i64 x) ∧ w.frozen? ⟨q, j, none⟩ = false := by
  have ho : w.ownsRow 0 3 1 (.slice P l.length c) l.length (Tr.iV l) := h.own hr
  have hj := (List.getElem?_eq_some_iff.1 hx).1
  obtain ⟨q, hP, _⟩ := row_form ho (by omega)
  subst hP
  have e2 := ho.cellAt j (by simpa using hj)
  refine ⟨q, rfl, (row_lt ho (k := q) rfl).2, ?_, ?_⟩
  · rw [e2]; simp [Tr.iV, hx]
  · obtain ⟨_, h5 | ⟨g', cap', cur, e5, _, e6, _⟩⟩ := ho
    · exact absurd h5.1 (by simp)
    · injection e5 with e5 _ _; injection e5 with e5; injection e5 with e5; subst e5
      exact frozen_of_row w q j _ _ e6
/-- A store into a row. -/
theorem LQ.put {l : List Int} {P : Option Addr} {x : Int} (h : LQ W t p s rs w) (hr : rs[i]? = some (rwI P c l)) (hP : P = some ⟨g, 0, none⟩) : LQ W t p s (rs.set i (rwI P c (l.set j x))) (w.setCell ⟨g, j, none⟩ (.int .i64 x)) := by
  subst hP
  have ho : w.ownsRow 0 3 1 (.slice (some ⟨g, 0, none⟩) l.length c) l.length (Tr.iV l) := h.own hr
  refine h.turn hr (Tn.set (F := fun k => blk (some ⟨g, 0, none⟩) = some k) (Tn.refl _ w) (.inl rfl) _) ?_ rfl (fun k hk => .inl hk)
  have := (ho.stored j (.int .i64 x)).1
  show World.ownsRow _ 0 3 1 (.slice (some ⟨g, 0, none⟩) (l.set j x).length c) (l.set j x).length (Tr.iV (l.set j x))
  rw [List.length_set, show Tr.iV (l.set j x) = (Tr.iV l).set j (.int .i64 x) from by simp [Tr.iV, List.map_set]]
  exact this
theorem deadline_no (h : FS W t p s O w) {k r wh now : Int} (hr : rfs s k = r) (h0 : r ≠ 0) : Calls Try.prog 19 #[pS t, .int .i64 k, .int .i64 wh, .int .i64 now] w fun e w' => e = .returned (.tuple #[.int .i64 0, .slice none 0 0, .int .i64 r]) ∧ w = w' := by
  have HR := Lib.hid (refusal_any k h)
  rw [hr] at HR
  have b1 : (r != 0) = true := bne_iff_ne.2 h0
  clear h hr h0
  go_enter Try.func19, Try.ntmps19
  go_wp2_with fail
  refine HR.out.mono ?_
  rintro e w' ⟨rfl, rfl⟩
  go_wp2_with fail
  go_ret3
  exact ⟨rfl, rfl⟩
/-! Time comes. -/
theorem Inv.due (h : Inv s) {x : It} {r : List It} (e : s.S = x :: r) : Inv { s with S := r } := by
  have h1 := h.sl; have h2 := h.sp
  rw [e] at h1 h2
  exact ⟨h.wf, h.kl, h.tl, h.cl, h.al, h.el, by simp at h1; show r.length ≤ s.E.length; omega, h.nl, fun z hz => h2 z (List.mem_cons_of_mem _ hz), h.kc, h.ka, h.ck, h.ak, h.lv, h.cx⟩
theorem LQ.le (h : LQ W t p s rs w) : s.E.length ≤ 64 ∧ s.S.length ≤ 64 ∧ s.n ≤ 64 ∧ s.C.length ≤ 64 := by
  have := h.iv.cl; have := h.iv.el; have := h.iv.sl; have := h.iv.nl
  omega
theorem gon_no (x now : Int) : ¬ Gon x 0 now := by
  rintro ⟨h, _⟩
  have := nxB_all h
  omega
theorem LQ.fire_none {ts : Nat} {now : Int} (h : LQ W t (some ts) s rs w) (hn : ∀ x r, s.S = x :: r → now < x.w) : Calls Try.prog 21 #[pS ts, .int .i64 now] w fun e w' => e = .returned (.tuple #[vF 0 0 0 0 0 none 0 0 false, .bool false]) ∧ Hid (LQ W t (some ts) s rs w') := by
  have hT : tk now s.n s.S z0 = (none, s.n, s.S, z0) := by
    unfold tk
    cases e : s.S with
    | nil => rfl
    | cons x r => simp only [if_pos (hn x r e)]
  have hle := h.le
  obtain ⟨O, f, ho⟩ := h.ex
  obtain ⟨h1, h2, h3⟩ := f.2
  refine (fire_no h1 hT (by omega) (by omega)).mono ?_
  rintro e w' ⟨rfl, h4, h5⟩
  refine ⟨rfl, h.go ho h.iv ?_⟩
  exact f.tms ⟨h4, h2, h3⟩ h4.bel h5
theorem LQ.fire {ts : Nat} {now : Int} {x : It} {r : List It} (h : LQ W t (some ts) s rs w) (e : s.S = x :: r) (hd : x.w ≤ now) : Calls Try.prog 21 #[pS ts, .int .i64 now] w fun e w' => ∃ i y A k b, x.id = ((i : Nat) : Int) ∧ s.E[i]? = some y ∧ e = .returned (.tuple #[vF x.id 4 x.w now y.dt A 0 k b, .bool true]) ∧ Hid (LQ W t (some ts) { s with S := r } rs w') := by
  have hle := h.le
  have hi := h.iv.due e
  obtain ⟨O, f, ho⟩ := h.ex
  obtain ⟨h1, h2, h3⟩ := f.2
  have hx := h2 x (by rw [e]; simp)
  obtain ⟨i, hxi⟩ := Int.eq_ofNat_of_zero_le hx.1
  have hil : i < s.E.length := by omega
  obtain ⟨y, hy⟩ : ∃ y, s.E[i]? = some y := ⟨_, List.getElem?_eq_getElem hil⟩
  have hyE := h3 y (List.mem_of_getElem? hy)
  obtain ⟨xi, xw, xs⟩ := x
  have hxi : xi = (i : Int) := hxi
  subst hxi
  have hT : tk now s.n s.S z0 = (some ⟨(i : Int), xw, xs⟩, s.n, r, z0) := by
    unfold tk
    rw [e]
    have g1 : ¬ now < xw := by have : xw ≤ now := hd; omega
    have g2 : ¬ Gon xw (z0 (i : Int)) now := gon_no xw now
    simp only [if_neg g1, if_neg g2, fput_z0]
  refine (fire_some h1 hT hy (Pt.none hyE.1) (by omega) (by omega) (by omega)).mono ?_
  rintro e' w' ⟨A, k, rfl, _, h4, h5⟩
  refine ⟨i, y, A, k, false, rfl, hy, by rw [hyE.2]; rfl, h.go ho hi ?_⟩
  exact f.tms ⟨h4, fun z hz => h2 z (by rw [e]; exact List.mem_cons_of_mem _ hz), h3⟩ h4.bel h5
end
end Go.Proofs.Ytdpapnfjpefhkaa
namespace Go.Proofs.Ytdpapnfjpefhkaa
open Go.RowKit Tr
set_option linter.unusedVariables false
set_option maxRecDepth 100000

/-- No after: the number in the tree and the number are one. -/
structure Pn (s : St) : Prop where
  tl : s.T.length = s.C.length
  k : ∀ j, j < s.C.length → s.K[j]? = some ⟨false, j⟩
  nd : ∀ (j : Nat) (x : Cx), s.C[j]? = some x → x.nd = j
theorem Pn.kl {s : St} (h : Pn s) (v : Inv s) : s.K.length = s.C.length := v.kl.trans h.tl
theorem Pn.s0 (E : List On) (n : Nat) (S : List It) : Pn (s0 E n S) := by
  refine ⟨rfl, fun j hj => ?_, fun j x hx => ?_⟩
  · have : j < 1 := hj
    obtain rfl : j = 0 := by omega
    rfl
  · match j, hx with
    | 0, hx => cases hx; rfl
theorem Pn.grow {s s' : St} (h : Pn s) (v : Inv s) {x : Cx} {z : Int × Bool} (hx : x.nd = s.C.length) (hT : s'.T = s.T ++ [z]) (hK : s'.K = s.K ++ [⟨false, s.C.length⟩]) (hC : s'.C = s.C ++ [x]) : Pn s' := by
  have kl := h.kl v
  refine ⟨by rw [hT, hC, List.length_append, List.length_append, h.tl]; rfl, fun j hj => ?_, fun j y hy => ?_⟩
  · rw [hC, List.length_append] at hj
    rw [hK]
    by_cases e : j < s.C.length
    · rw [List.getElem?_append_left (by omega)]; exact h.k j e
    · have hj : j < s.C.length + 1 := hj
      obtain rfl : j = s.C.length := by omega
      rw [List.getElem?_append_right (by omega), kl, Nat.sub_self]; rfl
  · rw [hC] at hy
    by_cases e : j < s.C.length
    · rw [List.getElem?_append_left e] at hy; exact h.nd j y hy
    · rw [List.getElem?_append_right (by omega)] at hy
      have hj := (List.getElem?_eq_some_iff.1 hy).1
      have hj : j - s.C.length < 1 := hj
      obtain rfl : j = s.C.length := by omega
      rw [Nat.sub_self] at hy
      cases hy; exact hx
theorem Pn.add {s : St} (h : Pn s) (v : Inv s) (x : Cx) (ab : Int) (l : Bool) : Pn (addS s x ab l) := h.grow v (x := nw x s.T.length) h.tl rfl rfl rfl
theorem Pn.addD {s : St} (h : Pn s) (v : Inv s) (x : Cx) (ab er cs : Int) : Pn (Ytdpapnfjpefhkaa.addD s x ab er cs) := h.grow v (x := ended (nw x s.T.length) er cs) h.tl rfl rfl rfl
theorem Pn.dl {s : St} {p : Option Nat} (h : Pn s) (v : Inv s) (x : Cx) (ab z : Int) : Pn (dlS p s x ab z) := h.grow v (x := { nw x s.T.length with lp := lpV p s.E }) h.tl rfl rfl rfl
theorem Pn.set {s s' : St} (h : Pn s) {i : Nat} {x y : Cx} (hx : s.C[i]? = some x) (hy : y.nd = x.nd) (hT : s'.T.length = s.T.length) (hK : s'.K = s.K) (hC : s'.C = s.C.set i y) : Pn s' := by
  refine ⟨by rw [hT, hC, List.length_set]; exact h.tl, fun j hj => ?_, fun j z hz => ?_⟩
  · rw [hC, List.length_set] at hj
    rw [hK]; exact h.k j hj
  · rw [hC] at hz
    rcases set_at hz with ⟨rfl, rfl⟩ | ⟨_, hz⟩
    · rw [hy]; exact h.nd _ x hx
    · exact h.nd j z hz
theorem Pn.cst {s : St} (h : Pn s) {er cs : Int} {k : Nat} {x : Cx} (hx : s.C[k]? = some x) : cst er cs s k = { s with T := Tr.cut s.T k, C := s.C.set k (ended x er cs), S := del x.lp s.S } ∧ clp s k = [(k, wks x)] ∧ cmp s k = [] := by
  have hk := h.k k (List.getElem?_eq_some_iff.1 hx).1
  exact ⟨cst_cx hk hx, clp_cx hk hx, cmp_cx hk⟩
/-- What stands where, behind a cancellation of these. -/
structure Fd (er cs : Int) (ws : List Nat) (s s' : St) : Prop where
  pl : Pn s'
  len : s'.C.length = s.C.length
  c : ∀ (j : Nat) (x : Cx), s.C[j]? = some x → s'.C[j]? = some (if j ∈ ws then ended x er cs else x)
  t : ∀ (j : Nat) (q : Int) (b : Bool), s.T[j]? = some (q, b) → s'.T[j]? = some (q, b && !decide (j ∈ ws))
  e : s'.E = s.E ∧ s'.n = s.n ∧ s'.A = s.A
  s : ∀ z, z ∈ s'.S ↔ z ∈ s.S ∧ ∀ (j : Nat) (x : Cx), j ∈ ws → s.C[j]? = some x → z.id ≠ x.lp
def wkAt (s : St) (j : Nat) : List Ch.Wk := match s.C[j]? with
  | some x => wks x
  | none => []
theorem fold_pn {er cs : Int} : ∀ (ws : List Nat) (s : St), Pn s → ws.Nodup → (∀ j ∈ ws, j < s.C.length) →
    ∃ s', cfold er cs ws s = (s', ws.map (fun j => (j, wkAt s j)), []) ∧ Fd er cs ws s s'
  | [], s, h, _, _ => ⟨s, rfl, h, rfl, fun j x hx => by simpa using hx, fun j q b hb => by simpa using hb, ⟨rfl, rfl, rfl⟩, fun z => by simp⟩
  | k :: r, s, h, hn, hw => by
    obtain ⟨hkr, hn⟩ := List.nodup_cons.1 hn
    have hk := hw k (by simp)
    obtain ⟨x, hx⟩ : ∃ x, s.C[k]? = some x := ⟨_, List.getElem?_eq_getElem hk⟩
    obtain ⟨e1, e2, e3⟩ := h.cst (er := er) (cs := cs) hx
    obtain ⟨s1, hs1⟩ : ∃ s1, cst er cs s k = s1 := ⟨_, rfl⟩
    have d1 : s1 = { s with T := Tr.cut s.T k, C := s.C.set k (ended x er cs), S := del x.lp s.S } := hs1.symm.trans e1
    have c1 : s1.C = s.C.set k (ended x er cs) := by rw [d1]
    have h1 : Pn s1 := h.set (y := ended x er cs) hx rfl (by rw [d1]; exact Tr.cut_len _ _) (by rw [d1]) c1
    obtain ⟨s', f1, f2⟩ := fold_pn (er := er) (cs := cs) r s1 h1 hn fun j hj => by rw [c1, List.length_set]; exact hw j (by simp [hj])
    have at1 : ∀ (j : Nat), j ≠ k → s1.C[j]? = s.C[j]? := fun j hj => by rw [c1, List.getElem?_set_ne (Ne.symm hj)]
    have at2 : s1.C[k]? = some (ended x er cs) := by rw [c1, List.getElem?_set_self hk]
    refine ⟨s', ?_, f2.pl, by rw [f2.len, c1, List.length_set], fun j y hy => ?_, fun j q b hb => ?_, ?_, fun z => ?_⟩
    · unfold cfold
      rw [e2, e3, hs1, f1, List.map_cons]
      have : wkAt s k = wks x := by unfold wkAt; rw [hx]
      rw [this]
      refine Prod.ext rfl (Prod.ext ?_ rfl)
      show (k, wks x) :: r.map _ = (k, wks x) :: r.map _
      congr 1
      refine List.map_congr_left fun j hj => ?_
      have hjk : j ≠ k := fun e => hkr (e ▸ hj)
      unfold wkAt
      rw [at1 j hjk]
    · by_cases hjk : j = k
      · subst hjk
        rw [hx] at hy; cases hy
        have := f2.c j _ at2
        rw [if_neg hkr] at this
        rw [this, if_pos (by simp)]
      · have := f2.c j y (by rw [at1 j hjk]; exact hy)
        rw [this]
        by_cases hr : j ∈ r
        · rw [if_pos hr, if_pos (by simp [hr])]
        · rw [if_neg hr, if_neg (by simp [hr, hjk])]
    · have t1 : s1.T[j]? = some (q, b && !decide (j = k)) := by
        rw [d1]
        show (Tr.cut s.T k)[j]? = _
        rw [Tr.cut_at, hb]
        by_cases e : j = k
        · rw [if_pos e]; simp [e]
        · rw [if_neg e]; simp [e]
      rw [f2.t j q _ t1]
      congr 2
      by_cases e : j = k
      · simp [e]
      · simp [e]
    · rw [f2.e.1, f2.e.2.1, f2.e.2.2, d1]; exact ⟨rfl, rfl, rfl⟩
    · rw [f2.s z, show (z ∈ s1.S ↔ z ∈ s.S ∧ z.id ≠ x.lp) from by rw [d1]; exact del_mem]
      constructor
      · rintro ⟨⟨a1, a2⟩, a3⟩
        refine ⟨a1, fun j y hj hy => ?_⟩
        by_cases e : j = k
        · subst e; rw [hx] at hy; cases hy; exact a2
        · rcases List.mem_cons.1 hj with hj | hj
          · exact absurd hj e
          · exact a3 j y hj (by rw [at1 j e]; exact hy)
      · rintro ⟨a1, a2⟩
        refine ⟨⟨a1, a2 k x (by simp) hx⟩, fun j y hj hy => ?_⟩
        have e : j ≠ k := fun e => hkr (e ▸ hj)
        exact a2 j y (by simp [hj]) (by rw [← at1 j e]; exact hy)
/-- The walk of one that is there. -/
theorem Pn.walk {s : St} (h : Pn s) (v : Inv s) {k : Nat} (hk : k < s.C.length) : (Tr.walk s.T k).Nodup ∧ ∀ j ∈ Tr.walk s.T k, j < s.C.length := by
  have hk' : k < s.T.length := by rw [h.tl]; exact hk
  exact ⟨walk_once v.wf hk', fun j hj => by rw [← h.tl]; exact ((mem_walk v.wf hk').1 hj).1⟩
theorem cn_pn {s : St} (h : Pn s) (v : Inv s) {k : Nat} {x : Cx} {er cs : Int} (hx : s.C[k]? = some x) (he : x.er = 0) :
    ∃ s', cnS s x er cs = (s', (Tr.walk s.T k).map (fun j => (j, wkAt s j)), []) ∧ Fd er cs (Tr.walk s.T k) s s' := by
  obtain ⟨h1, h2⟩ := h.walk v (List.getElem?_eq_some_iff.1 hx).1
  obtain ⟨s', h3, h4⟩ := fold_pn (er := er) (cs := cs) _ s h h1 h2
  refine ⟨s', ?_, h4⟩
  unfold cnS
  rw [if_neg (by rw [he]; decide), h.nd k x hx]
  exact h3
theorem cn_over {s : St} {x : Cx} {er cs : Int} (he : x.er ≠ 0) : cnS s x er cs = (s, [], []) := by
  unfold cnS
  rw [if_pos he]
end Go.Proofs.Ytdpapnfjpefhkaa
namespace Go.Proofs.Ytdpapnfjpefhkaa
open Go.RowKit Tr
set_option linter.unusedVariables false
set_option maxRecDepth 100000

theorem LQ.ok {W w : World} {t ts : Nat} {s : St} {rs : List Rr} (h : LQ W t (some ts) s rs w) : Ok s.n s.S := by
  obtain ⟨O, f, _⟩ := h.ex
  exact f.2.1.ok
theorem srt_least {z : It} {r : List It} (h : Srt (z :: r)) : ∀ y ∈ z :: r, z.w ≤ y.w := by
  intro y hy
  rcases List.mem_cons.1 hy with rfl | hy
  · exact Int.le_refl _
  · have := List.rel_of_pairwise_cons h hy
    unfold It.lt at this
    omega
/-- How many are due. -/
def cD : List Int → Nat
  | [] => 0
  | v :: r => (if 0 < v then 1 else 0) + cD r
theorem cD_app (a b : List Int) : cD (a ++ b) = cD a + cD b := by
  induction a with
  | nil => simp [cD]
  | cons x a ih => simp only [List.cons_append, cD, ih]; omega
theorem cD_le (l : List Int) : cD l ≤ l.length := by
  induction l with
  | nil => simp [cD]
  | cons x a ih => simp only [cD, List.length_cons]; split <;> omega
theorem cD_pos {l : List Int} {j : Nat} {v : Int} (h : l[j]? = some v) (hv : 0 < v) : 0 < cD l := by
  induction l generalizing j with
  | nil => simp at h
  | cons x a ih =>
    unfold cD
    cases j with
    | zero => simp at h; subst h; rw [if_pos hv]; omega
    | succ j => have := ih (j := j) (by simpa using h); omega
theorem cD_zero {l : List Int} (h : ∀ (j : Nat) (v : Int), l[j]? = some v → ¬ 0 < v) : cD l = 0 := by
  induction l with
  | nil => rfl
  | cons x a ih =>
    unfold cD
    rw [if_neg (h 0 x rfl), ih fun j v hv => h (j + 1) v hv]
theorem cD_set {l : List Int} {j : Nat} {v u : Int} (h : l[j]? = some v) (hv : 0 < v) (hu : ¬ 0 < u) : cD (l.set j u) + 1 = cD l := by
  induction l generalizing j with
  | nil => simp at h
  | cons x a ih =>
    cases j with
    | zero => simp at h; subst h; simp only [List.set_cons_zero, cD, if_neg hu, if_pos hv]; omega
    | succ j =>
      have := ih (j := j) (by simpa using h)
      simp only [List.set_cons_succ, cD]; omega
/-- A star: each context hangs on the background, with a deadline of its own; whose number is above 0 is not done, and set for then. -/
structure TW (s : St) (due : List Int) : Prop where
  pn : Pn s
  len : s.C.length = due.length + 1
  par : ∀ (j : Nat) (q : Int) (b : Bool), s.T[j]? = some (q, b) → q ≤ 0
  bg : s.C[0]? = some bg
  c : ∀ (j : Nat) (v : Int), due[j]? = some v → ∃ x c, s.C[j + 1]? = some x ∧ x.ch = some c ∧ x.own = true ∧ x.lp = (j : Int) ∧ (0 < v → x.er = 0) ∧ (v ≤ 0 → x.er ≠ 0)
  el : s.E.length = due.length
  e : ∀ (j : Nat) (y : On), s.E[j]? = some y → y.dt = (j : Int) + 1
  s1 : ∀ z ∈ s.S, ∃ (j : Nat) (v : Int), due[j]? = some v ∧ 0 < v ∧ z.id = (j : Int) ∧ z.w = v
  s2 : ∀ (j : Nat) (v : Int), due[j]? = some v → 0 < v → ∃ z ∈ s.S, z.id = (j : Int) ∧ z.w = v
theorem TW.zero : TW (s0 [] 0 []) [] := ⟨Pn.s0 _ _ _, rfl, fun j q b h => by
  match j, h with
  | 0, h => cases h; omega, rfl, fun j v h => by simp at h, rfl, fun j y h => by simp [Ytdpapnfjpefhkaa.s0] at h, fun z h => by simp [Ytdpapnfjpefhkaa.s0] at h, fun j v h => by simp at h⟩
theorem TW.add {s : St} {due : List Int} {ts c : Nat} {k : Int} (h : TW s due) (v : Inv s) (hk : 0 < k) : TW (dlS (some ts) s (nx0 c k true true) (Ytdpapnfjpefhkaa.bg.nd : Int) k) (due ++ [k]) := by
  have hat : ∀ j, j < due.length + 1 → (s.C ++ [{ nw (nx0 c k true true) s.T.length with lp := lpV (some ts) s.E }])[j]? = s.C[j]? := fun j hj => by rw [List.getElem?_append_left (by rw [h.len]; exact hj)]
  have hnew : (s.C ++ [{ nw (nx0 c k true true) s.T.length with lp := lpV (some ts) s.E }])[due.length + 1]? = some { nw (nx0 c k true true) s.T.length with lp := lpV (some ts) s.E } := by rw [← h.len]; simp
  have hd : ∀ (j : Nat) (u : Int), (due ++ [k])[j]? = some u → (j < due.length ∧ due[j]? = some u) ∨ (j = due.length ∧ u = k) := by
    intro j u hu
    by_cases e : j < due.length
    · rw [List.getElem?_append_left e] at hu; exact .inl ⟨e, hu⟩
    · have hj := (List.getElem?_eq_some_iff.1 hu).1
      rw [List.length_append] at hj
      have hj : j < due.length + 1 := hj
      obtain rfl : j = due.length := by omega
      rw [List.getElem?_append_right (Nat.le_refl _), Nat.sub_self] at hu
      cases hu; exact .inr ⟨rfl, rfl⟩
  refine ⟨h.pn.dl v _ _ _, by show (s.C ++ _).length = _; simp [h.len], fun j q b hj => ?_, by show (s.C ++ _)[0]? = _; rw [hat 0 (by omega)]; exact h.bg, fun j u hu => ?_, by show (s.E ++ _).length = _; simp [h.el], fun j y hy => ?_, fun z hz => ?_, fun j u hu h0 => ?_⟩
  · have hj : (s.T ++ [((Ytdpapnfjpefhkaa.bg.nd : Int), true)])[j]? = some (q, b) := hj
    by_cases e : j < s.T.length
    · rw [List.getElem?_append_left e] at hj; exact h.par j q b hj
    · rw [List.getElem?_append_right (by omega)] at hj
      have := (List.getElem?_eq_some_iff.1 hj).1
      have this : j - s.T.length < 1 := this
      rw [show j - s.T.length = 0 from by omega] at hj
      cases hj; exact Int.le_refl 0
  · show ∃ x c', (s.C ++ _)[j + 1]? = some x ∧ _
    rcases hd j u hu with ⟨e1, e2⟩ | ⟨rfl, rfl⟩
    · rw [hat (j + 1) (by omega)]; exact h.c j u e2
    · refine ⟨_, c, hnew, rfl, rfl, ?_, fun _ => rfl, fun e => absurd e (by omega)⟩
      show lpV (some ts) s.E = _
      show (s.E.length : Int) = _
      rw [h.el]
  · have hy : (s.E ++ [(⟨4, s.C.length, none, 1⟩ : On)])[j]? = some y := hy
    by_cases e : j < s.E.length
    · rw [List.getElem?_append_left e] at hy; exact h.e j y hy
    · rw [List.getElem?_append_right (by omega)] at hy
      have := (List.getElem?_eq_some_iff.1 hy).1
      have this : j - s.E.length < 1 := this
      rw [show j - s.E.length = 0 from by omega] at hy
      cases hy
      show (s.C.length : Int) = _
      rw [h.len, ← h.el]; omega
  · have hz : z ∈ ins ⟨(s.E.length : Int), k, (s.n : Int) + 1⟩ s.S := hz
    rcases ins_mem.1 hz with rfl | hz
    · exact ⟨due.length, k, by simp, hk, by show (s.E.length : Int) = _; rw [h.el], rfl⟩
    · obtain ⟨j, u, a1, a2, a3, a4⟩ := h.s1 z hz
      exact ⟨j, u, by rw [List.getElem?_append_left (List.getElem?_eq_some_iff.1 a1).1]; exact a1, a2, a3, a4⟩
  · show ∃ z ∈ ins ⟨(s.E.length : Int), k, (s.n : Int) + 1⟩ s.S, _
    rcases hd j u hu with ⟨e1, e2⟩ | ⟨rfl, rfl⟩
    · obtain ⟨z, b1, b2⟩ := h.s2 j u e2 h0
      exact ⟨z, ins_mem.2 (.inr b1), b2⟩
    · exact ⟨_, ins_mem.2 (.inl rfl), by show (s.E.length : Int) = _; rw [h.el], rfl⟩
/-- Nobody hangs on one of the star. -/
theorem TW.walk {s : St} {due : List Int} (h : TW s due) (k : Nat) : Tr.walk s.T (k + 1) = [k + 1] := by
  rw [walk_eq, show Tr.kids s.T (k + 1) = [] from ?_]
  · rfl
  · cases e : Tr.kids s.T (k + 1) with
    | nil => rfl
    | cons a r =>
      have ha : a ∈ Tr.kids s.T (k + 1) := by rw [e]; simp
      have := h.par a _ _ (mem_kids.1 ha).1
      omega
/-- One of them is done: cancelled, or its time over. -/
theorem TW.done {s sa s' : St} {due : List Int} {er cs : Int} {k : Nat} {u : Int} (h : TW s due) (hk : k < due.length) (he : er ≠ 0) (hu : u ≤ 0) (f : Fd er cs [k + 1] sa s') (hC : sa.C = s.C) (hT : sa.T = s.T) (hE : sa.E = s.E) (hS1 : ∀ z ∈ sa.S, z ∈ s.S) (hS2 : ∀ z ∈ s.S, z.id ≠ (k : Int) → z ∈ sa.S) : TW s' (due.set k u) := by
  have hd : ∀ (j : Nat) (v : Int), (due.set k u)[j]? = some v → (j = k ∧ v = u) ∨ (j ≠ k ∧ due[j]? = some v) := fun j v hv => set_at hv
  have fl := f.len
  rw [hC] at fl
  have sl : ∀ z ∈ s'.S, z.id ≠ (k : Int) := by
    intro z hz
    obtain ⟨_, h2⟩ := (f.s z).1 hz
    obtain ⟨x, c, a1, a2, a3, a4, _⟩ := h.c k _ (List.getElem?_eq_getElem hk)
    have := h2 (k + 1) x (by simp) (by rw [hC]; exact a1)
    rwa [a4] at this
  refine ⟨f.pl, by rw [fl, h.len, List.length_set], fun j q b hj => ?_, ?_, fun j v hv => ?_, by rw [f.e.1, hE, h.el, List.length_set], fun j y hy => h.e j y (by rw [← hE, ← f.e.1]; exact hy), fun z hz => ?_, fun j v hv h0 => ?_⟩
  · obtain ⟨⟨q', b'⟩, hq⟩ : ∃ z, s.T[j]? = some z := by
      have hl := (List.getElem?_eq_some_iff.1 hj).1
      exact ⟨_, List.getElem?_eq_getElem (by rw [h.pn.tl]; rw [f.pl.tl, fl] at hl; exact hl)⟩
    have := f.t j q' b' (by rw [hT]; exact hq)
    rw [hj] at this
    injection this with this; injection this with e1 _
    subst e1; exact h.par j _ _ hq
  · have := f.c 0 _ (by rw [hC]; exact h.bg)
    rwa [if_neg (by simp)] at this
  · rcases hd j v hv with ⟨rfl, rfl⟩ | ⟨e1, e2⟩
    · obtain ⟨x, c, a1, a2, a3, a4, a5, a6⟩ := h.c j _ (List.getElem?_eq_getElem hk)
      have := f.c (j + 1) x (by rw [hC]; exact a1)
      rw [if_pos (by simp)] at this
      exact ⟨_, c, this, a2, a3, a4, fun e => absurd e (by omega), fun _ => he⟩
    · obtain ⟨x, c, a1, a2⟩ := h.c j v e2
      have := f.c (j + 1) x (by rw [hC]; exact a1)
      rw [if_neg (by simp; exact e1)] at this
      exact ⟨x, c, this, a2⟩
  · obtain ⟨j, v, a1, a2, a3, a4⟩ := h.s1 z (hS1 z ((f.s z).1 hz).1)
    have hne := sl z hz
    exact ⟨j, v, by rw [List.getElem?_set_ne (by rintro rfl; exact hne a3)]; exact a1, a2, a3, a4⟩
  · rcases hd j v hv with ⟨rfl, rfl⟩ | ⟨e1, e2⟩
    · omega
    · obtain ⟨z, b1, b2, b3⟩ := h.s2 j v e2 h0
      refine ⟨z, (f.s z).2 ⟨hS2 z b1 (by rw [b2]; omega), fun i x hi hx => ?_⟩, b2, b3⟩
      simp at hi; subst hi
      rw [hC] at hx
      obtain ⟨x', c', a1, a2, a3, a4, _⟩ := h.c k _ (List.getElem?_eq_getElem hk)
      rw [hx] at a1; cases a1
      rw [a4, b2]; omega
/-- A Cancel of one of them. -/
theorem TW.cancel {s : St} {due : List Int} {k : Nat} {v : Int} (h : TW s due) (i : Inv s) (hv : due[k]? = some v) : ∃ x c s' l, s.C[k + 1]? = some x ∧ x.ch = some c ∧ cnS s x 1 1 = (s', l, []) ∧ (if 0 < v then l.length = 1 else l.length = 0) ∧ TW s' (due.set k 0) := by
  obtain ⟨x, c, a1, a2, a3, a4, a5, a6⟩ := h.c k v hv
  have hk := (List.getElem?_eq_some_iff.1 hv).1
  by_cases h0 : 0 < v
  · obtain ⟨s', e1, e2⟩ := cn_pn (er := 1) (cs := 1) h.pn i a1 (a5 h0)
    rw [h.walk] at e1 e2
    refine ⟨x, c, s', _, a1, a2, e1, by rw [if_pos h0]; rfl, h.done hk (by decide) (Int.le_refl 0) e2 rfl rfl rfl (fun z hz => hz) (fun z hz _ => hz)⟩
  · refine ⟨x, c, s, [], a1, a2, cn_over (a6 (by omega)), by rw [if_neg h0]; rfl, ?_⟩
    have hd : ∀ (j : Nat) (u : Int), (due.set k 0)[j]? = some u → (j = k ∧ u = 0) ∨ (j ≠ k ∧ due[j]? = some u) := fun j u hu => set_at hu
    refine ⟨h.pn, by rw [h.len, List.length_set], h.par, h.bg, fun j u hu => ?_, by rw [h.el, List.length_set], h.e, fun z hz => ?_, fun j u hu hu0 => ?_⟩
    · rcases hd j u hu with ⟨rfl, rfl⟩ | ⟨_, e2⟩
      · exact ⟨x, c, a1, a2, a3, a4, fun e => absurd e (by omega), fun _ => a6 (by omega)⟩
      · exact h.c j u e2
    · obtain ⟨j, u, b1, b2, b3, b4⟩ := h.s1 z hz
      refine ⟨j, u, ?_, b2, b3, b4⟩
      rw [List.getElem?_set_ne]
      · exact b1
      · rintro rfl
        rw [hv] at b1; cases b1; exact h0 b2
    · rcases hd j u hu with ⟨rfl, rfl⟩ | ⟨_, e2⟩
      · omega
      · exact h.s2 j u e2 hu0
/-- Time comes to the first of those that are set. -/
theorem TW.lapse {s : St} {due : List Int} {z : It} {r : List It} (h : TW s due) (i : Inv s) (ok : Ok s.n s.S) (e : s.S = z :: r) : ∃ (k : Nat) (v : Int) (x : Cx) (c : Nat) (s' : St), due[k]? = some v ∧ 0 < v ∧ z.id = (k : Int) ∧ z.w = v ∧ s.C[k + 1]? = some x ∧ x.ch = some c ∧ x.own = true ∧
    cnS { s with S := r } x 2 2 = (s', [(k + 1, wkAt s (k + 1))], []) ∧ TW s' (due.set k (-1)) := by
  obtain ⟨k, v, b1, b2, b3, b4⟩ := h.s1 z (by rw [e]; simp)
  obtain ⟨x, c, a1, a2, a3, a4, a5, a6⟩ := h.c k v b1
  have hk := (List.getElem?_eq_some_iff.1 b1).1
  have hp : Pn { s with S := r } := ⟨h.pn.tl, h.pn.k, h.pn.nd⟩
  obtain ⟨s', e1, e2⟩ := cn_pn (s := { s with S := r }) (er := 2) (cs := 2) hp (i.due e) a1 (a5 b2)
  have hw : Tr.walk ({ s with S := r } : St).T (k + 1) = [k + 1] := h.walk k
  rw [hw] at e1 e2
  refine ⟨k, v, x, c, s', b1, b2, b3, b4, a1, a2, a3, e1, h.done hk (by decide) (by decide) e2 rfl rfl rfl (fun y hy => by rw [e]; exact List.mem_cons_of_mem _ hy) (fun y hy hne => ?_)⟩
  rw [e] at hy
  rcases List.mem_cons.1 hy with rfl | hy
  · exact absurd b3 hne
  · exact hy
theorem TW.none {s : St} {due : List Int} (h : TW s due) (e : s.S = []) : cD due = 0 := by
  refine cD_zero fun j v hv h0 => ?_
  obtain ⟨z, hz, _⟩ := h.s2 j v hv h0
  rw [e] at hz; cases hz
theorem TW.some {s : St} {due : List Int} {z : It} {r : List It} (h : TW s due) (e : s.S = z :: r) : 0 < cD due := by
  obtain ⟨k, v, b1, b2, _⟩ := h.s1 z (by rw [e]; simp)
  exact cD_pos b1 b2
end Go.Proofs.Ytdpapnfjpefhkaa
