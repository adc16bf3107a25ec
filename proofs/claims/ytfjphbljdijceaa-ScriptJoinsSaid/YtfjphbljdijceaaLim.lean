/- The state of the loop that makes many entries and their bytes, and how it goes on. No condition. -/
import Derived.Test.YtfjphbljdijceaaAwk
namespace Go.Proofs.Ytfjphbljdijceaa
open Go.RowKit
set_option linter.unusedVariables false

theorem flV_app (a b : List En) : flV (a ++ b) = flV a ++ flV b := by simp [flV]
theorem flV_set (A : List En) (z : En) (B : List En) (K : Int) : (flV (A ++ z :: B)).set (A.length * 3) (.int .i64 K) = flV (A ++ ⟨K, z.n, z.d⟩ :: B) := by
  rw [flV_app, flV_app, List.set_append_right _ _ (by rw [flV_len]; omega), flV_len, Nat.sub_self, flV_cons, flV_cons]
  simp [eV]
theorem made_flV (n : Nat) : (madeCells (Value.agg #[.int .i64 0, .int .i64 0, .int .i64 0]).cells (n * 3)).toList = flV (List.replicate n ⟨0, 0, 0⟩) := by
  have e1 : ∀ n, flV (List.replicate n ⟨0, 0, 0⟩) = List.replicate (n * 3) (.int .i64 0) := by
    intro n
    induction n with
    | zero => rfl
    | succ n ih =>
      rw [List.replicate_succ, flV_cons, ih, show (n + 1) * 3 = n * 3 + 1 + 1 + 1 from by omega, List.replicate_succ, List.replicate_succ, List.replicate_succ]
      rfl
  rw [e1]
  have ez : (Value.agg #[.int .i64 0, .int .i64 0, .int .i64 0]).cells = #[.int .i64 0, .int .i64 0, .int .i64 0] := rfl
  rw [ez]
  apply List.ext_getElem?
  intro j
  by_cases hj : j < n * 3
  · have h3 : j % 3 < 3 := Nat.mod_lt _ (by omega)
    have e2 : (#[Value.int .i64 0, .int .i64 0, .int .i64 0])[j % 3]! = .int .i64 0 := by
      match j % 3, h3 with
      | 0, _ => rfl
      | 1, _ => rfl
      | 2, _ => rfl
    simp only [madeCells, Array.toList_map, List.getElem?_map, Array.toList_range, List.getElem?_range hj, Option.map_some, List.getElem?_replicate, if_pos hj, Option.some.injEq]
    exact e2
  · simp [madeCells, hj]

structure LimS (W wr : World) (n : Nat) (es : List En) (rv : Value) (bs : List Int) : Prop where
  bel : Below W.heap.size W wr
  own : wr.ownsRow W.heap.size 35 3 (.slice (some ⟨W.heap.size, 0, none⟩) n n) n (flV es)
  raw : wr.ownsRow (W.heap.size + 1) 5 1 rv bs.length (bV bs)
theorem LimS.len {W wr : World} {n : Nat} {es : List En} {rv : Value} {bs : List Int} (h : LimS W wr n es rv bs) : es.length = n := by
  have := h.own.1; rw [flV_len] at this; omega
theorem LimS.cell {W wr : World} {n k : Nat} {es : List En} {rv : Value} {bs : List Int} {e : En} (h : LimS W wr n es rv bs) (he : es[k]? = some e) : wr.cell? ⟨W.heap.size, k * 3, none⟩ = some (.int .i64 e.k) := by
  have hk : k < es.length := (List.getElem?_eq_some_iff.1 he).1
  rw [h.own.cellAt (k * 3) (by rw [h.len] at hk; omega)]
  exact (flV_at es k e he).1
theorem LimS.frz {W wr : World} {n : Nat} {es : List En} {rv : Value} {bs : List Int} (h : LimS W wr n es rv bs) (j : Nat) : wr.frozen? ⟨W.heap.size, j, none⟩ = false := h.own.frozenAt j
theorem LimS.store {W wr : World} {n : Nat} {A B : List En} {z : En} {rv : Value} {bs : List Int} (h : LimS W wr n (A ++ z :: B) rv bs) (k : Nat) (hk : A.length = k) (K : Int) :
    LimS W (wr.setCell ⟨W.heap.size, k * 3, none⟩ (.int .i64 K)) n (A ++ ⟨K, z.n, z.d⟩ :: B) rv bs := by
  subst hk
  refine ⟨h.bel.setCell (p := ⟨W.heap.size, A.length * 3, none⟩) (Nat.le_refl _) _, ?_, ownsRow_setCell_below h.raw (Nat.lt_succ_self _) _⟩
  have h1 := (h.own.stored (A.length * 3) (.int .i64 K)).1
  rw [flV_set] at h1
  exact h1
theorem LimS.app {W wr w2 : World} {n m : Nat} {es : List En} {rv rv' : Value} {bs b2 : List Int} {ob : Obj} (h : LimS W wr n es rv bs) (hg : (wr.alloc ob).grownBy w2 rv.ownBlock) (ho : w2.ownsRow (W.heap.size + 1) 5 1 rv' (bs.length + m) (bV bs ++ bV b2)) (hm : b2.length = m) :
    LimS W w2 n es rv' (bs ++ b2) := by
  have hb : Below W.heap.size W (wr.alloc ob) := h.bel.trans ((below_al wr ob).mono h.bel.size)
  refine ⟨hb.grown hg hb.size (fun k hk => by have := (h.raw.lt k hk).1; omega), (h.own.alloc ob).kept hg ?_, ?_⟩
  · right
    intro e
    have h1 : rv.ownBlock = some W.heap.size := by rw [← e]; rfl
    have := (h.raw.lt _ h1).1
    omega
  · rw [bV_app, List.length_append, hm]; exact ho
theorem size_set (w : World) (a : Addr) (u : Value) : (w.setCell a u).heap.size = w.heap.size := by simp [World.setCell]
theorem news_at (w : World) (cs : Array Value) (t : TypeId) (N : Nat) (h : N = w.heap.size) : ∀ j u, cs.toList[j]? = some u → (w.alloc (.cells cs t)).cell? ((⟨N, 0, none⟩ : Addr).add j) = some u := by
  subst h
  exact World.news_of_block (heap_alloc_new w _)

/-- Many entries of one kind. -/
def mE (K : Int) (n k : Nat) : List En := List.replicate k ⟨K, 0, 0⟩ ++ List.replicate (n - k) ⟨0, 0, 0⟩
def rE (K : Int) (n : Nat) : List En := List.replicate n ⟨K, 0, 0⟩
theorem mE_zero (K : Int) (n : Nat) : mE K n 0 = List.replicate n ⟨0, 0, 0⟩ := by simp [mE]
theorem mE_all (K : Int) (n : Nat) : mE K n n = rE K n := by simp [mE, rE]
theorem mE_at (K : Int) (n k : Nat) (h : k < n) : mE K n k = rE K k ++ ⟨0, 0, 0⟩ :: List.replicate (n - (k + 1)) ⟨0, 0, 0⟩ := by
  unfold mE rE
  rw [show n - k = (n - (k + 1)) + 1 from by omega, List.replicate_succ]
theorem mE_succ (K : Int) (n k : Nat) (h : k < n) : mE K n (k + 1) = rE K k ++ ⟨K, 0, 0⟩ :: List.replicate (n - (k + 1)) ⟨0, 0, 0⟩ := by
  unfold mE rE
  rw [List.replicate_succ', List.append_assoc]
  rfl
theorem rE_len (K : Int) (n : Nat) : (rE K n).length = n := by simp [rE]
theorem rE_succ (K : Int) (k : Nat) : enL (rE K (k + 1)) = enL (rE K k) ++ eb ⟨K, 0, 0⟩ := by
  unfold rE
  rw [List.replicate_succ', enL_app, enL_one]
theorem rE_add (K : Int) (a b : Nat) : rE K (a + b) = rE K a ++ rE K b := by
  unfold rE; rw [List.replicate_append_replicate]
theorem rE_ok {K : Int} (hK : K = 1 ∨ K = 2) (n : Nat) : allOk (rE K n) ∧ allIn (rE K n) := by
  refine ⟨fun e he => ?_, fun e he => ?_⟩
  · obtain rfl := List.eq_of_mem_replicate he
    rcases hK with rfl | rfl
    · exact .inl rfl
    · exact .inr ⟨rfl, rfl⟩
  · obtain rfl := List.eq_of_mem_replicate he
    rcases hK with rfl | rfl <;> (unfold eIn In64; simp)
theorem rE_dec {K : Int} (hK : K = 1 ∨ K = 2) (n : Nat) (h : n ≤ 2000) : dec (enL (rE K n)) = some (rE K n) := by
  have h1 := enL_len (rE_ok hK n).1
  rw [rE_len] at h1
  unfold dec
  rw [if_neg (by omega)]
  exact decF_back _ _ (rE_ok hK n).1 (rE_ok hK n).2 (by rw [rE_len]; exact h)
theorem rE_no {K : Int} (hK : K = 1 ∨ K = 2) (c m : Nat) : decF c (enL (rE K c ++ rE K (m + 1))) = none := by
  rw [enL_app, decF_app _ _ _ (rE_ok hK _).1 (rE_ok hK _).2 (by rw [rE_len]; omega), rE_len, Nat.sub_self]
  have e2 : decF 0 (enL (rE K (m + 1))) = none := by
    unfold rE
    rw [List.replicate_succ, enL_cons]
    rfl
  rw [e2]
  rfl
theorem rE_dec_no {K : Int} (hK : K = 1 ∨ K = 2) (n : Nat) (h : 2000 < n) (h2 : n ≤ 2100) : dec (enL (rE K n)) = none := by
  have h1 := enL_len (rE_ok hK n).1
  rw [rE_len] at h1
  unfold dec
  rw [if_neg (by omega)]
  obtain ⟨m, rfl⟩ : ∃ m, n = 2000 + (m + 1) := ⟨n - 2000 - 1, by omega⟩
  rw [rE_add]
  exact rE_no hK 2000 m
theorem own_cap {w : World} {base : Nat} {e : TypeId} {size n : Nat} {v : Value} {xs : List Value} (h : w.ownsRow base e size v n xs) : ∃ a c, v = .slice a n c ∧ n ≤ c ∧ c ≤ 9223372036854775807 := by
  rcases h.2 with ⟨rfl, rfl⟩ | ⟨g, cap, cur, rfl, _, _, h1, h2, _⟩
  · exact ⟨none, 0, rfl, by omega, by omega⟩
  · exact ⟨_, _, rfl, h1, h2⟩
end Go.Proofs.Ytfjphbljdijceaa
