/- append onto a row of the call's own, of a slice of which only its reading is known; whether programs are looked at; a number taken into a range. Conditions: each theorem's own premises. -/
import Derived.Test.YtgojnhbmelnpnaaDoorPChk
import Derived.Maps.AppendAt
namespace Go.Proofs.YtgojnhbmelnpnaaDoor.Pg
open Go.RowKit
set_option linter.unusedVariables false
set_option maxRecDepth 100000

section
variable {P : Program} {w : World}
theorem app_nil {base t ty e size n c : Nat} {i : TypeInfo} {v : Value} {xs : List Value} (ht : P.underlying t = some (.slice e)) (hi : P.info? e = some i) (ho : w.ownsRow base e size v n xs) : (Builtin.append_ #[t, t] ty #[v, .slice none 0 c]).run P w = .ok v w := by
  rcases ho.2 with ⟨rfl, rfl⟩ | ⟨g, cap, cur, rfl, _, _, hc, _⟩ <;> simp [Builtin.append_, run_underlying ht, sizeOf, typeInfo, Builtin.lenOf, Builtin.firstCells, storeCells, *]
theorem app_run {base t ty e size bytes n m c B : Nat} {i : TypeInfo} {z v : Value} {xs news : List Value} {A : Option Addr} (ht : P.underlying t = some (.slice e)) (hi : P.info? e = some i) (hz : i.zero = some z) (hs : i.size = size) (hby : i.bytes = bytes)
    (hzs : z.cells.size = size) (hp : 0 < size) (ho : w.ownsRow base e size v n xs) (hr : Rd w B A m size news) (h1 : ∀ u ∈ news, u.oneCell' = true) (h63 : n + m ≤ maxLen) (hb : (n + m) * bytes ≤ 140737488355328) (hbase : base ≤ w.heap.size) :
    ∃ v' w', (Builtin.append_ #[t, t] ty #[v, .slice A m c]).run P w = .ok v' w' ∧ w'.ownsRow base e size v' (n + m) (xs ++ news) ∧ w.grownBy w' v.ownBlock := by
  rcases Nat.eq_zero_or_pos m with h0 | h0
  · subst h0
    have hn : news = [] := List.eq_nil_of_length_eq_zero (by rw [hr.1, Nat.zero_mul])
    subst hn
    cases A with
    | none => exact ⟨v, w, app_nil ht hi ho, by rw [Nat.add_zero, List.append_nil]; exact ho, World.grownBy.refl _ _⟩
    | some a =>
      obtain ⟨v', w', r1, r2, r3, _⟩ := run_append_own_at (P := P) w base t ty e i z size bytes ht hi hz hs hby hzs hp v n xs ho a 0 c [] (by simp) (fun j u hu => by simp at hu) h1 h63 hb hbase
      exact ⟨v', w', r1, r2, r3⟩
  · obtain ⟨b, off, rfl, _, hc⟩ := hr.2 h0
    have hc' : ∀ j u, news[j]? = some u → w.cell? ((⟨b, off, none⟩ : Addr).add j) = some u := fun j u hu => by
      have h9 : (⟨b, off, none⟩ : Addr).add j = ⟨b, off + j, none⟩ := by unfold Addr.add; split <;> simp_all
      rw [h9]; exact hc j u hu
    obtain ⟨v', w', r1, r2, r3, _⟩ := run_append_own_at (P := P) w base t ty e i z size bytes ht hi hz hs hby hzs hp v n xs ho _ m c news hr.1 hc' h1 h63 hb hbase
    exact ⟨v', w', r1, r2, r3⟩
theorem app_wp {ops : Array Oper} {rest : List Oper} {o : Oper} {a : Act} {Q : Exit → Act → World → Prop} (hgd : o.guard = none) (s x : Operand) (t : TypeId) (hop : o.op = .call { callee := .builtin .append, args := #[s, x], argTypes := #[t, t] })
    (base e size bytes : Nat) (i : TypeInfo) (z : Value) (ht : P.underlying t = some (.slice e)) (hi : P.info? e = some i) (hz : i.zero = some z) (hs : i.size = size) (hby : i.bytes = bytes) (hzs : z.cells.size = size) (hp : 0 < size)
    (v : Value) (n : Nat) (xs : List Value) (hv : a.eval s = v) (ho : w.ownsRow base e size v n xs) (B : Nat) (A : Option Addr) (m c : Nat) (news : List Value) (hx : a.eval x = .slice A m c) (hr : Rd w B A m size news)
    (h1 : ∀ u ∈ news, u.oneCell' = true) (h63 : n + m ≤ maxLen) (hb : (n + m) * bytes ≤ 140737488355328) (hbase : base ≤ w.heap.size)
    (hK : ∀ v' w', w'.ownsRow base e size v' (n + m) (xs ++ news) → w.grownBy w' v.ownBlock → wpList P ops Q rest (a.put o.dst v') w') : wpList P ops Q (o :: rest) a w := by
  refine wpList_plain hgd fun K hK' => ?_
  obtain ⟨v', w', r1, r2, r3⟩ := app_run (P := P) (w := w) (ty := o.type) (c := c) ht hi hz hs hby hzs hp ho hr h1 h63 hb hbase
  unfold Oper.wp execOp
  simp only [hop, resolve, invoke, builtin, Sem.run_bind, Sem.run_pure, Result.andThen_ok, List.map_toArray, List.map_cons, List.map_nil, hv, hx, r1]
  exact hK' _ _ (hK v' w' r2 r3)
end
theorem app_want {P : Program} {w : World} {ops : Array Oper} {rest : List Oper} {o : Oper} {a : Act} {Q : Exit → Act → World → Prop} (hw : Region.wanted o (yielded ops a.tmps) = true) (s x : Operand) (t : TypeId) (hop : o.op = .call { callee := .builtin .append, args := #[s, x], argTypes := #[t, t] })
    (base e size bytes : Nat) (i : TypeInfo) (z : Value) (ht : P.underlying t = some (.slice e)) (hi : P.info? e = some i) (hz : i.zero = some z) (hs : i.size = size) (hby : i.bytes = bytes) (hzs : z.cells.size = size) (hp : 0 < size)
    (v : Value) (n : Nat) (xs : List Value) (hv : a.eval s = v) (ho : w.ownsRow base e size v n xs) (B : Nat) (A : Option Addr) (m c : Nat) (news : List Value) (hx : a.eval x = .slice A m c) (hr : Rd w B A m size news)
    (h1 : ∀ u ∈ news, u.oneCell' = true) (h63 : n + m ≤ maxLen) (hb : (n + m) * bytes ≤ 140737488355328) (hbase : base ≤ w.heap.size)
    (hK : ∀ v' w', w'.ownsRow base e size v' (n + m) (xs ++ news) → w.grownBy w' v.ownBlock → wpList P ops Q rest (a.put o.dst v') w') : wpList P ops Q (o :: rest) a w := by
  refine BigFrame.wpList_want hw fun K hK' => ?_
  obtain ⟨v', w', r1, r2, r3⟩ := app_run (P := P) (w := w) (ty := o.type) (c := c) ht hi hz hs hby hzs hp ho hr h1 h63 hb hbase
  unfold Oper.wp execOp
  simp only [hop, resolve, invoke, builtin, Sem.run_bind, Sem.run_pure, Result.andThen_ok, List.map_toArray, List.map_cons, List.map_nil, hv, hx, r1]
  exact hK' _ _ (hK v' w' r2 r3)

/-- An empty row that the call made. -/
theorem own_empty (w : World) (e size base N : Nat) (hN : N = w.heap.size) (hb : base ≤ w.heap.size) : (w.alloc (.cells #[] e)).ownsRow base e size (.slice (some ⟨N, 0, none⟩) 0 0) 0 [] := by
  subst hN
  exact World.ownsRow_lit w #[] 0 hb (by unfold maxLen; omega) (by simp)
theorem below_app {B : Nat} {W w w' : World} {base e size n : Nat} {v : Value} {xs : List Value} (hb : Below B W w) (hB : B ≤ base) (hs : B ≤ w.heap.size) (ho : w.ownsRow base e size v n xs) (hg : w.grownBy w' v.ownBlock) : Below B W w' :=
  hb.grown hg hs (fun k hk => Nat.le_trans hB (ho.lt k hk).1)

theorem round_any (k : Int) (n : Nat) (h0 : 0 < n) (h1 : n ≤ 1000) (w : World) : Calls Tryd.prog 13 #[.int .i64 k, .int .i64 n] w (fun e w' => (∃ r : Nat, r < n ∧ e = .returned (.int .i64 r)) ∧ w = w') := by
  go_enter Tryd.func13, Tryd.ntmps13
  go_wp2
  go_ret
  have h2 := Int.lt_tmod_of_pos k (b := n) (by omega)
  have h3 := Int.tmod_lt_of_pos k (b := n) (by omega)
  have h4 : wrap64 (k.tmod n + n) = k.tmod n + n := by unfold wrap64; omega
  generalize k.tmod n = x at *
  have h5 := Int.tmod_nonneg (a := x + n) (n : Int) (by omega)
  have h6 := Int.tmod_lt_of_pos (x + n) (b := n) (by omega)
  refine ⟨⟨((x + n).tmod n).toNat, by omega, ?_⟩, rfl⟩
  show Ending.returned (.int .i64 ((wrap64 (x + n)).tmod n)) = _
  rw [h4, Int.toNat_of_nonneg h5]
def Small (l : List Pr) : Prop := ∀ p ∈ l, p.n ≤ 60 ∧ ∀ e ∈ p.l, e.n ≤ 20
def LookR (n : Nat) (l : List Pr) (w : World) (e : Ending) (w' : World) : Prop := (∃ b : Bool, e = .returned (.bool b) ∧ (b = true → n ≤ 17 ∧ Small l)) ∧ w = w'
set_option maxHeartbeats 1000000 in
theorem aProgs_any (A : Option Addr) (n cap : Nat) (l : List Pr) (w : World) (hR : Hid (RdP w A n l)) (hn : n ≤ 4611686018427387904) : Calls Tryd.prog 7 #[.slice A n cap] w (LookR n l w) := by
  go_enter Tryd.func7, Tryd.ntmps7
  go_wp2
  go_loop [3, 4] (fun i j => ∃ k : Nat, k ≤ n ∧ k ≤ 20 ∧ i = .int .i64 k ∧ Hid (Small (l.take k))) (fun i _ => 20 - (intOf i).toNat)
  case atStart => exact ⟨0, by omega, by omega, rfl, fun p hp => by simp at hp⟩
  case round =>
    obtain ⟨k, hk, hk2, rfl, hS⟩ := hrel
    by_cases hlt : k < n
    · by_cases hk20 : k < 20
      · obtain ⟨bb, off, rfl, hb, hc⟩ := hR.out.cells (by omega)
        have hky : k < l.length := by rw [hR.out.1]; exact hlt
        have c0 := hc k (l[k]'hky) (List.getElem?_eq_getElem hky)
        have htk : l.take (k + 1) = l.take k ++ [l[k]'hky] := List.take_succ_eq_append_getElem hky
        have HAt := Lib.hid (hR.out.2.2 _ (List.getElem_mem hky))
        generalize l[k]'hky = x at *
        obtain ⟨xA, xn, xc, xl⟩ := x
        have HTK := Lib.hid htk
        clear htk hc hky
        simp only at c0
        by_cases h60 : xn ≤ 60
        · go_wp2
          go_loop [4] (fun j => ∃ m : Nat, m ≤ xn ∧ j = .int .i64 m ∧ Hid (∀ e ∈ xl.take m, e.n ≤ 20)) (fun j => xn - (intOf j).toNat)
          case atStart => exact ⟨0, by omega, rfl, fun e he => by simp at he⟩
          case round =>
            obtain ⟨m, hm, rfl, hI⟩ := hrel
            by_cases hmx : m < xn
            · obtain ⟨b2, o2, rfl, hb2, hc2⟩ := HAt.out.2.2.cells (by show 0 < xn; omega)
              have hml : m < xl.length := by rw [show xl.length = xn from HAt.out.2.2.1]; exact hmx
              obtain ⟨_, _, _, _, d4, _⟩ := hc2 m (xl[m]'hml) (List.getElem?_eq_getElem hml)
              have htm : xl.take (m + 1) = xl.take m ++ [xl[m]'hml] := List.take_succ_eq_append_getElem hml
              generalize xl[m]'hml = y at *
              have HTM := Lib.hid htm
              clear htm hc2 hml
              obtain ⟨op, a, b, c, yA, yn, yc, yd, ys⟩ := y
              simp only at d4
              by_cases h20 : yn ≤ 20
              · go_wp2
                go_round
                case rel =>
                  refine ⟨m + 1, by omega, by go_num, ?_⟩
                  show ∀ e ∈ _, _
                  rw [HTM.out]
                  intro e he
                  rcases List.mem_append.1 he with he | he
                  · exact hI.out e he
                  · simp at he; subst he; exact h20
                case measure => simp [intOf]; omega
              · go_wp2
                go_ret
                exact ⟨⟨false, rfl, fun h => by cases h⟩, rfl⟩
            · obtain rfl : m = xn := by omega
              go_wp2
              go_round
              case rel =>
                refine ⟨k + 1, by omega, by omega, by go_num, ?_⟩
                show ∀ p ∈ _, _
                rw [HTK.out]
                intro p hp
                rcases List.mem_append.1 hp with hp | hp
                · exact hS.out p hp
                · simp at hp; subst hp
                  refine ⟨h60, fun e he => hI.out e ?_⟩
                  rw [List.take_of_length_le (by rw [show xl.length = m from HAt.out.2.2.1]; exact Nat.le_refl _)]
                  exact he
              case measure => simp [intOf]; omega
        · go_wp2
          go_ret
          exact ⟨⟨false, rfl, fun h => by cases h⟩, rfl⟩
      · have hk' : k = 20 := by omega
        subst hk'
        have hn17 : ¬ n ≤ 17 := by omega
        go_wp2
        go_ret
        exact ⟨⟨_, rfl, fun h => by first | cases h | (simp at h; omega)⟩, rfl⟩
    · obtain rfl : k = n := by omega
      have HA : Hid (Small l) := by have h := hS.out; rw [List.take_of_length_le (by rw [hR.out.1]; exact Nat.le_refl _)] at h; exact h
      by_cases h17 : k ≤ 17
      · go_wp2
        go_ret
        exact ⟨⟨_, rfl, fun _ => ⟨h17, HA.out⟩⟩, rfl⟩
      · by_cases h20 : k < 20
        · go_wp2
          go_ret
          exact ⟨⟨_, rfl, fun h => by first | cases h | (simp at h; omega)⟩, rfl⟩
        · go_wp2
          go_ret
          exact ⟨⟨_, rfl, fun h => by first | cases h | (simp at h; omega)⟩, rfl⟩
end Go.Proofs.YtgojnhbmelnpnaaDoor.Pg
