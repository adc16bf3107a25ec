/- What is taken at one time, one by one: plain lists. No condition. -/
import Derived.Test.YtbpoippgioincaaAdn
import Derived.Test.YtbpoippgioincaaTlw
namespace Go.Proofs.Ytbpoippgioincaa
open Go.RowKit
set_option linter.unusedVariables false
/-- The periods of the first k. -/
def gp (z : List Int) : Nat → Int → Int
  | 0 => fun _ => 0
  | k + 1 => fput (gp z k) k (z.getD k 0)
theorem gp_at {z : List Int} : ∀ {k i : Nat}, i < k → gp z k (i : Int) = z.getD i 0
  | k + 1, i, h => by
    by_cases e : i = k
    · subst e; exact fput_at _ _ _
    · rw [gp, fput_ne (by omega)]; exact gp_at (by omega)
theorem gp_succ {z : List Int} {k : Nat} {x : Int} (h : z[k]? = some x) : fput (gp z k) (k : Int) x = gp z (k + 1) := by
  rw [gp, List.getD_eq_getElem?_getD, h]; rfl
/-- j of T have been taken; what comes again is due after now. -/
structure Stg (T : List It) (now : Int) (pr : Int → Int) (j : Nat) (S : List It) : Prop where
  a : ∀ x ∈ S, x ∈ T.drop j ∨ now < x.w
  b : ∀ x ∈ T.drop j, x ∈ S
  r : ∀ x ∈ S, x.id ∈ ids T
  c : ∀ x ∈ T.take j, (x.id ∈ ids S ↔ 0 < pr x.id)
  d : ∀ x ∈ T.take j, x.w ≤ now
  len : S.length ≤ T.length
section
variable {T S S' : List It} {now : Int} {pr : Int → Int} {j n m : Nat} {x y : It}
theorem Stg.start (T : List It) (now : Int) (pr : Int → Int) : Stg T now pr 0 T :=
  ⟨fun x h => .inl h, fun x h => h, fun x h => mem_ids h, fun x h => by simp at h, fun x h => by simp at h, Nat.le_refl _⟩
theorem drop_of {T : List It} {j : Nat} {x : It} (h : T[j]? = some x) : T.drop j = x :: T.drop (j + 1) := by
  obtain ⟨h1, h2⟩ := List.getElem?_eq_some_iff.1 h
  rw [← h2]; exact List.drop_eq_getElem_cons h1
theorem take_of {T : List It} {j : Nat} {x : It} (h : T[j]? = some x) : T.take (j + 1) = T.take j ++ [x] := by
  rw [List.take_add_one, h]; rfl
/-- Those before and those behind. -/
theorem cut_at (hT : Ok n T) (h : T[j]? = some x) : (∀ y ∈ T.drop (j + 1), x.lt y ∧ x.id ≠ y.id) ∧ ∀ y ∈ T.take j, y.id ≠ x.id := by
  constructor
  · intro y hy
    have h1 : Srt (T.drop j) := hT.srt.sublist (List.drop_sublist _ _)
    rw [drop_of h] at h1
    have h2 : (ids (T.drop j)).Nodup := hT.ids.sublist ((List.drop_sublist _ _).map _)
    rw [drop_of h] at h2
    exact ⟨(List.pairwise_cons.1 h1).1 y hy, fun e => (List.nodup_cons.1 h2).1 (by rw [e]; exact mem_ids hy)⟩
  · intro y hy e
    obtain ⟨k, hk, _⟩ := mem_at hy
    have hkj : k < j := by have := at_lt hk; simp at this; omega
    rw [List.getElem?_take_of_lt hkj] at hk
    have := ids_inj hT.ids hk h e
    omega
theorem Stg.head (h : Stg T now pr j S) (hT : Ok n T) (hS : Ok m S) (hx : T[j]? = some x) (hw : x.w ≤ now) : ∃ S', S = x :: S' := by
  have hd := drop_of hx
  have h1 : x ∈ S := h.b x (by rw [hd]; simp)
  cases S with
  | nil => cases h1
  | cons y S' =>
    refine ⟨S', ?_⟩
    rcases List.mem_cons.1 h1 with e | h2
    · rw [e]
    · exfalso
      have h3 : y.lt x := (List.pairwise_cons.1 hS.srt).1 x h2
      have h4 : y.w ≤ x.w := by unfold It.lt at h3; omega
      rcases h.a y (by simp) with h5 | h5
      · rw [hd] at h5
        rcases List.mem_cons.1 h5 with e | h6
        · subst e; exact It.lt_irrefl _ h3
        · exact It.lt_asymm h3 ((cut_at hT hx).1 y h6).1
      · omega
theorem Stg.rest (h : Stg T now pr j (x :: S)) (hT : Ok n T) (hS : Ok m (x :: S)) (hx : T[j]? = some x) :
    (∀ y ∈ S, y ∈ T.drop (j + 1) ∨ now < y.w) ∧ (∀ y ∈ T.drop (j + 1), y ∈ S) ∧ x.id ∉ ids S ∧ ∀ z ∈ T.take j, (z.id ∈ ids S ↔ 0 < pr z.id) := by
  have hd := drop_of hx
  have hn : x.id ∉ ids S := (List.nodup_cons.1 hS.ids).1
  have hc := cut_at hT hx
  refine ⟨fun y hy => ?_, fun y hy => ?_, hn, fun z hz => ?_⟩
  · rcases h.a y (by simp [hy]) with h1 | h1
    · rw [hd] at h1
      rcases List.mem_cons.1 h1 with e | h2
      · subst e; exact absurd (mem_ids hy) hn
      · exact .inl h2
    · exact .inr h1
  · have h1 := h.b y (by rw [hd]; simp [hy])
    rcases List.mem_cons.1 h1 with e | h2
    · subst e; exact absurd rfl (hc.1 y hy).2
    · exact h2
  · rw [← h.c z hz]
    have hne := hc.2 z hz
    constructor
    · intro h1; exact List.mem_cons_of_mem _ h1
    · intro h1
      rcases List.mem_cons.1 h1 with e | h2
      · exact absurd e hne
      · exact h2
theorem Stg.out (h : Stg T now pr j (x :: S)) (hT : Ok n T) (hS : Ok m (x :: S)) (hx : T[j]? = some x) (hw : x.w ≤ now) (hp : ¬ 0 < pr x.id) : Stg T now pr (j + 1) S := by
  obtain ⟨h1, h2, h3, h4⟩ := h.rest hT hS hx
  have hl := h.len
  refine ⟨h1, h2, fun y hy => h.r y (by simp [hy]), fun z hz => ?_, fun z hz => ?_, by simp at hl; omega⟩
  · rw [take_of hx, List.mem_append, List.mem_singleton] at hz
    rcases hz with hz | rfl
    · exact h4 z hz
    · exact ⟨fun e => absurd e h3, fun e => absurd e hp⟩
  · rw [take_of hx, List.mem_append, List.mem_singleton] at hz
    rcases hz with hz | rfl
    · exact h.d z hz
    · exact hw
theorem Stg.on (h : Stg T now pr j (x :: S)) (hT : Ok n T) (hS : Ok m (x :: S)) (hx : T[j]? = some x) (hw : x.w ≤ now) (hp : 0 < pr x.id) (hy : y.id = x.id) (hyw : now < y.w) : Stg T now pr (j + 1) (ins y S) := by
  obtain ⟨h1, h2, h3, h4⟩ := h.rest hT hS hx
  have hl := h.len
  have hc := cut_at hT hx
  refine ⟨fun z hz => ?_, fun z hz => ins_mem.2 (.inr (h2 z hz)), fun z hz => ?_, fun z hz => ?_, fun z hz => ?_, by rw [ins_len]; simp at hl; omega⟩
  · rcases ins_mem.1 hz with rfl | hz
    · exact .inr hyw
    · exact h1 z hz
  · rcases ins_mem.1 hz with rfl | hz
    · rw [hy]; exact h.r x (by simp)
    · exact h.r z (by simp [hz])
  · have hi : z.id ∈ ids (ins y S) ↔ z.id = y.id ∨ z.id ∈ ids S := by rw [ids_ins.mem_iff]; simp
    rw [take_of hx, List.mem_append, List.mem_singleton] at hz
    rcases hz with hz | rfl
    · rw [hi, h4 z hz, hy]
      exact ⟨fun e => e.resolve_left (hc.2 z hz), .inr⟩
    · rw [hi]; exact ⟨fun _ => hp, fun _ => .inl hy.symm⟩
  · rw [take_of hx, List.mem_append, List.mem_singleton] at hz
    rcases hz with hz | rfl
    · exact h.d z hz
    · exact hw
/-- All that are left are due later. -/
def Left (T : List It) (now : Int) (j : Nat) : Prop := ∀ x ∈ T.drop j, now < x.w
theorem left_of (hT : Ok n T) (h : ∀ x, T[j]? = some x → now < x.w) : Left T now j := fun y hy => by
  rcases Nat.lt_or_ge j T.length with hj | hj
  · obtain ⟨x, hx⟩ := ex_at hj
    have h1 := h x hx
    rw [drop_of hx] at hy
    rcases List.mem_cons.1 hy with rfl | hy
    · exact h1
    · have := ((cut_at hT hx).1 y hy).1
      unfold It.lt at this; omega
  · rw [List.drop_eq_nil_of_le hj] at hy; cases hy
theorem Stg.later (h : Stg T now pr j S) (hl : Left T now j) : ∀ x ∈ S, now < x.w := fun x hx => by
  rcases h.a x hx with h1 | h1
  · exact hl x h1
  · exact h1
theorem Stg.idle (h : Stg T now pr j S) (hl : Left T now j) : Idle now S := by
  cases S with
  | nil => trivial
  | cons x S => exact h.later hl x (by simp)
/-- Who has been taken. -/
def tkn (T : List It) (j i : Nat) : Bool := (T.take j).any fun x => x.id == (i : Int)
theorem tkn_zero (T : List It) : tkn T 0 = fun _ => false := rfl
theorem tkn_succ {q : Nat} (h : T[j]? = some x) (e : x.id = (q : Int)) : tkn T (j + 1) = fun k => tkn T j k || q == k := by
  funext k
  have e1 : ((q : Int) == (k : Int)) = (q == k) := by rw [Bool.eq_iff_iff, beq_iff_eq, beq_iff_eq]; omega
  unfold tkn
  rw [take_of h, List.any_append, ← e1, ← e]
  simp [List.any_cons]
theorem tkn_new {q : Nat} (hT : Ok n T) (h : T[j]? = some x) (e : x.id = (q : Int)) : tkn T j q = false := by
  unfold tkn
  rw [List.any_eq_false]
  intro y hy
  have := (cut_at hT h).2 y hy
  simp
  omega
/-- The one taken before: its time, its number. -/
def pvW (T : List It) : Nat → Int
  | 0 => -1
  | j + 1 => (T.getD j ⟨0, 0, 0⟩).w
def pvI (T : List It) : Nat → Int
  | 0 => -1
  | j + 1 => (T.getD j ⟨0, 0, 0⟩).id
theorem pv_succ (h : T[j]? = some x) : pvW T (j + 1) = x.w ∧ pvI T (j + 1) = x.id := by simp [pvW, pvI, List.getD_eq_getElem?_getD, h]
theorem pv_lt (hT : Ok n T) (h : T[j]? = some x) (hw : 0 ≤ x.w) (hs : ∀ y ∈ T, y.s = y.id + 1) : pvW T j < x.w ∨ pvW T j = x.w ∧ pvI T j < x.id := by
  cases j with
  | zero => left; show (-1 : Int) < x.w; omega
  | succ j =>
    have hj : j < T.length := by have := at_lt h; omega
    obtain ⟨y, hy⟩ := ex_at hj
    rw [(pv_succ hy).1, (pv_succ hy).2]
    have h1 := drop_of hy
    have h2 : x ∈ T.drop (j + 1) := by rw [drop_of h]; simp
    have h3 := ((cut_at hT hy).1 x h2).1
    have h4 := hs x (at_mem h)
    have h5 := hs y (at_mem hy)
    unfold It.lt at h3
    omega
end
section
variable {l z : List Int} {n m j : Nat} {S : List It} {now : Int}
theorem adds_one (l : List Int) {i n : Nat} (h : i < n) : (⟨(i : Int), l.getD i 0, (i : Int) + 1⟩ : It) ∈ adds l n := adds_mem.2 ⟨i, h, rfl⟩
theorem tkn_end {pr : Int → Int} (hT : Ok n (adds l n)) (h : Stg (adds l n) now pr j S) (hl : Left (adds l n) now j) {i : Nat} (hi : i < n) : tkn (adds l n) j i = decide (l.getD i 0 ≤ now) := by
  have hx := adds_one l hi
  rw [Bool.eq_iff_iff, decide_eq_true_iff]
  unfold tkn
  rw [List.any_eq_true]
  constructor
  · rintro ⟨y, hy, e⟩
    have e1 : y.id = (i : Int) := by simpa using e
    have h1 := h.d y hy
    have h2 : y = ⟨(i : Int), l.getD i 0, (i : Int) + 1⟩ := ids_one hT.ids (List.mem_of_mem_take hy) hx e1
    rw [h2] at h1; exact h1
  · intro h1
    have h2 : (⟨(i : Int), l.getD i 0, (i : Int) + 1⟩ : It) ∈ (adds l n).take j ++ (adds l n).drop j := by rw [List.take_append_drop]; exact hx
    rcases List.mem_append.1 h2 with h3 | h3
    · exact ⟨_, h3, by simp⟩
    · have h4 : now < l.getD i 0 := hl _ h3
      omega
theorem stays {pr : Int → Int} (hT : Ok n (adds l n)) (h : Stg (adds l n) now pr j S) (hl : Left (adds l n) now j) {i : Nat} (hi : i < n) : (i : Int) ∈ ids S ↔ now < l.getD i 0 ∨ 0 < pr (i : Int) := by
  have hx := adds_one l hi
  have h2 : (⟨(i : Int), l.getD i 0, (i : Int) + 1⟩ : It) ∈ (adds l n).take j ++ (adds l n).drop j := by rw [List.take_append_drop]; exact hx
  rcases List.mem_append.1 h2 with h3 | h3
  · have h4 := h.c _ h3
    have h5 : l.getD i 0 ≤ now := h.d _ h3
    simp only at h4
    rw [h4]
    exact ⟨.inr, fun e => e.resolve_left (by omega)⟩
  · have h4 : now < l.getD i 0 := hl _ h3
    exact ⟨fun _ => .inl h4, fun _ => mem_ids (h.b _ h3)⟩
end
end Go.Proofs.Ytbpoippgioincaa
