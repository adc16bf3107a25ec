/- A tree as a list: who was named, and whether one hangs there; who hangs on whom, walks, ways up: plain mathematics. No condition but those that each names.
Plain mathematics of a list that stands as a heap of four below each: what is put right upward, and downward. -/
namespace Go.Proofs.YtdpapnfjpefhkaaGreat.Tr
set_option linter.unusedVariables false
abbrev TS := List (Int × Bool)
def kidOf (S : TS) (i j : Nat) : Bool := match S[j]? with
 | some (p, l) => l && p == (i : Int) && decide (i < j)
 | none => false
def kids (S : TS) (i : Nat) : List Nat := (List.range S.length).filter (kidOf S i)
theorem kidOf_iff {S : TS} {i j : Nat} : kidOf S i j = true ↔ S[j]? = some ((i : Int), true) ∧ i < j := by
 unfold kidOf
 split
 · rename_i p l h
   rw [h]
   simp only [Bool.and_eq_true, beq_iff_eq, decide_eq_true_eq, Option.some.injEq, Prod.mk.injEq]
   constructor
   · rintro ⟨⟨h1, h2⟩, h3⟩; exact ⟨⟨h2, h1⟩, h3⟩
   · rintro ⟨⟨h2, h1⟩, h3⟩; exact ⟨⟨h1, h2⟩, h3⟩
 · rename_i h
   rw [h]; simp
theorem mem_kids {S : TS} {i j : Nat} : j ∈ kids S i ↔ S[j]? = some ((i : Int), true) ∧ i < j := by
 unfold kids
 rw [List.mem_filter, kidOf_iff, List.mem_range]
 constructor
 · exact fun h => h.2
 · exact fun h => ⟨(List.getElem?_eq_some_iff.1 h.1).1, h⟩
theorem kids_lt {S : TS} {i j : Nat} (h : j ∈ kids S i) : i < j ∧ j < S.length := ⟨(mem_kids.1 h).2, (List.getElem?_eq_some_iff.1 (mem_kids.1 h).1).1⟩
theorem kids_rise (S : TS) (i : Nat) : (kids S i).Pairwise (· < ·) := List.Pairwise.filter _ List.pairwise_lt_range
def walk (S : TS) (i : Nat) : List Nat := i :: (kids S i).attach.flatMap fun j => walk S j.1
termination_by S.length - i
decreasing_by
 have := kids_lt j.2
 omega
theorem walk_eq (S : TS) (i : Nat) : walk S i = i :: (kids S i).flatMap (walk S) := by
 rw [walk]
 congr 1
 rw [← List.flatMap_map (f := Subtype.val) (g := walk S), List.attach_map_subtype_val]
def WF (S : TS) : Prop := ∀ (i : Nat) (p : Int) (l : Bool), S[i]? = some (p, l) → -1 ≤ p ∧ p < (i : Int) ∧ (l = true → 0 ≤ p)
theorem WF.nil : WF [] := fun i p l h => by simp at h
theorem WF.push {S : TS} (h : WF S) {p : Int} {l : Bool} (h1 : -1 ≤ p) (h2 : p < (S.length : Int)) (h3 : l = true → 0 ≤ p) : WF (S ++ [(p, l)]) := by
 intro i q m hi
 rcases Nat.lt_or_ge i S.length with hl | hl
 · rw [List.getElem?_append_left hl] at hi; exact h i q m hi
 · rw [List.getElem?_append_right hl] at hi
   rcases Nat.eq_zero_or_pos (i - S.length) with h0 | h0
   · rw [h0] at hi; simp at hi; obtain ⟨rfl, rfl⟩ := hi
     exact ⟨h1, by omega, h3⟩
   · have : ¬ i - S.length < 1 := by omega
     rw [List.getElem?_eq_none (by simp; omega)] at hi; cases hi
def cut (S : TS) (k : Nat) : TS := match S[k]? with
 | some (p, _) => S.set k (p, false)
 | none => S
theorem cut_len (S : TS) (k : Nat) : (cut S k).length = S.length := by
 unfold cut; split <;> simp
theorem cut_at (S : TS) (k i : Nat) : (cut S k)[i]? = if i = k then S[i]?.map fun x => (x.1, false) else S[i]? := by
 unfold cut
 split
 · rename_i p l h
   rw [List.getElem?_set]
   by_cases e : k = i
   · subst e
     rw [if_pos rfl, if_pos rfl, h, if_pos (List.getElem?_eq_some_iff.1 h).1]; rfl
   · rw [if_neg e, if_neg (fun x => e x.symm)]
 · rename_i h
   by_cases e : i = k
   · subst e; rw [if_pos rfl, h]; rfl
   · rw [if_neg e]
theorem cut_some {S : TS} {k : Nat} {p : Int} {l : Bool} (h : S[k]? = some (p, l)) : cut S k = S.set k (p, false) := by unfold cut; rw [h]
theorem WF.cut {S : TS} (h : WF S) (k : Nat) : WF (cut S k) := by
 intro i p l hi
 rw [cut_at] at hi
 by_cases e : i = k
 · rw [if_pos e] at hi
   cases hs : S[i]? with
   | none => rw [hs] at hi; cases hi
   | some x =>
    rw [hs] at hi; simp at hi
    obtain ⟨rfl, rfl⟩ := hi
    have := h i x.1 x.2 hs
    exact ⟨this.1, this.2.1, by simp⟩
 · rw [if_neg e] at hi; exact h i p l hi
theorem filter_same {α : Type} {p q : α → Bool} : ∀ {l : List α}, (∀ x ∈ l, p x = q x) → l.filter p = l.filter q
 | [], _ => rfl
 | a :: l, h => by
  rw [List.filter_cons, List.filter_cons, h a (by simp), filter_same fun x hx => h x (by simp [hx])]
theorem kids_push {S : TS} (h : WF S) (p : Int) (l : Bool) (i : Nat) (hi : i < S.length) : kids (S ++ [(p, l)]) i = if l = true ∧ p = (i : Int) then kids S i ++ [S.length] else kids S i := by
 have e1 : (List.range S.length).filter (kidOf (S ++ [(p, l)]) i) = kids S i := by
  unfold kids
  apply filter_same
  intro x hx
  have hx := List.mem_range.1 hx
  unfold kidOf
  rw [List.getElem?_append_left hx]
 have e2 : kidOf (S ++ [(p, l)]) i S.length = (l && p == (i : Int)) := by
  unfold kidOf
  rw [List.getElem?_append_right (Nat.le_refl _), Nat.sub_self]
  simp [hi]
 unfold kids
 rw [List.length_append, show S.length + [(p, l)].length = S.length + 1 from rfl, List.range_succ, List.filter_append, e1]
 rw [List.filter_cons, e2, List.filter_nil]
 by_cases c : l = true ∧ p = (i : Int)
 · rw [if_pos c, if_pos (by simp [c.1, c.2])]; rfl
 · rw [if_neg c, if_neg (by simpa using c)]; simp [kids]
theorem kids_new {S : TS} (i : Nat) (hi : S.length ≤ i + 1) : kids S i = [] := by
 rw [List.eq_nil_iff_forall_not_mem]
 intro j hj
 have := kids_lt hj
 omega
theorem kids_cut (S : TS) (k i : Nat) : kids (cut S k) i = (kids S i).filter fun x => !(x == k) := by
 unfold kids
 rw [cut_len, List.filter_filter]
 apply filter_same
 intro x hx
 unfold kidOf
 rw [cut_at]
 by_cases e : x = k
 · subst e
   rw [if_pos rfl]
   cases hs : S[x]? with
   | none => simp
   | some y => simp
 · rw [if_neg e]
   have e2 : (x == k) = false := by simpa using e
   rw [e2]; simp
def upTo (S : TS) (j i : Nat) : Bool := (j == i) || match S[j]? with
 | some (p, true) => if h : p.toNat < j then upTo S p.toNat i else false
 | _ => false
termination_by j
theorem upTo_self (S : TS) (i : Nat) : upTo S i i = true := by rw [upTo]; simp
theorem upTo_step {S : TS} {j i p : Nat} (h : S[j]? = some ((p : Int), true)) (hp : p < j) : upTo S j i = ((j == i) || upTo S p i) := by
 rw [upTo, h]
 simp [hp]
theorem upTo_stop {S : TS} {j i : Nat} (h : ∀ p, S[j]? ≠ some (p, true)) : upTo S j i = (j == i) := by
 rw [upTo]
 split
 · rename_i p hp; exact absurd hp (h p)
 · simp
theorem WF.case {S : TS} (h : WF S) (j : Nat) : (∃ p : Nat, S[j]? = some ((p : Int), true) ∧ p < j) ∨ ∀ p, S[j]? ≠ some (p, true) := by
 by_cases c : ∃ p, S[j]? = some (p, true)
 · obtain ⟨p, hp⟩ := c
   have := h j p true hp
   obtain ⟨q, rfl⟩ := Int.eq_ofNat_of_zero_le (this.2.2 rfl)
   exact .inl ⟨q, hp, by omega⟩
 · exact .inr fun p hp => c ⟨p, hp⟩
theorem upTo_le {S : TS} (h : WF S) (i : Nat) : ∀ n j, j < n → upTo S j i = true → i ≤ j := by
 intro n
 induction n with
 | zero => intro j hj; omega
 | succ n ih =>
  intro j hj hu
  rcases h.case j with ⟨p, hp, hl⟩ | hno
  · rw [upTo_step hp hl] at hu
    rcases Bool.or_eq_true_iff.1 hu with e | e
    · have := beq_iff_eq.1 e; omega
    · have := ih p (by omega) e; omega
  · rw [upTo_stop hno] at hu
    have := beq_iff_eq.1 hu; omega
theorem upTo_two {S : TS} (h : WF S) (a b : Nat) (hab : a ≤ b) : ∀ n j, j < n → upTo S j a = true → upTo S j b = true → upTo S b a = true := by
 intro n
 induction n with
 | zero => intro j hj; omega
 | succ n ih =>
  intro j hj h1 h2
  by_cases e : j = b
  · subst e; exact h1
  have ea : j ≠ a := by
   intro ea
   have := upTo_le h b (n + 1) j hj h2; omega
  have e1 : (j == a) = false := by simpa using ea
  have e2 : (j == b) = false := by simpa using e
  rcases h.case j with ⟨p, hp, hl⟩ | hno
  · rw [upTo_step hp hl, e1, Bool.false_or] at h1
    rw [upTo_step hp hl, e2, Bool.false_or] at h2
    exact ih p (by omega) h1 h2
  · rw [upTo_stop hno, e1] at h1; cases h1
theorem upTo_trans {S : TS} (h : WF S) (a b : Nat) (hab : upTo S b a = true) : ∀ n j, j < n → upTo S j b = true → upTo S j a = true := by
 intro n
 induction n with
 | zero => intro j hj; omega
 | succ n ih =>
  intro j hj h1
  by_cases e : j = b
  · subst e; exact hab
  have e2 : (j == b) = false := by simpa using e
  rcases h.case j with ⟨p, hp, hl⟩ | hno
  · rw [upTo_step hp hl, e2, Bool.false_or] at h1
    rw [upTo_step hp hl, ih p (by omega) h1, Bool.or_true]
  · rw [upTo_stop hno, e2] at h1; cases h1
theorem walk_head (S : TS) (i : Nat) : i ∈ walk S i := by rw [walk_eq]; simp
theorem walk_kid {S : TS} {i j x : Nat} (hj : j ∈ kids S i) (hx : x ∈ walk S j) : x ∈ walk S i := by
 rw [walk_eq]; exact List.mem_cons_of_mem _ (List.mem_flatMap.2 ⟨j, hj, hx⟩)
theorem walk_cases {S : TS} {i x : Nat} (h : x ∈ walk S i) : x = i ∨ ∃ j ∈ kids S i, x ∈ walk S j := by
 rw [walk_eq] at h
 rcases List.mem_cons.1 h with e | e
 · exact .inl e
 · exact .inr (List.mem_flatMap.1 e)
theorem walk_up {S : TS} (h : WF S) : ∀ n i x, S.length - i < n → i < S.length → x ∈ walk S i → x < S.length ∧ upTo S x i = true := by
 intro n
 induction n with
 | zero => intro i x hn; omega
 | succ n ih =>
  intro i x hn hi hx
  rcases walk_cases hx with rfl | ⟨j, hj, hx⟩
  · exact ⟨hi, upTo_self _ _⟩
  · have hk := kids_lt hj
    obtain ⟨h1, h2⟩ := ih j x (by omega) hk.2 hx
    refine ⟨h1, upTo_trans h i j ?_ _ x (Nat.lt_succ_self x) h2⟩
    rw [upTo_step (mem_kids.1 hj).1 hk.1, upTo_self, Bool.or_true]
theorem walk_down {S : TS} : ∀ n i p j, S.length - i < n → p ∈ walk S i → j ∈ kids S p → j ∈ walk S i := by
 intro n
 induction n with
 | zero => intro i p j hn; omega
 | succ n ih =>
  intro i p j hn hp hj
  rcases walk_cases hp with rfl | ⟨k, hk, hp⟩
  · exact walk_kid hj (walk_head _ _)
  · have := kids_lt hk
    exact walk_kid hk (ih k p j (by omega) hp hj)
theorem up_walk {S : TS} (h : WF S) (i : Nat) : ∀ n x, x < n → x < S.length → upTo S x i = true → x ∈ walk S i := by
 intro n
 induction n with
 | zero => intro x hn; omega
 | succ n ih =>
  intro x hn hx hu
  by_cases e : x = i
  · subst e; exact walk_head _ _
  have e2 : (x == i) = false := by simpa using e
  rcases h.case x with ⟨p, hp, hl⟩ | hno
  · rw [upTo_step hp hl, e2, Bool.false_or] at hu
    exact walk_down _ i p x (Nat.lt_succ_self _) (ih p (by omega) (by omega) hu) (mem_kids.2 ⟨hp, hl⟩)
  · rw [upTo_stop hno, e2] at hu; cases hu
theorem mem_walk {S : TS} (h : WF S) {i x : Nat} (hi : i < S.length) : x ∈ walk S i ↔ x < S.length ∧ upTo S x i = true :=
 ⟨walk_up h _ i x (Nat.lt_succ_self _) hi, fun ⟨h1, h2⟩ => up_walk h i _ x (Nat.lt_succ_self _) h1 h2⟩
theorem walk_ge {S : TS} (h : WF S) {i x : Nat} (hi : i < S.length) (hx : x ∈ walk S i) : i ≤ x := upTo_le h i _ x (Nat.lt_succ_self _) ((mem_walk h hi).1 hx).2
theorem walk_apart {S : TS} (h : WF S) {i a b x : Nat} (ha : a ∈ kids S i) (hb : b ∈ kids S i) (hab : a < b) (h1 : x ∈ walk S a) (h2 : x ∈ walk S b) : False := by
 have ka := kids_lt ha
 have kb := kids_lt hb
 have u1 := ((mem_walk h ka.2).1 h1).2
 have u2 := ((mem_walk h kb.2).1 h2).2
 have u3 := upTo_two h a b (Nat.le_of_lt hab) _ x (Nat.lt_succ_self _) u1 u2
 rw [upTo_step (mem_kids.1 hb).1 kb.1, show (b == a) = false from by simp; omega, Bool.false_or] at u3
 have := upTo_le h a _ i (Nat.lt_succ_self _) u3
 omega
def Ahead (S : TS) (a b : Nat) : Prop := a ≠ b ∧ (∀ p : Nat, S[a]? = some ((p : Int), true) → p ≠ b) ∧ ∀ p : Nat, S[a]? = some ((p : Int), true) → S[b]? = some ((p : Int), true) → a < b
theorem walk_rises {S : TS} (h : WF S) : ∀ n i, S.length - i < n → i < S.length → (walk S i).Pairwise (Ahead S) := by
 intro n
 induction n with
 | zero => intro i hn; omega
 | succ n ih =>
  intro i hn hi
  rw [walk_eq, List.pairwise_cons]
  refine ⟨fun x hx => ?_, ?_⟩
  · obtain ⟨j, hj, hx⟩ := List.mem_flatMap.1 hx
    have hk := kids_lt hj
    have hg := walk_ge h hk.2 hx
    exact ⟨by omega, fun p hp => by have := (h i p true hp).2.1; omega, fun _ _ _ => by omega⟩
  · rw [List.pairwise_flatMap]
    refine ⟨fun j hj => ih j (by have := kids_lt hj; omega) (kids_lt hj).2, ?_⟩
    refine List.Pairwise.imp_of_mem (fun {a b} ha hb hab x hx y hy => ?_) (kids_rise S i)
    have ka := kids_lt ha
    have kb := kids_lt hb
    have gx := walk_ge h ka.2 hx
    have gy := walk_ge h kb.2 hy
    have lx := ((mem_walk h ka.2).1 hx).1
    have ly := ((mem_walk h kb.2).1 hy).1
    refine ⟨fun e => walk_apart h ha hb hab hx (e ▸ hy), fun p hp e => ?_, fun p hpx hpy => ?_⟩
    · subst e
      have hl := (h x p true hp).2.1
      exact walk_apart h ha hb hab hx (walk_down _ b p x (Nat.lt_succ_self _) hy (mem_kids.2 ⟨hp, by omega⟩))
    · rcases Nat.lt_or_ge x y with c | c
      · exact c
      exfalso
      have hl := (h x p true hpx).2.1
      have hl2 := (h y p true hpy).2.1
      -- y stands below b, its parent below b, or y is b
      rcases walk_cases hy with rfl | ⟨k, hk, hy'⟩
      · have e1 : p = i := by
         have := (mem_kids.1 hb).1.symm.trans hpy
         simp at this; omega
        subst e1
        rcases walk_cases hx with rfl | ⟨k, hk, hx'⟩
        · omega
        · have := kids_lt hk
          have g := walk_ge h this.2 hx'
          have hu := ((mem_walk h ka.2).1 hx).2
          rw [upTo_step hpx (by omega), show (x == a) = false from by simp; omega, Bool.false_or] at hu
          have := upTo_le h a _ p (Nat.lt_succ_self _) hu
          omega
      · have kk := kids_lt hk
        have g := walk_ge h kk.2 hy'
        have hu := ((mem_walk h kb.2).1 hy).2
        rw [upTo_step hpy (by omega), show (y == b) = false from by simp; omega, Bool.false_or] at hu
        have py : p ∈ walk S b := (mem_walk h kb.2).2 ⟨by omega, hu⟩
        exact walk_apart h ha hb hab hx (walk_down _ b p x (Nat.lt_succ_self _) py (mem_kids.2 ⟨hpx, by omega⟩))
theorem walk_once {S : TS} (h : WF S) {i : Nat} (hi : i < S.length) : (walk S i).Nodup := (walk_rises h _ i (Nat.lt_succ_self _) hi).imp fun h => h.1
theorem once_len : ∀ n (l : List Nat), l.Nodup → (∀ x ∈ l, x < n) → l.length ≤ n := by
 intro n
 induction n with
 | zero => intro l _ h; cases l with | nil => simp | cons a l => exact absurd (h a (by simp)) (by omega)
 | succ n ih =>
  intro l hl h
  have h1 := ih (l.erase n) (hl.erase n) (fun x hx => by
   have := (hl.mem_erase_iff).1 hx
   have := h x this.2
   omega)
  by_cases c : n ∈ l
  · rw [List.length_erase_of_mem c] at h1; omega
  · rw [List.erase_of_not_mem c] at h1; omega
theorem walk_len {S : TS} (h : WF S) {i : Nat} (hi : i < S.length) : (walk S i).length ≤ S.length := once_len _ _ (walk_once h hi) fun x hx => ((mem_walk h hi).1 hx).1
theorem flatMap_same {α β : Type} {f g : α → List β} : ∀ {l : List α}, (∀ x ∈ l, f x = g x) → l.flatMap f = l.flatMap g
 | [], _ => rfl
 | a :: l, h => by rw [List.flatMap_cons, List.flatMap_cons, h a (by simp), flatMap_same fun x hx => h x (by simp [hx])]
def row (n : Nat) : TS := (List.range n).map fun i : Nat => ((i : Int) - 1, decide (0 < i))
theorem rising_eq : ∀ (l m : List Nat), l.Pairwise (· < ·) → m.Pairwise (· < ·) → (∀ x, x ∈ l ↔ x ∈ m) → l = m
 | [], [], _, _, _ => rfl
 | [], b :: m, _, _, h => absurd ((h b).2 (by simp)) (by simp)
 | a :: l, [], _, _, h => absurd ((h a).1 (by simp)) (by simp)
 | a :: l, b :: m, hl, hm, h => by
  rw [List.pairwise_cons] at hl hm
  have e : a = b := by
   rcases List.mem_cons.1 ((h a).1 (by simp)) with e | e
   · exact e
   · rcases List.mem_cons.1 ((h b).2 (by simp)) with e2 | e2
     · exact e2.symm
     · have := hl.1 b e2; have := hm.1 a e; omega
  subst e
  rw [rising_eq l m hl.2 hm.2 fun x => ⟨fun hx => by
   rcases List.mem_cons.1 ((h x).1 (by simp [hx])) with e | e
   · have := hl.1 x hx; omega
   · exact e, fun hx => by
   rcases List.mem_cons.1 ((h x).2 (by simp [hx])) with e | e
   · have := hm.1 x hx; omega
   · exact e⟩]
end Go.Proofs.YtdpapnfjpefhkaaGreat.Tr
namespace Go.Proofs.YtdpapnfjpefhkaaGreat
/- one that stands there: its number, its time, its turn -/
structure It where
 id : Int
 w : Int
 s : Int
deriving DecidableEq
def It.lt (a b : It) : Prop := a.w < b.w ∨ a.w = b.w ∧ a.s < b.s
def It.le (a b : It) : Prop := a.w < b.w ∨ a.w = b.w ∧ a.s ≤ b.s
theorem It.le_refl (a : It) : a.le a := by unfold It.le; omega
theorem It.le_trans {a b c : It} (h : a.le b) (k : b.le c) : a.le c := by unfold It.le at *; omega
theorem It.le_of_lt {a b : It} (h : a.lt b) : a.le b := by unfold It.le It.lt at *; omega
theorem It.le_of_not {a b : It} (h : ¬ a.lt b) : b.le a := by unfold It.le It.lt at *; omega
theorem It.not_lt {a b : It} (h : b.le a) : ¬ a.lt b := by unfold It.le It.lt at *; omega
theorem It.lt_irrefl (a : It) : ¬ a.lt a := by unfold It.lt; omega
theorem It.lt_trans {a b c : It} (h : a.lt b) (k : b.lt c) : a.lt c := by unfold It.lt at *; omega
/- the edge above place j: who stands above is not behind -/
def Edge (l : List It) (j : Nat) : Prop := ∀ x y, l[(j - 1) / 4]? = some x → l[j]? = some y → x.le y
/- a heap -/
def Hp (l : List It) : Prop := ∀ j, 0 < j → j < l.length → Edge l j
/- all edges but those at place i; and what stands below i is not ahead of what stands above i -/
structure HpAt (l : List It) (i : Nat) : Prop where
 far : ∀ j, 0 < j → j < l.length → j ≠ i → (j - 1) / 4 ≠ i → Edge l j
 leap : 0 < i → ∀ j, 0 < j → j < l.length → (j - 1) / 4 = i → ∀ x y, l[(i - 1) / 4]? = some x → l[j]? = some y → x.le y
/- what stands below i is not ahead of what stands there -/
def Below4 (l : List It) (i : Nat) : Prop := ∀ j, 0 < j → j < l.length → (j - 1) / 4 = i → Edge l j
/- the edge above i may be wrong; those below are right -/
def HpUp (l : List It) (i : Nat) : Prop := HpAt l i ∧ Below4 l i
/- those below i may be wrong; the edge above is right -/
def HpDn (l : List It) (i : Nat) : Prop := HpAt l i ∧ (0 < i → Edge l i)
/- two change places -/
def sw (l : List It) (i j : Nat) (x y : It) : List It := (l.set i y).set j x
theorem sw_len (l : List It) (i j : Nat) (x y : It) : (sw l i j x y).length = l.length := by simp [sw]
theorem sw_at {l : List It} {i j : Nat} {x y : It} (hi : i < l.length) (hj : j < l.length) (k : Nat) :
  (sw l i j x y)[k]? = if k = j then some x else if k = i then some y else l[k]? := by
 unfold sw
 by_cases h : k = j
 · subst h; simp [hj]
 · by_cases h' : k = i
   · subst h'; rw [List.getElem?_set_ne (Ne.symm h)]; simp [hi, h]
   · rw [List.getElem?_set_ne (Ne.symm h), List.getElem?_set_ne (Ne.symm h')]; simp [h, h']
theorem sw_perm {l : List It} {i j : Nat} {x y : It} (hx : l[i]? = some x) (hy : l[j]? = some y) : (sw l i j x y).Perm l := by
 obtain ⟨hi, ex⟩ := List.getElem?_eq_some_iff.1 hx
 obtain ⟨hj, ey⟩ := List.getElem?_eq_some_iff.1 hy
 subst ex; subst ey
 exact List.set_set_perm hi hj
theorem hp_of_up {l : List It} {i : Nat} (h : HpUp l i) (e : 0 < i → Edge l i) : Hp l := by
 intro j hj hl
 by_cases a : j = i
 · subst a; exact e hj
 · by_cases b : (j - 1) / 4 = i
   · exact h.2 j hj hl b
   · exact h.1.far j hj hl a b
theorem hp_of_dn {l : List It} {i : Nat} (h : HpDn l i) (e : Below4 l i) : Hp l := by
 intro j hj hl
 by_cases a : j = i
 · subst a; exact h.2 hj
 · by_cases b : (j - 1) / 4 = i
   · exact e j hj hl b
   · exact h.1.far j hj hl a b
theorem at_of_hp {l : List It} (h : Hp l) (i : Nat) (hi : i < l.length) : HpAt l i := by
 refine ⟨fun j hj hl _ _ => h j hj hl, fun h0 j hj hl e x y hx hy => ?_⟩
 obtain ⟨z, hz⟩ : ∃ z, l[i]? = some z := ⟨l[i], by simp [hi]⟩
 exact It.le_trans (h i h0 hi x z hx hz) (h j hj hl z y (by rw [e]; exact hz) hy)
theorem at_set {l : List It} {i : Nat} (h : HpAt l i) (x : It) : HpAt (l.set i x) i := by
 refine ⟨fun j hj hl a b u v hu hv => ?_, fun h0 j hj hl e u v hu hv => ?_⟩
 · rw [List.getElem?_set_ne (Ne.symm b)] at hu; rw [List.getElem?_set_ne (Ne.symm a)] at hv
   exact h.far j hj (by simpa using hl) a b u v hu hv
 · have e1 : i ≠ (i - 1) / 4 := by omega
   have e2 : i ≠ j := by omega
   rw [List.getElem?_set_ne e1] at hu; rw [List.getElem?_set_ne e2] at hv
   exact h.leap h0 j hj (by simpa using hl) e u v hu hv
/- ahead of what stands above: then those below are right -/
theorem up_of_at {l : List It} {i : Nat} {x y : It} (h : HpAt l i) (h0 : 0 < i) (hx : l[i]? = some x) (hy : l[(i - 1) / 4]? = some y) (k : x.lt y) : HpUp l i := by
 refine ⟨h, fun j hj hl e u v hu hv => ?_⟩
 rw [e] at hu; obtain rfl := Option.some.inj (hx.symm.trans hu)
 exact It.le_trans (It.le_of_lt k) (h.leap h0 j hj hl e y v hy hv)
theorem edge_of {l : List It} {i : Nat} {x y : It} (hx : l[i]? = some x) (hy : l[(i - 1) / 4]? = some y) (k : ¬ x.lt y) : Edge l i := by
 intro u v hu hv
 obtain rfl := Option.some.inj (hy.symm.trans hu)
 obtain rfl := Option.some.inj (hx.symm.trans hv)
 exact It.le_of_not k
theorem dn_of_at {l : List It} {i : Nat} {x y : It} (h : HpAt l i) (hx : l[i]? = some x) (hy : l[(i - 1) / 4]? = some y) (k : ¬ x.lt y) : HpDn l i :=
 ⟨h, fun _ => edge_of hx hy k⟩
theorem dn_first {l : List It} (h : HpAt l 0) : HpDn l 0 := ⟨h, fun h => absurd h (by omega)⟩
theorem up_step {l : List It} {i : Nat} {x y : It} (h : HpUp l i) (h0 : 0 < i) (hx : l[i]? = some x) (hy : l[(i - 1) / 4]? = some y) (k : x.lt y) :
  HpUp (sw l i ((i - 1) / 4) x y) ((i - 1) / 4) := by
 have hi : i < l.length := (List.getElem?_eq_some_iff.1 hx).1
 have hp : (i - 1) / 4 < l.length := (List.getElem?_eq_some_iff.1 hy).1
 generalize ep : (i - 1) / 4 = p at *
 have hpi : p < i := by omega
 have kx := It.le_of_lt k
 refine ⟨⟨fun j hj hl a b u v hu hv => ?_, fun hp0 j hj hl e u v hu hv => ?_⟩, fun j hj hl e u v hu hv => ?_⟩
 · rw [sw_at hi hp] at hu hv; rw [sw_len] at hl
   simp only [b, a, ↓reduceIte] at hu hv
   have ji : j ≠ i := by rintro rfl; exact b ep
   simp only [ji, ↓reduceIte] at hv
   by_cases c : (j - 1) / 4 = i
   · simp only [c, ↓reduceIte, Option.some.injEq] at hu; subst hu
     exact h.1.leap h0 j hj hl c y v (by rw [ep]; exact hy) hv
   · simp only [c, ↓reduceIte] at hu
     exact h.1.far j hj hl ji c u v hu hv
 · rw [sw_at hi hp] at hu hv; rw [sw_len] at hl
   have e1 : (p - 1) / 4 ≠ p := by omega
   have e2 : (p - 1) / 4 ≠ i := by omega
   have e3 : j ≠ p := by omega
   simp only [e1, e2, e3, ↓reduceIte] at hu hv
   have up : u.le y := h.1.far p hp0 hp (by omega) e2 u y hu hy
   by_cases c : j = i
   · simp only [c, ↓reduceIte, Option.some.injEq] at hv; subst hv; exact up
   · simp only [c, ↓reduceIte] at hv
     exact It.le_trans up (h.1.far j hj hl c (by omega) y v (by rw [e]; exact hy) hv)
 · rw [sw_at hi hp] at hu hv; rw [sw_len] at hl
   have e3 : j ≠ p := by omega
   simp only [e, e3, ↓reduceIte, Option.some.injEq] at hu hv; subst hu
   by_cases c : j = i
   · simp only [c, ↓reduceIte, Option.some.injEq] at hv; subst hv; exact kx
   · simp only [c, ↓reduceIte] at hv
     exact It.le_trans kx (h.1.far j hj hl c (by omega) y v (by rw [e]; exact hy) hv)
theorem dn_step {l : List It} {i j : Nat} {x y : It} (h : HpDn l i) (hj : 0 < j) (e : (j - 1) / 4 = i) (hx : l[i]? = some x) (hy : l[j]? = some y) (kx : y.le x)
  (m : ∀ c, 0 < c → c < l.length → (c - 1) / 4 = i → ∀ v, l[c]? = some v → y.le v) :
  HpDn (sw l i j x y) j := by
 have hi : i < l.length := (List.getElem?_eq_some_iff.1 hx).1
 have hjl : j < l.length := (List.getElem?_eq_some_iff.1 hy).1
 have hij : i < j := by omega
 refine ⟨⟨fun c hc hl a b u v hu hv => ?_, fun _ c hc hl ec u v hu hv => ?_⟩, fun _ u v hu hv => ?_⟩
 · rw [sw_at hi hjl] at hu hv; rw [sw_len] at hl
   simp only [b, a, ↓reduceIte] at hu hv
   by_cases ci : c = i
   · subst ci
     have e1 : (c - 1) / 4 ≠ c := by omega
     simp only [e1, ↓reduceIte, Option.some.injEq] at hu hv; subst hv
     exact h.1.leap hc j hj hjl e u y hu hy
   · simp only [ci, ↓reduceIte] at hv
     by_cases pi : (c - 1) / 4 = i
     · simp only [pi, ↓reduceIte, Option.some.injEq] at hu; subst hu; exact m c hc hl pi v hv
     · simp only [pi, ↓reduceIte] at hu; exact h.1.far c hc hl ci pi u v hu hv
 · rw [sw_at hi hjl] at hu hv; rw [sw_len] at hl
   have e1 : c ≠ j := by omega
   have e2 : c ≠ i := by omega
   have e3 : i ≠ j := by omega
   rw [e] at hu
   simp only [e1, e2, e3, ↓reduceIte, Option.some.injEq] at hu hv; subst hu
   exact h.1.far c hc hl e2 (by omega) y v (by rw [ec]; exact hy) hv
 · rw [sw_at hi hjl] at hu hv
   have e3 : i ≠ j := by omega
   rw [e] at hu
   simp only [e3, ↓reduceIte, Option.some.injEq] at hu hv; subst hu; subst hv; exact kx
/- none of those below is ahead: it is right -/
theorem below_of {l : List It} {i : Nat} {x : It} (hx : l[i]? = some x) (m : ∀ c, 0 < c → c < l.length → (c - 1) / 4 = i → ∀ v, l[c]? = some v → x.le v) : Below4 l i := by
 intro j hj hl e u v hu hv
 rw [e] at hu; obtain rfl := Option.some.inj (hx.symm.trans hu)
 exact m j hj hl e v hv
theorem hp_nil : Hp [] := fun j _ h => absurd h (by simp)
theorem hp_take {l : List It} (h : Hp l) (n : Nat) : Hp (l.take n) := by
 intro j hj hl u v hu hv
 simp only [List.length_take] at hl
 have a : (j - 1) / 4 < n := by omega
 have b : j < n := by omega
 rw [List.getElem?_take_of_lt a] at hu; rw [List.getElem?_take_of_lt b] at hv
 exact h j hj (by omega) u v hu hv
theorem up_add {l : List It} (h : Hp l) (x : It) : HpUp (l ++ [x]) l.length := by
 refine ⟨⟨fun j hj hl a b u v hu hv => ?_, fun h0 j hj hl e => ?_⟩, fun j hj hl e => ?_⟩
 · simp only [List.length_append, List.length_singleton] at hl
   rw [List.getElem?_append_left (by omega)] at hu hv
   exact h j hj (by omega) u v hu hv
 · simp only [List.length_append, List.length_singleton] at hl; omega
 · simp only [List.length_append, List.length_singleton] at hl; omega
/- the first one is the least -/
theorem hp_first {l : List It} (h : Hp l) {x : It} (hx : l[0]? = some x) : ∀ (n j : Nat) (y : It), j ≤ n → l[j]? = some y → x.le y
 | 0, j, y, hj, hy => by
  obtain rfl : j = 0 := by omega
  obtain rfl := Option.some.inj (hx.symm.trans hy); exact x.le_refl
 | n + 1, j, y, hj, hy => by
  by_cases c : j = 0
  · subst c; obtain rfl := Option.some.inj (hx.symm.trans hy); exact x.le_refl
  · have hl : j < l.length := (List.getElem?_eq_some_iff.1 hy).1
    obtain ⟨z, hz⟩ : ∃ z, l[(j - 1) / 4]? = some z := ⟨l[(j - 1) / 4]'(by omega), by simp⟩
    exact It.le_trans (hp_first h hx n ((j - 1) / 4) z (by omega) hz) (h j (by omega) hl z y hz hy)
theorem hp_least {l : List It} (h : Hp l) {x : It} (hx : l[0]? = some x) {y : It} (hy : y ∈ l) : x.le y := by
 obtain ⟨j, hj⟩ := List.mem_iff_getElem?.1 hy
 exact hp_first h hx j j y (Nat.le_refl _) hj
/- the last one takes the place of the one that goes -/
theorem set_perm {l : List It} {i : Nat} (z : It) (hi : i < l.length) : (l.set i z).Perm ((l ++ [z]).eraseIdx i) := by
 rw [List.eraseIdx_append_of_lt_length hi, List.set_eq_take_append_cons_drop, if_pos hi, List.eraseIdx_eq_take_drop_succ]
 refine List.Perm.trans ?_ (List.perm_append_comm)
 simp
/- what rises strictly is told by what is in it -/
def Srt (l : List It) : Prop := l.Pairwise It.lt
theorem srt_head {S : List It} {x : It} (hs : Srt (x :: S)) {l : List It} (hp : Hp l) (h : l.Perm (x :: S)) : l[0]? = some x := by
 cases l with
 | nil => exact absurd h.length_eq (by simp)
 | cons y t =>
  have hy : y.le x := hp_least hp (x := y) (by simp) (h.mem_iff.2 (by simp))
  have hm : y ∈ x :: S := h.mem_iff.1 (by simp)
  rcases List.mem_cons.1 hm with e | e
  · simp [e]
  · exact absurd (List.rel_of_pairwise_cons hs e) (It.not_lt hy)
/- one comes into a row that rises, behind all that are not behind it -/
def ins (x : It) : List It → List It
 | [] => [x]
 | y :: t => if x.w < y.w then x :: y :: t else y :: ins x t
theorem ins_perm (x : It) : ∀ l : List It, (ins x l).Perm (x :: l)
 | [] => List.Perm.refl _
 | y :: t => by
  unfold ins; split
  · exact List.Perm.refl _
  · exact ((ins_perm x t).cons y).trans (List.Perm.swap x y t)
theorem ins_srt {x : It} : ∀ {l : List It}, Srt l → (∀ y ∈ l, y.s < x.s) → Srt (ins x l)
 | [], _, _ => List.pairwise_singleton _ _
 | y :: t, h, k => by
  have hy := k y (by simp)
  have ht := List.pairwise_cons.1 h
  unfold ins; split
  · rename_i c
    refine List.pairwise_cons.2 ⟨fun z hz => ?_, h⟩
    have hxy : x.lt y := Or.inl c
    rcases List.mem_cons.1 hz with rfl | e
    · exact hxy
    · exact It.lt_trans hxy (ht.1 z e)
  · rename_i c
    refine List.pairwise_cons.2 ⟨fun z hz => ?_, ins_srt ht.2 fun z hz => k z (by simp [hz])⟩
    rcases List.mem_cons.1 ((ins_perm x t).mem_iff.1 hz) with rfl | e
    · unfold It.lt; omega
    · exact ht.1 z e
/- as the reference does it: from the end -/
theorem ins_cut {x : It} : ∀ {l : List It} (k : Nat), k ≤ l.length → (∀ (j : Nat) (y : It), k ≤ j → l[j]? = some y → x.w < y.w) → (∀ (j : Nat) (y : It), j < k → l[j]? = some y → ¬ x.w < y.w) →
  ins x l = l.take k ++ [x] ++ l.drop k
 | [], k, hk, _, _ => by simp [ins]
 | y :: t, 0, hk, h, _ => by
  have := h 0 y (by omega) (by simp)
  simp [ins, this]
 | y :: t, k + 1, hk, h, g => by
  have := g 0 y (by omega) (by simp)
  simp only [ins, this, ↓reduceIte, List.take_succ_cons, List.cons_append, List.drop_succ_cons, List.cons.injEq, true_and]
  simpa using ins_cut (l := t) k (by simpa using hk) (fun j z hj hz => h (j + 1) z (by omega) (by simpa using hz)) (fun j z hj hz => g (j + 1) z (by omega) (by simpa using hz))
def ids (l : List It) : List Int := l.map It.id
theorem ids_len (l : List It) : (ids l).length = l.length := by simp [ids]
theorem ids_at {l : List It} {p : Nat} {x : It} (h : l[p]? = some x) : (ids l)[p]? = some x.id := by simp [ids, h]
theorem ids_perm {a b : List It} (h : a.Perm b) : (ids a).Perm (ids b) := h.map _
theorem at_lt {α : Type} {l : List α} {p : Nat} {x : α} (h : l[p]? = some x) : p < l.length := (List.getElem?_eq_some_iff.1 h).1
theorem at_mem {α : Type} {l : List α} {p : Nat} {x : α} (h : l[p]? = some x) : x ∈ l := List.mem_of_getElem? h
theorem mem_at {α : Type} {l : List α} {x : α} (h : x ∈ l) : ∃ p, l[p]? = some x ∧ p < l.length := by
 obtain ⟨p, hp⟩ := List.mem_iff_getElem?.1 h
 exact ⟨p, hp, at_lt hp⟩
theorem ex_at {α : Type} {l : List α} {p : Nat} (h : p < l.length) : ∃ x, l[p]? = some x := ⟨l[p], by simp [h]⟩
theorem ids_inj {l : List It} (hn : (ids l).Nodup) {i j : Nat} {x y : It} (hi : l[i]? = some x) (hj : l[j]? = some y) (e : x.id = y.id) : i = j :=
 (List.getElem?_inj (by rw [ids_len]; exact at_lt hi) hn).1 ((ids_at hi).trans ((congrArg some e).trans (ids_at hj).symm))
theorem ids_mem {l : List It} {k : Int} (h : k ∈ ids l) : ∃ (p : Nat) (x : It), l[p]? = some x ∧ x.id = k := by
 obtain ⟨x, hx, e⟩ := List.mem_map.1 h
 obtain ⟨p, hp, _⟩ := mem_at hx
 exact ⟨p, x, hp, e⟩
theorem mem_ids {l : List It} {x : It} (h : x ∈ l) : x.id ∈ ids l := List.mem_map.2 ⟨x, h, rfl⟩
def Pl (l : List It) (f : Int → Int) : Prop := ∀ (p : Nat) (x : It), l[p]? = some x → f x.id = (p : Int)
/- one more is told -/
def fput (f : Int → Int) (k v : Int) : Int → Int := fun y => if y = k then v else f y
theorem fput_at (f : Int → Int) (k v : Int) : fput f k v k = v := if_pos rfl
theorem fput_ne {f : Int → Int} {k v y : Int} (h : y ≠ k) : fput f k v y = f y := if_neg h
/- in m one is to be put at place i, which is free: where the others stand the map tells -/
structure Mid (I : List Int) (m : List It) (i : Nat) (x : It) (K : List Int) (f : Int → Int) : Prop where
 hi : i < m.length
 ids : (ids (m.set i x)).Perm I
 nd : I.Nodup
 ks : K.Perm I ∨ (K ++ [x.id]).Perm I
 pl : ∀ (p : Nat) (y : It), p ≠ i → m[p]? = some y → f y.id = (p : Int)
theorem Mid.len {I : List Int} {m : List It} {i : Nat} {x : It} {K : List Int} {f : Int → Int} (h : Mid I m i x K f) : K.length ≤ m.length := by
 have h1 := h.ids.length_eq
 rw [ids_len, List.length_set] at h1
 rcases h.ks with k | k
 · have := k.length_eq; omega
 · have := k.length_eq; simp at this; omega
theorem Mid.step {I : List Int} {m : List It} {i j : Nat} {x y : It} {K : List Int} {f : Int → Int} (h : Mid I m i x K f) (hj : j ≠ i) (hy : m[j]? = some y) :
  y.id ∈ K ∧ Mid I (m.set i y) j x K (fput f y.id (i : Int)) := by
 have hn : (YtdpapnfjpefhkaaGreat.ids (m.set i x)).Nodup := h.ids.nodup_iff.2 h.nd
 have hjl := at_lt hy
 have hx1 : (m.set i x)[i]? = some x := by simp [h.hi]
 have hy1 : (m.set i x)[j]? = some y := by rw [List.getElem?_set_ne (Ne.symm hj)]; exact hy
 have hne : y.id ≠ x.id := fun e => hj (ids_inj hn hy1 hx1 e)
 have hmem : y.id ∈ I := h.ids.mem_iff.1 (mem_ids (at_mem hy1))
 have e1 : (m.set i y).set j x = sw (m.set i x) i j x y := by simp [sw]
 refine ⟨?_, by simpa using hjl, ?_, h.nd, h.ks, fun p z hp hz => ?_⟩
 · rcases h.ks with k | k
   · exact k.mem_iff.2 hmem
   · have := k.mem_iff.2 hmem
     simp at this
     rcases this with a | a
     · exact a
     · exact absurd a hne
 · rw [e1]
   exact (ids_perm (sw_perm hx1 hy1)).trans h.ids
 · by_cases e : p = i
   · subst e
     simp [h.hi] at hz; subst hz
     exact fput_at _ _ _
   · rw [List.getElem?_set_ne (Ne.symm e)] at hz
     have hz1 : (m.set i x)[p]? = some z := by rw [List.getElem?_set_ne (Ne.symm e)]; exact hz
     rw [fput_ne (fun e2 => hp (ids_inj hn hz1 hy1 e2))]
     exact h.pl p z e hz
theorem Mid.last {I : List Int} {m : List It} {i : Nat} {x : It} {K : List Int} {f : Int → Int} (h : Mid I m i x K f) :
  (if x.id ∈ K then K else K ++ [x.id]).Perm (YtdpapnfjpefhkaaGreat.ids (m.set i x)) ∧ Pl (m.set i x) (fput f x.id (i : Int)) := by
 have hn : (YtdpapnfjpefhkaaGreat.ids (m.set i x)).Nodup := h.ids.nodup_iff.2 h.nd
 have hx1 : (m.set i x)[i]? = some x := by simp [h.hi]
 have hmem : x.id ∈ I := h.ids.mem_iff.1 (mem_ids (at_mem hx1))
 constructor
 · rcases h.ks with k | k
   · rw [if_pos (k.mem_iff.2 hmem)]; exact k.trans h.ids.symm
   · have : x.id ∉ K := by
      have h2 := k.nodup_iff.2 h.nd
      rw [List.nodup_append] at h2
      intro e; exact h2.2.2 _ e x.id (by simp) rfl
     rw [if_neg this]; exact k.trans h.ids.symm
 · intro p y hp
   by_cases e : p = i
   · subst e
     rw [hx1] at hp; injection hp with hp; subst hp
     exact fput_at _ _ _
   · have hp1 := hp
     rw [List.getElem?_set_ne (Ne.symm e)] at hp1
     rw [fput_ne (fun e2 => e (ids_inj hn hp hx1 e2))]
     exact h.pl p y e hp1
def del (k : Int) (l : List It) : List It := l.filter fun x : It => x.id ≠ k
theorem del_mem {k : Int} {l : List It} {x : It} : x ∈ del k l ↔ x ∈ l ∧ x.id ≠ k := by simp [del]
theorem del_perm {k : Int} {a b : List It} (h : a.Perm b) : (del k a).Perm (del k b) := h.filter _
theorem del_srt {k : Int} {l : List It} (h : Srt l) : Srt (del k l) := h.sublist List.filter_sublist
theorem del_none {k : Int} {l : List It} (h : k ∉ ids l) : del k l = l := by
 unfold del; rw [List.filter_eq_self]; intro x hx
 simp; exact fun e => h (e ▸ mem_ids hx)
theorem del_at {k : Int} : ∀ {l : List It} {p : Nat} {x : It}, (ids l).Nodup → l[p]? = some x → x.id = k → del k l = l.eraseIdx p
 | [], p, x, _, h, _ => by simp at h
 | y :: t, 0, x, hn, h, e => by
  simp at h; subst h
  have hn' : y.id ∉ ids t ∧ (ids t).Nodup := by simpa [ids] using hn
  have : del k (y :: t) = del k t := by unfold del; rw [List.filter_cons]; simp [e]
  rw [this, del_none (by rw [← e]; exact hn'.1)]; rfl
 | y :: t, p + 1, x, hn, h, e => by
  have hn' : y.id ∉ ids t ∧ (ids t).Nodup := by simpa [ids] using hn
  simp at h
  have hne : y.id ≠ k := fun e2 => hn'.1 (by rw [e2, ← e]; exact mem_ids (at_mem h))
  have : del k (y :: t) = y :: del k t := by unfold del; rw [List.filter_cons]; simp [hne]
  rw [this, del_at hn'.2 h e]; rfl
theorem del_ids {k : Int} {l : List It} : k ∉ ids (del k l) := by
 intro h
 obtain ⟨x, hx, e⟩ := List.mem_map.1 h
 exact (del_mem.1 hx).2 e
theorem ids_del {k : Int} {l : List It} : ids (del k l) = (ids l).filter (fun x => x ≠ k) := by
 unfold ids del; rw [List.filter_map]; rfl
theorem nd_del {k : Int} {l : List It} (h : (ids l).Nodup) : (ids (del k l)).Nodup := by rw [ids_del]; exact h.filter _
structure Ok (n : Nat) (S : List It) : Prop where
 srt : Srt S
 ids : (ids S).Nodup
 seq : ∀ x ∈ S, 1 ≤ x.s ∧ x.s ≤ (n : Int)
 one : (S.map It.s).Nodup
theorem Ok.nil (n : Nat) : Ok n [] := ⟨List.Pairwise.nil, List.nodup_nil, fun x h => (by cases h), List.nodup_nil⟩
theorem ids_ins {x : It} {S : List It} : (YtdpapnfjpefhkaaGreat.ids (ins x S)).Perm (x.id :: YtdpapnfjpefhkaaGreat.ids S) := (ins_perm x S).map It.id
theorem ins_len (x : It) (S : List It) : (ins x S).length = S.length + 1 := by rw [(ins_perm x S).length_eq]; rfl
theorem ins_mem {x y : It} {S : List It} : y ∈ ins x S ↔ y = x ∨ y ∈ S := by rw [(ins_perm x S).mem_iff]; simp
theorem Ok.ins {n : Nat} {S : List It} (h : Ok n S) (k w : Int) (hk : k ∉ YtdpapnfjpefhkaaGreat.ids S) : Ok (n + 1) (YtdpapnfjpefhkaaGreat.ins ⟨k, w, (n : Int) + 1⟩ S) := by
 refine ⟨ins_srt h.srt fun y hy => ?_, ids_ins.nodup_iff.2 (List.nodup_cons.2 ⟨hk, h.ids⟩), fun y hy => ?_, ((ins_perm _ S).map It.s).nodup_iff.2 (List.nodup_cons.2 ⟨fun e => ?_, h.one⟩)⟩
 · have := (h.seq y hy).2; show y.s < (n : Int) + 1; omega
 · rcases ins_mem.1 hy with rfl | e
   · show 1 ≤ (n : Int) + 1 ∧ (n : Int) + 1 ≤ ((n + 1 : Nat) : Int); omega
   · have := h.seq y e; omega
 · obtain ⟨y, hy, e⟩ := List.mem_map.1 e
   have := (h.seq y hy).2
   have e' : y.s = (n : Int) + 1 := e
   omega
theorem Ok.del {n : Nat} {S : List It} (h : Ok n S) (k : Int) : Ok n (YtdpapnfjpefhkaaGreat.del k S) :=
 ⟨del_srt h.srt, nd_del h.ids, fun x hx => h.seq x (del_mem.1 hx).1, h.one.sublist (List.filter_sublist.map _)⟩
theorem Ok.tail {n : Nat} {x : It} {S : List It} (h : Ok n (x :: S)) : YtdpapnfjpefhkaaGreat.del x.id (x :: S) = S ∧ Ok n S := by
 have e : YtdpapnfjpefhkaaGreat.del x.id (x :: S) = S := by
  rw [del_at (p := 0) (x := x) h.ids rfl rfl]; rfl
 exact ⟨e, e ▸ h.del x.id⟩
/- what stands above is strictly ahead: no two have one turn -/
end Go.Proofs.YtdpapnfjpefhkaaGreat
