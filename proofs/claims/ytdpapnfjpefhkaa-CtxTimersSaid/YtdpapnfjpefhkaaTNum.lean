/- A tree as a list: who was named, and whether one hangs there; who hangs on whom, walks, ways up: plain mathematics. No condition but those that each names. -/
namespace Go.Proofs.Ytdpapnfjpefhkaa.Tr
set_option linter.unusedVariables false

/-- Each one: who was named, does it hang there. -/
abbrev TS := List (Int × Bool)
/-- j hangs on i. -/
def kidOf (S : TS) (i j : Nat) : Bool := match S[j]? with
  | some (p, l) => l && p == (i : Int) && decide (i < j)
  | none => false
def kids (S : TS) (i : Nat) : List Nat := (List.range S.length).filter (kidOf S i)
theorem kidOf_iff {S : TS} {i j : Nat} : kidOf S i j = true ↔ S[j]? = some ((i : Int), true) ∧ i < j := by
  unfold kidOf
  split
  · rename_i p l h
    rw [h]
    simp only [Bool.and_eq_true, beq_iff_eq, decide_eq_true_eq, Option.some.injEq, Prod.mk.injEq]
    constructor
    · rintro ⟨⟨h1, h2⟩, h3⟩; exact ⟨⟨h2, h1⟩, h3⟩
    · rintro ⟨⟨h2, h1⟩, h3⟩; exact ⟨⟨h1, h2⟩, h3⟩
  · rename_i h
    rw [h]; simp
theorem mem_kids {S : TS} {i j : Nat} : j ∈ kids S i ↔ S[j]? = some ((i : Int), true) ∧ i < j := by
  unfold kids
  rw [List.mem_filter, kidOf_iff, List.mem_range]
  constructor
  · exact fun h => h.2
  · exact fun h => ⟨(List.getElem?_eq_some_iff.1 h.1).1, h⟩
theorem kids_lt {S : TS} {i j : Nat} (h : j ∈ kids S i) : i < j ∧ j < S.length := ⟨(mem_kids.1 h).2, (List.getElem?_eq_some_iff.1 (mem_kids.1 h).1).1⟩
theorem kids_rise (S : TS) (i : Nat) : (kids S i).Pairwise (· < ·) := List.Pairwise.filter _ List.pairwise_lt_range
/-- One, and kid by kid, all walks of these. -/
def walk (S : TS) (i : Nat) : List Nat := i :: (kids S i).attach.flatMap fun j => walk S j.1
termination_by S.length - i
decreasing_by
  have := kids_lt j.2
  omega
theorem walk_eq (S : TS) (i : Nat) : walk S i = i :: (kids S i).flatMap (walk S) := by
  rw [walk]
  congr 1
  rw [← List.flatMap_map (f := Subtype.val) (g := walk S), List.attach_map_subtype_val]

/-- A tree may be so. -/
def WF (S : TS) : Prop := ∀ (i : Nat) (p : Int) (l : Bool), S[i]? = some (p, l) → -1 ≤ p ∧ p < (i : Int) ∧ (l = true → 0 ≤ p)
theorem WF.nil : WF [] := fun i p l h => by simp at h
theorem WF.push {S : TS} (h : WF S) {p : Int} {l : Bool} (h1 : -1 ≤ p) (h2 : p < (S.length : Int)) (h3 : l = true → 0 ≤ p) : WF (S ++ [(p, l)]) := by
  intro i q m hi
  rcases Nat.lt_or_ge i S.length with hl | hl
  · rw [List.getElem?_append_left hl] at hi; exact h i q m hi
  · rw [List.getElem?_append_right hl] at hi
    rcases Nat.eq_zero_or_pos (i - S.length) with h0 | h0
    · rw [h0] at hi; simp at hi; obtain ⟨rfl, rfl⟩ := hi
      exact ⟨h1, by omega, h3⟩
    · have : ¬ i - S.length < 1 := by omega
      rw [List.getElem?_eq_none (by simp; omega)] at hi; cases hi
/-- One taken off. -/
def cut (S : TS) (k : Nat) : TS := match S[k]? with
  | some (p, _) => S.set k (p, false)
  | none => S
theorem cut_len (S : TS) (k : Nat) : (cut S k).length = S.length := by
  unfold cut; split <;> simp
theorem cut_at (S : TS) (k i : Nat) : (cut S k)[i]? = if i = k then S[i]?.map fun x => (x.1, false) else S[i]? := by
  unfold cut
  split
  · rename_i p l h
    rw [List.getElem?_set]
    by_cases e : k = i
    · subst e
      rw [if_pos rfl, if_pos rfl, h, if_pos (List.getElem?_eq_some_iff.1 h).1]; rfl
    · rw [if_neg e, if_neg (fun x => e x.symm)]
  · rename_i h
    by_cases e : i = k
    · subst e; rw [if_pos rfl, h]; rfl
    · rw [if_neg e]
theorem cut_some {S : TS} {k : Nat} {p : Int} {l : Bool} (h : S[k]? = some (p, l)) : cut S k = S.set k (p, false) := by unfold cut; rw [h]
theorem WF.cut {S : TS} (h : WF S) (k : Nat) : WF (cut S k) := by
  intro i p l hi
  rw [cut_at] at hi
  by_cases e : i = k
  · rw [if_pos e] at hi
    cases hs : S[i]? with
    | none => rw [hs] at hi; cases hi
    | some x =>
      rw [hs] at hi; simp at hi
      obtain ⟨rfl, rfl⟩ := hi
      have := h i x.1 x.2 hs
      exact ⟨this.1, this.2.1, by simp⟩
  · rw [if_neg e] at hi; exact h i p l hi

theorem filter_same {α : Type} {p q : α → Bool} : ∀ {l : List α}, (∀ x ∈ l, p x = q x) → l.filter p = l.filter q
  | [], _ => rfl
  | a :: l, h => by
    rw [List.filter_cons, List.filter_cons, h a (by simp), filter_same fun x hx => h x (by simp [hx])]
theorem kids_push {S : TS} (h : WF S) (p : Int) (l : Bool) (i : Nat) (hi : i < S.length) : kids (S ++ [(p, l)]) i = if l = true ∧ p = (i : Int) then kids S i ++ [S.length] else kids S i := by
  have e1 : (List.range S.length).filter (kidOf (S ++ [(p, l)]) i) = kids S i := by
    unfold kids
    apply filter_same
    intro x hx
    have hx := List.mem_range.1 hx
    unfold kidOf
    rw [List.getElem?_append_left hx]
  have e2 : kidOf (S ++ [(p, l)]) i S.length = (l && p == (i : Int)) := by
    unfold kidOf
    rw [List.getElem?_append_right (Nat.le_refl _), Nat.sub_self]
    simp [hi]
  unfold kids
  rw [List.length_append, show S.length + [(p, l)].length = S.length + 1 from rfl, List.range_succ, List.filter_append, e1]
  rw [List.filter_cons, e2, List.filter_nil]
  by_cases c : l = true ∧ p = (i : Int)
  · rw [if_pos c, if_pos (by simp [c.1, c.2])]; rfl
  · rw [if_neg c, if_neg (by simpa using c)]; simp [kids]
theorem kids_new {S : TS} (i : Nat) (hi : S.length ≤ i + 1) : kids S i = [] := by
  rw [List.eq_nil_iff_forall_not_mem]
  intro j hj
  have := kids_lt hj
  omega
theorem kids_cut (S : TS) (k i : Nat) : kids (cut S k) i = (kids S i).filter fun x => !(x == k) := by
  unfold kids
  rw [cut_len, List.filter_filter]
  apply filter_same
  intro x hx
  unfold kidOf
  rw [cut_at]
  by_cases e : x = k
  · subst e
    rw [if_pos rfl]
    cases hs : S[x]? with
    | none => simp
    | some y => simp
  · rw [if_neg e]
    have e2 : (x == k) = false := by simpa using e
    rw [e2]; simp

/-- Up from j one comes to i. -/
def upTo (S : TS) (j i : Nat) : Bool := (j == i) || match S[j]? with
  | some (p, true) => if h : p.toNat < j then upTo S p.toNat i else false
  | _ => false
termination_by j
theorem upTo_self (S : TS) (i : Nat) : upTo S i i = true := by rw [upTo]; simp
theorem upTo_step {S : TS} {j i p : Nat} (h : S[j]? = some ((p : Int), true)) (hp : p < j) : upTo S j i = ((j == i) || upTo S p i) := by
  rw [upTo, h]
  simp [hp]
theorem upTo_stop {S : TS} {j i : Nat} (h : ∀ p, S[j]? ≠ some (p, true)) : upTo S j i = (j == i) := by
  rw [upTo]
  split
  · rename_i p hp; exact absurd hp (h p)
  · simp
/-- One with a parent, or none. -/
theorem WF.case {S : TS} (h : WF S) (j : Nat) : (∃ p : Nat, S[j]? = some ((p : Int), true) ∧ p < j) ∨ ∀ p, S[j]? ≠ some (p, true) := by
  by_cases c : ∃ p, S[j]? = some (p, true)
  · obtain ⟨p, hp⟩ := c
    have := h j p true hp
    obtain ⟨q, rfl⟩ := Int.eq_ofNat_of_zero_le (this.2.2 rfl)
    exact .inl ⟨q, hp, by omega⟩
  · exact .inr fun p hp => c ⟨p, hp⟩
theorem upTo_le {S : TS} (h : WF S) (i : Nat) : ∀ n j, j < n → upTo S j i = true → i ≤ j := by
  intro n
  induction n with
  | zero => intro j hj; omega
  | succ n ih =>
    intro j hj hu
    rcases h.case j with ⟨p, hp, hl⟩ | hno
    · rw [upTo_step hp hl] at hu
      rcases Bool.or_eq_true_iff.1 hu with e | e
      · have := beq_iff_eq.1 e; omega
      · have := ih p (by omega) e; omega
    · rw [upTo_stop hno] at hu
      have := beq_iff_eq.1 hu; omega
/-- Two on one way: one is above the other. -/
theorem upTo_two {S : TS} (h : WF S) (a b : Nat) (hab : a ≤ b) : ∀ n j, j < n → upTo S j a = true → upTo S j b = true → upTo S b a = true := by
  intro n
  induction n with
  | zero => intro j hj; omega
  | succ n ih =>
    intro j hj h1 h2
    by_cases e : j = b
    · subst e; exact h1
    have ea : j ≠ a := by
      intro ea
      have := upTo_le h b (n + 1) j hj h2; omega
    have e1 : (j == a) = false := by simpa using ea
    have e2 : (j == b) = false := by simpa using e
    rcases h.case j with ⟨p, hp, hl⟩ | hno
    · rw [upTo_step hp hl, e1, Bool.false_or] at h1
      rw [upTo_step hp hl, e2, Bool.false_or] at h2
      exact ih p (by omega) h1 h2
    · rw [upTo_stop hno, e1] at h1; cases h1
theorem upTo_trans {S : TS} (h : WF S) (a b : Nat) (hab : upTo S b a = true) : ∀ n j, j < n → upTo S j b = true → upTo S j a = true := by
  intro n
  induction n with
  | zero => intro j hj; omega
  | succ n ih =>
    intro j hj h1
    by_cases e : j = b
    · subst e; exact hab
    have e2 : (j == b) = false := by simpa using e
    rcases h.case j with ⟨p, hp, hl⟩ | hno
    · rw [upTo_step hp hl, e2, Bool.false_or] at h1
      rw [upTo_step hp hl, ih p (by omega) h1, Bool.or_true]
    · rw [upTo_stop hno, e2] at h1; cases h1

theorem walk_head (S : TS) (i : Nat) : i ∈ walk S i := by rw [walk_eq]; simp
theorem walk_kid {S : TS} {i j x : Nat} (hj : j ∈ kids S i) (hx : x ∈ walk S j) : x ∈ walk S i := by
  rw [walk_eq]; exact List.mem_cons_of_mem _ (List.mem_flatMap.2 ⟨j, hj, hx⟩)
theorem walk_cases {S : TS} {i x : Nat} (h : x ∈ walk S i) : x = i ∨ ∃ j ∈ kids S i, x ∈ walk S j := by
  rw [walk_eq] at h
  rcases List.mem_cons.1 h with e | e
  · exact .inl e
  · exact .inr (List.mem_flatMap.1 e)
theorem walk_up {S : TS} (h : WF S) : ∀ n i x, S.length - i < n → i < S.length → x ∈ walk S i → x < S.length ∧ upTo S x i = true := by
  intro n
  induction n with
  | zero => intro i x hn; omega
  | succ n ih =>
    intro i x hn hi hx
    rcases walk_cases hx with rfl | ⟨j, hj, hx⟩
    · exact ⟨hi, upTo_self _ _⟩
    · have hk := kids_lt hj
      obtain ⟨h1, h2⟩ := ih j x (by omega) hk.2 hx
      refine ⟨h1, upTo_trans h i j ?_ _ x (Nat.lt_succ_self x) h2⟩
      rw [upTo_step (mem_kids.1 hj).1 hk.1, upTo_self, Bool.or_true]
theorem walk_down {S : TS} : ∀ n i p j, S.length - i < n → p ∈ walk S i → j ∈ kids S p → j ∈ walk S i := by
  intro n
  induction n with
  | zero => intro i p j hn; omega
  | succ n ih =>
    intro i p j hn hp hj
    rcases walk_cases hp with rfl | ⟨k, hk, hp⟩
    · exact walk_kid hj (walk_head _ _)
    · have := kids_lt hk
      exact walk_kid hk (ih k p j (by omega) hp hj)
theorem up_walk {S : TS} (h : WF S) (i : Nat) : ∀ n x, x < n → x < S.length → upTo S x i = true → x ∈ walk S i := by
  intro n
  induction n with
  | zero => intro x hn; omega
  | succ n ih =>
    intro x hn hx hu
    by_cases e : x = i
    · subst e; exact walk_head _ _
    have e2 : (x == i) = false := by simpa using e
    rcases h.case x with ⟨p, hp, hl⟩ | hno
    · rw [upTo_step hp hl, e2, Bool.false_or] at hu
      exact walk_down _ i p x (Nat.lt_succ_self _) (ih p (by omega) (by omega) hu) (mem_kids.2 ⟨hp, hl⟩)
    · rw [upTo_stop hno, e2] at hu; cases hu
theorem mem_walk {S : TS} (h : WF S) {i x : Nat} (hi : i < S.length) : x ∈ walk S i ↔ x < S.length ∧ upTo S x i = true :=
  ⟨walk_up h _ i x (Nat.lt_succ_self _) hi, fun ⟨h1, h2⟩ => up_walk h i _ x (Nat.lt_succ_self _) h1 h2⟩
theorem walk_ge {S : TS} (h : WF S) {i x : Nat} (hi : i < S.length) (hx : x ∈ walk S i) : i ≤ x := upTo_le h i _ x (Nat.lt_succ_self _) ((mem_walk h hi).1 hx).2
/-- Nobody hangs on two kids of one. -/
theorem walk_apart {S : TS} (h : WF S) {i a b x : Nat} (ha : a ∈ kids S i) (hb : b ∈ kids S i) (hab : a < b) (h1 : x ∈ walk S a) (h2 : x ∈ walk S b) : False := by
  have ka := kids_lt ha
  have kb := kids_lt hb
  have u1 := ((mem_walk h ka.2).1 h1).2
  have u2 := ((mem_walk h kb.2).1 h2).2
  have u3 := upTo_two h a b (Nat.le_of_lt hab) _ x (Nat.lt_succ_self _) u1 u2
  rw [upTo_step (mem_kids.1 hb).1 kb.1, show (b == a) = false from by simp; omega, Bool.false_or] at u3
  have := upTo_le h a _ i (Nat.lt_succ_self _) u3
  omega
/-- Of two in a walk, the one ahead is not hung on the other; of one's kids the elder is ahead. -/
def Ahead (S : TS) (a b : Nat) : Prop := a ≠ b ∧ (∀ p : Nat, S[a]? = some ((p : Int), true) → p ≠ b) ∧ ∀ p : Nat, S[a]? = some ((p : Int), true) → S[b]? = some ((p : Int), true) → a < b
theorem walk_rises {S : TS} (h : WF S) : ∀ n i, S.length - i < n → i < S.length → (walk S i).Pairwise (Ahead S) := by
  intro n
  induction n with
  | zero => intro i hn; omega
  | succ n ih =>
    intro i hn hi
    rw [walk_eq, List.pairwise_cons]
    refine ⟨fun x hx => ?_, ?_⟩
    · obtain ⟨j, hj, hx⟩ := List.mem_flatMap.1 hx
      have hk := kids_lt hj
      have hg := walk_ge h hk.2 hx
      exact ⟨by omega, fun p hp => by have := (h i p true hp).2.1; omega, fun _ _ _ => by omega⟩
    · rw [List.pairwise_flatMap]
      refine ⟨fun j hj => ih j (by have := kids_lt hj; omega) (kids_lt hj).2, ?_⟩
      refine List.Pairwise.imp_of_mem (fun {a b} ha hb hab x hx y hy => ?_) (kids_rise S i)
      have ka := kids_lt ha
      have kb := kids_lt hb
      have gx := walk_ge h ka.2 hx
      have gy := walk_ge h kb.2 hy
      have lx := ((mem_walk h ka.2).1 hx).1
      have ly := ((mem_walk h kb.2).1 hy).1
      refine ⟨fun e => walk_apart h ha hb hab hx (e ▸ hy), fun p hp e => ?_, fun p hpx hpy => ?_⟩
      · subst e
        have hl := (h x p true hp).2.1
        exact walk_apart h ha hb hab hx (walk_down _ b p x (Nat.lt_succ_self _) hy (mem_kids.2 ⟨hp, by omega⟩))
      · rcases Nat.lt_or_ge x y with c | c
        · exact c
        exfalso
        have hl := (h x p true hpx).2.1
        have hl2 := (h y p true hpy).2.1
        -- y stands below b, its parent below b, or y is b
        rcases walk_cases hy with rfl | ⟨k, hk, hy'⟩
        · have e1 : p = i := by
            have := (mem_kids.1 hb).1.symm.trans hpy
            simp at this; omega
          subst e1
          rcases walk_cases hx with rfl | ⟨k, hk, hx'⟩
          · omega
          · have := kids_lt hk
            have g := walk_ge h this.2 hx'
            have hu := ((mem_walk h ka.2).1 hx).2
            rw [upTo_step hpx (by omega), show (x == a) = false from by simp; omega, Bool.false_or] at hu
            have := upTo_le h a _ p (Nat.lt_succ_self _) hu
            omega
        · have kk := kids_lt hk
          have g := walk_ge h kk.2 hy'
          have hu := ((mem_walk h kb.2).1 hy).2
          rw [upTo_step hpy (by omega), show (y == b) = false from by simp; omega, Bool.false_or] at hu
          have py : p ∈ walk S b := (mem_walk h kb.2).2 ⟨by omega, hu⟩
          exact walk_apart h ha hb hab hx (walk_down _ b p x (Nat.lt_succ_self _) py (mem_kids.2 ⟨hpx, by omega⟩))
theorem walk_once {S : TS} (h : WF S) {i : Nat} (hi : i < S.length) : (walk S i).Nodup := (walk_rises h _ i (Nat.lt_succ_self _) hi).imp fun h => h.1
theorem once_len : ∀ n (l : List Nat), l.Nodup → (∀ x ∈ l, x < n) → l.length ≤ n := by
  intro n
  induction n with
  | zero => intro l _ h; cases l with | nil => simp | cons a l => exact absurd (h a (by simp)) (by omega)
  | succ n ih =>
    intro l hl h
    have h1 := ih (l.erase n) (hl.erase n) (fun x hx => by
      have := (hl.mem_erase_iff).1 hx
      have := h x this.2
      omega)
    by_cases c : n ∈ l
    · rw [List.length_erase_of_mem c] at h1; omega
    · rw [List.erase_of_not_mem c] at h1; omega
theorem walk_len {S : TS} (h : WF S) {i : Nat} (hi : i < S.length) : (walk S i).length ≤ S.length := once_len _ _ (walk_once h hi) fun x hx => ((mem_walk h hi).1 hx).1

theorem flatMap_same {α β : Type} {f g : α → List β} : ∀ {l : List α}, (∀ x ∈ l, f x = g x) → l.flatMap f = l.flatMap g
  | [], _ => rfl
  | a :: l, h => by rw [List.flatMap_cons, List.flatMap_cons, h a (by simp), flatMap_same fun x hx => h x (by simp [hx])]
/-- Behind a cut: what hangs on it is as it was. -/
theorem walk_cut_ge {S : TS} (k : Nat) : ∀ n i, S.length - i < n → k ≤ i → walk (cut S k) i = walk S i := by
  intro n
  induction n with
  | zero => intro i hn; omega
  | succ n ih =>
    intro i hn hk
    have e : kids (cut S k) i = kids S i := by
      rw [kids_cut]
      apply List.filter_eq_self.2
      intro x hx
      have := kids_lt hx
      simp; omega
    rw [walk_eq (cut S k) i, walk_eq S i, e]
    congr 1
    refine flatMap_same fun x hx => ?_
    have := kids_lt hx
    exact ih x (by omega) (by omega)
theorem filter_flatMap' {α β : Type} (p : β → Bool) (f : α → List β) : ∀ l : List α, (l.flatMap f).filter p = l.flatMap fun x => (f x).filter p
  | [] => rfl
  | a :: l => by rw [List.flatMap_cons, List.filter_append, filter_flatMap' p f l, List.flatMap_cons]
/-- Who is taken off takes along all that hang on it, and nobody else. -/
theorem walk_cut {S : TS} (h : WF S) (k : Nat) (hk : k < S.length) : ∀ n i, S.length - i < n → i < S.length → i ∉ walk S k → walk (cut S k) i = (walk S i).filter fun x => !(walk S k).contains x := by
  intro n
  induction n with
  | zero => intro i hn; omega
  | succ n ih =>
    intro i hn hi hno
    rw [walk_eq (cut S k) i, show (walk S i).filter (fun x => !(walk S k).contains x) = i :: ((kids S i).flatMap (walk S)).filter (fun x => !(walk S k).contains x) from by
      rw [walk_eq S i, List.filter_cons, if_pos (by simpa using hno)], filter_flatMap', kids_cut]
    congr 1
    have key : ∀ l : List Nat, (∀ x ∈ l, x ∈ kids S i) → (l.filter fun x => !(x == k)).flatMap (walk (cut S k)) = l.flatMap fun x => (walk S x).filter fun x => !(walk S k).contains x := by
      intro l
      induction l with
      | nil => intro _; rfl
      | cons a l ihl =>
        intro hl
        have ha := hl a (by simp)
        have ka := kids_lt ha
        have e1 := ihl fun x hx => hl x (by simp [hx])
        rw [List.flatMap_cons, ← e1, List.filter_cons]
        by_cases e : a = k
        · subst e
          rw [if_neg (by simp), show ((walk S a).filter fun x => !(walk S a).contains x) = [] from by
            rw [List.filter_eq_nil_iff]; intro x hx; simpa using hx]
          rfl
        · rw [if_pos (by simpa using e), List.flatMap_cons, ih a (by omega) ka.2]
          intro hin
          rcases walk_cases hin with rfl | ⟨j, hj, hin⟩
          · exact e rfl
          · have kj := kids_lt hj
            have g := walk_ge h kj.2 hin
            have hu := ((mem_walk h hk).1 (walk_kid hj hin)).2
            rw [upTo_step (mem_kids.1 ha).1 ka.1, show (a == k) = false from by simpa using e, Bool.false_or] at hu
            exact hno ((mem_walk h hk).2 ⟨hi, hu⟩)
    exact key _ fun _ hx => hx
theorem walk_cut_zero {S : TS} (h : WF S) (k : Nat) (h0 : 0 < k) (hk : k < S.length) : walk (cut S k) 0 = (walk S 0).filter fun x => !(walk S k).contains x :=
  walk_cut h k hk _ 0 (Nat.lt_succ_self _) (by omega) fun hin => by have := walk_ge h hk hin; omega

/-! A row, each on the one ahead. -/
def row (n : Nat) : TS := (List.range n).map fun i : Nat => ((i : Int) - 1, decide (0 < i))
theorem row_len (n : Nat) : (row n).length = n := by simp [row]
theorem row_succ (n : Nat) : row (n + 1) = row n ++ [((n : Int) - 1, decide (0 < n))] := by simp [row, List.range_succ]
theorem row_at (n i : Nat) (hi : i < n) : (row n)[i]? = some ((i : Int) - 1, decide (0 < i)) := by simp [row, hi]
theorem row_wf : ∀ n, WF (row n)
  | 0 => WF.nil
  | n + 1 => by
    rw [row_succ]
    exact (row_wf n).push (by omega) (by rw [row_len]; omega) (fun h => by simp at h; omega)
theorem row_up (n i : Nat) : ∀ m x, x < m → x < n → i ≤ x → upTo (row n) x i = true := by
  intro m
  induction m with
  | zero => intro x hx; omega
  | succ m ih =>
    intro x hm hn hi
    by_cases e : x = i
    · subst e; exact upTo_self _ _
    obtain ⟨y, rfl⟩ : ∃ y, x = y + 1 := ⟨x - 1, by omega⟩
    have hp := row_at n (y + 1) hn
    rw [show ((y + 1 : Nat) : Int) - 1 = (y : Int) from by omega, show decide (0 < y + 1) = true from by simp] at hp
    rw [upTo_step hp (by omega), ih y (by omega) (by omega) (by omega), Bool.or_true]
theorem rising_eq : ∀ (l m : List Nat), l.Pairwise (· < ·) → m.Pairwise (· < ·) → (∀ x, x ∈ l ↔ x ∈ m) → l = m
  | [], [], _, _, _ => rfl
  | [], b :: m, _, _, h => absurd ((h b).2 (by simp)) (by simp)
  | a :: l, [], _, _, h => absurd ((h a).1 (by simp)) (by simp)
  | a :: l, b :: m, hl, hm, h => by
    rw [List.pairwise_cons] at hl hm
    have e : a = b := by
      rcases List.mem_cons.1 ((h a).1 (by simp)) with e | e
      · exact e
      · rcases List.mem_cons.1 ((h b).2 (by simp)) with e2 | e2
        · exact e2.symm
        · have := hl.1 b e2; have := hm.1 a e; omega
    subst e
    rw [rising_eq l m hl.2 hm.2 fun x => ⟨fun hx => by
      rcases List.mem_cons.1 ((h x).1 (by simp [hx])) with e | e
      · have := hl.1 x hx; omega
      · exact e, fun hx => by
      rcases List.mem_cons.1 ((h x).2 (by simp [hx])) with e | e
      · have := hm.1 x hx; omega
      · exact e⟩]
theorem row_walk (n : Nat) : ∀ m i, n - i < m → i < n → walk (row n) i = List.range' i (n - i) := by
  intro m
  induction m with
  | zero => intro i hm; omega
  | succ m ih =>
    intro i hm hi
    have hk : kids (row n) i = if i + 1 < n then [i + 1] else [] := by
      apply rising_eq _ _ (kids_rise _ _) (by split <;> simp)
      intro x
      rw [mem_kids]
      by_cases c : x < n
      · rw [row_at n x c]
        split
        · simp; omega
        · simp; omega
      · rw [List.getElem?_eq_none (by rw [row_len]; omega)]
        split
        · simp; omega
        · simp
    rw [walk_eq, hk]
    by_cases c : i + 1 < n
    · rw [if_pos c]
      simp only [List.flatMap_cons, List.flatMap_nil, List.append_nil]
      rw [ih (i + 1) (by omega) c, show n - i = (n - (i + 1)) + 1 from by omega, List.range'_succ]
    · rw [if_neg c, show n - i = 1 from by omega]; rfl
theorem row_cut_low (n k : Nat) (h0 : 0 < k) (hk : k < n) : walk (cut (row n) k) 0 = List.range k := by
  rw [walk_cut_zero (row_wf n) k h0 (by rw [row_len]; exact hk), row_walk n _ 0 (Nat.lt_succ_self _) (by omega), row_walk n _ k (Nat.lt_succ_self _) hk]
  apply rising_eq
  · exact List.Pairwise.filter _ List.pairwise_lt_range'
  · exact List.pairwise_lt_range
  · intro x
    simp only [List.mem_filter, List.mem_range', List.mem_range, Bool.not_eq_true', List.contains_eq_mem, decide_eq_false_iff_not]
    constructor
    · rintro ⟨⟨i, h1, h2⟩, h3⟩
      rcases Nat.lt_or_ge x k with c | c
      · exact c
      · exact absurd ⟨x - k, by omega, by omega⟩ h3
    · intro h
      exact ⟨⟨x, by omega, by omega⟩, fun ⟨i, h1, h2⟩ => by omega⟩
theorem row_cut_high (n k : Nat) (hk : k < n) : walk (cut (row n) k) k = List.range' k (n - k) := by
  rw [walk_cut_ge k _ k (Nat.lt_succ_self _) (Nat.le_refl _), row_walk n _ k (Nat.lt_succ_self _) hk]
end Go.Proofs.Ytdpapnfjpefhkaa.Tr
