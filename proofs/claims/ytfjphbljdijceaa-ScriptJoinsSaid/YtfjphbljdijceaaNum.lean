/- Entries as lists of bytes, written and read: plain mathematics. No condition. -/
namespace Go.Proofs.Ytfjphbljdijceaa

/-- An entry: its kind and its two numbers. -/
structure En where
  k : Int
  n : Int
  d : Int

/-- The low bytes of a number, the lowest first. -/
def lo : Nat → Int → List Int
  | 0, _ => []
  | m + 1, x => x % 256 :: lo m (x / 256)
/-- The number that bytes say. -/
def val : List Int → Int
  | [] => 0
  | b :: r => b + 256 * val r
def Byt (l : List Int) : Prop := ∀ b ∈ l, 0 ≤ b ∧ b < 256

theorem lo_len (m : Nat) : ∀ x, (lo m x).length = m := by
  induction m with
  | zero => intro x; rfl
  | succ m ih => intro x; simp [lo, ih]
theorem lo_byt (m : Nat) : ∀ x, Byt (lo m x) := by
  induction m with
  | zero => intro x b hb; simp [lo] at hb
  | succ m ih =>
    intro x b hb
    simp only [lo, List.mem_cons] at hb
    rcases hb with rfl | hb
    · omega
    · exact ih _ b hb
theorem lo_at (m : Nat) : ∀ (x : Int) (i : Nat), i < m → (lo m x)[i]? = some (x / 256 ^ i % 256) := by
  induction m with
  | zero => intro x i h; omega
  | succ m ih =>
    intro x i h
    cases i with
    | zero => simp [lo]
    | succ i =>
      have h1 := ih (x / 256) i (by omega)
      simp only [lo, List.getElem?_cons_succ, h1]
      rw [Int.ediv_ediv_of_nonneg (by omega), Int.pow_succ, Int.mul_comm]
theorem val_range (l : List Int) (h : Byt l) : 0 ≤ val l ∧ val l < 256 ^ l.length := by
  induction l with
  | nil => simp [val]
  | cons b r ih =>
    have h1 := h b (by simp)
    have h2 := ih (fun x hx => h x (by simp [hx]))
    simp only [val, List.length_cons, Int.pow_succ]
    omega
theorem lo_val (l : List Int) (h : Byt l) : lo l.length (val l) = l := by
  induction l with
  | nil => rfl
  | cons b r ih =>
    have h1 := h b (by simp)
    have h2 := ih (fun x hx => h x (by simp [hx]))
    simp only [val, List.length_cons, lo]
    rw [show (b + 256 * val r) % 256 = b from by omega, show (b + 256 * val r) / 256 = val r from by omega, h2]
theorem val_lo (m : Nat) : ∀ x, val (lo m x) = x % 256 ^ m := by
  induction m with
  | zero => intro x; simp [lo, val, Int.emod_one]
  | succ m ih =>
    intro x
    simp only [lo, val, ih]
    have h1 : (0 : Int) < 256 ^ m := Int.pow_pos (by omega)
    rw [Int.pow_succ]
    generalize (256 : Int) ^ m = p at h1
    have e1 := Int.emod_add_mul_ediv (x / 256) p
    have e2 := Int.emod_add_mul_ediv x 256
    have e3 := Int.emod_nonneg (x / 256) (by omega : p ≠ 0)
    have e4 := Int.emod_lt_of_pos (x / 256) h1
    have e5 : x = (x % 256 + 256 * (x / 256 % p)) + (p * 256) * (x / 256 / p) := by
      rw [show p * 256 * (x / 256 / p) = 256 * (p * (x / 256 / p)) from by rw [Int.mul_comm p 256, Int.mul_assoc]]
      omega
    have e6 : x % (p * 256) = (x % 256 + 256 * (x / 256 % p)) % (p * 256) := by
      have h := Int.add_mul_emod_self_left (x % 256 + 256 * (x / 256 % p)) (p * 256) (x / 256 / p)
      rwa [← e5] at h
    have e7 : (x % 256 + 256 * (x / 256 % p)) % (p * 256) = x % 256 + 256 * (x / 256 % p) := Int.emod_eq_of_lt (by omega) (by omega)
    rw [e6, e7]
theorem lo_congr (m : Nat) (x y : Int) (h : x % 256 ^ m = y % 256 ^ m) : lo m x = lo m y := by
  rw [← val_lo, ← val_lo] at h
  have h1 := lo_val (lo m x) (lo_byt m x)
  have h2 := lo_val (lo m y) (lo_byt m y)
  rw [lo_len] at h1 h2
  rw [← h1, ← h2, h]

/-- A number of 64 binary digits, with its sign. -/
def w64 (x : Int) : Int := (x + 9223372036854775808) % 18446744073709551616 - 9223372036854775808
theorem w64_in {x : Int} (h1 : -9223372036854775808 ≤ x) (h2 : x ≤ 9223372036854775807) : w64 (x % 18446744073709551616) = x := by unfold w64; omega
theorem w64_mod (x : Int) : w64 x % 18446744073709551616 = x % 18446744073709551616 := by unfold w64; omega
theorem w64_lo (x : Int) : -9223372036854775808 ≤ w64 x ∧ w64 x ≤ 9223372036854775807 := by unfold w64; omega
def num (l : List Int) : Int := w64 (val l)
theorem num_lo {x : Int} (h1 : -9223372036854775808 ≤ x) (h2 : x ≤ 9223372036854775807) : num (lo 8 x) = x := by
  unfold num; rw [val_lo]; exact w64_in h1 h2
theorem lo_num (l : List Int) (h : Byt l) (h8 : l.length = 8) : lo 8 (num l) = l := by
  have h1 : lo 8 (num l) = lo 8 (val l) := lo_congr 8 _ _ (w64_mod _)
  rw [h1, ← h8, lo_val l h]

/-- How many bytes an entry of that kind has. -/
def sz (k : Int) : Nat := if k = 1 then 17 else if k = 2 then 9 else 0
/-- An entry's bytes. -/
def eb (e : En) : List Int := e.k :: (lo 8 e.n ++ if e.k = 1 then lo 8 e.d else [])
/-- The entry whose bytes they are. -/
def re (l : List Int) : En := ⟨l.headD 0, num ((l.drop 1).take 8), if l.headD 0 = 1 then num ((l.drop 9).take 8) else 0⟩
/-- An entry that has bytes. -/
def eOk (e : En) : Prop := e.k = 1 ∨ e.k = 2 ∧ e.d = 0
def In64 (x : Int) : Prop := -9223372036854775808 ≤ x ∧ x ≤ 9223372036854775807
def eIn (e : En) : Prop := In64 e.k ∧ In64 e.n ∧ In64 e.d

theorem eb_len {e : En} (h : eOk e) : (eb e).length = sz e.k := by
  unfold eb sz
  rcases h with h | ⟨h, _⟩ <;> simp [h, lo_len]
theorem eb_byt {e : En} (h : eOk e) : Byt (eb e) := by
  intro b hb
  unfold eb at hb
  simp only [List.mem_cons, List.mem_append] at hb
  rcases hb with rfl | hb | hb
  · rcases h with h | ⟨h, _⟩ <;> omega
  · exact lo_byt _ _ b hb
  · split at hb
    · exact lo_byt _ _ b hb
    · simp at hb
theorem re_eb {e : En} (h : eOk e) (hi : eIn e) : re (eb e) = e := by
  obtain ⟨k, n, d⟩ := e
  obtain ⟨_, ⟨h1, h2⟩, h3, h4⟩ := hi
  have t1 : ∀ r, (lo 8 n ++ r).take 8 = lo 8 n := fun r => by rw [List.take_append_of_le_length (by rw [lo_len]; omega), List.take_of_length_le (by rw [lo_len]; omega)]
  have t2 : ∀ r, (lo 8 n ++ r).drop 8 = r := fun r => by rw [List.drop_append_of_le_length (by rw [lo_len]; omega), List.drop_of_length_le (by rw [lo_len]; omega), List.nil_append]
  have t3 : (lo 8 d).take 8 = lo 8 d := List.take_of_length_le (by rw [lo_len]; omega)
  rcases h with h | ⟨h, h'⟩
  · simp only at h
    subst h
    simp only [re, eb, List.headD_cons, List.drop_succ_cons, List.drop_zero, if_true, t1, t2, t3]
    rw [num_lo h1 h2, num_lo h3 h4]
  · simp only at h h'
    subst h; subst h'
    simp only [re, eb, List.headD_cons, List.drop_succ_cons, List.drop_zero, t1]
    rw [num_lo h1 h2]
    rfl
theorem sz_pos {k : Int} (h : sz k ≠ 0) : k = 1 ∧ sz k = 17 ∨ k = 2 ∧ sz k = 9 := by
  unfold sz at *
  by_cases h1 : k = 1
  · simp [h1]
  · by_cases h2 : k = 2
    · simp [h2]
    · simp [h1, h2] at h
theorem byt_take {l : List Int} (h : Byt l) (n : Nat) : Byt (l.take n) := fun b hb => h b (List.mem_of_mem_take hb)
theorem byt_drop {l : List Int} (h : Byt l) (n : Nat) : Byt (l.drop n) := fun b hb => h b (List.mem_of_mem_drop hb)
theorem eb_re {b : Int} {r : List Int} (hb : Byt (b :: r)) (h0 : sz b ≠ 0) (hl : sz b = (b :: r).length) : eb (re (b :: r)) = b :: r ∧ eOk (re (b :: r)) ∧ eIn (re (b :: r)) := by
  have hr : Byt r := fun x hx => hb x (by simp [hx])
  have hn := w64_lo (val (r.take 8))
  have hd := w64_lo (val ((r.drop 8).take 8))
  rcases sz_pos h0 with ⟨rfl, h1⟩ | ⟨rfl, h1⟩
  · rw [h1] at hl
    have hl' : r.length = 16 := by simp at hl; omega
    have e : re (1 :: r) = ⟨1, num (r.take 8), num ((r.drop 8).take 8)⟩ := by simp [re]
    rw [e]
    refine ⟨?_, .inl rfl, (by show In64 1; unfold In64; omega), hn, hd⟩
    simp only [eb, if_true]
    rw [lo_num _ (byt_take hr 8) (by simp; omega), lo_num _ (byt_take (byt_drop hr 8) 8) (by simp; omega)]
    rw [List.take_of_length_le (l := r.drop 8) (by simp; omega), List.take_append_drop]
  · rw [h1] at hl
    have hl' : r.length = 8 := by simp at hl; omega
    have e : re (2 :: r) = ⟨2, num (r.take 8), 0⟩ := by simp [re]
    rw [e]
    refine ⟨?_, .inr ⟨rfl, rfl⟩, (by show In64 2; unfold In64; omega), hn, (by show In64 0; unfold In64; omega)⟩
    simp only [eb]
    rw [lo_num _ (byt_take hr 8) (by simp; omega), List.take_of_length_le (by omega)]
    simp

/-- All bytes. -/
def enL (l : List En) : List Int := l.flatMap eb
def allOk (l : List En) : Prop := ∀ e ∈ l, eOk e
def allIn (l : List En) : Prop := ∀ e ∈ l, eIn e
/-- Bytes read: so many entries at most. -/
def decF : Nat → List Int → Option (List En)
  | _, [] => some []
  | 0, _ :: _ => none
  | c + 1, b :: r => if sz b = 0 ∨ r.length + 1 < sz b then none else (decF c ((b :: r).drop (sz b))).map (re ((b :: r).take (sz b)) :: ·)

theorem enL_nil : enL [] = [] := rfl
theorem enL_cons (e : En) (l : List En) : enL (e :: l) = eb e ++ enL l := rfl
theorem enL_app (a b : List En) : enL (a ++ b) = enL a ++ enL b := by simp [enL]
theorem enL_byt {l : List En} (h : allOk l) : Byt (enL l) := by
  intro b hb
  simp only [enL, List.mem_flatMap] at hb
  obtain ⟨e, he, hb⟩ := hb
  exact eb_byt (h e he) b hb
theorem enL_len {l : List En} (h : allOk l) : 9 * l.length ≤ (enL l).length ∧ (enL l).length ≤ 17 * l.length := by
  induction l with
  | nil => simp [enL]
  | cons e l ih =>
    have h1 := ih (fun x hx => h x (by simp [hx]))
    have h2 := eb_len (h e (by simp))
    rw [enL_cons, List.length_append, List.length_cons, h2]
    rcases h e (by simp) with h3 | ⟨h3, _⟩ <;> simp [sz, h3] <;> omega
theorem decF_step (c : Nat) {e : En} (h : eOk e) (hi : eIn e) (r : List Int) : decF (c + 1) (eb e ++ r) = (decF c r).map (e :: ·) := by
  have hl := eb_len h
  have hr := re_eb h hi
  have hs : sz e.k ≠ 0 := by rcases h with h3 | ⟨h3, _⟩ <;> simp [sz, h3]
  have e1 : eb e ++ r = e.k :: ((lo 8 e.n ++ if e.k = 1 then lo 8 e.d else []) ++ r) := rfl
  have e2 : (eb e ++ r).drop (sz e.k) = r := by rw [← hl, List.drop_left]
  have e3 : (eb e ++ r).take (sz e.k) = eb e := by rw [← hl, List.take_left]
  have e4 : (eb e ++ r).length = sz e.k + r.length := by rw [List.length_append, hl]
  rw [e1] at e2 e3 e4 ⊢
  rw [decF, if_neg, e2, e3, hr]
  rintro (h9 | h9)
  · exact hs h9
  · simp at e4 h9; omega
theorem decF_app : ∀ (l : List En) (c : Nat) (r : List Int), allOk l → allIn l → l.length ≤ c → decF c (enL l ++ r) = (decF (c - l.length) r).map (l ++ ·)
  | [], c, r, _, _, _ => by simp [enL]
  | e :: l, 0, r, _, _, hc => by simp at hc
  | e :: l, c + 1, r, ho, hi, hc => by
    simp only [List.length_cons] at hc
    rw [enL_cons, List.append_assoc, decF_step c (ho e (by simp)) (hi e (by simp)), decF_app l c r (fun x hx => ho x (by simp [hx])) (fun x hx => hi x (by simp [hx])) (by omega)]
    simp [Option.map_map, Function.comp_def]
theorem decF_nil (c : Nat) : decF c [] = some [] := by cases c <;> rfl
theorem decF_back (l : List En) (c : Nat) (ho : allOk l) (hi : allIn l) (hc : l.length ≤ c) : decF c (enL l) = some l := by
  have h := decF_app l c [] ho hi hc
  rw [List.append_nil, decF_nil] at h
  simpa using h
theorem decF_of : ∀ (c : Nat) (b : List Int) (o : List En), Byt b → decF c b = some o → enL o = b ∧ allOk o ∧ allIn o ∧ o.length ≤ c
  | c, [], o, _, h => by
    rw [decF_nil] at h
    injection h with h
    subst h
    exact ⟨rfl, fun _ h => by simp at h, fun _ h => by simp at h, by simp⟩
  | 0, b :: r, o, _, h => by simp [decF] at h
  | c + 1, b :: r, o, hb, h => by
    rw [decF] at h
    by_cases hn : sz b = 0 ∨ r.length + 1 < sz b
    · rw [if_pos hn] at h; cases h
    · rw [if_neg hn] at h
      have h0 : sz b ≠ 0 := fun h9 => hn (.inl h9)
      have h1 : sz b ≤ r.length + 1 := by
        rcases Nat.lt_or_ge (r.length + 1) (sz b) with h9 | h9
        · exact absurd (.inr h9) hn
        · exact h9
      obtain ⟨o', ho', rfl⟩ := Option.map_eq_some_iff.1 h
      obtain ⟨i1, i2, i3, i4⟩ := decF_of c _ o' (byt_drop hb _) ho'
      obtain ⟨m, hm⟩ : ∃ m, sz b = m + 1 := ⟨sz b - 1, by omega⟩
      have ht : (b :: r).take (sz b) = b :: r.take m := by rw [hm]; rfl
      obtain ⟨j1, j2, j3⟩ := eb_re (b := b) (r := r.take m) (by rw [← ht]; exact byt_take hb _) h0 (by rw [List.length_cons, List.length_take]; omega)
      rw [← ht] at j1 j2 j3
      refine ⟨?_, ?_, ?_, by simp; omega⟩
      · rw [enL_cons, i1, j1, List.take_append_drop]
      · intro x hx
        simp only [List.mem_cons] at hx
        rcases hx with rfl | hx
        · exact j2
        · exact i2 x hx
      · intro x hx
        simp only [List.mem_cons] at hx
        rcases hx with rfl | hx
        · exact j3
        · exact i3 x hx

/-- What is read of a beginning is a beginning. -/
theorem dec_cut (l o : List En) (c k : Nat) (ho : allOk l) (hi : allIn l) (hc : l.length ≤ c) (hk : k < (enL l).length) (hd : decF c ((enL l).take k) = some o) :
    enL o = (enL l).take k ∧ allOk o ∧ allIn o ∧ o.length < l.length ∧ o = l.take o.length := by
  obtain ⟨h1, h2, h3, h4⟩ := decF_of c _ o (byt_take (enL_byt ho) k) hd
  have e1 : enL l = enL o ++ (enL l).drop k := by rw [h1, List.take_append_drop]
  have e2 := decF_back l c ho hi hc
  rw [e1, decF_app o c _ h2 h3 h4] at e2
  obtain ⟨m, hm, e3⟩ := Option.map_eq_some_iff.1 e2
  have hne : m ≠ [] := by
    rintro rfl
    have h5 : enL [] = (enL l).drop k := (decF_of _ _ _ (byt_drop (enL_byt ho) k) hm).1
    have h6 : ((enL l).drop k).length = 0 := by rw [← h5]; rfl
    rw [List.length_drop] at h6
    omega
  have h7 : 0 < m.length := List.length_pos_iff.2 hne
  refine ⟨h1, h2, h3, by rw [← e3, List.length_append]; omega, ?_⟩
  rw [← e3, List.take_left]
theorem dec_odd (l : List En) (c : Nat) (b : Int) (r : List Int) (ho : allOk l) (hi : allIn l) (hc : l.length ≤ c) (hb : sz b = 0) : decF c (enL l ++ b :: r) = none := by
  rw [decF_app l c _ ho hi hc]
  cases h : c - l.length with
  | zero => rfl
  | succ m => rw [decF, if_pos (.inl hb)]; rfl
end Go.Proofs.Ytfjphbljdijceaa
