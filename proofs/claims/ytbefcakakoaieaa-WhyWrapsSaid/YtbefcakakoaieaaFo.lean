/- Shapes of errors as forests, and how shapes and errors lie in memory: plain definitions and how they carry from world to world. No condition. -/
import Derived.Test.YtbefcakakoaieaaRows
import Derived.WalkKit
import Derived.Below
import Derived.Lib.Hide
namespace Go.Proofs.Ytbefcakakoaieaa
open Go.RowKit

/-- A row of shapes, each with a row of kids. -/
inductive Fo where
  | nil : Fo
  | cons (c : Int) (op : ByteArray) (ks r : Fo) : Fo

def Fo.len : Fo → Nat
  | .nil => 0
  | .cons _ _ _ r => r.len + 1

def Fo.app : Fo → Fo → Fo
  | .nil, G => G
  | .cons c o ks r, G => .cons c o ks (r.app G)

def Fo.All (p : Int → ByteArray → Fo → Prop) : Fo → Prop
  | .nil => True
  | .cons c o ks r => p c o ks ∧ r.All p

theorem Fo.len_app : ∀ (F G : Fo), (F.app G).len = F.len + G.len
  | .nil, G => by simp [Fo.app, Fo.len]
  | .cons c o ks r, G => by simp only [Fo.app, Fo.len, Fo.len_app r G]; omega
theorem Fo.app_nil : ∀ F : Fo, F.app .nil = F
  | .nil => rfl
  | .cons c o ks r => by simp only [Fo.app, Fo.app_nil r]
theorem Fo.app_cons : ∀ (F : Fo) (c : Int) (o : ByteArray) (ks r : Fo), F.app (.cons c o ks r) = (F.app (.cons c o ks .nil)).app r
  | .nil, c, o, ks, r => rfl
  | .cons c' o' ks' r', c, o, ks, r => by simp only [Fo.app, Fo.app_cons r' c o ks r]

/-- Blocks ahead of L. -/
def Lt (L : Nat) : Nat → Prop := fun b => b < L
/-- Blocks from A on, ahead of L. -/
def Btw (A L : Nat) : Nat → Prop := fun b => A ≤ b ∧ b < L

theorem cell_blk {W W' : World} {b : Nat} (h : W'.heap[b]? = W.heap[b]?) (i : Nat) : W'.cell? ⟨b, i, none⟩ = W.cell? ⟨b, i, none⟩ := World.cell?_of_block (w := W) (a := ⟨b, i, none⟩) h

/-- A row of shapes stands in W from cell o of block b on; all rows below it in blocks of S. -/
def FRow (W : World) (S : Nat → Prop) : Fo → Nat → Nat → Prop
  | .nil, _, _ => True
  | .cons c op ks r, b, o => W.cell? ⟨b, o, none⟩ = some (.int .i64 c) ∧ W.cell? ⟨b, o + 1, none⟩ = some (.string op)
      ∧ (∃ p cap, W.cell? ⟨b, o + 2, none⟩ = some (.slice p ks.len cap) ∧ ks.len ≤ cap ∧ ks.len < 4611686018427387904 ∧ ∃ b' o', (0 < ks.len → p = some ⟨b', o', none⟩ ∧ S b') ∧ FRow W S ks b' o')
      ∧ FRow W S r b (o + 3)

theorem FRow.agr {W W' : World} {S S' : Nat → Prop} (h : ∀ b, S b → W'.heap[b]? = W.heap[b]?) (hS : ∀ b, S b → S' b) : ∀ (F : Fo) (b o : Nat), (∀ i, i < 3 * F.len → W'.cell? ⟨b, o + i, none⟩ = W.cell? ⟨b, o + i, none⟩) → FRow W S F b o → FRow W' S' F b o
  | .nil, _, _, _, _ => trivial
  | .cons c op ks r, b, o, hc, ⟨h1, h2, ⟨p, cap, h3, h4, h4', b', o', h5, h6⟩, h7⟩ => by
    have e0 := hc 0 (by simp [Fo.len])
    have e1 := hc 1 (by simp [Fo.len]; omega)
    have e2 := hc 2 (by simp [Fo.len]; omega)
    refine ⟨by rw [← h1]; exact e0, by rw [← h2]; exact e1, ⟨p, cap, by rw [← h3]; exact e2, h4, h4', b', o', fun hp => ⟨(h5 hp).1, hS _ (h5 hp).2⟩, ?_⟩, ?_⟩
    · refine FRow.agr h hS ks b' o' (fun i hi => ?_) h6
      exact cell_blk (h b' (h5 (by omega)).2) _
    · refine FRow.agr h hS r b (o + 3) (fun i hi => ?_) h7
      have := hc (3 + i) (by simp [Fo.len]; omega)
      rw [show o + 3 + i = o + (3 + i) by omega]; exact this

/-- A row of shapes, its own block in S too. -/
def FAt (W : World) (S : Nat → Prop) (F : Fo) (b o : Nat) : Prop := (0 < F.len → S b) ∧ FRow W S F b o

theorem FAt.agr {W W' : World} {S S' : Nat → Prop} (h : ∀ b, S b → W'.heap[b]? = W.heap[b]?) (hS : ∀ b, S b → S' b) (F : Fo) (b o : Nat) (hF : FAt W S F b o) : FAt W' S' F b o :=
  ⟨fun hp => hS _ (hF.1 hp), FRow.agr h hS F b o (fun i hi => cell_blk (h b (hF.1 (by omega))) _) hF.2⟩
theorem FAt.below {W W' : World} {L B : Nat} (hb : Below B W W') (hB : L ≤ B) (F : Fo) (b o : Nat) (h : FAt W (Lt L) F b o) : FAt W' (Lt L) F b o :=
  FAt.agr (fun x hx => hb.block x (Nat.lt_of_lt_of_le hx hB)) (fun _ h => h) F b o h
theorem FAt.mono {W : World} {L L' : Nat} (hL : L ≤ L') (F : Fo) (b o : Nat) (h : FAt W (Lt L) F b o) : FAt W (Lt L') F b o :=
  FAt.agr (fun _ _ => rfl) (fun _ h => Nat.lt_of_lt_of_le h hL) F b o h

/-- The slice of a row of shapes. -/
def KAt (W : World) (S : Nat → Prop) (ks : Fo) (p : Option Addr) (n cap : Nat) : Prop :=
  n = ks.len ∧ n ≤ cap ∧ n < 4611686018427387904 ∧ ∃ b o, (0 < n → p = some ⟨b, o, none⟩) ∧ FAt W S ks b o

theorem KAt.agr {W W' : World} {S S' : Nat → Prop} {ks : Fo} {p : Option Addr} {n cap : Nat} (h : KAt W S ks p n cap) (ha : ∀ b, S b → W'.heap[b]? = W.heap[b]?) (hS : ∀ b, S b → S' b) : KAt W' S' ks p n cap := by
  obtain ⟨h1, h2, h3, b, o, h4, h5⟩ := h
  exact ⟨h1, h2, h3, b, o, h4, FAt.agr ha hS ks b o h5⟩
theorem KAt.below {W W' : World} {L B : Nat} {ks : Fo} {p : Option Addr} {n cap : Nat} (h : KAt W (Lt L) ks p n cap) (hb : Below B W W') (hB : L ≤ B) : KAt W' (Lt L) ks p n cap :=
  h.agr (fun x hx => hb.block x (Nat.lt_of_lt_of_le hx hB)) (fun _ h => h)
theorem KAt.mono {W : World} {L L' : Nat} {ks : Fo} {p : Option Addr} {n cap : Nat} (h : KAt W (Lt L) ks p n cap) (hL : L ≤ L') : KAt W (Lt L') ks p n cap :=
  h.agr (fun _ _ => rfl) (fun _ h => Nat.lt_of_lt_of_le h hL)
theorem KAt.nil (W : World) (S : Nat → Prop) (p : Option Addr) (cap : Nat) : KAt W S .nil p 0 cap := ⟨rfl, Nat.zero_le _, by omega, 0, 0, fun h => absurd h (by omega), fun h => absurd h (by simp [Fo.len]), trivial⟩

theorem FAt.head {W : World} {S : Nat → Prop} {c : Int} {op : ByteArray} {ks r : Fo} {b o : Nat} (h : FAt W S (.cons c op ks r) b o) :
    S b ∧ W.cell? ⟨b, o, none⟩ = some (.int .i64 c) ∧ W.cell? ⟨b, o + 1, none⟩ = some (.string op) ∧ (∃ p cap, W.cell? ⟨b, o + 2, none⟩ = some (.slice p ks.len cap) ∧ KAt W S ks p ks.len cap) ∧ FAt W S r b (o + 3) := by
  obtain ⟨h0, h1, h2, ⟨p, cap, h3, h4, h4', b', o', h5, h6⟩, h7⟩ := h
  have hb := h0 (by simp [Fo.len])
  exact ⟨hb, h1, h2, ⟨p, cap, h3, rfl, h4, h4', b', o', fun hp => (h5 hp).1, fun hp => (h5 hp).2, h6⟩, fun _ => hb, h7⟩

/-- One shape behind a row. -/
theorem FRow.snoc {W : World} {S : Nat → Prop} {c : Int} {op : ByteArray} {ks : Fo} {b : Nat} : ∀ (F : Fo) (o : Nat), FRow W S F b o → FRow W S (.cons c op ks .nil) b (o + F.len * 3) → FRow W S (F.app (.cons c op ks .nil)) b o
  | .nil, o, _, h => by simpa [Fo.app, Fo.len] using h
  | .cons c' o' ks' r, o, ⟨h1, h2, h3, h4⟩, h => by
    refine ⟨h1, h2, h3, FRow.snoc r (o + 3) h4 ?_⟩
    rw [show o + 3 + r.len * 3 = o + (Fo.cons c' o' ks' r).len * 3 by simp only [Fo.len]; omega]; exact h

/-- What a value of type error is: a code; a group of kids; or nil. K: where its kids stand. -/
def EVal (W : World) (S : Nat → Prop) (c : Int) (op : ByteArray) (n : Nat) (K : Nat → Nat → Prop) (v : Value) : Prop :=
  (0 < c ∧ op.size = 0 ∧ n = 0 ∧ v = .iface 51 (.agg #[.int .i64 c])) ∨
  (c = 0 ∧ ∃ g, v = .iface 63 (.pointer (some ⟨g, 0, none⟩)) ∧ S g ∧ W.cell? ⟨g, 0, none⟩ = some (.string op) ∧
    ∃ p cap, W.cell? ⟨g, 1, none⟩ = some (.slice p n cap) ∧ n ≤ cap ∧ n < 4611686018427387904 ∧ ∃ b' o', (0 < n → p = some ⟨b', o', none⟩ ∧ S b') ∧ K b' o') ∨
  (c = 0 ∧ op.size = 0 ∧ n = 0 ∧ v = .nilIface)

/-- A row of errors. -/
def ERow (W : World) (S : Nat → Prop) : Fo → Nat → Nat → Prop
  | .nil, _, _ => True
  | .cons c op ks r, b, o => (∃ v, W.cell? ⟨b, o, none⟩ = some v ∧ EVal W S c op ks.len (fun b' o' => ERow W S ks b' o') v) ∧ ERow W S r b (o + 1)

theorem EVal.agr {W W' : World} {S S' : Nat → Prop} {c : Int} {op : ByteArray} {n : Nat} {K K' : Nat → Nat → Prop} {v : Value} (h : ∀ b, S b → W'.heap[b]? = W.heap[b]?) (hS : ∀ b, S b → S' b)
    (hK : ∀ b o, (0 < n → S b) → K b o → K' b o) (hv : EVal W S c op n K v) : EVal W' S' c op n K' v := by
  rcases hv with hv | ⟨h0, g, h1, h2, h3, p, cap, h4, h5, h6, b', o', h7, h8⟩ | hv
  · exact .inl hv
  · exact .inr (.inl ⟨h0, g, h1, hS _ h2, by rw [cell_blk (h g h2)]; exact h3, p, cap, by rw [cell_blk (h g h2)]; exact h4, h5, h6, b', o', fun hp => ⟨(h7 hp).1, hS _ (h7 hp).2⟩, hK b' o' (fun hp => (h7 hp).2) h8⟩)
  · exact .inr (.inr hv)

theorem ERow.agr {W W' : World} {S S' : Nat → Prop} (h : ∀ b, S b → W'.heap[b]? = W.heap[b]?) (hS : ∀ b, S b → S' b) : ∀ (F : Fo) (b o : Nat), (∀ i, i < F.len → W'.cell? ⟨b, o + i, none⟩ = W.cell? ⟨b, o + i, none⟩) → ERow W S F b o → ERow W' S' F b o
  | .nil, _, _, _, _ => trivial
  | .cons c op ks r, b, o, hc, ⟨⟨v, h1, h2⟩, h3⟩ => by
    have e0 := hc 0 (by simp [Fo.len])
    refine ⟨⟨v, by rw [← h1]; exact e0, h2.agr h hS fun b' o' hp hK => ERow.agr h hS ks b' o' (fun i hi => cell_blk (h b' (hp (by omega))) _) hK⟩, ?_⟩
    refine ERow.agr h hS r b (o + 1) (fun i hi => ?_) h3
    have := hc (1 + i) (by simp [Fo.len]; omega)
    rw [show o + 1 + i = o + (1 + i) by omega]; exact this

theorem ERow.snoc {W : World} {S : Nat → Prop} {c : Int} {op : ByteArray} {ks : Fo} {b : Nat} : ∀ (F : Fo) (o : Nat), ERow W S F b o → ERow W S (.cons c op ks .nil) b (o + F.len) → ERow W S (F.app (.cons c op ks .nil)) b o
  | .nil, o, _, h => by simpa [Fo.app, Fo.len] using h
  | .cons c' o' ks' r, o, ⟨h1, h4⟩, h => by
    refine ⟨h1, ERow.snoc r (o + 1) h4 ?_⟩
    rw [show o + 1 + r.len = o + (Fo.cons c' o' ks' r).len by simp only [Fo.len]; omega]; exact h

/-- One error. -/
def EIs (W : World) (S : Nat → Prop) (c : Int) (op : ByteArray) (ks : Fo) (v : Value) : Prop := EVal W S c op ks.len (fun b' o' => ERow W S ks b' o') v
theorem EIs.agr {W W' : World} {S S' : Nat → Prop} {c : Int} {op : ByteArray} {ks : Fo} {v : Value} (hv : EIs W S c op ks v) (h : ∀ b, S b → W'.heap[b]? = W.heap[b]?) (hS : ∀ b, S b → S' b) : EIs W' S' c op ks v :=
  EVal.agr h hS (fun b o hp hK => ERow.agr h hS ks b o (fun i hi => cell_blk (h b (hp (by omega))) _) hK) hv

/-- A row of errors, its own block in S too. -/
def EAt (W : World) (S : Nat → Prop) (F : Fo) (b o : Nat) : Prop := (0 < F.len → S b) ∧ ERow W S F b o
theorem EAt.agr {W W' : World} {S S' : Nat → Prop} (h : ∀ b, S b → W'.heap[b]? = W.heap[b]?) (hS : ∀ b, S b → S' b) (F : Fo) (b o : Nat) (hF : EAt W S F b o) : EAt W' S' F b o :=
  ⟨fun hp => hS _ (hF.1 hp), ERow.agr h hS F b o (fun i hi => cell_blk (h b (hF.1 (by omega))) _) hF.2⟩
theorem EAt.head {W : World} {S : Nat → Prop} {c : Int} {op : ByteArray} {ks r : Fo} {b o : Nat} (h : EAt W S (.cons c op ks r) b o) :
    S b ∧ (∃ v, W.cell? ⟨b, o, none⟩ = some v ∧ EIs W S c op ks v) ∧ EAt W S r b (o + 1) := by
  obtain ⟨h0, ⟨v, h1, h2⟩, h7⟩ := h
  have hb := h0 (by simp [Fo.len])
  exact ⟨hb, ⟨v, h1, h2⟩, fun _ => hb, h7⟩

/-- Whether a row of shapes may be, each no deeper than d, of no more than l in all; how many are left. -/
def fitsF : Fo → Int → Int → Bool × Int
  | .nil, _, l => (true, l)
  | .cons c o ks r, d, l =>
    if d = 0 ∨ l = 0 then (false, l)
    else if c ≠ 0 then (if 0 < c ∧ o.size = 0 ∧ ks.len = 0 then fitsF r d (l - 1) else (false, l - 1))
    else if o.size = 0 ∨ ks.len = 0 then (false, l - 1)
    else if (fitsF ks (d - 1) (l - 1)).1 then fitsF r d (fitsF ks (d - 1) (l - 1)).2 else (false, (fitsF ks (d - 1) (l - 1)).2)

theorem fitsF_le : ∀ (F : Fo) (d l : Int), 0 ≤ l → 0 ≤ (fitsF F d l).2 ∧ (fitsF F d l).2 ≤ l
  | .nil, _, l, h => ⟨h, Int.le_refl _⟩
  | .cons c o ks r, d, l, h => by
    unfold fitsF
    split
    · exact ⟨h, Int.le_refl _⟩
    · split
      · split
        · have := fitsF_le r d (l - 1) (by omega); omega
        · simp; omega
      · split
        · simp; omega
        · have h1 := fitsF_le ks (d - 1) (l - 1) (by omega)
          have h2 := fitsF_le r d (fitsF ks (d - 1) (l - 1)).2 h1.1
          split
          · omega
          · simp; omega

/-- Each shape of a row is a code, or a group of one kid or more. -/
def okF : Fo → Prop
  | .nil => True
  | .cons c o ks r => ((0 < c ∧ o.size = 0 ∧ ks.len = 0) ∨ (c = 0 ∧ o.size ≠ 0 ∧ ks.len ≠ 0 ∧ okF ks)) ∧ okF r

theorem okF_of_fits : ∀ (F : Fo) (d l : Int), (fitsF F d l).1 = true → okF F
  | .nil, _, _, _ => trivial
  | .cons c o ks r, d, l, h => by
    unfold fitsF at h
    split at h
    · simp at h
    · split at h
      · split at h
        · exact ⟨.inl ‹_›, okF_of_fits r d (l - 1) h⟩
        · simp at h
      · split at h
        · simp at h
        · split at h
          · have hc : c = 0 := by omega
            refine ⟨.inr ⟨hc, by omega, by omega, okF_of_fits ks (d - 1) (l - 1) ‹_›⟩, okF_of_fits r d _ h⟩
          · simp at h
/-- As many as are taken away: a row that may be is no longer than what was left. -/
theorem fits_len : ∀ (F : Fo) (d l : Int), 0 ≤ l → (fitsF F d l).1 = true → (F.len : Int) + (fitsF F d l).2 ≤ l
  | .nil, _, l, _, _ => by simp [Fo.len, fitsF]
  | .cons c o ks r, d, l, h0, h => by
    unfold fitsF at h ⊢
    split at h
    · simp at h
    · rw [if_neg ‹_›]
      split at h
      · rw [if_pos ‹_›]
        split at h
        · rw [if_pos ‹_›]
          have := fits_len r d (l - 1) (by omega) h
          simp only [Fo.len]; omega
        · simp at h
      · rw [if_neg ‹_›]
        split at h
        · simp at h
        · rw [if_neg ‹_›]
          split at h
          · rw [if_pos ‹_›]
            have h1 := fitsF_le ks (d - 1) (l - 1) (by omega)
            have := fits_len r d _ h1.1 h
            simp only [Fo.len]; omega
          · simp at h

/-- No row below is long. -/
def shortF : Fo → Prop
  | .nil => True
  | .cons _ _ ks r => ks.len ≤ 1000 ∧ shortF ks ∧ shortF r
theorem shortF_of_fits : ∀ (F : Fo) (d l : Int), 0 ≤ l → l ≤ 50 → (fitsF F d l).1 = true → shortF F
  | .nil, _, _, _, _, _ => trivial
  | .cons c o ks r, d, l, h0, h1, h => by
    unfold fitsF at h
    split at h
    · simp at h
    · split at h
      · split at h
        · have hk : ks = .nil := by have h3 : ks.len = 0 := by omega
                                    cases ks with | nil => rfl | cons _ _ _ _ => simp [Fo.len] at h3
          subst hk
          exact ⟨by simp [Fo.len], trivial, shortF_of_fits r d (l - 1) (by omega) (by omega) h⟩
        · simp at h
      · split at h
        · simp at h
        · split at h
          · have h2 := fits_len ks (d - 1) (l - 1) (by omega) ‹_›
            have h3 := fitsF_le ks (d - 1) (l - 1) (by omega)
            exact ⟨by omega, shortF_of_fits ks (d - 1) (l - 1) (by omega) (by omega) ‹_›, shortF_of_fits r d _ h3.1 (by omega) h⟩
          · simp at h
end Go.Proofs.Ytbefcakakoaieaa
