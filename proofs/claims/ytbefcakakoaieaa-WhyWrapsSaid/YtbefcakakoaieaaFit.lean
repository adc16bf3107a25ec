/- fits and mayBe tell whether a shape may be. Conditions: the shape lies in memory. -/
import Derived.Test.YtbefcakakoaieaaFo
namespace Go.Proofs.Ytbefcakakoaieaa
open Go.RowKit

def FitPost (L : Nat) (W : World) (r : Bool × Int) (e : Ending) (w : World) : Prop :=
  e = .returned (.bool r.1) ∧ Below L W w ∧ w.cell? ⟨L, 0, none⟩ = some (.int .i64 r.2) ∧ w.frozen? ⟨L, 0, none⟩ = false

def FitC (c : Int) (o : ByteArray) (ks : Fo) : Prop :=
  ∀ (W : World) (L : Nat) (d l : Int) (p : Option Addr) (n cap : Nat), 0 ≤ d → d ≤ 20 → 0 ≤ l → l ≤ 50 → L < W.heap.size → KAt W (Lt L) ks p n cap →
    W.cell? ⟨L, 0, none⟩ = some (.int .i64 l) → W.frozen? ⟨L, 0, none⟩ = false →
    Calls Try.prog 35 #[.agg #[.int .i64 c, .string o, .slice p n cap], .int .i64 d, .pointer (some ⟨L, 0, none⟩)] W (FitPost L W (fitsF (.cons c o ks .nil) d l))

theorem cell_al {W : World} {L i : Nat} (o : Obj) (h : L < W.heap.size) : (W.alloc o).cell? ⟨L, i, none⟩ = W.cell? ⟨L, i, none⟩ := World.cell?_alloc_lt _ _ ⟨L, i, none⟩ h
theorem frz_al {W : World} {L i : Nat} (o : Obj) (h : L < W.heap.size) : (W.alloc o).frozen? ⟨L, i, none⟩ = W.frozen? ⟨L, i, none⟩ := World.frozen?_alloc_old _ _ ⟨L, i, none⟩ (Nat.ne_of_lt h)

theorem fit_no (c : Int) (o : ByteArray) (W : World) (L : Nat) (d l : Int) (p : Option Addr) (n cap : Nat) (hL : L < W.heap.size)
    (hc : W.cell? ⟨L, 0, none⟩ = some (.int .i64 l)) (hf : W.frozen? ⟨L, 0, none⟩ = false) (h : d = 0 ∨ l = 0) :
    Calls Try.prog 35 #[.agg #[.int .i64 c, .string o, .slice p n cap], .int .i64 d, .pointer (some ⟨L, 0, none⟩)] W (FitPost L W (false, l)) := by
  by_cases hd : d = 0
  · subst hd
    clear h
    go_enter Try.func35, Try.ntmps35
    go_wp2_with fail
    go_ret
    exact ⟨rfl, (Below.refl _ _).alloc (by omega) _, by rw [cell_al _ hL, hc], by rw [frz_al _ hL, hf]⟩
  · have hl : l = 0 := h.resolve_left hd
    clear h
    subst hl
    have g : (d == 0) = false := by rw [beq_eq_false_iff_ne]; omega
    go_enter Try.func35, Try.ntmps35
    go_wp2_with fail
    go_ret
    exact ⟨rfl, (Below.refl _ _).alloc (by omega) _, by rw [cell_al _ hL, hc], by rw [frz_al _ hL, hf]⟩

theorem ret_bool {a b : Bool} (h : a = b) : Ending.returned (.bool a) = .returned (.bool b) := by rw [h]
theorem fit_end {W : World} {L : Nat} {l l' : Int} {e : Ending} {b : Bool} (o : Obj) (hL : L < W.heap.size) (hc : W.cell? ⟨L, 0, none⟩ = some (.int .i64 l)) (hf : W.frozen? ⟨L, 0, none⟩ = false) (he : e = .returned (.bool b)) :
    FitPost L W (b, l') e ((W.setCell ⟨L, 0, none⟩ (.int .i64 l')).alloc o) := by
  have hs : L < (W.setCell ⟨L, 0, none⟩ (.int .i64 l')).heap.size := by simp [World.setCell]; exact hL
  refine ⟨he, ((Below.refl L W).setCell (p := ⟨L, 0, none⟩) (Nat.le_refl _) _).alloc (by omega) _, ?_, ?_⟩
  · rw [cell_al _ hs]; exact World.cell?_setCell_same _ _ _ hc
  · rw [frz_al _ hs]; simp [hf]

theorem str_empty {o : ByteArray} (h : o.size = 0) : o = ⟨#[]⟩ := by
  obtain ⟨⟨l⟩⟩ := o
  cases l with
  | nil => rfl
  | cons a l => simp [ByteArray.size] at h
theorem str_full {o : ByteArray} (h : o.size ≠ 0) : o.toList ≠ [] := by
  intro e
  apply h
  have e2 : o.data.toList = [] := by rw [ByteArray.toList_eq] at e; exact e
  rw [ByteArray.size, ← Array.length_toList, e2]; rfl

theorem fit_code (c : Int) (o : ByteArray) (W : World) (L : Nat) (d l : Int) (p : Option Addr) (n cap : Nat) (hL : L < W.heap.size)
    (hc : W.cell? ⟨L, 0, none⟩ = some (.int .i64 l)) (hf : W.frozen? ⟨L, 0, none⟩ = false) (hd : d ≠ 0) (hl : 0 < l) (hl2 : l ≤ 50) (h0 : c ≠ 0) :
    Calls Try.prog 35 #[.agg #[.int .i64 c, .string o, .slice p n cap], .int .i64 d, .pointer (some ⟨L, 0, none⟩)] W (FitPost L W (decide (0 < c ∧ o.size = 0 ∧ n = 0), l - 1)) := by
  have g : (d == 0) = false := by rw [beq_eq_false_iff_ne]; omega
  have g2 : (l == 0) = false := by rw [beq_eq_false_iff_ne]; omega
  have g3 : (c == 0) = false := by rw [beq_eq_false_iff_ne]; omega
  have g4 : (c != 0) = true := by rw [bne_iff_ne]; omega
  by_cases hp : 0 < c
  · by_cases ho : o.size = 0
    · obtain rfl := str_empty ho
      clear ho
      go_enter Try.func35, Try.ntmps35
      go_wp2_with fail
      go_ret
      exact fit_end _ hL hc hf (ret_bool (by rw [Bool.eq_iff_iff]; simp [hp]; intro _; rfl))
    · have h1 := str_full ho
      have h2 : o.toList.isEmpty = false := by cases h : o.toList with | nil => exact absurd h h1 | cons a l => rfl
      go_enter Try.func35, Try.ntmps35
      go_wp2_with fail
      go_ret
      exact fit_end _ hL hc hf (ret_bool (by rw [Bool.eq_iff_iff]; simp [ho]))
  · go_enter Try.func35, Try.ntmps35
    go_wp2_with fail
    go_ret
    exact fit_end _ hL hc hf (ret_bool (by rw [Bool.eq_iff_iff]; simp; omega))

theorem fit_bare (o : ByteArray) (W : World) (L : Nat) (d l : Int) (p : Option Addr) (n cap : Nat) (hL : L < W.heap.size)
    (hc : W.cell? ⟨L, 0, none⟩ = some (.int .i64 l)) (hf : W.frozen? ⟨L, 0, none⟩ = false) (hd : d ≠ 0) (hl : 0 < l) (hl2 : l ≤ 50) (h0 : o.size = 0 ∨ n = 0) :
    Calls Try.prog 35 #[.agg #[.int .i64 0, .string o, .slice p n cap], .int .i64 d, .pointer (some ⟨L, 0, none⟩)] W (FitPost L W (false, l - 1)) := by
  have g : (d == 0) = false := by rw [beq_eq_false_iff_ne]; omega
  have g2 : (l == 0) = false := by rw [beq_eq_false_iff_ne]; omega
  by_cases ho : o.size = 0
  · obtain rfl := str_empty ho
    clear ho h0
    go_enter Try.func35, Try.ntmps35
    go_wp2_with fail
    go_ret
    exact fit_end _ hL hc hf (ret_bool rfl)
  · have h1 := str_full ho
    have h2 : o.toList.isEmpty = false := by cases h : o.toList with | nil => exact absurd h h1 | cons a l => rfl
    obtain rfl : n = 0 := h0.resolve_left ho
    clear h0
    go_enter Try.func35, Try.ntmps35
    go_wp2_with fail
    go_ret
    exact fit_end _ hL hc hf (ret_bool rfl)

theorem fitsF_no {c : Int} {o : ByteArray} {ks r : Fo} {d l x : Int} (h : fitsF (.cons c o ks .nil) d l = (false, x)) : fitsF (.cons c o ks r) d l = (false, x) := by
  unfold fitsF at h ⊢
  split at h
  · rw [if_pos ‹_›, ← h]
  · rw [if_neg ‹_›]
    split at h
    · rw [if_pos ‹_›]
      split at h
      · simp [fitsF] at h
      · rw [if_neg ‹_›, ← h]
    · rw [if_neg ‹_›]
      split at h
      · rw [if_pos ‹_›, ← h]
      · rw [if_neg ‹_›]
        split at h
        · simp [fitsF] at h
        · rw [if_neg ‹_›, ← h]
theorem fitsF_yes {c : Int} {o : ByteArray} {ks r : Fo} {d l x : Int} (h : fitsF (.cons c o ks .nil) d l = (true, x)) : fitsF (.cons c o ks r) d l = fitsF r d x := by
  conv => lhs; unfold fitsF
  unfold fitsF at h
  split at h
  · simp at h
  · rw [if_neg ‹_›]
    split at h
    · rw [if_pos ‹_›]
      split at h
      · rw [if_pos ‹_›]; simp [fitsF] at h; rw [h]
      · simp at h
    · rw [if_neg ‹_›]
      split at h
      · simp at h
      · rw [if_neg ‹_›]
        split at h
        · rw [if_pos ‹_›]; simp [fitsF] at h; rw [h]
        · simp at h

theorem fit_group (o : ByteArray) (ks : Fo) (hks : Hid (ks.All FitC)) (W : World) (L : Nat) (d l : Int) (p : Option Addr) (n cap : Nat) (hL : L < W.heap.size)
    (hk : Hid (KAt W (Lt L) ks p n cap))
    (hc : W.cell? ⟨L, 0, none⟩ = some (.int .i64 l)) (hf : W.frozen? ⟨L, 0, none⟩ = false) (hd : 0 < d) (hd2 : d ≤ 20) (hl : 0 < l) (hl2 : l ≤ 50) (h0 : o.size ≠ 0) (hn : 0 < n) :
    Calls Try.prog 35 #[.agg #[.int .i64 0, .string o, .slice p n cap], .int .i64 d, .pointer (some ⟨L, 0, none⟩)] W (FitPost L W (fitsF ks (d - 1) (l - 1))) := by
  have g : (d == 0) = false := by rw [beq_eq_false_iff_ne]; omega
  have g2 : (l == 0) = false := by rw [beq_eq_false_iff_ne]; omega
  have h1 := str_full h0
  have h2 : o.toList.isEmpty = false := by cases h : o.toList with | nil => exact absurd h h1 | cons a l => rfl
  have hn' : ((n : Int) == 0) = false := by rw [beq_eq_false_iff_ne]; omega
  obtain ⟨b, off, rfl, hF⟩ : ∃ b off, p = some ⟨b, off, none⟩ ∧ Hid (n = ks.len ∧ n ≤ cap ∧ n < 4611686018427387904 ∧ FAt W (Lt L) ks b off) := by
    obtain ⟨e1, e2, e3, b, off, e4, e5⟩ := hk.out
    exact ⟨b, off, e4 hn, e1, e2, e3, e5⟩
  have hnb : n < 4611686018427387904 := hF.out.2.2.1
  have hncap : n ≤ cap := hF.out.2.1
  clear h0 h1
  go_enter Try.func35, Try.ntmps35
  go_wp2_with fail
  go_loopw [51] (fun i wr => ∃ (R : Fo) (k : Nat) (l' : Int), k + R.len = n ∧ i = .int .i64 k ∧ Below L W wr ∧ wr.cell? ⟨L, 0, none⟩ = some (.int .i64 l') ∧ wr.frozen? ⟨L, 0, none⟩ = false ∧ Hid (FAt wr (Lt L) R b (off + k * 3)) ∧ Hid (R.All FitC) ∧ Hid (fitsF ks (d - 1) (l - 1) = fitsF R (d - 1) l') ∧ 0 ≤ l' ∧ l' ≤ 50 ∧ L < wr.heap.size) (fun i _ => n - (intOf i).toNat)
  case atStart =>
    refine ⟨ks, 0, l - 1, ?_, rfl, ?_, ?_, ?_, ?_, hks, rfl, by omega, by omega, ?_⟩
    · have := hF.out.1; omega
    · exact ((Below.refl L W).setCell (p := ⟨L, 0, none⟩) (Nat.le_refl _) _).alloc (by simp [World.setCell]; omega) _
    · rw [cell_al _ (by simp [World.setCell]; exact hL)]; exact World.cell?_setCell_same _ _ _ hc
    · rw [frz_al _ (by simp [World.setCell]; exact hL)]; simp [hf]
    · have h5 : FAt W (Lt L) ks b (off + 0 * 3) := by have := hF.out.2.2.2; simpa using this
      exact FAt.below ((Below.refl L W).trans (((Below.refl L W).setCell (p := ⟨L, 0, none⟩) (Nat.le_refl _) (.int .i64 (l - 1))).alloc (by simp [World.setCell]; omega) (.cells #[.int .i64 0, .string o, .slice (some ⟨b, off, none⟩) n cap] 24))) (Nat.le_refl _) _ _ _ h5
    · simp [World.setCell]; omega
  case round =>
    obtain ⟨R, k, l', hk1, rfl, hb, hc1, hf1, hFA, hAll, hEq, hl1, hl3, hL1⟩ := hrel
    cases R with
    | nil =>
      simp only [Fo.len, Nat.add_zero] at hk1
      subst hk1
      go_wp2_with fail
      go_ret
      refine ⟨?_, hb, ?_, hf1⟩
      · exact ret_bool (by rw [hEq.out]; rfl)
      · rw [hEq.out]; exact hc1
    | cons c' o' ks' R' =>
      have hlt : k < n := by simp only [Fo.len] at hk1; omega
      obtain ⟨hbL, q1, q2, ⟨p', cap', q3, q4⟩, q5⟩ := FAt.head hFA.out
      have Q4 := Lib.hid q4
      have Q5 := Lib.hid q5
      have HK := Lib.hid hk1
      clear q4 q5 hk1
      have hA := (Below.refl L wr).alloc (by omega) (.cells #[.int .i64 c', .string o', .slice p' ks'.len cap'] 24)
      have hC := hAll.out.1 (wr.alloc (.cells #[.int .i64 c', .string o', .slice p' ks'.len cap'] 24)) L (d - 1) l' p' ks'.len cap' (by omega) (by omega) hl1 hl3 (by simp; omega) (Q4.out.below hA (Nat.le_refl _)) (by rw [cell_al _ hL1]; exact hc1) (by rw [frz_al _ hL1]; exact hf1)
      have hA2 := hAll.out.2
      have hle := fitsF_le (.cons c' o' ks' .nil) (d - 1) l' hl1
      generalize hr : fitsF (.cons c' o' ks' .nil) (d - 1) l' = r at *
      obtain ⟨rb, rl⟩ := r
      simp only at hle
      have HC := Lib.hid hC
      have HR := Lib.hid hr
      have HA := Lib.hid hA
      have HA2 := Lib.hid hA2
      clear hC hr hA hA2
      cases rb with
      | false =>
        go_wp2_with fail
        refine HC.out.mono ?_
        rintro e w' ⟨rfl, hb', hc', hf'⟩
        have hb2 := Lib.hid (hb.trans (HA.out.trans hb'))
        clear hb'
        go_wp2_with fail
        go_ret
        exact ⟨ret_bool (by rw [hEq.out, fitsF_no HR.out]), hb2.out, by rw [hEq.out, fitsF_no HR.out]; exact hc', hf'⟩
      | true =>
        go_wp2_with fail
        refine HC.out.mono ?_
        rintro e w' ⟨rfl, hb', hc', hf'⟩
        have hb2 := Lib.hid (hb.trans (HA.out.trans hb'))
        have hb3 := Lib.hid (HA.out.trans hb')
        have hs : L < w'.heap.size := by have := hb'.size; simp at this; omega
        clear hb'
        go_wp2_with fail
        go_roundw
        case rel =>
          refine ⟨R', k + 1, rl, ?_, by go_num, hb2.out, hc', hf', ?_, HA2.out, ?_, by omega, by omega, hs⟩
          · have := HK.out; simp only [Fo.len] at this; omega
          · have h5 : FAt wr (Lt L) R' b (off + (k + 1) * 3) := by have := Q5.out; rw [show off + (k + 1) * 3 = off + k * 3 + 3 by omega]; exact this
            exact FAt.below hb3.out (Nat.le_refl _) _ _ _ h5
          · show _ = _
            rw [hEq.out, fitsF_yes HR.out]
        case measure => simp [intOf]; omega

theorem fit_tree (c : Int) (o : ByteArray) (ks : Fo) (h : ks.All FitC) : FitC c o ks := by
  intro W L d l p n cap h1 h2 h3 h4 h5 h6 h7 h8
  have hn := h6.1
  by_cases g1 : d = 0 ∨ l = 0
  · have e : fitsF (.cons c o ks .nil) d l = (false, l) := by unfold fitsF; rw [if_pos g1]
    rw [e]; exact fit_no c o W L d l p n cap h5 h7 h8 g1
  · by_cases g2 : c = 0
    · subst g2
      by_cases g3 : o.size = 0 ∨ ks.len = 0
      · have e : fitsF (.cons 0 o ks .nil) d l = (false, l - 1) := by unfold fitsF; rw [if_neg g1, if_neg (by simp), if_pos g3]
        rw [e]; exact fit_bare o W L d l p n cap h5 h7 h8 (by omega) (by omega) h4 (by omega)
      · have e : fitsF (.cons 0 o ks .nil) d l = fitsF ks (d - 1) (l - 1) := by
          conv => lhs; unfold fitsF
          rw [if_neg g1, if_neg (by simp), if_neg g3]
          cases hx : fitsF ks (d - 1) (l - 1) with | mk a b => cases a <;> simp [fitsF]
        rw [e]; exact fit_group o ks h W L d l p n cap h5 h6 h7 h8 (by omega) h2 (by omega) h4 (by omega) (by omega)
    · have e : fitsF (.cons c o ks .nil) d l = (decide (0 < c ∧ o.size = 0 ∧ n = 0), l - 1) := by
        unfold fitsF; rw [if_neg g1, if_pos g2, ← hn]
        by_cases g4 : 0 < c ∧ o.size = 0 ∧ n = 0
        · rw [if_pos g4]; simp [fitsF, g4]
        · rw [if_neg g4, decide_eq_false g4]
      rw [e]; exact fit_code c o W L d l p n cap h5 h7 h8 (by omega) (by omega) h4 g2
theorem fit_all : ∀ F : Fo, F.All FitC
  | .nil => trivial
  | .cons c o ks r => ⟨fit_tree c o ks (fit_all ks), fit_all r⟩

/-- May one of that shape be. -/
def mayB (c : Int) (o : ByteArray) (ks : Fo) : Bool := (fitsF (.cons c o ks .nil) 20 50).1

theorem may_any (c : Int) (o : ByteArray) (ks : Fo) (W : World) (p : Option Addr) (n cap : Nat) (hk : KAt W (Lt W.heap.size) ks p n cap) :
    Calls Try.prog 29 #[.agg #[.int .i64 c, .string o, .slice p n cap]] W fun e w => e = .returned (.bool (mayB c o ks)) ∧ Below W.heap.size W w := by
  have H := Lib.hid (fit_tree c o ks (fit_all ks))
  have HK := Lib.hid hk
  clear hk
  go_enter Try.func29, Try.ntmps29
  go_wp2_with fail
  have HB : Hid (Below W.heap.size W ((W.alloc (.cells #[.int .i64 c, .string o, .slice p n cap] 24)).alloc (.cells #[.int .i64 50] 3))) := ((Below.refl _ _).alloc (Nat.le_refl _) _).alloc (by simp) _
  refine (H.out _ (W.heap.size + 1) 20 50 p n cap (by omega) (by omega) (by omega) (by omega) (by simp) ((HK.out.below (B := W.heap.size) HB.out (Nat.le_refl _)).mono (Nat.le_succ _)) (by simp) (by simp)).mono ?_
  rintro e w' ⟨rfl, hb', hc', hf'⟩
  have HB' := Lib.hid hb'
  clear hc' hf' hb'
  go_wp2_with fail
  go_ret
  exact ⟨rfl, HB.out.trans (HB'.out.mono (Nat.le_succ _))⟩
#print axioms may_any
end Go.Proofs.Ytbefcakakoaieaa
