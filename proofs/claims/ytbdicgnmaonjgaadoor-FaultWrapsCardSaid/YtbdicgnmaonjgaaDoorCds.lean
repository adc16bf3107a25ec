/- A row of codes as shapes, as cells and as text. Conditions: each is above 0, where its text or its limits are told. -/
import Derived.Test.YtbdicgnmaonjgaaDoorDeepW
namespace Go.Proofs.YtbdicgnmaonjgaaDoor
open Go.RowKit
set_option linter.unusedVariables false

def cF : List Int → Fo
  | [] => .nil
  | z :: r => .cons z ⟨#[]⟩ .nil (cF r)
def cL : List Int → List Value
  | [] => []
  | z :: r => .int .i64 z :: .string ⟨#[]⟩ :: .slice none 0 0 :: cL r
theorem cF_len : ∀ zs, (cF zs).len = zs.length
  | [] => rfl
  | z :: r => by simp [cF, Fo.len, cF_len r]
theorem cL_len : ∀ zs, (cL zs).length = zs.length * 3
  | [] => rfl
  | z :: r => by simp [cL, cL_len r]; omega
theorem cL_app : ∀ xs ys, cL (xs ++ ys) = cL xs ++ cL ys
  | [], ys => rfl
  | z :: r, ys => by simp [cL, cL_app r ys]
theorem crow {w : World} {S : Nat → Prop} {b : Nat} : ∀ (zs : List Int) (o : Nat), (∀ i u, (cL zs)[i]? = some u → w.cell? ⟨b, o + i, none⟩ = some u) → FRow w S (cF zs) b o
  | [], _, _ => trivial
  | z :: r, o, h => by
    refine ⟨h 0 _ rfl, h 1 _ rfl, ⟨none, 0, h 2 _ rfl, Nat.le_refl _, by simp [Fo.len], 0, 0, fun h => absurd h (by simp [Fo.len]), trivial⟩, crow r (o + 3) fun i u hu => ?_⟩
    have := h (i + 3) u (by simpa [cL] using hu)
    rw [show o + 3 + i = o + (i + 3) by omega]; exact this

theorem fits_c (d : Int) (hd : 0 < d) : ∀ (zs : List Int) (l : Int), 0 ≤ l → (∀ z ∈ zs, 0 < z) → (zs.length : Int) ≤ l → fitsF (cF zs) d l = (true, l - zs.length)
  | [], l, hl, _, _ => by simp [cF, fitsF]
  | z :: r, l, hl, hz, h => by
    simp only [cF, List.length_cons] at h ⊢
    rw [fitsF_cons, if_neg (by omega), if_pos (by have := hz z (by simp); omega), if_pos ⟨hz z (by simp), rfl, rfl⟩, fits_c d hd r (l - 1) (by omega) (fun y hy => hz y (by simp [hy])) (by omega)]
    simp; omega
theorem may_c (o : ByteArray) (zs : List Int) (ho : o.size ≠ 0) (hn : zs ≠ []) (hz : ∀ z ∈ zs, 0 < z) (hl : zs.length ≤ 49) : mayB 0 o (cF zs) = true := by
  unfold mayB
  rw [fitsF_cons, if_neg (by omega), if_neg (by simp), if_neg (by rw [cF_len]; exact fun h => h.elim ho (fun h => hn (List.length_eq_zero_iff.1 h))), fits_c (20 - 1) (by omega) zs (50 - 1) (by omega) hz (by omega)]
  simp [fitsF]
theorem say_c : ∀ zs : List Int, (∀ z ∈ zs, 0 < z) → sayL (cF zs) = zs.map codeT
  | [], _ => rfl
  | z :: r, h => by
    simp only [cF, sayL, List.map_cons]
    rw [if_pos (h z (by simp)), say_c r (fun y hy => h y (by simp [hy]))]
theorem has_c (x : Int) (hx : 0 < x) : ∀ zs : List Int, x ∈ zs → hasF x (cF zs) = true
  | z :: r, h => by
    simp only [cF, hasF]
    rcases List.mem_cons.1 h with rfl | h
    · simp [hx]
    · simp [has_c x hx r h]

/-- The text of a group of codes. -/
def gT (o : ByteArray) (zs : List Int) : List UInt8 := o.data.toList ++ [58, 32] ++ Lib.join (zs.map codeT) [59, 32]
theorem join_snoc (sep y : List UInt8) : ∀ xs : List (List UInt8), xs ≠ [] → Lib.join (xs ++ [y]) sep = Lib.join xs sep ++ sep ++ y
  | [x], _ => by simp [Lib.join, List.intercalate, List.intersperse]
  | x :: x2 :: r, _ => by
    have ih := join_snoc sep y (x2 :: r) (by simp)
    simp only [Lib.join, List.intercalate] at ih ⊢
    simp only [List.cons_append, List.intersperse, List.flatten_cons] at ih ⊢
    rw [ih]; simp [List.append_assoc]
theorem gT_nil (o : ByteArray) : gT o [] = o.data.toList ++ [58, 32] := by simp [gT, Lib.join]
theorem gT_one (o : ByteArray) (z : Int) : gT o [z] = gT o [] ++ codeT z := by simp [gT, Lib.join, List.intercalate]
theorem gT_snoc (o : ByteArray) (zs : List Int) (z : Int) (h : zs ≠ []) : gT o (zs ++ [z]) = gT o zs ++ [59, 32] ++ codeT z := by
  unfold gT
  rw [List.map_append, List.map_cons, List.map_nil, join_snoc [59, 32] (codeT z) _ (by simpa using h)]
  simp [List.append_assoc]
theorem join_le (m : Nat) : ∀ xs : List (List UInt8), (∀ x ∈ xs, x.length ≤ m) → (Lib.join xs [59, 32]).length ≤ xs.length * (m + 2)
  | [], _ => by simp [Lib.join, List.intercalate]
  | [x], h => by have := h x (by simp); simp [Lib.join, List.intercalate, List.intersperse]; omega
  | x :: x2 :: r, h => by
    have ih := join_le m (x2 :: r) (fun y hy => h y (by simp [List.mem_cons.1 hy]))
    have hx := h x (by simp)
    simp only [Lib.join, List.intercalate, List.intersperse, List.flatten_cons, List.length_append, List.length_cons] at ih ⊢
    rw [Nat.succ_mul]
    simp only [List.length_nil] at *
    omega
theorem itoa_len21 (z : Int) (h0 : -9223372036854775808 ≤ z) (h1 : z ≤ 9223372036854775807) : (codeT z).length ≤ 26 := by
  have := Lib.itoa_length_le z h0 h1
  simp [codeT]; omega
theorem short_cF : ∀ zs : List Int, shortT (cF zs)
  | [] => trivial
  | z :: r => ⟨by decide, by decide +kernel, trivial, short_cF r⟩
theorem short_c (o : ByteArray) (zs : List Int) (ho : o.size ≤ 1000000) (hl : zs.length ≤ 49) (hz : ∀ z ∈ zs, 0 < z) (hr : ∀ z ∈ zs, -9223372036854775808 ≤ z ∧ z ≤ 9223372036854775807) : shortT (.cons 0 o (cF zs) .nil) := by
  refine ⟨ho, ?_, short_cF zs, trivial⟩
  rw [say_c zs hz]
  have h := join_le 26 (zs.map codeT) (fun x hx => by obtain ⟨z, hz, rfl⟩ := List.mem_map.1 hx; exact itoa_len21 z (hr z hz).1 (hr z hz).2)
  rw [List.length_map] at h
  omega
theorem itF_c {W : World} : ∀ zs : List Int, (∀ z ∈ zs, ItOk W z) → ItF W (cF zs)
  | [], _ => trivial
  | z :: r, h => ⟨fun _ => h z (by simp), trivial, itF_c r (fun y hy => h y (by simp [hy]))⟩
end Go.Proofs.YtbdicgnmaonjgaaDoor
