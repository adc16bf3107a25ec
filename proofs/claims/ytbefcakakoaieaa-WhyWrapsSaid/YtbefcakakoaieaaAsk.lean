/- Is, Timeout, Deepest and Text, of an error by its shape. Condition of Text: what strconv.Itoa says of each code is told. -/
import Derived.Test.YtbefcakakoaieaaWhy
import Derived.Deep.LoopGhost
namespace Go.Proofs.Ytbefcakakoaieaa
open Go.RowKit Go.Extern.Stop Go.Stop Go.Extern
set_option linter.unusedVariables false

def hasO (x : Int) : Option Er → Bool
  | none => false
  | some e => hasF x e.fo

theorem has_o (x : Int) (m : Option Er) (v : Value) (W : World) (h : EO W v m) : Calls Try.prog 25 #[v, .int .i64 x] W (BoolPost (hasO x m) W) := by
  cases m with
  | none =>
    obtain rfl : v = .nilIface := h
    exact has_of x _ W _ (gois_nil x W)
  | some e => exact has_of x v W _ (gois_made x e.c e.o e.ks (okF_of_fits _ _ _ h.2) (shortF_of_fits _ _ _ (by omega) (by omega) h.2) W v h.1)

theorem is_o (x : Int) (m : Option Er) (v : Value) (W : World) (h : EO W v m) : Calls Try.prog 12 #[v, .int .i64 x] W (BoolPost (hasO x m) W) := by
  have HC := Lib.hid (has_o x m v W h)
  clear h
  go_enter Try.func12, Try.ntmps12
  go_wp2_with fail
  refine HC.out.mono ?_
  rintro e w ⟨rfl, hb⟩
  have HB := Lib.hid hb
  clear hb
  go_wp2_with fail
  go_ret
  exact ⟨rfl, HB.out⟩
theorem timeout_o (m : Option Er) (v : Value) (W : World) (h : EO W v m) : Calls Try.prog 14 #[v] W (BoolPost (hasO 2 m) W) := by
  have HC := Lib.hid (is_o 2 m v W h)
  clear h
  go_enter Try.func14, Try.ntmps14
  go_wp2_with fail
  refine HC.out.mono ?_
  rintro e w ⟨rfl, hb⟩
  have HB := Lib.hid hb
  clear hb
  go_wp2_with fail
  go_ret
  exact ⟨rfl, HB.out⟩

/-- The greatest number up to n of which p is true; 0 of none. -/
def deepN (p : Int → Bool) : Nat → Nat
  | 0 => 0
  | n + 1 => if p (n + 1 : Nat) then n + 1 else deepN p n
theorem deepN_le (p : Int → Bool) : ∀ n, deepN p n ≤ n
  | 0 => Nat.le_refl _
  | n + 1 => by
    unfold deepN
    split
    · exact Nat.le_refl _
    · exact Nat.le_succ_of_le (deepN_le p n)
def deepO (m : Option Er) : Int := (deepN (fun x => hasO x m) 1000 : Nat)
def IntPost (n : Int) (W : World) (e : Ending) (w : World) : Prop := e = .returned (.int .i64 n) ∧ Below W.heap.size W w
theorem ret_int {a b : Int} (h : a = b) : Ending.returned (.int .i64 a) = .returned (.int .i64 b) := by rw [h]

theorem deepest_o (m : Option Er) (v : Value) (W : World) (h : EO W v m) : Calls Try.prog 17 #[v] W (IntPost (deepO m) W) := by
  have HE := Lib.hid h
  clear h
  go_enter Try.func17, Try.ntmps17
  go_wp2_with fail
  go_loopw [3] (fun i wr => ∃ k : Nat, k ≤ 1000 ∧ i = .int .i64 k ∧ Hid (Below W.heap.size W wr) ∧ Hid (deepN (fun x => hasO x m) 1000 = deepN (fun x => hasO x m) k)) (fun i _ => (intOf i).toNat)
  case atStart => exact ⟨1000, by omega, rfl, Below.refl _ _, rfl⟩
  case round =>
    obtain ⟨k, hk, rfl, hB, hD⟩ := hrel
    by_cases h0 : 0 < k
    · have h0' : 0 < (k : Int) := by omega
      have HC := Lib.hid (is_o k m v wr (HE.out.later hB.out))
      obtain ⟨j, rfl⟩ : ∃ j, k = j + 1 := ⟨k - 1, by omega⟩
      have hdd : deepN (fun x => hasO x m) (j + 1) = if hasO ((j + 1 : Nat) : Int) m then j + 1 else deepN (fun x => hasO x m) j := rfl
      have HD := Lib.hid hdd
      clear hdd
      cases hh : hasO ((j + 1 : Nat) : Int) m with
      | true =>
        rw [hh] at HC
        have HH := Lib.hid hh
        clear hh
        go_wp2_with fail
        refine HC.out.mono ?_
        rintro e w ⟨rfl, hb⟩
        have HB := Lib.hid hb
        clear hb
        go_wp2_with fail
        go_ret
        exact ⟨ret_int (by unfold deepO; rw [hD.out, HD.out, HH.out, if_pos rfl]; omega), hB.out.trans (HB.out.mono hB.out.size)⟩
      | false =>
        rw [hh] at HC
        have HH := Lib.hid hh
        clear hh
        go_wp2_with fail
        refine HC.out.mono ?_
        rintro e w ⟨rfl, hb⟩
        have HB := Lib.hid hb
        clear hb
        go_wp2_with fail
        go_roundw
        case rel =>
          refine ⟨j, by omega, by go_num, hB.out.trans (HB.out.mono hB.out.size), ?_⟩
          show _ = _
          rw [hD.out, HD.out, HH.out, if_neg (by simp)]
        case measure => simp [intOf]
    · obtain rfl : k = 0 := by omega
      go_wp2_with fail
      go_ret
      exact ⟨ret_int (by unfold deepO; rw [hD.out]; rfl), hB.out⟩

/-- What Text says, by the shape; s: what is said of a code. -/
def textO (s : Int → List UInt8) : Option Er → List UInt8
  | none => []
  | some x => sayT s x.c x.o x.ks

theorem idle26 (w : World) : CallsD Try.prog 26 #[] .returning w fun e u' w' => e = .returned (.tuple #[]) ∧ u' = .returning ∧ w' = w := by
  refine callsD_of_wpS Try.func26 rfl fun c₀ cs hu => ?_
  apply wpS_region
  simp [wpOpsS, go_sem, recoverD, hu, Try.ntmps26]
  cases c₀
  simp_all [bodyPostS, results, Try.results26]

set_option maxRecDepth 100000 in
theorem text_nil (W : World) : Calls Try.prog 13 #[.nilIface] W (StrPost [] W) := by
  go_enter_defers Try.func13, Try.ntmps13
  go_wp2_with fail
  refine leaves_cons (f := 26) (args := #[]) (by simp) (by simp [go_sem]) ?_
  refine (idle26 _).mono ?_
  rintro e u' w'' ⟨rfl, rfl, rfl⟩
  simp [Leaves, settle, results, Try.results13, go_sem]
  exact ⟨rfl, Below.refl _ _⟩
set_option maxRecDepth 100000 in
theorem text_code (l : List UInt8) (n : Int) (W : World) (h : Calls Try.prog 53 #[.agg #[.int .i64 n]] W (StrPost l W)) : Calls Try.prog 13 #[.iface 51 (.agg #[.int .i64 n])] W (StrPost l W) := by
  have HC := Lib.hid h
  clear h
  have m40 := Try.mErr40
  go_enter_defers Try.func13, Try.ntmps13
  go_wp2_with fail
  refine HC.out.mono ?_
  rintro e w ⟨rfl, hb⟩
  have HB := Lib.hid hb
  clear hb
  go_wp2_with fail
  refine leaves_cons (f := 26) (args := #[]) (by simp) (by simp [go_sem]) ?_
  refine (idle26 _).mono ?_
  rintro e u' w'' ⟨rfl, rfl, rfl⟩
  simp [Leaves, settle, results, Try.results13, go_sem]
  exact ⟨rfl, HB.out⟩
set_option maxRecDepth 100000 in
theorem text_group (l : List UInt8) (g : Nat) (W : World) (h : Calls Try.prog 68 #[.pointer (some ⟨g, 0, none⟩)] W (StrPost l W)) : Calls Try.prog 13 #[.iface 63 (.pointer (some ⟨g, 0, none⟩))] W (StrPost l W) := by
  have HC := Lib.hid h
  clear h
  have m63 := Try.mErr63
  go_enter_defers Try.func13, Try.ntmps13
  go_wp2_with fail
  refine HC.out.mono ?_
  rintro e w ⟨rfl, hb⟩
  have HB := Lib.hid hb
  clear hb
  go_wp2_with fail
  refine leaves_cons (f := 26) (args := #[]) (by simp) (by simp [go_sem]) ?_
  refine (idle26 _).mono ?_
  rintro e u' w'' ⟨rfl, rfl, rfl⟩
  simp [Leaves, settle, results, Try.results13, go_sem]
  exact ⟨rfl, HB.out⟩

variable {s : Int → List UInt8}
/-- Texts are short, and codes can be told. -/
def TO (s : Int → List UInt8) (W : World) : Option Er → Prop
  | none => True
  | some x => shortT s x.fo ∧ ItF s W x.fo
theorem TO.later {W W' : World} {m : Option Er} (h : TO s W m) (hb : Below W.heap.size W W') : TO s W' m := by
  cases m with
  | none => trivial
  | some x => exact ⟨h.1, ItF.below hb h.2⟩
theorem text_o (m : Option Er) (v : Value) (W : World) (h : EO W v m) (ht : TO s W m) : Calls Try.prog 13 #[v] W (StrPost (textO s m) W) := by
  cases m with
  | none =>
    obtain rfl : v = .nilIface := h
    exact text_nil W
  | some x =>
    rcases txt_any x.c x.o x.ks (okF_of_fits _ _ _ h.2) (shortF_of_fits _ _ _ (by omega) (by omega) h.2) ht.1 W v h.1 ht.2 with ⟨n, rfl, hC⟩ | ⟨g, rfl, hC⟩
    · exact text_code _ n W hC
    · exact text_group _ g W hC
#print axioms text_o
#print axioms deepest_o
end Go.Proofs.Ytbefcakakoaieaa
