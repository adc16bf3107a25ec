/- What each call of package expire makes of timers. Conditions: each theorem's own premises. -/
import Derived.Test.YtmadcnpkaijllaaTim
namespace Go.Proofs.Ytmadcnpkaijllaa
open Go.RowKit
set_option linter.unusedVariables false
set_option maxRecDepth 100000

/-- The world with a new heap. -/
def nwH (w : World) : World := (w.alloc (.map #[] 0)).alloc (.cells #[.slice none 0 0, .map (some w.heap.size), .int .i64 0] 120)
theorem nwH_size (w : World) : (nwH w).heap.size = w.heap.size + 2 := by simp [nwH]
theorem new_ex (w : World) : Calls Try.prog 77 #[] w fun e w' => e = .returned (.pointer (some ⟨w.heap.size + 1, 0, none⟩)) ∧ nwH w = w' := by
  have hmm := @run_makeMap Try.prog
  go_enter Try.func77, Try.ntmps77
  go_wp2
  go_ret
  exact ⟨rfl, rfl⟩
theorem fits_yes (x : Int) (w : World) (h0 : 0 ≤ x) (h1 : x ≤ 4611686018427387904) : Calls Try.prog 70 #[.int .i64 x] w fun e w' => e = .returned (.bool true) ∧ w = w' := by
  go_enter Try.func70, Try.ntmps70
  go_wp2
  go_ret
  exact ⟨rfl, rfl⟩
theorem fits_no (x : Int) (w : World) (h : x < 0 ∨ 4611686018427387904 < x) : Calls Try.prog 70 #[.int .i64 x] w fun e w' => e = .returned (.bool false) ∧ w = w' := by
  by_cases h0 : x < 0
  · clear h
    go_enter Try.func70, Try.ntmps70
    go_wp2
    go_ret
    exact ⟨rfl, rfl⟩
  · have h1 : ¬ x ≤ 4611686018427387904 := by omega
    have h2 : 0 ≤ x := by omega
    clear h h0
    go_enter Try.func70, Try.ntmps70
    go_wp2
    go_ret
    exact ⟨rfl, rfl⟩
theorem arm_nil (k x y : Int) (w : World) : Calls Try.prog 62 #[.pointer none, .int .i64 k, .int .i64 x, .int .i64 y] w fun e w' => e = .returned (.int .i64 1) ∧ w = w' := by
  go_enter Try.func62, Try.ntmps62
  go_wp2_with fail
  go_ret
  exact ⟨rfl, rfl⟩
theorem stop_nil (k : Int) (w : World) : Calls Try.prog 59 #[.pointer none, .int .i64 k] w fun e w' => e = .returned (.bool false) ∧ w = w' := by
  go_enter Try.func59, Try.ntmps59
  go_wp2_with fail
  go_ret
  exact ⟨rfl, rfl⟩
/-- A time, or a period, that may be. -/
def Fit (x : Int) : Prop := 0 ≤ x ∧ x ≤ 4611686018427387904
instance (x : Int) : Decidable (Fit x) := inferInstanceAs (Decidable (0 ≤ x ∧ x ≤ 4611686018427387904))
theorem not_fit {x : Int} (h : ¬ Fit x) : x < 0 ∨ 4611686018427387904 < x := by unfold Fit at h; omega
theorem wf_fit {x : Int} (h : Fit x) : Wf x := wf_of (by unfold Fit at h; omega) (by unfold Fit at h; omega)
section
variable {B t o b c n n' N N' : Nat} {vA vL : Value} {p p' : Option Nat} {S S' : List It} {g g' : Int → Int} {w w' : World} {e : Ending} {v : Value}
theorem arm_bad (k x y : Int) (a : Option Addr) (ha : a ≠ none) (w : World) (h : ¬ (Fit x ∧ Fit y)) : Calls Try.prog 62 #[.pointer a, .int .i64 k, .int .i64 x, .int .i64 y] w fun e w' => e = .returned (.int .i64 1) ∧ w = w' := by
  obtain ⟨a, rfl⟩ := Option.ne_none_iff_exists'.1 ha
  clear ha
  by_cases hx : Fit x
  · have hy : ¬ Fit y := fun e => h ⟨hx, e⟩
    have F1 := fun w => fits_yes x w hx.1 hx.2
    have F2 := fun w => fits_no y w (not_fit hy)
    clear h
    go_enter Try.func62, Try.ntmps62
    go_wp2_with (go_at_call 70; first | ((with_reducible refine (F1 _).mono ?_); rintro e w' ⟨rfl, rfl⟩) | ((with_reducible refine (F2 _).mono ?_); rintro e w' ⟨rfl, rfl⟩))
    go_ret
    exact ⟨rfl, rfl⟩
  · have F1 := fun w => fits_no x w (not_fit hx)
    clear h
    go_enter Try.func62, Try.ntmps62
    go_wp2_with (go_at_call 70; (with_reducible refine (F1 _).mono ?_); rintro e w' ⟨rfl, rfl⟩)
    go_ret
    exact ⟨rfl, rfl⟩
theorem TT.more (h : TT B t vA vL o b c p n N S g w) : TT B t vA vL o b c p n (N + 1) S g w := ⟨h.hg, h.ht, h.pm.up (by omega), h.ok, h.gt, h.gc, h.ne⟩
theorem fput_two (g : Int → Int) (k x y : Int) : fput (fput g k x) k y = fput g k y := by
  funext z; unfold fput; split <;> rfl
set_option maxHeartbeats 4000000 in
theorem arm_any (k x y : Int) (h : TT B t vA vL o b c p n N S g w) (hk : Wf k) (hx : Fit x) (hy : Fit y) (hn : n ≤ 1000000) (hN : N ≤ 1000000) (hl : S.length < 1000) :
    Calls Try.prog 62 #[.pointer (some ⟨t, 1, none⟩), .int .i64 k, .int .i64 x, .int .i64 y] w (XC B t vA vL o b c p (n + 1) (N + 1) (ins ⟨k, x, (n : Int) + 1⟩ (del k S)) (fput g k y) (.int .i64 0) w) := by
  have F1 := fun w => fits_yes x w hx.1 hx.2
  have F2 := fun w => fits_yes y w hy.1 hy.2
  have HA := Lib.hid h
  have HX := Lib.hid (And.intro hx hy)
  have hwy := wf_fit hy
  have c0 := h.c0
  have c1 := h.c1
  have hml : N < maxLen := by unfold maxLen; omega
  have hy0 := hy.1
  clear h hx hy
  by_cases hm : k ∈ ids S
  · go_enter Try.func62, Try.ntmps62
    go_wp2_with (go_at_call 70; first | ((with_reducible refine (F1 _).mono ?_); rintro e w' ⟨rfl, rfl⟩) | ((with_reducible refine (F2 _).mono ?_); rintro e w' ⟨rfl, rfl⟩))
    refine (move_yes k x HA.out.hg HA.out.ok hk hm hn (by omega)).mono ?_
    rintro e w1 hr
    have hr := HA.out.go ((HA.out.ok.del k).ins k x del_ids) hr
    have HT := Lib.hid hr.2
    obtain rfl := hr.1
    clear hr HA c0 c1
    obtain ⟨p1, h1, h2⟩ := HT.out
    have c1 := h1.c1
    have H1 := Lib.hid h1
    have H2 := Lib.hid h2
    clear h1 h2 HT
    by_cases hp : 0 < y
    · go_wp2_with (first
        | (at_delete; go_loud (refine wp_pdrop rfl (.tmp 49) (.tmp 50) rfl H1.out.pm hk rfl rfl ?_; intro w2 ht pm; have H3 := Lib.hid (H1.out.mapped ht pm); have c12 := H3.out.1.c1; clear ht pm))
        | (at_mapUpdate; go_loud (refine wp_pstore rfl (.tmp 56) (.tmp 57) (.tmp 58) rfl H3.out.1.pm hk hwy hml rfl rfl rfl ?_; intro w3 ht pm; have H4 := Lib.hid (H3.out.1.mapped ht pm); clear ht pm)))
      go_ret
      refine ⟨rfl, p1, ?_, H2.out.trans (H3.out.2.trans H4.out.2)⟩
      have := H4.out.1
      rwa [fput_two] at this
    · obtain rfl : y = 0 := by omega
      go_wp2_with (first
        | (at_delete; go_loud (refine wp_pdrop rfl (.tmp 49) (.tmp 50) rfl H1.out.pm hk rfl rfl ?_; intro w2 ht pm; have H3 := Lib.hid (H1.out.mapped ht pm); have c12 := H3.out.1.c1; clear ht pm)))
      go_ret
      exact ⟨rfl, p1, H3.out.1.more, H2.out.trans H3.out.2⟩
  · have hdn : del k S = S := del_none hm
    rw [hdn]
    go_enter Try.func62, Try.ntmps62
    go_wp2_with (go_at_call 70; first | ((with_reducible refine (F1 _).mono ?_); rintro e w' ⟨rfl, rfl⟩) | ((with_reducible refine (F2 _).mono ?_); rintro e w' ⟨rfl, rfl⟩))
    refine (move_no k x HA.out.hg hk hm).mono ?_
    rintro e w1 ⟨rfl, rfl⟩
    go_wp2_with fail
    refine (add_new k x HA.out.hg HA.out.ok hk hm hn hl HA.out.hB).mono ?_
    rintro e w1 hr
    have hr := HA.out.go (HA.out.ok.ins k x hm) hr
    have HT := Lib.hid hr.2
    obtain rfl := hr.1
    clear hr HA c0 c1
    obtain ⟨p1, h1, h2⟩ := HT.out
    have c1 := h1.c1
    have H1 := Lib.hid h1
    have H2 := Lib.hid h2
    clear h1 h2 HT
    by_cases hp : 0 < y
    · go_wp2_with (first
        | (at_delete; go_loud (refine wp_pdrop rfl (.tmp 49) (.tmp 50) rfl H1.out.pm hk rfl rfl ?_; intro w2 ht pm; have H3 := Lib.hid (H1.out.mapped ht pm); have c12 := H3.out.1.c1; clear ht pm))
        | (at_mapUpdate; go_loud (refine wp_pstore rfl (.tmp 56) (.tmp 57) (.tmp 58) rfl H3.out.1.pm hk hwy hml rfl rfl rfl ?_; intro w3 ht pm; have H4 := Lib.hid (H3.out.1.mapped ht pm); clear ht pm)))
      go_ret
      refine ⟨rfl, p1, ?_, H2.out.trans (H3.out.2.trans H4.out.2)⟩
      have := H4.out.1
      rwa [fput_two] at this
    · obtain rfl : y = 0 := by omega
      go_wp2_with (first
        | (at_delete; go_loud (refine wp_pdrop rfl (.tmp 49) (.tmp 50) rfl H1.out.pm hk rfl rfl ?_; intro w2 ht pm; have H3 := Lib.hid (H1.out.mapped ht pm); have c12 := H3.out.1.c1; clear ht pm)))
      go_ret
      exact ⟨rfl, p1, H3.out.1.more, H2.out.trans H3.out.2⟩
end
end Go.Proofs.Ytmadcnpkaijllaa
