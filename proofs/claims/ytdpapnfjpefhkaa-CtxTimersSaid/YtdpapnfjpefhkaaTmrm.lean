/- What each call of package expire makes of timers. Conditions: each theorem's own premises.
What Stop, Armed, Next and Len of package expire answer. Conditions: each theorem's own premises.
A region that draws its order and ends in one store that waits for all else: loads may be taken first though the store hits what they read. Conditions: each theorem's own premises. -/
import Derived.Test.YtdpapnfjpefhkaaRemm
namespace Go.Proofs.Ytdpapnfjpefhkaa
open Go.RowKit
set_option linter.unusedVariables false
set_option maxRecDepth 100000

/-- The world with a new heap. -/
def nwH (w : World) : World := (w.alloc (.map #[] 0)).alloc (.cells #[.slice none 0 0, .map (some w.heap.size), .int .i64 0] 179)
theorem nwH_size (w : World) : (nwH w).heap.size = w.heap.size + 2 := by simp [nwH]
theorem new_ex (w : World) : Calls Try.prog 103 #[] w fun e w' => e = .returned (.pointer (some ⟨w.heap.size + 1, 0, none⟩)) ∧ nwH w = w' := by
  have hmm := @run_makeMap Try.prog
  go_enter Try.func103, Try.ntmps103
  go_wp2
  go_ret
  exact ⟨rfl, rfl⟩
theorem fits_yes (x : Int) (w : World) (h0 : 0 ≤ x) (h1 : x ≤ 4611686018427387904) : Calls Try.prog 93 #[.int .i64 x] w fun e w' => e = .returned (.bool true) ∧ w = w' := by
  go_enter Try.func93, Try.ntmps93
  go_wp2
  go_ret
  exact ⟨rfl, rfl⟩
theorem fits_no (x : Int) (w : World) (h : x < 0 ∨ 4611686018427387904 < x) : Calls Try.prog 93 #[.int .i64 x] w fun e w' => e = .returned (.bool false) ∧ w = w' := by
  by_cases h0 : x < 0
  · clear h
    go_enter Try.func93, Try.ntmps93
    go_wp2
    go_ret
    exact ⟨rfl, rfl⟩
  · have h1 : ¬ x ≤ 4611686018427387904 := by omega
    have h2 : 0 ≤ x := by omega
    clear h h0
    go_enter Try.func93, Try.ntmps93
    go_wp2
    go_ret
    exact ⟨rfl, rfl⟩
theorem arm_nil (k x y : Int) (w : World) : Calls Try.prog 83 #[.pointer none, .int .i64 k, .int .i64 x, .int .i64 y] w fun e w' => e = .returned (.int .i64 1) ∧ w = w' := by
  go_enter Try.func83, Try.ntmps83
  go_wp2_with fail
  go_ret
  exact ⟨rfl, rfl⟩
theorem stop_nil (k : Int) (w : World) : Calls Try.prog 73 #[.pointer none, .int .i64 k] w fun e w' => e = .returned (.bool false) ∧ w = w' := by
  go_enter Try.func73, Try.ntmps73
  go_wp2_with fail
  go_ret
  exact ⟨rfl, rfl⟩
/-- A time, or a period, that may be. -/
def Fit (x : Int) : Prop := 0 ≤ x ∧ x ≤ 4611686018427387904
instance (x : Int) : Decidable (Fit x) := inferInstanceAs (Decidable (0 ≤ x ∧ x ≤ 4611686018427387904))
theorem not_fit {x : Int} (h : ¬ Fit x) : x < 0 ∨ 4611686018427387904 < x := by unfold Fit at h; omega
theorem wf_fit {x : Int} (h : Fit x) : Wf x := wf_of (by unfold Fit at h; omega) (by unfold Fit at h; omega)
section
variable {B t o b c n n' N N' : Nat} {vA vL : Value} {p p' : Option Nat} {S S' : List It} {g g' : Int → Int} {w w' : World} {e : Ending} {v : Value}
theorem arm_bad (k x y : Int) (a : Option Addr) (ha : a ≠ none) (w : World) (h : ¬ (Fit x ∧ Fit y)) : Calls Try.prog 83 #[.pointer a, .int .i64 k, .int .i64 x, .int .i64 y] w fun e w' => e = .returned (.int .i64 1) ∧ w = w' := by
  obtain ⟨a, rfl⟩ := Option.ne_none_iff_exists'.1 ha
  clear ha
  by_cases hx : Fit x
  · have hy : ¬ Fit y := fun e => h ⟨hx, e⟩
    have F1 := fun w => fits_yes x w hx.1 hx.2
    have F2 := fun w => fits_no y w (not_fit hy)
    clear h
    go_enter Try.func83, Try.ntmps83
    go_wp2_with (go_at_call 93; first | ((with_reducible refine (F1 _).mono ?_); rintro e w' ⟨rfl, rfl⟩) | ((with_reducible refine (F2 _).mono ?_); rintro e w' ⟨rfl, rfl⟩))
    go_ret
    exact ⟨rfl, rfl⟩
  · have F1 := fun w => fits_no x w (not_fit hx)
    clear h
    go_enter Try.func83, Try.ntmps83
    go_wp2_with (go_at_call 93; (with_reducible refine (F1 _).mono ?_); rintro e w' ⟨rfl, rfl⟩)
    go_ret
    exact ⟨rfl, rfl⟩
theorem TT.more (h : TT B t vA vL o b c p n N S g w) : TT B t vA vL o b c p n (N + 1) S g w := ⟨h.hg, h.ht, h.pm.up (by omega), h.ok, h.gt, h.gc, h.ne⟩
theorem fput_two (g : Int → Int) (k x y : Int) : fput (fput g k x) k y = fput g k y := by
  funext z; unfold fput; split <;> rfl
set_option maxHeartbeats 4000000 in
theorem arm_any (k x y : Int) (h : TT B t vA vL o b c p n N S g w) (hk : Wf k) (hx : Fit x) (hy : Fit y) (hn : n ≤ 1000000) (hN : N ≤ 1000000) (hl : S.length < 1000) :
    Calls Try.prog 83 #[.pointer (some ⟨t, 1, none⟩), .int .i64 k, .int .i64 x, .int .i64 y] w (XC B t vA vL o b c p (n + 1) (N + 1) (ins ⟨k, x, (n : Int) + 1⟩ (del k S)) (fput g k y) (.int .i64 0) w) := by
  have F1 := fun w => fits_yes x w hx.1 hx.2
  have F2 := fun w => fits_yes y w hy.1 hy.2
  have HA := Lib.hid h
  have HX := Lib.hid (And.intro hx hy)
  have hwy := wf_fit hy
  have c0 := h.c0
  have c1 := h.c1
  have hml : N < maxLen := by unfold maxLen; omega
  have hy0 := hy.1
  clear h hx hy
  by_cases hm : k ∈ ids S
  · go_enter Try.func83, Try.ntmps83
    go_wp2_with (go_at_call 93; first | ((with_reducible refine (F1 _).mono ?_); rintro e w' ⟨rfl, rfl⟩) | ((with_reducible refine (F2 _).mono ?_); rintro e w' ⟨rfl, rfl⟩))
    refine (move_yes k x HA.out.hg HA.out.ok hk hm hn (by omega)).mono ?_
    rintro e w1 hr
    have hr := HA.out.go ((HA.out.ok.del k).ins k x del_ids) hr
    have HT := Lib.hid hr.2
    obtain rfl := hr.1
    clear hr HA c0 c1
    obtain ⟨p1, h1, h2⟩ := HT.out
    have c1 := h1.c1
    have H1 := Lib.hid h1
    have H2 := Lib.hid h2
    clear h1 h2 HT
    by_cases hp : 0 < y
    · go_wp2_with (first
        | (at_delete; go_loud (refine wp_pdrop rfl (.tmp 49) (.tmp 50) rfl H1.out.pm hk rfl rfl ?_; intro w2 ht pm; have H3 := Lib.hid (H1.out.mapped ht pm); have c12 := H3.out.1.c1; clear ht pm))
        | (at_mapUpdate; go_loud (refine wp_pstore rfl (.tmp 56) (.tmp 57) (.tmp 58) rfl H3.out.1.pm hk hwy hml rfl rfl rfl ?_; intro w3 ht pm; have H4 := Lib.hid (H3.out.1.mapped ht pm); clear ht pm)))
      go_ret
      refine ⟨rfl, p1, ?_, H2.out.trans (H3.out.2.trans H4.out.2)⟩
      have := H4.out.1
      rwa [fput_two] at this
    · obtain rfl : y = 0 := by omega
      go_wp2_with (first
        | (at_delete; go_loud (refine wp_pdrop rfl (.tmp 49) (.tmp 50) rfl H1.out.pm hk rfl rfl ?_; intro w2 ht pm; have H3 := Lib.hid (H1.out.mapped ht pm); have c12 := H3.out.1.c1; clear ht pm)))
      go_ret
      exact ⟨rfl, p1, H3.out.1.more, H2.out.trans H3.out.2⟩
  · have hdn : del k S = S := del_none hm
    rw [hdn]
    go_enter Try.func83, Try.ntmps83
    go_wp2_with (go_at_call 93; first | ((with_reducible refine (F1 _).mono ?_); rintro e w' ⟨rfl, rfl⟩) | ((with_reducible refine (F2 _).mono ?_); rintro e w' ⟨rfl, rfl⟩))
    refine (move_no k x HA.out.hg hk hm).mono ?_
    rintro e w1 ⟨rfl, rfl⟩
    go_wp2_with fail
    refine (add_new k x HA.out.hg HA.out.ok hk hm hn hl HA.out.hB).mono ?_
    rintro e w1 hr
    have hr := HA.out.go (HA.out.ok.ins k x hm) hr
    have HT := Lib.hid hr.2
    obtain rfl := hr.1
    clear hr HA c0 c1
    obtain ⟨p1, h1, h2⟩ := HT.out
    have c1 := h1.c1
    have H1 := Lib.hid h1
    have H2 := Lib.hid h2
    clear h1 h2 HT
    by_cases hp : 0 < y
    · go_wp2_with (first
        | (at_delete; go_loud (refine wp_pdrop rfl (.tmp 49) (.tmp 50) rfl H1.out.pm hk rfl rfl ?_; intro w2 ht pm; have H3 := Lib.hid (H1.out.mapped ht pm); have c12 := H3.out.1.c1; clear ht pm))
        | (at_mapUpdate; go_loud (refine wp_pstore rfl (.tmp 56) (.tmp 57) (.tmp 58) rfl H3.out.1.pm hk hwy hml rfl rfl rfl ?_; intro w3 ht pm; have H4 := Lib.hid (H3.out.1.mapped ht pm); clear ht pm)))
      go_ret
      refine ⟨rfl, p1, ?_, H2.out.trans (H3.out.2.trans H4.out.2)⟩
      have := H4.out.1
      rwa [fput_two] at this
    · obtain rfl : y = 0 := by omega
      go_wp2_with (first
        | (at_delete; go_loud (refine wp_pdrop rfl (.tmp 49) (.tmp 50) rfl H1.out.pm hk rfl rfl ?_; intro w2 ht pm; have H3 := Lib.hid (H1.out.mapped ht pm); have c12 := H3.out.1.c1; clear ht pm)))
      go_ret
      exact ⟨rfl, p1, H3.out.1.more, H2.out.trans H3.out.2⟩
end
end Go.Proofs.Ytdpapnfjpefhkaa
namespace Go.Proofs.Ytdpapnfjpefhkaa
open Go.RowKit
set_option linter.unusedVariables false
set_option maxRecDepth 100000
theorem HG.wf {B o b n : Nat} {p : Option Nat} {S : List It} {w : World} (h : HG B w o b p n S) {x : It} (hx : x ∈ S) : Wf x.id := by
  obtain ⟨P, c, m, f, e0, h1, h2, h3, h4⟩ := h
  exact h1.wf x (h4.mem_iff.2 hx)
section
variable {B t o b c n n' N N' : Nat} {vA vL : Value} {p p' : Option Nat} {S S' : List It} {g g' : Int → Int} {w w' : World} {e : Ending} {v : Value}
set_option maxHeartbeats 4000000 in
theorem stop_yes {x : It} (h : TT B t vA vL o b c p n N S g w) (hx : x ∈ S) (hl : S.length ≤ 1000) :
    Calls Try.prog 73 #[.pointer (some ⟨t, 1, none⟩), .int .i64 x.id] w (XC B t vA vL o b c p n N (del x.id S) (fput g x.id 0) (.bool true) w) := by
  have HA := Lib.hid h
  have hk := h.hg.wf hx
  have c0 := h.c0
  clear h
  go_enter Try.func73, Try.ntmps73
  go_wp2_with fail
  refine (remove_yes HA.out.hg HA.out.ok hx hl).mono ?_
  rintro e w1 hr
  have hr := HA.out.go (HA.out.ok.del x.id) hr.chr
  have HT := Lib.hid hr.2
  obtain rfl := hr.1
  clear hr HA c0
  obtain ⟨p1, h1, h2⟩ := HT.out
  have H1 := Lib.hid (h1.later (below_al w1 (.cells #[.int .i64 x.id, .int .i64 x.w, .int .i64 x.s] 150)))
  have H2 := Lib.hid (h2.trans (TC.of_below p1 (below_al w1 (.cells #[.int .i64 x.id, .int .i64 x.w, .int .i64 x.s] 150))))
  clear h1 h2 HT
  go_upto_region 4 with (fail)
  have c1 := H1.out.c1
  generalize w1.alloc (.cells #[.int .i64 x.id, .int .i64 x.w, .int .i64 x.s] 150) = w2 at *
  go_wp2_with (at_delete; go_loud (refine wp_pdrop rfl (.tmp 21) (.tmp 22) rfl H1.out.pm hk rfl rfl ?_; intro w3 ht pm; have H3 := Lib.hid (H1.out.mapped ht pm); clear ht pm))
  go_ret
  exact ⟨rfl, p1, H3.out.1, H2.out.trans H3.out.2⟩
set_option maxHeartbeats 4000000 in
theorem stop_no {k : Int} (h : TT B t vA vL o b c p n N S g w) (hk : Wf k) (hm : k ∉ ids S) :
    Calls Try.prog 73 #[.pointer (some ⟨t, 1, none⟩), .int .i64 k] w (XC B t vA vL o b c p n N S (fput g k 0) (.bool false) w) := by
  have HA := Lib.hid h
  have c0 := h.c0
  clear h
  go_enter Try.func73, Try.ntmps73
  go_wp2_with fail
  refine (remove_no HA.out.hg hk hm).mono ?_
  rintro e w1 ⟨rfl, hb⟩
  have HB2 : Hid (Below w.heap.size w (w1.alloc (.cells #[.int .i64 zI.id, .int .i64 zI.w, .int .i64 zI.s] 150))) := hb.trans ((below_al w1 _).mono hb.size)
  clear hb
  go_upto_region 4 with (fail)
  generalize w1.alloc (.cells #[.int .i64 zI.id, .int .i64 zI.w, .int .i64 zI.s] 150) = w2 at *
  have H1 := Lib.hid (HA.out.later HB2.out)
  have H2 := Lib.hid (TC.of_below (o := o) (b := b) (c := c) p HB2.out)
  clear HA HB2 c0
  have c1 := H1.out.c1
  go_wp2_with (at_delete; go_loud (refine wp_pdrop rfl (.tmp 21) (.tmp 22) rfl H1.out.pm hk rfl rfl ?_; intro w3 ht pm; have H3 := Lib.hid (H1.out.mapped ht pm); clear ht pm))
  go_ret
  exact ⟨rfl, p, H3.out.1, H2.out.trans H3.out.2⟩
/-- Two numbers and a bool. -/
def IiR (x y : Int) (d : Bool) (w : World) (e : Ending) (w' : World) : Prop := e = .returned (.tuple #[.int .i64 x, .int .i64 y, .bool d]) ∧ Below w.heap.size w w'
/-- A number and a bool. -/
def InR (x : Int) (d : Bool) (w : World) (e : Ending) (w' : World) : Prop := e = .returned (.tuple #[.int .i64 x, .bool d]) ∧ Below w.heap.size w w'
theorem next_some {x : It} (h : TT B t vA vL o b c p n N (x :: S) g w) (hl : (x :: S).length ≤ 1000) : Calls Try.prog 50 #[.pointer (some ⟨t, 1, none⟩)] w (InR x.w true w) := by
  have HA := Lib.hid h
  have c0 := h.c0
  clear h
  go_enter Try.func50, Try.ntmps50
  go_wp2_with fail
  refine (gmin_some HA.out.hg HA.out.ok.srt hl).mono ?_
  rintro e w1 ⟨rfl, hb⟩
  have HB2 : Hid (Below w.heap.size w (w1.alloc (.cells #[.int .i64 x.id, .int .i64 x.w, .int .i64 x.s] 150))) := hb.trans ((below_al w1 _).mono hb.size)
  clear hb
  go_wp2_with fail
  go_ret2
  exact ⟨rfl, HB2.out⟩
theorem next_none (h : TT B t vA vL o b c p n N [] g w) : Calls Try.prog 50 #[.pointer (some ⟨t, 1, none⟩)] w (InR 0 false w) := by
  have HA := Lib.hid h
  have c0 := h.c0
  clear h
  go_enter Try.func50, Try.ntmps50
  go_wp2_with fail
  refine (gmin_none HA.out.hg).mono ?_
  rintro e w1 ⟨rfl, hb⟩
  have HB2 : Hid (Below w.heap.size w (w1.alloc (.cells #[.int .i64 zI.id, .int .i64 zI.w, .int .i64 zI.s] 150))) := hb.trans ((below_al w1 _).mono hb.size)
  clear hb
  go_wp2_with fail
  go_ret2
  exact ⟨rfl, HB2.out⟩
end
end Go.Proofs.Ytdpapnfjpefhkaa
namespace Go.Proofs.Ytdpapnfjpefhkaa
open Go.RowKit
set_option linter.unusedVariables false
set_option maxRecDepth 100000
section
variable {P : Program} {ops : Array Oper} {Q : Exit → Act → World → Prop} {md : Region.Mode} {S : World → Prop} {L : Nat}
/-- Whatever comes up; behind each but number L the condition S holds. -/
def AnyBut (P : Program) (md : Region.Mode) (ops : Array Oper) (Q : Exit → Act → World → Prop) (S : World → Prop) (L : Nat) : Nat → Array Bool → Act → World → Prop
  | 0, listed, a, w => Region.ready md ops listed = [] ∧ Q .normal a w
  | f + 1, listed, a, w => (Region.ready md ops listed = [] → Q .normal a w) ∧ ∀ i ∈ Region.ready md ops listed, wpOp P ops Q i (fun a' w' => (i ≠ L → S w') ∧ AnyBut P md ops Q S L f (listed.setIfInBounds i true) a' w') a w
theorem AnyBut.any : ∀ (f : Nat) (listed : Array Bool) (a : Act) (w : World), AnyBut P md ops Q S L f listed a w → wpAny P md ops Q f listed a w
  | 0, _, _, _, h => h
  | f + 1, listed, a, w, h => ⟨h.1, fun i hi => wpOp_mono (fun a' w' q => AnyBut.any f _ a' w' q.2) (h.2 i hi)⟩
/-- Number L waits for number i, or there is no number L. -/
def waitB (md : Region.Mode) (ops : Array Oper) (L i : Nat) : Bool := match ops[L]? with
  | some o => o.after.any fun e => Region.binds md e && e.on == i
  | none => true
theorem wait_not {i : Nat} {listed : Array Bool} (h : waitB md ops L i = true) (hu : listed.getD i true = false) : L ∉ Region.ready md ops listed := by
  intro hr
  obtain ⟨_, o, ho, hall⟩ := mem_ready.1 hr
  unfold waitB at h
  rw [ho] at h
  have h2 : (o.after.any fun e => Region.binds md e && e.on == i) = true := h
  obtain ⟨e, he, hb⟩ := Array.any_eq_true'.1 h2
  simp only [Bool.and_eq_true, beq_iff_eq] at hb
  have h1 := hall e he hb.1
  rw [hb.2] at h1
  rcases Nat.lt_or_ge i listed.size with h' | h'
  · simp [h'] at h1 hu; rw [hu] at h1; cases h1
  · simp [Array.getElem?_eq_none h'] at h1
theorem took {i : Nat} {oi : Oper} {v : Value} (hi : ops[i]? = some oi) (hs : Region.noSelect ops = true) (hw : waitB md ops L i = true) (hQ : ∀ c a w, Q (.panic c) (a.put oi.dst v) w → Q (.panic c) a w) (f : Nat) :
    ∀ (listed : Array Bool) (a : Act) (w : World), (∀ j oj, ops[j]? = some oj → j ≠ i → listed.getD j true = false → (∀ e ∈ oj.after, Region.binds md e = true → e.on ≠ i) → oi.apart ops oj = true) →
      i ∈ Region.ready md ops listed → YieldsIf P ops S oi v a → S w → AnyBut P md ops Q S L f (listed.setIfInBounds i true) (a.put oi.dst v) w → AnyBut P md ops Q S L (f + 1) listed a w := by
  induction f with
  | zero =>
    intro listed a w hfr hr hy hS H
    refine ⟨fun e => absurd hr (by rw [e]; simp), fun j hj => ?_⟩
    rcases Nat.decEq j i with c | c
    · have h2 := ready_mono hj c
      rw [H.1] at h2; cases h2
    · subst c; exact hy.wpOp hi hS ⟨fun _ => hS, H⟩
  | succ f ih =>
    intro listed a w hfr hr hy hS H
    refine ⟨fun e => absurd hr (by rw [e]; simp), fun j hj => ?_⟩
    rcases Nat.decEq j i with c | c
    · have hun := (mem_ready.1 hr).1
      have hjL : j ≠ L := fun e => wait_not hw hun (by rw [← e]; exact hj)
      obtain ⟨hju, oj, ho, hall⟩ := mem_ready.1 hj
      have hno : ∀ e ∈ oj.after, Region.binds md e = true → e.on ≠ i := fun e he hb q => by
        have h1 := hall e he hb
        rw [q] at h1
        rcases Nat.lt_or_ge i listed.size with h' | h'
        · simp [h'] at h1 hun; rw [hun] at h1; cases h1
        · simp [Array.getElem?_eq_none h'] at h1
      have h3 := wpOp_putIf (S := S) ho (hfr j oj ho c hju hno) (fun cs b => Region.noSelect_spec hs i oi cs b hi) (fun cs b => Region.noSelect_spec hs j oj cs b ho) hQ hy (H.2 j (ready_mono hj c))
      refine wpOp_mono (fun a' w' q => ⟨fun _ => q.2.1 hjL, ih (listed.setIfInBounds j true) a' w' (fun k ok hk hki hku hkn => hfr k ok hk hki ?_ hkn) (ready_mono hr (Ne.symm c)) q.1 (q.2.1 hjL) ?_⟩) h3
      · by_cases e : j = k
        · rw [← e]; exact hju
        · rwa [getD_set_ne true e] at hku
      · have h4 := q.2.2
        rwa [Array.setIfInBounds_comm _ _ (Ne.symm c)] at h4
    · subst c; exact hy.wpOp hi hS ⟨fun _ => hS, H⟩
/-- Number i is taken first. -/
theorem but_take {i : Nat} {oi : Oper} {v : Value} {f : Nat} {listed : Array Bool} {a : Act} {w : World} (hi : ops[i]? = some oi) (hs : Region.noSelect ops = true) (hw : waitB md ops L i = true)
    (hf : Region.free md ops listed i = true) (hr : (Region.ready md ops listed).contains i = true) (hQ : ∀ c a w, Q (.panic c) (a.put oi.dst v) w → Q (.panic c) a w) (hy : YieldsIf P ops S oi v a) (hS : S w)
    (h : AnyBut P md ops Q S L f (listed.setIfInBounds i true) (a.put oi.dst v) w) : AnyBut P md ops Q S L (f + 1) listed a w :=
  took hi hs hw hQ f listed a w (Region.free_spec hi hf) (by simpa using hr) hy hS h
/-- One alone may come up. -/
theorem but_one {i : Nat} {oi : Oper} {f : Nat} {listed : Array Bool} {a : Act} {w : World} (hr : Region.ready md ops listed = [i]) (hi : ops[i]? = some oi)
    (h : ∀ K : Act → World → Prop, (∀ a' w', (i ≠ L → S w') → AnyBut P md ops Q S L f (listed.setIfInBounds i true) a' w' → K a' w') → if Region.wanted oi (yielded ops a.tmps) = true then oi.wp P a w K Q else K (a.put oi.dst undef) w) : AnyBut P md ops Q S L (f + 1) listed a w := by
  refine ⟨fun e => absurd (hr.symm.trans e) (by simp), fun j hj => ?_⟩
  rw [hr] at hj
  obtain rfl := List.mem_singleton.1 hj
  have h1 := h (fun a' w' => (j ≠ L → S w') ∧ AnyBut P md ops Q S L f (listed.setIfInBounds j true) a' w') fun a' w' q r => ⟨q, r⟩
  unfold wpOp
  rw [hi]
  dsimp only
  split
  · rename_i c; rw [if_pos c] at h1; exact .inl h1
  · rename_i c; rw [if_neg c] at h1; exact h1
/-- One of two comes up. -/
theorem but_two {i j : Nat} {oi oj : Oper} {f : Nat} {listed : Array Bool} {a : Act} {w : World} (hr : Region.ready md ops listed = [i, j]) (hi : ops[i]? = some oi) (hj : ops[j]? = some oj)
    (h : ∀ K : Act → World → Prop, (∀ a' w', (i ≠ L → S w') → AnyBut P md ops Q S L f (listed.setIfInBounds i true) a' w' → K a' w') → if Region.wanted oi (yielded ops a.tmps) = true then oi.wp P a w K Q else K (a.put oi.dst undef) w)
    (g : ∀ K : Act → World → Prop, (∀ a' w', (j ≠ L → S w') → AnyBut P md ops Q S L f (listed.setIfInBounds j true) a' w' → K a' w') → if Region.wanted oj (yielded ops a.tmps) = true then oj.wp P a w K Q else K (a.put oj.dst undef) w) : AnyBut P md ops Q S L (f + 1) listed a w := by
  refine ⟨fun e => absurd (hr.symm.trans e) (by simp), fun k hk => ?_⟩
  rw [hr] at hk
  unfold wpOp
  rcases List.mem_cons.1 hk with rfl | hk
  · have h1 := h (fun a' w' => (k ≠ L → S w') ∧ AnyBut P md ops Q S L f (listed.setIfInBounds k true) a' w') fun a' w' q r => ⟨q, r⟩
    rw [hi]
    dsimp only
    split
    · rename_i c; rw [if_pos c] at h1; exact .inl h1
    · rename_i c; rw [if_neg c] at h1; exact h1
  · obtain rfl := List.mem_singleton.1 hk
    have h1 := g (fun a' w' => (k ≠ L → S w') ∧ AnyBut P md ops Q S L f (listed.setIfInBounds k true) a' w') fun a' w' q r => ⟨q, r⟩
    rw [hj]
    dsimp only
    split
    · rename_i c; rw [if_pos c] at h1; exact .inl h1
    · rename_i c; rw [if_neg c] at h1; exact h1
theorem but_done {listed : Array Bool} {a : Act} {w : World} (hr : Region.ready md ops listed = []) (h : Q .normal a w) : AnyBut P md ops Q S L 0 listed a w := ⟨hr, h⟩
theorem but_start {id : Nat} {a : Act} {w : World} (L : Nat) (S : World → Prop) (hm : P.follows .mixedOrders = true) (h : AnyBut P .any ops Q S L ops.size (Array.replicate ops.size false) a w.drew) : (Code.region id ops true).wp P Q a w :=
  wp_region_any hm (AnyBut.any _ _ _ _ h)
end
end Go.Proofs.Ytdpapnfjpefhkaa
