/- What comes of any instruction: the program's answer and the document's are one plain function. Conditions: each theorem's own premises. -/
import Derived.Test.YtgojnhbmelnpnaaDoorDoE
import Derived.Test.YtgojnhbmelnpnaaDoorDoX
import Derived.Test.YtgojnhbmelnpnaaDoorDoM
import Derived.Test.YtgojnhbmelnpnaaDoorRe1
import Derived.Test.YtgojnhbmelnpnaaDoorRe2
import Derived.Test.YtgojnhbmelnpnaaDoorRe3
import Derived.Test.YtgojnhbmelnpnaaDoorRe4
namespace Go.Proofs.YtgojnhbmelnpnaaDoor.Pg
open Go.RowKit
set_option linter.unusedVariables false
set_option maxRecDepth 100000

theorem doX_bad {l : List In} {pc : Int} (g : Nat → Int) (now : Int) (h : checkB l 16 = false ∨ pc < 0 ∨ (l.length : Int) < pc) : doX l pc g now = (zO, 1) := if_pos h
theorem doX_end {l : List In} (g : Nat → Int) (now : Int) (h : checkB l 16 = true) : doX l l.length g now = (⟨l.length, g, false, 0, true⟩, 0) := by
  unfold doX
  rw [if_neg (by rw [h]; simp)]
  simp
theorem doX_at {l : List In} {k : Nat} {e : In} (g : Nat → Int) (now : Int) (h : checkB l 16 = true) (hk : l[k]? = some e) : doX l k g now = if mineB e.op then (doO e k g now, 0) else (zO, 7) := by
  have := (List.getElem?_eq_some_iff.1 hk).1
  unfold doX
  rw [if_neg (by rw [h]; simp; omega)]
  simp [hk]
/-- The ways that there are. -/
theorem doX_ways (l : List In) (pc : Int) : (checkB l 16 = false) ∨ (checkB l 16 = true ∧ pc < 0) ∨ (checkB l 16 = true ∧ (l.length : Int) < pc) ∨ (checkB l 16 = true ∧ pc = (l.length : Int)) ∨ (checkB l 16 = true ∧ ∃ (k : Nat) (e : In), pc = (k : Int) ∧ l[k]? = some e) := by
  cases h : checkB l 16 with
  | false => exact .inl rfl
  | true =>
    by_cases h1 : pc < 0
    · exact .inr (.inl ⟨rfl, h1⟩)
    · by_cases h2 : (l.length : Int) < pc
      · exact .inr (.inr (.inl ⟨rfl, h2⟩))
      · by_cases h3 : pc = (l.length : Int)
        · exact .inr (.inr (.inr (.inl ⟨rfl, h3⟩)))
        · refine .inr (.inr (.inr (.inr ⟨rfl, pc.toNat, l[pc.toNat]'(by omega), by omega, List.getElem?_eq_getElem _⟩)))
theorem mine_ops {op : Int} (h : mineB op = true) : op = 1 ∨ op = 2 ∨ op = 3 ∨ op = 4 ∨ op = 5 ∨ op = 6 ∨ op = 7 ∨ op = 16 := by
  have := of_decide_eq_true h; omega
section
variable {A : Option Addr} {n cap : Nat} {l : List In} {w : World} {g : Nat → Int}
theorem do_any (hF : FT w) (hR : RdI w A n l) (pc : Int) (g : Nat → Int) (now : Int) : Calls Tryd.prog 9 #[.slice A n cap, .int .i64 pc, .agg (gR g), .int .i64 now] w (DoR (doX l pc g now).1 (doX l pc g now).2 w) := by
  have hn := hR.1
  rcases doX_ways l pc with h | ⟨h, h1⟩ | ⟨h, h1⟩ | ⟨h, h1⟩ | ⟨h, k, e, rfl, he⟩
  · rw [doX_bad g now (.inl h)]; exact do_bad hF hR h
  · rw [doX_bad g now (.inr (.inl h1))]; exact do_low hF hR h h1
  · rw [doX_bad g now (.inr (.inr h1))]; exact do_high hF hR h (by rw [← hn]; exact h1)
  · subst h1
    rw [doX_end g now h, hn]; exact do_end hF hR h
  · rw [doX_at g now h he]
    cases ho : mineB e.op with
    | false => exact do_kind hF hR h k he ho
    | true =>
      by_cases h6 : e.op = 6
      · obtain ⟨na, hna, ha⟩ := may_a (chk_at h he) (.inr (.inr (.inr (.inr (.inl h6)))))
        have hd : doO e k g now = ⟨nxt e k g, wri e g now, true, g na, false⟩ := by
          unfold doO; rw [h6, ha]; simp
        rw [if_pos rfl, hd]
        exact do_emit hF hR h k he ho hna h6 ha
      · by_cases h7 : e.op = 7
        · have hd : doO e k g now = ⟨nxt e k g, wri e g now, false, 0, true⟩ := by
            unfold doO; rw [h7]; simp
          rw [if_pos rfl, hd]
          exact do_exit hF hR h k he ho h7
        · have hd : doO e k g now = ⟨nxt e k g, wri e g now, false, 0, false⟩ := by
            unfold doO; simp [h6, h7]
          rw [if_pos rfl, hd]
          exact do_else hF hR h k he ho h6 h7
theorem ref_any (hR : RdI w A n l) (hsm : ∀ e ∈ l, e.n ≤ 20) (pc : Int) (g : Nat → Int) (now : Int) : Calls Tryd.prog 10 #[.slice A n cap, .int .i64 pc, .agg (gR g), .int .i64 now] w (DoR (doX l pc g now).1 (doX l pc g now).2 w) := by
  have hn := hR.1
  rcases doX_ways l pc with h | ⟨h, h1⟩ | ⟨h, h1⟩ | ⟨h, h1⟩ | ⟨h, k, e, rfl, he⟩
  · rw [doX_bad g now (.inl h)]; exact ref_bad hR hsm h
  · rw [doX_bad g now (.inr (.inl h1))]; exact ref_low hR hsm h h1
  · rw [doX_bad g now (.inr (.inr h1))]; exact ref_high hR hsm h (by rw [← hn]; exact h1)
  · subst h1
    rw [doX_end g now h, hn]; exact ref_end hR hsm h
  · rw [doX_at g now h he]
    cases ho : mineB e.op with
    | false => exact ref_kind hR hsm h k he ho
    | true =>
      rw [if_pos rfl]
      have hm := chk_at h he
      rcases mine_ops ho with o | o | o | o | o | o | o | o
      · obtain ⟨na, hna, ha⟩ := may_a hm (by omega)
        have hd : doO e k g now = ⟨(k : Int) + 1, upd g na e.b, false, 0, false⟩ := by
          unfold doO nxt wri; rw [o, ha]; simp
        rw [hd]; exact ref_1 hR hsm h k he o hna ha
      · obtain ⟨na, hna, ha⟩ := may_a hm (by omega)
        obtain ⟨nb, hnb, hb⟩ := may_b hm o
        have hd : doO e k g now = ⟨(k : Int) + 1, upd g na (g nb), false, 0, false⟩ := by
          unfold doO nxt wri; rw [o, ha, hb]; simp
        rw [hd]; exact ref_2 hR hsm h k he o hna ha hnb hb
      · obtain ⟨na, hna, ha⟩ := may_a hm (by omega)
        have hd : doO e k g now = ⟨(k : Int) + 1, upd g na (ad (g na) e.b), false, 0, false⟩ := by
          unfold doO nxt wri; rw [o, ha]; simp
        rw [hd]; exact ref_3 hR hsm h k he o hna ha
      · have hd : doO e k g now = ⟨e.a, g, false, 0, false⟩ := by
          unfold doO nxt wri; rw [o]; simp
        rw [hd]; exact ref_4 hR hsm h k he o
      · obtain ⟨na, hna, ha⟩ := may_a hm (by omega)
        by_cases h0 : g na = 0
        · have hd : doO e k g now = ⟨e.b, g, false, 0, false⟩ := by
            unfold doO nxt wri; rw [o, ha]; simp [h0]
          rw [hd]; exact ref_5z hR hsm h k he o hna ha h0
        · have hd : doO e k g now = ⟨(k : Int) + 1, g, false, 0, false⟩ := by
            unfold doO nxt wri; rw [o, ha]; simp [h0]
          rw [hd]; exact ref_5n hR hsm h k he o hna ha h0
      · obtain ⟨na, hna, ha⟩ := may_a hm (by omega)
        have hd : doO e k g now = ⟨(k : Int) + 1, g, true, g na, false⟩ := by
          unfold doO nxt wri; rw [o, ha]; simp
        rw [hd]; exact ref_6 hR hsm h k he o hna ha
      · have hd : doO e k g now = ⟨(k : Int), g, false, 0, true⟩ := by
          unfold doO nxt wri; rw [o]; simp
        rw [hd]; exact ref_7 hR hsm h k he o
      · obtain ⟨na, hna, ha⟩ := may_a hm (by omega)
        have hd : doO e k g now = ⟨(k : Int) + 1, upd g na now, false, 0, false⟩ := by
          unfold doO nxt wri; rw [o, ha]; simp
        rw [hd]; exact ref_16 hR hsm h k he o hna ha
end
end Go.Proofs.YtgojnhbmelnpnaaDoor.Pg
