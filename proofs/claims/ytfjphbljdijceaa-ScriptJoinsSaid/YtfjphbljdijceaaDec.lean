/- Decode reads entries of bytes, or refuses them. Condition: the bytes lie there. -/
import Derived.Test.YtfjphbljdijceaaRen
namespace Go.Proofs.Ytfjphbljdijceaa
open Go.RowKit
set_option linter.unusedVariables false

def dec (l : List Int) : Option (List En) := if 65536 < l.length then none else decF 2000 l
/-- A slice of bytes. -/
def RdB (w : World) (B : Nat) (A : Option Addr) (n : Nat) (l : List Int) : Prop := l.length = n ∧ Byt l ∧ (0 < n → ∃ b off, A = some ⟨b, off, none⟩ ∧ b < B ∧ At8 w b off l)
theorem RdB.of {w : World} {B n : Nat} {A : Option Addr} {l : List Int} (hb : Byt l) (h : Rd w B A n 1 (bV l)) : RdB w B A n l := by
  refine ⟨by have := h.1; rw [bV_len] at this; omega, hb, fun h0 => ?_⟩
  obtain ⟨b, off, e, hl, hc⟩ := h.2 h0
  exact ⟨b, off, e, hl, fun j x hx => hc j _ (bV_at hx)⟩
def lenV : Value → Nat
  | .slice _ n _ => n
  | _ => 0
structure DecLoop (W wr : World) (l rest : List Int) (ds : List En) (lv : Value) (A : Option Addr) (m : Nat) : Prop where
  bel : Below W.heap.size W wr
  rd : RdB W W.heap.size A m rest
  eq : decF 2000 l = (decF (2000 - ds.length) rest).map (ds ++ ·)
  le : ds.length ≤ 2000
  own : wr.ownsRow W.heap.size 35 3 lv ds.length (flV ds)
def DecR (l : List Int) (w : World) (e : Ending) (w' : World) : Prop :=
  Below w.heap.size w w' ∧ ((∃ o, dec l = some o ∧ ∃ A c, e = .returned (.tuple #[.slice A o.length c, .int .i64 0]) ∧ RdE w' A o.length o) ∨ (dec l = none ∧ e = .returned (.tuple #[.slice none 0 0, .int .i64 2])))

theorem dec_end {W w : World} {l rest : List Int} {ds : List En} {lv : Value} {A : Option Addr} {m : Nat} (hl : l.length ≤ 65536) (h : DecLoop W w l rest ds lv A m) (h0 : m = 0) : DecR l W (.returned (.tuple #[lv, .int .i64 0])) w := by
  subst h0
  have hr : rest = [] := List.eq_nil_of_length_eq_zero h.rd.1
  have hd : dec l = some ds := by
    unfold dec
    rw [if_neg (by omega), h.eq, hr, decF_nil]
    simp
  refine ⟨h.bel, .inl ⟨ds, hd, ?_⟩⟩
  rcases h.own.2 with ⟨rfl, h0⟩ | ⟨g, cap, cur, rfl, _⟩
  · have hn : ds = [] := List.eq_nil_of_length_eq_zero h0
    subst hn
    exact ⟨none, 0, rfl, rfl, Rd.nil _ _ _ _⟩
  · exact ⟨some ⟨g, 0, none⟩, cap, rfl, rfl, Rd.of_own h.own⟩
theorem dec_none {W w : World} {l rest : List Int} {ds : List En} {lv : Value} {A : Option Addr} {m : Nat} {c : Int} {r : List Int} {w' : World} (hl : l.length ≤ 65536) (h : DecLoop W w l rest ds lv A m) (he : rest = c :: r)
    (hn : sz c = 0 ∨ m < sz c ∨ ds.length = 2000) (hb : Below W.heap.size W w') : DecR l W (.returned (.tuple #[.slice none 0 0, .int .i64 2])) w' := by
  refine ⟨hb, .inr ⟨?_, rfl⟩⟩
  unfold dec
  rw [if_neg (by omega), h.eq, he]
  have hm : r.length + 1 = m := by have := h.rd.1; rw [he] at this; simpa using this
  rcases Nat.lt_or_ge ds.length 2000 with h1 | h1
  · obtain ⟨k, hk⟩ : ∃ k, 2000 - ds.length = k + 1 := ⟨2000 - ds.length - 1, by omega⟩
    rw [hk, decF, if_pos (by omega)]
    rfl
  · rw [show 2000 - ds.length = 0 from by omega]
    rfl
theorem dec_push {W w w2 w3 : World} {l rest : List Int} {ds : List En} {lv lv' : Value} {b off m cap s : Nat} {c : Int} {r : List Int} (h : DecLoop W w l rest ds lv (some ⟨b, off, none⟩) m) (he : rest = c :: r)
    (h0 : sz c ≠ 0) (hsz : s = sz c) (hm : s ≤ m) (hcap : m ≤ cap) (hd : ds.length < 2000) (hb : Below w.heap.size w w2) (ho : w3.ownsRow W.heap.size 35 3 lv' (ds.length + 1) (flV ds ++ eV (re (rest.take s)))) (hg : w2.grownBy w3 lv.ownBlock) :
    DecLoop W w3 l (rest.drop s) (ds ++ [re (rest.take s)]) lv' (if cap = s then some ⟨b, off, none⟩ else some ⟨b, off + s, none⟩) (m - s) := by
  subst hsz
  obtain ⟨g1, g2, g3⟩ := h.rd
  obtain ⟨b', off', e1, e2, e3⟩ := g3 (by have := h.rd.1; rw [he] at this; simp at this; omega)
  cases e1
  have hm2 : r.length + 1 = m := by have := h.rd.1; rw [he] at this; simpa using this
  refine ⟨(h.bel.trans (hb.mono h.bel.size)).grown hg (Nat.le_trans h.bel.size hb.size) (fun k hk => (h.own.lt k hk).1), ⟨by rw [List.length_drop, g1], byt_drop g2 _, fun h9 => ?_⟩, ?_, by rw [List.length_append]; simp; omega, ?_⟩
  · rw [if_neg (by omega)]
    exact ⟨_, _, rfl, e2, e3.drop _⟩
  · obtain ⟨k, hk⟩ : ∃ k, 2000 - ds.length = k + 1 := ⟨2000 - ds.length - 1, by omega⟩
    rw [h.eq, List.length_append, show 2000 - (ds.length + [re (rest.take (sz c))].length) = k from by simp; omega, hk]
    rw [he, decF, if_neg (by omega)]
    simp [Option.map_map, Function.comp_def]
  · rw [List.length_append]
    have e9 : flV (ds ++ [re (rest.take (sz c))]) = flV ds ++ eV (re (rest.take (sz c))) := by simp [flV]
    rw [e9]
    exact ho

theorem own_form {w : World} {base : Nat} {e : TypeId} {size n : Nat} {v : Value} {xs : List Value} (h : w.ownsRow base e size v n xs) : ∃ a c, v = .slice a n c := by
  rcases h.2 with ⟨rfl, rfl⟩ | ⟨g, cap, cur, rfl, _⟩
  · exact ⟨none, 0, rfl⟩
  · exact ⟨_, _, rfl⟩
theorem eV_one (x : En) : ∀ u ∈ eV x, u.oneCell' = true := by
  intro u hu
  simp [eV] at hu
  rcases hu with rfl | rfl | rfl <;> rfl
theorem dec_any (A : Option Addr) (n cap : Nat) (l : List Int) (w : World) (hR : Hid (RdB w w.heap.size A n l)) (hn : n ≤ 4611686018427387904) (hcap : n ≤ cap) (hcap2 : cap ≤ 9223372036854775807) : Calls Try.prog 11 #[.slice A n cap] w (DecR l w) := by
  by_cases hlen : 65536 < n
  · go_enter Try.func11, Try.ntmps11
    go_wp2
    go_ret2
    exact ⟨Below.refl _ _, .inr ⟨by unfold dec; rw [if_pos (by rw [hR.out.1]; exact hlen)], rfl⟩⟩
  · have hL : l.length ≤ 65536 := by rw [hR.out.1]; omega
    obtain ⟨i0, hi, hz0, hz1, hz2⟩ := info_parts Try.info35
    go_enter Try.func11, Try.ntmps11
    go_wp2
    go_loopw [0, 4] (fun bv lv wr => ∃ (m c2 : Nat) (A2 : Option Addr) (rest : List Int) (ds : List En), m ≤ c2 ∧ m ≤ n ∧ c2 ≤ 9223372036854775807 ∧ bv = .slice A2 m c2 ∧ Hid (DecLoop w wr l rest ds lv A2 m)) (fun bv _ _ => lenV bv)
    case atStart => exact ⟨n, cap, A, l, [], hcap, Nat.le_refl _, hcap2, rfl, Below.refl _ _, hR.out, by simp, by simp, World.ownsRow_nil _ _ _ _⟩
    case round =>
      obtain ⟨m, c2, A2, rest, ds, hmc, hmn, hc2, rfl, hS⟩ := hrel
      by_cases hm : 0 < m
      · obtain ⟨b, off, rfl, hb, hc⟩ := hS.out.rd.2.2 hm
        obtain ⟨c, r, hcr⟩ : ∃ c r, rest = c :: r := by
          cases rest with
          | nil => have := hS.out.rd.1; simp at this; omega
          | cons c r => exact ⟨c, r, rfl⟩
        have c0 : wr.cell? ⟨b, off, none⟩ = some (.int .u8 c) := by
          rw [cell_blk (hS.out.bel.block b hb)]
          have := hc 0 c (by rw [hcr]; rfl)
          rwa [Nat.add_zero] at this
        have hcb : 0 ≤ c ∧ c < 256 := hS.out.rd.2.1 c (by rw [hcr]; simp)
        have hcb0 := hcb.1
        have hcb1 := hcb.2
        have HCR := Lib.hid hcr
        have HA := Lib.hid (hc.later hb hS.out.bel)
        have hds := hS.out.le
        have HSz := Lib.hid (size_any c)
        clear hcb hcr hc
        by_cases h0 : sz c = 0
        · have HZ := Lib.hid h0
          have H0 : ∀ w, Calls Try.prog 20 #[.int .i64 c] w fun e w' => e = .returned (.int .i64 0) ∧ w = w' := fun w => by have := HSz.out w; rw [h0] at this; exact this
          have HS0 := Lib.hid H0
          clear h0 H0 HSz
          go_wp2_with (go_at_call 20; (with_reducible refine (HS0.out _).mono ?_); rintro e w' ⟨rfl, rfl⟩)
          go_ret2
          exact dec_none hL hS.out HCR.out (.inl HZ.out) hS.out.bel
        · obtain ⟨s, hs⟩ : ∃ s, s = sz c := ⟨_, rfl⟩
          rw [← hs] at HSz h0
          have hs0 : 0 < s := by omega
          have hs17 : s ≤ 17 := by rcases sz_pos (by rw [← hs]; exact h0) with h | h <;> omega
          have HS := Lib.hid hs
          have g0 : (((s : Nat) : Int) == 0) = false := by rw [beq_eq_false_iff_ne]; omega
          clear h0 hs
          by_cases hsm : m < s
          · go_wp2_with (go_at_call 20; (with_reducible refine (HSz.out _).mono ?_); rintro e w' ⟨rfl, rfl⟩)
            go_ret2
            exact dec_none hL hS.out HCR.out (.inr (.inl (by rw [← HS.out]; exact hsm))) hS.out.bel
          · have hsm' : s ≤ m := by omega
            have hown := hS.out.own
            obtain ⟨kp, kc, rfl⟩ := own_form hown
            by_cases hd : ds.length < 2000
            · obtain ⟨t, ht⟩ : ∃ t, rest.take s = c :: t := ⟨r.take (s - 1), by rw [HCR.out]; obtain ⟨q, rfl⟩ : ∃ q, s = q + 1 := ⟨s - 1, by omega⟩; rfl⟩
              have HRE : Hid (Calls Try.prog 21 #[.slice (some ⟨b, off, none⟩) s c2] wr (ReR (re (rest.take s)) wr)) := by
                have h9 := ren_any b off s c2 c t wr (by rw [← ht]; exact byt_take hS.out.rd.2.1 _) (by rw [← ht]; exact HA.out.take _) (Nat.lt_of_lt_of_le hb hS.out.bel.size) (by rw [← HS.out]; omega) HS.out (by rw [← ht, List.length_take, hS.out.rd.1]; omega) (by omega)
                rw [← ht] at h9
                exact h9
              obtain ⟨x, hx⟩ : ∃ x, x = re (rest.take s) := ⟨_, rfl⟩
              rw [← hx] at HRE
              have HX := Lib.hid hx
              have g1 : (((ds.length : Nat) : Int) == 2000) = false := by rw [beq_eq_false_iff_ne]; omega
              clear ht hx
              go_wp2_with (go_at_call 20; (with_reducible refine (HSz.out _).mono ?_); rintro e w' ⟨rfl, rfl⟩)
              refine HRE.out.mono ?_
              rintro e w1 ⟨rfl, hb1⟩
              have HB1 := Lib.hid (hb1.trans ((below_al w1 (.cells #[.int .i64 x.k, .int .i64 x.n, .int .i64 x.d] 35)).mono hb1.size))
              have hown1 := owns_below hown HB1.out
              have hs1 := Nat.le_trans hS.out.bel.size HB1.out.size
              clear hb1 hown c0
              go_wp2_with (at_builtin; go_loud (refine wpList_append_own _ rfl _ _ 22 rfl w.heap.size 35 i0 (.agg #[.int .i64 0, .int .i64 0, .int .i64 0]) 3 24 Try.underlying22 hi hz0 hz1 hz2 rfl (by decide) _ _ _ rfl hown1 ⟨w1.heap.size, 0, none⟩ 1 1 (eV x) rfl rfl (World.news_of_block (cs := #[.int .i64 x.k, .int .i64 x.n, .int .i64 x.d]) (t := 35) (fr := (0, 0)) (heap_alloc_new w1 _)) (eV_one x) (by unfold maxLen; omega) (by omega) hs1 ?_; intro v' w3 hown' hgrow _; have HE := Lib.hid (dec_push hS.out HCR.out (by rw [← HS.out]; omega) HS.out hsm' hmc hd HB1.out (by rw [← HX.out]; exact hown') hgrow); clear hown' hgrow hown1))
              exact ⟨⟨m - s, c2 - s, _, _, _, by omega, by omega, by omega, rfl, HE⟩, by simp only [lenV]; omega⟩
            · have hd' : ds.length = 2000 := by omega
              have HD := Lib.hid hd'
              have g1 : (((ds.length : Nat) : Int) == 2000) = true := by rw [hd']; rfl
              clear hd'
              go_wp2_with (go_at_call 20; (with_reducible refine (HSz.out _).mono ?_); rintro e w' ⟨rfl, rfl⟩)
              go_ret2
              exact dec_none hL hS.out HCR.out (.inr (.inr HD.out)) hS.out.bel
      · obtain rfl : m = 0 := by omega
        go_wp2_with fail
        go_ret2
        exact dec_end hL hS.out rfl
end Go.Proofs.Ytfjphbljdijceaa
