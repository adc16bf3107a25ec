/- Several wrapped codes put together: the shape, what is in it, the greatest; a row of errors of the call's own that grows; Wrap of a code; has. Conditions: each theorem's own premises. -/
import Derived.Test.YtbefcakakoaieaaRnt
import Derived.Deep.AppendLies
namespace Go.Proofs.Ytbefcakakoaieaa
open Go.RowKit Go.Extern.Stop Go.Stop Go.Extern
set_option linter.unusedVariables false
set_option maxRecDepth 100000

def wB : ByteArray := ⟨#[119]⟩
/-- The shapes of wrapped codes. -/
def wF : List Int → Fo
  | [] => .nil
  | z :: r => .cons 0 wB (codeE z).fo (wF r)
theorem wF_app : ∀ (l : List Int) (z : Int), wF (l ++ [z]) = (wF l).app (.cons 0 wB (codeE z).fo .nil)
  | [], z => rfl
  | y :: r, z => by simp only [List.cons_append, wF, Fo.app, wF_app r z]
theorem wF_len : ∀ l : List Int, (wF l).len = l.length
  | [] => rfl
  | y :: r => by simp [wF, Fo.len, wF_len r]
theorem wF_fits : ∀ (l : List Int) (d n : Int), 1 < d → (∀ z ∈ l, 0 < z) → 2 * (l.length : Int) ≤ n → fitsF (wF l) d n = (true, n - 2 * l.length)
  | [], d, n, _, _, _ => by simp [wF, fitsF]
  | z :: r, d, n, hd, hp, hn => by
    have hz : 0 < z := hp z (by simp)
    have hz0 : z ≠ 0 := by omega
    have hw : wB.size = 1 := rfl
    have hs0 : (⟨#[]⟩ : ByteArray).size = 0 := rfl
    simp only [List.length_cons] at hn ⊢
    have ih := wF_fits r d (n - 2) hd (fun y hy => hp y (by simp [hy])) (by omega)
    have e1 : fitsF (codeE z).fo (d - 1) (n - 1) = (true, n - 2) := by
      simp only [codeE, Er.fo, fitsF]
      rw [if_neg (by omega), if_pos hz0, if_pos ⟨hz, rfl, rfl⟩]
      simp; omega
    have e2 : (codeE z).fo.len = 1 := rfl
    show fitsF (.cons 0 wB (codeE z).fo (wF r)) d n = _
    unfold fitsF
    rw [if_neg (by omega), if_neg (by simp), if_neg (by rw [hw, e2]; omega), e1]
    simp only [if_true]
    rw [ih]
    congr 1; omega
theorem wF_may (l : List Int) (h0 : 0 < l.length) (h1 : l.length ≤ 20) (hp : ∀ z ∈ l, 0 < z) : mayB 0 allB (wF l) = true := by
  have hs : allB.size = 3 := rfl
  have e := wF_fits l 19 49 (by omega) hp (by omega)
  unfold mayB fitsF
  rw [if_neg (by omega), if_neg (by simp), if_neg (by rw [hs, wF_len]; omega)]
  rw [show ((20 : Int) - 1) = 19 from rfl, show ((50 : Int) - 1) = 49 from rfl, e]
  simp [fitsF]
theorem wF_short : ∀ l : List Int, shortF (wF l)
  | [] => trivial
  | z :: r => ⟨by show 1 ≤ 1000; omega, ⟨by show 0 ≤ 1000; omega, trivial, trivial⟩, wF_short r⟩
theorem hasF_wF (x : Int) : ∀ l : List Int, (∀ z ∈ l, 0 < z) → hasF x (wF l) = l.any (· == x)
  | [], _ => rfl
  | z :: r, h => by
    have hz : 0 < z := h z (by simp)
    have h1 : hasF x (codeE z).fo = (z == x) := by simp [hasF, codeE, Er.fo, hz]
    show hasF x (.cons 0 wB (codeE z).fo (wF r)) = _
    simp only [hasF, h1, hasF_wF x r (fun y hy => h y (by simp [hy])), List.any_cons]
    simp
/-- The error that is put together. -/
def sumE (l : List Int) : Option Er := if l.length = 0 then none else some ⟨0, allB, wF l⟩
theorem has_sum (x : Int) (l : List Int) (h : ∀ z ∈ l, 0 < z) : hasO x (sumE l) = l.any (· == x) := by
  unfold sumE
  split
  · have hl : l = [] := List.eq_nil_of_length_eq_zero ‹_›
    subst hl; rfl
  · show hasF x (.cons 0 allB (wF l) .nil) = _
    simp [hasF, hasF_wF x l h]

/-- The greatest of those up to 1000. -/
def mostL (l : List Int) : Int := l.foldl (fun m z => if z ≤ 1000 then max m z else m) 0
theorem mostL_snoc (l : List Int) (z : Int) : mostL (l ++ [z]) = if z ≤ 1000 then max (mostL l) z else mostL l := by simp [mostL]
theorem mostL_facts : ∀ l : List Int, (∀ z ∈ l, 0 < z) → 0 ≤ mostL l ∧ mostL l ≤ 1000 ∧ (0 < mostL l → mostL l ∈ l) ∧ ∀ z ∈ l, z ≤ 1000 → z ≤ mostL l := by
  intro l
  rw [← List.reverse_reverse l]
  generalize l.reverse = r
  induction r with
  | nil => intro _; simp [mostL]
  | cons z r ih =>
    intro hp
    rw [List.reverse_cons] at hp ⊢
    obtain ⟨h1, h2, h3, h4⟩ := ih (fun y hy => hp y (List.mem_append_left _ hy))
    have hz : 0 < z := hp z (by simp)
    rw [mostL_snoc]
    split
    · refine ⟨by omega, by omega, fun _ => ?_, fun y hy hy1 => ?_⟩
      · rcases Int.le_total (mostL r.reverse) z with h | h
        · rw [Int.max_eq_right h]; simp
        · rw [Int.max_eq_left h]; exact List.mem_append_left _ (h3 (by omega))
      · rcases List.mem_append.1 hy with h | h
        · have := h4 y h hy1; omega
        · have : y = z := by simpa using h
          omega
    · refine ⟨h1, h2, fun h0 => List.mem_append_left _ (h3 h0), fun y hy hy1 => ?_⟩
      rcases List.mem_append.1 hy with h | h
      · exact h4 y h hy1
      · have : y = z := by simpa using h
        omega
theorem deepN_eq (p : Int → Bool) : ∀ (n m : Nat), m ≤ n → (0 < m → p m = true) → (∀ k : Nat, m < k → k ≤ n → p k = false) → deepN p n = m
  | 0, m, h, _, _ => by simp [deepN]; omega
  | n + 1, m, h, h1, h2 => by
    unfold deepN
    by_cases hm : m = n + 1
    · subst hm
      rw [if_pos (h1 (by omega))]
    · rw [if_neg (by rw [h2 (n + 1) (by omega) (Nat.le_refl _)]; simp)]
      exact deepN_eq p n m (by omega) h1 (fun k hk hk2 => h2 k hk (by omega))
theorem deep_sum (l : List Int) (h : ∀ z ∈ l, 0 < z) : deepO (sumE l) = mostL l := by
  obtain ⟨h1, h2, h3, h4⟩ := mostL_facts l h
  have e : mostL l = ((mostL l).toNat : Int) := by omega
  unfold deepO
  rw [deepN_eq (fun x => hasO x (sumE l)) 1000 (mostL l).toNat (by omega) (fun h0 => ?_) (fun k hk hk2 => ?_)]
  · omega
  · show hasO _ _ = true
    rw [has_sum _ _ h, ← e, List.any_eq_true]
    exact ⟨_, h3 (by omega), by simp⟩
  · show hasO _ _ = false
    rw [has_sum _ _ h, List.any_eq_false]
    intro y hy hyk
    have : y = (k : Int) := by simpa using hyk
    have := h4 y hy (by omega)
    omega

/-! Wrap of a code: all new. -/
def GatIn (S : Nat → Prop) (o : ByteArray) (ks : Fo) (W : World) (e : Ending) (w : World) : Prop :=
  Below W.heap.size W w ∧ ∃ g : Nat, e = .returned (.iface 63 (.pointer (some ⟨g, 0, none⟩))) ∧ EIs w (fun b => S b ∨ (W.heap.size ≤ b ∧ b < w.heap.size)) 0 o ks (.iface 63 (.pointer (some ⟨g, 0, none⟩)))
theorem gather_in (o : ByteArray) (ks : Fo) (hs : shortF ks) (W : World) (S : Nat → Prop) (hS : ∀ x, S x → x < W.heap.size) (p : Option Addr) (n cap : Nat) (hn : n < 50) (hR : REt W S ks p n cap) (h : mayB 0 o ks = true) :
    Calls Try.prog 28 #[.string o, .slice p n cap] W (GatIn S o ks W) := by
  have hR2 : REt W (Lt W.heap.size) ks p n cap := by
    obtain ⟨e1, e2, e3, b, off, e4, e5⟩ := hR
    exact ⟨e1, e2, e3, b, off, e4, e5.agr (fun _ _ => rfl) hS⟩
  have hlen := hR.1
  have HC := Lib.hid (sls_any ks (by omega) hs W p n cap hR2)
  have HR := Lib.hid hR
  have HS := Lib.hid hS
  clear hR hR2 hlen hS
  go_enter Try.func28, Try.ntmps28
  go_wp2_with fail
  refine HC.out.mono ?_
  rintro e w' ⟨hb, p', cap', rfl, hK⟩
  have HM := Lib.hid (may_any 0 o ks w' p' ks.len cap' (hK.agr (fun _ _ => rfl) (fun x hx => hx.2)))
  have HB := Lib.hid hb
  clear hb hK
  go_wp2_with fail
  refine HM.out.mono ?_
  rintro e w2 ⟨rfl, hb2⟩
  rw [h]
  have HB2 := Lib.hid hb2
  clear hb2
  go_wp2_with fail
  go_ret
  have hB : Below W.heap.size W w2 := HB.out.trans (HB2.out.mono HB.out.size)
  have hB2 := hB.trans ((below_al w2 (.cells #[.string o, .slice p n cap] 65)).mono hB.size)
  refine ⟨hB2, _, rfl, ?_⟩
  obtain ⟨e1, e2, e3, b, off, e4, e5⟩ := HR.out
  subst e1
  have e6 := e5.agr (W' := w2.alloc (.cells #[.string o, .slice p ks.len cap] 65)) (S' := fun b => S b ∨ (W.heap.size ≤ b ∧ b < (w2.alloc (.cells #[.string o, .slice p ks.len cap] 65)).heap.size)) (fun x hx => hB2.block x (HS.out x hx)) (fun x hx => .inl hx)
  exact .inr (.inl ⟨rfl, w2.heap.size, rfl, .inr ⟨hB.size, by simp⟩, by simp, p, cap, by simp, e2, e3, b, off, fun hp => ⟨e4 hp, e6.1 hp⟩, e6.2⟩)
theorem wrap_code (o : ByteArray) (c : Int) (hc : 0 < c) (hm : mayB 0 o (codeE c).fo = true) (W : World) :
    Calls Try.prog 19 #[.string o, .iface 51 (.agg #[.int .i64 c])] W (fun e w => Below W.heap.size W w ∧ ∃ g : Nat, e = .returned (.iface 63 (.pointer (some ⟨g, 0, none⟩))) ∧ EIs w (Btw W.heap.size w.heap.size) 0 o (codeE c).fo (.iface 63 (.pointer (some ⟨g, 0, none⟩)))) := by
  have hR : REt (W.alloc (.cells #[.iface 51 (.agg #[.int .i64 c])] 29)) (fun b => b = W.heap.size) (codeE c).fo (some ⟨W.heap.size, 0, none⟩) 1 1 := by
    refine ⟨rfl, by omega, by omega, W.heap.size, 0, fun _ => rfl, fun _ => rfl, ⟨.iface 51 (.agg #[.int .i64 c]), by simp, ?_⟩, trivial⟩
    exact .inl ⟨hc, rfl, rfl, rfl⟩
  have HG := Lib.hid (gather_in o (codeE c).fo ⟨by show 0 ≤ 1000; omega, trivial, trivial⟩ (W.alloc (.cells #[.iface 51 (.agg #[.int .i64 c])] 29)) _ (by rintro x rfl; simp) _ 1 1 (by omega) hR hm)
  have HB := Lib.hid (below_al W (.cells #[.iface 51 (.agg #[.int .i64 c])] 29))
  clear hR
  go_enter Try.func19, Try.ntmps19
  go_wp2_with fail
  refine HG.out.mono ?_
  rintro e w' ⟨hb, g, rfl, hv⟩
  have HB2 := Lib.hid hb
  have HV := Lib.hid hv
  clear hb hv
  go_wp2_with fail
  go_ret
  refine ⟨HB.out.trans (HB2.out.mono (by simp)), g, rfl, HV.out.agr (fun _ _ => rfl) ?_⟩
  rintro x (rfl | ⟨h1, h2⟩)
  · exact ⟨Nat.le_refl _, by have := HB2.out.size; simp at this; omega⟩
  · exact ⟨by simp at h1; omega, h2⟩
theorem may_w (c : Int) (hc : 0 < c) : mayB 0 wB (codeE c).fo = true := by
  have h0 : c ≠ 0 := by omega
  have hs : wB.size = 1 := rfl
  have hs0 : (⟨#[]⟩ : ByteArray).size = 0 := rfl
  simp [mayB, fitsF, codeE, Er.fo, Fo.len, hc, h0, hs, hs0]
theorem make_code (c : Int) (hc : 0 < c) (W : World) : Calls Try.prog 20 #[.agg #[.int .i64 c, .string ⟨#[]⟩, .slice none 0 0]] W (fun e w => e = .returned (.iface 51 (.agg #[.int .i64 c])) ∧ Below W.heap.size W w) := by
  refine (make_yes c ⟨#[]⟩ .nil (may_code c hc) W none 0 0 (KAt.nil _ _ _ _)).mono ?_
  rintro e w ⟨hb, v, rfl, hE⟩
  refine ⟨?_, hb⟩
  rcases hE with ⟨_, _, _, h⟩ | ⟨h, _⟩ | ⟨h, _⟩
  · rw [h]
  · omega
  · omega

/-! A row of errors of the call's own. -/
theorem EL.agr {W W' : World} {S S' : Nat → Prop} (ha : ∀ b, S b → W'.heap[b]? = W.heap[b]?) (hS : ∀ b, S b → S' b) : ∀ {vs : List Value} {F : Fo}, EL W S vs F → EL W' S' vs F
  | [], .nil, _ => trivial
  | v :: vs, .cons c o ks r, h => ⟨h.1.agr ha hS, EL.agr ha hS h.2⟩
  | [], .cons _ _ _ _, h => h.elim
  | _ :: _, .nil, h => h.elim
theorem EL.snoc {W : World} {S : Nat → Prop} {v : Value} {c : Int} {o : ByteArray} {ks : Fo} (hv : EIs W S c o ks v) : ∀ {vs : List Value} {F : Fo}, EL W S vs F → EL W S (vs ++ [v]) (F.app (.cons c o ks .nil))
  | [], .nil, _ => ⟨hv, trivial⟩
  | v :: vs, .cons c o ks r, h => ⟨h.1, EL.snoc hv h.2⟩
  | [], .cons _ _ _ _, h => h.elim
  | _ :: _, .nil, h => h.elim
structure DS (W w : World) (kv : Value) (n : Nat) (xs : List Value) (F : Fo) : Prop where
  own : w.ownsRow W.heap.size 29 1 kv n xs
  bel : Below W.heap.size W w
  el : EL w (fun b => b < w.heap.size ∧ kv.ownBlock ≠ some b) xs F
  non : ∀ u ∈ xs, ∃ T x, u = Value.iface T x
  nul : n = 0 → kv = .slice none 0 0
theorem DS.start (W : World) : DS W W (.slice none 0 0) 0 [] .nil := ⟨World.ownsRow_nil _ _ _ _, Below.refl _ _, trivial, by simp, fun _ => rfl⟩
theorem owns_below {w w' : World} {base : Nat} {e : TypeId} {size n : Nat} {v : Value} {xs : List Value} (h : w.ownsRow base e size v n xs) (hb : Below w.heap.size w w') : w'.ownsRow base e size v n xs :=
  h.kept (row := none) ⟨hb.os, hb.tape, hb.output, hb.size, fun k hk _ => hb.block k hk⟩ (by cases v.ownBlock <;> simp)
theorem DS.later {W w w' : World} {kv : Value} {n : Nat} {xs : List Value} {F : Fo} (h : DS W w kv n xs F) (hb : Below w.heap.size w w') : DS W w' kv n xs F :=
  ⟨owns_below h.own hb, h.bel.trans (hb.mono h.bel.size), h.el.agr (fun b hb' => hb.block b hb'.1) (fun b hb' => ⟨Nat.lt_of_lt_of_le hb'.1 hb.size, hb'.2⟩), h.non, h.nul⟩
theorem DS.app {W w0 w2 w4 : World} {kv : Value} {n g cap m : Nat} {xs : List Value} {F : Fo} {o : ByteArray} {ks : Fo} {T : TypeId} {x : Value} {ob : Obj} (D : DS W w0 kv n xs F) (hb : Below w0.heap.size w0 w2)
    (hv : EIs w2 (Btw w0.heap.size w2.heap.size) 0 o ks (.iface T x)) (hown : w4.ownsRow W.heap.size 29 1 (.slice (some ⟨g, 0, none⟩) m cap) m (xs ++ [.iface T x]))
    (hg : (w2.alloc ob).grownBy w4 kv.ownBlock) (hat : kv.ownBlock = some g ∨ g = w2.heap.size + 1) (hm0 : 0 < m) : DS W w4 (.slice (some ⟨g, 0, none⟩) m cap) m (xs ++ [.iface T x]) (F.app (.cons 0 o ks .nil)) := by
  have hs := hb.size
  have hgs := hg.size
  simp only [size_al] at hgs
  have hlt : ∀ k, kv.ownBlock = some k → k < w0.heap.size := fun k hk => (D.own.lt k hk).2
  have hge : ∀ k, kv.ownBlock = some k → W.heap.size ≤ k := fun k hk => (D.own.lt k hk).1
  have hbW := D.bel.size
  refine ⟨hown, ?_, ?_, ?_, fun h => by omega⟩
  · exact ((D.bel.trans (hb.mono hbW)).trans ((below_al w2 ob).mono (by omega))).grown hg (by simp; omega) hge
  · refine EL.snoc (hv.agr (fun b hbb => ?_) (fun b hbb => ?_)) (D.el.agr (fun b hbb => ?_) (fun b hbb => ?_))
    · have h1 := hbb.1
      have h2 := hbb.2
      rw [hg.block b (by simp; omega) (fun h => by have := hlt b h.symm; omega)]
      exact Below.heap_alloc _ _ _ h2
    · have h1 := hbb.1
      have h2 := hbb.2
      refine ⟨by omega, fun h => ?_⟩
      have h3 : g = b := Option.some.inj h
      rcases hat with h4 | h4
      · have := hlt g h4; omega
      · omega
    · have h1 := hbb.1
      rw [hg.block b (by simp; omega) (fun h => hbb.2 h.symm), Below.heap_alloc _ _ _ (by omega)]
      exact hb.block b h1
    · have h1 := hbb.1
      refine ⟨by omega, fun h => ?_⟩
      have h3 : g = b := Option.some.inj h
      rcases hat with h4 | h4
      · exact hbb.2 (by rw [h4, h3])
      · omega
  · intro u hu
    rcases List.mem_append.1 hu with h | h
    · exact D.non u h
    · exact ⟨T, x, by simpa using h⟩
theorem nn_all : ∀ {xs : List Value}, (∀ u ∈ xs, ∃ T x, u = Value.iface T x) → xs.filter nn = xs
  | [], _ => rfl
  | u :: xs, h => by
    obtain ⟨T, x, rfl⟩ := h u (by simp)
    rw [List.filter_cons_of_pos rfl, nn_all (fun y hy => h y (by simp [hy]))]

/-- Join of the row. -/
theorem join_row {W w : World} {kv : Value} {zs : List Int} {xs : List Value} {n : Nat} (D : DS W w kv n xs (wF zs)) (hn : zs.length = n) (h1 : n ≤ 20) (hp : ∀ z ∈ zs, 0 < z) : Calls Try.prog 21 #[kv] w (EPost (sumE zs) w) := by
  obtain ⟨p, c, rfl, hpc, b, hb, hcc⟩ := own_slice D.own
  have hl : xs.length = n := by have := D.el.len; rw [wF_len] at this; omega
  by_cases h0 : n = 0
  · subst h0
    have hz : zs = [] := List.eq_nil_of_length_eq_zero hn
    subst hz
    rw [D.nul rfl]
    exact (join_none w).mono fun e w' h => ⟨h.2, _, h.1, rfl⟩
  · obtain ⟨rfl, hbl⟩ := hb (by omega)
    have hm := wF_may zs (by omega) (by omega) hp
    have hs : sumE zs = some ⟨0, allB, wF zs⟩ := if_neg (by omega)
    rw [hs]
    have hj := (join_some xs (wF zs) (wF_short zs) w b 0 c (by omega) (by omega) (by omega) (fun j u hu => ⟨hcc j u hu, .inr (D.non u (List.mem_of_getElem? hu))⟩) hbl (by rw [nn_all D.non]; exact D.el.agr (fun _ _ => rfl) (fun x hx => hx.1))).2 hm
    rw [hl] at hj
    exact hj.mono fun e w' ⟨h2, g, he, hv⟩ => ⟨h2, _, he, hv, hm⟩
end Go.Proofs.Ytbefcakakoaieaa
