/- What the law on wraps asks of what package fault makes: the contracts at a row of codes. No condition. -/
import Derived.Test.YtbdicgnmaonjgaaDoorWst
namespace Go.Proofs.YtbdicgnmaonjgaaDoor
open Go.RowKit
set_option linter.unusedVariables false

theorem cell_one_at (w : World) (x : Value) (t : TypeId) (N : Nat) (h : N = w.heap.size) : ∀ j u, [x][j]? = some u → (w.alloc (.cells #[x] t)).cell? ((⟨N, 0, none⟩ : Addr).add j) = some u := by
  subst h; exact cell_one_new w x t
theorem eL_len (zs : List Int) : (eL zs).length = zs.length := by simp [eL]
theorem eL_form : ∀ (zs : List Int) (u : Value), u ∈ eL zs → (u = .nilIface ∨ ∃ T x, u = .iface T x) := by
  intro zs u h
  obtain ⟨z, _, rfl⟩ := List.mem_map.1 h
  by_cases hz : 0 < z
  · rw [if_pos hz]; exact .inr ⟨_, _, rfl⟩
  · rw [if_neg hz]; exact .inl rfl
theorem pL_pos (zs : List Int) : ∀ z ∈ pL zs, 0 < z := by
  intro z hz
  have := (List.mem_filter.1 hz).2
  simpa using this
theorem pL_len (zs : List Int) : (pL zs).length ≤ zs.length := List.length_filter_le _ _
theorem el_codes (W : World) (S : Nat → Prop) : ∀ zs, EL W S ((eL zs).filter nn) (cF (pL zs))
  | [] => trivial
  | z :: r => by
    have ih := el_codes W S r
    by_cases hz : 0 < z
    · have e1 : (eL (z :: r)).filter nn = .iface 40 (.agg #[.int .i64 z]) :: (eL r).filter nn := by
        show (List.filter nn ((if 0 < z then Value.iface 40 (.agg #[.int .i64 z]) else .nilIface) :: eL r)) = _
        rw [if_pos hz, List.filter_cons_of_pos (by rfl)]
      have e2 : pL (z :: r) = z :: pL r := by simp [pL, hz]
      rw [e1, e2]
      exact ⟨EIs.mkCode W S z hz, ih⟩
    · have e1 : (eL (z :: r)).filter nn = (eL r).filter nn := by simp [eL, hz, nn]
      have e2 : pL (z :: r) = pL r := by simp [pL, hz]
      rw [e1, e2]
      exact ih
theorem sF_c : ∀ zs, shortF (cF zs)
  | [] => trivial
  | z :: r => ⟨by simp [Fo.len], trivial, sF_c r⟩
theorem sF_w (o : ByteArray) (c : Int) (zs : List Int) (h : zs.length ≤ 1000) : shortF (.cons c o (cF zs) .nil) := ⟨by rw [cF_len]; exact h, sF_c zs, trivial⟩
theorem sF_w2 (o o' : ByteArray) (c c' : Int) (zs : List Int) (h : zs.length ≤ 1000) : shortF (.cons c o (.cons c' o' (cF zs) .nil) .nil) := ⟨by simp [Fo.len], sF_w o' c' zs h, trivial⟩
theorem may_no (o : ByteArray) (ks : Fo) (ho : o.size = 0) : mayB 0 o ks = false := by
  unfold mayB
  rw [fitsF_cons, if_neg (by omega), if_neg (by simp), if_pos (.inl ho)]
theorem may_nil (o : ByteArray) : mayB 0 o (.cons 0 ⟨#[]⟩ .nil .nil) = false := by
  by_cases ho : o.size = 0
  · exact may_no o _ ho
  · unfold mayB
    have h1 : fitsF (.cons 0 ⟨#[]⟩ .nil .nil) (20 - 1) (50 - 1) = (false, 50 - 1 - 1) := by
      rw [fitsF_cons, if_neg (by omega), if_neg (by simp), if_pos (.inl rfl)]
    rw [fitsF_cons, if_neg (by omega), if_neg (by simp), if_neg (fun h => h.elim ho (by simp [Fo.len])), h1]
    simp
theorem may_w2 (o : ByteArray) (zs : List Int) (ho : o.size ≠ 0) (hn : zs ≠ []) (hz : ∀ z ∈ zs, 0 < z) (hl : zs.length ≤ 48) : mayB 0 o (.cons 0 allB (cF zs) .nil) = true := by
  have h1 : (fitsF (.cons 0 allB (cF zs) .nil) (20 - 1) (50 - 1)).1 = true := by
    rw [fitsF_cons, if_neg (by omega), if_neg (by simp), if_neg (by rw [cF_len]; exact fun h => h.elim (by decide) (fun h => hn (List.length_eq_zero_iff.1 h))), fits_c (20 - 1 - 1) (by omega) zs (50 - 1 - 1) (by omega) hz (by omega)]
    simp [fitsF]
  unfold mayB
  rw [fitsF_cons, if_neg (by omega), if_neg (by simp), if_neg (fun h => h.elim ho (by simp [Fo.len])), if_pos h1]
  simp [fitsF]

theorem wraps_join (ys : List Int) (W wr : World) (N : Nat) (av kv : Value) (n : Nat) (es : List Value) (m : Nat) (ps : List Int) (h : WSt W wr N av kv n es m ps) (hes : es = eL ys) (hn : ys.length = n) (hn2 : n ≤ 15) (h0 : n = 0 → av = .slice none 0 0) :
    (pL ys = [] → Calls Tryd.prog 9 #[av] wr (NilPost wr)) ∧ (pL ys ≠ [] → Calls Tryd.prog 9 #[av] wr (GatPost allB (cF (pL ys)) wr)) := by
  obtain ⟨_, _, _, _, _, h6, _⟩ := h
  by_cases hz : n = 0
  · rw [h0 hz]
    have hy : ys = [] := List.length_eq_zero_iff.1 (by omega)
    subst hy
    exact ⟨fun _ => join_none wr, fun h => absurd rfl h⟩
  · obtain ⟨p, cap, rfl, hcap, b, hb, hcc⟩ := own_slice h6
    obtain ⟨rfl, hb2⟩ := hb (by omega)
    subst hes
    have hl := eL_len ys
    have J := join_some (eL ys) (cF (pL ys)) (sF_c _) wr b 0 cap (by omega) (by omega) (by omega) (fun j u hu => ⟨hcc j u hu, eL_form ys u (List.mem_of_getElem? hu)⟩) hb2 (el_codes _ _ ys)
    rw [hl, hn] at J
    refine ⟨fun h => J.1 ?_, fun h => J.2 ?_⟩
    · rw [h]; exact mayB_none _
    · exact may_c allB _ (by decide) h (pL_pos ys) (by have := pL_len ys; omega)
theorem wraps_nil (o : ByteArray) (w : World) : Calls Tryd.prog 10 #[.string o, .nilIface] w (NilPost w) :=
  (wrap_any o 0 ⟨#[]⟩ .nil ⟨by simp [Fo.len], trivial, trivial⟩ w .nilIface (.inr (.inr ⟨rfl, rfl, rfl, .inl rfl⟩))).1 (may_nil o)
theorem wraps_no (o : ByteArray) (zs : List Int) (hl : zs.length ≤ 48) (ho : o.size = 0) (w : World) (v : Value) (hE : EIs w (Lt w.heap.size) 0 allB (cF zs) v) : Calls Tryd.prog 10 #[.string o, v] w (NilPost w) :=
  (wrap_any o 0 allB (cF zs) (sF_w _ _ _ (by omega)) w v hE).1 (may_no o _ ho)
theorem wraps_yes (o : ByteArray) (zs : List Int) (ho : o.size ≠ 0) (hn : zs ≠ []) (hz : ∀ z ∈ zs, 0 < z) (hl : zs.length ≤ 48) (w : World) (v : Value) (hE : EIs w (Lt w.heap.size) 0 allB (cF zs) v) : Calls Tryd.prog 10 #[.string o, v] w (GatPost o (.cons 0 allB (cF zs) .nil) w) :=
  (wrap_any o 0 allB (cF zs) (sF_w _ _ _ (by omega)) w v hE).2 (may_w2 o zs ho hn hz hl)
theorem wraps_sh1 (zs : List Int) (hn : zs ≠ []) (hz : ∀ z ∈ zs, 0 < z) (hl : zs.length ≤ 48) (w : World) (v : Value) (hE : EIs w (Lt w.heap.size) 0 allB (cF zs) v) : Calls Tryd.prog 11 #[v] w (ShaPost 0 allB (cF zs) w) :=
  (shape_any 0 allB (cF zs) (sF_w _ _ _ (by omega)) w v hE).2 (may_c allB zs (by decide) hn hz (by omega))
theorem wraps_sh2 (o : ByteArray) (zs : List Int) (ho : o.size ≠ 0) (hn : zs ≠ []) (hz : ∀ z ∈ zs, 0 < z) (hl : zs.length ≤ 48) (w : World) (v : Value) (hE : EIs w (Lt w.heap.size) 0 o (.cons 0 allB (cF zs) .nil) v) : Calls Tryd.prog 11 #[v] w (ShaPost 0 o (.cons 0 allB (cF zs) .nil) w) :=
  (shape_any 0 o _ (sF_w2 _ _ _ _ _ (by omega)) w v hE).2 (may_w2 o zs ho hn hz hl)
theorem WSt.kat {W wr : World} {N : Nat} {av kv : Value} {n : Nat} {es : List Value} {m : Nat} {ps : List Int} (h : WSt W wr N av kv n es m ps) (hm : ps.length = m) (hm2 : m ≤ 1000) : ∃ p cap, kv = .slice p m cap ∧ KAt wr (Lt wr.heap.size) (cF ps) p m cap := by
  obtain ⟨_, _, _, _, _, _, h7⟩ := h
  obtain ⟨p, cap, rfl, hcap, b, hb, hcc⟩ := own_slice3 h7
  have hl : (cF ps).len = m := by rw [cF_len]; exact hm
  exact ⟨p, cap, rfl, hl.symm, hcap, by omega, b, 0, fun h => (hb h).1, fun h => (hb (by omega)).2.1, crow ps 0 hcc⟩
def ShaM (c : Int) (o : ByteArray) (ks : Fo) (m : Nat) (W : World) (e : Ending) (w : World) : Prop :=
  Below W.heap.size W w ∧ ∃ p cap, e = .returned (.tuple #[.agg #[.int .i64 c, .string o, .slice p m cap], .bool true]) ∧ KAt w (Btw W.heap.size w.heap.size) ks p m cap
theorem wraps_sh1m (zs : List Int) (m : Nat) (hm : zs.length = m) (hn : zs ≠ []) (hz : ∀ z ∈ zs, 0 < z) (hl : zs.length ≤ 48) (w : World) (v : Value) (hE : EIs w (Lt w.heap.size) 0 allB (cF zs) v) : Calls Tryd.prog 11 #[v] w (ShaM 0 allB (cF zs) m w) := by
  have hlen : (cF zs).len = m := by rw [cF_len]; exact hm
  subst hlen
  exact wraps_sh1 zs hn hz hl w v hE
theorem wraps_sh2m (o : ByteArray) (zs : List Int) (ho : o.size ≠ 0) (hn : zs ≠ []) (hz : ∀ z ∈ zs, 0 < z) (hl : zs.length ≤ 48) (w : World) (v : Value) (hE : EIs w (Lt w.heap.size) 0 o (.cons 0 allB (cF zs) .nil) v) : Calls Tryd.prog 11 #[v] w (ShaM 0 o (.cons 0 allB (cF zs) .nil) 1 w) :=
  wraps_sh2 o zs ho hn hz hl w v hE
theorem wraps_sam (zs : List Int) (m : Nat) (hm : zs.length = m) (w : World) (p p' : Option Addr) (cap cap' : Nat) (h1 : KAt w (Lt w.heap.size) (cF zs) p m cap) (h2 : KAt w (Lt w.heap.size) (cF zs) p' m cap') :
    Calls Tryd.prog 12 #[.agg #[.int .i64 0, .string allB, .slice p m cap], .agg #[.int .i64 0, .string allB, .slice p' m cap']] w (BoolPost true w) := by
  have hlen : (cF zs).len = m := by rw [cF_len]; exact hm
  subst hlen
  exact sam_any 0 allB (cF zs) w p p' cap cap' h1 h2
theorem wraps_has (o : ByteArray) (zs : List Int) (ho : o.size ≠ 0) (hn : zs ≠ []) (hz : ∀ z ∈ zs, 0 < z) (hl : zs.length ≤ 48) (w : World) (v : Value) (hE : EIs w (Lt w.heap.size) 0 o (.cons 0 allB (cF zs) .nil) v) (x : Int) (hx : 0 < x) (hm : x ∈ zs) :
    Calls Tryd.prog 13 #[v, .int .i64 x] w (BoolPost true w) := by
  have h := has_any x 0 o (.cons 0 allB (cF zs) .nil) (may_w2 o zs ho hn hz hl) w v hE
  have h2 : hasF x (.cons 0 o (.cons 0 allB (cF zs) .nil) .nil) = true := by simp [hasF, has_c x hx zs hm]
  rw [h2] at h
  exact h
theorem KAt.later {w w' : World} {A : Nat} {ks : Fo} {p : Option Addr} {n cap : Nat} (h : KAt w (Btw A w.heap.size) ks p n cap) (hb : Below w.heap.size w w') : KAt w' (Lt w'.heap.size) ks p n cap :=
  h.agr (fun b hb2 => hb.block b hb2.2) (fun b hb2 => Nat.lt_of_lt_of_le hb2.2 hb.size)
theorem kat_one {w : World} {S : Nat → Prop} {p : Option Addr} {cap : Nat} (zs : List Int) (m : Nat) (hm : zs.length = m) (h : KAt w S (.cons 0 allB (cF zs) .nil) p 1 cap) : ∃ b' o', p = some ⟨b', o', none⟩ ∧ 1 ≤ cap ∧ S b' ∧ w.cell? ⟨b', o', none⟩ = some (.int .i64 0) ∧ w.cell? ⟨b', o' + 1, none⟩ = some (.string allB) ∧ ∃ p6 c6, w.cell? ⟨b', o' + 2, none⟩ = some (.slice p6 m c6) ∧ KAt w S (cF zs) p6 m c6 := by
  obtain ⟨_, hcap, _, b', o', hp, hF⟩ := h
  obtain ⟨h1, h2, h3, ⟨p6, c6, h4, h5⟩, _⟩ := FAt.head hF
  have hlen : (cF zs).len = m := by rw [cF_len]; exact hm
  rw [hlen] at h4 h5
  exact ⟨b', o', hp (by omega), hcap, h1, h2, h3, p6, c6, h4, h5⟩
end Go.Proofs.YtbdicgnmaonjgaaDoor
