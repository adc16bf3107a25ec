/- gather, Wrap, Join and Shape. Conditions: the errors lie in memory; no row of kids is long. -/
import Derived.Test.YtbefcakakoaieaaShp
import Derived.WalkSpells
import Derived.WideLaws
namespace Go.Proofs.Ytbefcakakoaieaa
open Go.RowKit

def GatPost (o : ByteArray) (ks : Fo) (W : World) (e : Ending) (w : World) : Prop :=
  Below W.heap.size W w ∧ ∃ g : Nat, e = .returned (.iface 63 (.pointer (some ⟨g, 0, none⟩))) ∧ EIs w (Lt w.heap.size) 0 o ks (.iface 63 (.pointer (some ⟨g, 0, none⟩)))
def NilPost (W : World) (e : Ending) (w : World) : Prop := e = .returned .nilIface ∧ Below W.heap.size W w

theorem mayB_len {o : ByteArray} {ks : Fo} (h : mayB 0 o ks = true) : ks.len ≤ 49 ∧ shortF ks := by
  have h1 := shortF_of_fits _ _ _ (by omega) (by omega) h
  refine ⟨?_, h1.2.1⟩
  unfold mayB at h
  have h2 := okF_of_fits _ _ _ h
  conv at h => lhs; unfold fitsF
  rw [if_neg (by omega), if_neg (by simp)] at h
  split at h
  · simp at h
  · split at h
    · have := fits_len ks (20 - 1) (50 - 1) (by omega) ‹_›
      have := fitsF_le ks (20 - 1) (50 - 1) (by omega)
      omega
    · simp at h

theorem gather_any (o : ByteArray) (ks : Fo) (hs : shortF ks) (W : World) (p : Option Addr) (n cap : Nat) (hn : n < 50) (hR : REt W (Lt W.heap.size) ks p n cap) :
    (mayB 0 o ks = false → Calls Try.prog 28 #[.string o, .slice p n cap] W (NilPost W)) ∧
    (mayB 0 o ks = true → Calls Try.prog 28 #[.string o, .slice p n cap] W (GatPost o ks W)) := by
  have hlen := hR.1
  have HC := Lib.hid (sls_any ks (by omega) hs W p n cap hR)
  have HR := Lib.hid hR
  clear hR hlen
  constructor
  · intro h
    go_enter Try.func28, Try.ntmps28
    go_wp2_with fail
    refine HC.out.mono ?_
    rintro e w' ⟨hb, p', cap', rfl, hK⟩
    have HM := Lib.hid (may_any 0 o ks w' p' ks.len cap' (hK.agr (fun _ _ => rfl) (fun x hx => hx.2)))
    have HB := Lib.hid hb
    clear hb hK
    go_wp2_with fail
    refine HM.out.mono ?_
    rintro e w2 ⟨rfl, hb2⟩
    rw [h]
    have HB2 := Lib.hid hb2
    clear hb2
    go_wp2_with fail
    go_ret
    exact ⟨rfl, HB.out.trans (HB2.out.mono HB.out.size)⟩
  · intro h
    go_enter Try.func28, Try.ntmps28
    go_wp2_with fail
    refine HC.out.mono ?_
    rintro e w' ⟨hb, p', cap', rfl, hK⟩
    have HM := Lib.hid (may_any 0 o ks w' p' ks.len cap' (hK.agr (fun _ _ => rfl) (fun x hx => hx.2)))
    have HB := Lib.hid hb
    clear hb hK
    go_wp2_with fail
    refine HM.out.mono ?_
    rintro e w2 ⟨rfl, hb2⟩
    rw [h]
    have HB2 := Lib.hid hb2
    clear hb2
    go_wp2_with fail
    go_ret
    have hB : Below W.heap.size W w2 := HB.out.trans (HB2.out.mono HB.out.size)
    have hB2 := hB.trans ((below_al w2 (.cells #[.string o, .slice p n cap] 65)).mono hB.size)
    refine ⟨hB2, _, rfl, ?_⟩
    obtain ⟨e1, e2, e3, b, off, e4, e5⟩ := HR.out
    subst e1
    have e6 := e5.agr (W' := w2.alloc (.cells #[.string o, .slice p ks.len cap] 65)) (S' := Lt (w2.alloc (.cells #[.string o, .slice p ks.len cap] 65)).heap.size) (fun x hx => hB2.block x hx) (fun x hx => by have h1 := hB2.size; have h2 : x < W.heap.size := hx; show x < _; omega)
    exact .inr (.inl ⟨rfl, w2.heap.size, rfl, by show _ < _; simp, by simp, p, cap, by simp, e2, e3, b, off, fun hp => ⟨e4 hp, e6.1 hp⟩, e6.2⟩)
theorem EIs.form {w : World} {S : Nat → Prop} {c : Int} {op : ByteArray} {ks : Fo} {v : Value} (h : EIs w S c op ks v) : v = .nilIface ∨ ∃ T u, v = .iface T u := by
  rcases h with ⟨_, _, _, h⟩ | ⟨_, g, h, _⟩ | ⟨h1, h2, h3, h⟩
  · exact .inr ⟨_, _, h⟩
  · exact .inr ⟨_, _, h⟩
  · exact .inl h

/-- Wrap: a group of one. -/
theorem wrap_any (o : ByteArray) (c : Int) (o' : ByteArray) (ks : Fo) (hs : shortF (.cons c o' ks .nil)) (W : World) (v : Value) (hE : EIs W (Lt W.heap.size) c o' ks v) :
    (mayB 0 o (.cons c o' ks .nil) = false → Calls Try.prog 19 #[.string o, v] W (NilPost W)) ∧
    (mayB 0 o (.cons c o' ks .nil) = true → Calls Try.prog 19 #[.string o, v] W (GatPost o (.cons c o' ks .nil) W)) := by
  have hR : REt (W.alloc (.cells #[v] 29)) (Lt (W.alloc (.cells #[v] 29)).heap.size) (.cons c o' ks .nil) (some ⟨W.heap.size, 0, none⟩) 1 1 := by
    refine ⟨rfl, by omega, by omega, W.heap.size, 0, fun _ => rfl, fun _ => by show _ < _; simp, ⟨v, by simp, ?_⟩, trivial⟩
    exact hE.agr (fun x hx => (below_al W _).block x hx) (fun x hx => by have h2 : x < W.heap.size := hx; show x < _; simp; omega)
  have hG := gather_any o (.cons c o' ks .nil) hs (W.alloc (.cells #[v] 29)) _ 1 1 (by omega) hR
  have HB := Lib.hid (below_al W (.cells #[v] 29))
  rcases hE.form with rfl | ⟨T, u, rfl⟩
  all_goals
    clear hE hR
    constructor
    · intro h
      have HC := Lib.hid (hG.1 h)
      clear hG
      go_enter Try.func19, Try.ntmps19
      go_wp2_with fail
      refine HC.out.mono ?_
      rintro e w' ⟨rfl, hb⟩
      have HB2 := Lib.hid hb
      clear hb
      go_wp2_with fail
      go_ret
      exact ⟨rfl, HB.out.trans (HB2.out.mono (by simp))⟩
    · intro h
      have HC := Lib.hid (hG.2 h)
      clear hG
      go_enter Try.func19, Try.ntmps19
      go_wp2_with fail
      refine HC.out.mono ?_
      rintro e w' ⟨hb, g, rfl, hv⟩
      have HB2 := Lib.hid hb
      have HV := Lib.hid hv
      clear hb hv
      go_wp2_with fail
      go_ret
      exact ⟨HB.out.trans (HB2.out.mono (by simp)), g, rfl, HV.out⟩

/-- Is it an error at all. -/
def nn : Value → Bool
  | .nilIface => false
  | _ => true

def EL (W : World) (S : Nat → Prop) : List Value → Fo → Prop
  | [], .nil => True
  | v :: vs, .cons c o ks r => EIs W S c o ks v ∧ EL W S vs r
  | _, _ => False

theorem EL.len {W : World} {S : Nat → Prop} : ∀ {vs : List Value} {F : Fo}, EL W S vs F → vs.length = F.len
  | [], .nil, _ => rfl
  | v :: vs, .cons c o ks r, h => by simp only [List.length_cons, Fo.len]; rw [EL.len h.2]
  | [], .cons _ _ _ _, h => h.elim
  | _ :: _, .nil, h => h.elim

theorem EL.row {W W' : World} {S S' : Nat → Prop} (ha : ∀ b, S b → W'.heap[b]? = W.heap[b]?) (hS : ∀ b, S b → S' b) {b : Nat} : ∀ {vs : List Value} {F : Fo} (o : Nat), EL W S vs F → (∀ j u, vs[j]? = some u → W'.cell? ⟨b, o + j, none⟩ = some u) → ERow W' S' F b o
  | [], .nil, _, _, _ => trivial
  | v :: vs, .cons c o ks r, off, h, hc => by
    refine ⟨⟨v, hc 0 v rfl, h.1.agr ha hS⟩, EL.row ha hS (off + 1) h.2 fun j u hu => ?_⟩
    have := hc (j + 1) u (by simpa using hu)
    rw [show off + 1 + j = off + (j + 1) by omega]; exact this
  | [], .cons _ _ _ _, _, h, _ => h.elim
  | _ :: _, .nil, _, h, _ => h.elim

theorem take_filter_snoc {p : Value → Bool} {vs : List Value} {k : Nat} {v : Value} (h : vs[k]? = some v) : (vs.take (k + 1)).filter p = (vs.take k).filter p ++ (if p v then [v] else []) := by
  obtain ⟨hk, rfl⟩ := List.getElem?_eq_some_iff.1 h
  rw [List.take_succ_eq_append_getElem hk, List.filter_append]
  cases hp : p vs[k] <;> simp [hp]

def allB : ByteArray := ⟨#[97, 108, 108]⟩

theorem own_slice {w : World} {base n : Nat} {v : Value} {xs : List Value} (h : w.ownsRow base 29 1 v n xs) : ∃ p cap, v = .slice p n cap ∧ n ≤ cap ∧ ∃ b, (0 < n → p = some ⟨b, 0, none⟩ ∧ b < w.heap.size) ∧ ∀ j u, xs[j]? = some u → w.cell? ⟨b, 0 + j, none⟩ = some u := by
  rcases h.2 with ⟨rfl, rfl⟩ | ⟨g, cap, cur, rfl, hb, hg, hc, _, _, htake⟩
  · have hx : xs = [] := by have := h.1; simpa using this
    subst hx
    exact ⟨none, 0, rfl, Nat.le_refl _, 0, fun h => absurd h (by omega), fun j u hu => by simp at hu⟩
  · refine ⟨_, cap, rfl, hc, g, fun _ => ⟨rfl, (Array.getElem?_eq_some_iff.1 hg).1⟩, fun j u hu => ?_⟩
    have := World.ownsRow.cells h rfl j u hu
    rw [Nat.zero_add]
    have hadd : (⟨g, 0, none⟩ : Addr).add j = ⟨g, j, none⟩ := by unfold Addr.add; split <;> simp_all
    rw [← hadd]; exact this

def VPost (R : Value → World → Prop) (W : World) (e : Ending) (w : World) : Prop := ∃ v, e = .returned v ∧ Below W.heap.size W w ∧ R v w
theorem run_neq_iface_nil_e (w : World) (T : TypeId) (x : Value) : (binOp .neq 29 (.iface T x) .nilIface).run Try.prog w = .ok (.bool true) w := run_neq_held_nil w 29 T x (by kernel_rfl)

set_option maxRecDepth 100000 in
theorem join_some (vs : List Value) (F : Fo) (hs : Hid (shortF F)) (W : World) (b off cap : Nat) (hn : 0 < vs.length) (hn2 : vs.length < 50) (hcap : vs.length ≤ cap)
    (hcell : Hid (∀ j u, vs[j]? = some u → W.cell? ⟨b, off + j, none⟩ = some u ∧ (u = .nilIface ∨ ∃ T x, u = .iface T x))) (hb : b < W.heap.size) (hE : Hid (EL W (Lt W.heap.size) (vs.filter nn) F)) :
    (mayB 0 allB F = false → Calls Try.prog 21 #[.slice (some ⟨b, off, none⟩) vs.length cap] W (NilPost W)) ∧
    (mayB 0 allB F = true → Calls Try.prog 21 #[.slice (some ⟨b, off, none⟩) vs.length cap] W (GatPost allB F W)) := by
  have hl : (vs.filter nn).length ≤ vs.length := List.length_filter_le _ _
  have HL := Lib.hid hE.out.len
  have hlf : F.len < 50 := by have := HL.out; omega
  clear hl
  obtain ⟨i0, hi, hz0, hz1, hz2⟩ := info_parts Try.info29
  have main : ∀ (R : Value → World → Prop), (∀ w1 : World, Below W.heap.size W w1 → ∀ p c, REt w1 (Lt w1.heap.size) F p F.len c → Calls Try.prog 28 #[.string allB, .slice p F.len c] w1 (VPost R w1)) →
      Calls Try.prog 21 #[.slice (some ⟨b, off, none⟩) vs.length cap] W (VPost R W) := by
    intro R hQ
    have HQ := Lib.hid hQ
    clear hQ
    generalize hN : vs.length = n at *
    have HN := Lib.hid hN
    clear hN
    go_enter Try.func21, Try.ntmps21
    go_wp2_with fail
    go_loopw [3, 8] (fun kv i wr => ∃ (k : Nat) (xs : List Value), k ≤ n ∧ xs.length ≤ k ∧ i = .int .i64 k ∧ wr.ownsRow W.heap.size 29 1 kv xs.length xs ∧ Hid (Below W.heap.size W wr) ∧ Hid (xs = (vs.take k).filter nn)) (fun _ i _ => n - (intOf i).toNat)
    case atStart => exact ⟨0, [], by omega, by simp, rfl, World.ownsRow_nil _ _ _ _, Below.refl _ _, rfl⟩
    case round =>
      obtain ⟨k, xs, hk, hxk, rfl, hown, hB, hxs⟩ := hrel
      by_cases hlt : k < n
      · have hkv : k < vs.length := by rw [HN.out]; exact hlt
        obtain ⟨hc, hform⟩ := hcell.out k (vs[k]'hkv) (List.getElem?_eq_getElem hkv)
        have hT := take_filter_snoc (p := nn) (List.getElem?_eq_getElem hkv)
        have hcw : wr.cell? ⟨b, off + k, none⟩ = some (vs[k]'hkv) := by rw [cell_blk (hB.out.block b hb)]; exact hc
        generalize vs[k]'hkv = u at *
        clear hkv hc
        rcases hform with rfl | ⟨T, x, rfl⟩
        · have HT := Lib.hid hT
          clear hT
          go_wp2_with fail
          go_roundw
          case rel => exact ⟨k + 1, xs, by omega, by omega, by go_num, hown, hB, by show _ = _; rw [HT.out, hxs.out]; simp [nn]⟩
          case measure => simp [intOf]; omega
        · have HT := Lib.hid hT
          have hne := run_neq_iface_nil_e wr T x
          clear hT
          have hsz := hB.out.size
          go_wp2_with (at_builtin; go_loud (refine wpList_append_own _ rfl _ _ 45 rfl W.heap.size 29 i0 .nilIface 1 16 Try.underlying45 hi hz0 hz1 hz2 rfl (by decide) _ _ _ rfl (hown.alloc _) ⟨wr.heap.size, 0, none⟩ 1 1 [.iface T x] rfl rfl (cell_one_new _ _ _) (by intro y hy; simp at hy; subst hy; rfl) (by unfold maxLen; omega) (by omega) (by simp; omega) ?_; intro v' w1 hown1 hgrow1 _))
          have hB1 : Hid (Below W.heap.size W w1) := (hB.out.trans ((below_al wr _).mono hsz)).grown hgrow1 (by simp; omega) (fun j hj => (hown.lt j hj).1)
          have hx2 : Hid (xs ++ [.iface T x] = (vs.take (k + 1)).filter nn) := by show _ = _; rw [HT.out, ← hxs.out]; simp [nn]
          clear hgrow1 hown
          go_roundw
          case rel => exact ⟨k + 1, xs ++ [.iface T x], by omega, by simp; omega, by go_num, by simpa using hown1, hB1, hx2⟩
          case measure => simp [intOf]; omega
      · obtain rfl : k = n := by omega
        obtain ⟨p, c, rfl, hpc, bb, hbb, hcc⟩ := own_slice hown
        have hxs2 : xs = vs.filter nn := by rw [hxs.out, ← HN.out, List.take_length]
        have hxl : xs.length = F.len := by rw [hxs2]; exact HL.out
        have hsz := hB.out.size
        have hR : REt wr (Lt wr.heap.size) F p F.len c := by
          refine ⟨rfl, by omega, by omega, bb, 0, fun hp => (hbb (by omega)).1, fun hp => (hbb (by omega)).2, ?_⟩
          refine EL.row (W := W) (S := Lt W.heap.size) (fun x hx => hB.out.block x hx) (fun x hx => Nat.lt_of_lt_of_le hx hsz) 0 (vs := xs) ?_ hcc
          rw [hxs2]; exact hE.out
        have HC := Lib.hid (HQ.out wr hB.out p c hR)
        rw [hxl] at hown ⊢
        clear hR hcc hbb hxs2 hown hxl hpc
        go_wp2_with fail
        refine HC.out.mono ?_
        rintro e w' ⟨v, rfl, hb', hv⟩
        have HV := Lib.hid hv
        have HB' := Lib.hid hb'
        clear hv hb'
        go_wp2_with fail
        go_ret
        exact ⟨v, rfl, hB.out.trans (HB'.out.mono hsz), HV.out⟩
  constructor
  · intro h
    refine (main (fun v _ => v = .nilIface) fun w1 hb1 p c hR => ((gather_any allB F hs.out w1 p F.len c hlf hR).1 h).mono ?_).mono ?_
    · rintro e w ⟨rfl, h2⟩; exact ⟨_, rfl, h2, rfl⟩
    · rintro e w ⟨v, rfl, h2, rfl⟩; exact ⟨rfl, h2⟩
  · intro h
    refine (main (fun v w => ∃ g : Nat, v = .iface 63 (.pointer (some ⟨g, 0, none⟩)) ∧ EIs w (Lt w.heap.size) 0 allB F v) fun w1 hb1 p c hR => ((gather_any allB F hs.out w1 p F.len c hlf hR).2 h).mono ?_).mono ?_
    · rintro e w ⟨h2, g, rfl, h3⟩; exact ⟨_, rfl, h2, g, rfl, h3⟩
    · rintro e w ⟨v, rfl, h2, g, rfl, h3⟩; exact ⟨h2, g, rfl, h3⟩
#print axioms join_some
end Go.Proofs.Ytbefcakakoaieaa
