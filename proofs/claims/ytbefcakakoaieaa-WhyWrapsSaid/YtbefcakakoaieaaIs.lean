/- errors.Is finds in an error just the codes of its shape. Conditions: the error lies in memory, each group of it was made here. -/
import Derived.Test.YtbefcakakoaieaaIsF
namespace Go.Proofs.Ytbefcakakoaieaa
open Go.RowKit Go.Extern.Stop Go.Stop Go.Extern
set_option linter.unusedVariables false

/-- A row of errors as a list of values. -/
theorem ERow.list {W : World} {S : Nat → Prop} {b : Nat} : ∀ (F : Fo) (o : Nat), ERow W S F b o → ∃ vs, EL W S vs F ∧ ∀ j u, vs[j]? = some u → W.cell? ⟨b, o + j, none⟩ = some u
  | .nil, o, _ => ⟨[], trivial, fun j u h => by simp at h⟩
  | .cons c op ks r, o, ⟨⟨v, h1, h2⟩, h3⟩ => by
    obtain ⟨vs, h4, h5⟩ := ERow.list r (o + 1) h3
    refine ⟨v :: vs, ⟨h2, h4⟩, fun j u hu => ?_⟩
    cases j with
    | zero => simp at hu; subst hu; exact h1
    | succ j => rw [show o + (j + 1) = o + 1 + j by omega]; exact h5 j u (by simpa using hu)
theorem EL.form {W : World} {S : Nat → Prop} : ∀ {vs : List Value} {F : Fo}, EL W S vs F → ∀ u ∈ vs, u.oneCell' = true
  | [], .nil, _ => by intro u hu; simp at hu
  | v :: vs, .cons c o ks r, h => by
    intro u hu
    rcases List.mem_cons.1 hu with rfl | hu
    · rcases h.1.form with rfl | ⟨T, x, rfl⟩ <;> rfl
    · exact EL.form h.2 u hu
  | [], .cons _ _ _ _, h => h.elim
  | _ :: _, .nil, h => h.elim

def ClnPost (S : Nat → Prop) (ks : Fo) (W : World) (e : Ending) (w : World) : Prop :=
  Below W.heap.size W w ∧ ∃ b cap, e = .returned (.slice (some ⟨b, 0, none⟩) ks.len cap) ∧ ks.len ≤ cap ∧ b < w.heap.size ∧ ERow w S ks b 0

theorem cln_cells {W : World} {b o : Nat} {vs : List Value} {ob : Obj} (hb : b < W.heap.size) (h : ∀ (j : Nat) (u : Value), vs[j]? = some u → W.cell? ⟨b, o + j, none⟩ = some u) :
    ∀ j u, vs[j]? = some u → (W.alloc ob).cell? ((⟨b, o, none⟩ : Addr).add j) = some u := by
  intro j u hu
  have hadd : (⟨b, o, none⟩ : Addr).add j = ⟨b, o + j, none⟩ := by unfold Addr.add; split <;> simp_all
  rw [hadd, cell_al _ hb]; exact h j u hu

set_option maxRecDepth 100000 in
theorem clone_some (S : Nat → Prop) (ks : Fo) (W : World) (hS : ∀ x, S x → x < W.heap.size) (b o cap : Nat) (hn : 0 < ks.len) (hn2 : ks.len ≤ 1000) (hE : EAt W S ks b o) (hcap : ks.len ≤ cap) :
    Calls Try.prog 71 #[.slice (some ⟨b, o, none⟩) ks.len cap] W (ClnPost S ks W) := by
  obtain ⟨i0, hi, hz0, hz1, hz2⟩ := info_parts Try.info29
  obtain ⟨vs, h4, h5⟩ := ERow.list ks o hE.2
  have hvl := h4.len
  have hone := h4.form
  have hb : b < W.heap.size := hS _ (hE.1 hn)
  have HS := Lib.hid hS
  clear hS
  have H4 := Lib.hid h4
  have HL := Lib.hid hvl
  have HO := Lib.hid hone
  have H5 := Lib.hid h5
  clear h4 h5 hvl hone hE
  generalize hN : ks.len = n at *
  have HN := Lib.hid hN
  clear hN
  have hnil : ∀ w : World, (binOp .eql 45 (.slice (some ⟨b, o, none⟩) n cap) (.slice none 0 0)).run Try.prog w = .ok (.bool false) w := fun w => by kernel_rfl
  go_enter Try.func71, Try.ntmps71
  go_wp2_with (at_builtin; go_loud (refine wpList_append_own _ rfl _ _ 45 rfl W.heap.size 29 i0 .nilIface 1 16 Try.underlying45 hi hz0 hz1 hz2 rfl (by decide) _ 0 [] rfl (World.ownsRow_made W #[] 0 (Nat.le_refl _) (by unfold maxLen; omega) (by simp)) ⟨b, o, none⟩ n cap vs rfl (by rw [HL.out]; omega) (cln_cells hb H5.out) HO.out (by unfold maxLen; omega) (by omega) (by simp) ?_; intro v' w1 hown1 hgrow1 _; have OW := Lib.hid hown1; have GR := Lib.hid hgrow1; clear hown1 hgrow1))
  go_ret
  have hown := OW.out
  have hB : Below W.heap.size W w1 := ((below_al W (.cells #[] 29)).grown GR.out (by simp) (fun k hk => by have hk2 : some W.heap.size = some k := hk; injection hk2; omega))
  simp only [Nat.zero_add, List.nil_append] at hown
  obtain ⟨p, c, rfl, hpc, bb, hbb, hcc⟩ := own_slice hown
  obtain ⟨rfl, hbl⟩ := hbb hn
  refine ⟨hB, bb, c, by rw [HN.out]; rfl, by rw [HN.out]; exact hpc, hbl, ?_⟩
  exact EL.row (W := W) (S := S) (fun x hx => hB.block x (HS.out x hx)) (fun x hx => hx) 0 H4.out hcc
theorem unwrap_any (S : Nat → Prop) (ks : Fo) (W : World) (hS : ∀ x, S x → x < W.heap.size) (g b o cap : Nat) (hn : 0 < ks.len) (hn2 : ks.len ≤ 1000) (hg : W.cell? ⟨g, 1, none⟩ = some (.slice (some ⟨b, o, none⟩) ks.len cap)) (hE : EAt W S ks b o) (hcap : ks.len ≤ cap) :
    Calls Try.prog 69 #[.pointer (some ⟨g, 0, none⟩)] W (ClnPost S ks W) := by
  have HC := Lib.hid (clone_some S ks W hS b o cap hn hn2 hE hcap)
  clear hE hS
  go_enter Try.func69, Try.ntmps69
  go_wp2_with fail
  refine HC.out.mono ?_
  rintro e w' ⟨hb, bb, c, rfl, hc, hbl, hR⟩
  have HB := Lib.hid hb
  have HR := Lib.hid hR
  clear hb hR
  go_wp2_with fail
  go_ret
  exact ⟨HB.out, bb, c, rfl, hc, hbl, HR.out⟩

/-- Is a code among those of a row of shapes. -/
def hasF (x : Int) : Fo → Bool
  | .nil => false
  | .cons c _ ks r => (decide (0 < c) && c == x) || hasF x ks || hasF x r

def IsPost (x : Int) (F : Fo) (W : World) (e : Ending) (w : World) : Prop := e = .returned (.bool (hasF x F)) ∧ Below W.heap.size W w
def IsC (x : Int) (c : Int) (o : ByteArray) (ks : Fo) : Prop :=
  okF (.cons c o ks .nil) → shortF (.cons c o ks .nil) → ∀ (W : World) (v : Value), EIs W (Lt W.heap.size) c o ks v →
    Calls Try.prog 37 #[v, .iface 51 (.agg #[.int .i64 x]), .bool true] W (IsPost x (.cons c o ks .nil) W)

set_option maxRecDepth 100000 in
theorem is_code (x c : Int) (W : World) (o : ByteArray) (hc : 0 < c) :
    Calls Try.prog 37 #[.iface 51 (.agg #[.int .i64 c]), .iface 51 (.agg #[.int .i64 x]), .bool true] W (IsPost x (.cons c o .nil .nil) W) := by
  have h1 := Try.eqCode c x
  have h2 := Try.noIsC
  have h3 := Try.noUnC
  have h4 := Try.noUnsC
  by_cases hx : c = x
  · subst hx
    have g : (c == c) = true := by simp
    go_enter Try.func37, Try.ntmps37
    go_wp2_with fail
    refine wp_loop_rounds 1 ?_
    rw [rounds_succ]
    go_wp2_with fail
    go_ret
    exact ⟨ret_bool (by simp [hasF, hc]), Below.refl _ _⟩
  · have g : (c == x) = false := by rw [beq_eq_false_iff_ne]; exact hx
    go_enter Try.func37, Try.ntmps37
    go_wp2_with fail
    refine wp_loop_rounds 1 ?_
    rw [rounds_succ]
    go_wp2_with fail
    go_ret
    exact ⟨ret_bool (by simp [hasF, hx]), Below.refl _ _⟩


set_option maxRecDepth 100000 in
theorem is_group (x : Int) (o : ByteArray) (ks : Fo) (hks : Hid (ks.All (IsC x))) (hok : Hid (okF ks)) (hsh : Hid (shortF ks)) (W : World) (g b off cap : Nat) (hn : 0 < ks.len) (hn2 : ks.len ≤ 1000)
    (hg : W.cell? ⟨g, 1, none⟩ = some (.slice (some ⟨b, off, none⟩) ks.len cap)) (hE : EAt W (Lt W.heap.size) ks b off) (hcap : ks.len ≤ cap) :
    Calls Try.prog 37 #[.iface 63 (.pointer (some ⟨g, 0, none⟩)), .iface 51 (.agg #[.int .i64 x]), .bool true] W (IsPost x (.cons 0 o ks .nil) W) := by
  have HU := Lib.hid (unwrap_any (Lt W.heap.size) ks W (fun _ h => h) g b off cap hn hn2 hg hE hcap)
  have h1 := Try.eqGroup
  have h2 := Try.noIsG
  have h3 := Try.noUnG
  have h4 := Try.hasUnsG
  have h5 := Try.methodUnwrap
  clear hE hg
  go_enter Try.func37, Try.ntmps37
  go_wp2_with fail
  refine wp_loop_rounds 1 ?_
  rw [rounds_succ]
  go_wp2_with fail
  refine HU.out.mono ?_
  rintro e w0 ⟨hb0, bb, cc, rfl, hcc, hbl, hR⟩
  have HB0 := Lib.hid hb0
  have HR := Lib.hid hR
  clear hb0 hR
  generalize hN : ks.len = n at *
  have HN := Lib.hid hN
  clear hN
  go_wp2_with fail
  go_loopw [45] (fun i wr => ∃ (R : Fo) (k : Nat), Hid (k + R.len = n) ∧ k ≤ n ∧ i = .int .i64 k ∧ Hid (Below W.heap.size W wr) ∧ bb < wr.heap.size ∧ Hid (EAt wr (Lt wr.heap.size) R bb k) ∧ Hid (R.All (IsC x)) ∧ Hid (okF R) ∧ Hid (shortF R) ∧ Hid (hasF x ks = hasF x R)) (fun i _ => n - (intOf i).toNat)
  case atStart => exact ⟨ks, 0, by have := HN.out; show _ = _; omega, by omega, rfl, HB0, hbl, ⟨fun _ => hbl, ERow.agr (fun _ _ => rfl) (fun y hy => Nat.lt_of_lt_of_le hy HB0.out.size) _ _ _ (fun _ _ => rfl) HR.out⟩, hks, hok, hsh, rfl⟩
  case round =>
    obtain ⟨R, k, hk1, hkn, rfl, hB, hbl', hE', hAll, hok', hsh', hEq⟩ := hrel
    cases R with
    | nil =>
      obtain rfl : k = n := by have := hk1.out; simp only [Fo.len] at this; omega
      go_wp2_with fail
      go_ret
      exact ⟨ret_bool (by simp [hasF]; rw [hEq.out]; rfl), hB.out⟩
    | cons c' o' ks' R' =>
      have hlt : k < n := by have := hk1.out; simp only [Fo.len] at this; omega
      obtain ⟨hbL, ⟨v, q1, q2⟩, q5⟩ := EAt.head hE'.out
      have Q5 := Lib.hid q5
      have HC := Lib.hid (hAll.out.1 ⟨hok'.out.1, trivial⟩ ⟨hsh'.out.1, hsh'.out.2.1, trivial⟩ wr v q2)
      clear q2 q5
      generalize hr : hasF x (.cons c' o' ks' .nil) = r at *
      have HE : Hid (hasF x (.cons c' o' ks' R') = (r || hasF x R')) := by show _ = _; rw [← hr]; simp [hasF]
      have HRr := Lib.hid hr
      clear hr
      cases r with
      | true =>
        go_wp2_with fail
        refine HC.out.mono ?_
        rintro e w' ⟨he, hb'⟩
        rw [HRr.out] at he
        subst he
        have HB' := Lib.hid hb'
        clear hb'
        go_wp2_with fail
        go_ret
        exact ⟨ret_bool (by simp [hasF]; rw [hEq.out, HE.out]; rfl), hB.out.trans (HB'.out.mono hB.out.size)⟩
      | false =>
        go_wp2_with fail
        refine HC.out.mono ?_
        rintro e w' ⟨he, hb'⟩
        rw [HRr.out] at he
        subst he
        have HB' := Lib.hid hb'
        have hs' := hb'.size
        clear hb'
        go_wp2_with fail
        go_roundw
        case rel =>
          refine ⟨R', k + 1, ?_, by omega, by go_num, hB.out.trans (HB'.out.mono hB.out.size), by omega, ?_, hAll.out.2, hok'.out.2, hsh'.out.2.2, ?_⟩
          · have := hk1.out; simp only [Fo.len] at this; show _ = _; omega
          · exact Q5.out.agr (fun y hy => HB'.out.block y hy) (fun y hy => Nat.lt_of_lt_of_le hy hs')
          · show _ = _; rw [hEq.out, HE.out]; rfl
        case measure => simp [intOf]; omega

theorem is_tree (x c : Int) (o : ByteArray) (ks : Fo) (h : ks.All (IsC x)) : IsC x c o ks := by
  intro hok hsh W v hv
  rcases hv with ⟨h1, h2, h3, rfl⟩ | ⟨rfl, g, rfl, h2, h3, p, cap, h4, h5, h6, b, o', h7, h8⟩ | ⟨rfl, h2, h3, hv⟩
  · have hk : ks = .nil := by cases ks with | nil => rfl | cons _ _ _ _ => simp [Fo.len] at h3
    subst hk
    exact is_code x c W o h1
  · rcases hok.1 with ⟨h9, _⟩ | ⟨_, _, h10, h11⟩
    · omega
    · have hn : 0 < ks.len := by omega
      obtain ⟨rfl, hb⟩ := h7 hn
      exact is_group x o ks h h11 hsh.2.1 W g b o' cap hn hsh.1 h4 ⟨fun _ => hb, h8⟩ h5
  · rcases hok.1 with ⟨h9, _⟩ | ⟨_, h9, _⟩
    · omega
    · exact absurd h2 h9
theorem is_all (x : Int) : ∀ F : Fo, F.All (IsC x)
  | .nil => trivial
  | .cons c o ks r => ⟨is_tree x c o ks (is_all x ks), is_all x r⟩
theorem is_any (x c : Int) (o : ByteArray) (ks : Fo) : IsC x c o ks := is_tree x c o ks (is_all x ks)
#print axioms is_any
end Go.Proofs.Ytbefcakakoaieaa
