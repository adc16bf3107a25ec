/- What an error says. Conditions: the error lies in memory, each group of it was made here; its codes are in range (from 100 on the table that strconv reads lies as its program lays it); its text is not too long. -/
import Derived.Test.YtbefcakakoaieaaHas
import Derived.Test.YtbefcakakoaieaaShl
import Derived.WalkSmall
import Derived.Lib.ItoaLen
namespace Go.Proofs.Ytbefcakakoaieaa
open Go.RowKit Go.Sort Go.Extern.Stop Go.Stop Go.Extern
set_option linter.unusedVariables false

def StrPost (s : List UInt8) (W : World) (e : Ending) (w : World) : Prop := e = .returned (.string ⟨s.toArray⟩) ∧ Below W.heap.size W w

/-- In W, and behind it, strconv.Itoa says s c of a code. -/
def ItOk (s : Int → List UInt8) (W : World) (c : Int) : Prop := (s c).length ≤ 24 ∧ ∀ w, Below W.heap.size W w → Calls Try.prog 54 #[.int .i64 c] w (StrPost (s c) w)
theorem ItOk.below {s : Int → List UInt8} {W W' : World} {c : Int} (h : ItOk s W c) (hb : Below W.heap.size W W') : ItOk s W' c :=
  ⟨h.1, fun w h' => h.2 w (hb.trans (h'.mono hb.size))⟩
theorem ItOk.small (W : World) (c : Int) (h0 : 0 ≤ c) (h1 : c < 100) : ItOk Lib.itoa W c := by
  refine ⟨Nat.le_trans (Lib.itoa_length_le c (by omega) (by omega)) (by omega), fun w _ => ?_⟩
  obtain ⟨n, rfl⟩ := Int.eq_ofNat_of_zero_le h0
  refine (Try.strconv_Itoa_small n (by omega) w).mono ?_
  rintro e w ⟨rfl, rfl⟩
  refine ⟨?_, Below.refl _ _⟩
  unfold Lib.itoa
  rw [if_neg (by omega)]; rfl

/-- `code ` and the number. -/
def codeT (s : Int → List UInt8) (c : Int) : List UInt8 := [99, 111, 100, 101, 32] ++ s c
variable {s : Int → List UInt8}

theorem ret_str {a b : ByteArray} (h : a = b) : Ending.returned (.string a) = .returned (.string b) := by rw [h]
theorem str_app (a b : List UInt8) : (⟨a.toArray⟩ ++ ⟨b.toArray⟩ : ByteArray) = ⟨(a ++ b).toArray⟩ := by
  apply ByteArray.ext; simp

theorem code_err (c : Int) (W : World) (h : ItOk s W c) : Calls Try.prog 53 #[.agg #[.int .i64 c]] W (StrPost (codeT s c) W) := by
  have HC := Lib.hid (h.2 (W.alloc (.cells #[.int .i64 c] 51)) (below_al _ _))
  have hl := h.1
  clear h
  go_enter Try.func53, Try.ntmps53
  go_wp2_with fail
  refine HC.out.mono ?_
  rintro e w' ⟨rfl, hb⟩
  have HB := Lib.hid hb
  clear hb
  go_wp2_with fail
  go_ret
  exact ⟨ret_str (str_app [99, 111, 100, 101, 32] (s c)), (below_al _ _).trans (HB.out.mono (by simp))⟩

/-- What each of a row of shapes says. -/
def sayL (s : Int → List UInt8) : Fo → List (List UInt8)
  | .nil => []
  | .cons c o ks r => (if 0 < c then codeT s c else o.data.toList ++ [58, 32] ++ Lib.join (sayL s ks) [59, 32]) :: sayL s r
def sayT (s : Int → List UInt8) (c : Int) (o : ByteArray) (ks : Fo) : List UInt8 := if 0 < c then codeT s c else o.data.toList ++ [58, 32] ++ Lib.join (sayL s ks) [59, 32]
theorem sayL_len : ∀ F : Fo, (sayL s F).length = F.len
  | .nil => rfl
  | .cons c o ks r => by simp [sayL, Fo.len, sayL_len r]

/-- All codes of a row can be told. -/
def ItF (s : Int → List UInt8) (W : World) : Fo → Prop
  | .nil => True
  | .cons c _ ks r => (0 < c → ItOk s W c) ∧ ItF s W ks ∧ ItF s W r
theorem ItF.below {W W' : World} (hb : Below W.heap.size W W') : ∀ {F : Fo}, ItF s W F → ItF s W' F
  | .nil, _ => trivial
  | .cons c _ ks r, ⟨h1, h2, h3⟩ => ⟨fun h => (h1 h).below hb, ItF.below hb h2, ItF.below hb h3⟩

/-- No text of a row of shapes is long, nor of what is below. -/
def shortT (s : Int → List UInt8) : Fo → Prop
  | .nil => True
  | .cons c o ks r => o.size ≤ 1000000 ∧ (Lib.join (sayL s ks) [59, 32]).length ≤ 1000000000 ∧ shortT s ks ∧ shortT s r

theorem Try.mErr40 (v : Value) (w : World) : (Go.method 241 51 v "Error").run Try.prog w = .ok (53, v) w := by kernel_rfl
theorem Try.mErr63 (v : Value) (w : World) : (Go.method 241 63 v "Error").run Try.prog w = .ok (68, v) w := by kernel_rfl
theorem Try.info9 : (Try.prog.info? 9).map (fun i => (i.zero, i.size, i.bytes)) = some (some (.string ⟨#[]⟩), 1, 16) := by kernel_rfl

/-- One more string in a row of the call's own. -/
theorem step_str {wr w' : World} {K n k : Nat} {xs : List ByteArray} {s : ByteArray} (hO : Own wr K n) (hX : ∀ (j : Nat) x, xs[j]? = some x → wr.cell? ⟨K, 0 + j, none⟩ = some (.string x)) (hk : xs.length = k) (hkn : k < n) (hb : Below wr.heap.size wr w') :
    Below K wr (w'.setCell ⟨K, k, none⟩ (.string s)) ∧ Own (w'.setCell ⟨K, k, none⟩ (.string s)) K n ∧
      ∀ (j : Nat) x, (xs ++ [s])[j]? = some x → (w'.setCell ⟨K, k, none⟩ (.string s)).cell? ⟨K, 0 + j, none⟩ = some (.string x) := by
  have hKs := hO.lt
  have hO2 : Own w' K n := hO.below hb
  refine ⟨(hb.mono (B' := K) (by omega)).setCell (p := ⟨K, k, none⟩) (Nat.le_refl _) _, hO2.set _ _, fun j x hx => ?_⟩
  by_cases hj : j < xs.length
  · rw [List.getElem?_append_left hj] at hx
    rw [cell_set_other (.inr (by omega)), cell_blk (hb.block K hKs)]; exact hX j x hx
  · rw [List.getElem?_append_right (by omega)] at hx
    have hj2 : j = k := by
      rcases Nat.lt_or_ge (j - xs.length) 1 with h | h
      · omega
      · rw [List.getElem?_eq_none (by simpa using h)] at hx; cases hx
    subst hj2
    rw [hk, Nat.sub_self] at hx
    simp at hx
    subst hx
    rw [Nat.zero_add]
    exact cell_set_same hO2 hkn

theorem add_bound {o : ByteArray} {l : List UInt8} (h1 : o.size ≤ 1000000) (h2 : l.length ≤ 1000000000) : (o ++ (⟨#[58, 32]⟩ : ByteArray)).size + (⟨l.toArray⟩ : ByteArray).size ≤ 9223372036854775807 := by
  rw [ByteArray.size_append]
  show o.size + 2 + l.toArray.size ≤ _
  rw [List.size_toArray]; omega
theorem say_str (o : ByteArray) (l : List UInt8) : ((o ++ (⟨#[58, 32]⟩ : ByteArray)) ++ (⟨l.toArray⟩ : ByteArray)) = ⟨(if (0 : Int) < 0 then codeT s 0 else o.data.toList ++ [58, 32] ++ l).toArray⟩ := by
  rw [if_neg (by omega)]
  apply ByteArray.ext; simp
theorem join_at {wr : World} {g K n : Nat} {xs : List ByteArray} {ks : Fo} (hn : xs.length = n) (hE : sayL s ks = xs.map (·.data.toList)) (hK : K < wr.heap.size) (hX : ∀ (j : Nat) x, xs[j]? = some x → wr.cell? ⟨K, 0 + j, none⟩ = some (.string x))
    (hl : (Lib.join (sayL s ks) [59, 32]).length ≤ 1000000000) (hn2 : n ≤ 1000) :
    ∀ w', Below wr.heap.size wr w' → Calls Try.prog 70 #[.slice (some ⟨K, 0, none⟩) n n, .string ⟨#[59, 32]⟩] w' (StrPost (Lib.join (sayL s ks) [59, 32]) w') := by
  intro w' hb
  have h := Try.strings_Join K 0 n xs ⟨#[59, 32]⟩ w' (fun j x hx => (cell_blk (hb.block K hK) _).trans (hX j x hx)) (by have := hb.size; omega) (by omega) (by omega) (by rw [← hE]; exact Nat.le_trans hl (by omega))
  rw [hn, ← hE] at h
  exact h

def TxtC (s : Int → List UInt8) (c : Int) (o : ByteArray) (ks : Fo) : Prop :=
  okF (.cons c o ks .nil) → shortF (.cons c o ks .nil) → shortT s (.cons c o ks .nil) → ∀ (W : World) (v : Value), EIs W (Lt W.heap.size) c o ks v → ItF s W (.cons c o ks .nil) →
    (∃ n, v = .iface 51 (.agg #[.int .i64 n]) ∧ Calls Try.prog 53 #[.agg #[.int .i64 n]] W (StrPost (sayT s c o ks) W)) ∨
    (∃ g, v = .iface 63 (.pointer (some ⟨g, 0, none⟩)) ∧ Calls Try.prog 68 #[.pointer (some ⟨g, 0, none⟩)] W (StrPost (sayT s c o ks) W))

set_option maxRecDepth 100000 in
theorem err_group (o : ByteArray) (ks : Fo) (hks : Hid (ks.All (TxtC s))) (hok : Hid (okF ks)) (hsh : Hid (shortF ks)) (hst : Hid (shortT s ks)) (ho : o.size ≤ 1000000) (hjl : Hid ((Lib.join (sayL s ks) [59, 32]).length ≤ 1000000000))
    (W : World) (g b off n cap : Nat) (hN : Hid (ks.len = n)) (hn : 0 < n) (hn2 : n ≤ 1000) (hcap : n ≤ cap) (hgl : g < W.heap.size)
    (h0 : W.cell? ⟨g, 0, none⟩ = some (.string o)) (h1 : W.cell? ⟨g, 1, none⟩ = some (.slice (some ⟨b, off, none⟩) n cap)) (hE : Hid (EAt W (Lt W.heap.size) ks b off)) (hI : Hid (ItF s W ks)) :
    Calls Try.prog 68 #[.pointer (some ⟨g, 0, none⟩)] W (StrPost (sayT s 0 o ks) W) := by
  obtain ⟨i0, hi, hz0, hz1, hz2⟩ := info_parts Try.info9
  go_enter Try.func68, Try.ntmps68
  go_wp2_with (at_make; go_loud (refine wpList_make_full _ rfl _ _ 112 rfl W.heap.size 9 i0 (.string ⟨#[]⟩) 1 Try.underlying112 hi hz0 hz1 .i64 .i64 _ _ n rfl rfl rfl rfl (by rw [hz2]; omega) (by unfold maxLen; omega) (by simp) ?_; intro w0 hown0 hgrow0; have hb0 := below_grown hgrow0; have HB := Lib.hid hb0; have HO := Lib.hid (Own.of_row hown0); have hs0 := (Own.of_row hown0).lt; have c0 := (cell_blk (hb0.block g hgl) 0).trans h0; have c1 := (cell_blk (hb0.block g hgl) 1).trans h1; clear hown0 hgrow0 hb0))
  go_loopw [17] (fun i wr => ∃ (R : Fo) (k : Nat) (xs : List ByteArray), Hid (k + R.len = n ∧ xs.length = k) ∧ k ≤ n ∧ i = .int .i64 k ∧ Hid (Below W.heap.size W wr) ∧ Hid (Own wr W.heap.size n) ∧ wr.cell? ⟨g, 0, none⟩ = some (.string o) ∧ W.heap.size < wr.heap.size ∧
      Hid (EAt wr (Lt W.heap.size) R b (off + k)) ∧ Hid (ItF s W R) ∧ Hid (R.All (TxtC s)) ∧ Hid (okF R) ∧ Hid (shortF R) ∧ Hid (shortT s R) ∧ Hid (sayL s ks = xs.map (·.data.toList) ++ sayL s R) ∧ Hid (∀ (j : Nat) x, xs[j]? = some x → wr.cell? ⟨W.heap.size, 0 + j, none⟩ = some (.string x))) (fun i _ => n - (intOf i).toNat)
  case atStart =>
    refine ⟨ks, 0, [], ⟨by have := hN.out; omega, rfl⟩, by omega, rfl, HB, by have := HO.out; rw [Nat.mul_one] at this; exact this, c0, hs0, ?_, hI, hks, hok, hsh, hst, rfl, fun j x hx => by simp at hx⟩
    exact hE.out.agr (fun x hx => HB.out.block x hx) (fun _ h => h)
  case round =>
    obtain ⟨R, k, xs, hk1, hkn, rfl, hB, hO', hc0, hL1, hE', hI', hAll, hok', hsh', hst', hEq, hX⟩ := hrel
    clear c0 c1 h0 h1 HB HO hs0
    cases R with
    | nil =>
      obtain rfl : k = n := by have := hk1.out.1; simp only [Fo.len] at this; omega
      have hJ := join_at (s := s) (g := g) (wr := wr) (K := W.heap.size) (n := k) (xs := xs) (ks := ks) hk1.out.2 (by have := hEq.out; simpa [sayL] using this) hL1 hX.out hjl.out (by omega)
      have HJ := Lib.hid hJ
      have HZ : Hid (Below wr.heap.size wr wr) := Below.refl _ _
      have hglr : g < wr.heap.size := by omega
      clear hJ hO' hE' hI' hAll hok' hsh' hst' hX hks hok hsh hst hE hI
      go_wp2_with fail
      have ha1 : ∀ w : World, (Op.stringOp .add o ⟨#[58, 32]⟩).run Try.prog w = .ok (.string (o ++ ⟨#[58, 32]⟩)) w := fun w => run_string_add_sum w _ _ (by show o.size + 2 ≤ _; omega)
      have ha2 : ∀ w : World, (Op.stringOp .add (o ++ ⟨#[58, 32]⟩) ⟨(Lib.join (sayL s ks) [59, 32]).toArray⟩).run Try.prog w = .ok (.string ((o ++ ⟨#[58, 32]⟩) ++ ⟨(Lib.join (sayL s ks) [59, 32]).toArray⟩)) w := fun w => run_string_add_sum w _ _ (add_bound ho hjl.out)
      go_region_held3 (fun w' => w'.cell? ⟨g, 0, none⟩ = some (.string o) ∧ Hid (Below wr.heap.size wr w'))
        (first
          | exact ⟨hc0, Below.drew HZ⟩
          | exact ⟨(cell_blk (hb'.block g hglr) 0).trans hc0, (Below.drew HZ).trans hb'⟩)
        (first | (go_at_call 70; refine (HJ.out _ (Below.drew HZ)).mono ?_; rintro e w' ⟨rfl, hb'⟩))
      go_wp2_with fail
      go_ret
      have hk : Below wr.heap.size wr w' := (Below.drew HZ.out).trans hb'
      refine ⟨?_, hB.out.trans (hk.mono hB.out.size)⟩
      exact ret_str (say_str (s := s) o (Lib.join (sayL s ks) [59, 32]))
    | cons c' o' ks' R' =>
      have hlt : k < n := by have := hk1.out.1; simp only [Fo.len] at this; omega
      obtain ⟨hbL, ⟨v, q1, q2⟩, q5⟩ := EAt.head hE'.out
      have Q5 := Lib.hid q5
      have hC := hAll.out.1 ⟨hok'.out.1, trivial⟩ ⟨hsh'.out.1, hsh'.out.2.1, trivial⟩ ⟨hst'.out.1, hst'.out.2.1, hst'.out.2.2.1, trivial⟩ wr v (q2.agr (fun _ _ => rfl) (fun x hx => Nat.lt_trans hx hL1)) (ItF.below hB.out (F := .cons c' o' ks' .nil) ⟨hI'.out.1, hI'.out.2.1, trivial⟩)
      clear q2 q5
      have m40 := Try.mErr40
      have m63 := Try.mErr63
      rcases hC with ⟨c2, rfl, hC⟩ | ⟨g2, rfl, hC⟩
      all_goals
        have HC := Lib.hid hC
        clear hC
        go_wp2_with fail
        refine HC.out.mono ?_
        rintro e w' ⟨rfl, hb'⟩
        obtain ⟨s1, s2, s3⟩ := step_str (s := ⟨(sayT s c' o' ks').toArray⟩) hO'.out hX.out hk1.out.2 hlt hb'
        have S1 := Lib.hid s1
        have S2 := Lib.hid s2
        have S3 := Lib.hid s3
        have hO2 : Own w' W.heap.size n := hO'.out.below hb'
        obtain ⟨old, hold⟩ := hO2.cell k hlt
        have hfr := hO2.frz k
        have hs' := hb'.size
        have hs2 : W.heap.size < w'.heap.size := by omega
        have hc2 : w'.cell? ⟨g, 0, none⟩ = some (.string o) := (cell_blk (hb'.block g (by omega)) 0).trans hc0
        have hbb : Hid (Below wr.heap.size wr w') := hb'
        clear hO2 s1 s2 s3 hc0 hb'
        go_wp2_with fail
        go_roundw
        case rel =>
          refine ⟨R', k + 1, xs ++ [(⟨(sayT s c' o' ks').toArray⟩ : ByteArray)], ⟨?_, ?_⟩, by omega, by go_num, hB.out.trans S1.out, S2.out, ?_, ?_, ?_, hI'.out.2.2, hAll.out.2, hok'.out.2, hsh'.out.2.2, hst'.out.2.2.2, ?_, S3⟩
          · have := hk1.out.1; simp only [Fo.len] at this; omega
          · rw [List.length_append]; have := hk1.out.2; simp; omega
          · rw [cell_set_other (.inl (by omega))]; exact hc2
          · rw [size_set]; exact hs2
          · have h5 : EAt wr (Lt W.heap.size) R' b (off + (k + 1)) := by have := Q5.out; rw [show off + (k + 1) = off + k + 1 by omega]; exact this
            exact h5.agr (fun x hx => S1.out.block x hx) (fun _ h => h)
          · show _ = _; rw [hEq.out]; simp [sayL, sayT]
        case measure => simp [intOf]; omega
theorem txt_tree (c : Int) (o : ByteArray) (ks : Fo) (h : ks.All (TxtC s)) : TxtC s c o ks := by
  intro hok hsh hst W v hv hI
  rcases hv with ⟨h1, h2, h3, rfl⟩ | ⟨rfl, g, rfl, h2, h3, p, cap, h4, h5, h6, b, o', h7, h8⟩ | ⟨rfl, h2, h3, hv⟩
  · refine .inl ⟨c, rfl, ?_⟩
    have e : sayT s c o ks = codeT s c := if_pos h1
    rw [e]; exact code_err c W (hI.1 h1)
  · rcases hok.1 with ⟨h9, _⟩ | ⟨_, _, h10, h11⟩
    · omega
    · have hn : 0 < ks.len := by omega
      obtain ⟨rfl, hb⟩ := h7 hn
      exact .inr ⟨g, rfl, err_group o ks h h11 hsh.2.1 hst.2.2.1 hst.1 hst.2.1 W g b o' ks.len cap rfl hn hsh.1 h5 h2 h3 h4 ⟨fun _ => hb, h8⟩ hI.2.1⟩
  · rcases hok.1 with ⟨h9, _⟩ | ⟨_, h9, _⟩
    · omega
    · exact absurd h2 h9
theorem txt_all : ∀ F : Fo, F.All (TxtC s)
  | .nil => trivial
  | .cons c o ks r => ⟨txt_tree c o ks (txt_all ks), txt_all r⟩
theorem txt_any (c : Int) (o : ByteArray) (ks : Fo) : TxtC s c o ks := txt_tree c o ks (txt_all ks)
#print axioms txt_any
end Go.Proofs.Ytbefcakakoaieaa
