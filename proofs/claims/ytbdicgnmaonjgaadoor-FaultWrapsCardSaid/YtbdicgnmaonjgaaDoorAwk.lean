/- What the document's own example says holds: the law's wakeful part answers true. Condition: the variable errors.errorType reads as its program lays it. -/
import Derived.Test.YtbdicgnmaonjgaaDoorTxt
namespace Go.Proofs.YtbdicgnmaonjgaaDoor
open Go.RowKit Go.Extern.Stop Go.Stop Go.Extern
set_option linter.unusedVariables false

abbrev S2 : Fo := .cons 2 ⟨#[]⟩ .nil .nil
abbrev SX2 : Fo := .cons 0 ⟨#[120]⟩ S2 .nil
abbrev SJ : Fo := .cons 0 ⟨#[120]⟩ S2 (.cons 5 ⟨#[]⟩ .nil .nil)
theorem m2 : mayB 2 ⟨#[]⟩ .nil = true := by decide +kernel
theorem m5 : mayB 5 ⟨#[]⟩ .nil = true := by decide +kernel
theorem mX : mayB 0 ⟨#[120]⟩ S2 = true := by decide +kernel
theorem mJ : mayB 0 allB SJ = true := by decide +kernel
theorem m0 : mayB 0 ⟨#[]⟩ .nil = false := by decide +kernel
theorem mXn : mayB 0 ⟨#[120]⟩ (.cons 0 ⟨#[]⟩ .nil .nil) = false := by decide +kernel
theorem tX : sayT 0 ⟨#[120]⟩ S2 = [120, 58, 32, 99, 111, 100, 101, 32, 50] := by decide +kernel
theorem tJ : sayT 0 allB SJ = [97, 108, 108, 58, 32, 120, 58, 32, 99, 111, 100, 101, 32, 50, 59, 32, 99, 111, 100, 101, 32, 53] := by decide +kernel
theorem sX2 : shortT SX2 := ⟨by decide, by decide +kernel, ⟨by decide, by decide +kernel, trivial, trivial⟩, trivial⟩

theorem EIs.code {w : World} {S : Nat → Prop} {c : Int} {o : ByteArray} {ks : Fo} {v : Value} (hc : 0 < c) (h : EIs w S c o ks v) : v = .iface 40 (.agg #[.int .i64 c]) := by
  rcases h with ⟨_, _, _, h⟩ | ⟨h, _⟩ | ⟨h, _⟩
  · exact h
  · omega
  · omega
theorem EIs.later {w w' : World} {c : Int} {o : ByteArray} {ks : Fo} {v : Value} (h : EIs w (Lt w.heap.size) c o ks v) (hb : Below w.heap.size w w') : EIs w' (Lt w'.heap.size) c o ks v :=
  h.agr (fun x hx => hb.block x hx) (fun x hx => Nat.lt_of_lt_of_le hx hb.size)
theorem EIs.mkCode (w : World) (S : Nat → Prop) (c : Int) (hc : 0 < c) : EIs w S c ⟨#[]⟩ .nil (.iface 40 (.agg #[.int .i64 c])) := .inl ⟨hc, rfl, rfl, rfl⟩
/-- Make, at a code. -/
theorem make_code (c : Int) (hc : 0 < c) (W : World) : Calls Tryd.prog 8 #[.agg #[.int .i64 c, .string ⟨#[]⟩, .slice none 0 0]] W (fun e w => e = .returned (.iface 40 (.agg #[.int .i64 c])) ∧ Below W.heap.size W w) := by
  have hm : mayB c ⟨#[]⟩ .nil = true := by
    unfold mayB fitsF
    rw [if_neg (by omega), if_pos (by omega), if_pos ⟨hc, rfl, rfl⟩]; rfl
  refine (make_yes c ⟨#[]⟩ .nil hm W none 0 0 (KAt.nil _ _ _ _)).mono ?_
  rintro e w ⟨hb, v, rfl, hE⟩
  exact ⟨by rw [hE.code hc], hb⟩

/-- Error, at a group. -/
theorem err_any (o : ByteArray) (ks : Fo) (hm : mayB 0 o ks = true) (hst : shortT (.cons 0 o ks .nil)) (W : World) (g : Nat) (hE : EIs W (Lt W.heap.size) 0 o ks (.iface 63 (.pointer (some ⟨g, 0, none⟩)))) (hI : ItF W (.cons 0 o ks .nil)) :
    Calls Tryd.prog 67 #[.pointer (some ⟨g, 0, none⟩)] W (StrPost (sayT 0 o ks) W) := by
  rcases txt_any 0 o ks (okF_of_fits _ _ _ hm) (shortF_of_fits _ _ _ (by omega) (by omega) hm) hst W _ hE hI with ⟨n, h, _⟩ | ⟨g', h, hC⟩
  · simp at h
  · obtain rfl : g = g' := by simpa using h
    exact hC

/-- Has, at an error that was made here. -/
theorem has_any (x c : Int) (o : ByteArray) (ks : Fo) (hm : mayB c o ks = true) (W : World) (v : Value) (hv : EIs W (Lt W.heap.size) c o ks v) :
    Calls Tryd.prog 13 #[v, .int .i64 x] W (BoolPost (hasF x (.cons c o ks .nil)) W) :=
  has_of x v W _ (gois_made x c o ks (okF_of_fits _ _ _ hm) (shortF_of_fits _ _ _ (by omega) (by omega) hm) W v hv)

theorem shape_awk (g : Nat) (w : World) (hE : EIs w (Lt w.heap.size) 0 ⟨#[120]⟩ S2 (.iface 63 (.pointer (some ⟨g, 0, none⟩)))) :
    Calls Tryd.prog 11 #[.iface 63 (.pointer (some ⟨g, 0, none⟩))] w (fun e w' => Below w.heap.size w w' ∧ ∃ p cap, e = .returned (.tuple #[.agg #[.int .i64 0, .string ⟨#[120]⟩, .slice p 1 cap], .bool true])) :=
  ((shape_any 0 ⟨#[120]⟩ S2 ⟨by decide, ⟨by decide, trivial, trivial⟩, trivial⟩ w _ hE).2 mX).mono fun e w' ⟨h, p, cap, he, _⟩ => ⟨h, p, cap, he⟩

def Aw (W w : World) (g N : Nat) (p : Option Addr) (cap : Nat) : Prop :=
  Below W.heap.size W w ∧ ETy w ∧ EIs w (Lt w.heap.size) 0 ⟨#[120]⟩ S2 (.iface 63 (.pointer (some ⟨g, 0, none⟩))) ∧ N < w.heap.size ∧ w.cell? ⟨N, 1, none⟩ = some (.string ⟨#[120]⟩) ∧ w.cell? ⟨N, 2, none⟩ = some (.slice p 1 cap)
theorem Aw.later {W w w' : World} {g N : Nat} {p : Option Addr} {cap : Nat} (h : Aw W w g N p cap) (hb : Below w.heap.size w w') : Aw W w' g N p cap := by
  obtain ⟨h1, h2, h3, h4, h5, h6⟩ := h
  exact ⟨h1.trans (hb.mono h1.size), h2.below hb, h3.later hb, Nat.lt_of_lt_of_le h4 hb.size, (cell_blk (hb.block N h4) 1).trans h5, (cell_blk (hb.block N h4) 2).trans h6⟩

/-- Join of nil, the first error, and a code. -/
theorem join_awk (g : Nat) (w : World) (hE : EIs w (Lt w.heap.size) 0 ⟨#[120]⟩ S2 (.iface 63 (.pointer (some ⟨g, 0, none⟩)))) :
    Calls Tryd.prog 9 #[.slice (some ⟨w.heap.size, 0, none⟩) 3 3] (w.alloc (.cells #[.nilIface, .iface 63 (.pointer (some ⟨g, 0, none⟩)), .iface 40 (.agg #[.int .i64 5])] 29))
      (GatPost allB SJ (w.alloc (.cells #[.nilIface, .iface 63 (.pointer (some ⟨g, 0, none⟩)), .iface 40 (.agg #[.int .i64 5])] 29))) := by
  have hE2 := hE.later (below_al w (.cells #[.nilIface, .iface 63 (.pointer (some ⟨g, 0, none⟩)), .iface 40 (.agg #[.int .i64 5])] 29))
  refine (join_some [.nilIface, .iface 63 (.pointer (some ⟨g, 0, none⟩)), .iface 40 (.agg #[.int .i64 5])] SJ ⟨by decide, ⟨by decide, trivial, trivial⟩, ⟨by decide, trivial, trivial⟩⟩ _ w.heap.size 0 3 (by simp) (by simp) (by simp) ?_ (by simp) ⟨hE2, EIs.mkCode _ _ 5 (by omega), trivial⟩).2 mJ
  intro j u hu
  match j, hu with
  | 0, hu => obtain rfl : Value.nilIface = u := by simpa using hu
             exact ⟨by simp, .inl rfl⟩
  | 1, hu => obtain rfl : Value.iface 63 (.pointer (some ⟨g, 0, none⟩)) = u := by simpa using hu
             exact ⟨by simp, .inr ⟨_, _, rfl⟩⟩
  | 2, hu => obtain rfl : Value.iface 40 (.agg #[.int .i64 5]) = u := by simpa using hu
             exact ⟨by simp, .inr ⟨_, _, rfl⟩⟩
  | j + 3, hu => simp at hu

theorem find_awk (g : Nat) (w : World) (hE : EIs w (Lt w.heap.size) 0 ⟨#[120]⟩ S2 (.iface 63 (.pointer (some ⟨g, 0, none⟩)))) (hT : ETy w) :
    Calls Tryd.prog 16 #[.iface 63 (.pointer (some ⟨g, 0, none⟩))] w (FndPost 2 true w) := by
  have h := find_made 0 ⟨#[120]⟩ S2 (okF_of_fits _ _ _ mX) ⟨by decide, ⟨by decide, trivial, trivial⟩, trivial⟩ w _ hE hT
  rwa [show firstF (.cons 0 ⟨#[120]⟩ S2 .nil) = 2 from rfl] at h
theorem err_awk (g : Nat) (w : World) (hE : EIs w (Lt w.heap.size) 0 ⟨#[120]⟩ S2 (.iface 63 (.pointer (some ⟨g, 0, none⟩)))) :
    Calls Tryd.prog 67 #[.pointer (some ⟨g, 0, none⟩)] w (fun e w' => e = .returned (.string ⟨#[120, 58, 32, 99, 111, 100, 101, 32, 50]⟩) ∧ Below w.heap.size w w') := by
  have h := err_any ⟨#[120]⟩ S2 mX sX2 w g hE ⟨fun h => absurd h (by omega), ⟨fun _ => .inl ⟨by omega, by omega⟩, trivial, trivial⟩, trivial⟩
  rw [tX] at h; exact h
theorem sSJ : shortT (.cons 0 allB SJ .nil) := ⟨by decide, by decide +kernel, ⟨by decide, by decide +kernel, ⟨by decide, by decide +kernel, trivial, trivial⟩, ⟨by decide, by decide +kernel, trivial, trivial⟩⟩, trivial⟩
theorem errJ_awk (j : Nat) (w : World) (hE : EIs w (Lt w.heap.size) 0 allB SJ (.iface 63 (.pointer (some ⟨j, 0, none⟩)))) :
    Calls Tryd.prog 67 #[.pointer (some ⟨j, 0, none⟩)] w (fun e w' => e = .returned (.string ⟨#[97, 108, 108, 58, 32, 120, 58, 32, 99, 111, 100, 101, 32, 50, 59, 32, 99, 111, 100, 101, 32, 53]⟩) ∧ Below w.heap.size w w') := by
  have h := err_any allB SJ mJ sSJ w j hE ⟨fun h => absurd h (by omega), ⟨fun h => absurd h (by omega), ⟨fun _ => .inl ⟨by omega, by omega⟩, trivial, trivial⟩, ⟨fun _ => .inl ⟨by omega, by omega⟩, trivial, trivial⟩⟩, trivial⟩
  rw [tJ] at h; exact h
theorem has2_awk (g : Nat) (w : World) (hE : EIs w (Lt w.heap.size) 0 ⟨#[120]⟩ S2 (.iface 63 (.pointer (some ⟨g, 0, none⟩)))) :
    Calls Tryd.prog 13 #[.iface 63 (.pointer (some ⟨g, 0, none⟩)), .int .i64 2] w (BoolPost true w) := by
  have h := has_any 2 0 ⟨#[120]⟩ S2 mX w _ hE
  rwa [show hasF 2 (.cons 0 ⟨#[120]⟩ S2 .nil) = true from rfl] at h
theorem has3_awk (g : Nat) (w : World) (hE : EIs w (Lt w.heap.size) 0 ⟨#[120]⟩ S2 (.iface 63 (.pointer (some ⟨g, 0, none⟩)))) :
    Calls Tryd.prog 13 #[.iface 63 (.pointer (some ⟨g, 0, none⟩)), .int .i64 3] w (BoolPost false w) := by
  have h := has_any 3 0 ⟨#[120]⟩ S2 mX w _ hE
  rwa [show hasF 3 (.cons 0 ⟨#[120]⟩ S2 .nil) = false from rfl] at h
theorem has5_awk (j : Nat) (w : World) (hE : EIs w (Lt w.heap.size) 0 allB SJ (.iface 63 (.pointer (some ⟨j, 0, none⟩)))) :
    Calls Tryd.prog 13 #[.iface 63 (.pointer (some ⟨j, 0, none⟩)), .int .i64 5] w (BoolPost true w) := by
  have h := has_any 5 0 allB SJ mJ w _ hE
  rwa [show hasF 5 (.cons 0 allB SJ .nil) = true from rfl] at h
theorem is5_awk (j : Nat) (w : World) (hE : EIs w (Lt w.heap.size) 0 allB SJ (.iface 63 (.pointer (some ⟨j, 0, none⟩)))) :
    Calls Tryd.prog 17 #[.iface 63 (.pointer (some ⟨j, 0, none⟩)), .iface 40 (.agg #[.int .i64 5])] w (BoolPost true w) := by
  have h := gois_made 5 0 allB SJ (okF_of_fits _ _ _ mJ) (shortF_of_fits _ _ _ (by omega) (by omega) mJ) w _ hE
  rwa [show hasF 5 (.cons 0 allB SJ .nil) = true from rfl] at h
theorem wrapNil_awk (w : World) : Calls Tryd.prog 10 #[.string ⟨#[120]⟩, .nilIface] w (NilPost w) :=
  (wrap_any ⟨#[120]⟩ 0 ⟨#[]⟩ .nil ⟨by decide, trivial, trivial⟩ w .nilIface (.inr (.inr ⟨rfl, rfl, rfl, .inl rfl⟩))).1 mXn

set_option maxRecDepth 100000 in
set_option maxHeartbeats 1000000 in
theorem awake_any (W : World) (hE : ETy W) : Calls Tryd.prog 7 #[] W (BoolPost true W) := by
  have HT := Lib.hid hE
  clear hE
  have q63 := Tryd.mErr63
  go_enter Tryd.func7, Tryd.ntmps7
  go_wp2_with fail
  refine (make_code 2 (by omega) W).mono ?_
  rintro e w1 ⟨rfl, hb⟩
  have HB1 := Lib.hid hb
  clear hb
  go_wp2_with fail
  refine ((wrap_any ⟨#[120]⟩ 2 ⟨#[]⟩ .nil ⟨by decide, trivial, trivial⟩ w1 _ (EIs.mkCode _ _ 2 (by omega))).2 mX).mono ?_
  rintro e w2 ⟨hb, g, rfl, hE⟩
  have HB2 := Lib.hid (HB1.out.trans (hb.mono HB1.out.size))
  have E2 := Lib.hid hE
  clear hb hE HB1
  go_wp2_with fail
  refine (shape_awk g w2 E2.out).mono ?_
  rintro e w3 ⟨hb, p, cap, rfl⟩
  have HA0 : Hid (Aw W (w3.alloc (.cells #[.int .i64 0, .string ⟨#[120]⟩, .slice p 1 cap] 27)) g w3.heap.size p cap) := by
    have hb3 := HB2.out.trans (hb.mono HB2.out.size)
    have hb4 := hb3.trans ((below_al w3 (.cells #[.int .i64 0, .string ⟨#[120]⟩, .slice p 1 cap] 27)).mono hb3.size)
    exact ⟨hb4, HT.out.below hb4, (E2.out.later hb).later (below_al _ _), by simp, by simp, by simp⟩
  generalize hN : w3.heap.size = N at *
  clear hb HB2 E2 HT
  go_wp2_with fail
  generalize w3.alloc (.cells #[.int .i64 0, .string ⟨#[120]⟩, .slice p 1 cap] 27) = w4 at *
  clear hN
  refine (find_awk g w4 HA0.out.2.2.1 HA0.out.2.1).mono ?_
  rintro e w5 ⟨rfl, hb⟩
  have HA := Lib.hid (HA0.out.later hb)
  clear hb HA0
  go_wp2_with fail
  refine (make_code 5 (by omega) w5).mono ?_
  rintro e w6 ⟨rfl, hb⟩
  have HA1 := Lib.hid (HA.out.later hb)
  clear hb HA
  go_wp2_with fail
  refine (join_awk g w6 HA1.out.2.2.1).mono ?_
  rintro e w7 ⟨hb, j, rfl, hJ⟩
  have HA := Lib.hid ((HA1.out.later (below_al _ _)).later hb)
  have HJ := Lib.hid hJ
  clear hb hJ HA1
  have c1 := HA.out.2.2.2.2.1
  have c2 := HA.out.2.2.2.2.2
  go_wp2_with fail
  clear c1 c2
  refine (err_awk g w7 HA.out.2.2.1).mono ?_
  rintro e w8 ⟨rfl, hb⟩
  have HA1 := Lib.hid (HA.out.later hb)
  have HJ1 := Lib.hid (HJ.out.later hb)
  clear hb HA HJ
  have c1 := HA1.out.2.2.2.2.1
  have c2 := HA1.out.2.2.2.2.2
  go_wp2_with fail
  clear c1 c2
  refine (has2_awk g w8 HA1.out.2.2.1).mono ?_
  rintro e w9 ⟨rfl, hb⟩
  have HA2 := Lib.hid (HA1.out.later hb)
  have HJ2 := Lib.hid (HJ1.out.later hb)
  clear hb HA1 HJ1
  go_wp2_with fail
  refine (has3_awk g w9 HA2.out.2.2.1).mono ?_
  rintro e w10 ⟨rfl, hb⟩
  have HA3 := Lib.hid (HA2.out.later hb)
  have HJ3 := Lib.hid (HJ2.out.later hb)
  clear hb HA2 HJ2
  go_wp2_with fail
  refine (errJ_awk j w10 HJ3.out).mono ?_
  rintro e w11 ⟨rfl, hb⟩
  have HA4 := Lib.hid (HA3.out.later hb)
  have HJ4 := Lib.hid (HJ3.out.later hb)
  clear hb HA3 HJ3
  go_wp2_with fail
  refine (has5_awk j w11 HJ4.out).mono ?_
  rintro e w12 ⟨rfl, hb⟩
  have HA5 := Lib.hid (HA4.out.later hb)
  have HJ5 := Lib.hid (HJ4.out.later hb)
  clear hb HA4 HJ4
  go_wp2_with fail
  refine (make_no 0 ⟨#[]⟩ .nil m0 w12 none 0 0 (KAt.nil _ _ _ _)).mono ?_
  rintro e w13 ⟨rfl, hb⟩
  have HA6 := Lib.hid (HA5.out.later hb)
  have HJ6 := Lib.hid (HJ5.out.later hb)
  clear hb HA5 HJ5
  go_wp2_with fail
  refine (wrapNil_awk w13).mono ?_
  rintro e w14 ⟨rfl, hb⟩
  have HA7 := Lib.hid (HA6.out.later hb)
  have HJ7 := Lib.hid (HJ6.out.later hb)
  clear hb HA6 HJ6
  go_wp2_with fail
  refine (join_none w14).mono ?_
  rintro e w15 ⟨rfl, hb⟩
  have HA8 := Lib.hid (HA7.out.later hb)
  have HJ8 := Lib.hid (HJ7.out.later hb)
  clear hb HA7 HJ7
  go_wp2_with fail
  refine (is5_awk j w15 HJ8.out).mono ?_
  rintro e w16 ⟨rfl, hb⟩
  have HA9 := Lib.hid (HA8.out.later hb)
  clear hb HA8 HJ8
  go_wp2_with fail
  go_ret
  exact ⟨rfl, HA9.out.1⟩
#print axioms awake_any
end Go.Proofs.YtbdicgnmaonjgaaDoor
