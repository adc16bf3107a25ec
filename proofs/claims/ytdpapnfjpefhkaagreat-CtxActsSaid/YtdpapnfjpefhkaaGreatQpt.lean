/- The document's own heap: put. Conditions: each theorem's own premises. -/
import Derived.Test.YtdpapnfjpefhkaaGreatQrwm
import Derived.Test.YtdpapnfjpefhkaaGreatRemm
import Derived.Laws.ResultCell
namespace Go.Proofs.YtdpapnfjpefhkaaGreat
open Go.RowKit
set_option linter.unusedVariables false
set_option maxRecDepth 100000
section
variable {Rx : List Value} {Ty : TypeId} {B m n c : Nat} {w w1 w9 : World} {A : Option Addr} {S : List It}
theorem MR.put {T : List It} {x : It} {l9 k9 : Nat} {A9 : Option Addr} (h1 : MX Rx Ty B w1 m (n + 1) A c S) (hb : Below w1.heap.size w1 w9) (hk : Km m w w1) (hw : Wn w9 w1.heap.size A9 l9 k9 T) (hn : Fmm A9 k9) (e : ins x S = T) (hl : l9 = (ins x S).length) (hB : B ≤ w.heap.size) :
  MR Rx Ty B m (n + 1) (ins x S) (.tuple #[]) w (.returned (.tuple #[])) (w9.setCell ⟨m, 0, none⟩ (.slice A9 l9 k9)) := by
 subst hl
 rw [← e] at hw
 have h9 := (h1.later hb).other (S' := ins x S) (A' := A9) (c' := k9) ⟨hw.1, hw.2.1, hw.2.2.1, fun h0 => by
  obtain ⟨g, off, cur, e1, e2, e3⟩ := hw.2.2.2 h0
  exact ⟨g, off, cur, e1, by have := hk.size; omega, e3⟩⟩ hn
 refine ⟨rfl, ⟨A9, k9, h9⟩, (hk.trans (Km.of_below hb)).set 0 _, .inl fun A n c he h0 k hk2 => ?_⟩
 have e2 := h9.c0
 rw [he] at e2
 injection e2 with e2
 injection e2 with e3 e4 e5
 obtain ⟨g, off, cur, e6, e7, _⟩ := hw.2.2.2 (by omega)
 rw [e3, e6] at hk2
 injection hk2 with hk2
 have := hk.size
 subst hk2
 exact Nat.le_trans this e7
theorem srt_le {S : List It} (hs : Srt S) {i j : Nat} {x y : It} (hx : S[i]? = some x) (hy : S[j]? = some y) (h : i ≤ j) : x.w ≤ y.w := by
 rcases Nat.eq_or_lt_of_le h with e | e
 · subst e; rw [hx] at hy; injection hy with hy; rw [hy]; omega
 · obtain ⟨h1, e1⟩ := List.getElem?_eq_some_iff.1 hx
   obtain ⟨h2, e2⟩ := List.getElem?_eq_some_iff.1 hy
   have := (List.pairwise_iff_getElem.1 hs) i j h1 h2 e
   rw [e1, e2] at this
   unfold It.lt at this; omega
set_option maxRecDepth 100000 in
set_option maxHeartbeats 8000000 in
theorem rput_any (k t : Int) (h : MH Rx Ty B w m n S) (hs : Srt S) (hn : n ≤ 1000000) (hl : S.length ≤ 1000 - 1) (hB : B ≤ w.heap.size) : Calls Tryz.prog 106 #[.pointer (some ⟨m, 0, none⟩), .int .i64 k, .int .i64 t] w (MR Rx Ty B m (n + 1) (ins ⟨k, t, (n : Int) + 1⟩ S) (.tuple #[]) w) := by
 obtain ⟨A, c, hx⟩ := h
 have HS := Lib.hid hs
 have c1 := hx.c1
 have f1 := hx.fz 1
 have hml := hx.lt
 have b1 : IntKind.i64.wrap ((n : Int) + 1) = (n : Int) + 1 := by rw [IntKind.wrap_i64]; omega
 have hx1 := hx.turn (n + 1)
 rw [show ((n + 1 : Nat) : Int) = (n : Int) + 1 by omega] at hx1
 have HX1 := Lib.hid hx1
 have HK : Hid (Km m w (w.setCell ⟨m, 1, none⟩ (.int .i64 ((n : Int) + 1)))) := (Km.refl m w).set 1 _
 have c0 := hx1.c0
 have hlc := hx1.wn.2.1
 have hcm := hx1.wn.2.2.1
 clear hx hx1 hs
 go_enter Tryz.func106, Tryz.ntmps106
 go_wp2_with fail
 generalize w.setCell ⟨m, 1, none⟩ (.int .i64 ((n : Int) + 1)) = w1 at *
 have c1 := HX1.out.c1
 rw [show ((n + 1 : Nat) : Int) = (n : Int) + 1 by omega] at c1
 have hm1 := HX1.out.lt
 have f0 := HX1.out.fz 0
 go_loopw [6] (fun u wr => ∃ q : Nat, q ≤ S.length ∧ u = .int .i64 q ∧ wr = w1 ∧ Hid (∀ (j : Nat) (y : It), q ≤ j → S[j]? = some y → t < y.w)) (fun u _ => (intOf u).toNat)
 case atStart => exact ⟨S.length, by omega, rfl, rfl, fun j y hj hy => by have := at_lt hy; omega⟩
 case round =>
  obtain ⟨q, hq, rfl, rfl, HQ⟩ := hrel
  generalize wr = w1 at *
  by_cases hq0 : q = 0
  · subst hq0
    have HC : Hid (ins ⟨k, t, (n : Int) + 1⟩ S = S.take 0 ++ [⟨k, t, (n : Int) + 1⟩] ++ S.drop 0) := ins_cut 0 (by omega) (fun j y hj hy => HQ.out j y hj hy) (fun j y hj _ => absurd hj (by omega))
    clear HQ
    rcases HX1.out.nn with ⟨rfl, rfl⟩ | ⟨g, off, rfl⟩
    · clear HS
      have hS0 : S.length = 0 := by omega
      have E3 : Hid (RdI w1 none 0 (S.drop 0)) := by rw [List.eq_nil_of_length_eq_zero hS0]; exact RdI.nil _ _
      have T3 := Lib.hid (HX1.out.wn.take (k := 0) (by omega)).rd
      have KP : Hid (∀ w', Below w1.heap.size w1 w' → w'.cell? ⟨m, 0, none⟩ = some (.slice none S.length 0) ∧ w'.cell? ⟨m, 1, none⟩ = some (.int .i64 ((n : Int) + 1))) := fun w' hb => by
       have h9 := HX1.out.later hb
       have h10 := h9.c0
       skip
       exact ⟨h10, h9.c1⟩
      go_wp2_with fail
      refine but_start 27 (fun w' => w'.cell? ⟨m, 0, none⟩ = some (.slice none S.length 0) ∧ w'.cell? ⟨m, 1, none⟩ = some (.int .i64 ((n : Int) + 1))) (by kernel_rfl) ?_
      have hHeld := KP.out w1.drew (Below.refl _ _).drew
      change AnyBut _ _ _ _ _ _ 28 _ _ _
      refine tkT 0 rfl hHeld ?_
      refine tkT 2 rfl hHeld ?_
      refine tkT 3 rfl hHeld ?_
      refine tkT 4 rfl hHeld ?_
      refine tkT 5 rfl hHeld ?_
      refine tkT 6 rfl hHeld ?_
      refine tkT 7 rfl hHeld ?_
      refine tkT 9 rfl hHeld ?_
      refine tkT 10 rfl hHeld ?_
      refine tkT 11 rfl hHeld ?_
      refine tkT 12 rfl hHeld ?_
      refine tkT 13 rfl hHeld ?_
      refine tkT 14 rfl hHeld ?_
      refine tkT 15 rfl hHeld ?_
      refine tkT 18 rfl hHeld ?_
      refine tkT 19 rfl hHeld ?_
      refine tkT 20 rfl hHeld ?_
      refine tkT 21 rfl hHeld ?_
      refine tkT 22 rfl hHeld ?_
      refine tkT 23 rfl hHeld ?_
      try simp only [l1, l2, l3, Act.put, l4, l5, l6]
      clear hHeld
      refine but_two (i := 1) (j := 16) (by kernel_rfl) rfl rfl ?_ ?_
      · intro K hK
        go_simp
        refine hK _ _ (fun _ => kpo KP) ?_
        clear hK K
        try simp only [l1, l2, l3, Act.put, l4, l5, l6]
        refine but_two (i := 8) (j := 16) (by kernel_rfl) rfl rfl ?_ ?_
        · intro K hK
          refine step_copy (w2 := w1) rfl (.tmp 37) (.tmp 43) rfl _ none 0 0 (S.take 0) (by rfl) (by rfl) (by first | exact heap_e1 _ | exact heap_e2 _ _ | exact heap_e3 _ _) (by first | omega | (simp <;> omega)) (by repeat' (first | exact Below.refl _ _ | (with_reducible assumption) | refine Below.drew ?_ | refine Below.alloc ?_ (by first | omega | (simp <;> omega)) _)) T3.out (by omega) ?_; intro v7 w7 ho7 hb7 hg7; have HO7 := Lib.hid ho7; have hx7 := HX1.out.later hb7; have hl7 := hx7.lt; have hs7 := hb7.size; clear hx7; clear ho7
          refine hK _ _ (fun _ => kpo KP) ?_
          clear hK K
          try simp only [l1, l2, l3, Act.put, l4, l5, l6]
          refine but_one (i := 16) (by kernel_rfl) rfl ?_
          intro K hK
          go_simp
          refine hK _ _ (fun _ => kpo KP) ?_
          clear hK K
          try simp only [l1, l2, l3, Act.put, l4, l5, l6]
          refine but_one (i := 17) (by kernel_rfl) rfl ?_
          intro K hK
          refine step_more (w2 := w1) rfl (.tmp 44) (.tmp 52) rfl v7 _ 0 1 1 (S.take 0) [⟨k, t, (n : Int) + 1⟩] (by rfl) (by rfl) (HO7.out.alloc _) (Below.alloc hb7 (by first | omega | (simp <;> omega)) _) (rd_one w7 ⟨k, t, (n : Int) + 1⟩) (by omega) (by omega) ?_; intro v8 w8 ho8 hb8; have HO8 := Lib.hid ho8; have hx8 := HX1.out.later hb8; have hl8 := hx8.lt; have hs8 := hb8.size; clear hx8; clear ho8
          refine hK _ _ (fun _ => kpo KP) ?_
          clear hK K
          try simp only [l1, l2, l3, Act.put, l4, l5, l6]
          refine but_one (i := 24) (by kernel_rfl) rfl ?_
          intro K hK
          refine step_more (w2 := w1) rfl (.tmp 53) (.tmp 59) rfl v8 none (0 + 1) (0) (0) (S.take 0 ++ [⟨k, t, (n : Int) + 1⟩]) (S.drop 0) (by rfl) (by rfl) HO8.out hb8 (E3.out.later hb8) (by omega) (by omega) ?_; intro v9 w9 ho9 hb9; have hx9 := HX1.out.later hb9; have c09 := hx9.c0; have f9 := hx9.fz 0; have hl9 := hx9.lt; obtain ⟨A9, k9, hv9, hw9, hn9⟩ := Wn.of_own (by simp only [List.length_append, List.length_take, List.length_drop, List.length_cons, List.length_nil]; omega) ho9; subst hv9; have HE : Hid (MR Rx Ty B m (n + 1) (ins ⟨k, t, (n : Int) + 1⟩ S) (.tuple #[]) w (.returned (.tuple #[])) (w9.setCell ⟨m, 0, none⟩ (.slice A9 (0 + 1 + (0)) k9))) := MR.put HX1.out hb9 HK.out hw9 hn9 HC.out (by rw [ins_len]; omega) hB; clear ho9 hx9 hw9 hn9
          refine hK _ _ (fun _ => kpo KP) ?_
          clear hK K
          try simp only [l1, l2, l3, Act.put, l4, l5, l6]
          refine but_one (i := 25) (by kernel_rfl) rfl ?_
          intro K hK
          go_simp
          refine hK _ _ (fun _ => kpo KP) ?_
          clear hK K
          try simp only [l1, l2, l3, Act.put, l4, l5, l6]
          refine but_one (i := 26) (by kernel_rfl) rfl ?_
          intro K hK
          go_simp
          refine hK _ _ (fun _ => kpo KP) ?_
          clear hK K
          try simp only [l1, l2, l3, Act.put, l4, l5, l6]
          refine but_one (i := 27) (by kernel_rfl) rfl ?_
          intro K hK
          go_simp
          refine hK _ _ (fun h => absurd rfl h) ?_
          clear hK K
          try simp only [l1, l2, l3, Act.put, l4, l5, l6]
          refine but_done (by kernel_rfl) ?_
          go_wp2_with fail
          first | go_end0 | go_ret
          exact HE.out
        · intro K hK
          go_simp
          refine hK _ _ (fun _ => kpo KP) ?_
          clear hK K
          try simp only [l1, l2, l3, Act.put, l4, l5, l6]
          refine but_one (i := 8) (by kernel_rfl) rfl ?_
          intro K hK
          refine step_copy (w2 := w1) rfl (.tmp 37) (.tmp 43) rfl _ none 0 0 (S.take 0) (by rfl) (by rfl) (by first | exact heap_e1 _ | exact heap_e2 _ _ | exact heap_e3 _ _) (by first | omega | (simp <;> omega)) (by repeat' (first | exact Below.refl _ _ | (with_reducible assumption) | refine Below.drew ?_ | refine Below.alloc ?_ (by first | omega | (simp <;> omega)) _)) T3.out (by omega) ?_; intro v7 w7 ho7 hb7 hg7; have HO7 := Lib.hid ho7; have hx7 := HX1.out.later hb7; have hl7 := hx7.lt; have hs7 := hb7.size; clear hx7; clear ho7
          refine hK _ _ (fun _ => kpo KP) ?_
          clear hK K
          try simp only [l1, l2, l3, Act.put, l4, l5, l6]
          refine but_one (i := 17) (by kernel_rfl) rfl ?_
          intro K hK
          refine step_more (w2 := w1) rfl (.tmp 44) (.tmp 52) rfl v7 _ 0 1 1 (S.take 0) [⟨k, t, (n : Int) + 1⟩] (by rfl) (by rfl) HO7.out hb7 (rd_blk (x := ⟨k, t, (n : Int) + 1⟩) (kept hg7 (by first | exact heap_w2 _ _ _ | exact heap_w3 _ _ _) (by first | omega | (simp <;> omega)))) (by omega) (by omega) ?_; intro v8 w8 ho8 hb8; have HO8 := Lib.hid ho8; have hx8 := HX1.out.later hb8; have hl8 := hx8.lt; have hs8 := hb8.size; clear hx8; clear ho8
          refine hK _ _ (fun _ => kpo KP) ?_
          clear hK K
          try simp only [l1, l2, l3, Act.put, l4, l5, l6]
          refine but_one (i := 24) (by kernel_rfl) rfl ?_
          intro K hK
          refine step_more (w2 := w1) rfl (.tmp 53) (.tmp 59) rfl v8 none (0 + 1) (0) (0) (S.take 0 ++ [⟨k, t, (n : Int) + 1⟩]) (S.drop 0) (by rfl) (by rfl) HO8.out hb8 (E3.out.later hb8) (by omega) (by omega) ?_; intro v9 w9 ho9 hb9; have hx9 := HX1.out.later hb9; have c09 := hx9.c0; have f9 := hx9.fz 0; have hl9 := hx9.lt; obtain ⟨A9, k9, hv9, hw9, hn9⟩ := Wn.of_own (by simp only [List.length_append, List.length_take, List.length_drop, List.length_cons, List.length_nil]; omega) ho9; subst hv9; have HE : Hid (MR Rx Ty B m (n + 1) (ins ⟨k, t, (n : Int) + 1⟩ S) (.tuple #[]) w (.returned (.tuple #[])) (w9.setCell ⟨m, 0, none⟩ (.slice A9 (0 + 1 + (0)) k9))) := MR.put HX1.out hb9 HK.out hw9 hn9 HC.out (by rw [ins_len]; omega) hB; clear ho9 hx9 hw9 hn9
          refine hK _ _ (fun _ => kpo KP) ?_
          clear hK K
          try simp only [l1, l2, l3, Act.put, l4, l5, l6]
          refine but_one (i := 25) (by kernel_rfl) rfl ?_
          intro K hK
          go_simp
          refine hK _ _ (fun _ => kpo KP) ?_
          clear hK K
          try simp only [l1, l2, l3, Act.put, l4, l5, l6]
          refine but_one (i := 26) (by kernel_rfl) rfl ?_
          intro K hK
          go_simp
          refine hK _ _ (fun _ => kpo KP) ?_
          clear hK K
          try simp only [l1, l2, l3, Act.put, l4, l5, l6]
          refine but_one (i := 27) (by kernel_rfl) rfl ?_
          intro K hK
          go_simp
          refine hK _ _ (fun h => absurd rfl h) ?_
          clear hK K
          try simp only [l1, l2, l3, Act.put, l4, l5, l6]
          refine but_done (by kernel_rfl) ?_
          go_wp2_with fail
          first | go_end0 | go_ret
          exact HE.out
      · intro K hK
        go_simp
        refine hK _ _ (fun _ => kpo KP) ?_
        clear hK K
        try simp only [l1, l2, l3, Act.put, l4, l5, l6]
        refine but_one (i := 1) (by kernel_rfl) rfl ?_
        intro K hK
        go_simp
        refine hK _ _ (fun _ => kpo KP) ?_
        clear hK K
        try simp only [l1, l2, l3, Act.put, l4, l5, l6]
        refine but_one (i := 8) (by kernel_rfl) rfl ?_
        intro K hK
        refine step_copy (w2 := w1) rfl (.tmp 37) (.tmp 43) rfl _ none 0 0 (S.take 0) (by rfl) (by rfl) (by first | exact heap_e1 _ | exact heap_e2 _ _ | exact heap_e3 _ _) (by first | omega | (simp <;> omega)) (by repeat' (first | exact Below.refl _ _ | (with_reducible assumption) | refine Below.drew ?_ | refine Below.alloc ?_ (by first | omega | (simp <;> omega)) _)) T3.out (by omega) ?_; intro v7 w7 ho7 hb7 hg7; have HO7 := Lib.hid ho7; have hx7 := HX1.out.later hb7; have hl7 := hx7.lt; have hs7 := hb7.size; clear hx7; clear ho7
        refine hK _ _ (fun _ => kpo KP) ?_
        clear hK K
        try simp only [l1, l2, l3, Act.put, l4, l5, l6]
        refine but_one (i := 17) (by kernel_rfl) rfl ?_
        intro K hK
        refine step_more (w2 := w1) rfl (.tmp 44) (.tmp 52) rfl v7 _ 0 1 1 (S.take 0) [⟨k, t, (n : Int) + 1⟩] (by rfl) (by rfl) HO7.out hb7 (rd_blk (x := ⟨k, t, (n : Int) + 1⟩) (kept hg7 (by first | exact heap_w2 _ _ _ | exact heap_w3 _ _ _) (by first | omega | (simp <;> omega)))) (by omega) (by omega) ?_; intro v8 w8 ho8 hb8; have HO8 := Lib.hid ho8; have hx8 := HX1.out.later hb8; have hl8 := hx8.lt; have hs8 := hb8.size; clear hx8; clear ho8
        refine hK _ _ (fun _ => kpo KP) ?_
        clear hK K
        try simp only [l1, l2, l3, Act.put, l4, l5, l6]
        refine but_one (i := 24) (by kernel_rfl) rfl ?_
        intro K hK
        refine step_more (w2 := w1) rfl (.tmp 53) (.tmp 59) rfl v8 none (0 + 1) (0) (0) (S.take 0 ++ [⟨k, t, (n : Int) + 1⟩]) (S.drop 0) (by rfl) (by rfl) HO8.out hb8 (E3.out.later hb8) (by omega) (by omega) ?_; intro v9 w9 ho9 hb9; have hx9 := HX1.out.later hb9; have c09 := hx9.c0; have f9 := hx9.fz 0; have hl9 := hx9.lt; obtain ⟨A9, k9, hv9, hw9, hn9⟩ := Wn.of_own (by simp only [List.length_append, List.length_take, List.length_drop, List.length_cons, List.length_nil]; omega) ho9; subst hv9; have HE : Hid (MR Rx Ty B m (n + 1) (ins ⟨k, t, (n : Int) + 1⟩ S) (.tuple #[]) w (.returned (.tuple #[])) (w9.setCell ⟨m, 0, none⟩ (.slice A9 (0 + 1 + (0)) k9))) := MR.put HX1.out hb9 HK.out hw9 hn9 HC.out (by rw [ins_len]; omega) hB; clear ho9 hx9 hw9 hn9
        refine hK _ _ (fun _ => kpo KP) ?_
        clear hK K
        try simp only [l1, l2, l3, Act.put, l4, l5, l6]
        refine but_one (i := 25) (by kernel_rfl) rfl ?_
        intro K hK
        go_simp
        refine hK _ _ (fun _ => kpo KP) ?_
        clear hK K
        try simp only [l1, l2, l3, Act.put, l4, l5, l6]
        refine but_one (i := 26) (by kernel_rfl) rfl ?_
        intro K hK
        go_simp
        refine hK _ _ (fun _ => kpo KP) ?_
        clear hK K
        try simp only [l1, l2, l3, Act.put, l4, l5, l6]
        refine but_one (i := 27) (by kernel_rfl) rfl ?_
        intro K hK
        go_simp
        refine hK _ _ (fun h => absurd rfl h) ?_
        clear hK K
        try simp only [l1, l2, l3, Act.put, l4, l5, l6]
        refine but_done (by kernel_rfl) ?_
        go_wp2_with fail
        first | go_end0 | go_ret
        exact HE.out
    · have E3 : Hid (RdI w1 (some ⟨g, off, none⟩) S.length (S.drop 0)) := HX1.out.wn.rd
      have q4 : (S.length : Int) ≤ (c : Int) := by omega
      clear HS
      have T3 := Lib.hid (HX1.out.wn.take (k := 0) (by omega)).rd
      have KP : Hid (∀ w', Below w1.heap.size w1 w' → w'.cell? ⟨m, 0, none⟩ = some (.slice (some ⟨g, off, none⟩) S.length c) ∧ w'.cell? ⟨m, 1, none⟩ = some (.int .i64 ((n : Int) + 1))) := fun w' hb => by
       have h9 := HX1.out.later hb
       have h10 := h9.c0
       skip
       exact ⟨h10, h9.c1⟩
      go_wp2_with fail
      refine but_start 27 (fun w' => w'.cell? ⟨m, 0, none⟩ = some (.slice (some ⟨g, off, none⟩) S.length c) ∧ w'.cell? ⟨m, 1, none⟩ = some (.int .i64 ((n : Int) + 1))) (by kernel_rfl) ?_
      have hHeld := KP.out w1.drew (Below.refl _ _).drew
      change AnyBut _ _ _ _ _ _ 28 _ _ _
      refine tkT 0 rfl hHeld ?_
      refine tkT 2 rfl hHeld ?_
      refine tkT 3 rfl hHeld ?_
      refine tkT 4 rfl hHeld ?_
      refine tkT 5 rfl hHeld ?_
      refine tkT 6 rfl hHeld ?_
      refine tkT 7 rfl hHeld ?_
      refine tkT 9 rfl hHeld ?_
      refine tkT 10 rfl hHeld ?_
      refine tkT 11 rfl hHeld ?_
      refine tkT 12 rfl hHeld ?_
      refine tkT 13 rfl hHeld ?_
      refine tkT 14 rfl hHeld ?_
      refine tkT 15 rfl hHeld ?_
      refine tkT 18 rfl hHeld ?_
      refine tkT 19 rfl hHeld ?_
      refine tkT 20 rfl hHeld ?_
      refine tkT 21 rfl hHeld ?_
      refine tkT 22 rfl hHeld ?_
      refine tkT 23 rfl hHeld ?_
      try simp only [l1, l2, l3, Act.put, l4, l5, l6]
      clear hHeld
      refine but_two (i := 1) (j := 16) (by kernel_rfl) rfl rfl ?_ ?_
      · intro K hK
        go_simp
        refine hK _ _ (fun _ => kpo KP) ?_
        clear hK K
        try simp only [l1, l2, l3, Act.put, l4, l5, l6]
        refine but_two (i := 8) (j := 16) (by kernel_rfl) rfl rfl ?_ ?_
        · intro K hK
          refine step_copy (w2 := w1) rfl (.tmp 37) (.tmp 43) rfl _ (some ⟨g, off, none⟩) 0 c (S.take 0) (by rfl) (by rfl) (by first | exact heap_e1 _ | exact heap_e2 _ _ | exact heap_e3 _ _) (by first | omega | (simp <;> omega)) (by repeat' (first | exact Below.refl _ _ | (with_reducible assumption) | refine Below.drew ?_ | refine Below.alloc ?_ (by first | omega | (simp <;> omega)) _)) T3.out (by omega) ?_; intro v7 w7 ho7 hb7 hg7; have HO7 := Lib.hid ho7; have hx7 := HX1.out.later hb7; have hl7 := hx7.lt; have hs7 := hb7.size; clear hx7; clear ho7
          refine hK _ _ (fun _ => kpo KP) ?_
          clear hK K
          try simp only [l1, l2, l3, Act.put, l4, l5, l6]
          refine but_one (i := 16) (by kernel_rfl) rfl ?_
          intro K hK
          go_simp
          refine hK _ _ (fun _ => kpo KP) ?_
          clear hK K
          try simp only [l1, l2, l3, Act.put, l4, l5, l6]
          refine but_one (i := 17) (by kernel_rfl) rfl ?_
          intro K hK
          refine step_more (w2 := w1) rfl (.tmp 44) (.tmp 52) rfl v7 _ 0 1 1 (S.take 0) [⟨k, t, (n : Int) + 1⟩] (by rfl) (by rfl) (HO7.out.alloc _) (Below.alloc hb7 (by first | omega | (simp <;> omega)) _) (rd_one w7 ⟨k, t, (n : Int) + 1⟩) (by omega) (by omega) ?_; intro v8 w8 ho8 hb8; have HO8 := Lib.hid ho8; have hx8 := HX1.out.later hb8; have hl8 := hx8.lt; have hs8 := hb8.size; clear hx8; clear ho8
          refine hK _ _ (fun _ => kpo KP) ?_
          clear hK K
          try simp only [l1, l2, l3, Act.put, l4, l5, l6]
          refine but_one (i := 24) (by kernel_rfl) rfl ?_
          intro K hK
          refine step_more (w2 := w1) rfl (.tmp 53) (.tmp 59) rfl v8 (some ⟨g, off, none⟩) (0 + 1) (S.length) (c) (S.take 0 ++ [⟨k, t, (n : Int) + 1⟩]) (S.drop 0) (by rfl) (by rfl) HO8.out hb8 (E3.out.later hb8) (by omega) (by omega) ?_; intro v9 w9 ho9 hb9; have hx9 := HX1.out.later hb9; have c09 := hx9.c0; have f9 := hx9.fz 0; have hl9 := hx9.lt; obtain ⟨A9, k9, hv9, hw9, hn9⟩ := Wn.of_own (by simp only [List.length_append, List.length_take, List.length_drop, List.length_cons, List.length_nil]; omega) ho9; subst hv9; have HE : Hid (MR Rx Ty B m (n + 1) (ins ⟨k, t, (n : Int) + 1⟩ S) (.tuple #[]) w (.returned (.tuple #[])) (w9.setCell ⟨m, 0, none⟩ (.slice A9 (0 + 1 + (S.length)) k9))) := MR.put HX1.out hb9 HK.out hw9 hn9 HC.out (by rw [ins_len]; omega) hB; clear ho9 hx9 hw9 hn9
          refine hK _ _ (fun _ => kpo KP) ?_
          clear hK K
          try simp only [l1, l2, l3, Act.put, l4, l5, l6]
          refine but_one (i := 25) (by kernel_rfl) rfl ?_
          intro K hK
          go_simp
          refine hK _ _ (fun _ => kpo KP) ?_
          clear hK K
          try simp only [l1, l2, l3, Act.put, l4, l5, l6]
          refine but_one (i := 26) (by kernel_rfl) rfl ?_
          intro K hK
          go_simp
          refine hK _ _ (fun _ => kpo KP) ?_
          clear hK K
          try simp only [l1, l2, l3, Act.put, l4, l5, l6]
          refine but_one (i := 27) (by kernel_rfl) rfl ?_
          intro K hK
          go_simp
          refine hK _ _ (fun h => absurd rfl h) ?_
          clear hK K
          try simp only [l1, l2, l3, Act.put, l4, l5, l6]
          refine but_done (by kernel_rfl) ?_
          go_wp2_with fail
          first | go_end0 | go_ret
          exact HE.out
        · intro K hK
          go_simp
          refine hK _ _ (fun _ => kpo KP) ?_
          clear hK K
          try simp only [l1, l2, l3, Act.put, l4, l5, l6]
          refine but_one (i := 8) (by kernel_rfl) rfl ?_
          intro K hK
          refine step_copy (w2 := w1) rfl (.tmp 37) (.tmp 43) rfl _ (some ⟨g, off, none⟩) 0 c (S.take 0) (by rfl) (by rfl) (by first | exact heap_e1 _ | exact heap_e2 _ _ | exact heap_e3 _ _) (by first | omega | (simp <;> omega)) (by repeat' (first | exact Below.refl _ _ | (with_reducible assumption) | refine Below.drew ?_ | refine Below.alloc ?_ (by first | omega | (simp <;> omega)) _)) T3.out (by omega) ?_; intro v7 w7 ho7 hb7 hg7; have HO7 := Lib.hid ho7; have hx7 := HX1.out.later hb7; have hl7 := hx7.lt; have hs7 := hb7.size; clear hx7; clear ho7
          refine hK _ _ (fun _ => kpo KP) ?_
          clear hK K
          try simp only [l1, l2, l3, Act.put, l4, l5, l6]
          refine but_one (i := 17) (by kernel_rfl) rfl ?_
          intro K hK
          refine step_more (w2 := w1) rfl (.tmp 44) (.tmp 52) rfl v7 _ 0 1 1 (S.take 0) [⟨k, t, (n : Int) + 1⟩] (by rfl) (by rfl) HO7.out hb7 (rd_blk (x := ⟨k, t, (n : Int) + 1⟩) (kept hg7 (by first | exact heap_w2 _ _ _ | exact heap_w3 _ _ _) (by first | omega | (simp <;> omega)))) (by omega) (by omega) ?_; intro v8 w8 ho8 hb8; have HO8 := Lib.hid ho8; have hx8 := HX1.out.later hb8; have hl8 := hx8.lt; have hs8 := hb8.size; clear hx8; clear ho8
          refine hK _ _ (fun _ => kpo KP) ?_
          clear hK K
          try simp only [l1, l2, l3, Act.put, l4, l5, l6]
          refine but_one (i := 24) (by kernel_rfl) rfl ?_
          intro K hK
          refine step_more (w2 := w1) rfl (.tmp 53) (.tmp 59) rfl v8 (some ⟨g, off, none⟩) (0 + 1) (S.length) (c) (S.take 0 ++ [⟨k, t, (n : Int) + 1⟩]) (S.drop 0) (by rfl) (by rfl) HO8.out hb8 (E3.out.later hb8) (by omega) (by omega) ?_; intro v9 w9 ho9 hb9; have hx9 := HX1.out.later hb9; have c09 := hx9.c0; have f9 := hx9.fz 0; have hl9 := hx9.lt; obtain ⟨A9, k9, hv9, hw9, hn9⟩ := Wn.of_own (by simp only [List.length_append, List.length_take, List.length_drop, List.length_cons, List.length_nil]; omega) ho9; subst hv9; have HE : Hid (MR Rx Ty B m (n + 1) (ins ⟨k, t, (n : Int) + 1⟩ S) (.tuple #[]) w (.returned (.tuple #[])) (w9.setCell ⟨m, 0, none⟩ (.slice A9 (0 + 1 + (S.length)) k9))) := MR.put HX1.out hb9 HK.out hw9 hn9 HC.out (by rw [ins_len]; omega) hB; clear ho9 hx9 hw9 hn9
          refine hK _ _ (fun _ => kpo KP) ?_
          clear hK K
          try simp only [l1, l2, l3, Act.put, l4, l5, l6]
          refine but_one (i := 25) (by kernel_rfl) rfl ?_
          intro K hK
          go_simp
          refine hK _ _ (fun _ => kpo KP) ?_
          clear hK K
          try simp only [l1, l2, l3, Act.put, l4, l5, l6]
          refine but_one (i := 26) (by kernel_rfl) rfl ?_
          intro K hK
          go_simp
          refine hK _ _ (fun _ => kpo KP) ?_
          clear hK K
          try simp only [l1, l2, l3, Act.put, l4, l5, l6]
          refine but_one (i := 27) (by kernel_rfl) rfl ?_
          intro K hK
          go_simp
          refine hK _ _ (fun h => absurd rfl h) ?_
          clear hK K
          try simp only [l1, l2, l3, Act.put, l4, l5, l6]
          refine but_done (by kernel_rfl) ?_
          go_wp2_with fail
          first | go_end0 | go_ret
          exact HE.out
      · intro K hK
        go_simp
        refine hK _ _ (fun _ => kpo KP) ?_
        clear hK K
        try simp only [l1, l2, l3, Act.put, l4, l5, l6]
        refine but_one (i := 1) (by kernel_rfl) rfl ?_
        intro K hK
        go_simp
        refine hK _ _ (fun _ => kpo KP) ?_
        clear hK K
        try simp only [l1, l2, l3, Act.put, l4, l5, l6]
        refine but_one (i := 8) (by kernel_rfl) rfl ?_
        intro K hK
        refine step_copy (w2 := w1) rfl (.tmp 37) (.tmp 43) rfl _ (some ⟨g, off, none⟩) 0 c (S.take 0) (by rfl) (by rfl) (by first | exact heap_e1 _ | exact heap_e2 _ _ | exact heap_e3 _ _) (by first | omega | (simp <;> omega)) (by repeat' (first | exact Below.refl _ _ | (with_reducible assumption) | refine Below.drew ?_ | refine Below.alloc ?_ (by first | omega | (simp <;> omega)) _)) T3.out (by omega) ?_; intro v7 w7 ho7 hb7 hg7; have HO7 := Lib.hid ho7; have hx7 := HX1.out.later hb7; have hl7 := hx7.lt; have hs7 := hb7.size; clear hx7; clear ho7
        refine hK _ _ (fun _ => kpo KP) ?_
        clear hK K
        try simp only [l1, l2, l3, Act.put, l4, l5, l6]
        refine but_one (i := 17) (by kernel_rfl) rfl ?_
        intro K hK
        refine step_more (w2 := w1) rfl (.tmp 44) (.tmp 52) rfl v7 _ 0 1 1 (S.take 0) [⟨k, t, (n : Int) + 1⟩] (by rfl) (by rfl) HO7.out hb7 (rd_blk (x := ⟨k, t, (n : Int) + 1⟩) (kept hg7 (by first | exact heap_w2 _ _ _ | exact heap_w3 _ _ _) (by first | omega | (simp <;> omega)))) (by omega) (by omega) ?_; intro v8 w8 ho8 hb8; have HO8 := Lib.hid ho8; have hx8 := HX1.out.later hb8; have hl8 := hx8.lt; have hs8 := hb8.size; clear hx8; clear ho8
        refine hK _ _ (fun _ => kpo KP) ?_
        clear hK K
        try simp only [l1, l2, l3, Act.put, l4, l5, l6]
        refine but_one (i := 24) (by kernel_rfl) rfl ?_
        intro K hK
        refine step_more (w2 := w1) rfl (.tmp 53) (.tmp 59) rfl v8 (some ⟨g, off, none⟩) (0 + 1) (S.length) (c) (S.take 0 ++ [⟨k, t, (n : Int) + 1⟩]) (S.drop 0) (by rfl) (by rfl) HO8.out hb8 (E3.out.later hb8) (by omega) (by omega) ?_; intro v9 w9 ho9 hb9; have hx9 := HX1.out.later hb9; have c09 := hx9.c0; have f9 := hx9.fz 0; have hl9 := hx9.lt; obtain ⟨A9, k9, hv9, hw9, hn9⟩ := Wn.of_own (by simp only [List.length_append, List.length_take, List.length_drop, List.length_cons, List.length_nil]; omega) ho9; subst hv9; have HE : Hid (MR Rx Ty B m (n + 1) (ins ⟨k, t, (n : Int) + 1⟩ S) (.tuple #[]) w (.returned (.tuple #[])) (w9.setCell ⟨m, 0, none⟩ (.slice A9 (0 + 1 + (S.length)) k9))) := MR.put HX1.out hb9 HK.out hw9 hn9 HC.out (by rw [ins_len]; omega) hB; clear ho9 hx9 hw9 hn9
        refine hK _ _ (fun _ => kpo KP) ?_
        clear hK K
        try simp only [l1, l2, l3, Act.put, l4, l5, l6]
        refine but_one (i := 25) (by kernel_rfl) rfl ?_
        intro K hK
        go_simp
        refine hK _ _ (fun _ => kpo KP) ?_
        clear hK K
        try simp only [l1, l2, l3, Act.put, l4, l5, l6]
        refine but_one (i := 26) (by kernel_rfl) rfl ?_
        intro K hK
        go_simp
        refine hK _ _ (fun _ => kpo KP) ?_
        clear hK K
        try simp only [l1, l2, l3, Act.put, l4, l5, l6]
        refine but_one (i := 27) (by kernel_rfl) rfl ?_
        intro K hK
        go_simp
        refine hK _ _ (fun h => absurd rfl h) ?_
        clear hK K
        try simp only [l1, l2, l3, Act.put, l4, l5, l6]
        refine but_done (by kernel_rfl) ?_
        go_wp2_with fail
        first | go_end0 | go_ret
        exact HE.out
  · have q0 : (0 : Int) < (q : Int) := by omega
    have d0 : 0 < q := by omega
    obtain ⟨y, hy⟩ := ex_at (l := S) (p := q - 1) (by omega)
    obtain ⟨g, off, rfl, hg1, hg2, hc⟩ := HX1.out.wn.cells (by omega)
    obtain ⟨-, y1, -⟩ := hc (q - 1) y hy
    obtain ⟨z, hz⟩ : ∃ z, z = q - 1 := ⟨_, rfl⟩
    have bz : IntKind.i64.wrap ((q : Int) - 1) = (z : Int) := by rw [IntKind.wrap_i64]; omega
    rw [← hz] at y1
    have z1 : (z : Int) < (S.length : Int) := by omega
    have HY : Hid (S[z]? = some y) := by rw [hz]; exact hy
    have HZ := Lib.hid hz
    clear hc hy hz
    by_cases hyt : t < y.w
    · have HQ2 : Hid (∀ (j : Nat) (y : It), z ≤ j → S[j]? = some y → t < y.w) := fun j y' hj hy' => by
       have hz := HZ.out
       by_cases e : j = z
       · subst e
         have h1 := HY.out
         rw [hy'] at h1; injection h1 with h1; rw [h1]; exact hyt
       · exact HQ.out j y' (by omega) hy'
      clear HQ
      go_wp2_with fail
      go_roundw
      case rel => exact ⟨z, by omega, rfl, by first | rfl | trivial, HQ2⟩
      case measure => have hz := HZ.out; simp [intOf]; omega
    · have HC : Hid (ins ⟨k, t, (n : Int) + 1⟩ S = S.take q ++ [⟨k, t, (n : Int) + 1⟩] ++ S.drop q) := ins_cut q (by omega) (fun j y hj hy => HQ.out j y hj hy) (fun j y' hj hy' => by have hz := HZ.out; have := srt_le HS.out hy' HY.out (by omega); show ¬ t < y'.w; omega)
      have q1 : (0 : Int) ≤ (q : Int) := by omega
      have q2 : (q : Int) ≤ (S.length : Int) := by omega
      have q3 : (q : Int) ≤ (c : Int) := by omega
      have q4 : (S.length : Int) ≤ (c : Int) := by omega
      clear HQ HS
      by_cases hqc : q < c
      · have q5 : ¬ c = q := by omega
        have E3 := Lib.hid (HX1.out.wn.drop (k := q) (by omega)).rd
        have T3 := Lib.hid (HX1.out.wn.take (k := q) (by omega)).rd
        have KP : Hid (∀ w', Below w1.heap.size w1 w' → w'.cell? ⟨m, 0, none⟩ = some (.slice (some ⟨g, off, none⟩) S.length c) ∧ w'.cell? ⟨m, 1, none⟩ = some (.int .i64 ((n : Int) + 1))) := fun w' hb => by
         have h9 := HX1.out.later hb
         have h10 := h9.c0
         skip
         exact ⟨h10, h9.c1⟩
        go_wp2_with fail
        refine but_start 27 (fun w' => w'.cell? ⟨m, 0, none⟩ = some (.slice (some ⟨g, off, none⟩) S.length c) ∧ w'.cell? ⟨m, 1, none⟩ = some (.int .i64 ((n : Int) + 1))) (by kernel_rfl) ?_
        have hHeld := KP.out w1.drew (Below.refl _ _).drew
        change AnyBut _ _ _ _ _ _ 28 _ _ _
        refine tkT 0 rfl hHeld ?_
        refine tkT 2 rfl hHeld ?_
        refine tkT 3 rfl hHeld ?_
        refine tkT 4 rfl hHeld ?_
        refine tkT 5 rfl hHeld ?_
        refine tkT 6 rfl hHeld ?_
        refine tkT 7 rfl hHeld ?_
        refine tkT 9 rfl hHeld ?_
        refine tkT 10 rfl hHeld ?_
        refine tkT 11 rfl hHeld ?_
        refine tkT 12 rfl hHeld ?_
        refine tkT 13 rfl hHeld ?_
        refine tkT 14 rfl hHeld ?_
        refine tkT 15 rfl hHeld ?_
        refine tkT 18 rfl hHeld ?_
        refine tkT 19 rfl hHeld ?_
        refine tkT 20 rfl hHeld ?_
        refine tkT 21 rfl hHeld ?_
        refine tkT 22 rfl hHeld ?_
        refine tkT 23 rfl hHeld ?_
        try simp only [l1, l2, l3, Act.put, l4, l5, l6]
        clear hHeld
        refine but_two (i := 1) (j := 16) (by kernel_rfl) rfl rfl ?_ ?_
        · intro K hK
          go_simp
          refine hK _ _ (fun _ => kpo KP) ?_
          clear hK K
          try simp only [l1, l2, l3, Act.put, l4, l5, l6]
          refine but_two (i := 8) (j := 16) (by kernel_rfl) rfl rfl ?_ ?_
          · intro K hK
            refine step_copy (w2 := w1) rfl (.tmp 37) (.tmp 43) rfl _ (some ⟨g, off, none⟩) q c (S.take q) (by rfl) (by rfl) (by first | exact heap_e1 _ | exact heap_e2 _ _ | exact heap_e3 _ _) (by first | omega | (simp <;> omega)) (by repeat' (first | exact Below.refl _ _ | (with_reducible assumption) | refine Below.drew ?_ | refine Below.alloc ?_ (by first | omega | (simp <;> omega)) _)) T3.out (by omega) ?_; intro v7 w7 ho7 hb7 hg7; have HO7 := Lib.hid ho7; have hx7 := HX1.out.later hb7; have hl7 := hx7.lt; have hs7 := hb7.size; clear hx7; clear ho7
            refine hK _ _ (fun _ => kpo KP) ?_
            clear hK K
            try simp only [l1, l2, l3, Act.put, l4, l5, l6]
            refine but_one (i := 16) (by kernel_rfl) rfl ?_
            intro K hK
            go_simp
            refine hK _ _ (fun _ => kpo KP) ?_
            clear hK K
            try simp only [l1, l2, l3, Act.put, l4, l5, l6]
            refine but_one (i := 17) (by kernel_rfl) rfl ?_
            intro K hK
            refine step_more (w2 := w1) rfl (.tmp 44) (.tmp 52) rfl v7 _ q 1 1 (S.take q) [⟨k, t, (n : Int) + 1⟩] (by rfl) (by rfl) (HO7.out.alloc _) (Below.alloc hb7 (by first | omega | (simp <;> omega)) _) (rd_one w7 ⟨k, t, (n : Int) + 1⟩) (by omega) (by omega) ?_; intro v8 w8 ho8 hb8; have HO8 := Lib.hid ho8; have hx8 := HX1.out.later hb8; have hl8 := hx8.lt; have hs8 := hb8.size; clear hx8; clear ho8
            refine hK _ _ (fun _ => kpo KP) ?_
            clear hK K
            try simp only [l1, l2, l3, Act.put, l4, l5, l6]
            refine but_one (i := 24) (by kernel_rfl) rfl ?_
            intro K hK
            refine step_more (w2 := w1) rfl (.tmp 53) (.tmp 59) rfl v8 (some ⟨g, off + q * 3, none⟩) (q + 1) (S.length - q) (c - q) (S.take q ++ [⟨k, t, (n : Int) + 1⟩]) (S.drop q) (by rfl) (by rfl) HO8.out hb8 (E3.out.later hb8) (by omega) (by omega) ?_; intro v9 w9 ho9 hb9; have hx9 := HX1.out.later hb9; have c09 := hx9.c0; have f9 := hx9.fz 0; have hl9 := hx9.lt; obtain ⟨A9, k9, hv9, hw9, hn9⟩ := Wn.of_own (by simp only [List.length_append, List.length_take, List.length_drop, List.length_cons, List.length_nil]; omega) ho9; subst hv9; have HE : Hid (MR Rx Ty B m (n + 1) (ins ⟨k, t, (n : Int) + 1⟩ S) (.tuple #[]) w (.returned (.tuple #[])) (w9.setCell ⟨m, 0, none⟩ (.slice A9 (q + 1 + (S.length - q)) k9))) := MR.put HX1.out hb9 HK.out hw9 hn9 HC.out (by rw [ins_len]; omega) hB; clear ho9 hx9 hw9 hn9
            refine hK _ _ (fun _ => kpo KP) ?_
            clear hK K
            try simp only [l1, l2, l3, Act.put, l4, l5, l6]
            refine but_one (i := 25) (by kernel_rfl) rfl ?_
            intro K hK
            go_simp
            refine hK _ _ (fun _ => kpo KP) ?_
            clear hK K
            try simp only [l1, l2, l3, Act.put, l4, l5, l6]
            refine but_one (i := 26) (by kernel_rfl) rfl ?_
            intro K hK
            go_simp
            refine hK _ _ (fun _ => kpo KP) ?_
            clear hK K
            try simp only [l1, l2, l3, Act.put, l4, l5, l6]
            refine but_one (i := 27) (by kernel_rfl) rfl ?_
            intro K hK
            go_simp
            refine hK _ _ (fun h => absurd rfl h) ?_
            clear hK K
            try simp only [l1, l2, l3, Act.put, l4, l5, l6]
            refine but_done (by kernel_rfl) ?_
            go_wp2_with fail
            first | go_end0 | go_ret
            exact HE.out
          · intro K hK
            go_simp
            refine hK _ _ (fun _ => kpo KP) ?_
            clear hK K
            try simp only [l1, l2, l3, Act.put, l4, l5, l6]
            refine but_one (i := 8) (by kernel_rfl) rfl ?_
            intro K hK
            refine step_copy (w2 := w1) rfl (.tmp 37) (.tmp 43) rfl _ (some ⟨g, off, none⟩) q c (S.take q) (by rfl) (by rfl) (by first | exact heap_e1 _ | exact heap_e2 _ _ | exact heap_e3 _ _) (by first | omega | (simp <;> omega)) (by repeat' (first | exact Below.refl _ _ | (with_reducible assumption) | refine Below.drew ?_ | refine Below.alloc ?_ (by first | omega | (simp <;> omega)) _)) T3.out (by omega) ?_; intro v7 w7 ho7 hb7 hg7; have HO7 := Lib.hid ho7; have hx7 := HX1.out.later hb7; have hl7 := hx7.lt; have hs7 := hb7.size; clear hx7; clear ho7
            refine hK _ _ (fun _ => kpo KP) ?_
            clear hK K
            try simp only [l1, l2, l3, Act.put, l4, l5, l6]
            refine but_one (i := 17) (by kernel_rfl) rfl ?_
            intro K hK
            refine step_more (w2 := w1) rfl (.tmp 44) (.tmp 52) rfl v7 _ q 1 1 (S.take q) [⟨k, t, (n : Int) + 1⟩] (by rfl) (by rfl) HO7.out hb7 (rd_blk (x := ⟨k, t, (n : Int) + 1⟩) (kept hg7 (by first | exact heap_w2 _ _ _ | exact heap_w3 _ _ _) (by first | omega | (simp <;> omega)))) (by omega) (by omega) ?_; intro v8 w8 ho8 hb8; have HO8 := Lib.hid ho8; have hx8 := HX1.out.later hb8; have hl8 := hx8.lt; have hs8 := hb8.size; clear hx8; clear ho8
            refine hK _ _ (fun _ => kpo KP) ?_
            clear hK K
            try simp only [l1, l2, l3, Act.put, l4, l5, l6]
            refine but_one (i := 24) (by kernel_rfl) rfl ?_
            intro K hK
            refine step_more (w2 := w1) rfl (.tmp 53) (.tmp 59) rfl v8 (some ⟨g, off + q * 3, none⟩) (q + 1) (S.length - q) (c - q) (S.take q ++ [⟨k, t, (n : Int) + 1⟩]) (S.drop q) (by rfl) (by rfl) HO8.out hb8 (E3.out.later hb8) (by omega) (by omega) ?_; intro v9 w9 ho9 hb9; have hx9 := HX1.out.later hb9; have c09 := hx9.c0; have f9 := hx9.fz 0; have hl9 := hx9.lt; obtain ⟨A9, k9, hv9, hw9, hn9⟩ := Wn.of_own (by simp only [List.length_append, List.length_take, List.length_drop, List.length_cons, List.length_nil]; omega) ho9; subst hv9; have HE : Hid (MR Rx Ty B m (n + 1) (ins ⟨k, t, (n : Int) + 1⟩ S) (.tuple #[]) w (.returned (.tuple #[])) (w9.setCell ⟨m, 0, none⟩ (.slice A9 (q + 1 + (S.length - q)) k9))) := MR.put HX1.out hb9 HK.out hw9 hn9 HC.out (by rw [ins_len]; omega) hB; clear ho9 hx9 hw9 hn9
            refine hK _ _ (fun _ => kpo KP) ?_
            clear hK K
            try simp only [l1, l2, l3, Act.put, l4, l5, l6]
            refine but_one (i := 25) (by kernel_rfl) rfl ?_
            intro K hK
            go_simp
            refine hK _ _ (fun _ => kpo KP) ?_
            clear hK K
            try simp only [l1, l2, l3, Act.put, l4, l5, l6]
            refine but_one (i := 26) (by kernel_rfl) rfl ?_
            intro K hK
            go_simp
            refine hK _ _ (fun _ => kpo KP) ?_
            clear hK K
            try simp only [l1, l2, l3, Act.put, l4, l5, l6]
            refine but_one (i := 27) (by kernel_rfl) rfl ?_
            intro K hK
            go_simp
            refine hK _ _ (fun h => absurd rfl h) ?_
            clear hK K
            try simp only [l1, l2, l3, Act.put, l4, l5, l6]
            refine but_done (by kernel_rfl) ?_
            go_wp2_with fail
            first | go_end0 | go_ret
            exact HE.out
        · intro K hK
          go_simp
          refine hK _ _ (fun _ => kpo KP) ?_
          clear hK K
          try simp only [l1, l2, l3, Act.put, l4, l5, l6]
          refine but_one (i := 1) (by kernel_rfl) rfl ?_
          intro K hK
          go_simp
          refine hK _ _ (fun _ => kpo KP) ?_
          clear hK K
          try simp only [l1, l2, l3, Act.put, l4, l5, l6]
          refine but_one (i := 8) (by kernel_rfl) rfl ?_
          intro K hK
          refine step_copy (w2 := w1) rfl (.tmp 37) (.tmp 43) rfl _ (some ⟨g, off, none⟩) q c (S.take q) (by rfl) (by rfl) (by first | exact heap_e1 _ | exact heap_e2 _ _ | exact heap_e3 _ _) (by first | omega | (simp <;> omega)) (by repeat' (first | exact Below.refl _ _ | (with_reducible assumption) | refine Below.drew ?_ | refine Below.alloc ?_ (by first | omega | (simp <;> omega)) _)) T3.out (by omega) ?_; intro v7 w7 ho7 hb7 hg7; have HO7 := Lib.hid ho7; have hx7 := HX1.out.later hb7; have hl7 := hx7.lt; have hs7 := hb7.size; clear hx7; clear ho7
          refine hK _ _ (fun _ => kpo KP) ?_
          clear hK K
          try simp only [l1, l2, l3, Act.put, l4, l5, l6]
          refine but_one (i := 17) (by kernel_rfl) rfl ?_
          intro K hK
          refine step_more (w2 := w1) rfl (.tmp 44) (.tmp 52) rfl v7 _ q 1 1 (S.take q) [⟨k, t, (n : Int) + 1⟩] (by rfl) (by rfl) HO7.out hb7 (rd_blk (x := ⟨k, t, (n : Int) + 1⟩) (kept hg7 (by first | exact heap_w2 _ _ _ | exact heap_w3 _ _ _) (by first | omega | (simp <;> omega)))) (by omega) (by omega) ?_; intro v8 w8 ho8 hb8; have HO8 := Lib.hid ho8; have hx8 := HX1.out.later hb8; have hl8 := hx8.lt; have hs8 := hb8.size; clear hx8; clear ho8
          refine hK _ _ (fun _ => kpo KP) ?_
          clear hK K
          try simp only [l1, l2, l3, Act.put, l4, l5, l6]
          refine but_one (i := 24) (by kernel_rfl) rfl ?_
          intro K hK
          refine step_more (w2 := w1) rfl (.tmp 53) (.tmp 59) rfl v8 (some ⟨g, off + q * 3, none⟩) (q + 1) (S.length - q) (c - q) (S.take q ++ [⟨k, t, (n : Int) + 1⟩]) (S.drop q) (by rfl) (by rfl) HO8.out hb8 (E3.out.later hb8) (by omega) (by omega) ?_; intro v9 w9 ho9 hb9; have hx9 := HX1.out.later hb9; have c09 := hx9.c0; have f9 := hx9.fz 0; have hl9 := hx9.lt; obtain ⟨A9, k9, hv9, hw9, hn9⟩ := Wn.of_own (by simp only [List.length_append, List.length_take, List.length_drop, List.length_cons, List.length_nil]; omega) ho9; subst hv9; have HE : Hid (MR Rx Ty B m (n + 1) (ins ⟨k, t, (n : Int) + 1⟩ S) (.tuple #[]) w (.returned (.tuple #[])) (w9.setCell ⟨m, 0, none⟩ (.slice A9 (q + 1 + (S.length - q)) k9))) := MR.put HX1.out hb9 HK.out hw9 hn9 HC.out (by rw [ins_len]; omega) hB; clear ho9 hx9 hw9 hn9
          refine hK _ _ (fun _ => kpo KP) ?_
          clear hK K
          try simp only [l1, l2, l3, Act.put, l4, l5, l6]
          refine but_one (i := 25) (by kernel_rfl) rfl ?_
          intro K hK
          go_simp
          refine hK _ _ (fun _ => kpo KP) ?_
          clear hK K
          try simp only [l1, l2, l3, Act.put, l4, l5, l6]
          refine but_one (i := 26) (by kernel_rfl) rfl ?_
          intro K hK
          go_simp
          refine hK _ _ (fun _ => kpo KP) ?_
          clear hK K
          try simp only [l1, l2, l3, Act.put, l4, l5, l6]
          refine but_one (i := 27) (by kernel_rfl) rfl ?_
          intro K hK
          go_simp
          refine hK _ _ (fun h => absurd rfl h) ?_
          clear hK K
          try simp only [l1, l2, l3, Act.put, l4, l5, l6]
          refine but_done (by kernel_rfl) ?_
          go_wp2_with fail
          first | go_end0 | go_ret
          exact HE.out
      · obtain rfl : c = q := by omega
        have hS0 : S.length = c := by omega
        rw [hS0] at c0
        have E3 : Hid (RdI w1 (some ⟨g, off, none⟩) 0 (S.drop c)) := by rw [List.drop_eq_nil_of_le (by omega)]; exact RdI.nil _ _
        have T3 := Lib.hid (HX1.out.wn.take (k := c) (by omega)).rd
        have KP : Hid (∀ w', Below w1.heap.size w1 w' → w'.cell? ⟨m, 0, none⟩ = some (.slice (some ⟨g, off, none⟩) c c) ∧ w'.cell? ⟨m, 1, none⟩ = some (.int .i64 ((n : Int) + 1))) := fun w' hb => by
         have h9 := HX1.out.later hb
         have h10 := h9.c0
         rw [hS0] at h10
         exact ⟨h10, h9.c1⟩
        go_wp2_with fail
        refine but_start 27 (fun w' => w'.cell? ⟨m, 0, none⟩ = some (.slice (some ⟨g, off, none⟩) c c) ∧ w'.cell? ⟨m, 1, none⟩ = some (.int .i64 ((n : Int) + 1))) (by kernel_rfl) ?_
        have hHeld := KP.out w1.drew (Below.refl _ _).drew
        change AnyBut _ _ _ _ _ _ 28 _ _ _
        refine tkT 0 rfl hHeld ?_
        refine tkT 2 rfl hHeld ?_
        refine tkT 3 rfl hHeld ?_
        refine tkT 4 rfl hHeld ?_
        refine tkT 5 rfl hHeld ?_
        refine tkT 6 rfl hHeld ?_
        refine tkT 7 rfl hHeld ?_
        refine tkT 9 rfl hHeld ?_
        refine tkT 10 rfl hHeld ?_
        refine tkT 11 rfl hHeld ?_
        refine tkT 12 rfl hHeld ?_
        refine tkT 13 rfl hHeld ?_
        refine tkT 14 rfl hHeld ?_
        refine tkT 15 rfl hHeld ?_
        refine tkT 18 rfl hHeld ?_
        refine tkT 19 rfl hHeld ?_
        refine tkT 20 rfl hHeld ?_
        refine tkT 21 rfl hHeld ?_
        refine tkT 22 rfl hHeld ?_
        refine tkT 23 rfl hHeld ?_
        try simp only [l1, l2, l3, Act.put, l4, l5, l6]
        clear hHeld
        refine but_two (i := 1) (j := 16) (by kernel_rfl) rfl rfl ?_ ?_
        · intro K hK
          go_simp
          refine hK _ _ (fun _ => kpo KP) ?_
          clear hK K
          try simp only [l1, l2, l3, Act.put, l4, l5, l6]
          refine but_two (i := 8) (j := 16) (by kernel_rfl) rfl rfl ?_ ?_
          · intro K hK
            refine step_copy (w2 := w1) rfl (.tmp 37) (.tmp 43) rfl _ (some ⟨g, off, none⟩) c c (S.take c) (by rfl) (by rfl) (by first | exact heap_e1 _ | exact heap_e2 _ _ | exact heap_e3 _ _) (by first | omega | (simp <;> omega)) (by repeat' (first | exact Below.refl _ _ | (with_reducible assumption) | refine Below.drew ?_ | refine Below.alloc ?_ (by first | omega | (simp <;> omega)) _)) T3.out (by omega) ?_; intro v7 w7 ho7 hb7 hg7; have HO7 := Lib.hid ho7; have hx7 := HX1.out.later hb7; have hl7 := hx7.lt; have hs7 := hb7.size; clear hx7; clear ho7
            refine hK _ _ (fun _ => kpo KP) ?_
            clear hK K
            try simp only [l1, l2, l3, Act.put, l4, l5, l6]
            refine but_one (i := 16) (by kernel_rfl) rfl ?_
            intro K hK
            go_simp
            refine hK _ _ (fun _ => kpo KP) ?_
            clear hK K
            try simp only [l1, l2, l3, Act.put, l4, l5, l6]
            refine but_one (i := 17) (by kernel_rfl) rfl ?_
            intro K hK
            refine step_more (w2 := w1) rfl (.tmp 44) (.tmp 52) rfl v7 _ c 1 1 (S.take c) [⟨k, t, (n : Int) + 1⟩] (by rfl) (by rfl) (HO7.out.alloc _) (Below.alloc hb7 (by first | omega | (simp <;> omega)) _) (rd_one w7 ⟨k, t, (n : Int) + 1⟩) (by omega) (by omega) ?_; intro v8 w8 ho8 hb8; have HO8 := Lib.hid ho8; have hx8 := HX1.out.later hb8; have hl8 := hx8.lt; have hs8 := hb8.size; clear hx8; clear ho8
            refine hK _ _ (fun _ => kpo KP) ?_
            clear hK K
            try simp only [l1, l2, l3, Act.put, l4, l5, l6]
            refine but_one (i := 24) (by kernel_rfl) rfl ?_
            intro K hK
            refine step_more (w2 := w1) rfl (.tmp 53) (.tmp 59) rfl v8 (some ⟨g, off, none⟩) (c + 1) (0) (0) (S.take c ++ [⟨k, t, (n : Int) + 1⟩]) (S.drop c) (by rfl) (by rfl) HO8.out hb8 (E3.out.later hb8) (by omega) (by omega) ?_; intro v9 w9 ho9 hb9; have hx9 := HX1.out.later hb9; have c09 := hx9.c0; have f9 := hx9.fz 0; have hl9 := hx9.lt; obtain ⟨A9, k9, hv9, hw9, hn9⟩ := Wn.of_own (by simp only [List.length_append, List.length_take, List.length_drop, List.length_cons, List.length_nil]; omega) ho9; subst hv9; have HE : Hid (MR Rx Ty B m (n + 1) (ins ⟨k, t, (n : Int) + 1⟩ S) (.tuple #[]) w (.returned (.tuple #[])) (w9.setCell ⟨m, 0, none⟩ (.slice A9 (c + 1 + (0)) k9))) := MR.put HX1.out hb9 HK.out hw9 hn9 HC.out (by rw [ins_len]; omega) hB; clear ho9 hx9 hw9 hn9
            refine hK _ _ (fun _ => kpo KP) ?_
            clear hK K
            try simp only [l1, l2, l3, Act.put, l4, l5, l6]
            refine but_one (i := 25) (by kernel_rfl) rfl ?_
            intro K hK
            go_simp
            refine hK _ _ (fun _ => kpo KP) ?_
            clear hK K
            try simp only [l1, l2, l3, Act.put, l4, l5, l6]
            refine but_one (i := 26) (by kernel_rfl) rfl ?_
            intro K hK
            go_simp
            refine hK _ _ (fun _ => kpo KP) ?_
            clear hK K
            try simp only [l1, l2, l3, Act.put, l4, l5, l6]
            refine but_one (i := 27) (by kernel_rfl) rfl ?_
            intro K hK
            go_simp
            refine hK _ _ (fun h => absurd rfl h) ?_
            clear hK K
            try simp only [l1, l2, l3, Act.put, l4, l5, l6]
            refine but_done (by kernel_rfl) ?_
            go_wp2_with fail
            first | go_end0 | go_ret
            exact HE.out
          · intro K hK
            go_simp
            refine hK _ _ (fun _ => kpo KP) ?_
            clear hK K
            try simp only [l1, l2, l3, Act.put, l4, l5, l6]
            refine but_one (i := 8) (by kernel_rfl) rfl ?_
            intro K hK
            refine step_copy (w2 := w1) rfl (.tmp 37) (.tmp 43) rfl _ (some ⟨g, off, none⟩) c c (S.take c) (by rfl) (by rfl) (by first | exact heap_e1 _ | exact heap_e2 _ _ | exact heap_e3 _ _) (by first | omega | (simp <;> omega)) (by repeat' (first | exact Below.refl _ _ | (with_reducible assumption) | refine Below.drew ?_ | refine Below.alloc ?_ (by first | omega | (simp <;> omega)) _)) T3.out (by omega) ?_; intro v7 w7 ho7 hb7 hg7; have HO7 := Lib.hid ho7; have hx7 := HX1.out.later hb7; have hl7 := hx7.lt; have hs7 := hb7.size; clear hx7; clear ho7
            refine hK _ _ (fun _ => kpo KP) ?_
            clear hK K
            try simp only [l1, l2, l3, Act.put, l4, l5, l6]
            refine but_one (i := 17) (by kernel_rfl) rfl ?_
            intro K hK
            refine step_more (w2 := w1) rfl (.tmp 44) (.tmp 52) rfl v7 _ c 1 1 (S.take c) [⟨k, t, (n : Int) + 1⟩] (by rfl) (by rfl) HO7.out hb7 (rd_blk (x := ⟨k, t, (n : Int) + 1⟩) (kept hg7 (by first | exact heap_w2 _ _ _ | exact heap_w3 _ _ _) (by first | omega | (simp <;> omega)))) (by omega) (by omega) ?_; intro v8 w8 ho8 hb8; have HO8 := Lib.hid ho8; have hx8 := HX1.out.later hb8; have hl8 := hx8.lt; have hs8 := hb8.size; clear hx8; clear ho8
            refine hK _ _ (fun _ => kpo KP) ?_
            clear hK K
            try simp only [l1, l2, l3, Act.put, l4, l5, l6]
            refine but_one (i := 24) (by kernel_rfl) rfl ?_
            intro K hK
            refine step_more (w2 := w1) rfl (.tmp 53) (.tmp 59) rfl v8 (some ⟨g, off, none⟩) (c + 1) (0) (0) (S.take c ++ [⟨k, t, (n : Int) + 1⟩]) (S.drop c) (by rfl) (by rfl) HO8.out hb8 (E3.out.later hb8) (by omega) (by omega) ?_; intro v9 w9 ho9 hb9; have hx9 := HX1.out.later hb9; have c09 := hx9.c0; have f9 := hx9.fz 0; have hl9 := hx9.lt; obtain ⟨A9, k9, hv9, hw9, hn9⟩ := Wn.of_own (by simp only [List.length_append, List.length_take, List.length_drop, List.length_cons, List.length_nil]; omega) ho9; subst hv9; have HE : Hid (MR Rx Ty B m (n + 1) (ins ⟨k, t, (n : Int) + 1⟩ S) (.tuple #[]) w (.returned (.tuple #[])) (w9.setCell ⟨m, 0, none⟩ (.slice A9 (c + 1 + (0)) k9))) := MR.put HX1.out hb9 HK.out hw9 hn9 HC.out (by rw [ins_len]; omega) hB; clear ho9 hx9 hw9 hn9
            refine hK _ _ (fun _ => kpo KP) ?_
            clear hK K
            try simp only [l1, l2, l3, Act.put, l4, l5, l6]
            refine but_one (i := 25) (by kernel_rfl) rfl ?_
            intro K hK
            go_simp
            refine hK _ _ (fun _ => kpo KP) ?_
            clear hK K
            try simp only [l1, l2, l3, Act.put, l4, l5, l6]
            refine but_one (i := 26) (by kernel_rfl) rfl ?_
            intro K hK
            go_simp
            refine hK _ _ (fun _ => kpo KP) ?_
            clear hK K
            try simp only [l1, l2, l3, Act.put, l4, l5, l6]
            refine but_one (i := 27) (by kernel_rfl) rfl ?_
            intro K hK
            go_simp
            refine hK _ _ (fun h => absurd rfl h) ?_
            clear hK K
            try simp only [l1, l2, l3, Act.put, l4, l5, l6]
            refine but_done (by kernel_rfl) ?_
            go_wp2_with fail
            first | go_end0 | go_ret
            exact HE.out
        · intro K hK
          go_simp
          refine hK _ _ (fun _ => kpo KP) ?_
          clear hK K
          try simp only [l1, l2, l3, Act.put, l4, l5, l6]
          refine but_one (i := 1) (by kernel_rfl) rfl ?_
          intro K hK
          go_simp
          refine hK _ _ (fun _ => kpo KP) ?_
          clear hK K
          try simp only [l1, l2, l3, Act.put, l4, l5, l6]
          refine but_one (i := 8) (by kernel_rfl) rfl ?_
          intro K hK
          refine step_copy (w2 := w1) rfl (.tmp 37) (.tmp 43) rfl _ (some ⟨g, off, none⟩) c c (S.take c) (by rfl) (by rfl) (by first | exact heap_e1 _ | exact heap_e2 _ _ | exact heap_e3 _ _) (by first | omega | (simp <;> omega)) (by repeat' (first | exact Below.refl _ _ | (with_reducible assumption) | refine Below.drew ?_ | refine Below.alloc ?_ (by first | omega | (simp <;> omega)) _)) T3.out (by omega) ?_; intro v7 w7 ho7 hb7 hg7; have HO7 := Lib.hid ho7; have hx7 := HX1.out.later hb7; have hl7 := hx7.lt; have hs7 := hb7.size; clear hx7; clear ho7
          refine hK _ _ (fun _ => kpo KP) ?_
          clear hK K
          try simp only [l1, l2, l3, Act.put, l4, l5, l6]
          refine but_one (i := 17) (by kernel_rfl) rfl ?_
          intro K hK
          refine step_more (w2 := w1) rfl (.tmp 44) (.tmp 52) rfl v7 _ c 1 1 (S.take c) [⟨k, t, (n : Int) + 1⟩] (by rfl) (by rfl) HO7.out hb7 (rd_blk (x := ⟨k, t, (n : Int) + 1⟩) (kept hg7 (by first | exact heap_w2 _ _ _ | exact heap_w3 _ _ _) (by first | omega | (simp <;> omega)))) (by omega) (by omega) ?_; intro v8 w8 ho8 hb8; have HO8 := Lib.hid ho8; have hx8 := HX1.out.later hb8; have hl8 := hx8.lt; have hs8 := hb8.size; clear hx8; clear ho8
          refine hK _ _ (fun _ => kpo KP) ?_
          clear hK K
          try simp only [l1, l2, l3, Act.put, l4, l5, l6]
          refine but_one (i := 24) (by kernel_rfl) rfl ?_
          intro K hK
          refine step_more (w2 := w1) rfl (.tmp 53) (.tmp 59) rfl v8 (some ⟨g, off, none⟩) (c + 1) (0) (0) (S.take c ++ [⟨k, t, (n : Int) + 1⟩]) (S.drop c) (by rfl) (by rfl) HO8.out hb8 (E3.out.later hb8) (by omega) (by omega) ?_; intro v9 w9 ho9 hb9; have hx9 := HX1.out.later hb9; have c09 := hx9.c0; have f9 := hx9.fz 0; have hl9 := hx9.lt; obtain ⟨A9, k9, hv9, hw9, hn9⟩ := Wn.of_own (by simp only [List.length_append, List.length_take, List.length_drop, List.length_cons, List.length_nil]; omega) ho9; subst hv9; have HE : Hid (MR Rx Ty B m (n + 1) (ins ⟨k, t, (n : Int) + 1⟩ S) (.tuple #[]) w (.returned (.tuple #[])) (w9.setCell ⟨m, 0, none⟩ (.slice A9 (c + 1 + (0)) k9))) := MR.put HX1.out hb9 HK.out hw9 hn9 HC.out (by rw [ins_len]; omega) hB; clear ho9 hx9 hw9 hn9
          refine hK _ _ (fun _ => kpo KP) ?_
          clear hK K
          try simp only [l1, l2, l3, Act.put, l4, l5, l6]
          refine but_one (i := 25) (by kernel_rfl) rfl ?_
          intro K hK
          go_simp
          refine hK _ _ (fun _ => kpo KP) ?_
          clear hK K
          try simp only [l1, l2, l3, Act.put, l4, l5, l6]
          refine but_one (i := 26) (by kernel_rfl) rfl ?_
          intro K hK
          go_simp
          refine hK _ _ (fun _ => kpo KP) ?_
          clear hK K
          try simp only [l1, l2, l3, Act.put, l4, l5, l6]
          refine but_one (i := 27) (by kernel_rfl) rfl ?_
          intro K hK
          go_simp
          refine hK _ _ (fun h => absurd rfl h) ?_
          clear hK K
          try simp only [l1, l2, l3, Act.put, l4, l5, l6]
          refine but_done (by kernel_rfl) ?_
          go_wp2_with fail
          first | go_end0 | go_ret
          exact HE.out
end
end Go.Proofs.YtdpapnfjpefhkaaGreat
