/- A bed of both sides, made anew. Conditions: each theorem's own premises. -/
import Derived.Test.YtdpapnfjpefhkaaGreatDow5m
namespace Go.Proofs.YtdpapnfjpefhkaaGreat
open Go.RowKit Tr
set_option linter.unusedVariables false
set_option maxRecDepth 100000
section
variable {W w w' : World} {t ts m mo b : Nat}
theorem newctx_two (m : TMs W (some ts) [] 0 [] w) (r : RS W mo [] 0 0 [] z0 w) (hb : Below W.heap.size W w) : Calls Tryz.prog 19 #[.pointer (some ⟨ts, 0, none⟩)] w fun e w' => e = .returned (pS w.heap.size) ∧ Hid (∃ O, FS W w.heap.size (some ts) (s0 [] 0 []) O w' ∧ RS W mo [] 0 0 [] z0 w') := by
 refine (new_ctx (p := some ts) m hb).mono ?_
 rintro e w' ⟨rfl, h⟩
 obtain ⟨O', f, _, fm⟩ := h.out
 exact ⟨rfl, O', f, r.keepT fun k cs ty fr e1 h1 => fm.2 k cs ty fr e1 (by rcases h1 with h1 | h1 | h1 <;> subst h1 <;> decide) fun hk => hk⟩
set_option maxHeartbeats 4000000 in
theorem fresh_two (w : World) : Calls Tryz.prog 5 #[] w fun e w' => ∃ b ts t mo m, e = .returned (.tuple #[.pointer (some ⟨b, 0, none⟩), .bool true]) ∧ Hid (∃ d, BM w b ts t mo m 0 0 0 d d w') := by
 go_enter Tryz.func5, Tryz.ntmps5
 go_wp2_with fail
 refine (ss_tms (Below.refl w.heap.size w)).mono ?_
 rintro e w1 ⟨rfl, h1, hb1⟩
 have hs := hb1.out.size
 have H1 := Lib.hid (newctx_two (h1.out.later' hb1.out (below_al w1 (.cells #[.slice none 0 0, .int .i64 0, .slice none 0 0, .slice none 0 0, .int .i64 0] 68))) (RS.start (W := w) w1 hs) (hb1.out.trans ((below_al w1 (.cells #[.slice none 0 0, .int .i64 0, .slice none 0 0, .slice none 0 0, .int .i64 0] 68)).mono hb1.out.size)))
 clear h1 hb1
 go_wp2_with fail
 refine H1.out.mono ?_
 rintro e w2 ⟨rfl, h2⟩
 clear H1
 obtain ⟨O, hf, hr⟩ := h2.out
 have HF := Lib.hid hf
 have HR := Lib.hid (rnewctx hr hf.bel)
 clear h2 hf hr
 go_wp2_with fail
 refine HR.out.mono ?_
 rintro e w3 ⟨rfl, h3⟩
 clear HR
 have H4 : Hid (∃ d, BM w w3.heap.size w.heap.size (w1.heap.size + 1) w1.heap.size w2.heap.size 0 0 0 d d (w3.alloc (.cells #[.pointer (some ⟨w.heap.size, 0, none⟩), .pointer (some ⟨w1.heap.size + 1, 0, none⟩), .pointer (some ⟨w1.heap.size, 0, none⟩), .pointer (some ⟨w2.heap.size, 0, none⟩), .int .i64 0] 39))) := by
  obtain ⟨O2, hc, hlo, hb⟩ := h3.out
  have hf := HF.out
  rw [World.size_alloc] at hf
  have hal := below_al w3 (.cells #[.pointer (some ⟨w.heap.size, 0, none⟩), .pointer (some ⟨w1.heap.size + 1, 0, none⟩), .pointer (some ⟨w1.heap.size, 0, none⟩), .pointer (some ⟨w2.heap.size, 0, none⟩), .int .i64 0] 39)
  refine ⟨eS (s0 [] 0 []), ⟨s0 [] 0 [], s0 [] 0 [], O, O2, (hf.later hb).later hal, hc.later hal, rfl, rfl, IX.start, IX.start, fun k hk h2 => ?_⟩, heap_alloc_new w3 _, (hf.later hb).bel.size⟩
  have h5 := hlo k h2
  have h6 := hf.lt hk
  omega
 clear h3 HF
 go_wp2_with fail
 go_quiet (fail)
 go_wp2_with fail
 go_ret2
 obtain ⟨d, h5⟩ := H4.out
 exact ⟨_, _, _, _, _, rfl, ⟨d, h5.later (below_drewN _ _)⟩⟩
end
end Go.Proofs.YtdpapnfjpefhkaaGreat
