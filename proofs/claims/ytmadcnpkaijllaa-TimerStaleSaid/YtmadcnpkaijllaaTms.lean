/- What Stop, Armed, Next and Len of package expire answer. Conditions: each theorem's own premises. -/
import Derived.Test.YtmadcnpkaijllaaTmr
namespace Go.Proofs.Ytmadcnpkaijllaa
open Go.RowKit
set_option linter.unusedVariables false
set_option maxRecDepth 100000
theorem HG.wf {B o b n : Nat} {p : Option Nat} {S : List It} {w : World} (h : HG B w o b p n S) {x : It} (hx : x ∈ S) : Wf x.id := by
  obtain ⟨P, c, m, f, e0, h1, h2, h3, h4⟩ := h
  exact h1.wf x (h4.mem_iff.2 hx)
section
variable {B t o b c n n' N N' : Nat} {vA vL : Value} {p p' : Option Nat} {S S' : List It} {g g' : Int → Int} {w w' : World} {e : Ending} {v : Value}
set_option maxHeartbeats 4000000 in
theorem stop_yes {x : It} (h : TT B t vA vL o b c p n N S g w) (hx : x ∈ S) (hl : S.length ≤ 1000) :
    Calls Try.prog 59 #[.pointer (some ⟨t, 1, none⟩), .int .i64 x.id] w (XC B t vA vL o b c p n N (del x.id S) (fput g x.id 0) (.bool true) w) := by
  have HA := Lib.hid h
  have hk := h.hg.wf hx
  have c0 := h.c0
  clear h
  go_enter Try.func59, Try.ntmps59
  go_wp2_with fail
  refine (remove_yes HA.out.hg HA.out.ok hx hl).mono ?_
  rintro e w1 hr
  have hr := HA.out.go (HA.out.ok.del x.id) hr.chr
  have HT := Lib.hid hr.2
  obtain rfl := hr.1
  clear hr HA c0
  obtain ⟨p1, h1, h2⟩ := HT.out
  have H1 := Lib.hid (h1.later (below_al w1 (.cells #[.int .i64 x.id, .int .i64 x.w, .int .i64 x.s] 106)))
  have H2 := Lib.hid (h2.trans (TC.of_below p1 (below_al w1 (.cells #[.int .i64 x.id, .int .i64 x.w, .int .i64 x.s] 106))))
  clear h1 h2 HT
  go_upto_region 4 with (fail)
  have c1 := H1.out.c1
  generalize w1.alloc (.cells #[.int .i64 x.id, .int .i64 x.w, .int .i64 x.s] 106) = w2 at *
  go_wp2_with (at_delete; go_loud (refine wp_pdrop rfl (.tmp 21) (.tmp 22) rfl H1.out.pm hk rfl rfl ?_; intro w3 ht pm; have H3 := Lib.hid (H1.out.mapped ht pm); clear ht pm))
  go_ret
  exact ⟨rfl, p1, H3.out.1, H2.out.trans H3.out.2⟩
set_option maxHeartbeats 4000000 in
theorem stop_no {k : Int} (h : TT B t vA vL o b c p n N S g w) (hk : Wf k) (hm : k ∉ ids S) :
    Calls Try.prog 59 #[.pointer (some ⟨t, 1, none⟩), .int .i64 k] w (XC B t vA vL o b c p n N S (fput g k 0) (.bool false) w) := by
  have HA := Lib.hid h
  have c0 := h.c0
  clear h
  go_enter Try.func59, Try.ntmps59
  go_wp2_with fail
  refine (remove_no HA.out.hg hk hm).mono ?_
  rintro e w1 ⟨rfl, hb⟩
  have HB2 : Hid (Below w.heap.size w (w1.alloc (.cells #[.int .i64 zI.id, .int .i64 zI.w, .int .i64 zI.s] 106))) := hb.trans ((below_al w1 _).mono hb.size)
  clear hb
  go_upto_region 4 with (fail)
  generalize w1.alloc (.cells #[.int .i64 zI.id, .int .i64 zI.w, .int .i64 zI.s] 106) = w2 at *
  have H1 := Lib.hid (HA.out.later HB2.out)
  have H2 := Lib.hid (TC.of_below (o := o) (b := b) (c := c) p HB2.out)
  clear HA HB2 c0
  have c1 := H1.out.c1
  go_wp2_with (at_delete; go_loud (refine wp_pdrop rfl (.tmp 21) (.tmp 22) rfl H1.out.pm hk rfl rfl ?_; intro w3 ht pm; have H3 := Lib.hid (H1.out.mapped ht pm); clear ht pm))
  go_ret
  exact ⟨rfl, p, H3.out.1, H2.out.trans H3.out.2⟩
/-- Two numbers and a bool. -/
def IiR (x y : Int) (d : Bool) (w : World) (e : Ending) (w' : World) : Prop := e = .returned (.tuple #[.int .i64 x, .int .i64 y, .bool d]) ∧ Below w.heap.size w w'
/-- A number and a bool. -/
def InR (x : Int) (d : Bool) (w : World) (e : Ending) (w' : World) : Prop := e = .returned (.tuple #[.int .i64 x, .bool d]) ∧ Below w.heap.size w w'
theorem next_some {x : It} (h : TT B t vA vL o b c p n N (x :: S) g w) (hl : (x :: S).length ≤ 1000) : Calls Try.prog 47 #[.pointer (some ⟨t, 1, none⟩)] w (InR x.w true w) := by
  have HA := Lib.hid h
  have c0 := h.c0
  clear h
  go_enter Try.func47, Try.ntmps47
  go_wp2_with fail
  refine (gmin_some HA.out.hg HA.out.ok.srt hl).mono ?_
  rintro e w1 ⟨rfl, hb⟩
  have HB2 : Hid (Below w.heap.size w (w1.alloc (.cells #[.int .i64 x.id, .int .i64 x.w, .int .i64 x.s] 106))) := hb.trans ((below_al w1 _).mono hb.size)
  clear hb
  go_wp2_with fail
  go_ret2
  exact ⟨rfl, HB2.out⟩
theorem next_none (h : TT B t vA vL o b c p n N [] g w) : Calls Try.prog 47 #[.pointer (some ⟨t, 1, none⟩)] w (InR 0 false w) := by
  have HA := Lib.hid h
  have c0 := h.c0
  clear h
  go_enter Try.func47, Try.ntmps47
  go_wp2_with fail
  refine (gmin_none HA.out.hg).mono ?_
  rintro e w1 ⟨rfl, hb⟩
  have HB2 : Hid (Below w.heap.size w (w1.alloc (.cells #[.int .i64 zI.id, .int .i64 zI.w, .int .i64 zI.s] 106))) := hb.trans ((below_al w1 _).mono hb.size)
  clear hb
  go_wp2_with fail
  go_ret2
  exact ⟨rfl, HB2.out⟩
end
end Go.Proofs.Ytmadcnpkaijllaa
