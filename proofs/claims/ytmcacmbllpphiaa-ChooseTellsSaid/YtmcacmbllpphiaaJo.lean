/- Each call on both: a channel, and the document's own. Conditions: each theorem's own premises. -/
import Derived.Test.YtmcacmbllpphiaaJn
import Derived.Test.YtmcacmbllpphiaaMr
import Derived.Test.YtmcacmbllpphiaaMe
import Derived.Test.YtmcacmbllpphiaaMx
import Derived.Test.YtmcacmbllpphiaaMt
namespace Go.Proofs.Ytmcacmbllpphiaa
open Go.RowKit
set_option linter.unusedVariables false

def sn (s : CS) (v : Int) : CS × List Wk × Bool × Int := if s.kd ≠ 0 then (s, [], false, 7) else if s.cl = true then (s, [], false, 5) else ((gv s v).1, (gv s v).2.1, (gv s v).2.2, 0)
def cz (s : CS) : CS × List Wk × Int := if s.kd ≠ 0 then (s, [], 7) else if s.cl = true then (s, [], 5) else (done s, tot s, 0)
def pt (s : CS) (v : Int) : CS × List Wk × Bool := if s.kd ≠ 1 then (s, [], false) else gv s v
def dp (s : CS) : CS × Bool := if s.kd ≠ 1 ∨ s.l = [] then (s, false) else ({ s with l := [] }, true)
def en (s : CS) : CS × List Wk := if s.kd ≠ 2 ∨ s.cl = true then (s, []) else (done s, tot s)
theorem gv_ws (s : CS) (v : Int) : (gv s v).2.1.length ≤ 1 := by
  unfold gv
  split
  · simp
  · split <;> simp
theorem rc_ws (s : CS) : (rc s).2.2.2.2.length ≤ 1 := by unfold rc; split <;> simp
theorem nw_sn (s : CS) (v : Int) : nw (sn s v).1 ≤ nw s ∧ (sn s v).2.1.length ≤ 1 := by
  unfold sn
  have h1 := nw_gv s v
  have h2 := gv_ws s v
  split
  · simp
  · split
    · simp
    · exact ⟨h1, h2⟩
theorem nw_cz (s : CS) : nw (cz s).1 ≤ nw s ∧ (cz s).2.1.length ≤ nw s := by
  unfold cz
  have h1 := nw_done s
  have h2 := tot_len s
  split
  · simp
  · split
    · simp
    · exact ⟨h1, by show (tot s).length ≤ nw s; unfold nw; omega⟩
theorem nw_pt (s : CS) (v : Int) : nw (pt s v).1 ≤ nw s ∧ (pt s v).2.1.length ≤ 1 := by
  unfold pt
  split
  · simp
  · exact ⟨nw_gv s v, gv_ws s v⟩
theorem nw_dp (s : CS) : nw (dp s).1 ≤ nw s := by unfold dp; split <;> simp [nw]
theorem nw_en (s : CS) : nw (en s).1 ≤ nw s ∧ (en s).2.length ≤ nw s := by
  unfold en
  have h1 := nw_done s
  have h2 := tot_len s
  split
  · simp
  · exact ⟨h1, by show (tot s).length ≤ nw s; unfold nw; omega⟩
section
variable {W w : World} {c m : Nat} {s t s' : CS} {ws : List Wk} {d : Bool} {code : Int}
theorem ms_bound (h : nw s ≤ 100) : s.ss.length ≤ 1000000 ∧ s.rs.length ≤ 1000000 ∧ s.ss.length ≤ 1000 ∧ s.rs.length ≤ 1000 := by unfold nw at h; omega
theorem js_send (v : Int) (h : JS W c m s t w) (hn : nw s ≤ 100) (hg : sn s v = (s', ws, d, code)) :
    Calls Try.prog 23 #[.pointer (some ⟨c, 0, none⟩), .int .i64 v] w fun e w' => ∃ A cap, e = .returned (.tuple #[.bool d, .slice A ws.length cap, .int .i64 code]) ∧ RdK w' A ws.length ws ∧ JS W c m s' t w' ∧ Km m w w' := by
  obtain ⟨F, hc, bk⟩ := h.chan
  obtain ⟨n1, n2, n3, n4⟩ := ms_bound hn
  unfold sn at hg
  split at hg
  · rename_i hk
    cases hg
    refine (send_kind v hc hk).mono ?_
    rintro e w' ⟨rfl, rfl⟩
    exact ⟨none, 0, rfl, RdK.nil _ _, h, h.km (Below.refl _ _)⟩
  · rename_i hk
    have hk' : s.kd = 0 := by omega
    split at hg
    · rename_i hcl
      cases hg
      refine (send_closed v hc hk' hcl).mono ?_
      rintro e w' ⟨rfl, rfl⟩
      exact ⟨none, 0, rfl, RdK.nil _ _, h, h.km (Below.refl _ _)⟩
    · rename_i hcl
      cases hg
      refine (send_any v hc hk' (by simpa using hcl) n2).mono ?_
      rintro e w' ⟨A, cap, rfl, hr, g⟩
      exact ⟨A, cap, rfl, hr, bk _ _ g⟩
theorem jm_send (v : Int) (h : JS W c m s t w) (hk2 : t.kd ≤ 2) (hz : t.sz ≤ 64) (hl : t.l.length ≤ 1000) (hn : nw t ≤ 100) (hg : sn t v = (s', ws, d, code)) :
    Calls Try.prog 31 #[.pointer (some ⟨m, 0, none⟩), .int .i64 v] w fun e w' => ∃ A cap, e = .returned (.tuple #[.bool d, .slice A ws.length cap, .int .i64 code]) ∧ RdK w' A ws.length ws ∧ JS W c m s s' w' ∧ Km m w w' := by
  obtain ⟨ok, hm, bk⟩ := h.model
  obtain ⟨n1, n2, n3, n4⟩ := ms_bound hn
  unfold sn at hg
  split at hg
  · rename_i hk
    cases hg
    refine (mSend_kind v hm hk hk2).mono ?_
    rintro e w' ⟨rfl, rfl⟩
    exact ⟨none, 0, rfl, RdK.nil _ _, h, h.km (Below.refl _ _)⟩
  · rename_i hk
    have hk' : t.kd = 0 := by omega
    split at hg
    · rename_i hcl
      cases hg
      refine (mSend_closed v hm hk' hcl).mono ?_
      rintro e w' ⟨rfl, rfl⟩
      exact ⟨none, 0, rfl, RdK.nil _ _, h, h.km (Below.refl _ _)⟩
    · rename_i hcl
      cases hg
      refine (mSend_go v hm hk' (by simpa using hcl) hz hl n4).mono ?_
      rintro e w' ⟨A, cap, rfl, hr, g⟩
      exact ⟨A, cap, rfl, hr, bk _ _ g⟩
theorem js_recv {v : Int} {ok' : Bool} (h : JS W c m s t w) (hn : nw s ≤ 100) (hg : rc s = (s', v, ok', d, ws)) :
    Calls Try.prog 32 #[.pointer (some ⟨c, 0, none⟩)] w fun e w' => ∃ A cap, e = .returned (.tuple #[.int .i64 v, .bool ok', .bool d, .slice A ws.length cap]) ∧ RdK w' A ws.length ws ∧ JS W c m s' t w' ∧ Km m w w' := by
  obtain ⟨F, hc, bk⟩ := h.chan
  obtain ⟨n1, n2, n3, n4⟩ := ms_bound hn
  refine (recv_any hc n1).mono ?_
  rw [hg]
  rintro e w' ⟨A, cap, rfl, hr, g⟩
  exact ⟨A, cap, rfl, hr, bk _ _ g⟩
theorem jm_recv {v : Int} {ok' : Bool} (h : JS W c m s t w) (hl : t.l.length ≤ 1000) (hn : nw t ≤ 100) (hg : rc t = (s', v, ok', d, ws)) :
    Calls Try.prog 33 #[.pointer (some ⟨m, 0, none⟩)] w fun e w' => ∃ A cap, e = .returned (.tuple #[.int .i64 v, .bool ok', .bool d, .slice A ws.length cap]) ∧ RdK w' A ws.length ws ∧ JS W c m s s' w' ∧ Km m w w' := by
  obtain ⟨ok, hm, bk⟩ := h.model
  obtain ⟨n1, n2, n3, n4⟩ := ms_bound hn
  refine (mrecv_any hm hl n3).mono ?_
  rw [hg]
  rintro e w' ⟨A, cap, rfl, hr, g⟩
  exact ⟨A, cap, rfl, hr, bk _ _ g⟩
theorem js_close (h : JS W c m s t w) (hn : nw s ≤ 100) (hg : cz s = (s', ws, code)) :
    Calls Try.prog 27 #[.pointer (some ⟨c, 0, none⟩)] w fun e w' => ∃ A cap, e = .returned (.tuple #[.slice A ws.length cap, .int .i64 code]) ∧ RdK w' A ws.length ws ∧ JS W c m s' t w' ∧ Km m w w' := by
  obtain ⟨F, hc, bk⟩ := h.chan
  obtain ⟨n1, n2, n3, n4⟩ := ms_bound hn
  unfold cz at hg
  split at hg
  · rename_i hk
    cases hg
    refine (close_kind hc hk).mono ?_
    rintro e w' ⟨rfl, rfl⟩
    exact ⟨none, 0, rfl, RdK.nil _ _, h, h.km (Below.refl _ _)⟩
  · rename_i hk
    have hk' : s.kd = 0 := by omega
    split at hg
    · rename_i hcl
      cases hg
      refine (close_closed hc hk' hcl).mono ?_
      rintro e w' ⟨rfl, rfl⟩
      exact ⟨none, 0, rfl, RdK.nil _ _, h, h.km (Below.refl _ _)⟩
    · rename_i hcl
      cases hg
      refine (close_any hc hk' (by simpa using hcl) n1 n2).mono ?_
      rintro e w' ⟨A, cap, rfl, hr, g⟩
      exact ⟨A, cap, rfl, hr, bk _ _ g⟩
theorem jm_close (h : JS W c m s t w) (hk2 : t.kd ≤ 2) (hn : nw t ≤ 100) (hg : cz t = (s', ws, code)) :
    Calls Try.prog 34 #[.pointer (some ⟨m, 0, none⟩)] w fun e w' => ∃ A cap, e = .returned (.tuple #[.slice A ws.length cap, .int .i64 code]) ∧ RdK w' A ws.length ws ∧ JS W c m s s' w' ∧ Km m w w' := by
  obtain ⟨ok, hm, bk⟩ := h.model
  obtain ⟨n1, n2, n3, n4⟩ := ms_bound hn
  unfold cz at hg
  split at hg
  · rename_i hk
    cases hg
    refine (mclose_kind hm hk hk2).mono ?_
    rintro e w' ⟨rfl, rfl⟩
    exact ⟨none, 0, rfl, RdK.nil _ _, h, h.km (Below.refl _ _)⟩
  · rename_i hk
    have hk' : t.kd = 0 := by omega
    split at hg
    · rename_i hcl
      cases hg
      refine (mclose_closed hm hk' hcl).mono ?_
      rintro e w' ⟨rfl, rfl⟩
      exact ⟨none, 0, rfl, RdK.nil _ _, h, h.km (Below.refl _ _)⟩
    · rename_i hcl
      cases hg
      refine (mclose_go hm hk' (by simpa using hcl) n3 n4).mono ?_
      rintro e w' ⟨A, cap, rfl, hr, g⟩
      exact ⟨A, cap, rfl, hr, bk _ _ g⟩
theorem js_wait (x : Wt) (b : Bool) (hx : Wf x.t) (h : JS W c m s t w) (hn : nw s ≤ 100) (hg : wt s x b = (s', code)) :
    Calls Try.prog 35 #[.pointer (some ⟨c, 0, none⟩), wG x, .bool b] w fun e w' => e = .returned (.int .i64 code) ∧ JS W c m s' t w' ∧ Km m w w' := by
  obtain ⟨F, hc, bk⟩ := h.chan
  obtain ⟨n1, n2, n3, n4⟩ := ms_bound hn
  refine (wait_any x b hx hc (by intro z; cases z <;> simp [CS.q] <;> omega)).mono ?_
  rw [hg]
  rintro e w' ⟨rfl, g⟩
  exact ⟨rfl, bk _ _ g⟩
theorem jm_wait (x : Wt) (b : Bool) (h : JS W c m s t w) (hk2 : t.kd ≤ 2) (hl : t.l.length ≤ 1000) (hn : nw t ≤ 100) (hg : wt t x b = (s', code)) :
    Calls Try.prog 36 #[.pointer (some ⟨m, 0, none⟩), wG x, .bool b] w fun e w' => e = .returned (.int .i64 code) ∧ JS W c m s s' w' ∧ Km m w w' := by
  obtain ⟨ok, hm, bk⟩ := h.model
  obtain ⟨n1, n2, n3, n4⟩ := ms_bound hn
  refine (mwait_any x b hm hk2 n3 n4 hl).mono ?_
  rw [hg]
  rintro e w' ⟨rfl, g⟩
  exact ⟨rfl, bk _ _ g⟩
def ctG (s : CS) (t : Int) : Int := (s.ss.countP (isT t) : Int) + (s.rs.countP (isT t) : Int)
theorem js_remove (x : Int) (h : JS W c m s t w) (hn : nw s ≤ 100) :
    Calls Try.prog 37 #[.pointer (some ⟨c, 0, none⟩), .int .i64 x] w fun e w' => e = .returned (.int .i64 (ctG s x)) ∧ JS W c m (gone s x) t w' ∧ Km m w w' := by
  obtain ⟨F, hc, bk⟩ := h.chan
  obtain ⟨n1, n2, n3, n4⟩ := ms_bound hn
  refine (remove_chan x hc n1 n2).mono ?_
  rintro e w' ⟨rfl, g⟩
  exact ⟨rfl, bk _ _ g⟩
theorem jm_remove (x : Int) (h : JS W c m s t w) (hn : nw t ≤ 100) :
    Calls Try.prog 38 #[.pointer (some ⟨m, 0, none⟩), .int .i64 x] w fun e w' => e = .returned (.int .i64 (ctG t x)) ∧ JS W c m s (gone t x) w' ∧ Km m w w' := by
  obtain ⟨ok, hm, bk⟩ := h.model
  obtain ⟨n1, n2, n3, n4⟩ := ms_bound hn
  refine (mremove x hm n3 n4).mono ?_
  rintro e w' ⟨rfl, g⟩
  exact ⟨rfl, bk _ _ g⟩
theorem js_put (v : Int) (h : JS W c m s t w) (hn : nw s ≤ 100) (hg : pt s v = (s', ws, d)) :
    Calls Try.prog 39 #[.pointer (some ⟨c, 0, none⟩), .int .i64 v] w fun e w' => ∃ A cap, e = .returned (.tuple #[.slice A ws.length cap, .bool d]) ∧ RdK w' A ws.length ws ∧ JS W c m s' t w' ∧ Km m w w' := by
  obtain ⟨F, hc, bk⟩ := h.chan
  obtain ⟨n1, n2, n3, n4⟩ := ms_bound hn
  unfold pt at hg
  split at hg
  · rename_i hk
    cases hg
    refine (put_kind v hc hk).mono ?_
    rintro e w' ⟨rfl, rfl⟩
    exact ⟨none, 0, rfl, RdK.nil _ _, h, h.km (Below.refl _ _)⟩
  · rename_i hk
    refine (put_any v hc (by omega) n2).mono ?_
    rw [hg]
    rintro e w' ⟨A, cap, rfl, hr, g⟩
    exact ⟨A, cap, rfl, hr, bk _ _ g⟩
theorem jm_put (v : Int) (h : JS W c m s t w) (hz : t.sz ≤ 64) (hl : t.l.length ≤ 1000) (hn : nw t ≤ 100) (hg : pt t v = (s', ws, d)) :
    Calls Try.prog 40 #[.pointer (some ⟨m, 0, none⟩), .int .i64 v] w fun e w' => ∃ A cap, e = .returned (.tuple #[.slice A ws.length cap, .bool d]) ∧ RdK w' A ws.length ws ∧ JS W c m s s' w' ∧ Km m w w' := by
  obtain ⟨ok, hm, bk⟩ := h.model
  obtain ⟨n1, n2, n3, n4⟩ := ms_bound hn
  unfold pt at hg
  split at hg
  · rename_i hk
    cases hg
    refine (mPut_kind v hm hk).mono ?_
    rintro e w' ⟨rfl, rfl⟩
    exact ⟨none, 0, rfl, RdK.nil _ _, h, h.km (Below.refl _ _)⟩
  · rename_i hk
    refine (mPut_go v hm (by omega) hz hl n4).mono ?_
    rw [hg]
    rintro e w' ⟨A, cap, rfl, hr, g⟩
    exact ⟨A, cap, rfl, hr, bk _ _ g⟩
theorem js_drop (h : JS W c m s t w) (hg : dp s = (s', d)) :
    Calls Try.prog 41 #[.pointer (some ⟨c, 0, none⟩)] w fun e w' => e = .returned (.bool d) ∧ JS W c m s' t w' ∧ Km m w w' := by
  obtain ⟨F, hc, bk⟩ := h.chan
  unfold dp at hg
  by_cases hk : s.kd = 1
  · refine (drop_any hc hk).mono ?_
    rintro e w' ⟨rfl, g⟩
    by_cases hl : s.l = []
    · rw [if_pos (.inr hl)] at hg
      cases hg
      have e1 : ({ s with l := [] } : CS) = s := by
        obtain ⟨a1, a2, a3, a4, a5, a6⟩ := s
        simp only at hl
        subst hl; rfl
      rw [e1] at g
      refine ⟨by rw [hl]; rfl, bk _ _ g⟩
    · rw [if_neg (by rintro (h9 | h9); exact h9 hk; exact hl h9)] at hg
      cases hg
      refine ⟨by rw [decide_eq_true (List.length_pos_iff.2 hl)], bk _ _ g⟩
  · rw [if_pos (.inl hk)] at hg
    cases hg
    refine (drop_kind hc hk).mono ?_
    rintro e w' ⟨rfl, rfl⟩
    exact ⟨rfl, h, h.km (Below.refl _ _)⟩
theorem jm_drop (h : JS W c m s t w) (hg : dp t = (s', d)) :
    Calls Try.prog 42 #[.pointer (some ⟨m, 0, none⟩)] w fun e w' => e = .returned (.bool d) ∧ JS W c m s s' w' ∧ Km m w w' := by
  obtain ⟨ok, hm, bk⟩ := h.model
  unfold dp at hg
  split at hg
  · rename_i hk
    cases hg
    refine (mDrop_not hm hk).mono ?_
    rintro e w' ⟨rfl, rfl⟩
    exact ⟨rfl, h, h.km (Below.refl _ _)⟩
  · rename_i hk
    cases hg
    refine (mDrop_go hm (by by_cases h9 : t.kd = 1; exact h9; exact absurd (.inl h9) hk) (fun h9 => hk (.inr h9))).mono ?_
    rintro e w' ⟨rfl, g⟩
    exact ⟨rfl, bk _ _ g⟩
theorem js_end (h : JS W c m s t w) (hn : nw s ≤ 100) (hg : en s = (s', ws)) :
    Calls Try.prog 43 #[.pointer (some ⟨c, 0, none⟩)] w fun e w' => ∃ A cap, e = .returned (.slice A ws.length cap) ∧ RdK w' A ws.length ws ∧ JS W c m s' t w' ∧ Km m w w' := by
  obtain ⟨F, hc, bk⟩ := h.chan
  obtain ⟨n1, n2, n3, n4⟩ := ms_bound hn
  unfold en at hg
  split at hg
  · rename_i hk
    cases hg
    refine (end_not hc hk).mono ?_
    rintro e w' ⟨rfl, rfl⟩
    exact ⟨none, 0, rfl, RdK.nil _ _, h, h.km (Below.refl _ _)⟩
  · rename_i hk
    cases hg
    refine (end_any hc (by by_cases h9 : s.kd = 2; exact h9; exact absurd (.inl h9) hk) (by cases h9 : s.cl; rfl; exact absurd (.inr h9) hk) n1 n2).mono ?_
    rintro e w' ⟨A, cap, rfl, hr, g⟩
    exact ⟨A, cap, rfl, hr, bk _ _ g⟩
theorem jm_end (h : JS W c m s t w) (hn : nw t ≤ 100) (hg : en t = (s', ws)) :
    Calls Try.prog 44 #[.pointer (some ⟨m, 0, none⟩)] w fun e w' => ∃ A cap, e = .returned (.slice A ws.length cap) ∧ RdK w' A ws.length ws ∧ JS W c m s s' w' ∧ Km m w w' := by
  obtain ⟨ok, hm, bk⟩ := h.model
  obtain ⟨n1, n2, n3, n4⟩ := ms_bound hn
  unfold en at hg
  split at hg
  · rename_i hk
    cases hg
    refine (mEnd_not hm hk).mono ?_
    rintro e w' ⟨rfl, rfl⟩
    exact ⟨none, 0, rfl, RdK.nil _ _, h, h.km (Below.refl _ _)⟩
  · rename_i hk
    cases hg
    refine (mEnd_go hm (by by_cases h9 : t.kd = 2; exact h9; exact absurd (.inl h9) hk) (by cases h9 : t.cl; rfl; exact absurd (.inr h9) hk) n3 n4).mono ?_
    rintro e w' ⟨A, cap, rfl, hr, g⟩
    exact ⟨A, cap, rfl, hr, bk _ _ g⟩
end
end Go.Proofs.Ytmcacmbllpphiaa
