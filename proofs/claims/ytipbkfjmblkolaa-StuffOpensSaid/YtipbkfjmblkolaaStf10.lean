/- StuffApart. -/
import Derived.Test.YtipbkfjmblkolaaStf9
namespace Go.Proofs.Ytipbkfjmblkolaa
open Go.RowKit

theorem OwnB.fm {w : World} {base : Nat} {A : Option Addr} {n c : Nat} {l : List UInt8} (h : OwnB w base (.slice A n c) l) : Fm A c := by
  rcases h.2 with ⟨h1, _⟩ | ⟨g, cap, cur, h1, _⟩
  · injection h1 with e1 e2 e3
    exact .inl e3
  · injection h1 with e1 e2 e3
    subst e1
    exact .inr ⟨_, _, rfl⟩
theorem OwnB.le {w : World} {base : Nat} {A : Option Addr} {n c : Nat} {l : List UInt8} (h : OwnB w base (.slice A n c) l) : l.length ≤ c := by
  obtain ⟨X, k, e, h1, _⟩ := h.isB
  injection e with e1 e2 e3
  rw [e3]; exact h1
theorem open_of {l o r : List UInt8} {base : Nat} {e : Ending} {w : World} (hl : l = encL o ++ 0 :: r) (h : OpenP l base e w) :
    ∃ A n c, e = .returned (.tuple #[.slice A n c, .int .i64 (((wrapL o).length : Nat) : Int), .int .u16 0]) ∧ n = o.length ∧ OwnB w base (.slice A n c) o := by
  rcases h with ⟨h1, _⟩ | ⟨o', r', A, n, c, h1, h2, h3, h4⟩
  · exact absurd hl (h1 o r)
  · have := encL_inj (first_zero (encL_noZ o') (encL_noZ o) (h1.symm.trans hl)).1
    subst this
    exact ⟨A, n, c, by rw [h2]; simp [wrapL], h3, h4⟩
theorem wrapL_le (l : List UInt8) : (wrapL l).length ≤ 2 * l.length + 2 := by
  have := encL_len l
  unfold wrapL
  simp
  omega
theorem wrapL_inj {a b : List UInt8} (h : wrapL a = wrapL b) : a = b := by
  unfold wrapL at h
  exact encL_inj (List.append_inj_left' h rfl)

set_option maxRecDepth 100000 in
set_option maxHeartbeats 4000000 in
theorem stuffApart_known (A : Option Addr) (c : Nat) (l : List UInt8) (B : Option Addr) (d : Nat) (m : List UInt8) (w : World) (h0 : 2000 < l.length ∨ l.length ≤ 2000 ∧ 2000 < m.length) :
    Calls Try.prog 7 #[.slice A l.length c, .slice B m.length d] w fun e w' => e = .returned (.bool true) ∧ Below w.heap.size w w' := by
  rcases h0 with h0 | ⟨h0, h1⟩
  · have d1 : decide ((2000 : Int) < l.length) = true := by simp; omega
    have d2 : decide (2000 < l.length) = true := by simp; omega
    go_enter Try.func7, Try.ntmps7
    go_wp2_with (go_at_call 18; refine (stuffKnown_any _).mono ?_; rintro e w1 ⟨rfl, hb1⟩)
    go_ret
    exact ⟨rfl, hb1⟩
  · have d1 : decide ((2000 : Int) < l.length) = false := by simp; omega
    have d2 : decide (2000 < l.length) = false := by simp; omega
    have d3 : decide ((2000 : Int) < m.length) = true := by simp; omega
    have d4 : decide (2000 < m.length) = true := by simp; omega
    go_enter Try.func7, Try.ntmps7
    go_wp2_with (go_at_call 18; refine (stuffKnown_any _).mono ?_; rintro e w1 ⟨rfl, hb1⟩)
    go_ret
    exact ⟨rfl, hb1⟩

set_option maxRecDepth 100000 in
set_option maxHeartbeats 2000000 in
theorem stuffApart_walk (A : Option Addr) (c : Nat) (l : List UInt8) (B : Option Addr) (d : Nat) (m : List UInt8) (w : World) (hl : Bs w A l) (hc : l.length ≤ c) (hm : Bs w B m) (hd : m.length ≤ d) :
    Calls Try.prog 7 #[.slice A l.length c, .slice B m.length d] w fun e w' => e = .returned (.bool true) ∧ Below w.heap.size w w' := by
  rcases Nat.lt_or_ge 2000 l.length with h0 | h0
  · exact stuffApart_known A c l B d m w (.inl h0)
  rcases Nat.lt_or_ge 2000 m.length with h1 | h1
  · exact stuffApart_known A c l B d m w (.inr ⟨h0, h1⟩)
  have d1 : decide ((2000 : Int) < l.length) = false := by simp; omega
  have d2 : decide (2000 < l.length) = false := by simp; omega
  have d3 : decide ((2000 : Int) < m.length) = false := by simp; omega
  have d4 : decide (2000 < m.length) = false := by simp; omega
  have Hln := Lib.hid h0
  have Hmn := Lib.hid h1
  have Hc := Lib.hid hc
  have Hd := Lib.hid hd
  clear h0 h1 hc hd
  have F1 : ((wrapL l == wrapL m) == (l == m)) = true := by
    rw [beq_iff_eq, Bool.eq_iff_iff, beq_iff_eq, beq_iff_eq]
    exact ⟨wrapL_inj, fun h => by rw [h]⟩
  have HF := Lib.hid F1
  clear F1
  go_enter Try.func7, Try.ntmps7
  go_wp2_with fail
  refine (stuffKnown_any _).mono ?_
  rintro e w1 ⟨rfl, hb1⟩
  go_wp2_with fail
  refine (wrap_any A c l _ (hl.below hb1) Hc.out (by have := Hln.out; omega)).mono ?_
  rintro e w2 ⟨A2, n2, c2, rfl, hn2, o2, b2⟩
  have t2 := on hb1 b2
  go_wp2_with fail
  refine (wrap_any B d m _ (hm.below t2) Hd.out (by have := Hmn.out; omega)).mono ?_
  rintro e w3 ⟨A3, n3, c3, rfl, hn3, o3, b3⟩
  have t3 := on t2 b3
  have o2 := o2.below b3
  subst hn2 hn3
  have L2 := Lib.hid (wrapL_le l)
  have L3 := Lib.hid (wrapL_le m)
  obtain ⟨M, hM⟩ : ∃ M, wrapL l ++ wrapL m = M := ⟨_, rfl⟩
  have HM := Lib.hid hM
  have HML : Hid ((wrapL l).length + (wrapL m).length = M.length) := Lib.hid (by rw [← hM, List.length_append])
  clear hM
  go_wp2_with (at_builtin; first
    | (refine appAll _ rfl (.tmp 31) (.tmp 32) rfl w3.heap.size _ [] rfl (OwnB.nil _ _) A2 c2 (wrapL l) rfl o2.bs (by have := L2.out; have := Hln.out; simp; omega) (Nat.le_refl _) ?_; intro A4 c4 w4 o4 b4; rw [List.nil_append, List.length_nil, Nat.zero_add] at o4; rw [List.length_nil, Nat.zero_add])
    | (refine appAll _ rfl (.tmp 34) (.tmp 35) rfl w3.heap.size _ (wrapL l) rfl o4 A3 c3 (wrapL m) rfl (o3.below b4).bs (by have := L2.out; have := Hln.out; have := L3.out; have := Hmn.out; omega) b4.size ?_; intro A5 c5 w5 o5 b5; rw [HM.out, HML.out] at o5; rw [HML.out]))
  have t5 : Below w.heap.size w w5 := t3.trans ((b4.trans b5).mono t3.size)
  have b35 := b4.trans b5
  refine (open_any A5 c5 M _ o5.bs o5.le (by have := L2.out; have := Hln.out; have := L3.out; have := Hmn.out; have := HML.out; omega)).mono ?_
  rintro e w6 ⟨HP, b6⟩
  obtain ⟨A6, n6, c6, rfl, hn6, o6⟩ := open_of (o := l) (r := wrapL m) (by rw [← HM.out]; unfold wrapL; simp) HP
  subst hn6
  clear HP
  have t6 := on t5 b6
  have o5 := o5.below b6
  have F5 := Lib.hid o5.fm
  have C5 := Lib.hid o5.le
  have s1 := str_of o6.bs c6
  have s2 := str_of (hl.below t6) c
  go_wp2_with (refine cutBE _ rfl (.tmp 59) (.tmp 60) rfl A5 M.length c5 rfl F5.out (wrapL l).length rfl (by have := HML.out; omega) C5.out ?_; intro X hX hFX; have HX := Lib.hid hX; have HFX := Lib.hid hFX; clear hX hFX; simp [Act.put])
  rename_i K aK
  have e7 : M.length - (wrapL l).length = (wrapL m).length := by have := HML.out; omega
  rw [e7]
  have hX : Bs w6 X (wrapL m) := by
    have := HX.out w6 M o5.bs C5.out
    rwa [← HM.out, List.drop_left] at this
  have L7 : (wrapL m).length ≤ c5 - (wrapL l).length := by have := HML.out; have := C5.out; omega
  refine (open_any X _ (wrapL m) w6 hX L7 (by have := L3.out; have := Hmn.out; omega)).mono ?_
  rintro e w7 ⟨HP, b7⟩
  obtain ⟨A7, n7, c7, rfl, hn7, o7⟩ := open_of (o := m) (r := []) (by unfold wrapL; simp) HP
  subst hn7
  clear HP e7 hX L7
  have t7 := on t6 b7
  have s3 := str_of o7.bs c7
  have s4 := str_of (hm.below t7) d
  have s5 := str_of ((o2.below (b35.trans (b6.mono b35.size))).below b7).bs c2
  have s6 := str_of ((o3.below (b35.trans (b6.mono b35.size))).below b7).bs c3
  have s7 := str_of (hl.below t7) c
  simp only
  apply aK
  clear s1 s2
  go_wp2_with fail
  go_ret
  exact ⟨ret_bool HF.out, t7⟩

end Go.Proofs.Ytipbkfjmblkolaa
