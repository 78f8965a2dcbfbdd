/- StuffBack. -/
import Derived.Test.YtipbkfjmblkolaaStf10
namespace Go.Proofs.Ytipbkfjmblkolaa
open Go.RowKit

set_option maxRecDepth 100000 in
set_option maxHeartbeats 4000000 in
theorem stuffBack_known (A : Option Addr) (c : Nat) (l : List UInt8) (B : Option Addr) (d : Nat) (m : List UInt8) (w : World) (h0 : 2000 < l.length ∨ l.length ≤ 2000 ∧ 2000 < m.length) :
    Calls Try.prog 10 #[.slice A l.length c, .slice B m.length d] w fun e w' => e = .returned (.bool true) ∧ Below w.heap.size w w' := by
  rcases h0 with h0 | ⟨h0, h1⟩
  · have d1 : decide ((2000 : Int) < l.length) = true := by simp; omega
    have d2 : decide (2000 < l.length) = true := by simp; omega
    go_enter Try.func10, Try.ntmps10
    go_wp2_with (go_at_call 18; refine (stuffKnown_any _).mono ?_; rintro e w1 ⟨rfl, hb1⟩)
    go_ret
    exact ⟨rfl, hb1⟩
  · have d1 : decide ((2000 : Int) < l.length) = false := by simp; omega
    have d2 : decide (2000 < l.length) = false := by simp; omega
    have d3 : decide ((2000 : Int) < m.length) = true := by simp; omega
    have d4 : decide (2000 < m.length) = true := by simp; omega
    go_enter Try.func10, Try.ntmps10
    go_wp2_with (go_at_call 18; refine (stuffKnown_any _).mono ?_; rintro e w1 ⟨rfl, hb1⟩)
    go_ret
    exact ⟨rfl, hb1⟩

theorem wrapL_zero (l : List UInt8) (k : Nat) (hk : k < (wrapL l).length) : (wrapL l)[k] = 0 ↔ k = (wrapL l).length - 1 := by
  have hn : (wrapL l).length = (encL l).length + 1 := by simp [wrapL]
  have hg : (wrapL l)[k]? = if k < (encL l).length then (encL l)[k]? else [0][k - (encL l).length]? := by
    show (encL l ++ [0])[k]? = _
    split
    · rename_i h; exact List.getElem?_append_left h
    · rename_i h; exact List.getElem?_append_right (by omega)
  rw [List.getElem?_eq_getElem hk] at hg
  by_cases h1 : k < (encL l).length
  · rw [if_pos h1, List.getElem?_eq_getElem h1] at hg
    injection hg with hg
    constructor
    · intro h
      rw [hg] at h
      exact absurd h (encL_noZ l _ (List.getElem_mem h1))
    · intro h; omega
  · have hk' : k - (encL l).length = 0 := by omega
    rw [if_neg h1, hk'] at hg
    injection hg with hg
    constructor
    · intro _; omega
    · intro _; exact hg

set_option maxRecDepth 100000 in
set_option maxHeartbeats 2000000 in
theorem stuffBack_walk (A : Option Addr) (c : Nat) (l : List UInt8) (B : Option Addr) (d : Nat) (m : List UInt8) (w : World) (hl : Bs w A l) (hc : l.length ≤ c) (hm : Bs w B m) :
    Calls Try.prog 10 #[.slice A l.length c, .slice B m.length d] w fun e w' => e = .returned (.bool true) ∧ Below w.heap.size w w' := by
  rcases Nat.lt_or_ge 2000 l.length with h0 | h0
  · exact stuffBack_known A c l B d m w (.inl h0)
  rcases Nat.lt_or_ge 2000 m.length with h1 | h1
  · exact stuffBack_known A c l B d m w (.inr ⟨h0, h1⟩)
  have d1 : decide ((2000 : Int) < l.length) = false := by simp; omega
  have d2 : decide (2000 < l.length) = false := by simp; omega
  have d3 : decide ((2000 : Int) < m.length) = false := by simp; omega
  have d4 : decide (2000 < m.length) = false := by simp; omega
  have Hln := Lib.hid h0
  have Hmn := Lib.hid h1
  have Hc := Lib.hid hc
  have HW : Hid ((wrapL l).length ≤ l.length + l.length / 254 + 2) := Lib.hid (by
    have := encL_length _ l (Nat.le_refl _)
    simp [wrapL]; omega)
  obtain ⟨M, hM⟩ : ∃ M, wrapL l ++ m = M := ⟨_, rfl⟩
  have HM := Lib.hid hM
  have HML : Hid ((wrapL l).length + m.length = M.length) := Lib.hid (by rw [← hM, List.length_append])
  have HP1 : Hid (1 ≤ (wrapL l).length) := Lib.hid (by simp [wrapL])
  clear h0 h1 hc hM
  go_enter Try.func10, Try.ntmps10
  go_wp2_with fail
  refine (stuffKnown_any _).mono ?_
  rintro e w1 ⟨rfl, hb1⟩
  go_wp2_with fail
  refine (wrap_any A c l _ (hl.below hb1) Hc.out (by have := Hln.out; omega)).mono ?_
  rintro e w2 ⟨A2, n2, c2, rfl, hn2, o2, b2⟩
  have t2 := on hb1 b2
  subst hn2
  have L2 := Lib.hid (wrapL_le l)
  obtain ⟨N, hN⟩ : ∃ N, N = (wrapL l).length := ⟨_, rfl⟩
  rw [← hN] at o2 ⊢
  have HN := Lib.hid hN
  clear hN
  have hNb : (N : Int) ≤ 5000 := by have := HN.out; have := L2.out; have := Hln.out; omega
  have hNn : N ≤ 5000 := by omega
  have hN1 : (1 : Int) ≤ N := by have := HN.out; have := HP1.out; omega
  go_wp2_with fail
  go_loop [6] (fun s => ∃ k : Nat, k ≤ N ∧ s = .int .i64 k) (fun s => N - (intOf s).toNat)
  case atStart => exact ⟨0, Nat.zero_le _, rfl⟩
  case round =>
    obtain ⟨k, hk, rfl⟩ := hrel
    have n1 : k < 2 ^ 62 := by omega
    have e0 : IntKind.i64.wrap ((N : Int) - 1) = ((N - 1 : Nat) : Int) := by rw [IntKind.wrap_i64]; omega
    rcases Nat.lt_or_ge k N with hlt | hge
    · have q1 : decide ((k : Int) < N) = true := decide_eq_true (by omega)
      have q2 : decide (k < N) = true := decide_eq_true hlt
      have e1 : IntKind.i64.wrap ((k : Int) + 1) = ((k + 1 : Nat) : Int) := by rw [IntKind.wrap_i64]; omega
      have hkw : k < (wrapL l).length := by rw [← HN.out]; exact hlt
      obtain ⟨p, o, rfl, hcell⟩ := o2.bs k (wrapL l)[k] (List.getElem?_eq_getElem hkw)
      unfold bv at hcell
      have hz := wrapL_zero l k hkw
      rw [← HN.out] at hz
      obtain ⟨x, hx⟩ : ∃ x : UInt8, x = (wrapL l)[k] := ⟨_, rfl⟩
      rw [← hx] at hz hcell
      clear hx hkw
      obtain ⟨y, hy⟩ : ∃ y : Nat, y = x.toNat := ⟨_, rfl⟩
      rw [← hy] at hcell
      by_cases hkz : k = N - 1
      · have hx0 := hz.2 hkz
        have hy0 : y = 0 := by rw [hy, hx0]; rfl
        have r1 : ((k : Int) == ((N - 1 : Nat) : Int)) = true := beq_iff_eq.2 (by omega)
        subst hy0
        clear hz hx0 hy hkz
        go_wp2_with fail
        go_round
        case rel => exact ⟨k + 1, hlt, by go_num⟩
        case measure => simp [intOf]; omega
      · have hx0 : ¬ y = 0 := fun h => hkz (hz.1 (UInt8.toNat_inj.1 (by rw [← hy, h]; rfl)))
        have r1 : ((k : Int) == ((N - 1 : Nat) : Int)) = false := beq_eq_false_iff_ne.2 (by omega)
        have r3 : ((y : Int) == 0) = false := beq_eq_false_iff_ne.2 (by omega)
        clear hz hy
        go_wp2_with fail
        go_round
        case rel => exact ⟨k + 1, hlt, by go_num⟩
        case measure => simp [intOf]; omega
    · obtain rfl : k = N := by omega
      have q1 : decide ((k : Int) < k) = false := by simp
      clear hge hk
      go_wp2_with (at_builtin; refine appAll _ rfl (.tmp 45) (.tmp 46) rfl w1.heap.size _ (wrapL l) rfl o2 B d m rfl (hm.below t2) (by have := L2.out; have := Hln.out; have := Hmn.out; omega) b2.size ?_; intro A5 c5 w5 o5 b5; rw [HM.out, HML.out] at o5; rw [HML.out])
      refine (open_any A5 c5 M _ o5.bs o5.le (by have := L2.out; have := Hln.out; have := Hmn.out; have := HML.out; omega)).mono ?_
      rintro e w6 ⟨HP, b6⟩
      obtain ⟨A6, n6, c6, rfl, hn6, o6⟩ := open_of (o := l) (r := m) (by rw [← HM.out]; unfold wrapL; simp) HP
      subst hn6
      rw [← HN.out]
      clear HP
      have t5 : Below w.heap.size w w5 := t2.trans (b5.mono (Nat.le_trans hb1.size (by have := b2.size; omega)))
      have t6 := on t5 b6
      have s1 := str_of o6.bs c6
      have s2 := str_of (hl.below t6) c
      have n1 : 0 ≤ (l.length : Int) := by omega
      have HW' := HW.out
      have Hln' := Hln.out
      have HNo := HN.out
      obtain ⟨dv, hdv⟩ : ∃ dv, dv = l.length / 254 := ⟨_, rfl⟩
      have e1 : Int.tdiv (l.length : Int) 254 = (dv : Int) := by
        rw [Int.tdiv_eq_ediv_of_nonneg (by omega), hdv]; omega
      rw [← hdv] at HW'
      have hdb : dv ≤ 2000 := by omega
      have e2 : IntKind.i64.wrap ((l.length : Int) + (dv : Int)) = (l.length : Int) + (dv : Int) := by rw [IntKind.wrap_i64]; omega
      have e3 : IntKind.i64.wrap ((l.length : Int) + (dv : Int) + 2) = (l.length : Int) + (dv : Int) + 2 := by rw [IntKind.wrap_i64]; omega
      have e4 : IntKind.i64.wrap (dv : Int) = (dv : Int) := by rw [IntKind.wrap_i64]; omega
      have q3 : (k : Int) ≤ (l.length : Int) + (dv : Int) + 2 := by omega
      have q4 : decide ((k : Int) ≤ (l.length : Int) + (dv : Int) + 2) = true := decide_eq_true q3
      clear hdv HW' Hln' HNo e0 hNb hNn hN1 q1
      go_wp2_with fail
      go_ret
      exact ⟨rfl, t6⟩

end Go.Proofs.Ytipbkfjmblkolaa
