/- Layer 23: what Add and Drop search by; sort.Search with each. -/
import Derived.Test.YtfbnobhecfgahaaSp2
set_option linter.unusedSimpArgs false
set_option linter.unusedVariables false
namespace Go.Proofs.Ytfbnobhecfgahaa
open Go.RowKit
set_option maxRecDepth 100000

def p_add1 (s1 s2 : Int) (x : Sp) : Bool := !(apB x.2 s1)
theorem add1_any (ql qs : Nat) (s1 s2 : Int) (V : Option Addr) (c : Nat) (l : List Sp) (w : World) (hl : Blk w ql 22 #[.slice V l.length c]) (hs : Blk w qs 24 #[.int .i64 s1, .int .i64 s2]) (hV : Ps w V l) (hin : InL l) (hi1 : In s1) (hi2 : In s2) (i : Nat) (x : Sp) (hx : l[i]? = some x) (hlen : l.length ≤ 1000000) :
    Calls Try.prog 27 #[.int .i64 i, .pointer (some ⟨ql, 0, none⟩), .pointer (some ⟨qs, 0, none⟩)] w fun e w' => e = .returned (.bool (p_add1 s1 s2 x)) ∧ Below w.heap.size w w' := by
  have hil : i < l.length := (List.getElem?_eq_some_iff.1 hx).1
  have hxin := hin x (List.mem_of_getElem? hx)
  obtain ⟨p, o, rfl, hc⟩ := ps_at hV i x hx
  obtain ⟨xf, xt⟩ := x
  dsimp only at hc hxin
  have C := And.intro (hc w (Below.refl _ _)) (And.intro ((hl.cell 0 : w.cell? ⟨ql, 0, none⟩ = some (.slice (some ⟨p, o, none⟩) l.length c))) (And.intro (hs.cell 0 : w.cell? ⟨qs, 0, none⟩ = some (.int .i64 s1)) (hs.cell 1 : w.cell? ⟨qs, 1, none⟩ = some (.int .i64 s2))))
  have hi0 : (i : Int) < l.length := by omega
  have HA := Lib.hid (fun W => apart_any xt s1 W hxin.2 hi1)
  have hpe : p_add1 s1 s2 (xf, xt) = (!(apB xt s1)) := rfl
  rw [hpe]
  generalize apB xt s1 = r at HA ⊢
  clear hc hl hs hV hin hx hpe hxin hi1 hi2
  go_enter Try.func27, Try.ntmps27
  go_wp2_with fail
  go_quiet ((go_at_call 28; exact Calls.quiet_of_same (HA.out _)))
  go_wp2_with fail
  go_ret
  exact ⟨rfl, below_drewN (Below.refl _ _) _⟩

set_option maxHeartbeats 1000000 in
theorem search_add1 (ql qs : Nat) (s1 s2 : Int) (V : Option Addr) (c : Nat) (l : List Sp) (w : World) (hl : Blk w ql 22 #[.slice V l.length c]) (hs : Blk w qs 24 #[.int .i64 s1, .int .i64 s2]) (hV : Ps w V l) (hin : InL l) (hi1 : In s1) (hi2 : In s2) (hlen : l.length ≤ 1000000)
    (hmono : ∀ (a b : Nat) (x y : Sp), a ≤ b → l[a]? = some x → l[b]? = some y → p_add1 s1 s2 x = true → p_add1 s1 s2 y = true) :
    Calls Try.prog 26 #[.int .i64 l.length, .func (.func 27) #[] #[.pointer (some ⟨ql, 0, none⟩), .pointer (some ⟨qs, 0, none⟩)]] w fun e w' => (∃ r : Nat, r ≤ l.length ∧ e = .returned (.int .i64 r) ∧ ∀ (k : Nat) (x : Sp), l[k]? = some x → (k < r ↔ p_add1 s1 s2 x = false)) ∧ Below w.heap.size w w' := by
  have HF := Lib.hid (fun (W : World) (hb : Below w.heap.size w W) (i : Nat) (x : Sp) (hx : l[i]? = some x) => add1_any ql qs s1 s2 V c l W (hl.below hb hl.lt) (hs.below hb hs.lt) (hV.below hb (Nat.le_refl _)) hin hi1 hi2 i x hx hlen)
  have HM := Lib.hid hmono
  clear hl hs hV hin hi1 hi2 hmono
  go_enter Try.func26, Try.ntmps26
  go_wp2_with fail
  go_loopw [5, 6] (fun s5 s6 wr => ∃ (i j : Nat), i ≤ j ∧ j ≤ l.length ∧ s5 = .int .i64 i ∧ s6 = .int .i64 j ∧ Hid (∀ (k : Nat) (x : Sp), l[k]? = some x → k < i → p_add1 s1 s2 x = false) ∧ Hid (∀ (k : Nat) (x : Sp), l[k]? = some x → j ≤ k → p_add1 s1 s2 x = true) ∧ Hid (Below w.heap.size w wr))
    (fun s5 s6 _ => (intOf s6).toNat - (intOf s5).toNat)
  case atStart => exact ⟨0, l.length, Nat.zero_le _, Nat.le_refl _, rfl, rfl, Lib.hid (fun k x _ h => by omega), Lib.hid (fun k x hx h => by have := (List.getElem?_eq_some_iff.1 hx).1; omega), Lib.hid (Below.refl _ _)⟩
  case round =>
    obtain ⟨i, j, hij, hj, rfl, rfl, H1, H2, HB⟩ := hrel
    have hsz := HB.out.size
    by_cases hlt : i < j
    · obtain ⟨h, hh⟩ : ∃ h, h = (i + j) / 2 := ⟨_, rfl⟩
      have hh1 : i ≤ h := by omega
      have hh2 : h < j := by omega
      have hw : ((i : Int) + j) / 2 = h := by omega
      obtain ⟨x, hx⟩ : ∃ x, l[h]? = some x := ⟨_, List.getElem?_eq_getElem (by omega)⟩
      have HC := Lib.hid (HF.out wr HB.out h x hx)
      have HX := Lib.hid hx
      have HHh := Lib.hid hh
      clear hx hh
      cases hr : p_add1 s1 s2 x
      · rw [hr] at HC
        have H1' := Lib.hid (show ∀ (k : Nat) (y : Sp), l[k]? = some y → k < h + 1 → p_add1 s1 s2 y = false from fun k y hy hk => by
          rcases hc : p_add1 s1 s2 y with _ | _
          · rfl
          · have := HM.out k h y x (by omega) hy HX.out hc
            rw [hr] at this; cases this)
        clear hr
        go_wp2_with fail
        refine HC.out.mono ?_
        rintro e w1 ⟨rfl, b1⟩
        have HB1 := Lib.hid (HB.out.trans (b1.mono hsz))
        clear b1
        go_wp2_with fail
        go_roundw
        case measure => simp [intOf]; omega
        case rel => exact ⟨h + 1, j, by omega, hj, by go_num, rfl, H1', H2, HB1⟩
      · rw [hr] at HC
        have H2' := Lib.hid (show ∀ (k : Nat) (y : Sp), l[k]? = some y → h ≤ k → p_add1 s1 s2 y = true from fun k y hy hk => HM.out h k x y hk HX.out hy hr)
        clear hr
        go_wp2_with fail
        refine HC.out.mono ?_
        rintro e w1 ⟨rfl, b1⟩
        have HB1 := Lib.hid (HB.out.trans (b1.mono hsz))
        clear b1
        go_wp2_with fail
        go_roundw
        case measure => simp [intOf]; omega
        case rel => exact ⟨i, h, by omega, by omega, rfl, rfl, H1, H2', HB1⟩
    · obtain rfl : i = j := by omega
      go_wp2_with fail
      go_ret
      refine ⟨⟨i, hj, rfl, fun k x hx => ⟨fun hk => H1.out k x hx hk, fun hf => ?_⟩⟩, HB.out⟩
      rcases Nat.lt_or_ge k i with h1 | h1
      · exact h1
      · have := H2.out k x hx h1
        rw [hf] at this; cases this

def p_add2 (s1 s2 : Int) (x : Sp) : Bool := apB s2 x.1
theorem add2_any (ql qs : Nat) (s1 s2 : Int) (V : Option Addr) (c : Nat) (l : List Sp) (w : World) (hl : Blk w ql 22 #[.slice V l.length c]) (hs : Blk w qs 24 #[.int .i64 s1, .int .i64 s2]) (hV : Ps w V l) (hin : InL l) (hi1 : In s1) (hi2 : In s2) (i : Nat) (x : Sp) (hx : l[i]? = some x) (hlen : l.length ≤ 1000000) :
    Calls Try.prog 29 #[.int .i64 i, .pointer (some ⟨qs, 0, none⟩), .pointer (some ⟨ql, 0, none⟩)] w fun e w' => e = .returned (.bool (p_add2 s1 s2 x)) ∧ Below w.heap.size w w' := by
  have hil : i < l.length := (List.getElem?_eq_some_iff.1 hx).1
  have hxin := hin x (List.mem_of_getElem? hx)
  obtain ⟨p, o, rfl, hc⟩ := ps_at hV i x hx
  obtain ⟨xf, xt⟩ := x
  dsimp only at hc hxin
  have C := And.intro (hc w (Below.refl _ _)) (And.intro ((hl.cell 0 : w.cell? ⟨ql, 0, none⟩ = some (.slice (some ⟨p, o, none⟩) l.length c))) (And.intro (hs.cell 0 : w.cell? ⟨qs, 0, none⟩ = some (.int .i64 s1)) (hs.cell 1 : w.cell? ⟨qs, 1, none⟩ = some (.int .i64 s2))))
  have hi0 : (i : Int) < l.length := by omega
  have HA := Lib.hid (fun W => apart_any s2 xf W hi2 hxin.1)
  have hpe : p_add2 s1 s2 (xf, xt) = apB s2 xf := rfl
  rw [hpe]
  generalize apB s2 xf = r at HA ⊢
  clear hc hl hs hV hin hx hpe hxin hi1 hi2
  go_enter Try.func29, Try.ntmps29
  go_wp2_with fail
  go_quiet ((go_at_call 28; exact Calls.quiet_of_same (HA.out _)))
  go_wp2_with fail
  go_ret
  exact ⟨rfl, below_drewN (Below.refl _ _) _⟩

set_option maxHeartbeats 1000000 in
theorem search_add2 (ql qs : Nat) (s1 s2 : Int) (V : Option Addr) (c : Nat) (l : List Sp) (w : World) (hl : Blk w ql 22 #[.slice V l.length c]) (hs : Blk w qs 24 #[.int .i64 s1, .int .i64 s2]) (hV : Ps w V l) (hin : InL l) (hi1 : In s1) (hi2 : In s2) (hlen : l.length ≤ 1000000)
    (hmono : ∀ (a b : Nat) (x y : Sp), a ≤ b → l[a]? = some x → l[b]? = some y → p_add2 s1 s2 x = true → p_add2 s1 s2 y = true) :
    Calls Try.prog 26 #[.int .i64 l.length, .func (.func 29) #[] #[.pointer (some ⟨qs, 0, none⟩), .pointer (some ⟨ql, 0, none⟩)]] w fun e w' => (∃ r : Nat, r ≤ l.length ∧ e = .returned (.int .i64 r) ∧ ∀ (k : Nat) (x : Sp), l[k]? = some x → (k < r ↔ p_add2 s1 s2 x = false)) ∧ Below w.heap.size w w' := by
  have HF := Lib.hid (fun (W : World) (hb : Below w.heap.size w W) (i : Nat) (x : Sp) (hx : l[i]? = some x) => add2_any ql qs s1 s2 V c l W (hl.below hb hl.lt) (hs.below hb hs.lt) (hV.below hb (Nat.le_refl _)) hin hi1 hi2 i x hx hlen)
  have HM := Lib.hid hmono
  clear hl hs hV hin hi1 hi2 hmono
  go_enter Try.func26, Try.ntmps26
  go_wp2_with fail
  go_loopw [5, 6] (fun s5 s6 wr => ∃ (i j : Nat), i ≤ j ∧ j ≤ l.length ∧ s5 = .int .i64 i ∧ s6 = .int .i64 j ∧ Hid (∀ (k : Nat) (x : Sp), l[k]? = some x → k < i → p_add2 s1 s2 x = false) ∧ Hid (∀ (k : Nat) (x : Sp), l[k]? = some x → j ≤ k → p_add2 s1 s2 x = true) ∧ Hid (Below w.heap.size w wr))
    (fun s5 s6 _ => (intOf s6).toNat - (intOf s5).toNat)
  case atStart => exact ⟨0, l.length, Nat.zero_le _, Nat.le_refl _, rfl, rfl, Lib.hid (fun k x _ h => by omega), Lib.hid (fun k x hx h => by have := (List.getElem?_eq_some_iff.1 hx).1; omega), Lib.hid (Below.refl _ _)⟩
  case round =>
    obtain ⟨i, j, hij, hj, rfl, rfl, H1, H2, HB⟩ := hrel
    have hsz := HB.out.size
    by_cases hlt : i < j
    · obtain ⟨h, hh⟩ : ∃ h, h = (i + j) / 2 := ⟨_, rfl⟩
      have hh1 : i ≤ h := by omega
      have hh2 : h < j := by omega
      have hw : ((i : Int) + j) / 2 = h := by omega
      obtain ⟨x, hx⟩ : ∃ x, l[h]? = some x := ⟨_, List.getElem?_eq_getElem (by omega)⟩
      have HC := Lib.hid (HF.out wr HB.out h x hx)
      have HX := Lib.hid hx
      have HHh := Lib.hid hh
      clear hx hh
      cases hr : p_add2 s1 s2 x
      · rw [hr] at HC
        have H1' := Lib.hid (show ∀ (k : Nat) (y : Sp), l[k]? = some y → k < h + 1 → p_add2 s1 s2 y = false from fun k y hy hk => by
          rcases hc : p_add2 s1 s2 y with _ | _
          · rfl
          · have := HM.out k h y x (by omega) hy HX.out hc
            rw [hr] at this; cases this)
        clear hr
        go_wp2_with fail
        refine HC.out.mono ?_
        rintro e w1 ⟨rfl, b1⟩
        have HB1 := Lib.hid (HB.out.trans (b1.mono hsz))
        clear b1
        go_wp2_with fail
        go_roundw
        case measure => simp [intOf]; omega
        case rel => exact ⟨h + 1, j, by omega, hj, by go_num, rfl, H1', H2, HB1⟩
      · rw [hr] at HC
        have H2' := Lib.hid (show ∀ (k : Nat) (y : Sp), l[k]? = some y → h ≤ k → p_add2 s1 s2 y = true from fun k y hy hk => HM.out h k x y hk HX.out hy hr)
        clear hr
        go_wp2_with fail
        refine HC.out.mono ?_
        rintro e w1 ⟨rfl, b1⟩
        have HB1 := Lib.hid (HB.out.trans (b1.mono hsz))
        clear b1
        go_wp2_with fail
        go_roundw
        case measure => simp [intOf]; omega
        case rel => exact ⟨i, h, by omega, by omega, rfl, rfl, H1, H2', HB1⟩
    · obtain rfl : i = j := by omega
      go_wp2_with fail
      go_ret
      refine ⟨⟨i, hj, rfl, fun k x hx => ⟨fun hk => H1.out k x hx hk, fun hf => ?_⟩⟩, HB.out⟩
      rcases Nat.lt_or_ge k i with h1 | h1
      · exact h1
      · have := H2.out k x hx h1
        rw [hf] at this; cases this

def p_drop1 (s1 s2 : Int) (x : Sp) : Bool := decide (s1 ≤ x.2)
theorem drop1_any (ql qs : Nat) (s1 s2 : Int) (V : Option Addr) (c : Nat) (l : List Sp) (w : World) (hl : Blk w ql 22 #[.slice V l.length c]) (hs : Blk w qs 24 #[.int .i64 s1, .int .i64 s2]) (hV : Ps w V l) (hin : InL l) (hi1 : In s1) (hi2 : In s2) (i : Nat) (x : Sp) (hx : l[i]? = some x) (hlen : l.length ≤ 1000000) :
    Calls Try.prog 31 #[.int .i64 i, .pointer (some ⟨ql, 0, none⟩), .pointer (some ⟨qs, 0, none⟩)] w fun e w' => e = .returned (.bool (p_drop1 s1 s2 x)) ∧ Below w.heap.size w w' := by
  have hil : i < l.length := (List.getElem?_eq_some_iff.1 hx).1
  have hxin := hin x (List.mem_of_getElem? hx)
  obtain ⟨p, o, rfl, hc⟩ := ps_at hV i x hx
  obtain ⟨xf, xt⟩ := x
  dsimp only at hc hxin
  have C := And.intro (hc w (Below.refl _ _)) (And.intro ((hl.cell 0 : w.cell? ⟨ql, 0, none⟩ = some (.slice (some ⟨p, o, none⟩) l.length c))) (And.intro (hs.cell 0 : w.cell? ⟨qs, 0, none⟩ = some (.int .i64 s1)) (hs.cell 1 : w.cell? ⟨qs, 1, none⟩ = some (.int .i64 s2))))
  have hi0 : (i : Int) < l.length := by omega
  have hpe : p_drop1 s1 s2 (xf, xt) = decide (s1 ≤ xt) := rfl
  rw [hpe]
  clear hc hl hs hV hin hx hpe hxin hi1 hi2
  go_enter Try.func31, Try.ntmps31
  go_wp2_with fail
  go_quiet (fail)
  go_wp2_with fail
  go_ret
  exact ⟨rfl, below_drewN (Below.refl _ _) _⟩

set_option maxHeartbeats 1000000 in
theorem search_drop1 (ql qs : Nat) (s1 s2 : Int) (V : Option Addr) (c : Nat) (l : List Sp) (w : World) (hl : Blk w ql 22 #[.slice V l.length c]) (hs : Blk w qs 24 #[.int .i64 s1, .int .i64 s2]) (hV : Ps w V l) (hin : InL l) (hi1 : In s1) (hi2 : In s2) (hlen : l.length ≤ 1000000)
    (hmono : ∀ (a b : Nat) (x y : Sp), a ≤ b → l[a]? = some x → l[b]? = some y → p_drop1 s1 s2 x = true → p_drop1 s1 s2 y = true) :
    Calls Try.prog 26 #[.int .i64 l.length, .func (.func 31) #[] #[.pointer (some ⟨ql, 0, none⟩), .pointer (some ⟨qs, 0, none⟩)]] w fun e w' => (∃ r : Nat, r ≤ l.length ∧ e = .returned (.int .i64 r) ∧ ∀ (k : Nat) (x : Sp), l[k]? = some x → (k < r ↔ p_drop1 s1 s2 x = false)) ∧ Below w.heap.size w w' := by
  have HF := Lib.hid (fun (W : World) (hb : Below w.heap.size w W) (i : Nat) (x : Sp) (hx : l[i]? = some x) => drop1_any ql qs s1 s2 V c l W (hl.below hb hl.lt) (hs.below hb hs.lt) (hV.below hb (Nat.le_refl _)) hin hi1 hi2 i x hx hlen)
  have HM := Lib.hid hmono
  clear hl hs hV hin hi1 hi2 hmono
  go_enter Try.func26, Try.ntmps26
  go_wp2_with fail
  go_loopw [5, 6] (fun s5 s6 wr => ∃ (i j : Nat), i ≤ j ∧ j ≤ l.length ∧ s5 = .int .i64 i ∧ s6 = .int .i64 j ∧ Hid (∀ (k : Nat) (x : Sp), l[k]? = some x → k < i → p_drop1 s1 s2 x = false) ∧ Hid (∀ (k : Nat) (x : Sp), l[k]? = some x → j ≤ k → p_drop1 s1 s2 x = true) ∧ Hid (Below w.heap.size w wr))
    (fun s5 s6 _ => (intOf s6).toNat - (intOf s5).toNat)
  case atStart => exact ⟨0, l.length, Nat.zero_le _, Nat.le_refl _, rfl, rfl, Lib.hid (fun k x _ h => by omega), Lib.hid (fun k x hx h => by have := (List.getElem?_eq_some_iff.1 hx).1; omega), Lib.hid (Below.refl _ _)⟩
  case round =>
    obtain ⟨i, j, hij, hj, rfl, rfl, H1, H2, HB⟩ := hrel
    have hsz := HB.out.size
    by_cases hlt : i < j
    · obtain ⟨h, hh⟩ : ∃ h, h = (i + j) / 2 := ⟨_, rfl⟩
      have hh1 : i ≤ h := by omega
      have hh2 : h < j := by omega
      have hw : ((i : Int) + j) / 2 = h := by omega
      obtain ⟨x, hx⟩ : ∃ x, l[h]? = some x := ⟨_, List.getElem?_eq_getElem (by omega)⟩
      have HC := Lib.hid (HF.out wr HB.out h x hx)
      have HX := Lib.hid hx
      have HHh := Lib.hid hh
      clear hx hh
      cases hr : p_drop1 s1 s2 x
      · rw [hr] at HC
        have H1' := Lib.hid (show ∀ (k : Nat) (y : Sp), l[k]? = some y → k < h + 1 → p_drop1 s1 s2 y = false from fun k y hy hk => by
          rcases hc : p_drop1 s1 s2 y with _ | _
          · rfl
          · have := HM.out k h y x (by omega) hy HX.out hc
            rw [hr] at this; cases this)
        clear hr
        go_wp2_with fail
        refine HC.out.mono ?_
        rintro e w1 ⟨rfl, b1⟩
        have HB1 := Lib.hid (HB.out.trans (b1.mono hsz))
        clear b1
        go_wp2_with fail
        go_roundw
        case measure => simp [intOf]; omega
        case rel => exact ⟨h + 1, j, by omega, hj, by go_num, rfl, H1', H2, HB1⟩
      · rw [hr] at HC
        have H2' := Lib.hid (show ∀ (k : Nat) (y : Sp), l[k]? = some y → h ≤ k → p_drop1 s1 s2 y = true from fun k y hy hk => HM.out h k x y hk HX.out hy hr)
        clear hr
        go_wp2_with fail
        refine HC.out.mono ?_
        rintro e w1 ⟨rfl, b1⟩
        have HB1 := Lib.hid (HB.out.trans (b1.mono hsz))
        clear b1
        go_wp2_with fail
        go_roundw
        case measure => simp [intOf]; omega
        case rel => exact ⟨i, h, by omega, by omega, rfl, rfl, H1, H2', HB1⟩
    · obtain rfl : i = j := by omega
      go_wp2_with fail
      go_ret
      refine ⟨⟨i, hj, rfl, fun k x hx => ⟨fun hk => H1.out k x hx hk, fun hf => ?_⟩⟩, HB.out⟩
      rcases Nat.lt_or_ge k i with h1 | h1
      · exact h1
      · have := H2.out k x hx h1
        rw [hf] at this; cases this

def p_drop2 (s1 s2 : Int) (x : Sp) : Bool := decide (s2 < x.1)
theorem drop2_any (ql qs : Nat) (s1 s2 : Int) (V : Option Addr) (c : Nat) (l : List Sp) (w : World) (hl : Blk w ql 22 #[.slice V l.length c]) (hs : Blk w qs 24 #[.int .i64 s1, .int .i64 s2]) (hV : Ps w V l) (hin : InL l) (hi1 : In s1) (hi2 : In s2) (i : Nat) (x : Sp) (hx : l[i]? = some x) (hlen : l.length ≤ 1000000) :
    Calls Try.prog 32 #[.int .i64 i, .pointer (some ⟨ql, 0, none⟩), .pointer (some ⟨qs, 0, none⟩)] w fun e w' => e = .returned (.bool (p_drop2 s1 s2 x)) ∧ Below w.heap.size w w' := by
  have hil : i < l.length := (List.getElem?_eq_some_iff.1 hx).1
  have hxin := hin x (List.mem_of_getElem? hx)
  obtain ⟨p, o, rfl, hc⟩ := ps_at hV i x hx
  obtain ⟨xf, xt⟩ := x
  dsimp only at hc hxin
  have C := And.intro (hc w (Below.refl _ _)) (And.intro ((hl.cell 0 : w.cell? ⟨ql, 0, none⟩ = some (.slice (some ⟨p, o, none⟩) l.length c))) (And.intro (hs.cell 0 : w.cell? ⟨qs, 0, none⟩ = some (.int .i64 s1)) (hs.cell 1 : w.cell? ⟨qs, 1, none⟩ = some (.int .i64 s2))))
  have hi0 : (i : Int) < l.length := by omega
  have hpe : p_drop2 s1 s2 (xf, xt) = decide (s2 < xf) := rfl
  rw [hpe]
  clear hc hl hs hV hin hx hpe hxin hi1 hi2
  go_enter Try.func32, Try.ntmps32
  go_wp2_with fail
  go_quiet (fail)
  go_wp2_with fail
  go_ret
  exact ⟨rfl, below_drewN (Below.refl _ _) _⟩

set_option maxHeartbeats 1000000 in
theorem search_drop2 (ql qs : Nat) (s1 s2 : Int) (V : Option Addr) (c : Nat) (l : List Sp) (w : World) (hl : Blk w ql 22 #[.slice V l.length c]) (hs : Blk w qs 24 #[.int .i64 s1, .int .i64 s2]) (hV : Ps w V l) (hin : InL l) (hi1 : In s1) (hi2 : In s2) (hlen : l.length ≤ 1000000)
    (hmono : ∀ (a b : Nat) (x y : Sp), a ≤ b → l[a]? = some x → l[b]? = some y → p_drop2 s1 s2 x = true → p_drop2 s1 s2 y = true) :
    Calls Try.prog 26 #[.int .i64 l.length, .func (.func 32) #[] #[.pointer (some ⟨ql, 0, none⟩), .pointer (some ⟨qs, 0, none⟩)]] w fun e w' => (∃ r : Nat, r ≤ l.length ∧ e = .returned (.int .i64 r) ∧ ∀ (k : Nat) (x : Sp), l[k]? = some x → (k < r ↔ p_drop2 s1 s2 x = false)) ∧ Below w.heap.size w w' := by
  have HF := Lib.hid (fun (W : World) (hb : Below w.heap.size w W) (i : Nat) (x : Sp) (hx : l[i]? = some x) => drop2_any ql qs s1 s2 V c l W (hl.below hb hl.lt) (hs.below hb hs.lt) (hV.below hb (Nat.le_refl _)) hin hi1 hi2 i x hx hlen)
  have HM := Lib.hid hmono
  clear hl hs hV hin hi1 hi2 hmono
  go_enter Try.func26, Try.ntmps26
  go_wp2_with fail
  go_loopw [5, 6] (fun s5 s6 wr => ∃ (i j : Nat), i ≤ j ∧ j ≤ l.length ∧ s5 = .int .i64 i ∧ s6 = .int .i64 j ∧ Hid (∀ (k : Nat) (x : Sp), l[k]? = some x → k < i → p_drop2 s1 s2 x = false) ∧ Hid (∀ (k : Nat) (x : Sp), l[k]? = some x → j ≤ k → p_drop2 s1 s2 x = true) ∧ Hid (Below w.heap.size w wr))
    (fun s5 s6 _ => (intOf s6).toNat - (intOf s5).toNat)
  case atStart => exact ⟨0, l.length, Nat.zero_le _, Nat.le_refl _, rfl, rfl, Lib.hid (fun k x _ h => by omega), Lib.hid (fun k x hx h => by have := (List.getElem?_eq_some_iff.1 hx).1; omega), Lib.hid (Below.refl _ _)⟩
  case round =>
    obtain ⟨i, j, hij, hj, rfl, rfl, H1, H2, HB⟩ := hrel
    have hsz := HB.out.size
    by_cases hlt : i < j
    · obtain ⟨h, hh⟩ : ∃ h, h = (i + j) / 2 := ⟨_, rfl⟩
      have hh1 : i ≤ h := by omega
      have hh2 : h < j := by omega
      have hw : ((i : Int) + j) / 2 = h := by omega
      obtain ⟨x, hx⟩ : ∃ x, l[h]? = some x := ⟨_, List.getElem?_eq_getElem (by omega)⟩
      have HC := Lib.hid (HF.out wr HB.out h x hx)
      have HX := Lib.hid hx
      have HHh := Lib.hid hh
      clear hx hh
      cases hr : p_drop2 s1 s2 x
      · rw [hr] at HC
        have H1' := Lib.hid (show ∀ (k : Nat) (y : Sp), l[k]? = some y → k < h + 1 → p_drop2 s1 s2 y = false from fun k y hy hk => by
          rcases hc : p_drop2 s1 s2 y with _ | _
          · rfl
          · have := HM.out k h y x (by omega) hy HX.out hc
            rw [hr] at this; cases this)
        clear hr
        go_wp2_with fail
        refine HC.out.mono ?_
        rintro e w1 ⟨rfl, b1⟩
        have HB1 := Lib.hid (HB.out.trans (b1.mono hsz))
        clear b1
        go_wp2_with fail
        go_roundw
        case measure => simp [intOf]; omega
        case rel => exact ⟨h + 1, j, by omega, hj, by go_num, rfl, H1', H2, HB1⟩
      · rw [hr] at HC
        have H2' := Lib.hid (show ∀ (k : Nat) (y : Sp), l[k]? = some y → h ≤ k → p_drop2 s1 s2 y = true from fun k y hy hk => HM.out h k x y hk HX.out hy hr)
        clear hr
        go_wp2_with fail
        refine HC.out.mono ?_
        rintro e w1 ⟨rfl, b1⟩
        have HB1 := Lib.hid (HB.out.trans (b1.mono hsz))
        clear b1
        go_wp2_with fail
        go_roundw
        case measure => simp [intOf]; omega
        case rel => exact ⟨i, h, by omega, by omega, rfl, rfl, H1, H2', HB1⟩
    · obtain rfl : i = j := by omega
      go_wp2_with fail
      go_ret
      refine ⟨⟨i, hj, rfl, fun k x hx => ⟨fun hk => H1.out k x hx hk, fun hf => ?_⟩⟩, HB.out⟩
      rcases Nat.lt_or_ge k i with h1 | h1
      · exact h1
      · have := H2.out k x hx h1
        rw [hf] at this; cases this

end Go.Proofs.Ytfbnobhecfgahaa
