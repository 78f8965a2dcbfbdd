/- Layer 23: apart, Sound, Has, of the program and of the document; Same. -/
import Derived.Test.YtfbnobhecfgahaaMathS
import Derived.Test.YtfbnobhecfgahaaObjA
import Derived.Test.YtfbnobhecfgahaaMakRN
import Derived.BigQuiet
import Derived.Deep.QuietTactic
import Derived.Deep.RegionHeld3
import Derived.Deep.DeepCutAuto
import Derived.Laws.StructEq
set_option linter.unusedSimpArgs false
set_option linter.unusedVariables false
namespace Go.Proofs.Ytfbnobhecfgahaa
open Go.RowKit
set_option maxRecDepth 100000

def encS (x : Sp) : List Value := [.int .i64 x.1, .int .i64 x.2]
theorem Try.eltS : Elt Try.prog 22 24 encS 2 16 := ⟨Try.underlying22, ⟨.agg #[.int .i64 0, .int .i64 0], by kernel_rfl, rfl⟩, by decide, fun _ => rfl, fun x v h => by
  simp [encS] at h; rcases h with rfl | rfl <;> rfl⟩
/-- numbers of 64 bits -/
def In (t : Int) : Prop := -9223372036854775808 ≤ t ∧ t ≤ 9223372036854775807
def InL (l : List Sp) : Prop := ∀ x ∈ l, In x.1 ∧ In x.2
/-- the cells from V on hold spans -/
abbrev Ps (w : World) (V : Option Addr) (l : List Sp) : Prop := Rw w encS 2 V l
theorem ps_at {w : World} {V : Option Addr} {l : List Sp} (h : Ps w V l) (k : Nat) (x : Sp) (hx : l[k]? = some x) : ∃ p o, V = some ⟨p, o, none⟩ ∧ ∀ W : World, Below w.heap.size w W → W.cell? ⟨p, o + k * 2, none⟩ = some (.int .i64 x.1) ∧ W.cell? ⟨p, o + k * 2 + 1, none⟩ = some (.int .i64 x.2) := by
  obtain ⟨p, o, hV, hc⟩ := h k x hx
  have g : ∀ j v, (encS x)[j]? = some v → ∀ W : World, Below w.heap.size w W → W.cell? ⟨p, o + k * 2 + j, none⟩ = some v := fun j v hj W hb => by
    have h1 := hc j v hj
    rw [hb.cell (cell_lt h1)]; exact h1
  exact ⟨p, o, hV, fun W hb => ⟨g 0 _ rfl W hb, g 1 _ rfl W hb⟩⟩

def apB (a b : Int) : Bool := decide (a + 1 < b)
theorem apart_any (a b : Int) (w : World) (ha : In a) (hb : In b) : Calls Try.prog 28 #[.int .i64 a, .int .i64 b] w fun e w' => e = .returned (.bool (apB a b)) ∧ w' = w := by
  unfold In at ha hb
  by_cases h1 : a < b
  · have hw : IntKind.i64.wrap (a + 1) = a + 1 := by rw [IntKind.wrap_i64]; omega
    obtain ⟨r, hr⟩ : ∃ r, r = apB a b := ⟨_, rfl⟩
    rw [← hr]
    unfold apB at hr
    cases r
    · have h2 : decide (a + 1 < b) = false := hr.symm
      clear hr
      go_enter Try.func28, Try.ntmps28
      go_wp2_with fail
      go_ret
      exact ⟨by simp_all, rfl⟩
    · have h2 : decide (a + 1 < b) = true := hr.symm
      clear hr
      go_enter Try.func28, Try.ntmps28
      go_wp2_with fail
      go_ret
      exact ⟨by simp_all, rfl⟩
  · have hr : apB a b = false := decide_eq_false (by omega)
    rw [hr]
    go_enter Try.func28, Try.ntmps28
    go_wp2_with fail
    go_ret
    exact ⟨rfl, rfl⟩

set_option maxHeartbeats 2000000 in
theorem sound_any (V : Option Addr) (c : Nat) (l : List Sp) (w : World) (hV : Ps w V l) (hi : InL l) (hl : l.length ≤ 1000000) :
    Calls Try.prog 19 #[.slice V l.length c] w fun e w' => e = .returned (.bool (sndB l)) ∧ Below w.heap.size w w' := by
  obtain ⟨R, hR⟩ : ∃ R, R = sndB l := ⟨_, rfl⟩
  rw [← hR]
  have HR := Lib.hid hR
  have HV := Lib.hid hV
  have HI := Lib.hid hi
  clear hR hV hi
  go_enter Try.func19, Try.ntmps19
  go_wp2_with fail
  go_loopw [7] (fun s7 wr => ∃ k : Nat, k ≤ l.length ∧ s7 = .int .i64 k ∧ Hid (Snd (l.take k)) ∧ Hid (Below w.heap.size w wr))
    (fun s7 _ => l.length - (intOf s7).toNat)
  case atStart => exact ⟨0, Nat.zero_le _, rfl, Lib.hid Snd.nil, Lib.hid (Below.refl _ _)⟩
  case round =>
    obtain ⟨k, hk, rfl, HS, HB⟩ := hrel
    have hsz := HB.out.size
    by_cases hlt : k < l.length
    · obtain ⟨p, o, rfl, hc⟩ := ps_at HV.out k l[k] (List.getElem?_eq_getElem hlt)
      have hs := snd_snoc (List.getElem?_eq_getElem hlt)
      have hin := HI.out l[k] (List.getElem_mem hlt)
      obtain ⟨x, hx⟩ : ∃ x, x = l[k] := ⟨_, rfl⟩
      rw [← hx] at hc hs hin
      obtain ⟨xf, xt⟩ := x
      dsimp only at hc hs hin
      have HC := Lib.hid hc
      have C := hc wr HB.out
      clear hc hx
      have hbad : ¬ Snd (l.take (k + 1)) → R = false := fun h => HR.out.trans (sndB_bad h)
      by_cases hft : xt < xf
      · have Hb := Lib.hid (hbad (fun h => by have := (hs.1 h).2.1; omega))
        have hd : decide (xt < xf) = true := decide_eq_true hft
        clear hs hbad hft hin
        go_wp2_with fail
        go_quiet (fail)
        go_wp2_with fail
        go_ret
        exact ⟨by rw [Hb.out]; rfl, below_drewN (HB.out.alloc hsz _) nq⟩
      · have hd : decide (xt < xf) = false := decide_eq_false hft
        by_cases hk0 : k = 0
        · subst hk0
          have HS2 := Lib.hid (show Snd (l.take (0 + 1)) from hs.2 ⟨HS.out, by omega, fun h => absurd h (by omega)⟩)
          clear hs hbad hft hin
          simp only [Nat.zero_mul, Nat.add_zero] at C
          go_wp2_with fail
          go_quiet (fail)
          go_wp2_with fail
          go_roundw
          case measure => simp [intOf]; omega
          case rel => exact ⟨1, by omega, by go_num, HS2, Lib.hid (below_drewN (HB.out.alloc hsz _) nq)⟩
        · obtain ⟨j, rfl⟩ : ∃ j, k = j + 1 := ⟨k - 1, by omega⟩
          obtain ⟨p', o', hV', hc'⟩ := ps_at HV.out j l[j] (List.getElem?_eq_getElem (by omega))
          injection hV' with e1
          injection e1 with e1 e2 _
          subst e1; subst e2
          have hiny := HI.out l[j] (List.getElem_mem (by omega))
          have hs2 : Snd (l.take (j + 1 + 1)) ↔ Snd (l.take (j + 1)) ∧ xf ≤ xt ∧ l[j].2 + 1 < xf := by
            rw [hs]
            constructor
            · rintro ⟨h1, h2, h3⟩
              exact ⟨h1, h2, h3 (by omega) _ (List.getElem?_eq_getElem (by omega))⟩
            · rintro ⟨h1, h2, h3⟩
              refine ⟨h1, h2, fun _ y hy => ?_⟩
              rw [show j + 1 - 1 = j by omega, List.getElem?_eq_getElem (by omega)] at hy
              injection hy with hy
              rw [← hy]; exact h3
          obtain ⟨y, hy⟩ : ∃ y, y = l[j] := ⟨_, rfl⟩
          rw [← hy] at hc' hiny hs2
          obtain ⟨yf, yt⟩ := y
          dsimp only at hc' hiny hs2
          have C' := hc' wr HB.out
          have hpw : p < wr.heap.size := cell_lt C'.1
          clear hc' hy hs
          have HA := Lib.hid (fun W => apart_any yt xf W hiny.2 hin.1)
          have hw2 : IntKind.i64.wrap (j : Int) = j := by rw [IntKind.wrap_i64]; omega
          have hj0 : decide ((0 : Int) < (j : Int) + 1) = true := decide_eq_true (by omega)
          have hj1 : (j : Int) < l.length := by omega
          have hj2 : 0 ≤ (j : Int) := by omega
          have hj3 : j < l.length := by omega
          by_cases hap : yt + 1 < xf
          · rw [show apB yt xf = true from decide_eq_true hap] at HA
            have HS2 := Lib.hid (hs2.2 ⟨HS.out, by omega, hap⟩)
            clear hs2 hbad hap hft hin hiny
            go_wp2_with fail
            go_quiet ((go_at_call 28; exact Calls.quiet_of_same (HA.out _)))
            go_wp2_with fail
            go_roundw
            case measure => simp [intOf]; omega
            case rel => exact ⟨j + 1 + 1, by omega, by go_num, HS2, Lib.hid (below_drewN (HB.out.alloc hsz _) nq)⟩
          · rw [show apB yt xf = false from decide_eq_false hap] at HA
            have Hb := Lib.hid (hbad (fun h => hap (hs2.1 h).2.2))
            clear hs2 hbad hap hft hin hiny
            go_wp2_with fail
            go_quiet ((go_at_call 28; exact Calls.quiet_of_same (HA.out _)))
            go_wp2_with fail
            go_ret
            exact ⟨by rw [Hb.out]; rfl, below_drewN (HB.out.alloc hsz _) nq⟩
    · obtain rfl : k = l.length := by omega
      have hS := HS.out
      rw [List.take_length] at hS
      have Hr1 := Lib.hid (show R = true by rw [HR.out]; exact decide_eq_true hS)
      clear hS
      go_wp2_with fail
      go_ret
      exact ⟨by rw [Hr1.out]; rfl, HB.out⟩

end Go.Proofs.Ytfbnobhecfgahaa
