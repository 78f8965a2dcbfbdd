/- Layer 23: the document's sorted. -/
import Derived.Test.YtfbnobhecfgahaaSp6
import Derived.Test.YtfbnobhecfgahaaMathS3
import Derived.Deep.CutBlock
set_option linter.unusedSimpArgs false
set_option linter.unusedVariables false
namespace Go.Proofs.Ytfbnobhecfgahaa
open Go.RowKit
set_option maxRecDepth 100000

set_option maxHeartbeats 4000000 in
theorem sorted_any (V : Option Addr) (c : Nat) (l : List Sp) (w : World) (hV : Ps w V l) (hl : l.length ≤ 100000) :
    Calls Try.prog 38 #[.slice V l.length c] w fun e w' => (∃ R A c', SO l R l.length ∧ e = .returned (.slice A R.length c') ∧ OwnR w' w.heap.size 24 encS 2 (.slice A R.length c') R) ∧ Below w.heap.size w w' := by
  have HV := Lib.hid hV
  clear hV
  go_enter Try.func38, Try.ntmps38
  go_wp2_with fail
  go_loopw [3, 4] (fun s3 s4 wr => ∃ (k : Nat) (R : List Sp) (A : Option Addr) (c2 : Nat), k ≤ l.length ∧ s4 = .int .i64 k ∧ s3 = .slice A R.length c2 ∧ Hid (SO l R k) ∧ Hid (OwnR wr w.heap.size 24 encS 2 (.slice A R.length c2) R) ∧ Hid (Below w.heap.size w wr))
    (fun _ s4 _ => l.length - (intOf s4).toNat)
  case atStart => exact ⟨0, [], none, 0, Nat.zero_le _, rfl, rfl, Lib.hid (SO.zero l), Lib.hid (OwnR.nil _ _ _ _ _), Lib.hid (Below.refl _ _)⟩
  case round =>
    obtain ⟨k, R, A, c2, hk, rfl, rfl, HS, HO, HB⟩ := hrel
    obtain ⟨wo, hwo⟩ : ∃ wo, wo = wr := ⟨_, rfl⟩
    subst hwo
    have hsz := HB.out.size
    have hRl : R.length ≤ 100000 := by rw [HS.out.len]; omega
    by_cases hlt : k < l.length
    · obtain ⟨p, o, rfl, hc⟩ := ps_at HV.out k l[k] (List.getElem?_eq_getElem hlt)
      have HX := Lib.hid (List.getElem?_eq_getElem hlt)
      obtain ⟨x, hx⟩ : ∃ x, x = l[k] := ⟨_, rfl⟩
      rw [← hx] at hc HX
      obtain ⟨xf, xt⟩ := x
      dsimp only at hc
      have HC := Lib.hid hc
      clear hc hx
      have hkl : (k : Int) < l.length := by omega
      go_upto_block 2 with fail
      go_cut [5] (fun s5 wx => ∃ m : Nat, m ≤ R.length ∧ s5 = .int .i64 m ∧ Hid (∀ z ∈ R.take m, z.1 ≤ xf) ∧ Hid (∀ y, R[m]? = some y → xf < y.1) ∧ Hid (Below wo.heap.size wo wx))
      case first =>
        go_wp2_with fail
        go_loopw [5] (fun s5 wi => ∃ m : Nat, m ≤ R.length ∧ s5 = .int .i64 m ∧ Hid (∀ z ∈ R.take m, z.1 ≤ xf) ∧ Hid (Below wo.heap.size wo wi))
          (fun s5 _ => R.length - (intOf s5).toNat)
        case atStart => exact ⟨0, Nat.zero_le _, rfl, Lib.hid (fun z h => by cases h), Lib.hid (Below.refl _ _)⟩
        case round =>
          obtain ⟨m, hm, rfl, HM, HBi⟩ := hrel
          have C := HC.out wr (HB.out.trans (HBi.out.mono hsz))
          by_cases hmr : m < R.length
          · obtain ⟨p', o', rfl, hc'⟩ := ps_at (OwnR.ps HO.out) m R[m] (List.getElem?_eq_getElem hmr)
            have HY := Lib.hid (List.getElem?_eq_getElem hmr)
            obtain ⟨y, hy⟩ : ∃ y, y = R[m] := ⟨_, rfl⟩
            rw [← hy] at hc' HY
            obtain ⟨yf, yt⟩ := y
            dsimp only at hc'
            have D := hc' wr HBi.out
            clear hc' hy
            have hmr2 : (m : Int) < R.length := by omega
            by_cases hle : yf ≤ xf
            · have hd : decide (yf ≤ xf) = true := decide_eq_true hle
              have HM2 : Hid (∀ z ∈ R.take (m + 1), z.1 ≤ xf) := Lib.hid (fun z hz => by
                obtain ⟨h1, h2⟩ := List.getElem?_eq_some_iff.1 HY.out
                rw [List.take_succ_eq_append_getElem h1, h2] at hz
                rcases List.mem_append.1 hz with hz | hz
                · exact HM.out z hz
                · rw [List.mem_singleton.1 hz]; exact hle)
              clear hle
              go_wp2_with fail
              go_quiet (fail)
              go_wp2_with fail
              go_roundw
              case measure => simp [intOf]; omega
              case rel => exact ⟨m + 1, by omega, by go_num, HM2, Lib.hid (below_drewN HBi.out _)⟩
            · have hd : decide (yf ≤ xf) = false := decide_eq_false hle
              have HN2 : Hid (∀ y, R[m]? = some y → xf < y.1) := Lib.hid (fun y hy => by
                rw [HY.out] at hy
                injection hy with hy
                rw [← hy]; simp only; omega)
              clear hle
              go_wp2_with fail
              go_quiet (fail)
              go_wp2_with fail
              go_meet
              exact ⟨m, by omega, rfl, HM, HN2, Lib.hid (below_drewN HBi.out _)⟩
          · have HN2 : Hid (∀ y, R[m]? = some y → xf < y.1) := Lib.hid (fun y hy => by
              have := (List.getElem?_eq_some_iff.1 hy).1; omega)
            have hmr2 : ¬ (m : Int) < R.length := by omega
            go_wp2_with fail
            go_quiet (fail)
            go_wp2_with fail
            go_meet
            exact ⟨m, by omega, rfl, HM, HN2, Lib.hid (below_drewN HBi.out _)⟩
      case rest =>
        obtain ⟨m, hm, rfl, HM, HN, HBx⟩ := hcut
        have HS2 := Lib.hid (HS.out.step HX.out hm HM.out HN.out)
        have hRc := (sl_own HO.out).len
        have hcm := (sl_own HO.out).cap
        unfold maxLen at hcm
        have HPs := Lib.hid ((sl_own HO.out).ps.below HBx.out (Nat.le_refl _))
        have HVn := Lib.hid (sl_own HO.out).nil
        obtain ⟨F, hF⟩ : ∃ F, F = R.take m := ⟨_, rfl⟩
        obtain ⟨G, hG⟩ : ∃ G, G = R.drop m := ⟨_, rfl⟩
        rw [← hF, ← hG] at HS2
        obtain rfl : m = F.length := by rw [hF, List.length_take]; omega
        have hGl : R.length - F.length = G.length := by rw [hG, List.length_drop]
        have HF := Lib.hid (show Ps wc A F by rw [hF]; exact rw_take HPs.out _)
        have HBw := Lib.hid (HB.out.trans (HBx.out.mono hsz))
        have hszc := HBw.out.size
        have HGd := Lib.hid hG
        clear hF hG HM HN HS
        have hmc : F.length ≤ c2 := by omega
        go_upto_region 10 with (at_builtin; go_must (refine appR Try.eltS _ rfl (.tmp 32) (.tmp 35) rfl wc.heap.size _ [] rfl (OwnR.nil _ _ _ _ _) A c2 F rfl HF.out (by unfold maxLen; simp <;> omega) (by simp <;> omega) (Nat.le_refl _) ?_); intro A3 c3 w3 hown3 hb3)
        have HO3 := Lib.hid (show OwnR w3 wc.heap.size 24 encS 2 (.slice A3 F.length c3) F by simpa using hown3)
        have HB3 := Lib.hid hb3
        have hsz3 := hb3.size
        clear hown3 hb3
        have C := HC.out w3 (HBw.out.trans (HB3.out.mono hszc))
        go_upto_region 11 with (at_builtin; go_must (refine appR1 Try.eltS _ rfl (.tmp 37) (.tmp 42) rfl wc.heap.size _ F rfl (HO3.out.alloc _) w3.heap.size 1 (xf, xt) 24 _ rfl (Blk.new w3 _ _) rfl (by unfold maxLen; omega) (by omega) (by simp; omega) ?_); intro g4 c4 w4 hown4 hb4 hg4)
        have HO4 := Lib.hid hown4
        have HB4 := Lib.hid ((HB3.out.alloc hsz3 _).trans hb4)
        have hsz4 := HB4.out.size
        clear hown4 hb4 hg4 C
        have HP4 := Lib.hid (HPs.out.below HB4.out (Nat.le_refl _))
        have hfin : ∀ (A5 : Option Addr) (c5 n5 : Nat) (w5 : World), n5 = F.length + 1 + G.length → OwnR w5 wc.heap.size 24 encS 2 (.slice A5 n5 c5) (F ++ [(xf, xt)] ++ G) → Below wc.heap.size w4 w5 → ∃ (k' : Nat) (R' : List Sp) (A' : Option Addr) (c' : Nat), k' ≤ l.length ∧ (Value.int .i64 ((k : Int) + 1) = .int .i64 k') ∧ Value.slice A5 n5 c5 = .slice A' R'.length c' ∧ Hid (SO l R' k') ∧ Hid (OwnR w5 w.heap.size 24 encS 2 (.slice A' R'.length c') R') ∧ Hid (Below w.heap.size w w5) := fun A5 c5 n5 w5 hn h1 h2 => by
          have hl5 : (F ++ [(xf, xt)] ++ G).length = n5 := by rw [hn]; simp <;> omega
          refine ⟨k + 1, F ++ [(xf, xt)] ++ G, A5, c5, by omega, by go_num, by rw [hl5], HS2, Lib.hid ?_, Lib.hid ?_⟩
          · rw [hl5]; exact h1.mono hszc
          · exact HBw.out.trans ((HB4.out.trans h2).mono hszc)
        have HFin := Lib.hid hfin
        clear hfin
        rcases A with _ | a
        · have hc0 := HVn.out rfl
          subst hc0
          have hG0 : G = [] := List.eq_nil_of_length_eq_zero (by omega)
          obtain rfl : F = [] := List.eq_nil_of_length_eq_zero (by omega)
          obtain rfl : R = [] := List.eq_nil_of_length_eq_zero (by omega)
          subst hG0
          go_wp2_with (at_builtin; go_must (refine appR Try.eltS _ rfl (.tmp 44) (.tmp 47) rfl wc.heap.size _ ([] ++ [(xf, xt)]) rfl HO4.out none 0 [] rfl (Rw.nil _ _ _ _) (by unfold maxLen; simp <;> omega) (by simp <;> omega) (by omega) ?_); intro A5 c5 w5 hown5 hb5)
          go_roundw
          case measure => simp [intOf]; omega
          case rel => exact HFin.out _ _ _ _ (by simp <;> omega) (by simpa using hown5) hb5
        · by_cases hcm2 : c2 = F.length
          · have hG0 : G = [] := List.eq_nil_of_length_eq_zero (by omega)
            have hRF : R.length = F.length := by omega
            subst hG0
            subst hcm2
            rw [hRF]
            go_wp2_with (at_builtin; go_must (refine appR Try.eltS _ rfl (.tmp 44) (.tmp 47) rfl wc.heap.size _ (F ++ [(xf, xt)]) rfl HO4.out (some a) 0 [] rfl (Rw.nil _ _ _ _) (by unfold maxLen; simp <;> omega) (by simp <;> omega) (by omega) ?_); intro A5 c5 w5 hown5 hb5)
            go_roundw
            case measure => simp [intOf]; omega
            case rel => exact HFin.out _ _ _ _ (by simp <;> omega) (by simpa using hown5) hb5
          · have hlt2 : F.length < c2 := by omega
            have HG := Lib.hid (show Ps w4 (some (a.add (F.length * 2))) G by rw [HGd.out]; exact rw_drop HP4.out _)
            go_wp2_with (at_builtin; go_must (refine appR Try.eltS _ rfl (.tmp 44) (.tmp 47) rfl wc.heap.size _ (F ++ [(xf, xt)]) rfl HO4.out (some (a.add (F.length * 2))) (c2 - F.length) G rfl HG.out (by unfold maxLen; simp <;> omega) (by simp <;> omega) (by omega) ?_); intro A5 c5 w5 hown5 hb5)
            go_roundw
            case measure => simp [intOf]; omega
            case rel => exact HFin.out _ _ _ _ (by simp <;> omega) (by simpa using hown5) hb5
    · obtain rfl : k = l.length := by omega
      go_wp2_with fail
      go_ret
      exact ⟨⟨R, A, c2, HS.out, rfl, HO.out⟩, HB.out⟩

end Go.Proofs.Ytfbnobhecfgahaa
