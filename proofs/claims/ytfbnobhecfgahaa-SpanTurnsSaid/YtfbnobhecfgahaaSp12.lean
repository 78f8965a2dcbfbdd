/- Layer 23: Meet of the document. -/
import Derived.Test.YtfbnobhecfgahaaSp9
import Derived.Deep.LoopGhost
set_option linter.unusedSimpArgs false
set_option linter.unusedVariables false
namespace Go.Proofs.Ytfbnobhecfgahaa
open Go.RowKit
set_option maxRecDepth 100000

theorem both_yes {s o : Sp} {M1 M2 : Int} (h1 : M1 = max s.1 o.1) (h2 : M2 = min s.2 o.2) (h : M1 ≤ M2) : bothL s o = [(M1, M2)] := by subst h1 h2; unfold bothL; rw [if_pos h]
theorem both_no {s o : Sp} {M1 M2 : Int} (h1 : M1 = max s.1 o.1) (h2 : M2 = min s.2 o.2) (h : ¬ M1 ≤ M2) : bothL s o = [] := by subst h1 h2; unfold bothL; rw [if_neg h]
/-- what Meet gives -/
structure MeetR (a b R : List Sp) : Prop where
  snd : Snd R
  mem : ∀ t, Mem t R ↔ Mem t a ∧ Mem t b
  inl : InL R
theorem MeetR.uniq {a b R R' : List Sp} (h : MeetR a b R) (h' : MeetR a b R') : R = R' := snd_uniq h.snd h'.snd fun t => (h.mem t).trans (h'.mem t).symm

theorem rmeet_no (V U : Option Addr) (c d : Nat) (a b : List Sp) (w : World) (hV : Ps w V a) (hU : Ps w U b) (hia : InL a) (hib : InL b) (hla : a.length ≤ 1000000) (hlb : b.length ≤ 1000000) (hno : ¬ (Snd a ∧ Snd b)) :
    Calls Try.prog 25 #[.slice V a.length c, .slice U b.length d] w fun e w' => e = .returned (.tuple #[.slice none 0 0, .int .i64 1]) ∧ Below w.heap.size w w' := by
  have HS := Lib.hid (rsound_any V c a w hV hia hla)
  have HS2 := Lib.hid (fun (W : World) (hb : Below w.heap.size w W) => rsound_any U d b W (hU.below hb (Nat.le_refl _)) hib hlb)
  obtain ⟨x, hx⟩ : ∃ x, x = sndB a := ⟨_, rfl⟩
  obtain ⟨y, hy⟩ : ∃ y, y = sndB b := ⟨_, rfl⟩
  have hxy : (x && y) = false := by
    rw [hx, hy]; unfold sndB
    rw [← Bool.not_eq_true, Bool.and_eq_true, decide_eq_true_iff, decide_eq_true_iff]; exact hno
  rw [← hx] at HS
  rw [← hy] at HS2
  clear hV hU hia hib hno hx hy
  cases x
  · go_enter Try.func25, Try.ntmps25
    go_wp2_with fail
    refine HS.out.mono ?_
    rintro e w1 ⟨rfl, b1⟩
    have HC := Lib.hid (HS2.out w1 b1)
    go_wp2_with fail
    refine HC.out.mono ?_
    rintro e w2 ⟨rfl, b2⟩
    have HB := Lib.hid (b1.trans (b2.mono b1.size))
    go_wp2_with fail
    go_ret2
    exact ⟨rfl, HB.out⟩
  · obtain rfl : y = false := by simpa using hxy
    go_enter Try.func25, Try.ntmps25
    go_wp2_with fail
    refine HS.out.mono ?_
    rintro e w1 ⟨rfl, b1⟩
    have HC := Lib.hid (HS2.out w1 b1)
    go_wp2_with fail
    refine HC.out.mono ?_
    rintro e w2 ⟨rfl, b2⟩
    have HB := Lib.hid (b1.trans (b2.mono b1.size))
    go_wp2_with fail
    go_ret2
    exact ⟨rfl, HB.out⟩

set_option maxHeartbeats 8000000 in
theorem rmeet_yes (V U : Option Addr) (c d : Nat) (a b : List Sp) (w : World) (hV : Ps w V a) (hU : Ps w U b) (hia : InL a) (hib : InL b) (hla : a.length ≤ 1000) (hlb : b.length ≤ 1000) (hsa : Snd a) (hsb : Snd b) :
    Calls Try.prog 25 #[.slice V a.length c, .slice U b.length d] w fun e w' => (∃ R A c', MeetR a b R ∧ R.length ≤ 1000000 ∧ e = .returned (.tuple #[.slice A R.length c', .int .i64 0]) ∧ OwnR w' w.heap.size 24 encS 2 (.slice A R.length c') R) ∧ Below w.heap.size w w' := by
  have HS := rsound_any V c a w hV hia (by omega)
  have HS2 := fun (W : World) (hb : Below w.heap.size w W) => rsound_any U d b W (hU.below hb (Nat.le_refl _)) hib (by omega)
  rw [show sndB a = true from decide_eq_true hsa] at HS
  rw [show sndB b = true from decide_eq_true hsb] at HS2
  have HS := Lib.hid HS
  have HS2 := Lib.hid HS2
  have HV := Lib.hid hV
  have HU := Lib.hid hU
  have HI := Lib.hid (And.intro hia hib)
  have HSd := Lib.hid (And.intro hsa hsb)
  clear hV hU hia hib hsa hsb
  go_enter Try.func25, Try.ntmps25
  go_wp2_with fail
  refine HS.out.mono ?_
  rintro e w1 ⟨rfl, b1⟩
  have HC := Lib.hid (HS2.out w1 b1)
  go_wp2_with fail
  refine HC.out.mono ?_
  rintro e w2 ⟨rfl, b2⟩
  have HB2 := Lib.hid (b1.trans (b2.mono b1.size))
  clear b1 b2 HC HS HS2
  go_wp2_with fail
  go_loopw [8, 9] (fun s8 s9 wr => ∃ (i : Nat) (R : List Sp) (A2 : Option Addr) (c2 : Nat), i ≤ a.length ∧ s9 = .int .i64 i ∧ s8 = .slice A2 R.length c2 ∧ Hid (RO a b R i) ∧ Hid (OwnR wr w.heap.size 24 encS 2 (.slice A2 R.length c2) R) ∧ Hid (Below w.heap.size w wr))
    (fun _ s9 _ => a.length - (intOf s9).toNat)
  case atStart => exact ⟨0, [], none, 0, Nat.zero_le _, rfl, rfl, Lib.hid (RO.zero a b), Lib.hid (OwnR.nil _ _ _ _ _), HB2⟩
  case round =>
    obtain ⟨i, R, A2, c2, hi, rfl, rfl, HR, HO, HB⟩ := hrel
    by_cases hlt : i < a.length
    · obtain ⟨p, q, rfl, hc⟩ := ps_at HV.out i a[i] (List.getElem?_eq_getElem hlt)
      have hX := List.getElem?_eq_getElem hlt
      obtain ⟨x, hx⟩ : ∃ x, x = a[i] := ⟨_, rfl⟩
      rw [← hx] at hc hX
      have HRI := Lib.hid (HR.out.into hX)
      obtain ⟨sf, st⟩ := x
      dsimp only at hc
      have HCa := Lib.hid hc
      clear hc hx hX
      have hil : (i : Int) < a.length := by omega
      go_wp2_with fail
      go_loopw [8, 10] (fun s8 s10 wr => ∃ (k : Nat) (R : List Sp) (A2 : Option Addr) (c2 : Nat), k ≤ b.length ∧ s10 = .int .i64 k ∧ s8 = .slice A2 R.length c2 ∧ Hid (RI a b R i k (sf, st)) ∧ Hid (OwnR wr w.heap.size 24 encS 2 (.slice A2 R.length c2) R) ∧ Hid (Below w.heap.size w wr))
        (fun _ s10 _ => b.length - (intOf s10).toNat)
      case atStart => exact ⟨0, R, A2, c2, Nat.zero_le _, rfl, rfl, HRI, HO, HB⟩
      case round =>
        obtain ⟨k, R, A2, c2, hk, rfl, rfl, HR, HO, HB⟩ := hrel
        have hsz := HB.out.size
        have hRl : R.length ≤ 1001000 := by
          have h1 := HR.out.len
          have h2 : i * b.length ≤ 1000 * 1000 := Nat.mul_le_mul (by omega) hlb
          omega
        by_cases hlt2 : k < b.length
        · obtain ⟨p', q', rfl, hc⟩ := ps_at HU.out k b[k] (List.getElem?_eq_getElem hlt2)
          have hY := List.getElem?_eq_getElem hlt2
          obtain ⟨y, hy⟩ : ∃ y, y = b[k] := ⟨_, rfl⟩
          rw [← hy] at hc hY
          have HN := Lib.hid (HR.out.next HSd.out.1 HSd.out.2 hY)
          obtain ⟨of, ot⟩ := y
          dsimp only at hc
          have C := hc wr HB.out
          have D := HCa.out wr HB.out
          have hpw : p < wr.heap.size := cell_lt D.1
          have hpw2 : p' < wr.heap.size := cell_lt C.1
          clear hc hy hY
          have hkl : (k : Int) < b.length := by omega
          go_upto_region 12 with fail
          go_cut [11] (fun s11 wx => s11 = .pointer (some ⟨wr.heap.size, 0, none⟩) ∧ ∃ M1 M2 : Int, Hid (M1 = max sf of ∧ M2 = min st ot) ∧ Hid (Qs wx [qB wr.heap.size 24 #[.int .i64 M1, .int .i64 M2], qW wr wr.heap.size (Nat.le_refl _)]))
          case first =>
            by_cases hm1 : sf < of
            · by_cases hm2 : ot < st
              · go_wp2_with fail
                go_region
                go_wp2_with fail
                go_meet
                exact ⟨rfl, of, ot, Lib.hid ⟨by omega, by omega⟩, Lib.hid (((Qs.zero wr).box #[.int .i64 of, .int .i64 ot] 24).drew)⟩
              · go_wp2_with fail
                go_region
                go_wp2_with fail
                go_meet
                exact ⟨rfl, of, st, Lib.hid ⟨by omega, by omega⟩, Lib.hid (((Qs.zero wr).box #[.int .i64 of, .int .i64 st] 24).drew)⟩
            · by_cases hm2 : ot < st
              · go_wp2_with fail
                go_region
                go_wp2_with fail
                go_meet
                exact ⟨rfl, sf, ot, Lib.hid ⟨by omega, by omega⟩, Lib.hid (((Qs.zero wr).box #[.int .i64 sf, .int .i64 ot] 24).drew)⟩
              · go_wp2_with fail
                go_region
                go_wp2_with fail
                go_meet
                exact ⟨rfl, sf, st, Lib.hid ⟨by omega, by omega⟩, Lib.hid (((Qs.zero wr).box #[.int .i64 sf, .int .i64 st] 24).drew)⟩
          case rest =>
            obtain ⟨rfl, M1, M2, HM, HQ⟩ := hcut
            clear C D hpw hpw2
            have hq := (HQ.out.blk 0).lt
            have HO2 := Lib.hid (HO.out.below (HQ.out.top 1))
            have HB3 := Lib.hid (HB.out.trans ((HQ.out.top 1).mono hsz))
            have hszc := HB3.out.size
            have C := HQ.out.says
            simp only [sayAll, cellsSay, qB, qW, Nat.reduceAdd, and_true, true_and] at C
            by_cases hle : M1 ≤ M2
            · have hd : decide (M1 ≤ M2) = true := decide_eq_true hle
              rw [both_yes HM.out.1 HM.out.2 hle] at HN
              clear hle
              go_wp2_with (at_builtin; go_must (refine appR1 Try.eltS _ rfl (.tmp 62) (.tmp 64) rfl w.heap.size _ R rfl (HO2.out.alloc _) wc.heap.size 1 (M1, M2) 24 _ rfl (Blk.new wc _ _) rfl (by unfold maxLen; omega) (by omega) (by simp; omega) ?_); intro g4 c4 w4 hown4 hb4 hg4)
              go_roundw
              case measure => simp [intOf]; omega
              case rel => exact ⟨k + 1, R ++ [(M1, M2)], some ⟨g4, 0, none⟩, c4, by omega, by go_num, by simp, HN, Lib.hid (by simpa using hown4), Lib.hid ((HB3.out.alloc hszc _).trans hb4)⟩
            · have hd : decide (M1 ≤ M2) = false := decide_eq_false hle
              rw [both_no HM.out.1 HM.out.2 hle, List.append_nil] at HN
              clear hle
              go_wp2_with fail
              go_roundw
              case measure => simp [intOf]; omega
              case rel => exact ⟨k + 1, R, A2, c2, by omega, by go_num, rfl, HN, HO2, HB3⟩
        · obtain rfl : k = b.length := by omega
          have HN := Lib.hid HR.out.out
          go_wp2_with fail
          go_roundw
          case measure => simp [intOf]; omega
          case rel => exact ⟨i + 1, R, A2, c2, by omega, by go_num, rfl, HN, HO, HB⟩
    · obtain rfl : i = a.length := by omega
      have hR : Hid (MeetR a b R ∧ R.length ≤ 1000000) := Lib.hid ⟨⟨HR.out.snd, HR.out.done, inl_mem HR.out.snd (fun t h => ((HR.out.done t).1 h).1) HI.out.1⟩, by
        have h1 := HR.out.len
        have h2 : a.length * b.length ≤ 1000 * 1000 := Nat.mul_le_mul hla hlb
        omega⟩
      go_wp2_with fail
      go_ret2
      exact ⟨⟨R, A2, c2, hR.out.1, hR.out.2, rfl, HO.out⟩, HB.out⟩

end Go.Proofs.Ytfbnobhecfgahaa
