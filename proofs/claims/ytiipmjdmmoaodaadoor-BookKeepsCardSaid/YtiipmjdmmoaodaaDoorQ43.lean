/- Joined: Bk32. -/
import Derived.Test.YtiipmjdmmoaodaaDoorQ38
import Derived.Test.YtiipmjdmmoaodaaDoorQ39
import Derived.Test.YtiipmjdmmoaodaaDoorQ41
set_option linter.unusedSimpArgs false
set_option linter.unusedVariables false
/- Layer 12: what chunk.All reads of a part, and all samples of a series. -/
set_option linter.unusedSimpArgs false
set_option linter.unusedVariables false
namespace Go.Proofs.YtiipmjdmmoaodaaDoor
open Go.RowKit
set_option maxRecDepth 100000

theorem rise_of {L : List Sm} (hi : InC L) (hr : L.Pairwise fun a b => a.1 < b.1) (hl : L.length ≤ 1000) : RiseC ec0 L :=
  (RiseC_iff L hi (by omega)).2 fun i h => List.pairwise_iff_getElem.1 hr i (i + 1) (by omega) h (by omega)
theorem OkC1.rise_ {C : CsT} (h : OkC1 C) {L : List Sm} (hL : L ∈ C) : RiseC ec0 L := rise_of (h.incL hL) (h.riseL hL) (h.lenL hL)
theorem pack_small {L : List Sm} (h1 : L.length ≤ 1000) (h2 : InC L) : (pack (bitsL L)).length ≤ 100000 := by
  have := bits_small h1 h2
  rw [pack_length]; unfold nb; omega
/-- what chunk.All reads of laid samples -/
theorem call_laid {A : Option Addr} {c : Nat} {L : List Sm} {w : World} (hA : Bs w A (pack (bitsL L))) (hi : InC L) (hr : RiseC ec0 L) (hl : L.length ≤ 1000) (hT : Tab w) :
    Calls Tryd.prog 35 #[.agg #[.slice A (pack (bitsL L)).length c, .int .i64 ((bitsL L).length : Nat)]] w fun e w' => ∃ U n, e = .returned (.tuple #[.slice U L.length n, .agg #[.int .i64 (lastC ec0 L).n, .int .i64 (lastC ec0 L).last, .int .i64 (lastC ec0 L).delta, .bool (lastC ec0 L).val.has, .int .u64 (lastC ec0 L).val.prev, .int .u8 (lastC ec0 L).val.lead, .int .u8 (lastC ec0 L).val.width], .int .u16 0]) ∧ OwnR w' w.heap.size 66 smp 2 (.slice U L.length n) L ∧ Below w.heap.size w w' := by
  have hp := pack_small hl hi
  have hb := bits_small hl hi
  refine (call_any A c (pack (bitsL L)) ((bitsL L).length : Nat) w hA (by unfold in64; omega) hp hT).mono ?_
  rintro e w' ⟨v, rfl, hown, hB⟩
  have ha := allC_laid hi hr hl
  rw [show codesC ec0 L = bitsL L from rfl] at ha
  rw [ha] at hown ⊢
  dsimp only at hown ⊢
  rw [rcS_smp] at hown
  rw [rcS_last0]
  obtain ⟨U, n, rfl, -, -⟩ := hown.row Tryd.eltS
  exact ⟨U, n, rfl, hown, hB⟩
theorem RsS.head {w : World} {s : Sl} {C : CsT} (h : RsS w s C) : ∃ gp, s.PA = some ⟨gp, 0, none⟩ ∧ w.cell? ⟨s.g, 0, none⟩ = some (.slice (some ⟨gp, 0, none⟩) C.length s.pc) := by
  have hpos : 0 < s.ps.length := List.length_pos_iff.2 h.ne
  obtain ⟨gp, e1, -⟩ := h.rd.part (List.getElem?_eq_getElem hpos)
  have h1 := h.rd.blk.cell 0
  refine ⟨gp, e1, ?_⟩
  rw [← h.len, ← h.ok.pn, ← e1]
  exact h1
set_option maxHeartbeats 4000000 in
/-- all samples of a series -/
theorem bSamples_any {w : World} {X : Bl} (h : RdK w X) (ok : OkB X) (hT : Tab w) (x : Nat) (hx : x < 4294967296) : Calls Tryd.prog 17 #[prB X, .int .u32 (x : Nat)] w fun e w' => ∃ U n, e = .returned (.slice U (X.D.at_ x).flatten.length n) ∧ OwnR w' w.heap.size 66 smp 2 (.slice U (X.D.at_ x).flatten.length n) (X.D.at_ x).flatten ∧ Below w.heap.size w w' := by
  have hmx : Tryd.prog.follows .mixedOrders = true := by kernel_rfl
  have HN := Lib.hid (bser_any h ok x hx)
  have hoc := ok.D.at_ x
  obtain ⟨C, hC⟩ : ∃ C, C = X.D.at_ x := ⟨_, rfl⟩
  rw [← hC] at HN hoc ⊢
  obtain ⟨n, hn⟩ : ∃ n, n = C.length := ⟨_, rfl⟩
  have hn1 : n ≤ 1001 := by rw [hn]; exact hoc.few
  have HC := Lib.hid (And.intro hoc (And.intro hT hn))
  obtain ⟨F0, hF0⟩ : ∃ F, F = C.flatten := ⟨_, rfl⟩
  rw [← hF0]
  have HF0 := Lib.hid hF0
  clear hF0
  clear h ok hx hC hoc hT hn
  go_enter Tryd.func17, Tryd.ntmps17
  go_upto_region 2 with fail
  go_wp2_with (go_at_call 22; refine HN.out.mono ?_; rintro e w2 ⟨s, rfl, hR, b2⟩; obtain ⟨gp, hgp, C0⟩ := hR.head; rw [← HC.out.2.2] at C0)
  have HR := Lib.hid (And.intro hR (And.intro hgp b2))
  have hsz2 := b2.size
  clear hR hgp b2 HN C0
  go_loopw [5, 7, 8, 9, 10, 18] (fun s5 s7 s8 s9 s10 s18 wr => ∃ (k m cc : Nat) (U : Option Addr), s18 = .int .i64 (k : Nat) ∧ k ≤ n ∧ s5 = .slice U m cc ∧ Hid (m = (C.take k).flatten.length ∧ OwnR wr w2.heap.size 66 smp 2 (.slice U m cc) (C.take k).flatten ∧ Below w2.heap.size w2 wr))
    (fun _ _ _ _ _ s18 _ => n - (intOf s18).toNat)
  case atStart => exact ⟨0, 0, 0, none, by go_num, Nat.zero_le _, rfl, Lib.hid ⟨rfl, OwnR.nil _ _ _ _ _, Below.refl _ _⟩⟩
  case round =>
    obtain ⟨k, m, cc, U, rfl, hk, rfl, HI⟩ := hrel
    obtain ⟨F, hF⟩ : ∃ F, F = (C.take k).flatten := ⟨_, rfl⟩
    rw [← hF] at HI
    have HFk := Lib.hid hF
    clear hF
    by_cases hkn : k < n
    · have hkn2 : (k : Int) < (n : Int) := by omega
      obtain ⟨L, hL⟩ : ∃ L, C[k]? = some L := ⟨_, List.getElem?_eq_getElem (by rw [← HC.out.2.2]; exact hkn)⟩
      have hR9 := HR.out.1.below HI.out.2.2
      obtain ⟨p, hp, hpL⟩ := hR9.get hL
      subst hpL
      obtain ⟨gp', e1, c1, c2, c3, c4⟩ := hR9.rd.part hp
      rw [HR.out.2.1] at e1
      injection e1 with e1
      injection e1 with e1
      subst e1
      have hLm := List.mem_of_getElem? hL
      have hA := (hR9.rd.bits p (List.mem_of_getElem? hp)).bs
      obtain ⟨wi, hwi⟩ : ∃ wi, wi = wr := ⟨_, rfl⟩
      rw [← hwi] at HI c1 c2 c3 c4 hA ⊢
      have hTi : Tab wi := by rw [hwi]; exact tabGo (tabGo HC.out.2.1 HR.out.2.2) (by rw [← hwi]; exact HI.out.2.2)
      have hAr := HC.out.1
      obtain ⟨bn, hbn⟩ : ∃ b, b = (bitsL p.L).length := ⟨_, rfl⟩
      obtain ⟨pn, hpn⟩ : ∃ b, b = (pack (bitsL p.L)).length := ⟨_, rfl⟩
      have hCl := fun (W : World) (hb : Below wi.heap.size wi W) => call_laid (c := p.c) (hA.below hb) (hAr.incL hLm) (hAr.rise_ hLm) (hAr.lenL hLm) (tabGo hTi hb)
      rw [← hbn] at c2 hCl
      rw [← hpn] at c1 hCl
      have HCl := Lib.hid hCl
      have HP := Lib.hid (And.intro hL (hAr.lenL hLm))
      clear hR9 hp hL hLm hA hTi hAr hwi hbn hpn hCl
      go_upto_region 5 with fail
      have hb7 := Blk.new wi 75 #[.slice p.A pn p.c, .int .i64 (bn : Nat), .slice p.E p.L.length p.ec, .int .i64 ((p.ah : Nat) : Int)]
      have b4 : Below wi.heap.size wi (wi.alloc (.cells #[.slice p.A pn p.c, .int .i64 (bn : Nat), .slice p.E p.L.length p.ec, .int .i64 ((p.ah : Nat) : Int)] 75)) := below_alloc _ _
      generalize hV4 : World.alloc _ _ = V4 at hb7 b4 ⊢
      obtain ⟨g7, hg7⟩ : ∃ g, g = wi.heap.size := ⟨_, rfl⟩
      rw [← hg7] at hb7 ⊢
      have D1 := cells_say hb7 _ 0 rfl
      simp only [cellsSay, List.drop_zero, Nat.reduceAdd, and_true] at D1
      have HB4 := Lib.hid b4
      have HCl2 := Lib.hid (HCl.out V4 b4)
      have H4 := Lib.hid (And.intro (HI.out.2.1.below b4) (HI.out.2.2.trans (b4.mono HI.out.2.2.size)))
      have HM := Lib.hid HI.out.1
      clear c1 c2 c3 c4 HCl hV4 hg7 hb7 b4 HB4 HI
      go_upto_region 6 with (go_at_call 35; refine HCl2.out.mono ?_; rintro e w5 ⟨U2, n2, rfl, h5, b5⟩)
      obtain ⟨Z, hZ⟩ : ∃ Z, Z = w5 := ⟨_, rfl⟩
      obtain ⟨l2, hl2⟩ : ∃ l, l = p.L.length := ⟨_, rfl⟩
      have H5 := Lib.hid (And.intro (H4.out.1.below b5) (And.intro (H4.out.2.trans (b5.mono H4.out.2.size)) (And.intro h5 hl2)))
      rw [← hl2]
      have hm1 : m ≤ 1000 := by
        have h1 : ((C.take k) ++ (C.drop k)).flatten.length ≤ 1000 := by rw [List.take_append_drop]; exact HC.out.1.len
        have h2 := HM.out
        have h3 := HFk.out
        rw [h3] at h2
        rw [List.flatten_append, List.length_append] at h1
        omega
      have hl9 : l2 ≤ 1000 := by rw [hl2]; exact HP.out.2
      clear h5 b5 H4 HCl2 hl2 D1 hZ
      have b6 := below_alloc w5 (.cells #[.int .i64 (lastC ec0 p.L).n, .int .i64 (lastC ec0 p.L).last, .int .i64 (lastC ec0 p.L).delta, .bool (lastC ec0 p.L).val.has, .int .u64 (lastC ec0 p.L).val.prev, .int .u8 (lastC ec0 p.L).val.lead, .int .u8 (lastC ec0 p.L).val.width] 80)
      generalize hW6 : World.alloc _ _ = W6 at b6 ⊢
      obtain ⟨U3, n3, e3, -, hrw⟩ := (H5.out.2.2.1.below b6).row Tryd.eltS
      injection e3 with e3 e4 e5
      subst e3 e5
      have H6 := Lib.hid (And.intro (H5.out.1.below b6) (And.intro (H5.out.2.1.trans (b6.mono H5.out.2.1.size)) hrw))
      have hl2 := H5.out.2.2.2
      have hz6 : w2.heap.size ≤ W6.heap.size := H6.out.2.1.size
      have HL2 := Lib.hid hl2
      clear hW6 b6 e4 H5 hrw hl2
      go_upto_region 7 with (at_builtin; go_must (refine appR Tryd.eltS _ rfl (.tmp 29) (.tmp 30) rfl w2.heap.size (.slice U m cc) F (by simp [Act.eval, Act.put]) H6.out.1 U2 n2 p.L (by simp [Act.eval, Act.put, HL2.out]) H6.out.2.2 (by unfold maxLen; rw [← HM.out, ← HL2.out]; omega) (by rw [← HM.out, ← HL2.out]; omega) hz6 ?_); intro A9 c9 w9 hown9 hb9; rw [← HM.out, ← HL2.out] at hown9 ⊢)
      have HE := Lib.hid (And.intro hown9 (H6.out.2.1.trans hb9))
      clear hown9 hb9
      go_wp2_with fail
      go_roundw
      case measure => simp [intOf]; omega
      case rel =>
        have hs : (C.take (k + 1)).flatten = F ++ p.L := by
          rw [List.take_succ_eq_append_getElem (by rw [← HC.out.2.2]; exact hkn), List.flatten_append, (List.getElem?_eq_some_iff.1 HP.out.1).2, List.flatten_singleton, ← HFk.out]
        exact ⟨k + 1, m + l2, c9, A9, by go_num, by omega, rfl, Lib.hid ⟨by rw [hs, List.length_append, ← HM.out, HL2.out], by rw [hs]; exact HE.out.1, HE.out.2⟩⟩
    · have hkn2 : ¬ (k : Int) < (n : Int) := by omega
      have hkk : k = n := by omega
      have HF := Lib.hid hkk
      clear hkk
      go_wp2_with fail
      have hf : F = F0 := by rw [HFk.out, HF.out, HC.out.2.2, List.take_length, HF0.out]
      have hI := HI.out
      rw [hf] at hI
      go_ret
      exact ⟨U, cc, by rw [← hI.1]; rfl, by rw [← hI.1]; exact hI.2.1.mono hsz2, HR.out.2.2.trans (hI.2.2.mono hsz2)⟩
end Go.Proofs.YtiipmjdmmoaodaaDoor
