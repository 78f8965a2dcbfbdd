/- Layer 23: the document's joined and Add. -/
import Derived.Test.YtfbnobhecfgahaaSp8
import Derived.Test.YtfbnobhecfgahaaSp7
set_option linter.unusedSimpArgs false
set_option linter.unusedVariables false
namespace Go.Proofs.Ytfbnobhecfgahaa
open Go.RowKit
set_option maxRecDepth 100000

theorem inl_mem {R S : List Sp} (hs : Snd R) (hm : ∀ t, Mem t R → Mem t S) (hi : InL S) : InL R := fun z hz => by
  have h1 := hs.1 z hz
  obtain ⟨x, hx, a1, a2⟩ := hm z.1 ⟨z, hz, Int.le_refl _, h1⟩
  obtain ⟨y, hy, b1, b2⟩ := hm z.2 ⟨z, hz, h1, Int.le_refl _⟩
  have i1 := hi x hx
  have i2 := hi y hy
  unfold In at *
  omega
theorem OwnR.at0 {P : Program} {α : Type} {t e : TypeId} {enc : α → List Value} {sz bytes : Nat} (E : Elt P t e enc sz bytes) {w : World} {base n c : Nat} {A : Option Addr} {l : List α} (h : OwnR w base e enc sz (.slice A n c) l) (k : Nat) (hk : k < l.length) :
    ∃ p, A = some ⟨p, 0, none⟩ ∧ (∀ j v, (enc l[k])[j]? = some v → w.cell? ⟨p, k * sz + j, none⟩ = some v) ∧ (∀ j, w.frozen? ⟨p, k * sz + j, none⟩ = false) ∧ base ≤ p ∧ p < w.heap.size := by
  obtain ⟨A', c', hv, hlc, hr⟩ := OwnR.row E h
  injection hv with e1 e2 e3
  subst e1; subst e2; subst e3
  rcases h.2 with ⟨e0, h0⟩ | ⟨g, cap, cur, e0, hb, hg, hn, hm, hs, ht⟩
  · injection e0 with e1 e2 _
    omega
  · injection e0 with e1 e2 e3
    subst e1
    refine ⟨g, rfl, fun j v hj => ?_, fun j => World.ownsRow.frozenAt h _, (World.ownsRow.lt h g rfl).1, (World.ownsRow.lt h g rfl).2⟩
    obtain ⟨p, o, hA, hc⟩ := hr k l[k] (List.getElem?_eq_getElem hk)
    injection hA with e1
    injection e1 with e1 e2 _
    subst e1; subst e2
    have := hc j v hj
    rwa [Nat.zero_add] at this
theorem own_last {w : World} {base g n cap : Nat} {O : List Sp} {y : Sp} (h : OwnR w base 24 encS 2 (.slice (some ⟨g, 0, none⟩) n cap) (O ++ [y])) (hn : n = (O ++ [y]).length) (v : Int) :
    OwnR (w.setCell ⟨g, O.length * 2 + 1, none⟩ (.int .i64 v)) base 24 encS 2 (.slice (some ⟨g, 0, none⟩) n cap) (O ++ [(y.1, v)]) := by
  subst hn
  have h1 := (World.ownsRow.stored h (O.length * 2 + 1) (.int .i64 v)).1
  unfold OwnR
  have e : ((O ++ [y]).flatMap encS).set (O.length * 2 + 1) (.int .i64 v) = (O ++ [(y.1, v)]).flatMap encS := by
    have fl : (O.flatMap encS).length = O.length * 2 := flat_length encS 2 (fun _ => rfl) O
    rw [List.flatMap_append, List.flatMap_append, List.set_append_right _ _ (by rw [fl]; omega), fl]
    simp [encS]
  rw [← e]
  simpa using h1

set_option maxHeartbeats 8000000 in
theorem joined_any (V : Option Addr) (c : Nat) (l : List Sp) (w : World) (hV : Ps w V l) (hi : InL l) (hv : ∀ x ∈ l, x.1 ≤ x.2) (hl : l.length ≤ 100000) :
    Calls Try.prog 35 #[.slice V l.length c] w fun e w' => (∃ R A c', (Snd R ∧ (∀ t, Mem t R ↔ Mem t l) ∧ R.length ≤ l.length) ∧ e = .returned (.slice A R.length c') ∧ OwnR w' w.heap.size 24 encS 2 (.slice A R.length c') R) ∧ Below w.heap.size w w' := by
  have HI := Lib.hid hi
  have HVd := Lib.hid hv
  have HS := Lib.hid (sorted_any V c l w hV hl)
  clear hV hi hv
  go_enter Try.func35, Try.ntmps35
  go_wp2_with fail
  refine HS.out.mono ?_
  rintro e w1 ⟨⟨S, A, c1, hS, rfl, hown⟩, hb1⟩
  have HB1 := Lib.hid hb1
  have HSS := Lib.hid hS
  have hSl : S.length = l.length := hS.len
  have HO1 := Lib.hid hown
  have hsz1 := hb1.size
  have HIS : Hid (InL S ∧ ∀ x ∈ S, x.1 ≤ x.2) := Lib.hid ⟨fun x hx => HI.out x (hS.sub x hx), fun x hx => HVd.out x (hS.sub x hx)⟩
  clear hS hown hb1 HS
  go_wp2_with fail
  go_loopw [3, 5] (fun s3 s5 wr => ∃ (k : Nat) (R : List Sp) (A2 : Option Addr) (c2 : Nat), k ≤ S.length ∧ s5 = .int .i64 k ∧ s3 = .slice A2 R.length c2 ∧ Hid (JO S R k) ∧ Hid (OwnR wr w1.heap.size 24 encS 2 (.slice A2 R.length c2) R) ∧ Hid (Below w1.heap.size w1 wr))
    (fun _ s5 _ => S.length - (intOf s5).toNat)
  case atStart => exact ⟨0, [], none, 0, Nat.zero_le _, rfl, rfl, Lib.hid (JO.zero S), Lib.hid (OwnR.nil _ _ _ _ _), Lib.hid (Below.refl _ _)⟩
  case round =>
    obtain ⟨k, R, A2, c2, hk, rfl, rfl, HJ, HO, HB⟩ := hrel
    have hsz := HB.out.size
    have hRl : R.length ≤ 100000 := by have := HJ.out.len; omega
    by_cases hlt : k < S.length
    · obtain ⟨p, o, rfl, hc⟩ := ps_at (OwnR.ps HO1.out) k S[k] (List.getElem?_eq_getElem hlt)
      have HX := Lib.hid (List.getElem?_eq_getElem hlt)
      have hxx := HIS.out.2 S[k] (List.getElem_mem hlt)
      have hxi := HIS.out.1 S[k] (List.getElem_mem hlt)
      obtain ⟨x, hx⟩ : ∃ x, x = S[k] := ⟨_, rfl⟩
      rw [← hx] at hc HX hxx hxi
      obtain ⟨xf, xt⟩ := x
      dsimp only at hc hxx hxi
      have HC := Lib.hid hc
      have HXX := Lib.hid (And.intro hxx hxi)
      have HIR := Lib.hid (inl_mem HJ.out.snd (fun t ht => by obtain ⟨z, hz, h⟩ := (HJ.out.mem t).1 ht; exact ⟨z, List.mem_of_mem_take hz, h⟩) HIS.out.1)
      clear hc hx hxx hxi
      have hkl : (k : Int) < S.length := by omega
      go_upto_region 7 with fail
      go_cut [47] (fun s47 wx => ∃ b : Bool, s47 = .bool b ∧ Hid (b = true → ∃ O y, R = O ++ [y] ∧ xf ≤ y.2 + 1) ∧ Hid (b = false → ∀ z ∈ R, z.2 + 1 < xf) ∧ Hid (∃ n, wx = wr.drewN n))
      case first =>
        have C := HC.out wr HB.out
        rcases List.eq_nil_or_concat R with h0 | ⟨O, y, h0⟩
        · have hR0 : R.length = 0 := by rw [h0]; rfl
          have HT : Hid (∀ z ∈ R, z.2 + 1 < xf) := Lib.hid (fun z hz => by rw [h0] at hz; cases hz)
          have hn0 : decide (0 < R.length) = false := decide_eq_false (by omega)
          have hn1 : decide ((0 : Int) < (R.length : Int)) = false := decide_eq_false (by omega)
          clear h0 hR0
          go_wp2_with fail
          go_quiet (fail)
          go_wp2_with fail
          go_meet
          exact ⟨false, rfl, Lib.hid (fun h => by cases h), Lib.hid (fun _ => HT.out), Lib.hid ⟨_, rfl⟩⟩
        · obtain ⟨j, hj⟩ : ∃ j, j = O.length := ⟨_, rfl⟩
          have hR1 : R.length = j + 1 := by rw [h0, hj]; simp
          obtain ⟨g, rfl, hc', -, -, hgl⟩ := OwnR.at0 Try.eltS HO.out j (by omega)
          have hRj : R[j]'(by omega) = y := by
            have : R[j]? = some y := by rw [h0, hj]; simp
            exact (List.getElem?_eq_some_iff.1 this).2
          rw [hRj] at hc'
          have hyi := HIR.out y (by rw [h0]; simp)
          have HLast : Hid (y.2 + 1 < xf → ∀ z ∈ R, z.2 + 1 < xf) := Lib.hid (fun h => by
            have := HJ.out.snd
            rw [h0] at this ⊢
            rw [List.concat_eq_append] at this ⊢
            exact far_last (x := (xf, xt)) this h)
          have HR := Lib.hid (show R = O ++ [y] by rw [h0, List.concat_eq_append])
          obtain ⟨yf, yt⟩ := y
          have D : wr.cell? ⟨g, j * 2 + 1, none⟩ = some (.int .i64 yt) := hc' 1 _ rfl
          unfold In at hyi
          dsimp only at hyi
          clear hc' hRj h0 hj
          have hw2 : IntKind.i64.wrap ((R.length : Int) - 1) = (j : Int) := by rw [IntKind.wrap_i64]; omega
          have hn0 : decide (0 < R.length) = true := decide_eq_true (by omega)
          have hn1 : decide ((0 : Int) < (R.length : Int)) = true := decide_eq_true (by omega)
          have hj1 : (j : Int) < R.length := by omega
          have hj2 : j < R.length := by omega
          clear hR1
          by_cases hle : xf ≤ yt
          · have hd : decide (xf ≤ yt) = true := decide_eq_true hle
            have HT : Hid (∃ O y, R = O ++ [y] ∧ xf ≤ y.2 + 1) := Lib.hid ⟨O, _, HR.out, by simp only; omega⟩
            clear hle hyi
            go_wp2_with fail
            go_quiet (fail)
            go_wp2_with fail
            go_meet
            exact ⟨true, rfl, Lib.hid (fun _ => HT.out), Lib.hid (fun h => by cases h), Lib.hid ⟨_, rfl⟩⟩
          · have hd : decide (xf ≤ yt) = false := decide_eq_false hle
            have hw3 : IntKind.i64.wrap (yt + 1) = yt + 1 := by have := HXX.out.2; unfold In at this; rw [IntKind.wrap_i64]; omega
            by_cases heq : xf = yt + 1
            · have hd2 : (xf == yt + 1) = true := beq_iff_eq.2 heq
              have HT : Hid (∃ O y, R = O ++ [y] ∧ xf ≤ y.2 + 1) := Lib.hid ⟨O, _, HR.out, by simp only; omega⟩
              clear hle hyi heq
              go_wp2_with fail
              go_quiet (fail)
              go_wp2_with fail
              go_meet
              exact ⟨true, rfl, Lib.hid (fun _ => HT.out), Lib.hid (fun h => by cases h), Lib.hid ⟨_, rfl⟩⟩
            · have hd2 : (xf == yt + 1) = false := beq_eq_false_iff_ne.2 heq
              have HT : Hid (∀ z ∈ R, z.2 + 1 < xf) := Lib.hid (HLast.out (by simp only; omega))
              clear hle hyi heq
              go_wp2_with fail
              go_quiet (fail)
              go_wp2_with fail
              go_meet
              exact ⟨false, rfl, Lib.hid (fun h => by cases h), Lib.hid (fun _ => HT.out), Lib.hid ⟨_, rfl⟩⟩
      case rest =>
        obtain ⟨b, rfl, HT, HF, HW⟩ := hcut
        obtain ⟨nd, hnd⟩ := HW.out
        subst hnd
        have HO2 := Lib.hid (show OwnR (wr.drewN nd) w1.heap.size 24 encS 2 (.slice A2 R.length c2) R from HO.out)
        have HB2 := Lib.hid (below_drewN HB.out nd)
        obtain ⟨wd, hwd⟩ : ∃ wd, wd = wr.drewN nd := ⟨_, rfl⟩
        rw [← hwd] at HO2 HB2 ⊢
        have hszd := HB2.out.size
        clear hwd HW
        have C := HC.out wd HB2.out
        cases b
        · have HJ2 := Lib.hid (HJ.out.put HSS.out.up HX.out HXX.out.1 (HF.out rfl))
          go_wp2_with (at_builtin; go_must (refine appR1 Try.eltS _ rfl (.tmp 65) (.tmp 70) rfl w1.heap.size _ R rfl (HO2.out.alloc _) wd.heap.size 1 (xf, xt) 24 _ rfl (Blk.new wd _ _) rfl (by unfold maxLen; omega) (by omega) (by simp; omega) ?_); intro g4 c4 w4 hown4 hb4 hg4)
          go_roundw
          case measure => simp [intOf]; omega
          case rel => exact ⟨k + 1, R ++ [(xf, xt)], some ⟨g4, 0, none⟩, c4, by omega, by go_num, by simp, HJ2, Lib.hid (by simpa using hown4), Lib.hid ((HB2.out.alloc hszd _).trans hb4)⟩
        · obtain ⟨O, y, h0, hle⟩ := HT.out rfl
          obtain ⟨j, hj⟩ : ∃ j, j = O.length := ⟨_, rfl⟩
          have hR1 : R.length = j + 1 := by rw [h0, hj]; simp
          have HJ2 := Lib.hid (show JO S (O ++ [(y.1, max y.2 xt)]) (k + 1) by
            have := HJ.out
            rw [h0] at this
            exact JO.join this HX.out HXX.out.1 hle)
          obtain ⟨g, rfl, hc', hfr, hbg, hgl⟩ := OwnR.at0 Try.eltS HO2.out j (by omega)
          have hRj : R[j]'(by omega) = y := by
            have : R[j]? = some y := by rw [h0, hj]; simp
            exact (List.getElem?_eq_some_iff.1 this).2
          rw [hRj] at hc'
          have HLs := Lib.hid (fun v => by
            have := HO2.out
            rw [show Value.slice (some ⟨g, 0, none⟩) R.length c2 = Value.slice (some ⟨g, 0, none⟩) (j + 1) c2 by rw [hR1], h0] at this
            have h2 := own_last this (by rw [List.length_append, hj]; rfl) v
            rw [← hj] at h2
            exact h2)
          have hOl : ∀ v : Sp, (O ++ [v]).length = j + 1 := fun v => by rw [hj]; simp
          obtain ⟨yf, yt⟩ := y
          have D : wd.cell? ⟨g, j * 2 + 1, none⟩ = some (.int .i64 yt) := hc' 1 _ rfl
          have hfz := hfr 1
          clear hc' hfr hRj h0 hj HT HF hle
          have hw2 : IntKind.i64.wrap ((R.length : Int) - 1) = (j : Int) := by rw [IntKind.wrap_i64]; omega
          have hj1 : (j : Int) < R.length := by omega
          have hj2 : j < R.length := by omega
          have HR1 := Lib.hid hR1
          clear hR1
          by_cases hm : yt < xt
          · go_wp2_with fail
            go_region
            go_wp2_with fail
            go_roundw
            case measure => simp [intOf]; omega
            case rel =>
              refine ⟨k + 1, O ++ [(yf, xt)], some ⟨g, 0, none⟩, c2, by omega, by go_num, by rw [hOl, ← HR1.out], ?_, ?_, ?_⟩
              · have := HJ2.out; rw [show max yt xt = xt by omega] at this; exact Lib.hid this
              · rw [hOl]; exact Lib.hid (HLs.out xt)
              · exact Lib.hid (HB2.out.grown (grown_trans (grown_set wd g _ _) (grown_drew _ _)) hszd (fun q e => by cases e; exact hbg))
          · go_wp2_with fail
            go_region
            go_wp2_with fail
            go_roundw
            case measure => simp [intOf]; omega
            case rel =>
              refine ⟨k + 1, O ++ [(yf, yt)], some ⟨g, 0, none⟩, c2, by omega, by go_num, by rw [hOl, ← HR1.out], ?_, ?_, ?_⟩
              · have := HJ2.out; rw [show max yt xt = yt by omega] at this; exact Lib.hid this
              · rw [hOl]; exact Lib.hid (HLs.out yt)
              · exact Lib.hid (HB2.out.grown (grown_trans (grown_set wd g _ _) (grown_drew _ _)) hszd (fun q e => by cases e; exact hbg))
    · obtain rfl : k = S.length := by omega
      have HJf : Hid (Snd R ∧ (∀ t, Mem t R ↔ Mem t l) ∧ R.length ≤ l.length) := Lib.hid ⟨HJ.out.snd, fun t => by rw [HJ.out.mem, List.take_length, HSS.out.mem, List.take_length], by have := HJ.out.len; omega⟩
      go_wp2_with fail
      go_ret
      exact ⟨⟨R, A2, c2, HJf.out, rfl, HO.out.mono hsz1⟩, HB1.out.trans (HB.out.mono hsz1)⟩

end Go.Proofs.Ytfbnobhecfgahaa
