/- Joined: Bk32, Bk38, Bk40. -/
import Derived.Test.YtmcdollkmlcpbaaGreatDoorQ37
import Derived.Test.YtmcdollkmlcpbaaGreatDoorQ38
import Derived.Test.YtmcdollkmlcpbaaGreatDoorQ40
import Derived.Test.YtmcdollkmlcpbaaGreatDoorQ4
import Derived.Test.YtmcdollkmlcpbaaGreatDoorQ26
set_option linter.unusedSimpArgs false
set_option linter.unusedVariables false
set_option linter.unusedSimpArgs false
set_option linter.unusedVariables false
namespace Go.Proofs.YtmcdollkmlcpbaaGreatDoor
open Go.RowKit
set_option maxRecDepth 100000
theorem rise_of {L : List Sm} (hi : InC L) (hr : L.Pairwise fun a b => a.1 < b.1) (hl : L.length ≤ 1000) : RiseC ec0 L :=
 (RiseC_iff L hi (by omega)).2 fun i h => List.pairwise_iff_getElem.1 hr i (i + 1) (by omega) h (by omega)
theorem OkC1.rise_ {C : CsT} (h : OkC1 C) {L : List Sm} (hL : L ∈ C) : RiseC ec0 L := rise_of (h.incL hL) (h.riseL hL) (h.lenL hL)
theorem pack_small {L : List Sm} (h1 : L.length ≤ 1000) (h2 : InC L) : (pack (bitsL L)).length ≤ 100000 := by
 have := bits_small h1 h2
 rw [pack_length]; unfold nb; omega
theorem call_laid {A : Option Addr} {c : Nat} {L : List Sm} {w : World} (hA : Bs w A (pack (bitsL L))) (hi : InC L) (hr : RiseC ec0 L) (hl : L.length ≤ 1000) (hT : Tab w) :
  Calls Tryz.prog 30 #[.agg #[.slice A (pack (bitsL L)).length c, .int .i64 ((bitsL L).length : Nat)]] w fun e w' => ∃ U n, e = .returned (.tuple #[.slice U L.length n, .agg #[.int .i64 (lastC ec0 L).n, .int .i64 (lastC ec0 L).last, .int .i64 (lastC ec0 L).delta, .bool (lastC ec0 L).val.has, .int .u64 (lastC ec0 L).val.prev, .int .u8 (lastC ec0 L).val.lead, .int .u8 (lastC ec0 L).val.width], .int .u16 0]) ∧ OwnR w' w.heap.size 42 smp 2 (.slice U L.length n) L ∧ Below w.heap.size w w' := by
 have hp := pack_small hl hi
 have hb := bits_small hl hi
 refine (call_any A c (pack (bitsL L)) ((bitsL L).length : Nat) w hA (by unfold in64; omega) hp hT).mono ?_
 rintro e w' ⟨v, rfl, hown, hB⟩
 have ha := allC_laid hi hr hl
 rw [show codesC ec0 L = bitsL L from rfl] at ha
 rw [ha] at hown ⊢
 dsimp only at hown ⊢
 rw [rcS_smp] at hown
 rw [rcS_last0]
 obtain ⟨U, n, rfl, -, -⟩ := hown.row Tryz.eltS
 exact ⟨U, n, rfl, hown, hB⟩
theorem RsS.head {w : World} {s : Sl} {C : CsT} (h : RsS w s C) : ∃ gp, s.PA = some ⟨gp, 0, none⟩ ∧ w.cell? ⟨s.g, 0, none⟩ = some (.slice (some ⟨gp, 0, none⟩) C.length s.pc) := by
 have hpos : 0 < s.ps.length := List.length_pos_iff.2 h.ne
 obtain ⟨gp, e1, -⟩ := h.rd.part (List.getElem?_eq_getElem hpos)
 have h1 := h.rd.blk.cell 0
 refine ⟨gp, e1, ?_⟩
 rw [← h.len, ← h.ok.pn, ← e1]
 exact h1
set_option maxHeartbeats 4000000 in
theorem bSamples_any {w : World} {X : Bl} (h : RdK w X) (ok : OkB X) (hT : Tab w) (x : Nat) (hx : x < 4294967296) : Calls Tryz.prog 14 #[prB X, .int .u32 (x : Nat)] w fun e w' => ∃ U n, e = .returned (.slice U (X.D.at_ x).flatten.length n) ∧ OwnR w' w.heap.size 42 smp 2 (.slice U (X.D.at_ x).flatten.length n) (X.D.at_ x).flatten ∧ Below w.heap.size w w' := by
 have hmx : Tryz.prog.follows .mixedOrders = true := by kernel_rfl
 have HN := Lib.hid (bser_any h ok x hx)
 have hoc := ok.D.at_ x
 obtain ⟨C, hC⟩ : ∃ C, C = X.D.at_ x := ⟨_, rfl⟩
 rw [← hC] at HN hoc ⊢
 obtain ⟨n, hn⟩ : ∃ n, n = C.length := ⟨_, rfl⟩
 have hn1 : n ≤ 1001 := by rw [hn]; exact hoc.few
 have HC := Lib.hid (And.intro hoc (And.intro hT hn))
 obtain ⟨F0, hF0⟩ : ∃ F, F = C.flatten := ⟨_, rfl⟩
 rw [← hF0]
 have HF0 := Lib.hid hF0
 clear hF0
 clear h ok hx hC hoc hT hn
 go_enter Tryz.func14, Tryz.ntmps14
 go_upto_region 2 with fail
 go_wp2_with (go_at_call 29; refine HN.out.mono ?_; rintro e w2 ⟨s, rfl, hR, b2⟩; obtain ⟨gp, hgp, C0⟩ := hR.head; rw [← HC.out.2.2] at C0)
 have HR := Lib.hid (And.intro hR (And.intro hgp b2))
 have hsz2 := b2.size
 clear hR hgp b2 HN C0
 go_loopw [5, 7, 8, 9, 10, 18] (fun s5 s7 s8 s9 s10 s18 wr => ∃ (k m cc : Nat) (U : Option Addr), s18 = .int .i64 (k : Nat) ∧ k ≤ n ∧ s5 = .slice U m cc ∧ Hid (m = (C.take k).flatten.length ∧ OwnR wr w2.heap.size 42 smp 2 (.slice U m cc) (C.take k).flatten ∧ Below w2.heap.size w2 wr))
  (fun _ _ _ _ _ s18 _ => n - (intOf s18).toNat)
 case atStart => exact ⟨0, 0, 0, none, by go_num, Nat.zero_le _, rfl, Lib.hid ⟨rfl, OwnR.nil _ _ _ _ _, Below.refl _ _⟩⟩
 case round =>
  obtain ⟨k, m, cc, U, rfl, hk, rfl, HI⟩ := hrel
  obtain ⟨F, hF⟩ : ∃ F, F = (C.take k).flatten := ⟨_, rfl⟩
  rw [← hF] at HI
  have HFk := Lib.hid hF
  clear hF
  by_cases hkn : k < n
  ·have hkn2 : (k : Int) < (n : Int) := by omega
   obtain ⟨L, hL⟩ : ∃ L, C[k]? = some L := ⟨_, List.getElem?_eq_getElem (by rw [← HC.out.2.2]; exact hkn)⟩
   have hR9 := HR.out.1.below HI.out.2.2
   obtain ⟨p, hp, hpL⟩ := hR9.get hL
   subst hpL
   obtain ⟨gp', e1, c1, c2, c3, c4⟩ := hR9.rd.part hp
   rw [HR.out.2.1] at e1
   injection e1 with e1
   injection e1 with e1
   subst e1
   have hLm := List.mem_of_getElem? hL
   have hA := (hR9.rd.bits p (List.mem_of_getElem? hp)).bs
   obtain ⟨wi, hwi⟩ : ∃ wi, wi = wr := ⟨_, rfl⟩
   rw [← hwi] at HI c1 c2 c3 c4 hA ⊢
   have hTi : Tab wi := by rw [hwi]; exact tabGo (tabGo HC.out.2.1 HR.out.2.2) (by rw [← hwi]; exact HI.out.2.2)
   have hAr := HC.out.1
   obtain ⟨bn, hbn⟩ : ∃ b, b = (bitsL p.L).length := ⟨_, rfl⟩
   obtain ⟨pn, hpn⟩ : ∃ b, b = (pack (bitsL p.L)).length := ⟨_, rfl⟩
   have hCl := fun (W : World) (hb : Below wi.heap.size wi W) => call_laid (c := p.c) (hA.below hb) (hAr.incL hLm) (hAr.rise_ hLm) (hAr.lenL hLm) (tabGo hTi hb)
   rw [← hbn] at c2 hCl
   rw [← hpn] at c1 hCl
   have HCl := Lib.hid hCl
   have HP := Lib.hid (And.intro hL (hAr.lenL hLm))
   clear hR9 hp hL hLm hA hTi hAr hwi hbn hpn hCl
   go_upto_region 5 with fail
   have hb7 := Blk.new wi 95 #[.slice p.A pn p.c, .int .i64 (bn : Nat), .slice p.E p.L.length p.ec, .int .i64 ((p.ah : Nat) : Int)]
   have b4 : Below wi.heap.size wi (wi.alloc (.cells #[.slice p.A pn p.c, .int .i64 (bn : Nat), .slice p.E p.L.length p.ec, .int .i64 ((p.ah : Nat) : Int)] 95)) := below_alloc _ _
   generalize hV4 : World.alloc _ _ = V4 at hb7 b4 ⊢
   obtain ⟨g7, hg7⟩ : ∃ g, g = wi.heap.size := ⟨_, rfl⟩
   rw [← hg7] at hb7 ⊢
   have D1 := cells_say hb7 _ 0 rfl
   simp only [cellsSay, List.drop_zero, Nat.reduceAdd, and_true] at D1
   have HB4 := Lib.hid b4
   have HCl2 := Lib.hid (HCl.out V4 b4)
   have H4 := Lib.hid (And.intro (HI.out.2.1.below b4) (HI.out.2.2.trans (b4.mono HI.out.2.2.size)))
   have HM := Lib.hid HI.out.1
   clear c1 c2 c3 c4 HCl hV4 hg7 hb7 b4 HB4 HI
   go_upto_region 6 with (go_at_call 30; refine HCl2.out.mono ?_; rintro e w5 ⟨U2, n2, rfl, h5, b5⟩)
   obtain ⟨Z, hZ⟩ : ∃ Z, Z = w5 := ⟨_, rfl⟩
   obtain ⟨l2, hl2⟩ : ∃ l, l = p.L.length := ⟨_, rfl⟩
   have H5 := Lib.hid (And.intro (H4.out.1.below b5) (And.intro (H4.out.2.trans (b5.mono H4.out.2.size)) (And.intro h5 hl2)))
   rw [← hl2]
   have hm1 : m ≤ 1000 := by
    have h1 : ((C.take k) ++ (C.drop k)).flatten.length ≤ 1000 := by rw [List.take_append_drop]; exact HC.out.1.len
    have h2 := HM.out
    have h3 := HFk.out
    rw [h3] at h2
    rw [List.flatten_append, List.length_append] at h1
    omega
   have hl9 : l2 ≤ 1000 := by rw [hl2]; exact HP.out.2
   clear h5 b5 H4 HCl2 hl2 D1 hZ
   have b6 := below_alloc w5 (.cells #[.int .i64 (lastC ec0 p.L).n, .int .i64 (lastC ec0 p.L).last, .int .i64 (lastC ec0 p.L).delta, .bool (lastC ec0 p.L).val.has, .int .u64 (lastC ec0 p.L).val.prev, .int .u8 (lastC ec0 p.L).val.lead, .int .u8 (lastC ec0 p.L).val.width] 88)
   generalize hW6 : World.alloc _ _ = W6 at b6 ⊢
   obtain ⟨U3, n3, e3, -, hrw⟩ := (H5.out.2.2.1.below b6).row Tryz.eltS
   injection e3 with e3 e4 e5
   subst e3 e5
   have H6 := Lib.hid (And.intro (H5.out.1.below b6) (And.intro (H5.out.2.1.trans (b6.mono H5.out.2.1.size)) hrw))
   have hl2 := H5.out.2.2.2
   have hz6 : w2.heap.size ≤ W6.heap.size := H6.out.2.1.size
   have HL2 := Lib.hid hl2
   clear hW6 b6 e4 H5 hrw hl2
   go_upto_region 7 with (at_builtin; go_must (refine appR Tryz.eltS _ rfl (.tmp 29) (.tmp 30) rfl w2.heap.size (.slice U m cc) F (by simp [Act.eval, Act.put]) H6.out.1 U2 n2 p.L (by simp [Act.eval, Act.put, HL2.out]) H6.out.2.2 (by unfold maxLen; rw [← HM.out, ← HL2.out]; omega) (by rw [← HM.out, ← HL2.out]; omega) hz6 ?_); intro A9 c9 w9 hown9 hb9; rw [← HM.out, ← HL2.out] at hown9 ⊢)
   have HE := Lib.hid (And.intro hown9 (H6.out.2.1.trans hb9))
   clear hown9 hb9
   go_wp2_with fail
   go_roundw
   case measure => simp [intOf]; omega
   case rel =>
    have hs : (C.take (k + 1)).flatten = F ++ p.L := by
     rw [List.take_succ_eq_append_getElem (by rw [← HC.out.2.2]; exact hkn), List.flatten_append, (List.getElem?_eq_some_iff.1 HP.out.1).2, List.flatten_singleton, ← HFk.out]
    exact ⟨k + 1, m + l2, c9, A9, by go_num, by omega, rfl, Lib.hid ⟨by rw [hs, List.length_append, ← HM.out, HL2.out], by rw [hs]; exact HE.out.1, HE.out.2⟩⟩
  ·have hkn2 : ¬ (k : Int) < (n : Int) := by omega
   have hkk : k = n := by omega
   have HF := Lib.hid hkk
   clear hkk
   go_wp2_with fail
   have hf : F = F0 := by rw [HFk.out, HF.out, HC.out.2.2, List.take_length, HF0.out]
   have hI := HI.out
   rw [hf] at hI
   go_ret
   exact ⟨U, cc, by rw [← hI.1]; rfl, by rw [← hI.1]; exact hI.2.1.mono hsz2, HR.out.2.2.trans (hI.2.2.mono hsz2)⟩
end Go.Proofs.YtmcdollkmlcpbaaGreatDoor
set_option linter.unusedSimpArgs false
set_option linter.unusedVariables false
namespace Go.Proofs.YtmcdollkmlcpbaaGreatDoor
open Go.RowKit
set_option maxRecDepth 100000
def fitR (C : CsT) (ch : Nat) (f : FrD) (R : List RC × Nat) : Nat × List Sm :=
 if R.2 = 0 ∧ R.1.length = f.cn ∧ f.fn < f.cn ∧ R.1.length ≤ ch ∧ opensB C (((R.1.map smpR).head?.getD (0, 0)).1) = true then (0, R.1.map smpR) else (61, [])
def fitJ (C : CsT) (ch : Nat) (f : FrD) (old : List Bool) : Nat × List Sm :=
 if soundB f.l f.n = false then (61, []) else fitR C ch f (allC (pack (old ++ bitl f.l f.n.toNat)) (((old ++ bitl f.l f.n.toNat).length : Nat) : Int))
def oldC (C : CsT) (f : FrD) : Option (List Bool) := if (f.fc, f.fb, f.fn) = endC C then some (bitsL (lastL C)) else if (f.fc, f.fb, f.fn) = (C.length - 1, 0, 0) then some [] else none
def fitC (C : CsT) (ch : Nat) (f : FrD) : Nat × List Sm := match oldC C f with
 | none => (122, [])
 | some old => fitJ C ch f old
def fullD (D : BD) (x : Nat) : Bool := decide ((lookM D.M x).isNone ∧ D.mo ≤ D.M.length)
def fitD (D : BD) (f : FrD) : Nat × List Sm := if fullD D f.se = true then (121, []) else fitC (D.at_ f.se) D.ch f
theorem fitR_ok {C : CsT} {ch : Nat} {f : FrD} {R : List RC × Nat} (h : (fitR C ch f R).1 = 0) : R.2 = 0 ∧ R.1.length = f.cn ∧ f.fn < f.cn ∧ R.1.length ≤ ch ∧ opensB C (((R.1.map smpR).head?.getD (0, 0)).1) = true ∧ (fitR C ch f R).2 = R.1.map smpR := by
 unfold fitR at h ⊢
 split
 ·rename_i k
  exact ⟨k.1, k.2.1, k.2.2.1, k.2.2.2.1, k.2.2.2.2, rfl⟩
 ·rename_i k
  rw [if_neg k] at h
  cases h
structure FitS (C : CsT) (ch : Nat) (bs : List Bool) (S : List Sm) : Prop where
 inc : InC S
 rise : RiseC ec0 S
 bits : bitsL S = bs
 pos : 0 < S.length
 len : S.length ≤ ch
 op : ∀ x, S.head? = some x → opensB C x.1 = true
 all : allC (pack bs) ((bs.length : Nat) : Int) = (rcS 0 ec0 S, 0)
theorem fit_S {C : CsT} {ch : Nat} {f : FrD} {bs : List Bool} (hb : (pack bs).length ≤ 100000) (h : (fitR C ch f (allC (pack bs) ((bs.length : Nat) : Int))).1 = 0) : FitS C ch bs (fitR C ch f (allC (pack bs) ((bs.length : Nat) : Int))).2 := by
 obtain ⟨h1, h2, h3, h4, h5, h6⟩ := fitR_ok h
 rw [h6]
 rcases allC_cases (sound_pack bs) hb with ⟨S, e1, e2, e3, e4⟩ | e1
 ·rw [e1] at h1 h2 h4 h5 ⊢
  dsimp only at h2 h4 h5 ⊢
  rw [rcS_smp] at h5 ⊢
  rw [rcS_length] at h2 h4
  refine ⟨e4, e3, ?_, by omega, h4, fun x hx => ?_, e1⟩
  ·rw [bits_pack] at e2
   exact e2
  ·rw [hx] at h5
   exact h5
 ·rw [e1] at h1
  cases h1
theorem fitJ_S {C : CsT} {ch : Nat} {f : FrD} {old : List Bool} (hb : (pack (old ++ bitl f.l f.n.toNat)).length ≤ 100000) (h : (fitJ C ch f old).1 = 0) : soundB f.l f.n = true ∧ FitS C ch (old ++ bitl f.l f.n.toNat) (fitJ C ch f old).2 := by
 unfold fitJ at h ⊢
 split
 ·rename_i k
  rw [if_pos k] at h
  cases h
 ·rename_i k
  rw [if_neg k] at h
  exact ⟨by simpa using k, fit_S hb h⟩
end Go.Proofs.YtmcdollkmlcpbaaGreatDoor
set_option linter.unusedSimpArgs false
set_option linter.unusedVariables false
namespace Go.Proofs.YtmcdollkmlcpbaaGreatDoor
open Go.RowKit
def takeD (D : BD) (f : FrD) : BD := if (fitD D f).1 = 0 then ⟨D.mo, D.ch, putM D.M f.se (setLast (D.at_ f.se) (fitD D f).2 f.cl)⟩ else D
theorem pair_of {S : List Sm} (hi : InC S) (hr : RiseC ec0 S) (hl : S.length ≤ 1000000) : S.Pairwise fun a b => a.1 < b.1 := by
 have h := (RiseC_iff S hi hl).1 hr
 refine List.pairwise_iff_getElem.2 fun i j hi hj hij => ?_
 obtain ⟨d, rfl⟩ : ∃ d, j = i + 1 + d := ⟨j - (i + 1), by omega⟩
 clear hij
 induction d with
 | zero => exact h i hj
 | succ d ih =>
  have h1 := ih (by omega)
  have h2 := h (i + 1 + d) hj
  exact Int.lt_trans h1 h2
theorem FitS.pair {C : CsT} {ch : Nat} {bs : List Bool} {S : List Sm} (h : FitS C ch bs S) (oc : OkC1 C) (hch : ch ≤ 1000) : (C.dropLast.flatten ++ S).Pairwise fun a b => a.1 < b.1 := by
 have hS := pair_of h.inc h.rise (by have := h.len; omega)
 have hC : C.dropLast.flatten.Pairwise fun a b => a.1 < b.1 := by
  have h1 := oc.rise
  rw [cs_flat oc.ne] at h1
  exact (List.pairwise_append.1 h1).1
 refine List.pairwise_append.2 ⟨hC, hS, fun a ha b hb => ?_⟩
 cases hg : C.dropLast.flatten.getLast? with
 | none => rw [List.getLast?_eq_none_iff.1 hg] at ha; cases ha
 | some y =>
  have hay : a.1 ≤ y.1 := by
   have hne : C.dropLast.flatten ≠ [] := fun e => by rw [e] at ha; cases ha
   have e1 : C.dropLast.flatten = C.dropLast.flatten.dropLast ++ [y] := by
    rw [List.getLast?_eq_some_getLast hne] at hg
    injection hg with hg
    rw [← hg, List.dropLast_concat_getLast]
   rw [e1] at ha hC
   rcases List.mem_append.1 ha with ha | ha
   ·exact Int.le_of_lt ((List.pairwise_append.1 hC).2.2 a ha y (List.mem_singleton.2 rfl))
   ·rw [List.mem_singleton.1 ha]; exact Int.le_refl _
  cases hs : S with
  | nil => rw [hs] at hb; cases hb
  | cons x r =>
   have h1 := h.op x (by rw [hs]; rfl)
   rw [opensB_some hg, decide_eq_true_eq] at h1
   rw [hs] at hb hS
   rcases List.mem_cons.1 hb with rfl | hb
   ·omega
   ·have := (List.pairwise_cons.1 hS).1 b hb
    omega
theorem oldC_cases {C : CsT} {f : FrD} {old : List Bool} (h : oldC C f = some old) : old = bitsL (lastL C) ∨ old = [] := by
 unfold oldC at h
 split at h
 ·injection h with h; exact .inl h.symm
 ·split at h
  ·injection h with h; exact .inr h.symm
  ·cases h
theorem fitD_S {D : BD} (hD : OkD D) {f : FrD} (hl : f.l.length ≤ 1000) (h : (fitD D f).1 = 0) : fullD D f.se = false ∧ ∃ old, oldC (D.at_ f.se) f = some old ∧ soundB f.l f.n = true ∧ FitS (D.at_ f.se) D.ch (old ++ bitl f.l f.n.toNat) (fitD D f).2 := by
 unfold fitD at h ⊢
 split at h
 ·cases h
 ·rename_i hf
  rw [if_neg hf]
  refine ⟨by simpa using hf, ?_⟩
  unfold fitC at h ⊢
  split at h
  ·cases h
  ·rename_i old ho
   rw [ho]
   by_cases hs : soundB f.l f.n = false
   ·unfold fitJ at h
    rw [if_pos hs] at h
    cases h
   ·have oc := hD.at_ f.se
    have hb : (pack (old ++ bitl f.l f.n.toNat)).length ≤ 100000 := by
     obtain ⟨nm, hnm, hn8, -⟩ := sound_nat (show soundB f.l f.n = true by simpa using hs)
     have h1 := bits_small (oc.lenL oc.lastM) (oc.incL oc.lastM)
     have h2 : old.length ≤ 146000 := by
      rcases oldC_cases ho with e | e
      ·rw [e]; exact h1
      ·rw [e]; decide
     rw [pack_length, List.length_append, bitl_length, hnm, Int.toNat_natCast]
     unfold nb
     omega
    obtain ⟨h1, h2⟩ := fitJ_S hb h
    exact ⟨old, rfl, h1, h2⟩
theorem setLast_ne {C : CsT} {L : List Sm} {b : Bool} (h : L ≠ []) : (setLast C L b).flatten ≠ [] := by
 cases L with
 | nil => exact absurd rfl h
 | cons x r => unfold setLast; cases b <;> simp
theorem OkD.take {D : BD} (h : OkD D) {f : FrD} (hx : f.se < 4294967296) (hl : f.l.length ≤ 1000) (hn : (D.at_ f.se).flatten.length + 24 ≤ 1000) : OkD (takeD D f) := by
 unfold takeD
 split
 ·rename_i h0
  obtain ⟨h1, old, -, -, h2⟩ := fitD_S h hl h0
  have hne : (fitD D f).2 ≠ [] := fun e => by have := h2.pos; rw [e] at this; cases this
  have oc := h.at_ f.se
  have hch := h.ch2
  refine h.putM hx (oc.set (fun _ => hne) h2.inc (h2.pair oc (by omega)) ?_) (setLast_ne hne) ?_
  ·have h3 := h2.len
   have h4 : (D.at_ f.se).dropLast.flatten.length ≤ (D.at_ f.se).flatten.length := by
    conv => rhs; rw [cs_flat oc.ne]
    rw [List.length_append]; omega
   omega
  ·unfold fullD at h1
   simpa using h1
 ·exact h
end Go.Proofs.YtmcdollkmlcpbaaGreatDoor
