/- . -/
import Derived.Test.YtmcdollkmlcpbaaGreatDoorQ1
import Derived.Test.YtmcdollkmlcpbaaGreatDoorQ2
import Derived.Test.YtmcdollkmlcpbaaGreatDoorQ3
import Derived.Test.YtmcdollkmlcpbaaGreatDoorQ4
import Derived.Test.YtmcdollkmlcpbaaGreatDoorQ5
import Derived.Test.YtmcdollkmlcpbaaGreatDoorQ6
import Derived.Test.YtmcdollkmlcpbaaGreatDoorQ7
import Derived.Test.YtmcdollkmlcpbaaGreatDoorQ8
import Derived.Test.YtmcdollkmlcpbaaGreatDoorQ9
import Derived.Test.YtmcdollkmlcpbaaGreatDoorQ10
import Derived.Test.YtmcdollkmlcpbaaGreatDoorQ11
import Derived.Test.YtmcdollkmlcpbaaGreatDoorQ12
import Derived.Test.YtmcdollkmlcpbaaGreatDoorQ13
import Derived.Test.YtmcdollkmlcpbaaGreatDoorQ14
import Derived.Test.YtmcdollkmlcpbaaGreatDoorQ15
import Derived.Test.YtmcdollkmlcpbaaGreatDoorQ16
import Derived.Test.YtmcdollkmlcpbaaGreatDoorQ17
import Derived.Test.YtmcdollkmlcpbaaGreatDoorQ18
import Derived.Test.YtmcdollkmlcpbaaGreatDoorQ19
import Derived.Test.YtmcdollkmlcpbaaGreatDoorQ20
import Derived.Test.YtmcdollkmlcpbaaGreatDoorQ21
import Derived.Test.YtmcdollkmlcpbaaGreatDoorQ22
import Derived.Test.YtmcdollkmlcpbaaGreatDoorQ23
import Derived.Test.YtmcdollkmlcpbaaGreatDoorQ24
import Derived.Test.YtmcdollkmlcpbaaGreatDoorQ25
import Derived.Test.YtmcdollkmlcpbaaGreatDoorQ26
import Derived.Test.YtmcdollkmlcpbaaGreatDoorQ27
import Derived.Test.YtmcdollkmlcpbaaGreatDoorQ28
import Derived.Test.YtmcdollkmlcpbaaGreatDoorQ29
import Derived.Test.YtmcdollkmlcpbaaGreatDoorQ30
import Derived.Test.YtmcdollkmlcpbaaGreatDoorQ31
import Derived.Test.YtmcdollkmlcpbaaGreatDoorQ32
import Derived.Test.YtmcdollkmlcpbaaGreatDoorQ33
import Derived.Test.YtmcdollkmlcpbaaGreatDoorQ34
import Derived.Test.YtmcdollkmlcpbaaGreatDoorQ35
import Derived.Test.YtmcdollkmlcpbaaGreatDoorQ36
import Derived.Test.YtmcdollkmlcpbaaGreatDoorQ37
import Derived.Test.YtmcdollkmlcpbaaGreatDoorQ38
import Derived.Test.YtmcdollkmlcpbaaGreatDoorQ39
import Derived.Test.YtmcdollkmlcpbaaGreatDoorQ40
import Derived.Test.YtmcdollkmlcpbaaGreatDoorQ41
import Derived.Test.YtmcdollkmlcpbaaGreatDoorQ42
import Derived.Test.YtmcdollkmlcpbaaGreatDoorQ43
import Derived.Test.YtmcdollkmlcpbaaGreatDoorQ44
import Derived.Test.YtmcdollkmlcpbaaGreatDoorQ45
import Derived.Test.YtmcdollkmlcpbaaGreatDoorQ46
import Derived.Test.YtmcdollkmlcpbaaGreatDoorQ47
import Derived.Test.YtmcdollkmlcpbaaGreatDoorQ48
import Derived.Test.YtmcdollkmlcpbaaGreatDoorQ49
import Derived.Test.YtmcdollkmlcpbaaGreatDoorQ50
import Derived.Test.YtmcdollkmlcpbaaGreatDoorQ51
import Derived.Test.YtmcdollkmlcpbaaGreatDoorQ52
import Derived.Deep.DeepCutAuto
set_option linter.unusedSimpArgs false
set_option linter.unusedVariables false
set_option linter.unusedSimpArgs false
set_option linter.unusedVariables false
namespace Go.Proofs.YtmcdollkmlcpbaaGreatDoor
theorem bitsL_take (L : List Sm) (j : Nat) : bitsL (L.take j) = (bitsL L).take (endN L j) := by
 have h : bitsL L = bitsL (L.take j) ++ codesC (lastC ec0 (L.take j)) (L.drop j) := by
  unfold bitsL
  rw [← codesC_app, List.take_append_drop]
 rw [h]
 unfold endN
 rw [List.take_left]
theorem cutB_join (L : List Sm) {i j : Nat} (h : i ≤ j) : bitsL (L.take i) ++ cutB L i j = bitsL (L.take j) := by
 rw [bitsL_take, bitsL_take]
 unfold cutB
 have e : (bitsL L).take (endN L i) = ((bitsL L).take (endN L j)).take (endN L i) := by rw [List.take_take, Nat.min_eq_left (endN_mono L h)]
 rw [e, List.take_append_drop]
end Go.Proofs.YtmcdollkmlcpbaaGreatDoor
set_option linter.unusedSimpArgs false
set_option linter.unusedVariables false
namespace Go.Proofs.YtmcdollkmlcpbaaGreatDoor
def behC (C : CsT) (pc pb : Nat) : Int := ((totC C : Nat) : Int) - ((totC (C.take pc) : Nat) : Int) - ((pb : Nat) : Int)
theorem totC_split {C : CsT} {i : Nat} {L : List Sm} (h : C[i]? = some L) : totC C = totC (C.take i) + (bitsL L).length + totC (C.drop (i + 1)) := by
 obtain ⟨h1, h2⟩ := List.getElem?_eq_some_iff.1 h
 conv => lhs; rw [← List.take_append_drop i C, List.drop_eq_getElem_cons h1, h2]
 rw [totC_app, show L :: C.drop (i + 1) = [L] ++ C.drop (i + 1) from rfl, totC_app, totC_one]
 omega
end Go.Proofs.YtmcdollkmlcpbaaGreatDoor
set_option linter.unusedSimpArgs false
set_option linter.unusedVariables false
namespace Go.Proofs.YtmcdollkmlcpbaaGreatDoor
open Go.Joins Go.ChangeShapes Go.WideShapes Go.RowKit Go.Deep
set_option maxRecDepth 100000
structure Pi where
 k : Nat
 fr : Nat
 bi : Nat
 fu : Bool
def encPi (x : Pi) : List Value := [.int .u8 ((x.k : Nat) : Int), .int .u8 ((x.fr : Nat) : Int), .int .u16 ((x.bi : Nat) : Int), .bool x.fu]
def OkPi (x : Pi) : Prop := x.k < 256 ∧ x.fr < 256 ∧ x.bi < 65536
theorem Tryz.eltPi : Tryz.prog.cellsOf 62 = 4 := by kernel_rfl
theorem Tryz.eCellsU16 : Tryz.prog.cellsOf 45 = 1 := by kernel_rfl
section
variable {H : Type} {ench : TypeId × Value → H} {W : World}
theorem ftrod_u16 {base n : Nat} {spare : Nat → Bool} {held : Bool} {c : Value} {y : DataW H × List MemPlace} (h : DataW.trod ench Tryz.prog W base spare held n 45 [c] = some y) : ∃ x : Nat, c = .int .u16 x ∧ x < 65536 := by
 obtain ⟨x, e, _, wx⟩ := DataW.trod_int Tryz.underlying45 h
 have hb := bounds_u16 wx
 simp at e
 exact ⟨x.toNat, by rw [e, Int.toNat_of_nonneg hb.1], by omega⟩
theorem open_pieces {b0 : Nat} {v : Value} {d : DataW H} {p : List MemPlace} (hv : Value.okWide Tryz.prog W .any b0 58 v) (h : DataW.Trod ench Tryz.prog W 0 (fun _ => true) true 58 v d p) :
  ∃ (V : Option Addr) (c : Nat) (l : List Pi), v = .slice V l.length c ∧ Rw W encPi 4 V l ∧ l.length ≤ maxLen ∧ ∀ x ∈ l, OkPi x := by
 obtain ⟨V, c, l, h1, h2, -, h4, h5⟩ := open_rows (enc := encPi) (sz := 4) (ok := fun o => OkPi o) Tryz.underlying58 Tryz.eltPi (by decide) (fun _ => rfl) (fun fuel cs x hl ht => by
  match cs, hl with
  | [c0, c1, c2, c3], _ =>
   obtain ⟨xs, m, _, _, _, hlen, hg⟩ := DataW.trod_struct Tryz.underlying62 ht
   obtain ⟨y0, h0⟩ := trodR hlen hg 0 rfl Tryz.fCellsU8
   obtain ⟨y1, h1⟩ := trodR hlen hg 1 rfl Tryz.fCellsU8
   obtain ⟨y2, h2⟩ := trodR hlen hg 2 rfl Tryz.eCellsU16
   obtain ⟨y3, h3⟩ := trodR hlen hg 3 rfl Tryz.fCellsB
   obtain ⟨a0, rfl, o0⟩ := ftrod_u8 h0
   obtain ⟨a1, rfl, o1⟩ := ftrod_u8 h1
   obtain ⟨a2, rfl, o2⟩ := ftrod_u16 h2
   obtain ⟨a3, rfl⟩ := ftrod_bool h3
   exact ⟨⟨a0, a1, a2, a3⟩, rfl, o0, o1, o2⟩) hv h
 exact ⟨V, c, l, h1, h2, h4, h5⟩
end
end Go.Proofs.YtmcdollkmlcpbaaGreatDoor
set_option linter.unusedSimpArgs false
set_option linter.unusedVariables false
namespace Go.Proofs.YtmcdollkmlcpbaaGreatDoor
open Go.RowKit
set_option maxRecDepth 100000
theorem cutGo_bits (L : List Sm) (a : Nat) (most : Int) : ∀ f c, cutGo L a most f c = c ∨ ((endN L (cutGo L a most f c) : Nat) : Int) - ((endN L a : Nat) : Int) ≤ most
 | 0, c => .inl rfl
 | f + 1, c => by
  unfold cutGo
  split
  ·rename_i h
   rcases cutGo_bits L a most f (c + 1) with h1 | h1
   ·rw [h1]; exact .inr h.2
   ·exact .inr h1
  ·exact .inl rfl
structure CutI (x : Nat) (C : CsT) (pc pb pn : Nat) (most : Int) (r : FrD × (Nat × Nat × Nat) × Nat) : Prop where
 er : r.2.2 = 0
 has : hasC C r.2.1.1 r.2.1.2.1 r.2.1.2.2 = true
 beh : behC C pc pb = behC C r.2.1.1 r.2.1.2.1 + r.1.n
 s1 : r.2.1.1 < 4294967296
 s2 : r.2.1.2.1 < 4294967296
 s3 : r.2.1.2.2 < 4294967296
 n0 : 0 ≤ r.1.n
 n1 : r.1.n ≤ 146000
 l1 : r.1.l.length ≤ 20000
theorem cut_endI {x : Nat} {C : CsT} {pc pb pn : Nat} {most : Int} (hh : hasC C pc pb pn = true) (h1 : pc < 4294967296) (h2 : pb < 4294967296) (h3 : pn < 4294967296) (he : (pc, pb, pn) = endC C) : cutF x C pc pb pn most = (zeroF, (pc, pb, pn), 0) ∧ CutI x C pc pb pn most (cutF x C pc pb pn most) := by
 have e : cutF x C pc pb pn most = (zeroF, (pc, pb, pn), 0) := by unfold cutF; rw [if_neg (by rw [hh]; decide), if_pos he]
 refine ⟨e, ?_⟩
 rw [e]
 exact ⟨rfl, hh, (Int.add_zero _).symm, h1, h2, h3, Int.le_refl _, (by decide : (0 : Int) ≤ 146000), Nat.zero_le _⟩
theorem cut_mainI {x : Nat} {C : CsT} (oc : OkC1 C) {pc pb pn : Nat} {most : Int} (hh : hasC C pc pb pn = true) (he : (pc, pb, pn) ≠ endC C) : CutI x C pc pb pn most (cutF x C pc pb pn most) ∧ (cutF x C pc pb pn most).1.fn = pn ∧ pn < (cutF x C pc pb pn most).1.cn ∧ ((cutF x C pc pb pn most).1.n ≤ max most 0 ∨ (cutF x C pc pb pn most).1.cn = pn + 1) ∧ (cutF x C pc pb pn most).1.cn ≤ 1000 := by
 obtain ⟨L, hL, hpl, hpe, hpl2⟩ := hasC_true hh
 have hpcl := (List.getElem?_eq_some_iff.1 hL).1
 have hplt : pn < L.length := by
  rcases Nat.lt_or_ge pn L.length with h1 | h1
  ·exact h1
  ·exfalso
   have h2 : ¬ pc + 1 < C.length := fun h3 => by have := hpl2 h3; omega
   have h4 : pc = C.length - 1 := by omega
   have h5 : lastL C = L := by unfold lastL; rw [List.getLast?_eq_getElem?, ← h4, hL]; rfl
   exact he (by unfold endC; rw [h5, hpe, ← h4, show pn = L.length by omega])
 have hm := List.mem_of_getElem? hL
 have hll := oc.lenL hm
 have hfew := oc.few
 have hbs := bits_small hll (oc.incL hm)
 unfold cutF
 rw [if_neg (by rw [hh]; decide), if_neg he, hL, Option.getD_some]
 obtain ⟨k, hk⟩ : ∃ k, k = cutTo L pn most := ⟨_, rfl⟩
 have hk1 : pn < k ∧ k ≤ L.length := by rw [hk]; exact cutTo_le hplt
 have hk2 : k = pn + 1 ∨ ((endN L k : Nat) : Int) - ((endN L pn : Nat) : Int) ≤ most := by rw [hk]; exact cutGo_bits L pn most _ _
 rw [← hk]
 have hcl := cutB_len L (i := pn) (j := k) (by omega)
 have hmo := endN_mono L (i := pn) (j := k) (by omega)
 have hle := endN_le L k
 have hts := totC_split hL
 have hp2 : (pack (cutB L pn k)).length ≤ 20000 := by rw [pack_length, hcl]; unfold nb; omega
 refine ⟨?_, rfl, hk1.1, ?_, by show k ≤ 1000; omega⟩
 ·by_cases hc : pc + 1 < C.length ∧ k = L.length
  ·have hcb : clB C pc k = true := by unfold clB; rw [hL]; exact decide_eq_true hc
   rw [hcb]
   obtain ⟨M, hM⟩ : ∃ M, C[pc + 1]? = some M := ⟨_, List.getElem?_eq_getElem hc.1⟩
   have hh2 := hasC_of (pn := 0) hM (Nat.zero_le _) (fun h3 => by
    have h4 : M ∈ C.dropLast := by
     have : C.dropLast[pc + 1]? = some M := by rw [List.dropLast_eq_take, List.getElem?_take_of_lt (by omega)]; exact hM
     exact List.mem_of_getElem? this
    exact List.length_pos_iff.2 (oc.full M h4))
   rw [endN_zero] at hh2
   have ht : totC (C.take (pc + 1)) = totC (C.take pc) + (bitsL L).length := by
    rw [List.take_add_one, hL, totC_app]
    show _ + totC [L] = _
    rw [totC_one]
   have hal := endN_all L
   refine ⟨rfl, hh2, ?_, by show pc + 1 < _; omega, (by decide : (0 : Nat) < 4294967296), (by decide : (0 : Nat) < 4294967296), ?_, ?_, hp2⟩
   ·show behC C pc pb = behC C (pc + 1) 0 + ((cutB L pn k).length : Nat)
    unfold behC
    rw [ht, hcl, hc.2, hal, hpe]
    rw [hc.2, hal] at hmo
    omega
   ·show (0 : Int) ≤ ((cutB L pn k).length : Nat); omega
   ·show ((cutB L pn k).length : Int) ≤ 146000; omega
  ·have hcb : clB C pc k = false := by unfold clB; rw [hL]; exact decide_eq_false hc
   rw [hcb]
   have hh2 := hasC_of (pn := k) hL hk1.2 (fun h3 => by
    rcases Nat.lt_or_ge k L.length with h4 | h4
    ·exact h4
    ·exact absurd ⟨h3, by omega⟩ hc)
   refine ⟨rfl, hh2, ?_, by show pc < _; omega, by show endN L k < _; omega, by show k < _; omega, ?_, ?_, hp2⟩
   ·show behC C pc pb = behC C pc (endN L k) + ((cutB L pn k).length : Nat)
    unfold behC
    rw [hcl, hpe]
    omega
   ·show (0 : Int) ≤ ((cutB L pn k).length : Nat); omega
   ·show ((cutB L pn k).length : Int) ≤ 146000; omega
 ·rcases hk2 with h1 | h1
  ·exact .inr h1
  ·left
   show ((cutB L pn k).length : Int) ≤ max most 0
   rw [hcl]
   omega
theorem has_first {C : CsT} (oc : OkC1 C) : hasC C 0 0 0 = true := by
 obtain ⟨L, hL⟩ : ∃ L, C[0]? = some L := ⟨_, List.getElem?_eq_getElem (List.length_pos_iff.2 oc.ne)⟩
 have := hasC_of (pn := 0) hL (Nat.zero_le _) (fun h3 => by
  have h4 : L ∈ C.dropLast := by
   have : C.dropLast[0]? = some L := by rw [List.dropLast_eq_take, List.getElem?_take_of_lt (by omega)]; exact hL
   exact List.mem_of_getElem? this
  exact List.length_pos_iff.2 (oc.full L h4))
 rw [endN_zero] at this
 exact this
section
variable {B : Nat} {w0 w w' : World} {q : Nat} {D : BD} {ts us : List Kt}
end
end Go.Proofs.YtmcdollkmlcpbaaGreatDoor
set_option linter.unusedSimpArgs false
set_option linter.unusedVariables false
namespace Go.Proofs.YtmcdollkmlcpbaaGreatDoor
open Go.RowKit
set_option maxRecDepth 100000
def ahC (C : CsT) (pc pn : Nat) : Nat := (C.take pc).flatten.length + pn
theorem flatC_at {C : CsT} {pc : Nat} {L : List Sm} (h : C[pc]? = some L) : (C.take pc).flatten.length + L.length ≤ C.flatten.length ∧ (C.take (pc + 1)).flatten.length = (C.take pc).flatten.length + L.length := by
 obtain ⟨h1, h2⟩ := List.getElem?_eq_some_iff.1 h
 have e : C = C.take pc ++ L :: C.drop (pc + 1) := by rw [← h2]; simp
 constructor
 ·conv => rhs; rw [e]
  rw [List.flatten_append, List.flatten_cons, List.length_append, List.length_append]
  omega
 ·rw [List.take_add_one, h, List.flatten_append, List.length_append]
  simp
end Go.Proofs.YtmcdollkmlcpbaaGreatDoor
set_option linter.unusedSimpArgs false
set_option linter.unusedVariables false
namespace Go.Proofs.YtmcdollkmlcpbaaGreatDoor
open Go.RowKit
set_option maxRecDepth 100000
def cutAt (C : CsT) (pc pn : Nat) : CsT := C.take pc ++ [((C[pc]?).getD []).take pn]
theorem cutAt_last (C : CsT) (pc pn : Nat) : lastL (cutAt C pc pn) = ((C[pc]?).getD []).take pn := by unfold cutAt lastL; simp
theorem cutAt_drop (C : CsT) (pc pn : Nat) : (cutAt C pc pn).dropLast = C.take pc := by unfold cutAt; simp
theorem cutAt_len {C : CsT} {pc : Nat} (h : pc ≤ C.length) (pn : Nat) : (cutAt C pc pn).length = pc + 1 := by
 unfold cutAt
 rw [List.length_append, List.length_take, List.length_singleton]
 omega
theorem cutAt_at {C : CsT} {pc : Nat} (h : pc ≤ C.length) (pn : Nat) : (cutAt C pc pn)[pc]? = some (((C[pc]?).getD []).take pn) := by
 unfold cutAt
 rw [List.getElem?_append_right (by rw [List.length_take]; omega), List.length_take, Nat.min_eq_left h, Nat.sub_self]
 rfl
theorem endN_take (L : List Sm) {i j : Nat} (h : i ≤ j) : endN (L.take j) i = endN L i := by
 unfold endN
 rw [List.take_take, Nat.min_eq_left h]
theorem cutAt_end {C : CsT} {pc pb pn : Nat} (hh : hasC C pc pb pn = true) : endC (cutAt C pc pn) = (pc, pb, pn) := by
 obtain ⟨L, hL, hpl, hpe, -⟩ := hasC_true hh
 have hpcl := (List.getElem?_eq_some_iff.1 hL).1
 unfold endC
 rw [cutAt_len (by omega), cutAt_last, hL, Option.getD_some, List.length_take, Nat.min_eq_left hpl, endN_take L (Nat.le_refl _), hpe]
 rfl
theorem cutAt_zero {C : CsT} (h : C ≠ []) : cutAt C 0 0 = [[]] := by unfold cutAt; simp
theorem cutAt_flat {C : CsT} {pc pb pn : Nat} (hh : hasC C pc pb pn = true) : (cutAt C pc pn).flatten = C.flatten.take (ahC C pc pn) := by
 obtain ⟨L, hL, hpl, -, -⟩ := hasC_true hh
 obtain ⟨h1, h2⟩ := List.getElem?_eq_some_iff.1 hL
 have e : C = C.take pc ++ L :: C.drop (pc + 1) := by rw [← h2]; simp
 have e2 : C.flatten = (C.take pc).flatten ++ (L ++ (C.drop (pc + 1)).flatten) := by
  conv => lhs; rw [e]
  rw [List.flatten_append, List.flatten_cons]
 have e3 : ([L.take pn] : CsT).flatten = L.take pn := by simp
 unfold cutAt ahC
 rw [hL, Option.getD_some, e2, List.flatten_append, e3, List.take_append, List.take_of_length_le (l := (C.take pc).flatten) (Nat.le_add_right _ _), Nat.add_sub_cancel_left, List.take_append_of_le_length hpl]
structure FolI (x : Nat) (C : CsT) (pc pn : Nat) (E : BD) (r : FrD × (Nat × Nat × Nat) × Nat) : Prop where
 fit : (fitD E r.1).1 = 0
 se : r.1.se = x
 ok : r.1.ok
 ll : r.1.l.length ≤ 1000
 data : takeD E r.1 = ⟨E.mo, E.ch, putM E.M x (cutAt C r.2.1.1 r.2.1.2.2)⟩
 has : hasC (cutAt C r.2.1.1 r.2.1.2.2) r.2.1.1 r.2.1.2.1 r.2.1.2.2 = true
 sum : sumC (cutAt C r.2.1.1 r.2.1.2.2) r.2.1.1 r.2.1.2.1 = sumC C r.2.1.1 r.2.1.2.1
theorem has_cutAt {C : CsT} {pc pb pn : Nat} (hh : hasC C pc pb pn = true) : hasC (cutAt C pc pn) pc pb pn = true ∧ sumC (cutAt C pc pn) pc pb = sumC C pc pb := by
 obtain ⟨L, hL, hpl, hpe, -⟩ := hasC_true hh
 have hpcl := (List.getElem?_eq_some_iff.1 hL).1
 have hat := cutAt_at (C := C) (pc := pc) (by omega) pn
 rw [hL, Option.getD_some] at hat
 constructor
 ·have := hasC_of (pn := pn) hat (by rw [List.length_take]; omega) (fun h => by rw [cutAt_len (by omega)] at h; omega)
  rw [endN_take L (Nat.le_refl _), ← hpe] at this
  exact this
 ·rw [sumC_at hat, sumC_at hL, hpe, ← bitsL_take, ← endN_take L (Nat.le_refl pn), ← bitsL_take, List.take_take, Nat.min_self]
end Go.Proofs.YtmcdollkmlcpbaaGreatDoor
set_option linter.unusedSimpArgs false
set_option linter.unusedVariables false
namespace Go.Proofs.YtmcdollkmlcpbaaGreatDoor
open Go.RowKit
set_option maxRecDepth 100000
theorem nodup_subR : ∀ (l K : List Nat), l.Nodup → (∀ x ∈ l, x ∈ K) → l.length ≤ K.length
 | [], K, _, _ => Nat.zero_le _
 | a :: l, K, hn, hs => by
  rw [List.nodup_cons] at hn
  have ha := hs a List.mem_cons_self
  have h1 := nodup_subR l (K.erase a) hn.2 (fun x hx => (List.mem_erase_of_ne (fun e => hn.1 (by rw [← e]; exact hx))).2 (hs x (List.mem_cons_of_mem _ hx)))
  rw [List.length_erase_of_mem ha] at h1
  have h2 := List.length_pos_of_mem ha
  rw [List.length_cons]
  omega
theorem key_ofR {D : BD} {x pc pb pn : Nat} (h : hasC (D.at_ x) pc pb pn = true) (he : (pc, pb, pn) ≠ endC (D.at_ x)) : (lookM D.M x).isSome := by
 unfold BD.at_ at h he
 cases hl : lookM D.M x with
 | some C => rfl
 | none =>
  rw [hl] at h he
  obtain ⟨L, hL, h1, h2, -⟩ := hasC_true h
  simp only [Option.getD_none] at hL
  have h3 := (List.getElem?_eq_some_iff.1 hL).1
  simp only [List.length_singleton] at h3
  have h4 : pc = 0 := by omega
  subst h4
  simp only [List.getElem?_cons_zero, Option.some.injEq] at hL
  subst hL
  have h5 : pn = 0 := by simpa using h1
  subst h5
  exact absurd (by rw [h2]; rfl) he
theorem encX_posR (s : XV) (v : Nat) : 1 ≤ (encX s v).1.length := by
 unfold encX
 split
 ·show 1 ≤ (valB v 64).length
  rw [valB_length]
  decide
 ·split
  ·exact Nat.le_refl _
  ·split
   ·show 1 ≤ (_ :: _).length
    rw [List.length_cons]; omega
   ·show 1 ≤ (_ :: _).length
    rw [List.length_cons]; omega
theorem endN_ltR {L : List Sm} {i j : Nat} (h : i < j) (hj : j ≤ L.length) : endN L i < endN L j := by
 have h1 := endN_mono L (i := i + 1) (j := j) h
 have h2 : L.take (i + 1) = L.take i ++ [L[i]] := by rw [List.take_succ_eq_append_getElem (by omega)]
 have h3 : endN L (i + 1) = endN L i + ((encC (lastC ec0 (L.take i)) L[i].1 L[i].2).1).length := by
  unfold endN bitsL
  rw [h2, codesC_snoc, List.length_append]
 have h4 : 1 ≤ ((encC (lastC ec0 (L.take i)) L[i].1 L[i].2).1).length := by
  unfold encC
  have := encX_posR (lastC ec0 (L.take i)).val L[i].2
  rw [List.length_append]
  omega
 omega
structure FrtD (D E : BD) : Prop where
 mo : E.mo = 64
 ch : E.ch = 24
 ok : OkD E
 key : ∀ p ∈ E.M, (lookM D.M p.1).isSome
 at_ : ∀ x, ∃ pc pb pn, hasC (D.at_ x) pc pb pn = true ∧ E.at_ x = cutAt (D.at_ x) pc pn
theorem FrtD.new {D : BD} (hD : OkD D) : FrtD D ⟨64, 24, []⟩ :=
 ⟨rfl, rfl, okD_new 64 24 (by decide) (by decide) (by decide) (by decide), fun p h => (by cases h), fun x => ⟨0, 0, 0, has_first (hD.at_ x), (cutAt_zero (hD.at_ x).ne).symm⟩⟩
theorem FrtD.full {D E : BD} (h : FrtD D E) (hD : OkD D) {x : Nat} (hx : (lookM D.M x).isSome) : fullD E x = false := by
 unfold fullD
 rw [decide_eq_false_iff_not]
 rintro ⟨h1, h2⟩
 rw [h.mo] at h2
 have h3 := nodup_subR (x :: E.M.map Prod.fst) (D.M.map Prod.fst) (List.nodup_cons.2 ⟨fun hm => by
  obtain ⟨p, hp, e⟩ := List.mem_map.1 hm
  exact lookM_none.1 (by simpa using h1) p hp e, h.ok.nd⟩) (fun y hy => by
  have hk : ∀ y, (lookM D.M y).isSome → y ∈ D.M.map Prod.fst := fun y hy => by
   obtain ⟨a, ha⟩ := Option.isSome_iff_exists.1 hy
   exact List.mem_map_of_mem (f := Prod.fst) (lookM_mem ha)
  rcases List.mem_cons.1 hy with rfl | hy
  ·exact hk _ hx
  ·obtain ⟨p, hp, rfl⟩ := List.mem_map.1 hy
   exact hk _ (h.key p hp))
 rw [List.length_cons, List.length_map, List.length_map] at h3
 have h4 := hD.few
 have h5 := hD.mo2
 omega
theorem fol_gen {x : Nat} {C : CsT} (oc : OkC1 C) (hx : x < 4294967296) (h24 : ∀ L ∈ C, L.length ≤ 24) {pc pb pn qb qn : Nat} {most : Int} (hh : hasC C pc pb pn = true) (he : (pc, pb, pn) ≠ endC C) (hq : hasC C pc qb qn = true) (hs : (pb, pn) = (qb, qn) ∨ (pb, pn) = (0, 0)) {E : BD} (hE : E.at_ x = cutAt C pc qn) (hch : E.ch = 24) (hfu : fullD E x = false) :
  FolI x C pc pn E (cutF x C pc pb pn most) ∧ mayN (noF (cutF x C pc pb pn most).1) = true := by
 have hCI := (cut_mainI (x := x) (most := most) oc hh he).1
 obtain ⟨L, hL, hpl, hpe, hpl2⟩ := hasC_true hh
 have hpcl := (List.getElem?_eq_some_iff.1 hL).1
 have hplt : pn < L.length := by
  rcases Nat.lt_or_ge pn L.length with h1 | h1
  ·exact h1
  ·exfalso
   have h2 : ¬ pc + 1 < C.length := fun h3 => by have := hpl2 h3; omega
   have h4 : pc = C.length - 1 := by omega
   have h5 : lastL C = L := by unfold lastL; rw [List.getLast?_eq_getElem?, ← h4, hL]; rfl
   exact he (by unfold endC; rw [h5, hpe, ← h4, show pn = L.length by omega])
 have hm := List.mem_of_getElem? hL
 have hl24 := h24 L hm
 have hinc := oc.incL hm
 have hfew := oc.few
 have hsum : sumC C pc pb < 18446744073709551616 := by
  unfold sumC
  have := moreR_lt 0 ((bitsL ((C[pc]?).getD [])).take pb)
  omega
 obtain ⟨r, hr⟩ : ∃ r, r = cutF x C pc pb pn most := ⟨_, rfl⟩
 rw [← hr] at hCI ⊢
 unfold cutF at hr
 rw [if_neg (by rw [hh]; decide), if_neg he, hL, Option.getD_some] at hr
 obtain ⟨k, hk⟩ : ∃ k, k = cutTo L pn most := ⟨_, rfl⟩
 have hk1 : pn < k ∧ k ≤ L.length := by rw [hk]; exact cutTo_le hplt
 rw [← hk] at hr
 have hcl := cutB_len L (i := pn) (j := k) (by omega)
 have hbk : (bitsL L).length ≤ 146 * L.length := (rows_ok L ec0 ok0 (Int.le_refl _) (by show (0 : Int) + _ ≤ _; omega) hinc).2.2.1
 have hle := endN_le L k
 have hlt := endN_ltR hk1.1 hk1.2
 obtain ⟨cb, hcb⟩ : ∃ cb, cb = clB C pc k := ⟨_, rfl⟩
 rw [← hcb] at hr
 unfold clB at hcb
 rw [hL, Option.getD_some] at hcb
 have hinck : InC (L.take k) := fun s hs => hinc s (List.mem_of_mem_take hs)
 have hrise : RiseC ec0 (L.take k) := rise_of hinck ((oc.riseL hm).sublist (List.take_sublist k L)) (by rw [List.length_take]; omega)
 have hall : allC (pack (bitsL (L.take k))) (((bitsL (L.take k)).length : Nat) : Int) = (rcS 0 ec0 (L.take k), 0) := allC_laid hinck hrise (by rw [List.length_take]; omega)
 have hold : oldC (cutAt C pc qn) r.1 = some (bitsL (L.take pn)) := by
  unfold oldC
  rw [cutAt_end hq, cutAt_last, hL, Option.getD_some, hr]
  dsimp only
  rcases hs with hs | hs
  ·injection hs with h1 h2
   subst h1 h2
   rw [if_pos rfl]
  ·injection hs with h1 h2
   subst h1 h2
   by_cases hz : (pc, 0, 0) = (pc, qb, qn)
   ·rw [if_pos hz]
    injection hz with _ hz
    injection hz with _ hz
    rw [← hz]
   ·rw [if_neg hz, cutAt_len (by omega), Nat.add_sub_cancel, if_pos rfl]
    rfl
 have hfitE : fitD E r.1 = (0, L.take k) := by
  unfold fitD
  have hse : r.1.se = x := by rw [hr]
  rw [hse, hfu, if_neg (by decide), hE, hch]
  unfold fitC
  rw [hold]
  show fitJ _ _ _ _ = _
  have hl : r.1.l = pack (cutB L pn k) := by rw [hr]
  have hn : r.1.n = ((cutB L pn k).length : Nat) := by rw [hr]
  have hcn : r.1.cn = k := by rw [hr]
  have hfn : r.1.fn = pn := by rw [hr]
  unfold fitJ
  rw [hl, hn, if_neg (by rw [sound_pack]; decide), Int.toNat_natCast, bits_pack, cutB_join L (by omega), hall]
  unfold fitR
  have hop : opensB (cutAt C pc qn) (((rcS 0 ec0 (L.take k)).map smpR).head?.getD (0, 0)).1 = true := by
   rw [rcS_smp]
   cases hg : (cutAt C pc qn).dropLast.flatten.getLast? with
   | none => exact opensB_none hg
   | some y =>
    rw [opensB_some hg, decide_eq_true_eq]
    rw [cutAt_drop] at hg
    have hy : y ∈ (C.take pc).flatten := List.mem_of_getLast? hg
    obtain ⟨s, L', rfl⟩ : ∃ s L', L = s :: L' := by
     cases L with
     | nil => cases hplt
     | cons s L' => exact ⟨s, L', rfl⟩
    obtain ⟨k', rfl⟩ : ∃ k', k = k' + 1 := ⟨k - 1, by omega⟩
    have hs : (s :: L').take (k' + 1) = s :: L'.take k' := rfl
    rw [hs]
    show y.1 < s.1
    have h2 := (List.getElem?_eq_some_iff.1 hL).2
    have e : C = C.take pc ++ (s :: L') :: C.drop (pc + 1) := by rw [← h2]; simp
    have hr2 := oc.rise
    rw [e, List.flatten_append, List.flatten_cons] at hr2
    exact (List.pairwise_append.1 hr2).2.2 y hy s (by simp)
  rw [if_pos ⟨rfl, by rw [rcS_length, List.length_take, hcn]; omega, by rw [hfn, hcn]; omega, by rw [rcS_length, List.length_take]; omega, hop⟩, rcS_smp]
 refine ⟨⟨by rw [hfitE], by rw [hr], ?_, ?_, ?_, ?_, ?_⟩, ?_⟩
 ·rw [hr]
  refine ⟨by show 0 < 256; decide, by show 0 < 4294967296; decide, hx, by show pc < _; omega, ?_, by show pn < _; omega, by show k < _; omega, hsum, ?_, ?_⟩
  ·show pb < _
   have := endN_le L pn
   omega
  ·show (-9223372036854775808 : Int) ≤ ((cutB L pn k).length : Nat); omega
  ·show ((cutB L pn k).length : Int) ≤ 9223372036854775807; omega
 ·rw [hr]
  show (pack (cutB L pn k)).length ≤ 1000
  rw [pack_length]
  unfold nb
  omega
 ·unfold takeD
  rw [hfitE, if_pos rfl, show r.1.se = x by rw [hr], hE, show r.1.cl = cb by rw [hr]]
  congr 2
  unfold setLast
  rw [cutAt_drop]
  cases hc : cb
  ·have h1 : r.2.1.1 = pc := by rw [hr, hc]; rfl
   have h2 : r.2.1.2.2 = k := by rw [hr, hc]; rfl
   rw [h1, h2]
   unfold cutAt
   rw [hL]
   rfl
  ·have h1 : r.2.1.1 = pc + 1 := by rw [hr, hc]; rfl
   have h2 : r.2.1.2.2 = 0 := by rw [hr, hc]; rfl
   rw [h1, h2]
   rw [hc] at hcb
   have hcb2 := of_decide_eq_true hcb.symm
   unfold cutAt
   rw [hcb2.2, List.take_length, List.take_succ_eq_append_getElem hpcl, (List.getElem?_eq_some_iff.1 hL).2]
   simp
 ·exact (has_cutAt hCI.has).1
 ·exact (has_cutAt hCI.has).2
 ·rw [hr]
  show mayN ⟨4, 0, x, 0, 0, pc, pb, pn, k, cb, pack (cutB L pn k), ((cutB L pn k).length : Nat)⟩ = true
  have h1 : (pack (cutB L pn k)).length ≤ 500 := by rw [pack_length]; unfold nb; omega
  unfold mayN bringN
  simp only [sound_pack, h1, hk1.1, decide_true, Bool.and_true, Bool.and_eq_true, decide_eq_true_eq]
  simp
  omega
end Go.Proofs.YtmcdollkmlcpbaaGreatDoor
set_option linter.unusedSimpArgs false
set_option linter.unusedVariables false
namespace Go.Proofs.YtmcdollkmlcpbaaGreatDoor
open Go.RowKit
set_option maxRecDepth 100000
theorem sumC_ltR (C : CsT) (pc pb : Nat) : sumC C pc pb < 18446744073709551616 := by
 unfold sumC
 have := moreR_lt 0 ((bitsL ((C[pc]?).getD [])).take pb)
 omega
section
variable {B : Nat} {w0 w w' : World} {r q ep : Nat} {D : BD} {ts us : List Kt}
end
end Go.Proofs.YtmcdollkmlcpbaaGreatDoor
set_option linter.unusedSimpArgs false
set_option linter.unusedVariables false
namespace Go.Proofs.YtmcdollkmlcpbaaGreatDoor
open Go.RowKit
set_option maxRecDepth 100000
def startP (fu : Bool) (p : Nat × Nat × Nat) : Nat × Nat × Nat := if fu then (p.1, 0, 0) else p
def sentF (x : Nat) (C : CsT) (p : Nat × Nat × Nat) (most : Int) (fu : Bool) : FrD :=
 let f := (cutF x C (startP fu p).1 (startP fu p).2.1 (startP fu p).2.2 most).1
 ⟨if fu then 3 else 2, f.ep, f.se, f.fc, f.fb, f.fn, f.cn, f.cl, if fu then 0 else f.sm, f.l, f.n⟩
theorem start_has {C : CsT} (oc : OkC1 C) {p : Nat × Nat × Nat} (h : hasC C p.1 p.2.1 p.2.2 = true) (fu : Bool) : hasC C (startP fu p).1 (startP fu p).2.1 (startP fu p).2.2 = true := by
 cases fu with
 | false => exact h
 | true =>
  obtain ⟨L, hL, -, -, h4⟩ := hasC_true h
  exact hasC_of (pn := 0) hL (Nat.zero_le _) (fun h5 => by have := h4 h5; omega)
theorem cut_to {x : Nat} {C : CsT} {pc pb pn : Nat} {most : Int} (hh : hasC C pc pb pn = true) (he : (pc, pb, pn) ≠ endC C) :
  ((cutF x C pc pb pn most).1.se = x ∧ (cutF x C pc pb pn most).1.ep = 0 ∧ (cutF x C pc pb pn most).1.fc = pc ∧ (cutF x C pc pb pn most).1.fb = pb ∧ (cutF x C pc pb pn most).1.fn = pn ∧ (cutF x C pc pb pn most).1.sm = sumC C pc pb) ∧
  (((cutF x C pc pb pn most).2.1.1 = pc ∧ (cutF x C pc pb pn most).2.1.2.2 = (cutF x C pc pb pn most).1.cn) ∨ ((cutF x C pc pb pn most).2.1.1 = pc + 1 ∧ (cutF x C pc pb pn most).2.1.2.2 = 0 ∧ ∃ L, C[pc]? = some L ∧ (cutF x C pc pb pn most).1.cn = L.length)) := by
 obtain ⟨L, hL, -, -, -⟩ := hasC_true hh
 unfold cutF
 rw [if_neg (by rw [hh]; decide), if_neg he, hL, Option.getD_some]
 refine ⟨⟨rfl, rfl, rfl, rfl, rfl, rfl⟩, ?_⟩
 dsimp only
 cases hc : clB C pc (cutTo L pn most) with
 | false => exact .inl ⟨rfl, rfl⟩
 | true =>
  unfold clB at hc
  rw [hL, Option.getD_some, decide_eq_true_eq] at hc
  exact .inr ⟨rfl, rfl, L, rfl, hc.2⟩
structure SntI (D E : BD) (x : Nat) (f : FrD) : Prop where
 ok : f.ok
 ll : f.l.length ≤ 1000
 fit : (fitD E (frN (noF f))).1 = 0
 frt : FrtD D (takeD E (frN (noF f)))
 len : (E.at_ x).flatten.length ≤ ((takeD E (frN (noF f))).at_ x).flatten.length
 nok : (noF f).ok
 past : f.fc < (endC ((takeD E (frN (noF f))).at_ x)).1 ∨ f.fc = (endC ((takeD E (frN (noF f))).at_ x)).1 ∧ f.fn < (endC ((takeD E (frN (noF f))).at_ x)).2.2 ∧ f.cn ≤ (endC ((takeD E (frN (noF f))).at_ x)).2.2
theorem atD_put (D : BD) (x y : Nat) (G : CsT) : (⟨D.mo, D.ch, putM D.M x G⟩ : BD).at_ y = if y = x then G else D.at_ y := by
 unfold BD.at_
 show (lookM (putM D.M x G) y).getD [[]] = _
 rw [look_put]
 split <;> rfl
theorem sent_zero {x : Nat} {C : CsT} {p : Nat × Nat × Nat} {most : Int} {fu : Bool} (hh : hasC C (startP fu p).1 (startP fu p).2.1 (startP fu p).2.2 = true) (he : startP fu p = endC C) : sentF x C p most fu = ⟨if fu then 3 else 2, 0, 0, 0, 0, 0, 0, false, 0, [], 0⟩ := by
 unfold sentF cutF
 rw [if_neg (by rw [hh]; decide), if_pos he]
 cases fu <;> rfl
theorem sent_main {D E : BD} (hD : OkD D) (h24 : ∀ x, ∀ L ∈ D.at_ x, L.length ≤ 24) (hs60 : ∀ x, (D.at_ x).flatten.length ≤ 60) (hF : FrtD D E) {x : Nat} (hx : x < 4294967296) {p : Nat × Nat × Nat} (hp : hasC (D.at_ x) p.1 p.2.1 p.2.2 = true) (most : Int) (fu : Bool) :
  (reactF E (sentF x (D.at_ x) p most fu) = 1 → SntI D E x (sentF x (D.at_ x) p most fu) ∧ (sentF x (D.at_ x) p most fu).se = x) ∧
  ((sentF x (D.at_ x) p most fu).cn ≠ 0 → reactF E (sentF x (D.at_ x) p most fu) ≠ 0 ∧ reactF E (sentF x (D.at_ x) p most fu) ≤ 3) := by
 have hh := start_has (hD.at_ x) hp fu
 by_cases he : startP fu p = endC (D.at_ x)
 ·rw [sent_zero hh he]
  constructor
  ·intro hr
   exfalso
   have hm : mayN (noF ⟨if fu then 3 else 2, 0, 0, 0, 0, 0, 0, false, 0, [], 0⟩) = false := by
    unfold mayN noF bringN
    simp
   unfold reactF takF at hr
   rw [hm] at hr
   simp only [Bool.false_eq_true, false_and, if_false] at hr
   repeat' split at hr
   all_goals omega
  ·intro h
   exact absurd rfl h
 ·obtain ⟨qc, qb, qn, hq, hE⟩ := hF.at_ x
  obtain ⟨⟨pc, pb, pn⟩, hP⟩ : ∃ P, P = startP fu p := ⟨_, rfl⟩
  rw [← hP] at hh he
  dsimp only at hh
  have hct := cut_to (x := x) (most := most) hh he
  have hcm := cut_mainI (x := x) (most := most) (hD.at_ x) hh he
  have hkey := key_ofR hh he
  have hfu := hF.full hD hkey
  have hend : endC (E.at_ x) = (qc, qb, qn) := by rw [hE]; exact cutAt_end hq
  have hsm : sumE (E.at_ x) = sumC (D.at_ x) qc qb := by
   unfold sumE
   rw [hend, hE]
   exact (has_cutAt hq).2
  obtain ⟨r, hr⟩ : ∃ r, r = cutF x (D.at_ x) pc pb pn most := ⟨_, rfl⟩
  have hsf : sentF x (D.at_ x) p most fu = ⟨if fu then 3 else 2, r.1.ep, r.1.se, r.1.fc, r.1.fb, r.1.fn, r.1.cn, r.1.cl, if fu then 0 else r.1.sm, r.1.l, r.1.n⟩ := by
   unfold sentF
   rw [← hP, hr]
  have hgen := fun (hpc : pc = qc) (hs : (pb, pn) = (qb, qn) ∨ (pb, pn) = (0, 0)) => fol_gen (x := x) (most := most) (hD.at_ x) hx (h24 x) hh he (by rw [hpc]; exact hq) hs (by rw [hpc]; exact hE) hF.ch hfu
  rw [← hr] at hct hcm hgen
  rw [hsf]
  obtain ⟨⟨t1, t2, t3, t4, t5, t6⟩, t7⟩ := hct
  have tk : ∀ (k s : Nat), takF E ⟨k, r.1.ep, r.1.se, r.1.fc, r.1.fb, r.1.fn, r.1.cn, r.1.cl, s, r.1.l, r.1.n⟩ = takF E r.1 := fun k s => rfl
  have hta : pc = qc → (pb, pn) = (qb, qn) ∨ (pb, pn) = (0, 0) → qn ≤ r.1.cn → takF E r.1 = 1 ∧ ∀ k s, k < 256 → s < 18446744073709551616 → SntI D E x ⟨k, r.1.ep, r.1.se, r.1.fc, r.1.fb, r.1.fn, r.1.cn, r.1.cl, s, r.1.l, r.1.n⟩ := by
   intro hpc hs hqn
   obtain ⟨hg, hmay⟩ := hgen hpc hs
   refine ⟨by unfold takF; rw [if_pos ⟨hmay, hg.fit⟩], fun k s hk hs2 => ?_⟩
   have hok := hg.ok
   have hd : takeD E (frN (noF ⟨k, r.1.ep, r.1.se, r.1.fc, r.1.fb, r.1.fn, r.1.cn, r.1.cl, s, r.1.l, r.1.n⟩)) = ⟨E.mo, E.ch, putM E.M x (cutAt (D.at_ x) r.2.1.1 r.2.1.2.2)⟩ := hg.data
   have hat := atD_put E x x (cutAt (D.at_ x) r.2.1.1 r.2.1.2.2)
   rw [if_pos rfl] at hat
   have hto := hcm.1.has
   have hen : endC ((⟨E.mo, E.ch, putM E.M x (cutAt (D.at_ x) r.2.1.1 r.2.1.2.2)⟩ : BD).at_ x) = (r.2.1.1, r.2.1.2.1, r.2.1.2.2) := by rw [hat]; exact cutAt_end hto
   have hle : (E.at_ x).flatten.length + 24 ≤ 1000 := by
    rw [hE, cutAt_flat hq, List.length_take]
    have := hs60 x
    omega
   have hof : OkD (takeD E (frN (noF ⟨k, r.1.ep, r.1.se, r.1.fc, r.1.fb, r.1.fn, r.1.cn, r.1.cl, s, r.1.l, r.1.n⟩))) := hF.ok.take (f := frN (noF ⟨k, r.1.ep, r.1.se, r.1.fc, r.1.fb, r.1.fn, r.1.cn, r.1.cl, s, r.1.l, r.1.n⟩)) (show r.1.se < _ from hok.2.2.1) hg.ll (show (E.at_ r.1.se).flatten.length + 24 ≤ 1000 by rw [t1]; exact hle)
   refine ⟨⟨hk, hok.2.1, hok.2.2.1, hok.2.2.2.1, hok.2.2.2.2.1, hok.2.2.2.2.2.1, hok.2.2.2.2.2.2.1, hs2, hok.2.2.2.2.2.2.2.2⟩, hg.ll, hg.fit, ?_, ?_, ?_, ?_⟩
   ·rw [hd] at hof ⊢
    refine ⟨hF.mo, hF.ch, hof, fun q hq2 => ?_, fun y => ?_⟩
    ·rcases mem_put hq2 with rfl | hq2
     ·exact hkey
     ·exact hF.key q hq2
    ·rw [atD_put]
     split
     ·rename_i e
      subst e
      exact ⟨_, _, _, hto, rfl⟩
     ·exact hF.at_ y
   ·rw [hd, hat, hE, cutAt_flat hq, cutAt_flat hto, List.length_take, List.length_take]
    have h1 : ahC (D.at_ x) qc qn ≤ ahC (D.at_ x) r.2.1.1 r.2.1.2.2 := by
     unfold ahC
     rcases t7 with ⟨a1, a2⟩ | ⟨a1, a2, L, a3, a4⟩
     ·rw [a1, a2, ← hpc]
      omega
     ·rw [a1, a2, (flatC_at a3).2, ← hpc]
      omega
    omega
   ·exact ⟨by show 4 < 256; decide, by show 0 < _; decide, hok.2.2.1, ⟨by show (-9223372036854775808 : Int) ≤ 0; decide, by show (0 : Int) ≤ 9223372036854775807; decide⟩, by show 0 < _; decide, hok.2.2.2.1, hok.2.2.2.2.1, hok.2.2.2.2.2.1, hok.2.2.2.2.2.2.1, hok.2.2.2.2.2.2.2.2⟩
   ·rw [hd, hen]
    show r.1.fc < r.2.1.1 ∨ r.1.fc = r.2.1.1 ∧ r.1.fn < r.2.1.2.2 ∧ r.1.cn ≤ r.2.1.2.2
    have h1 := hcm.2.2.1
    rcases t7 with ⟨a1, a2⟩ | ⟨a1, a2, L, a3, a4⟩
    ·right
     rw [a1, a2, t3, t5]
     exact ⟨rfl, h1, Nat.le_refl _⟩
    ·left
     rw [a1, t3]
     omega
  have hsl : sumC (D.at_ x) pc pb < 18446744073709551616 := sumC_ltR _ _ _
  cases fu with
  | false =>
   simp only [Bool.false_eq_true, if_false]
   unfold reactF
   dsimp only
   rw [if_neg (by decide), tk, t1, t3, t4, t5, hend, hsm, t6]
   by_cases h1 : (pc, pb, pn) = (qc, qb, qn)
   ·rw [if_pos h1]
    injection h1 with h2 h3
    injection h3 with h3 h4
    rw [if_pos (by rw [h2, h3])]
    obtain ⟨a, b⟩ := hta h2 (.inl (by rw [h3, h4])) (by have := hcm.2.2.1; omega)
    have b2 := b 2 (sumC (D.at_ x) pc pb) (by decide) hsl
    rw [t1, t3, t4, t5] at b2
    rw [a]
    exact ⟨fun _ => ⟨b2, rfl⟩, fun _ => ⟨by decide, by decide⟩⟩
   ·rw [if_neg h1]
    split
    ·exact ⟨fun e => absurd e (by decide), fun _ => ⟨by decide, by decide⟩⟩
    ·exact ⟨fun e => absurd e (by decide), fun _ => ⟨by decide, by decide⟩⟩
  | true =>
   simp only [if_true]
   unfold reactF
   dsimp only
   rw [if_pos rfl, tk, t1, t3, hend]
   dsimp only
   have h00 : (pb, pn) = (0, 0) := by
    unfold startP at hP
    simp only [if_true] at hP
    injection hP with _ h
   split
   ·exact ⟨fun e => absurd e (by decide), fun _ => ⟨by decide, by decide⟩⟩
   ·rename_i hno
    split
    ·rename_i h2
     obtain ⟨a, b⟩ := hta h2 (.inr h00) (by omega)
     have b2 := b 3 0 (by decide) (by decide)
     rw [t1, t3] at b2
     rw [a]
     exact ⟨fun _ => ⟨b2, rfl⟩, fun _ => ⟨by decide, by decide⟩⟩
    ·exact ⟨fun e => absurd e (by decide), fun _ => ⟨by decide, by decide⟩⟩
end Go.Proofs.YtmcdollkmlcpbaaGreatDoor
set_option linter.unusedSimpArgs false
set_option linter.unusedVariables false
namespace Go.Proofs.YtmcdollkmlcpbaaGreatDoor
open Go.RowKit
set_option maxRecDepth 100000
def SntO (w : World) (D : BD) (T : List Se) (x : Pi) (e : Ending) (w' : World) : Prop := ∃ (z : Se) (p : Nat × Nat × Nat) (A' : Option Addr) (c' : Nat), z ∈ T ∧ hasC (D.at_ z.id) p.1 p.2.1 p.2.2 = true ∧ e = .returned (.agg (frC (sentF z.id (D.at_ z.id) p (x.bi : Nat) x.fu) A' c')) ∧ OwnB w' w.heap.size (.slice A' (sentF z.id (D.at_ z.id) p (x.bi : Nat) x.fu).l.length c') (sentF z.id (D.at_ z.id) p (x.bi : Nat) x.fu).l ∧ Below w.heap.size w w'
theorem cut_next {x : Nat} {C : CsT} (oc : OkC1 C) {p : Nat × Nat × Nat} {most : Int} (hh : hasC C p.1 p.2.1 p.2.2 = true) (h1 : p.1 < 4294967296) (h2 : p.2.1 < 4294967296) (h3 : p.2.2 < 4294967296) :
  (cutF x C p.1 p.2.1 p.2.2 most).2.2 = 0 ∧ hasC C (cutF x C p.1 p.2.1 p.2.2 most).2.1.1 (cutF x C p.1 p.2.1 p.2.2 most).2.1.2.1 (cutF x C p.1 p.2.1 p.2.2 most).2.1.2.2 = true ∧ ((cutF x C p.1 p.2.1 p.2.2 most).2.1.1 < 4294967296 ∧ (cutF x C p.1 p.2.1 p.2.2 most).2.1.2.1 < 4294967296 ∧ (cutF x C p.1 p.2.1 p.2.2 most).2.1.2.2 < 4294967296) := by
 by_cases he : (p.1, p.2.1, p.2.2) = endC C
 ·have h := (cut_endI (x := x) (most := most) hh h1 h2 h3 he).2
  exact ⟨h.er, h.has, h.s1, h.s2, h.s3⟩
 ·have h := (cut_mainI (x := x) (most := most) oc hh he).1
  exact ⟨h.er, h.has, h.s1, h.s2, h.s3⟩
theorem start_ok {p : Nat × Nat × Nat} (fu : Bool) (h1 : p.1 < 4294967296) (h2 : p.2.1 < 4294967296) (h3 : p.2.2 < 4294967296) : (startP fu p).1 < 4294967296 ∧ (startP fu p).2.1 < 4294967296 ∧ (startP fu p).2.2 < 4294967296 := by
 cases fu
 ·exact ⟨h1, h2, h3⟩
 ·exact ⟨h1, (by show (0 : Nat) < 4294967296; decide), (by show (0 : Nat) < 4294967296; decide)⟩
set_option maxHeartbeats 16000000 in
theorem sent_any {B : Nat} {w0 w : World} {q : Nat} {D : BD} {us : List Kt} (h : Bk B w0 w q D us) {A : Option Addr} {tn cc : Nat} {T : List Se} (hm : thR 54 encSe 2 (.slice A tn cc) T ∈ us) (htn : tn = T.length) (ht0 : 0 < tn) (ht64 : tn ≤ 64) (hid : ∀ z ∈ T, z.id < 4294967296) (x : Pi) (hx : OkPi x) :
  Calls Tryz.prog 17 #[ptB q, .slice A tn cc, .agg #[.int .u8 ((x.k : Nat) : Int), .int .u8 ((x.fr : Nat) : Int), .int .u16 ((x.bi : Nat) : Int), .bool x.fu]] w (SntO w D T x) := by
 have hmx : Tryz.prog.follows .mixedOrders = true := by kernel_rfl
 obtain ⟨xk, xf, xb, xu⟩ := x
 obtain ⟨hx1, hx2, hx3⟩ := hx
 dsimp only at hx1 hx2 hx3 ⊢
 obtain ⟨W, hW⟩ : ∃ W, W = (w.alloc (.cells #[.int .u8 xk, .int .u8 xf, .int .u16 xb, .bool xu] 62)).alloc (.cells #[.int .u8 0, .int .u32 0, .int .u32 0, .int .u32 0, .int .u32 0, .int .u32 0, .int .u32 0, .bool false, .int .u64 0, .slice none 0 0, .int .i64 0] 39) := ⟨_, rfl⟩
 obtain ⟨g5, hg5⟩ : ∃ g, g = w.heap.size := ⟨_, rfl⟩
 obtain ⟨g6, hg6⟩ : ∃ g, g = w.heap.size + 1 := ⟨_, rfl⟩
 have hS : Sep w.heap.size w W (thB g6 39 #[.int .u8 0, .int .u32 0, .int .u32 0, .int .u32 0, .int .u32 0, .int .u32 0, .int .u32 0, .bool false, .int .u64 0, .slice none 0 0, .int .i64 0] :: thB g5 62 #[.int .u8 xk, .int .u8 xf, .int .u16 xb, .bool xu] :: []) := by
  have h := (((Sep.nil (Below.refl w.heap.size w) (Nat.le_refl _)).box #[.int .u8 xk, .int .u8 xf, .int .u16 xb, .bool xu] 62).box #[.int .u8 0, .int .u32 0, .int .u32 0, .int .u32 0, .int .u32 0, .int .u32 0, .int .u32 0, .bool false, .int .u64 0, .slice none 0 0, .int .i64 0] 39)
  simp only [World.size_alloc] at h
  rw [hW, hg5, hg6]
  exact h
 obtain ⟨rr, hrr⟩ : ∃ r, r = xk % tn := ⟨_, rfl⟩
 have hrt : rr < tn := by rw [hrr]; exact Nat.mod_lt _ ht0
 obtain ⟨z, hz⟩ : ∃ z, T[rr]? = some z := ⟨_, List.getElem?_eq_getElem (by rw [← htn]; exact hrt)⟩
 have hzm := List.mem_of_getElem? hz
 obtain ⟨id, hide⟩ : ∃ x, x = z.id := ⟨_, rfl⟩
 have id32 : id < 4294967296 := by rw [hide]; exact hid z hzm
 obtain ⟨gr, hgr, -, -⟩ := row_at Tryz.eltSe (h.sep.get (t := thR 54 encSe 2 (.slice A tn cc) T) hm) hz
 subst hgr
 have C1 : W.cell? ⟨gr, rr * 2, none⟩ = some (.int .u32 id) := by
  have := row_cellE Tryz.eltSe (h.sep.get (t := thR 54 encSe 2 (.slice (some ⟨gr, 0, none⟩) tn cc) T) hm) hz 0 _ rfl
  rw [← hide] at this
  exact (hS.b.cell (cell_lt this)).trans this
 have r1 : (xk : Int).tmod (tn : Int) = (rr : Int) := by rw [Int.tmod_eq_emod_of_nonneg (by omega), hrr]; rfl
 have r2 : (xk : Int) % (tn : Int) = (rr : Int) := by rw [hrr]; rfl
 have w1 : IntKind.i64.wrap (xk : Int) = (xk : Int) := by rw [IntKind.wrap_i64]; omega
 have w2' : IntKind.i64.wrap (rr : Int) = (rr : Int) := by rw [IntKind.wrap_i64]; omega
 have ktn : ((tn : Int) = 0) = False := by simp; omega
 have krt : (rr : Int) < (tn : Int) := by omega
 obtain ⟨m, hm⟩ : ∃ m, m = xf % 60 := ⟨_, rfl⟩
 have m60 : m < 60 := by omega
 have t1 : (xf : Int).tmod 60 = (m : Int) := by rw [Int.tmod_eq_emod_of_nonneg (by omega)]; omega
 have t2 : (xf : Int) % 60 = (m : Int) := by omega
 have hoc := h.okD.at_ id
 obtain ⟨C, hC⟩ : ∃ C, C = D.at_ id := ⟨_, rfl⟩
 have HCt := Lib.hid (fun (V : World) (b : Below w.heap.size w V) (p1 p2 p3 : Nat) (most : Int) (h1 : p1 < 4294967296) (h2 : p2 < 4294967296) (h3 : p3 < 4294967296) (h4 : in64 most) => bk_cut (h.go b) id id32 p1 p2 p3 most h1 h2 h3 h4)
 rw [← hC] at HCt hoc
 have HZ := Lib.hid (And.intro hoc (And.intro hzm (And.intro hide hC)))
 have HS := Lib.hid hS
 have D5 := cells_say (hS.blk 1) _ 0 rfl
 simp only [cellsSay, List.drop_zero, Nat.reduceAdd, and_true] at D5
 clear hm htn ht0 ht64 hid hS hrr hrt hz hzm hide id32 hoc hC hx1 hx2 h
 go_enter Tryz.func17, Tryz.ntmps17
 go_upto_region 1 with fail
 rw [← hW, ← hg6, ← hg5]
 clear hW hg5 hg6
 go_upto_region 3 with fail
 have h8 := HS.out.box #[.int .u32 0, .int .u32 0, .int .u32 0] 36
 generalize hV8 : World.alloc _ _ = V8 at h8 ⊢
 obtain ⟨g8, hg8⟩ : ∃ g, g = W.heap.size := ⟨_, rfl⟩
 rw [← hg8] at h8 ⊢
 have H8 := Lib.hid h8
 clear hV8 hg8 h8 C1 r1 r2 w1 w2' ktn krt D5
 go_upto_block 0 with fail
 go_cut [9, 10, 11, 12] from 27 to 49 (fun s9 s10 s11 s12 wx => ∃ p : Nat × Nat × Nat, Hid (hasC C p.1 p.2.1 p.2.2 = true ∧ (p.1 < 4294967296 ∧ p.2.1 < 4294967296 ∧ p.2.2 < 4294967296) ∧ Sep w.heap.size w wx (thB g8 36 #[.int .u32 ((p.1 : Nat) : Int), .int .u32 ((p.2.1 : Nat) : Int), .int .u32 ((p.2.2 : Nat) : Int)] :: thB g6 39 #[.int .u8 0, .int .u32 0, .int .u32 0, .int .u32 0, .int .u32 0, .int .u32 0, .int .u32 0, .bool false, .int .u64 0, .slice none 0 0, .int .i64 0] :: thB g5 62 #[.int .u8 xk, .int .u8 xf, .int .u16 xb, .bool xu] :: [])))
 case first =>
  go_wp2_with fail
  go_loopw [9, 10, 11, 12] (fun s9 s10 s11 s12 wr => ∃ (k : Nat) (p : Nat × Nat × Nat), s9 = .int .u8 k ∧ k ≤ 60 ∧ Hid (hasC C p.1 p.2.1 p.2.2 = true ∧ (p.1 < 4294967296 ∧ p.2.1 < 4294967296 ∧ p.2.2 < 4294967296) ∧ Sep w.heap.size w wr (thB g8 36 #[.int .u32 ((p.1 : Nat) : Int), .int .u32 ((p.2.1 : Nat) : Int), .int .u32 ((p.2.2 : Nat) : Int)] :: thB g6 39 #[.int .u8 0, .int .u32 0, .int .u32 0, .int .u32 0, .int .u32 0, .int .u32 0, .int .u32 0, .bool false, .int .u64 0, .slice none 0 0, .int .i64 0] :: thB g5 62 #[.int .u8 xk, .int .u8 xf, .int .u16 xb, .bool xu] :: [])))
   (fun s9 _ _ _ _ => m - (intOf s9).toNat)
  case atStart => exact ⟨0, (0, 0, 0), by go_num, by omega, Lib.hid ⟨has_first HZ.out.1, ⟨by decide, by decide, by decide⟩, H8.out⟩⟩
  case round =>
   obtain ⟨k, ⟨p1, p2, p3⟩, rfl, hk, HJ⟩ := hrel
   obtain ⟨wj, hwj⟩ : ∃ wj, wj = wr := ⟨_, rfl⟩
   rw [← hwj] at HJ ⊢
   clear hwj
   have D5 := cells_say (HJ.out.2.2.blk 2) _ 0 rfl
   have D8 := cells_say (HJ.out.2.2.blk 0) _ 0 rfl
   simp only [cellsSay, List.drop_zero, Nat.reduceAdd, and_true] at D5 D8
   by_cases hkm : k < m
   ·have kk : (k : Int) < (m : Int) := by omega
    have hvk : IntKind.u8.wrap ((k : Int) + 1) = (k : Int) + 1 := by rw [IntKind.wrap_u8]; omega
    have hnx := cut_next (x := id) (most := 1) HZ.out.1 HJ.out.1 HJ.out.2.1.1 HJ.out.2.1.2.1 HJ.out.2.1.2.2
    have hct := HCt.out wj HJ.out.2.2.b p1 p2 p3 1 HJ.out.2.1.1 HJ.out.2.1.2.1 HJ.out.2.1.2.2 (by unfold in64; omega)
    obtain ⟨R, hR⟩ : ∃ R, R = cutF id C p1 p2 p3 1 := ⟨_, rfl⟩
    dsimp only at hnx
    rw [← hR] at hnx hct
    clear hR
    obtain ⟨⟨kd, ep, se, fc, fb, fn, cn, cl, sm, fl, nn⟩, ⟨t1', t2', t3'⟩, er⟩ := R
    dsimp only at hnx
    obtain ⟨her, hnx2, hnx3⟩ := hnx
    subst her
    have HCj := Lib.hid hct
    have HNx := Lib.hid (And.intro hnx2 hnx3)
    clear hct hnx2 hnx3
    go_upto_region 7 with (go_at_call 24; refine HCj.out.mono ?_; rintro e w7 ⟨⟨A3, c3, rfl, ho⟩, b7⟩; simp only [frC])
    have h7 := ((HJ.out.2.2.go b7).box #[.int .u8 kd, .int .u32 ep, .int .u32 se, .int .u32 fc, .int .u32 fb, .int .u32 fn, .int .u32 cn, .bool cl, .int .u64 sm, .slice A3 fl.length c3, .int .i64 nn] 39).box #[.int .u32 ((t1' : Nat) : Int), .int .u32 ((t2' : Nat) : Int), .int .u32 ((t3' : Nat) : Int)] 36
    rw [World.size_alloc] at h7
    generalize hV7 : World.alloc (World.alloc _ _) _ = V7 at h7 ⊢
    obtain ⟨g10, hg10⟩ : ∃ g, g = w7.heap.size := ⟨_, rfl⟩
    obtain ⟨g11, hg11⟩ : ∃ g, g = w7.heap.size + 1 := ⟨_, rfl⟩
    rw [← hg11, ← hg10] at h7 ⊢
    clear D5 D8
    have D11 := cells_say (h7.blk 0) _ 0 rfl
    have D8 := cells_say (h7.blk 2) _ 0 rfl
    simp only [cellsSay, List.drop_zero, Nat.reduceAdd, and_true] at D11 D8
    have H7 := Lib.hid h7
    clear hV7 hg10 hg11 h7 b7 ho HCj
    by_cases hq : (t1', t2', t3') = (p1, p2, p3)
    ·have hQ : ∀ w, (binOp .eql 36 (.agg #[.int .u32 ((t1' : Nat) : Int), .int .u32 ((t2' : Nat) : Int), .int .u32 ((t3' : Nat) : Int)]) (.agg #[.int .u32 p1, .int .u32 p2, .int .u32 p3])).run Tryz.prog w = .ok (.bool true) w := fun w => by rw [eqPlB_run t1' t2' t3' p1 p2 p3 w, decide_eq_true hq]
     clear hq
     go_wp2_with fail
     go_meet
     exact ⟨(p1, p2, p3), Lib.hid ⟨HJ.out.1, HJ.out.2.1, H7.out.tail.tail⟩⟩
    ·have hQ : ∀ w, (binOp .eql 36 (.agg #[.int .u32 ((t1' : Nat) : Int), .int .u32 ((t2' : Nat) : Int), .int .u32 ((t3' : Nat) : Int)]) (.agg #[.int .u32 p1, .int .u32 p2, .int .u32 p3])).run Tryz.prog w = .ok (.bool false) w := fun w => by rw [eqPlB_run t1' t2' t3' p1 p2 p3 w, decide_eq_false hq]
     clear hq
     go_wp2_with fail
     generalize hWx : World.setCell _ _ _ = Wx
     have h8 := H7.out.put 2 g8 [(0, .int .u32 ((t1' : Nat) : Int)), (1, .int .u32 ((t2' : Nat) : Int)), (2, .int .u32 ((t3' : Nat) : Int))] #[.int .u32 ((t1' : Nat) : Int), .int .u32 ((t2' : Nat) : Int), .int .u32 ((t3' : Nat) : Int)] hWx
     simp only [List.set_cons_succ, List.set_cons_zero] at h8
     clear D11 D8 hWx
     have H9 := Lib.hid h8.tail.tail
     clear h8
     go_roundw
     case measure => simp [intOf]; omega
     case rel => exact ⟨k + 1, (t1', t2', t3'), by go_num, by omega, Lib.hid ⟨HNx.out.1, HNx.out.2, H9.out⟩⟩
   ·have kk : ¬ (k : Int) < (m : Int) := by omega
    go_wp2_with fail
    go_meet
    exact ⟨(p1, p2, p3), HJ⟩
 case rest =>
  obtain ⟨⟨p1, p2, p3⟩, HP⟩ := hcut
  obtain ⟨W3, hW3⟩ : ∃ Wx, Wx = wc := ⟨_, rfl⟩
  rw [← hW3] at HP ⊢
  clear hW3 H8 HS
  have vb : IntKind.i64.wrap (xb : Int) = (xb : Int) := by rw [IntKind.wrap_i64]; omega
  cases xu with
  | false =>
   have D5 := cells_say (HP.out.2.2.blk 2) _ 0 rfl
   have D8 := cells_say (HP.out.2.2.blk 0) _ 0 rfl
   simp only [cellsSay, List.drop_zero, Nat.reduceAdd, and_true] at D5 D8
   go_upto_region 11 with fail
   clear D5 D8
   have H8 := Lib.hid HP.out.2.2
   obtain ⟨Wx, hWx⟩ : ∃ Wx, Wx = W3 := ⟨_, rfl⟩
   rw [← hWx] at H8 ⊢
   clear hWx
   have hso := start_has HZ.out.1 (p := (p1, p2, p3)) HP.out.1 false
   have hsk := start_ok (p := (p1, p2, p3)) false HP.out.2.1.1 HP.out.2.1.2.1 HP.out.2.1.2.2
   have hct : Calls Tryz.prog 24 #[ptB q, .int .u32 id, .agg #[.int .u32 p1, .int .u32 p2, .int .u32 p3], .int .i64 xb] Wx _ := HCt.out Wx H8.out.b p1 p2 p3 ((xb : Nat) : Int) hsk.1 hsk.2.1 hsk.2.2 (by unfold in64; omega)
   obtain ⟨R, hR⟩ : ∃ R, R = cutF id C p1 p2 p3 ((xb : Nat) : Int) := ⟨_, rfl⟩
   have hsf : sentF id C (p1, p2, p3) ((xb : Nat) : Int) false = ⟨2, R.1.ep, R.1.se, R.1.fc, R.1.fb, R.1.fn, R.1.cn, R.1.cl, R.1.sm, R.1.l, R.1.n⟩ := by rw [hR]; rfl
   rw [← hR] at hct
   clear hR hso hsk
   obtain ⟨⟨kd, ep, se, fc, fb, fn, cn, cl, sm, fl, nn⟩, ⟨t1', t2', t3'⟩, er⟩ := R
   dsimp only at hsf
   have HCj := Lib.hid hct
   have HSf := Lib.hid hsf
   clear hct hsf
   have D5 := cells_say (H8.out.blk 2) _ 0 rfl
   have D8 := cells_say (H8.out.blk 0) _ 0 rfl
   simp only [cellsSay, List.drop_zero, Nat.reduceAdd, and_true] at D5 D8
   go_upto_region 12 with (go_at_call 24; refine HCj.out.mono ?_; rintro e w7 ⟨⟨A3, c3, rfl, ho⟩, b7⟩; simp only [frC])
   have h7 := (((H8.out.cons (t := thO (.slice A3 fl.length c3) fl) b7 (ho.mono (Nat.zero_le _)) (fun k hk => (World.ownsRow.lt ho k hk).1)).box #[.int .u8 kd, .int .u32 ep, .int .u32 se, .int .u32 fc, .int .u32 fb, .int .u32 fn, .int .u32 cn, .bool cl, .int .u64 sm, .slice A3 fl.length c3, .int .i64 nn] 39).box #[.int .u32 ((t1' : Nat) : Int), .int .u32 ((t2' : Nat) : Int), .int .u32 ((t3' : Nat) : Int)] 36)
   rw [World.size_alloc] at h7
   generalize hV7 : World.alloc (World.alloc _ _) _ = V7 at h7 ⊢
   obtain ⟨g13, hg13⟩ : ∃ g, g = w7.heap.size := ⟨_, rfl⟩
   obtain ⟨g14, hg14⟩ : ∃ g, g = w7.heap.size + 1 := ⟨_, rfl⟩
   rw [← hg14, ← hg13] at h7 ⊢
   have hlo : w.heap.size ≤ Wx.heap.size := H8.out.sz
   clear D5 D8
   have D13 := cells_say (h7.blk 1) _ 0 rfl
   have D5 := cells_say (h7.blk 5) _ 0 rfl
   have D6 := cells_say (h7.blk 4) _ 0 rfl
   simp only [cellsSay, List.drop_zero, Nat.reduceAdd, and_true] at D13 D5 D6
   have H7 := Lib.hid (And.intro h7 (And.intro ho hlo))
   clear hV7 hg13 hg14 h7 b7 ho hlo HCj
   go_upto_region 13 with fail
   generalize hWa : World.setCell _ _ _ = Wa
   have ha := H7.out.1.put 1 g13 [(0, .int .u8 2)] #[.int .u8 2, .int .u32 ep, .int .u32 se, .int .u32 fc, .int .u32 fb, .int .u32 fn, .int .u32 cn, .bool cl, .int .u64 sm, .slice A3 fl.length c3, .int .i64 nn] hWa
   simp only [List.set_cons_succ, List.set_cons_zero] at ha
   clear D13 D5 D6 hWa
   have D13 := cells_say (ha.blk 1) _ 0 rfl
   have D5 := cells_say (ha.blk 5) _ 0 rfl
   have D6 := cells_say (ha.blk 4) _ 0 rfl
   simp only [cellsSay, List.drop_zero, Nat.reduceAdd, and_true] at D13 D5 D6
   have Ha := Lib.hid ha
   clear ha
   go_wp2_with fail
   generalize hWc : World.setCell _ _ _ = Wc
   have hc := Ha.out.put 4 g6 [(0, .int .u8 2), (1, .int .u32 ep), (2, .int .u32 se), (3, .int .u32 fc), (4, .int .u32 fb), (5, .int .u32 fn), (6, .int .u32 cn), (7, .bool cl), (8, .int .u64 sm), (9, .slice A3 fl.length c3), (10, .int .i64 nn)] #[.int .u8 2, .int .u32 ep, .int .u32 se, .int .u32 fc, .int .u32 fb, .int .u32 fn, .int .u32 cn, .bool cl, .int .u64 sm, .slice A3 fl.length c3, .int .i64 nn] hWc
   simp only [List.set_cons_succ, List.set_cons_zero] at hc
   have hown : OwnB Wc w.heap.size (.slice A3 fl.length c3) fl := OwnB.raise (hc.own 2) (fun k hk => by
    have h1 := (World.ownsRow.lt H7.out.2.1 k hk).1
    have h2 := H7.out.2.2
    omega)
   refine bodyPost_ret (results_cell_row Tryz.results17 _ _ g6 39 #[.int .u8 2, .int .u32 ep, .int .u32 se, .int .u32 fc, .int .u32 fb, .int .u32 fn, .int .u32 cn, .bool cl, .int .u64 sm, .slice A3 fl.length c3, .int .i64 nn] (0, 0) _ rfl (hc.blk 4) Tryz.underlying39 rfl (by kernel_rfl)) rfl ⟨z, (p1, p2, p3), A3, c3, HZ.out.2.1, ?_, ?_, ?_, hc.b⟩
   ·rw [← HZ.out.2.2.1, ← HZ.out.2.2.2]
    exact HP.out.1
   ·rw [← HZ.out.2.2.1, ← HZ.out.2.2.2, HSf.out]
    rfl
   ·rw [← HZ.out.2.2.1, ← HZ.out.2.2.2, HSf.out]
    exact hown
  | true =>
   have D5 := cells_say (HP.out.2.2.blk 2) _ 0 rfl
   have D8 := cells_say (HP.out.2.2.blk 0) _ 0 rfl
   simp only [cellsSay, List.drop_zero, Nat.reduceAdd, and_true] at D5 D8
   go_upto_region 11 with fail
   generalize hWx : World.setCell _ _ _ = Wx
   have h8 := HP.out.2.2.put 0 g8 [(0, .int .u32 p1), (1, .int .u32 0), (2, .int .u32 0)] #[.int .u32 p1, .int .u32 0, .int .u32 0] hWx
   simp only [List.set_cons_zero] at h8
   clear D5 D8 hWx
   have H8 := Lib.hid h8
   clear h8
   have hso := start_has HZ.out.1 (p := (p1, p2, p3)) HP.out.1 true
   have hsk := start_ok (p := (p1, p2, p3)) true HP.out.2.1.1 HP.out.2.1.2.1 HP.out.2.1.2.2
   have hct : Calls Tryz.prog 24 #[ptB q, .int .u32 id, .agg #[.int .u32 p1, .int .u32 0, .int .u32 0], .int .i64 xb] Wx _ := HCt.out Wx H8.out.b p1 0 0 ((xb : Nat) : Int) hsk.1 hsk.2.1 hsk.2.2 (by unfold in64; omega)
   obtain ⟨R, hR⟩ : ∃ R, R = cutF id C p1 0 0 ((xb : Nat) : Int) := ⟨_, rfl⟩
   have hsf : sentF id C (p1, p2, p3) ((xb : Nat) : Int) true = ⟨3, R.1.ep, R.1.se, R.1.fc, R.1.fb, R.1.fn, R.1.cn, R.1.cl, 0, R.1.l, R.1.n⟩ := by rw [hR]; rfl
   rw [← hR] at hct
   clear hR hso hsk
   obtain ⟨⟨kd, ep, se, fc, fb, fn, cn, cl, sm, fl, nn⟩, ⟨t1', t2', t3'⟩, er⟩ := R
   dsimp only at hsf
   have HCj := Lib.hid hct
   have HSf := Lib.hid hsf
   clear hct hsf
   have D5 := cells_say (H8.out.blk 2) _ 0 rfl
   have D8 := cells_say (H8.out.blk 0) _ 0 rfl
   simp only [cellsSay, List.drop_zero, Nat.reduceAdd, and_true] at D5 D8
   go_upto_region 12 with (go_at_call 24; refine HCj.out.mono ?_; rintro e w7 ⟨⟨A3, c3, rfl, ho⟩, b7⟩; simp only [frC])
   have h7 := (((H8.out.cons (t := thO (.slice A3 fl.length c3) fl) b7 (ho.mono (Nat.zero_le _)) (fun k hk => (World.ownsRow.lt ho k hk).1)).box #[.int .u8 kd, .int .u32 ep, .int .u32 se, .int .u32 fc, .int .u32 fb, .int .u32 fn, .int .u32 cn, .bool cl, .int .u64 sm, .slice A3 fl.length c3, .int .i64 nn] 39).box #[.int .u32 ((t1' : Nat) : Int), .int .u32 ((t2' : Nat) : Int), .int .u32 ((t3' : Nat) : Int)] 36)
   rw [World.size_alloc] at h7
   generalize hV7 : World.alloc (World.alloc _ _) _ = V7 at h7 ⊢
   obtain ⟨g13, hg13⟩ : ∃ g, g = w7.heap.size := ⟨_, rfl⟩
   obtain ⟨g14, hg14⟩ : ∃ g, g = w7.heap.size + 1 := ⟨_, rfl⟩
   rw [← hg14, ← hg13] at h7 ⊢
   have hlo : w.heap.size ≤ Wx.heap.size := H8.out.sz
   clear D5 D8
   have D13 := cells_say (h7.blk 1) _ 0 rfl
   have D5 := cells_say (h7.blk 5) _ 0 rfl
   have D6 := cells_say (h7.blk 4) _ 0 rfl
   simp only [cellsSay, List.drop_zero, Nat.reduceAdd, and_true] at D13 D5 D6
   have H7 := Lib.hid (And.intro h7 (And.intro ho hlo))
   clear hV7 hg13 hg14 h7 b7 ho hlo HCj
   go_upto_region 13 with fail
   generalize hWa : World.setCell _ _ _ = Wa
   have ha := H7.out.1.put 1 g13 [(0, .int .u8 2)] #[.int .u8 2, .int .u32 ep, .int .u32 se, .int .u32 fc, .int .u32 fb, .int .u32 fn, .int .u32 cn, .bool cl, .int .u64 sm, .slice A3 fl.length c3, .int .i64 nn] hWa
   simp only [List.set_cons_succ, List.set_cons_zero] at ha
   clear D13 D5 D6 hWa
   have D13 := cells_say (ha.blk 1) _ 0 rfl
   have D5 := cells_say (ha.blk 5) _ 0 rfl
   have D6 := cells_say (ha.blk 4) _ 0 rfl
   simp only [cellsSay, List.drop_zero, Nat.reduceAdd, and_true] at D13 D5 D6
   have Ha := Lib.hid ha
   clear ha
   go_upto_region 16 with fail
   generalize hWb : World.setCell _ _ _ = Wb
   have hb := Ha.out.put 1 g13 [(0, .int .u8 3), (8, .int .u64 0)] #[.int .u8 3, .int .u32 ep, .int .u32 se, .int .u32 fc, .int .u32 fb, .int .u32 fn, .int .u32 cn, .bool cl, .int .u64 0, .slice A3 fl.length c3, .int .i64 nn] hWb
   simp only [List.set_cons_succ, List.set_cons_zero] at hb
   clear D13 D5 D6 hWb
   have D13 := cells_say (hb.blk 1) _ 0 rfl
   have D6 := cells_say (hb.blk 4) _ 0 rfl
   simp only [cellsSay, List.drop_zero, Nat.reduceAdd, and_true] at D13 D6
   have Hb := Lib.hid hb
   clear hb
   go_wp2_with fail
   generalize hWc : World.setCell _ _ _ = Wc
   have hc := Hb.out.put 4 g6 [(0, .int .u8 3), (1, .int .u32 ep), (2, .int .u32 se), (3, .int .u32 fc), (4, .int .u32 fb), (5, .int .u32 fn), (6, .int .u32 cn), (7, .bool cl), (8, .int .u64 0), (9, .slice A3 fl.length c3), (10, .int .i64 nn)] #[.int .u8 3, .int .u32 ep, .int .u32 se, .int .u32 fc, .int .u32 fb, .int .u32 fn, .int .u32 cn, .bool cl, .int .u64 0, .slice A3 fl.length c3, .int .i64 nn] hWc
   simp only [List.set_cons_succ, List.set_cons_zero] at hc
   have hown : OwnB Wc w.heap.size (.slice A3 fl.length c3) fl := OwnB.raise (hc.own 2) (fun k hk => by
    have h1 := (World.ownsRow.lt H7.out.2.1 k hk).1
    have h2 := H7.out.2.2
    omega)
   refine bodyPost_ret (results_cell_row Tryz.results17 _ _ g6 39 #[.int .u8 3, .int .u32 ep, .int .u32 se, .int .u32 fc, .int .u32 fb, .int .u32 fn, .int .u32 cn, .bool cl, .int .u64 0, .slice A3 fl.length c3, .int .i64 nn] (0, 0) _ rfl (hc.blk 4) Tryz.underlying39 rfl (by kernel_rfl)) rfl ⟨z, (p1, p2, p3), A3, c3, HZ.out.2.1, ?_, ?_, ?_, hc.b⟩
   ·rw [← HZ.out.2.2.1, ← HZ.out.2.2.2]
    exact HP.out.1
   ·rw [← HZ.out.2.2.1, ← HZ.out.2.2.2, HSf.out]
    rfl
   ·rw [← HZ.out.2.2.1, ← HZ.out.2.2.2, HSf.out]
    exact hown
end Go.Proofs.YtmcdollkmlcpbaaGreatDoor
set_option linter.unusedSimpArgs false
set_option linter.unusedVariables false
namespace Go.Proofs.YtmcdollkmlcpbaaGreatDoor
open Go.RowKit
set_option maxRecDepth 100000
def rkD : BD := ⟨1, 4, [(5, [[(10, 1)]])]⟩
def rkL : List UInt8 := pack (bitsL [(10, 1)])
def rkF : FrD := ⟨2, 0, 5, 0, 0, 0, 1, false, 0, rkL, 128⟩
theorem rk_put : mayD ⟨1, 4, []⟩ 5 10 = 0 ∧ putD ⟨1, 4, []⟩ 5 (10, 1) = rkD := ⟨by kernel_rfl, by kernel_rfl⟩
theorem rk_cut : cutF 5 (rkD.at_ 5) 0 0 0 1 = (⟨0, 0, 5, 0, 0, 0, 1, false, 0, rkL, 128⟩, (0, 128, 1), 0) := by kernel_rfl
theorem rk_fit : fitD ⟨1, 4, []⟩ rkF = (0, [(10, 1)]) := by kernel_rfl
theorem rk_may : mayN (noF rkF) = true := by kernel_rfl
theorem rk_r1 : reactF ⟨1, 4, []⟩ rkF = 1 := by
 have h1 : (rkF.fc, rkF.fb, rkF.fn) = endC ((⟨1, 4, []⟩ : BD).at_ rkF.se) := by kernel_rfl
 have h2 : rkF.sm = sumE ((⟨1, 4, []⟩ : BD).at_ rkF.se) := by kernel_rfl
 unfold reactF
 rw [if_neg (by decide), if_pos h1, if_pos h2]
 unfold takF
 rw [rk_may, rk_fit, if_pos ⟨rfl, rfl⟩]
theorem rk_take : takeD ⟨1, 4, []⟩ (frN (noF rkF)) = rkD := by
 have h : fitD ⟨1, 4, []⟩ (frN (noF rkF)) = (0, [(10, 1)]) := rk_fit
 unfold takeD
 rw [h, if_pos rfl]
 show (⟨1, 4, putM [] 5 (setLast ((⟨1, 4, []⟩ : BD).at_ 5) [(10, 1)] false)⟩ : BD) = rkD
 kernel_rfl
theorem rk_end : endC (rkD.at_ 5) = (0, 128, 1) := by kernel_rfl
theorem rk_r2 : reactF rkD rkF = 2 := by
 unfold reactF
 rw [if_neg (by decide)]
 show (if ((0, 0, 0) : Nat × Nat × Nat) = endC (rkD.at_ 5) then _ else if (0 : Nat) < (endC (rkD.at_ 5)).1 ∨ (0 : Nat) = (endC (rkD.at_ 5)).1 ∧ (1 : Nat) ≤ (endC (rkD.at_ 5)).2.2 then 2 else 3) = 2
 rw [rk_end, if_neg (by decide), if_pos (.inr ⟨rfl, Nat.le_refl _⟩)]
theorem rk_l1 : lookF ⟨1, 4, []⟩ 0 rkF = ⟨0, noF rkF, true, [], 0⟩ := by
 unfold lookF
 rw [if_neg (by decide), if_neg (by decide), if_neg (by decide), if_pos rk_r1]
 rfl
theorem rk_l2 : lookF rkD 0 rkF = ⟨0, zeroN, false, [ansF rkD 0 4 5], 0⟩ := by
 unfold lookF
 rw [if_neg (by decide), if_neg (by decide), if_neg (by decide), if_neg (by rw [rk_r2]; decide), if_pos rk_r2]
 rfl
theorem rk_do : doF ⟨1, 4, []⟩ 0 (noF rkF) = (rkD, [ansF rkD 0 4 5], 0) := by
 have h : (fitD ⟨1, 4, []⟩ (frN (noF rkF))).1 = 0 := by rw [show fitD ⟨1, 4, []⟩ (frN (noF rkF)) = (0, [(10, 1)]) from rk_fit]
 unfold doF
 rw [if_neg (by decide), if_pos h, rk_take]
 rfl
theorem rk_ans : ∃ s : Nat, ansF rkD 0 4 5 = ⟨4, 0, 5, 0, 128, 1, 0, false, s, [], 0⟩ := by
 unfold ansF
 rw [rk_end]
 exact ⟨_, rfl⟩
theorem rk_len : rkL.length = 16 := by kernel_rfl
end Go.Proofs.YtmcdollkmlcpbaaGreatDoor
set_option linter.unusedSimpArgs false
set_option linter.unusedVariables false
namespace Go.Proofs.YtmcdollkmlcpbaaGreatDoor
open Go.RowKit
set_option maxRecDepth 100000
theorem rowSay {α : Type} {P : Program} {w : World} {t e : TypeId} {enc : α → List Value} {sz bytes : Nat} (E : Elt P t e enc sz bytes) {g n c : Nat} {x : α} {l : List α} (h : OwnR w 0 e enc sz (.slice (some ⟨g, 0, none⟩) n c) (x :: l)) (cs : List Value) (hc : enc x = cs) : cellsSay w g 0 cs := by
 have h1 : ∀ (m : List Value) (i : Nat), cs.drop i = m → cellsSay w g i m := by
  intro m
  induction m with
  | nil => intro i _; trivial
  | cons v m ih =>
   intro i hi
   have hv : (enc x)[i]? = some v := by
    rw [hc]
    have := congrArg List.head? hi
    rw [List.head?_drop] at this
    exact this
   have hk := row_cellE E h (k := 0) rfl i v hv
   rw [Nat.zero_mul, Nat.zero_add] at hk
   refine ⟨hk, row_froz h i, ih (i + 1) ?_⟩
   have := congrArg List.tail hi
   simpa [List.tail_drop] using this
 exact h1 cs 0 rfl
section
variable {B : Nat} {w0 w w' : World} {r q ep : Nat} {D : BD} {ts us : List Kt} {Y : Bl}
theorem Bk.other (h : Bk B w0 w q D (thBk Y :: ts)) (ok : OkB Y) : ∃ us, Bk B w0 w Y.q Y.D us ∧ ∀ t ∈ ts, t ∈ us := by
 obtain ⟨X, h1, h2, okX, hS⟩ := h
 exact ⟨thBk X :: ts, ⟨Y, rfl, rfl, ok, hS.permB (List.Perm.swap _ _ _)⟩, fun t ht => List.mem_cons_of_mem _ ht⟩
theorem Rv.other (h : Rv B w0 w r q ep D (thBk Y :: ts)) (ok : OkB Y) : ∃ us, Bk B w0 w Y.q Y.D us ∧ ∀ t ∈ ts, t ∈ us := by
 obtain ⟨X, h1, h2, okX, hS⟩ := h
 exact ⟨thBk X :: thV r q ep :: ts, ⟨Y, rfl, rfl, ok, hS.permB (List.perm_middle (l₁ := [_, _]))⟩, fun t ht => List.mem_cons_of_mem _ (List.mem_cons_of_mem _ ht)⟩
theorem rkF_ok : rkF.ok := ⟨by decide, by decide, by decide, by decide, by decide, by decide, by decide, by decide, by decide, by decide⟩
theorem rkN_ok : (noF rkF).ok := ⟨by decide, by decide, by decide, ⟨by decide, by decide⟩, by decide, by decide, by decide, by decide, by decide, by decide, by decide⟩
theorem rk_look1 (h : Rv B w0 w r q 0 ⟨1, 4, []⟩ ts) (hT : Tab w0) (hB : w0.heap.size ≤ B) (A : Option Addr) (c : Nat) (hb : Bs w A rkL) : Calls Tryz.prog 11 #[ptB r, .agg #[.int .u8 2, .int .u32 0, .int .u32 5, .int .u32 0, .int .u32 0, .int .u32 0, .int .u32 1, .bool false, .int .u64 0, .slice A 16 c, .int .i64 128]] w fun e w' => ∃ A1 c1 U c2, e = .returned (.tuple #[.agg #[.int .u8 4, .int .u32 0, .int .u32 5, .int .i64 0, .int .u64 0, .int .u32 0, .int .u32 0, .int .u32 0, .int .u32 1, .bool false, .slice A1 16 c1, .int .i64 128], .bool true, .slice U 0 c2, .int .u16 0]) ∧ Rv B w0 w' r q 0 ⟨1, 4, []⟩ (thO (.slice A1 16 c1) rkL :: ts) := by
 have h1 := look_any h hT hB rkF rkF_ok A c hb (by rw [show rkF.l = rkL from rfl, rk_len]; decide)
 rw [rk_l1] at h1
 have h2 : Calls Tryz.prog 11 #[ptB r, .agg #[.int .u8 2, .int .u32 0, .int .u32 5, .int .u32 0, .int .u32 0, .int .u32 0, .int .u32 1, .bool false, .int .u64 0, .slice A rkL.length c, .int .i64 128]] w (LkO B w0 r q ⟨1, 4, []⟩ ts ⟨0, noF rkF, true, [], 0⟩) := h1
 rw [rk_len] at h2
 refine h2.mono ?_
 rintro e w' ⟨A1, c1, U, c2, rfl, h3⟩
 have h4 : Rv B w0 w' r q 0 ⟨1, 4, []⟩ (thO (.slice A1 rkL.length c1) rkL :: ts) := h3.tail
 rw [rk_len] at h4
 refine ⟨A1, c1, U, c2, ?_, h4⟩
 show Ending.returned (.tuple #[.agg #[.int .u8 4, .int .u32 0, .int .u32 5, .int .i64 0, .int .u64 0, .int .u32 0, .int .u32 0, .int .u32 0, .int .u32 1, .bool false, .slice A1 rkL.length c1, .int .i64 128], .bool true, .slice U 0 c2, .int .u16 0]) = _
 rw [rk_len]
theorem rk_do1 (h : Rv B w0 w r q 0 ⟨1, 4, []⟩ ts) (hT : Tab w0) (hB : w0.heap.size ≤ B) (A1 : Option Addr) (c1 : Nat) (hb : Bs w A1 rkL) : Calls Tryz.prog 18 #[ptB r, .agg #[.int .u8 4, .int .u32 0, .int .u32 5, .int .i64 0, .int .u64 0, .int .u32 0, .int .u32 0, .int .u32 0, .int .u32 1, .bool false, .slice A1 16 c1, .int .i64 128]] w fun e w' => ∃ U c2 s, e = .returned (.tuple #[.slice U 1 c2, .int .u16 0]) ∧ ansF rkD 0 4 5 = ⟨4, 0, 5, 0, 128, 1, 0, false, s, [], 0⟩ ∧ Rv B w0 w' r q 0 rkD (thR 39 encFrE 11 (.slice U 1 c2) [⟨⟨4, 0, 5, 0, 128, 1, 0, false, s, [], 0⟩, none, 0⟩] :: ts) := by
 have h1 := do_any h hT hB (noF rkF) rkN_ok A1 c1 hb (by rw [show (noF rkF).l = rkL from rfl, rk_len]; decide) (by show 0 + 24 ≤ 1000; decide)
 rw [rk_do] at h1
 have h2 : Calls Tryz.prog 18 #[ptB r, .agg #[.int .u8 4, .int .u32 0, .int .u32 5, .int .i64 0, .int .u64 0, .int .u32 0, .int .u32 0, .int .u32 0, .int .u32 1, .bool false, .slice A1 rkL.length c1, .int .i64 128]] w (DoO B w0 r q 0 ts (rkD, [ansF rkD 0 4 5], 0)) := h1
 rw [rk_len] at h2
 refine h2.mono ?_
 rintro e w' ⟨U, c2, rfl, h3⟩
 obtain ⟨s, hs⟩ := rk_ans
 have h4 : Rv B w0 w' r q 0 rkD (thR 39 encFrE 11 (.slice U 1 c2) [fe (ansF rkD 0 4 5)] :: ts) := h3
 rw [hs] at h4
 exact ⟨U, c2, s, rfl, hs, h4⟩
theorem rk_look2 (h : Rv B w0 w r q 0 rkD ts) (hT : Tab w0) (hB : w0.heap.size ≤ B) (A : Option Addr) (c : Nat) (hb : Bs w A rkL) (s : Nat) (hs : ansF rkD 0 4 5 = ⟨4, 0, 5, 0, 128, 1, 0, false, s, [], 0⟩) : Calls Tryz.prog 11 #[ptB r, .agg #[.int .u8 2, .int .u32 0, .int .u32 5, .int .u32 0, .int .u32 0, .int .u32 0, .int .u32 1, .bool false, .int .u64 0, .slice A 16 c, .int .i64 128]] w fun e w' => ∃ A1 c1 U c2, e = .returned (.tuple #[.agg #[.int .u8 0, .int .u32 0, .int .u32 0, .int .i64 0, .int .u64 0, .int .u32 0, .int .u32 0, .int .u32 0, .int .u32 0, .bool false, .slice A1 0 c1, .int .i64 0], .bool false, .slice U 1 c2, .int .u16 0]) ∧ Rv B w0 w' r q 0 rkD (thR 39 encFrE 11 (.slice U 1 c2) [⟨⟨4, 0, 5, 0, 128, 1, 0, false, s, [], 0⟩, none, 0⟩] :: ts) := by
 have h1 := look_any h hT hB rkF rkF_ok A c hb (by rw [show rkF.l = rkL from rfl, rk_len]; decide)
 rw [rk_l2] at h1
 have h2 : Calls Tryz.prog 11 #[ptB r, .agg #[.int .u8 2, .int .u32 0, .int .u32 5, .int .u32 0, .int .u32 0, .int .u32 0, .int .u32 1, .bool false, .int .u64 0, .slice A rkL.length c, .int .i64 128]] w (LkO B w0 r q rkD ts ⟨0, zeroN, false, [ansF rkD 0 4 5], 0⟩) := h1
 rw [rk_len] at h2
 refine h2.mono ?_
 rintro e w' ⟨A1, c1, U, c2, he, h3⟩
 have h5 : Rv B w0 w' r q 0 rkD (thR 39 encFrE 11 (.slice U 1 c2) [fe (ansF rkD 0 4 5)] :: ts) := h3.sub ((List.sublist_cons_self _ _).cons_cons _)
 rw [hs] at h5
 exact ⟨A1, c1, U, c2, he, h5⟩
end
set_option maxHeartbeats 16000000 in
theorem rknown_any (w : World) (hT : Tab w) : Calls Tryz.prog 7 #[] w fun e w' => e = .returned (.bool true) ∧ Below w.heap.size w w' := by
 have hmx : Tryz.prog.follows .mixedOrders = true := by kernel_rfl
 have HN := Lib.hid (bk_new (Sep.nil (Below.refl w.heap.size w) (Nat.le_refl _)) 1 4 (by decide) (by decide) (by decide) (by decide))
 have HT := Lib.hid hT
 clear hT
 go_enter Tryz.func7, Tryz.ntmps7
 go_upto_region 2 with (go_at_call 16; refine HN.out.mono ?_; rintro e w1 ⟨qa, rfl, hS0⟩)
 have HN2 := Lib.hid (bk2_new hS0 1 4 (by decide) (by decide) (by decide) (by decide))
 clear hS0 HN
 go_upto_region 5 with (go_at_call 16; refine HN2.out.mono ?_; rintro e w2 ⟨qb, rfl, hK⟩)
 have hP := bk2_put hK.swap (tabGo HT.out hK.b) 5 (by decide) 10 1 ⟨by unfold in64; omega, by decide⟩ (by decide)
 rw [rk_put.1, rk_put.2] at hP
 have HP := Lib.hid hP
 clear hP hK HN2
 go_upto_region 6 with (go_at_call 23; refine HP.out.mono ?_; rintro e w3 ⟨rfl, hK⟩)
 obtain ⟨Y, hY1, hY2, hY3, hB⟩ := hK
 obtain ⟨us, hA, -⟩ := hB.other hY3
 have hC := bk_cut hA 5 (by decide) 0 0 0 1 (by decide) (by decide) (by decide) (by unfold in64; omega)
 rw [hY1, hY2, rk_cut] at hC
 have hC2 : Calls Tryz.prog 24 #[ptB qa, .int .u32 5, .agg #[.int .u32 0, .int .u32 0, .int .u32 0], .int .i64 1] w3 fun e w' => (∃ A c, e = .returned (.tuple #[.agg #[.int .u8 0, .int .u32 0, .int .u32 5, .int .u32 0, .int .u32 0, .int .u32 0, .int .u32 1, .bool false, .int .u64 0, .slice A rkL.length c, .int .i64 128], .agg #[.int .u32 0, .int .u32 128, .int .u32 1], .int .u16 0]) ∧ OwnB w' w3.heap.size (.slice A rkL.length c) rkL) ∧ Below w3.heap.size w3 w' := hC
 rw [rk_len] at hC2
 have HC := Lib.hid hC2
 have HB := Lib.hid hB
 clear hC hC2 hA hB hY1 hY2 hY3 HP
 go_upto_region 7 with (go_at_call 24; refine HC.out.mono ?_; rintro e w4 ⟨⟨A3, c3, rfl, ho⟩, b4⟩)
 have h4 := ((HB.out.cons (t := thO (.slice A3 16 c3) rkL) b4 (ho.mono (Nat.zero_le _)) (fun k hk => (World.ownsRow.lt ho k hk).1)).box #[.int .u8 0, .int .u32 0, .int .u32 5, .int .u32 0, .int .u32 0, .int .u32 0, .int .u32 1, .bool false, .int .u64 0, .slice A3 16 c3, .int .i64 128] 39).box #[.int .u32 0, .int .u32 128, .int .u32 1] 36
 rw [World.size_alloc] at h4
 generalize hV4 : World.alloc (World.alloc _ _) _ = V4 at h4 ⊢
 obtain ⟨g3, hg3⟩ : ∃ g, g = w4.heap.size := ⟨_, rfl⟩
 obtain ⟨g4, hg4⟩ : ∃ g, g = w4.heap.size + 1 := ⟨_, rfl⟩
 rw [← hg4, ← hg3] at h4 ⊢
 have D3 := cells_say (h4.sep.blk 1) _ 0 rfl
 simp only [cellsSay, List.drop_zero, Nat.reduceAdd, and_true] at D3
 have H4 := Lib.hid h4
 clear hV4 hg3 hg4 h4 ho b4 HB HC
 go_upto_region 8 with fail
 generalize hW5 : World.setCell _ _ _ = W5
 have h5 := H4.out.put_ 1 g3 [(0, .int .u8 2)] #[.int .u8 2, .int .u32 0, .int .u32 5, .int .u32 0, .int .u32 0, .int .u32 0, .int .u32 1, .bool false, .int .u64 0, .slice A3 16 c3, .int .i64 128] hW5
 simp only [List.set_cons_succ, List.set_cons_zero] at h5
 have HR := Lib.hid (rnew_any h5)
 clear D3 hW5 H4 h5
 go_upto_region 11 with (go_at_call 9; refine HR.out.mono ?_; rintro e w6 ⟨r, rfl, h6⟩)
 have D3 := cells_say (h6.sep.blk 1) _ 0 rfl
 simp only [cellsSay, List.drop_zero, Nat.reduceAdd, and_true] at D3
 have HL := Lib.hid (rk_look1 h6 HT.out (Nat.le_refl _) A3 c3 (OwnB.bs (h6.sep.own 2)))
 clear h6 HR
 go_upto_region 12 with (go_at_call 11; refine HL.out.mono ?_; rintro e w7 ⟨A1, c1, U7, c7, rfl, h7⟩)
 have h8 := h7.box #[.int .u8 4, .int .u32 0, .int .u32 5, .int .i64 0, .int .u64 0, .int .u32 0, .int .u32 0, .int .u32 0, .int .u32 1, .bool false, .slice A1 16 c1, .int .i64 128] 44
 generalize hV8 : World.alloc _ _ = V8 at h8 ⊢
 obtain ⟨g7, hg7⟩ : ∃ g, g = w7.heap.size := ⟨_, rfl⟩
 rw [← hg7] at h8 ⊢
 clear D3
 have D7 := cells_say (h8.sep.blk 0) _ 0 rfl
 simp only [cellsSay, List.drop_zero, Nat.reduceAdd, and_true] at D7
 have HD := Lib.hid (rk_do1 h8 HT.out (Nat.le_refl _) A1 c1 (OwnB.bs (h8.sep.own 1)))
 clear hV8 hg7 h7 h8 HL
 go_upto_region 13 with (go_at_call 18; refine HD.out.mono ?_; rintro e w9 ⟨U9, c9, s, rfl, hs, h9⟩)
 clear D7
 have D3 := cells_say (h9.sep.blk 4) _ 0 rfl
 simp only [cellsSay, List.drop_zero, Nat.reduceAdd, and_true] at D3
 have HL := Lib.hid (rk_look2 h9 HT.out (Nat.le_refl _) A3 c3 (OwnB.bs (h9.sep.own 5)) s hs)
 clear h9 hs HD
 go_upto_region 14 with (go_at_call 11; refine HL.out.mono ?_; rintro e w10 ⟨A2, c2, U10, c10, rfl, h10⟩)
 have h11 := h10.box (#[.int .u8 0, .int .u32 0, .int .u32 0, .int .i64 0, .int .u64 0, .int .u32 0, .int .u32 0, .int .u32 0, .int .u32 0, .bool false, .slice A2 0 c2, .int .i64 0]) 44
 generalize hV11 : World.alloc _ _ = V11 at h11 ⊢
 have H11 := Lib.hid h11
 clear hV11 h10 h11 HL D3
 go_upto_region 15 with fail
 obtain ⟨gu, hgu, -, -⟩ := row_at Tryz.eltFrE (H11.out.sep.at_ (t := thR 39 encFrE 11 (.slice U10 1 c10) [⟨⟨4, 0, 5, 0, 128, 1, 0, false, s, [], 0⟩, none, 0⟩]) 1 rfl) (show ([⟨⟨4, 0, 5, 0, 128, 1, 0, false, s, [], 0⟩, none, 0⟩] : List FrE)[0]? = some ⟨⟨4, 0, 5, 0, 128, 1, 0, false, s, [], 0⟩, none, 0⟩ from rfl)
 subst hgu
 obtain ⟨gv, hgv, -, -⟩ := row_at Tryz.eltFrE (H11.out.sep.at_ (t := thR 39 encFrE 11 (.slice U9 1 c9) [⟨⟨4, 0, 5, 0, 128, 1, 0, false, s, [], 0⟩, none, 0⟩]) 2 rfl) (show ([⟨⟨4, 0, 5, 0, 128, 1, 0, false, s, [], 0⟩, none, 0⟩] : List FrE)[0]? = some ⟨⟨4, 0, 5, 0, 128, 1, 0, false, s, [], 0⟩, none, 0⟩ from rfl)
 subst hgv
 have Cu : ∀ y : More, cellsSay (plus V11 y) gu 0 [.int .u8 4, .int .u32 0, .int .u32 5, .int .u32 0, .int .u32 128, .int .u32 1, .int .u32 0, .bool false, .int .u64 s, .slice none 0 0, .int .i64 0] := fun y => rowSay Tryz.eltFrE ((H11.out.go (plus_below V11 y)).sep.at_ (t := thR 39 encFrE 11 (.slice (some ⟨gu, 0, none⟩) 1 c10) [⟨⟨4, 0, 5, 0, 128, 1, 0, false, s, [], 0⟩, none, 0⟩]) 1 rfl) _ rfl
 have Cv : ∀ y : More, cellsSay (plus V11 y) gv 0 [.int .u8 4, .int .u32 0, .int .u32 5, .int .u32 0, .int .u32 128, .int .u32 1, .int .u32 0, .bool false, .int .u64 s, .slice none 0 0, .int .i64 0] := fun y => rowSay Tryz.eltFrE ((H11.out.go (plus_below V11 y)).sep.at_ (t := thR 39 encFrE 11 (.slice (some ⟨gv, 0, none⟩) 1 c9) [⟨⟨4, 0, 5, 0, 128, 1, 0, false, s, [], 0⟩, none, 0⟩]) 2 rfl) _ rfl
 simp only [cellsSay, Nat.reduceAdd, and_true] at Cu Cv
 have hQ : ∀ w, (binOp .eql 36 (.agg #[.int .u32 0, .int .u32 128, .int .u32 1]) (.agg #[.int .u32 0, .int .u32 128, .int .u32 1])).run Tryz.prog w = .ok (.bool true) w := fun w => eqPlB_run 0 128 1 0 128 1 w
 have hSa : ∀ y : More, Calls Tryz.prog 22 #[.agg #[.int .u8 4, .int .u32 0, .int .u32 5, .int .u32 0, .int .u32 128, .int .u32 1, .int .u32 0, .bool false, .int .u64 s, .slice none 0 0, .int .i64 0], .agg #[.int .u8 4, .int .u32 0, .int .u32 5, .int .u32 0, .int .u32 128, .int .u32 1, .int .u32 0, .bool false, .int .u64 s, .slice none 0 0, .int .i64 0]] (plus V11 y) fun e w' => e = .returned (.bool true) ∧ ∃ y', w' = plus V11 y' := fun y => by
  have h1 := rfsame_any ⟨4, 0, 5, 0, 128, 1, 0, false, s, [], 0⟩ ⟨4, 0, 5, 0, 128, 1, 0, false, s, [], 0⟩ none none 0 0 (plus V11 y) (Bs.nil _ _) (Bs.nil _ _)
  rw [(sameF_iff _ _).2 rfl] at h1
  exact ext_of h1
 have HSa := Lib.hid hSa
 clear hSa
 refine wp_region_ext (by kernel_rfl) (by kernel_rfl) ?_
 repeat (go_big_quiet_step ((go_at_call 22; exact HSa.out _)))
 refine wpQuiet_nil ?_
 rintro w12 ⟨y, hw12⟩
 have hb := H11.out.b.trans (show Below w.heap.size V11 w12 by rw [hw12]; exact (plus_below V11 y).mono H11.out.b.size)
 clear Cu Cv hQ HSa hw12
 go_wp2_with fail
 go_ret
 exact ⟨rfl, hb⟩
end Go.Proofs.YtmcdollkmlcpbaaGreatDoor
set_option linter.unusedSimpArgs false
set_option linter.unusedVariables false
namespace Go.Proofs.YtmcdollkmlcpbaaGreatDoor
open Go.RowKit
set_option maxRecDepth 100000
theorem sent_kd (x : Nat) (C : CsT) (p : Nat × Nat × Nat) (most : Int) (fu : Bool) : (sentF x C p most fu).kd = (if fu then 3 else 2) ∧ (sentF x C p most fu).ep = 0 := by
 refine ⟨rfl, ?_⟩
 show (cutF x C _ _ _ most).1.ep = 0
 unfold cutF
 split
 ·rfl
 ·split <;> rfl
theorem look_of {E : BD} {f : FrD} (hk : f.kd = 2 ∨ f.kd = 3) (he : f.ep = 0) : lookF E 0 f = if reactF E f = 1 then ⟨0, noF f, true, [], 0⟩ else if reactF E f = 2 then ⟨0, zeroN, false, [ansF E 0 4 f.se], 0⟩ else if reactF E f = 3 then ⟨0, zeroN, false, [ansF E 0 5 f.se], 0⟩ else ⟨0, zeroN, false, [], 171⟩ := by
 unfold lookF
 rw [if_neg (by omega), if_neg (by omega), if_neg (by omega), he]
structure LokI (D E : BD) (f : FrD) (L : LkD) : Prop where
 ep : L.ep = 0
 some_ : L.so = true → L.nd = noF f ∧ L.fs = [] ∧ L.er = 0 ∧ SntI D E f.se f
 main : f.cn ≠ 0 → L.er = 0 ∧ (L.so = true ∨ L.so = false ∧ L.fs.length = 1)
 nl : L.nd.l.length ≤ 1000
theorem snt_look {D E : BD} (hD : OkD D) (h24 : ∀ x, ∀ L ∈ D.at_ x, L.length ≤ 24) (hs60 : ∀ x, (D.at_ x).flatten.length ≤ 60) (hF : FrtD D E) {x : Nat} (hx : x < 4294967296) {p : Nat × Nat × Nat} (hp : hasC (D.at_ x) p.1 p.2.1 p.2.2 = true) (most : Int) (fu : Bool) :
  LokI D E (sentF x (D.at_ x) p most fu) (lookF E 0 (sentF x (D.at_ x) p most fu)) := by
 obtain ⟨h1, h2⟩ := sent_main hD h24 hs60 hF hx hp most fu
 obtain ⟨k1, k2⟩ := sent_kd x (D.at_ x) p most fu
 obtain ⟨f, hf⟩ : ∃ f, f = sentF x (D.at_ x) p most fu := ⟨_, rfl⟩
 rw [← hf] at h1 h2 k1 k2 ⊢
 rw [look_of (by rw [k1]; cases fu; exact .inl rfl; exact .inr rfl) k2]
 by_cases r1 : reactF E f = 1
 ·rw [if_pos r1]
  obtain ⟨a, b⟩ := h1 r1
  exact ⟨rfl, fun _ => ⟨rfl, rfl, rfl, by rw [b]; exact a⟩, fun _ => ⟨rfl, .inl rfl⟩, a.ll⟩
 ·rw [if_neg r1]
  by_cases r2 : reactF E f = 2
  ·rw [if_pos r2]
   exact ⟨rfl, fun e => (by cases e), fun _ => ⟨rfl, .inr ⟨rfl, rfl⟩⟩, Nat.zero_le _⟩
  ·rw [if_neg r2]
   by_cases r3 : reactF E f = 3
   ·rw [if_pos r3]
    exact ⟨rfl, fun e => (by cases e), fun _ => ⟨rfl, .inr ⟨rfl, rfl⟩⟩, Nat.zero_le _⟩
   ·rw [if_neg r3]
    refine ⟨rfl, fun e => (by cases e), fun hc => ?_, Nat.zero_le _⟩
    obtain ⟨a, b⟩ := h2 hc
    omega
theorem SntI.do_ {D E : BD} {f : FrD} (h : SntI D E f.se f) (ep : Nat) : doF E ep (noF f) = (takeD E (frN (noF f)), [ansF (takeD E (frN (noF f))) ep 4 f.se], 0) := by
 unfold doF
 rw [if_neg (fun e => e rfl), if_pos h.fit]
 rfl
theorem SntI.again {D E : BD} {f : FrD} (h : SntI D E f.se f) (hk : f.kd = 2) (he : f.ep = 0) : lookF (takeD E (frN (noF f))) 0 f = ⟨0, zeroN, false, [ansF (takeD E (frN (noF f))) 0 4 f.se], 0⟩ := by
 have hr : reactF (takeD E (frN (noF f))) f = 2 := by
  obtain ⟨⟨e1, e2, e3⟩, hee⟩ : ∃ p, p = endC ((takeD E (frN (noF f))).at_ f.se) := ⟨_, rfl⟩
  have hp := h.past
  unfold reactF
  rw [← hee] at hp ⊢
  dsimp only at hp ⊢
  rw [if_neg (by omega), if_neg (fun e => by injection e with a b; injection b with b c; omega), if_pos (by omega)]
 rw [look_of (.inl hk) he, if_neg (by rw [hr]; decide), if_pos hr]
theorem FrtD.flat {D E : BD} (h : FrtD D E) (x : Nat) : (E.at_ x).flatten = (D.at_ x).flatten.take (E.at_ x).flatten.length ∧ (E.at_ x).flatten.length ≤ (D.at_ x).flatten.length := by
 obtain ⟨pc, pb, pn, hh, hE⟩ := h.at_ x
 rw [hE, cutAt_flat hh, List.length_take]
 refine ⟨?_, Nat.min_le_right _ _⟩
 rw [Nat.min_def]
 split
 ·rfl
 ·rename_i h1
  rw [List.take_length, List.take_of_length_le (by omega)]
section
variable {B : Nat} {w0 w w' : World} {r q ep : Nat} {D E : BD} {ts us : List Kt} {Y : Bl}
theorem rv_sent (h : Rv B w0 w r q ep E (thBk Y :: ts)) (ok : OkB Y) {A : Option Addr} {tn cc : Nat} {T : List Se} (hm : thR 54 encSe 2 (.slice A tn cc) T ∈ ts) (htn : tn = T.length) (ht0 : 0 < tn) (ht64 : tn ≤ 64) (hid : ∀ z ∈ T, z.id < 4294967296) (x : Pi) (hx : OkPi x) :
  Calls Tryz.prog 17 #[ptB Y.q, .slice A tn cc, .agg #[.int .u8 ((x.k : Nat) : Int), .int .u8 ((x.fr : Nat) : Int), .int .u16 ((x.bi : Nat) : Int), .bool x.fu]] w (SntO w Y.D T x) := by
 obtain ⟨us, hA, hsub⟩ := h.other ok
 exact sent_any hA (hsub _ hm) htn ht0 ht64 hid x hx
end
end Go.Proofs.YtmcdollkmlcpbaaGreatDoor
set_option linter.unusedSimpArgs false
set_option linter.unusedVariables false
namespace Go.Proofs.YtmcdollkmlcpbaaGreatDoor
open Go.RowKit
set_option maxRecDepth 100000
structure SrcD (D : BD) : Prop where
 ok : OkD D
 s24 : ∀ x, ∀ L ∈ D.at_ x, L.length ≤ 24
 s60 : ∀ x, (D.at_ x).flatten.length ≤ 60
theorem LaI.src {sz k : Nat} {D : BD} (h : LaI sz k D) (h24 : sz ≤ 24) (hk : k ≤ 60) : SrcD D := by
 refine ⟨h.ok, fun x L hL => ?_, fun x => Nat.le_trans (h.len x) hk⟩
 have hne := (h.ok.at_ x).ne
 rw [← List.dropLast_concat_getLast hne] at hL
 rcases List.mem_append.1 hL with h1 | h1
 ·rw [h.full x L h1]
  exact h24
 ·have h2 := h.last x
  unfold lastL at h2
  rw [List.getLast?_eq_some_getLast hne, Option.getD_some] at h2
  rw [List.mem_singleton] at h1
  rw [h1]
  omega
theorem sent_okR {x : Nat} {C : CsT} (oc : OkC1 C) (hx : x < 4294967296) (h24 : ∀ L ∈ C, L.length ≤ 24) {p : Nat × Nat × Nat} (hp : hasC C p.1 p.2.1 p.2.2 = true) (most : Int) (fu : Bool) : (sentF x C p most fu).ok ∧ (sentF x C p most fu).l.length ≤ 1000 := by
 have hh := start_has oc hp fu
 by_cases he : startP fu p = endC C
 ·rw [sent_zero hh he]
  cases fu <;> exact ⟨⟨by decide, by decide, by decide, by decide, by decide, by decide, by decide, by decide, by decide, by decide⟩, Nat.zero_le _⟩
 ·obtain ⟨⟨pc, pb, pn⟩, hP⟩ : ∃ P, P = startP fu p := ⟨_, rfl⟩
  rw [← hP] at hh he
  dsimp only at hh
  have hE : (⟨64, 24, [(x, cutAt C pc pn)]⟩ : BD).at_ x = cutAt C pc pn := by
   unfold BD.at_
   show (lookM [(x, cutAt C pc pn)] x).getD [[]] = _
   rw [lookM_cons, if_pos rfl]
   rfl
  have hf : fullD ⟨64, 24, [(x, cutAt C pc pn)]⟩ x = false := by
   unfold fullD
   exact decide_eq_false (fun h => absurd (show 64 ≤ 1 from h.2) (by decide))
  obtain ⟨hg, -⟩ := fol_gen (most := most) oc hx h24 hh he hh (.inl rfl) hE rfl hf
  have hok := hg.ok
  have hl := hg.ll
  unfold sentF
  rw [← hP]
  dsimp only
  refine ⟨⟨show (if fu then 3 else 2) < 256 by cases fu <;> decide, hok.2.1, hok.2.2.1, hok.2.2.2.1, hok.2.2.2.2.1, hok.2.2.2.2.2.1, hok.2.2.2.2.2.2.1, ?_, hok.2.2.2.2.2.2.2.2⟩, hl⟩
  cases fu
  ·exact hok.2.2.2.2.2.2.2.1
  ·exact (by decide : (0 : Nat) < 18446744073709551616)
structure SntQ (D E : BD) (f : FrD) (fu : Bool) : Prop where
 ok : f.ok
 ll : f.l.length ≤ 1000
 kd : f.kd = (if fu then 3 else 2)
 ep : f.ep = 0
 lok : LokI D E f (lookF E 0 f)
section
variable {B : Nat} {w0 w w' : World} {r q ep : Nat} {D E : BD} {ts us : List Kt} {Y : Bl}
theorem rv_snt (hS : SrcD D) (hF : FrtD D E) (h : Rv B w0 w r q 0 E (thBk Y :: ts)) (ok : OkB Y) (hY : Y.D = D) {A : Option Addr} {tn cc : Nat} {T : List Se} (hm : thR 54 encSe 2 (.slice A tn cc) T ∈ ts) (htn : tn = T.length) (ht0 : 0 < tn) (ht64 : tn ≤ 64) (hid : ∀ z ∈ T, z.id < 4294967296) (x : Pi) (hx : OkPi x) :
  Calls Tryz.prog 17 #[ptB Y.q, .slice A tn cc, .agg #[.int .u8 ((x.k : Nat) : Int), .int .u8 ((x.fr : Nat) : Int), .int .u16 ((x.bi : Nat) : Int), .bool x.fu]] w fun e w' => ∃ f A' c', e = .returned (.agg (frC f A' c')) ∧ SntQ D E f x.fu ∧ Rv B w0 w' r q 0 E (thO (.slice A' f.l.length c') f.l :: thBk Y :: ts) := by
 refine (rv_sent h ok hm htn ht0 ht64 hid x hx).mono ?_
 rintro e w' ⟨z, p, A', c', hz, hp, rfl, ho, b⟩
 rw [hY] at hp ho ⊢
 have hz32 := hid z hz
 obtain ⟨h1, h2⟩ := sent_okR (x := z.id) (hS.ok.at_ z.id) hz32 (hS.s24 z.id) hp (x.bi : Nat) x.fu
 obtain ⟨k1, k2⟩ := sent_kd z.id (D.at_ z.id) p (x.bi : Nat) x.fu
 refine ⟨_, A', c', rfl, ⟨h1, h2, k1, k2, snt_look hS.ok hS.s24 hS.s60 hF hz32 hp (x.bi : Nat) x.fu⟩, ?_⟩
 exact h.cons (t := thO (.slice A' (sentF z.id (D.at_ z.id) p (x.bi : Nat) x.fu).l.length c') (sentF z.id (D.at_ z.id) p (x.bi : Nat) x.fu).l) b (ho.mono (Nat.zero_le _)) (fun k hk => (World.ownsRow.lt ho k hk).1)
theorem rv_look {f : FrD} {fu : Bool} (hQ : SntQ D E f fu) (h : Rv B w0 w r q 0 E ts) (hT : Tab w0) (hB : w0.heap.size ≤ B) (A : Option Addr) (c : Nat) (hA : Bs w A f.l) :
  Calls Tryz.prog 11 #[ptB r, .agg (frC f A c)] w fun e w' => ∃ (nd : NoD) (so : Bool) (fn er : Nat) (A1 : Option Addr) (c1 : Nat) (U : Option Addr) (c2 : Nat), e = .returned (.tuple #[.agg (noC nd A1 c1), .bool so, .slice U fn c2, .int .u16 er]) ∧ ((so = true → nd = noF f ∧ fn = 0 ∧ er = 0 ∧ SntI D E f.se f) ∧ (f.cn ≠ 0 → er = 0 ∧ (so = true ∨ so = false ∧ fn = 1))) ∧ Rv B w0 w' r q 0 E (thO (.slice A1 nd.l.length c1) nd.l :: ts) := by
 have hl := hQ.lok
 refine (look_any h hT hB f hQ.ok A c hA hQ.ll).mono ?_
 rintro e w' ⟨A1, c1, U, c2, rfl, h2⟩
 generalize lookF E 0 f = L at hl h2 ⊢
 rw [hl.ep] at h2
 exact ⟨L.nd, L.so, L.fs.length, L.er, A1, c1, U, c2, rfl, ⟨fun e => ⟨(hl.some_ e).1, by rw [(hl.some_ e).2.1]; rfl, (hl.some_ e).2.2.1, (hl.some_ e).2.2.2⟩, hl.main⟩, h2.tail⟩
theorem rv_do {f : FrD} (hS : SrcD D) (hF : FrtD D E) (hI : SntI D E f.se f) (h : Rv B w0 w r q 0 E ts) (hT : Tab w0) (hB : w0.heap.size ≤ B) (A : Option Addr) (c : Nat) (hA : Bs w A f.l) :
  Calls Tryz.prog 18 #[ptB r, .agg (noC (noF f) A c)] w fun e w' => ∃ (U : Option Addr) (c2 : Nat), e = .returned (.tuple #[.slice U 1 c2, .int .u16 0]) ∧ Rv B w0 w' r q 0 (takeD E (frN (noF f))) (thR 39 encFrE 11 (.slice U 1 c2) [fe (ansF (takeD E (frN (noF f))) 0 4 f.se)] :: ts) := by
 have h60 := hS.s60 f.se
 have hfl := (hF.flat f.se).2
 refine (do_any h hT hB (noF f) hI.nok A c hA hI.ll (by show (E.at_ f.se).flatten.length + 24 ≤ 1000; omega)).mono ?_
 rintro e w' ⟨U, c2, rfl, h2⟩
 rw [hI.do_ 0] at h2 ⊢
 exact ⟨U, c2, rfl, h2⟩
theorem rv_again {f : FrD} (hQ : SntQ D E f false) (hI : SntI D E f.se f) (h : Rv B w0 w r q 0 (takeD E (frN (noF f))) ts) (hT : Tab w0) (hB : w0.heap.size ≤ B) (A : Option Addr) (c : Nat) (hA : Bs w A f.l) :
  Calls Tryz.prog 11 #[ptB r, .agg (frC f A c)] w fun e w' => ∃ (A1 : Option Addr) (c1 : Nat) (U : Option Addr) (c2 : Nat), e = .returned (.tuple #[.agg (noC zeroN A1 c1), .bool false, .slice U 1 c2, .int .u16 0]) ∧ Rv B w0 w' r q 0 (takeD E (frN (noF f))) (thR 39 encFrE 11 (.slice U 1 c2) [fe (ansF (takeD E (frN (noF f))) 0 4 f.se)] :: thO (.slice A1 0 c1) [] :: ts) := by
 refine (look_any h hT hB f hQ.ok A c hA hQ.ll).mono ?_
 rintro e w' ⟨A1, c1, U, c2, rfl, h2⟩
 rw [hI.again hQ.kd hQ.ep] at h2 ⊢
 exact ⟨A1, c1, U, c2, rfl, h2⟩
end
end Go.Proofs.YtmcdollkmlcpbaaGreatDoor
set_option linter.unusedSimpArgs false
set_option linter.unusedVariables false
namespace Go.Proofs.YtmcdollkmlcpbaaGreatDoor
open Go.RowKit
set_option maxRecDepth 100000
set_option maxHeartbeats 32000000 in
theorem recvAgain_walk (size : Int) (hsz : in64 size) (V : Option Addr) (c : Nat) (l : List OB) (V2 : Option Addr) (c2 : Nat) (L2 : List Pi) (w : World) (hV : Rw w encOB 17 V l) (hok : ∀ o ∈ l, OkOB o) (hV2 : Rw w encPi 4 V2 L2) (hok2 : ∀ x ∈ L2, OkPi x) (hT : Tab w) :
  Calls Tryz.prog 6 #[.int .i64 size, .slice V l.length c, .slice V2 L2.length c2] w fun e w' => e = .returned (.bool true) ∧ Below w.heap.size w w' := by
 have hmx : Tryz.prog.follows .mixedOrders = true := by kernel_rfl
 have HKn := Lib.hid (rknown_any w hT)
 obtain ⟨n, hn⟩ : ∃ n, n = l.length := ⟨_, rfl⟩
 obtain ⟨n2, hn2⟩ : ∃ n, n = L2.length := ⟨_, rfl⟩
 rw [← hn, ← hn2]
 have HV2 := Lib.hid (And.intro hV2 (And.intro hok2 (And.intro hn2 hT)))
 clear hV2 hok2 hn2
 by_cases h60 : n ≤ 50
 case neg =>
  have k60 : (50 : Int) < (n : Int) := by omega
  clear hV hok hn hT
  go_enter Tryz.func6, Tryz.ntmps6
  go_wp2_with (go_at_call 7; refine HKn.out.mono ?_; rintro e w2 ⟨rfl, b2⟩)
  go_ret
  exact ⟨rfl, b2⟩
 have k60 : ¬ (50 : Int) < (n : Int) := by omega
 by_cases h61 : n2 ≤ 60
 case neg =>
  have k61 : (60 : Int) < (n2 : Int) := by omega
  clear hV hok hn hT
  go_enter Tryz.func6, Tryz.ntmps6
  go_wp2_with (go_at_call 7; refine HKn.out.mono ?_; rintro e w2 ⟨rfl, b2⟩)
  go_ret
  exact ⟨rfl, b2⟩
 have k61 : ¬ (60 : Int) < (n2 : Int) := by omega
 have HLy := Lib.hid (fun (w1 : World) (h : Below w.heap.size w w1) => bLay_any (Sep.nil h h.size) hT (Nat.le_refl _) size hsz V c l hV hok (by omega))
 have hLa : LaI (laSz size) l.length (laD (laSz size) l) := by
  have h1 : 1 ≤ laSz size ∧ laSz size ≤ 24 := by unfold laSz; omega
  have := laD_ok h1.1 h1.2 l hok l.length (Nat.le_refl _) (by omega)
  rw [List.take_length] at this
  exact this
 have hSo : SrcD (laD (laSz size) l) := hLa.src (by unfold laSz; omega) (by omega)
 rw [← hn] at HLy hLa
 obtain ⟨D, hD⟩ : ∃ D, D = laD (laSz size) l := ⟨_, rfl⟩
 rw [← hD] at HLy hLa hSo
 have HLa := Lib.hid hLa
 have HSo := Lib.hid hSo
 clear hV hok hn hT hsz hD hLa hSo
 go_enter Tryz.func6, Tryz.ntmps6
 go_upto_region 4 with (first | (go_at_call 7; refine HKn.out.mono ?_; rintro e w1 ⟨rfl, b1⟩) | (go_at_call 8; refine (HLy.out _ b1).mono ?_; rintro e w3 ⟨qa, T, A, cc, rfl, hTD, hB⟩))
 rw [List.append_nil] at hB
 obtain ⟨tn, htn⟩ : ∃ n, n = T.length := ⟨_, rfl⟩
 rw [← htn] at hB ⊢
 have htn64 : tn ≤ 64 := by
  have h1 := HLa.out.ok.few
  have h2 := HLa.out.ok.mo2
  have h3 := congrArg List.length hTD
  rw [List.length_map, allD_len] at h3
  omega
 have hid32 : ∀ z ∈ T, z.id < 4294967296 := fun z hz => by
  obtain ⟨k, hk⟩ := List.getElem?_of_mem hz
  have := (la_key HLa.out hTD hk).1
  omega
 obtain ⟨Ls, hLs⟩ : ∃ Ls, Ls = laT (.slice A tn cc) T := ⟨_, rfl⟩
 rw [← hLs] at hB
 have HMem := Lib.hid (show thR 54 encSe 2 (.slice A tn cc) T ∈ Ls ∧ ∀ y ∈ T, seT y ∈ Ls by
  rw [hLs]
  exact ⟨List.mem_cons_self, fun y hy => List.mem_cons_of_mem _ (List.mem_map_of_mem hy)⟩)
 have HN2 := Lib.hid (bk2_new hB 64 24 (by decide) (by decide) (by decide) (by decide))
 have HL := Lib.hid (And.intro hTD (And.intro htn (And.intro htn64 hid32)))
 clear hTD htn hB b1 HKn HLy hLs htn64 hid32
 go_upto_region 5 with (go_at_call 16; refine HN2.out.mono ?_; rintro e w4 ⟨qb, rfl, hK⟩)
 clear HN2
 by_cases ht0 : tn = 0
 case pos =>
  subst ht0
  have HBb := Lib.hid hK.b
  clear hK
  go_wp2_with fail
  go_ret
  exact ⟨rfl, HBb.out⟩
 have m0 : (((tn : Nat) : Int) == 0) = false := beq_eq_false_iff_ne.2 (by omega)
 obtain ⟨Y, hY1, hY2, okY, hB2⟩ := hK.swap
 have HRn := Lib.hid (rnew_any hB2)
 have HY := Lib.hid (And.intro hY1 (And.intro hY2 (And.intro okY (Nat.pos_of_ne_zero ht0))))
 clear hK hB2 hY1 hY2 okY ht0
 go_upto_region 10 with (go_at_call 9; refine HRn.out.mono ?_; rintro e w5 ⟨r, rfl, h5⟩)
 have H5 := Lib.hid (And.intro (FrtD.new HSo.out.ok) h5)
 clear h5 HRn m0
 go_upto_region 11 with fail
 go_loopw [11, 12, 13, 14, 15, 16, 17, 18, 19, 20, 21, 22, 23] (fun s11 s12 s13 s14 s15 s16 s17 s18 s19 s20 s21 s22 s23 wr => ∃ (i : Nat) (E : BD), s11 = .int .i64 i ∧ i ≤ n2 ∧ Hid (FrtD D E ∧ Rv w.heap.size w wr r qb 0 E (thBk Y :: Ls)))
  (fun s11 _ _ _ _ _ _ _ _ _ _ _ _ _ => n2 - (intOf s11).toNat)
 case atStart => exact ⟨0, _, by go_num, Nat.zero_le _, H5⟩
 case round =>
  obtain ⟨i, E, rfl, hi, HI⟩ := hrel
  obtain ⟨wi, hwi⟩ : ∃ wi, wi = wr := ⟨_, rfl⟩
  rw [← hwi] at HI ⊢
  clear hwi
  by_cases hit : i < n2
  ·have hit2 : (i : Int) < (n2 : Int) := by omega
   obtain ⟨x, hx⟩ : ∃ x, L2[i]? = some x := ⟨_, List.getElem?_eq_getElem (by rw [← HV2.out.2.2.1]; exact hit)⟩
   obtain ⟨pa, po, hpa, hc⟩ := HV2.out.1 i x hx
   subst hpa
   have hoo := HV2.out.2.1 x (List.mem_of_getElem? hx)
   obtain ⟨xk, xf, xb, xu⟩ := x
   have old : ∀ j q, (#[.int .u8 xk, .int .u8 xf, .int .u16 xb, .bool xu] : Array Value).toList[j]? = some q → wi.cell? ⟨pa, po + i * 4 + j, none⟩ = some q := fun j q hj => by
    have h1 := hc j q hj
    exact (HI.out.2.b.cell (cell_lt h1)).trans h1
   have P0 : wi.cell? ⟨pa, po + i * 4, none⟩ = some (.int .u8 xk) := old 0 _ rfl
   have P1 : wi.cell? ⟨pa, po + i * 4 + 1, none⟩ = some (.int .u8 xf) := old 1 _ rfl
   have P2 : wi.cell? ⟨pa, po + i * 4 + 2, none⟩ = some (.int .u16 xb) := old 2 _ rfl
   have P3 : wi.cell? ⟨pa, po + i * 4 + 3, none⟩ = some (.bool xu) := old 3 _ rfl
   have HP := Lib.hid (And.intro hoo (And.intro hx hc))
   clear hoo old hx hc
   go_upto_region 14 with fail
   have h5 := HI.out.2.box #[.int .u8 xk, .int .u8 xf, .int .u16 xb, .bool xu] 62
   generalize hV5 : World.alloc _ _ = V5 at h5 ⊢
   obtain ⟨g12, hg12⟩ : ∃ g, g = wi.heap.size := ⟨_, rfl⟩
   rw [← hg12] at h5 ⊢
   have H5b := Lib.hid h5
   have HFr := Lib.hid HI.out.1
   clear hV5 hg12 h5 P0 P1 P2 P3 HI
   have D12 := cells_say (H5b.out.sep.blk 0) _ 0 rfl
   simp only [cellsSay, List.drop_zero, Nat.reduceAdd, and_true] at D12
   go_upto_region 15 with fail
   generalize hW5 : World.setCell _ _ _ = W5
   have h5 := H5b.out.put_ 0 g12 [(3, .bool false)] #[.int .u8 xk, .int .u8 xf, .int .u16 xb, .bool false] hW5
   simp only [List.set_cons_succ, List.set_cons_zero] at h5
   have H5c := Lib.hid h5
   clear hW5 h5 H5b D12
   have D12 := cells_say (H5c.out.sep.blk 0) _ 0 rfl
   simp only [cellsSay, List.drop_zero, Nat.reduceAdd, and_true] at D12
   have hsn := rv_snt HSo.out HFr.out H5c.out.tail HY.out.2.2.1 HY.out.2.1 HMem.out.1 HL.out.2.1 HY.out.2.2.2 HL.out.2.2.1 HL.out.2.2.2 ⟨xk, xf, xb, false⟩ HP.out.1
   rw [HY.out.1] at hsn
   have HSn := Lib.hid hsn
   clear hsn H5c
   go_upto_region 16 with (go_at_call 17; refine HSn.out.mono ?_; rintro e w6 ⟨⟨kd, fe_, se, fc, fb, fn, cn, cl, sm, fl, nn⟩, fA, fcap, rfl, hQ, h6⟩; simp only [frC])
   obtain ⟨fll, hfll⟩ : ∃ n, n = fl.length := ⟨_, rfl⟩
   dsimp only at h6
   rw [← hfll] at h6 ⊢
   have h7 := h6.box #[.int .u8 kd, .int .u32 fe_, .int .u32 se, .int .u32 fc, .int .u32 fb, .int .u32 fn, .int .u32 cn, .bool cl, .int .u64 sm, .slice fA fll fcap, .int .i64 nn] 39
   generalize hV7 : World.alloc _ _ = V7 at h7 ⊢
   obtain ⟨g14, hg14⟩ : ∃ g, g = w6.heap.size := ⟨_, rfl⟩
   rw [← hg14] at h7 ⊢
   have hA7 : Bs V7 fA fl := by
    have := OwnB.bs (h7.sep.own 1)
    exact this
   have HLk := Lib.hid (rv_look hQ h7 HV2.out.2.2.2 (Nat.le_refl _) fA fcap hA7)
   clear D12
   have D14 := cells_say (h7.sep.blk 0) _ 0 rfl
   simp only [cellsSay, List.drop_zero, Nat.reduceAdd, and_true] at D14
   simp only [frC] at HLk
   rw [← hfll] at HLk
   have HQ := Lib.hid (And.intro hQ hfll)
   clear hfll hQ hA7 h6 h7 hV7 hg14 HSn HP
   go_upto_region 17 with (go_at_call 11; refine HLk.out.mono ?_; rintro e w8 ⟨⟨nk, ne, ns, nst, nsv, npc, npb, npn, ncn, ncl, nl, nnn⟩, so, fn2, er, A1, c1, U, c3, rfl, hL, h8⟩; simp only [noC])
   obtain ⟨nll, hnll⟩ : ∃ n, n = nl.length := ⟨_, rfl⟩
   dsimp only at h8
   rw [← hnll] at h8 ⊢
   have h9 := h8.box #[.int .u8 nk, .int .u32 ne, .int .u32 ns, .int .i64 nst, .int .u64 nsv, .int .u32 npc, .int .u32 npb, .int .u32 npn, .int .u32 ncn, .bool ncl, .slice A1 nll c1, .int .i64 nnn] 44
   generalize hV9 : World.alloc _ _ = V9 at h9 ⊢
   obtain ⟨g15, hg15⟩ : ∃ g, g = w8.heap.size := ⟨_, rfl⟩
   rw [← hg15] at h9 ⊢
   have H9 := Lib.hid h9
   have HLo := Lib.hid hL
   have HNl := Lib.hid hnll
   clear hV9 hg15 h8 h9 hL hnll HLk D14
   cases so with
   | false =>
    clear HLo HNl
    go_wp2_with fail
    go_roundw
    case measure => simp [intOf]; omega
    case rel => exact ⟨i + 1, E, by go_num, by omega, Lib.hid ⟨HFr.out, H9.out.tail.tail.tail.tail⟩⟩
   | true =>
    obtain ⟨f1, f2, f3, hI⟩ := HLo.out.1 rfl
    have f4 := f1.symm
    unfold noF at f4
    injection f4 with f1 f2 f3 f4 f5 f6 f7 f8 f9 f10 f11 f12
    subst f1 f2 f3 f4 f5 f6 f7 f8 f9 f10 f11 f12
    have D15 := cells_say (H9.out.sep.blk 0) _ 0 rfl
    simp only [cellsSay, List.drop_zero, Nat.reduceAdd, and_true] at D15
    have hA9 : Bs V9 A1 fl := by
     have := OwnB.bs (H9.out.sep.own 1)
     exact this
    have hdo := rv_do (f := ⟨kd, fe_, se, fc, fb, fn, cn, cl, sm, fl, nn⟩) HSo.out HFr.out hI H9.out HV2.out.2.2.2 (Nat.le_refl _) A1 c1 hA9
    have hag := fun (W : World) (us : List Kt) (h : Rv w.heap.size w W r qb 0 (takeD E (frN (noF ⟨kd, fe_, se, fc, fb, fn, cn, cl, sm, fl, nn⟩))) us) (hA : Bs W fA fl) => rv_again (f := ⟨kd, fe_, se, fc, fb, fn, cn, cl, sm, fl, nn⟩) HQ.out.1 hI h HV2.out.2.2.2 (Nat.le_refl _) fA fcap hA
    obtain ⟨E', hE'⟩ : ∃ E', E' = takeD E (frN (noF ⟨kd, fe_, se, fc, fb, fn, cn, cl, sm, fl, nn⟩)) := ⟨_, rfl⟩
    have hfrt := hI.frt
    rw [← hE'] at hdo hag hfrt
    obtain ⟨e1, e2, e3, s, hAN⟩ : ∃ e1 e2 e3 s : Nat, fe (ansF E' 0 4 se) = ⟨⟨4, 0, se, e1, e2, e3, 0, false, s, [], 0⟩, none, 0⟩ := ⟨_, _, _, _, rfl⟩
    have hdo2 : Calls Tryz.prog 18 #[ptB r, .agg #[.int .u8 4, .int .u32 0, .int .u32 se, .int .i64 0, .int .u64 0, .int .u32 fc, .int .u32 fb, .int .u32 fn, .int .u32 cn, .bool cl, .slice A1 nll c1, .int .i64 nn]] V9 fun e w' => ∃ (U : Option Addr) (c2 : Nat), e = .returned (.tuple #[.slice U 1 c2, .int .u16 0]) ∧ Rv w.heap.size w w' r qb 0 E' (thR 39 encFrE 11 (.slice U 1 c2) [⟨⟨4, 0, se, e1, e2, e3, 0, false, s, [], 0⟩, none, 0⟩] :: thB g15 44 #[.int .u8 4, .int .u32 0, .int .u32 se, .int .i64 0, .int .u64 0, .int .u32 fc, .int .u32 fb, .int .u32 fn, .int .u32 cn, .bool cl, .slice A1 nll c1, .int .i64 nn] :: thO (.slice A1 nll c1) fl :: thB g14 39 #[.int .u8 kd, .int .u32 fe_, .int .u32 se, .int .u32 fc, .int .u32 fb, .int .u32 fn, .int .u32 cn, .bool cl, .int .u64 sm, .slice fA fll fcap, .int .i64 nn] :: thO (.slice fA fll fcap) fl :: thBk Y :: Ls) := by
     rw [← hAN, HNl.out]
     rw [HNl.out] at hdo
     exact hdo
    have hag2 : ∀ (W : World) (us : List Kt), Rv w.heap.size w W r qb 0 E' us → Bs W fA fl → Calls Tryz.prog 11 #[ptB r, .agg #[.int .u8 kd, .int .u32 fe_, .int .u32 se, .int .u32 fc, .int .u32 fb, .int .u32 fn, .int .u32 cn, .bool cl, .int .u64 sm, .slice fA fll fcap, .int .i64 nn]] W fun e w' => ∃ (A2 : Option Addr) (c5 : Nat) (U : Option Addr) (c2 : Nat), e = .returned (.tuple #[.agg #[.int .u8 0, .int .u32 0, .int .u32 0, .int .i64 0, .int .u64 0, .int .u32 0, .int .u32 0, .int .u32 0, .int .u32 0, .bool false, .slice A2 0 c5, .int .i64 0], .bool false, .slice U 1 c2, .int .u16 0]) ∧ Rv w.heap.size w w' r qb 0 E' (thR 39 encFrE 11 (.slice U 1 c2) [⟨⟨4, 0, se, e1, e2, e3, 0, false, s, [], 0⟩, none, 0⟩] :: thO (.slice A2 0 c5) [] :: us) := fun W us h hA => by
     have h1 := hag W us h hA
     rw [← hAN, HQ.out.2]
     exact h1
    have HDo := Lib.hid hdo2
    have HAg := Lib.hid hag2
    have HFr2 := Lib.hid hfrt
    clear hdo hag hdo2 hag2 hfrt hE' hAN hI hA9 HLo HFr
    go_upto_region 19 with (go_at_call 18; refine HDo.out.mono ?_; rintro e w10 ⟨U4, c4, rfl, h10⟩)
    clear D15 HDo H9
    have D14 := cells_say (h10.sep.blk 3) _ 0 rfl
    simp only [cellsSay, List.drop_zero, Nat.reduceAdd, and_true] at D14
    have hA10 : Bs w10 fA fl := by
     have := OwnB.bs (h10.sep.own 4)
     exact this
    have HLk := Lib.hid (HAg.out w10 _ h10 hA10)
    clear h10 hA10 HAg HQ HNl
    go_upto_region 20 with (go_at_call 11; refine HLk.out.mono ?_; rintro e w11 ⟨A2, c5, U5, c6, rfl, h11⟩)
    have h12 := h11.box #[.int .u8 0, .int .u32 0, .int .u32 0, .int .i64 0, .int .u64 0, .int .u32 0, .int .u32 0, .int .u32 0, .int .u32 0, .bool false, .slice A2 0 c5, .int .i64 0] 44
    generalize hV12 : World.alloc _ _ = V12 at h12 ⊢
    have H12 := Lib.hid h12
    clear hV12 h12 h11 HLk D14
    obtain ⟨gu, hgu, -, -⟩ := row_at Tryz.eltFrE (H12.out.sep.at_ (t := thR 39 encFrE 11 (.slice U5 1 c6) [⟨⟨4, 0, se, e1, e2, e3, 0, false, s, [], 0⟩, none, 0⟩]) 1 rfl) (show ([⟨⟨4, 0, se, e1, e2, e3, 0, false, s, [], 0⟩, none, 0⟩] : List FrE)[0]? = some ⟨⟨4, 0, se, e1, e2, e3, 0, false, s, [], 0⟩, none, 0⟩ from rfl)
    subst hgu
    obtain ⟨gv, hgv, -, -⟩ := row_at Tryz.eltFrE (H12.out.sep.at_ (t := thR 39 encFrE 11 (.slice U4 1 c4) [⟨⟨4, 0, se, e1, e2, e3, 0, false, s, [], 0⟩, none, 0⟩]) 3 rfl) (show ([⟨⟨4, 0, se, e1, e2, e3, 0, false, s, [], 0⟩, none, 0⟩] : List FrE)[0]? = some ⟨⟨4, 0, se, e1, e2, e3, 0, false, s, [], 0⟩, none, 0⟩ from rfl)
    subst hgv
    have HP := Lib.hid (fun y : More => H12.out.go (plus_below V12 y))
    have Cu : ∀ y : More, cellsSay (plus V12 y) gu 0 [.int .u8 4, .int .u32 0, .int .u32 se, .int .u32 e1, .int .u32 e2, .int .u32 e3, .int .u32 0, .bool false, .int .u64 s, .slice none 0 0, .int .i64 0] := fun y => rowSay Tryz.eltFrE ((HP.out y).sep.at_ (t := thR 39 encFrE 11 (.slice (some ⟨gu, 0, none⟩) 1 c6) [⟨⟨4, 0, se, e1, e2, e3, 0, false, s, [], 0⟩, none, 0⟩]) 1 rfl) _ rfl
    have Cv : ∀ y : More, cellsSay (plus V12 y) gv 0 [.int .u8 4, .int .u32 0, .int .u32 se, .int .u32 e1, .int .u32 e2, .int .u32 e3, .int .u32 0, .bool false, .int .u64 s, .slice none 0 0, .int .i64 0] := fun y => rowSay Tryz.eltFrE ((HP.out y).sep.at_ (t := thR 39 encFrE 11 (.slice (some ⟨gv, 0, none⟩) 1 c4) [⟨⟨4, 0, se, e1, e2, e3, 0, false, s, [], 0⟩, none, 0⟩]) 3 rfl) _ rfl
    simp only [cellsSay, Nat.reduceAdd, and_true] at Cu Cv
    have hSa : ∀ y : More, Calls Tryz.prog 22 #[.agg #[.int .u8 4, .int .u32 0, .int .u32 se, .int .u32 e1, .int .u32 e2, .int .u32 e3, .int .u32 0, .bool false, .int .u64 s, .slice none 0 0, .int .i64 0], .agg #[.int .u8 4, .int .u32 0, .int .u32 se, .int .u32 e1, .int .u32 e2, .int .u32 e3, .int .u32 0, .bool false, .int .u64 s, .slice none 0 0, .int .i64 0]] (plus V12 y) fun e w' => e = .returned (.bool true) ∧ ∃ y', w' = plus V12 y' := fun y => by
     have h1 := rfsame_any ⟨4, 0, se, e1, e2, e3, 0, false, s, [], 0⟩ ⟨4, 0, se, e1, e2, e3, 0, false, s, [], 0⟩ none none 0 0 (plus V12 y) (Bs.nil _ _) (Bs.nil _ _)
     rw [(sameF_iff _ _).2 rfl] at h1
     exact ext_of h1
    have HSa := Lib.hid hSa
    clear hSa H12
    refine wp_region_ext (by kernel_rfl) (by kernel_rfl) ?_
    repeat (go_big_quiet_step ((go_at_call 22; exact HSa.out _)))
    refine wpQuiet_nil ?_
    rintro w12 ⟨y, hw12⟩
    have hb : Rv w.heap.size w w12 r qb 0 E' (thBk Y :: Ls) := by rw [hw12]; exact (HP.out y).tail.tail.tail.tail.tail.tail.tail.tail
    have HB2 := Lib.hid hb
    clear Cu Cv hw12 hb HP HSa
    go_wp2_with fail
    go_roundw
    case measure => simp [intOf]; omega
    case rel => exact ⟨i + 1, E', by go_num, by omega, Lib.hid ⟨HFr2.out, HB2.out⟩⟩
  ·have hit2 : ¬ (i : Int) < (n2 : Int) := by omega
   have HBb := Lib.hid HI.out.2.b
   go_wp2_with fail
   go_ret
   exact ⟨rfl, HBb.out⟩
end Go.Proofs.YtmcdollkmlcpbaaGreatDoor
