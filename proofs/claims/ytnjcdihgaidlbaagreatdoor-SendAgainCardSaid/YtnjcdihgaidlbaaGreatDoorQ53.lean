/- Joined: MathSn, Sn1, Sn2, Sn5, Sn7, Sn3, Sn8, Sn9, Sn10, Sn11, Sn12, Sn13, Sn14, Sn15, Sn4, Sn6, Sn16, Sn17, Sn20, Sn21, Sn23, Sn24, Sn26, Sn27. -/
import Derived.Test.YtnjcdihgaidlbaaGreatDoorQ45
import Derived.Test.YtnjcdihgaidlbaaGreatDoorQ46
import Derived.Test.YtnjcdihgaidlbaaGreatDoorQ51
import Derived.Test.YtnjcdihgaidlbaaGreatDoorQ52
import Derived.Test.YtnjcdihgaidlbaaGreatDoorQ39
import Derived.Test.YtnjcdihgaidlbaaGreatDoorQ32
import Derived.Test.YtnjcdihgaidlbaaGreatDoorQ49
import Derived.Deep.DeepCutAuto
import Derived.Test.YtnjcdihgaidlbaaGreatDoorQ10
import Derived.Test.YtnjcdihgaidlbaaGreatDoorQ5
import Derived.Test.YtnjcdihgaidlbaaGreatDoorQ8
import Derived.Test.YtnjcdihgaidlbaaGreatDoorQ42
import Derived.Test.YtnjcdihgaidlbaaGreatDoorQ16
set_option linter.unusedSimpArgs false
set_option linter.unusedVariables false
set_option linter.unusedSimpArgs false
set_option linter.unusedVariables false
namespace Go.Proofs.YtnjcdihgaidlbaaGreatDoor
abbrev Pl := Nat × Nat × Nat
def befP (a b : Pl) : Bool := bef a.1 a.2.2 b.1 b.2.2
structure SD where
 bw : Nat
 PL : List PC
 tk : Nat
 TM : List (Nat × Nat × Nat)
 ep : Nat
 now : Nat
 CM : List (Nat × Pl)
 SM : List (Nat × Pl)
def placeM (M : List (Nat × Pl)) (x : Nat) : Pl := (lookM M x).getD (0, 0, 0)
def SD.come (S : SD) (x : Nat) : Pl := placeM S.CM x
def SD.sent (S : SD) (x : Nat) : Pl := placeM S.SM x
def setP (M : List (Nat × Pl)) (x : Nat) (p : Pl) : List (Nat × Pl) := if p = (0, 0, 0) then delM M x else putM M x p
theorem place_set (M : List (Nat × Pl)) (x y : Nat) (p : Pl) : placeM (setP M x p) y = if y = x then p else placeM M y := by
 unfold placeM setP
 by_cases hp : p = (0, 0, 0)
 ·rw [if_pos hp, look_del]
  by_cases hy : y = x
  ·rw [if_pos hy, if_pos hy, hp]; rfl
  ·rw [if_neg hy, if_neg hy]
 ·rw [if_neg hp, look_put]
  by_cases hy : y = x
  ·rw [if_pos hy, if_pos hy]; rfl
  ·rw [if_neg hy, if_neg hy]
def startM (tk : Nat) (M : List (Nat × Nat × Nat)) (x now : Nat) : List (Nat × Nat × Nat) := if (lookM M x).isSome then M else putM M x (almD tk now 0)
def pcF (f : FrD) (tp : Pl) : PC := ⟨f.se, f.fc, f.fb, f.fn, tp.1, tp.2.1, tp.2.2, f.n⟩
def sendD (S : SD) (f : FrD) (tp : Pl) : SD := { S with PL := addL S.bw S.PL (pcF f tp), SM := setP S.SM f.se tp }
def asF (k : Nat) (S : SD) (f : FrD) : FrD := { f with kd := k, ep := S.ep }
def startD (S : SD) (x : Nat) : SD := { S with TM := startM S.tk S.TM x S.now }
def againD (S : SD) (x : Nat) : SD := { S with TM := putM S.TM x (almD S.tk S.now 0) }
def stopD (S : SD) (x : Nat) : SD := { S with TM := delM S.TM x }
def resetD (S : SD) (x : Nat) : SD := { S with PL := S.PL.filter fun p => !goneD x p, SM := setP S.SM x (S.come x) }
def cutS (x : Nat) (C : CsT) (p : Pl) (most : Int) : FrD × Pl × Nat := cutF x C p.1 p.2.1 p.2.2 most
def noneB (r : FrD × Pl × Nat) : Bool := decide (r.2.2 ≠ 0 ∨ r.1.cn = 0)
def pumX (x : Nat) (C : CsT) : Nat → SD → SD × List FrD
 | 0, S => (S, [])
 | n + 1, S =>
  if sumP S.PL < (S.bw : Int) then
   let r := cutS x C (S.sent x) 1024
   if noneB r then (S, []) else
    let t := pumX x C n (startD (sendD S (asF 2 S r.1) r.2.1) x)
    (t.1, asF 2 S r.1 :: t.2)
  else (S, [])
def pumL (D : BD) : List Nat → SD → SD × List FrD
 | [], S => (S, [])
 | x :: xs, S => ((pumL D xs (pumX x (D.at_ x) 1002 S).1).1, (pumX x (D.at_ x) 1002 S).2 ++ (pumL D xs (pumX x (D.at_ x) 1002 S).1).2)
def pumpD (D : BD) (S : SD) : SD × List FrD := pumL D (ksD D) S
def anewD (D : BD) (S : SD) (x : Nat) : SD × List FrD :=
 let r := cutS x (D.at_ x) ((S.come x).1, 0, 0) 9223372036854775807
 if noneB r then (resetD S x, []) else
  let f := asF 3 S { r.1 with sm := 0 }
  (againD (sendD (resetD S x) f r.2.1) x, [f])
def comeD (S : SD) (x : Nat) (p : Pl) : SD := { S with CM := setP S.CM x p, PL := S.PL.filter fun q => !goneA x p.1 p.2.2 q, SM := if befP (S.sent x) p then setP S.SM x p else S.SM }
def movD (S : SD) (x : Nat) (p : Pl) : Bool := befP (S.come x) p
def acceptD (D : BD) (S : SD) (x : Nat) (p : Pl) (nack : Bool) : SD :=
 let S1 := if nack then resetD (comeD S x p) x else comeD S x p
 if !movD S x p && !nack then S1 else if p = endC (D.at_ x) then stopD S1 x else againD S1 x
def ackK (f : FrD) : Bool := decide (f.kd = 4 ∨ f.kd = 5)
def takD (D : BD) (S : SD) (f : FrD) : SD × List FrD × Bool × Nat :=
 if ackK f = false ∨ f.ep ≠ S.ep then (S, [], false, 1)
 else if hasC (D.at_ f.se) f.fc f.fb f.fn = false then (S, [], false, 122)
 else if befP (f.fc, f.fb, f.fn) (S.come f.se) = true then (S, [], false, 0)
 else if sumC (D.at_ f.se) f.fc f.fb ≠ f.sm then ((anewD D S f.se).1, (anewD D S f.se).2, false, 0)
 else ((pumpD D (acceptD D S f.se (f.fc, f.fb, f.fn) (decide (f.kd = 5)))).1, (pumpD D (acceptD D S f.se (f.fc, f.fb, f.fn) (decide (f.kd = 5)))).2, movD S f.se (f.fc, f.fb, f.fn), 0)
def firedD (D : BD) (S : SD) (x : Nat) : SD := if hasC (D.at_ x) (S.come x).1 (S.come x).2.1 (S.come x).2.2 = false ∨ S.come x = endC (D.at_ x) then stopD (resetD S x) x else resetD S x
def firedL (D : BD) : List Nat → SD → SD
 | [], S => S
 | x :: xs, S => firedL D xs (firedD D S x)
def leftS (C : CsT) (p : Pl) : Nat := ((C.drop p.1).flatten).length - p.2.2
end Go.Proofs.YtnjcdihgaidlbaaGreatDoor
set_option linter.unusedSimpArgs false
set_option linter.unusedVariables false
namespace Go.Proofs.YtnjcdihgaidlbaaGreatDoor
def OkPl (p : Pl) : Prop := p.1 < 4294967296 ∧ p.2.1 < 4294967296 ∧ p.2.2 < 4294967296
theorem okPl0 : OkPl (0, 0, 0) := ⟨by decide, by decide, by decide⟩
structure OkSn (D : BD) (S : SD) : Prop where
 bw1 : 1 ≤ S.bw
 bw2 : S.bw ≤ 100000
 pl : okP S.PL
 sum : sumP S.PL ≤ 165536
 tk : S.tk ≤ 1000
 ep : S.ep < 4294967296
 now : S.now < 18446744073709551616
 tv : ∀ p ∈ S.TM, (lookM D.M p.1).isSome ∧ p.2.2 ≤ 4
 cv : ∀ p ∈ S.CM, (lookM D.M p.1).isSome ∧ OkPl p.2
 sv : ∀ p ∈ S.SM, (lookM D.M p.1).isSome ∧ OkPl p.2
theorem len_sub : ∀ (l K : List Nat), l.Nodup → (∀ x ∈ l, x ∈ K) → l.length ≤ K.length
 | [], K, _, _ => Nat.zero_le _
 | a :: l, K, hn, hs => by
  rw [List.nodup_cons] at hn
  have ha := hs a List.mem_cons_self
  have h1 := len_sub l (K.erase a) hn.2 (fun x hx => (List.mem_erase_of_ne (fun e => hn.1 (by rw [← e]; exact hx))).2 (hs x (List.mem_cons_of_mem _ hx)))
  rw [List.length_erase_of_mem ha] at h1
  have h2 := List.length_pos_of_mem ha
  rw [List.length_cons]
  omega
theorem look_key {α : Type} {M : List (Nat × α)} {x : Nat} (h : (lookM M x).isSome) : ∃ a, (x, a) ∈ M := by
 obtain ⟨a, ha⟩ := Option.isSome_iff_exists.1 h
 exact ⟨a, lookM_mem ha⟩
theorem keys_few {α : Type} {D : BD} (hD : OkD D) {M : List (Nat × α)} (hn : (M.map Prod.fst).Nodup) (hk : ∀ p ∈ M, (lookM D.M p.1).isSome) : M.length ≤ 64 := by
 have h := len_sub (M.map Prod.fst) (D.M.map Prod.fst) hn (fun x hx => by
  obtain ⟨p, hp, rfl⟩ := List.mem_map.1 hx
  obtain ⟨a, ha⟩ := look_key (hk p hp)
  exact List.mem_map_of_mem (f := Prod.fst) ha)
 rw [List.length_map, List.length_map] at h
 have h1 := hD.few
 have h2 := hD.mo2
 omega
theorem place_ok {D : BD} {M : List (Nat × Pl)} (h : ∀ p ∈ M, (lookM D.M p.1).isSome ∧ OkPl p.2) (x : Nat) : OkPl (placeM M x) := by
 unfold placeM
 cases hl : lookM M x with
 | none => exact okPl0
 | some p => exact (h (x, p) (lookM_mem hl)).2
section
variable {D : BD} {S : SD}
theorem OkSn.come (h : OkSn D S) (x : Nat) : OkPl (S.come x) := place_ok h.cv x
theorem OkSn.sent (h : OkSn D S) (x : Nat) : OkPl (S.sent x) := place_ok h.sv x
theorem mem_putM {α : Type} {M : List (Nat × α)} {x : Nat} {a : α} {p : Nat × α} (h : p ∈ putM M x a) : p = (x, a) ∨ p ∈ M := mem_put h
theorem mem_delM {α : Type} {M : List (Nat × α)} {x : Nat} {p : Nat × α} (h : p ∈ delM M x) : p ∈ M := (List.mem_filter.1 h).1
theorem set_ok {M : List (Nat × Pl)} (h : ∀ p ∈ M, (lookM D.M p.1).isSome ∧ OkPl p.2) {x : Nat} {p : Pl} (hx : p ≠ (0, 0, 0) → (lookM D.M x).isSome) (hp : OkPl p) : ∀ q ∈ setP M x p, (lookM D.M q.1).isSome ∧ OkPl q.2 := by
 intro q hq
 unfold setP at hq
 by_cases h0 : p = (0, 0, 0)
 ·rw [if_pos h0] at hq
  exact h q (mem_delM hq)
 ·rw [if_neg h0] at hq
  rcases mem_putM hq with rfl | hq
  ·exact ⟨hx h0, hp⟩
  ·exact h q hq
theorem place_key {M : List (Nat × Pl)} (h : ∀ p ∈ M, (lookM D.M p.1).isSome ∧ OkPl p.2) {x : Nat} (hx : placeM M x ≠ (0, 0, 0)) : (lookM D.M x).isSome := by
 unfold placeM at hx
 cases hl : lookM M x with
 | none => rw [hl] at hx; exact absurd rfl hx
 | some p => exact (h (x, p) (lookM_mem hl)).1
theorem sum_filter {l : List PC} (h : okP l) (f : PC → Bool) : sumP (l.filter f) ≤ sumP l := by
 have h1 := sumP_parts f l
 have h2 := (sumP_nonneg _ (h.filter fun p => !f p)).1
 omega
theorem addL_sum2 {b : Nat} {l : List PC} {p : PC} (hb : b ≤ 100000) (hs : sumP l ≤ 165536) : sumP (addL (b : Int) l p) ≤ 165536 := by
 unfold addL addB
 split
 ·rename_i h
  have := of_decide_eq_true h
  rw [sumP_append]
  have h2 : sumP [p] = p.n := by simp [sumP]
  omega
 ·exact hs
theorem OkSn.len (h : OkSn D S) : S.PL.length ≤ 165536 := by
 have h1 := (sumP_nonneg _ h.pl).2
 have h2 := h.sum
 omega
theorem OkSn.send (h : OkSn D S) {f : FrD} {tp : Pl} (hx : (lookM D.M f.se).isSome) (hp : OkPl tp) : OkSn D (sendD S f tp) :=
 ⟨h.bw1, h.bw2, addB_ok h.pl, addL_sum2 h.bw2 h.sum, h.tk, h.ep, h.now, h.tv, h.cv, set_ok h.sv (fun _ => hx) hp⟩
theorem OkSn.start (h : OkSn D S) {x : Nat} (hx : (lookM D.M x).isSome) : OkSn D (startD S x) :=
 ⟨h.bw1, h.bw2, h.pl, h.sum, h.tk, h.ep, h.now, fun p hp => by
  unfold startD startM at hp
  dsimp only at hp
  by_cases hs : (lookM S.TM x).isSome = true
  ·rw [if_pos hs] at hp; exact h.tv p hp
  ·rw [if_neg hs] at hp
   rcases mem_putM hp with rfl | hp
   ·exact ⟨hx, Nat.zero_le _⟩
   ·exact h.tv p hp, h.cv, h.sv⟩
theorem OkSn.again (h : OkSn D S) {x : Nat} (hx : (lookM D.M x).isSome) : OkSn D (againD S x) :=
 ⟨h.bw1, h.bw2, h.pl, h.sum, h.tk, h.ep, h.now, fun p hp => by
  rcases mem_putM hp with rfl | hp
  ·exact ⟨hx, Nat.zero_le _⟩
  ·exact h.tv p hp, h.cv, h.sv⟩
theorem OkSn.stop (h : OkSn D S) (x : Nat) : OkSn D (stopD S x) :=
 ⟨h.bw1, h.bw2, h.pl, h.sum, h.tk, h.ep, h.now, fun p hp => h.tv p (mem_delM hp), h.cv, h.sv⟩
theorem OkSn.reset (h : OkSn D S) (x : Nat) : OkSn D (resetD S x) :=
 ⟨h.bw1, h.bw2, h.pl.filter _, Int.le_trans (sum_filter h.pl _) h.sum, h.tk, h.ep, h.now, h.tv, h.cv, set_ok h.sv (fun e => place_key h.cv e) (h.come x)⟩
theorem OkSn.acked (h : OkSn D S) {x : Nat} {p : Pl} (hx : p ≠ (0, 0, 0) → (lookM D.M x).isSome) (hp : OkPl p) : OkSn D (comeD S x p) :=
 ⟨h.bw1, h.bw2, h.pl.filter _, Int.le_trans (sum_filter h.pl _) h.sum, h.tk, h.ep, h.now, h.tv, set_ok h.cv hx hp, by
  show ∀ q ∈ (if befP (S.sent x) p then setP S.SM x p else S.SM), _
  split
  ·exact set_ok h.sv hx hp
  ·exact h.sv⟩
end
theorem has_key {D : BD} {x pc pb pn : Nat} (h : hasC (D.at_ x) pc pb pn = true) (h0 : (pc, pb, pn) ≠ (0, 0, 0)) : (lookM D.M x).isSome := by
 unfold BD.at_ at h
 cases hl : lookM D.M x with
 | some C => rfl
 | none =>
  rw [hl] at h
  obtain ⟨L, hL, h1, h2, -⟩ := hasC_true h
  simp only [Option.getD_none] at hL
  have h3 := (List.getElem?_eq_some_iff.1 hL).1
  simp only [List.length_singleton] at h3
  have h4 : pc = 0 := by omega
  subst h4
  simp only [List.getElem?_cons_zero, Option.some.injEq] at hL
  subst hL
  have h5 : pn = 0 := by simpa using h1
  subst h5
  exact absurd (by rw [h2]; rfl) h0
theorem end_key {D : BD} {x pc pb pn : Nat} (h : hasC (D.at_ x) pc pb pn = true) (he : (pc, pb, pn) ≠ endC (D.at_ x)) : (lookM D.M x).isSome := by
 by_cases h0 : (pc, pb, pn) = (0, 0, 0)
 ·unfold BD.at_ at he
  cases hl : lookM D.M x with
  | some C => rfl
  | none =>
   rw [hl, h0] at he
   exact absurd rfl he
 ·exact has_key h h0
structure CutS (D : BD) (x : Nat) (p : Pl) (most : Int) (r : FrD × Pl × Nat) : Prop where
 has : hasC (D.at_ x) p.1 p.2.1 p.2.2 = true
 ne : p ≠ endC (D.at_ x)
 key : (lookM D.M x).isSome
 er : r.2.2 = 0
 se : r.1.se = x
 from_ : (r.1.fc, r.1.fb, r.1.fn) = p
 cn : p.2.2 < r.1.cn
 to_ : hasC (D.at_ x) r.2.1.1 r.2.1.2.1 r.2.1.2.2 = true
 okto : OkPl r.2.1
 left : leftS (D.at_ x) r.2.1 < leftS (D.at_ x) p
 n0 : 0 ≤ r.1.n
 n1 : r.1.n ≤ 146000
 ll : r.1.l.length ≤ 20000
theorem cut_left {x : Nat} {C : CsT} {pc pb pn : Nat} {most : Int} (hh : hasC C pc pb pn = true) (he : (pc, pb, pn) ≠ endC C) : leftS C (cutF x C pc pb pn most).2.1 < leftS C (pc, pb, pn) := by
 obtain ⟨L, hL, hpl, hpe, hpl2⟩ := hasC_true hh
 have hpcl := (List.getElem?_eq_some_iff.1 hL).1
 have hplt : pn < L.length := by
  rcases Nat.lt_or_ge pn L.length with h1 | h1
  ·exact h1
  ·exfalso
   have h2 : ¬ pc + 1 < C.length := fun h3 => by have := hpl2 h3; omega
   have h4 : pc = C.length - 1 := by omega
   have h5 : lastL C = L := by unfold lastL; rw [List.getLast?_eq_getElem?, ← h4, hL]; rfl
   exact he (by unfold endC; rw [h5, hpe, ← h4, show pn = L.length by omega])
 have hd : C.drop pc = L :: C.drop (pc + 1) := by
  rw [List.drop_eq_getElem_cons hpcl, (List.getElem?_eq_some_iff.1 hL).2]
 unfold cutF
 rw [if_neg (by rw [hh]; decide), if_neg he, hL, Option.getD_some]
 obtain ⟨k, hk⟩ : ∃ k, k = cutTo L pn most := ⟨_, rfl⟩
 have hk1 : pn < k ∧ k ≤ L.length := by rw [hk]; exact cutTo_le hplt
 rw [← hk]
 unfold leftS
 cases clB C pc k with
 | true =>
  rw [if_pos rfl]
  show ((C.drop (pc + 1)).flatten).length - 0 < ((C.drop pc).flatten).length - pn
  rw [hd, List.flatten_cons, List.length_append]
  omega
 | false =>
  rw [if_neg (by decide)]
  show ((C.drop pc).flatten).length - k < ((C.drop pc).flatten).length - pn
  rw [hd, List.flatten_cons, List.length_append]
  omega
theorem cut_end {x : Nat} {C : CsT} {p : Pl} {most : Int} (h : p = endC C) : noneB (cutS x C p most) = true := by
 obtain ⟨pc, pb, pn⟩ := p
 unfold noneB cutS cutF
 refine decide_eq_true ?_
 dsimp only
 split
 ·exact .inl (by decide)
 ·exact .inr (by first | rfl | (rw [if_pos h]; rfl))
theorem cut_no {x : Nat} {C : CsT} {p : Pl} {most : Int} (h : hasC C p.1 p.2.1 p.2.2 = false) : noneB (cutS x C p most) = true := by
 obtain ⟨pc, pb, pn⟩ := p
 unfold noneB cutS cutF
 dsimp only at h
 refine decide_eq_true (.inl ?_)
 dsimp only
 rw [if_pos h]
 decide
theorem cut_some {D : BD} (hD : OkD D) (x : Nat) {p : Pl} {most : Int} (hh : hasC (D.at_ x) p.1 p.2.1 p.2.2 = true) (he : p ≠ endC (D.at_ x)) : CutS D x p most (cutS x (D.at_ x) p most) ∧ noneB (cutS x (D.at_ x) p most) = false := by
 obtain ⟨pc, pb, pn⟩ := p
 dsimp only at hh
 have oc := hD.at_ x
 have h1 := cut_mainI (x := x) (most := most) oc hh he
 have h2 := cut_left (x := x) (most := most) hh he
 have hd : (cutF x (D.at_ x) pc pb pn most).1.se = x ∧ ((cutF x (D.at_ x) pc pb pn most).1.fc, (cutF x (D.at_ x) pc pb pn most).1.fb, (cutF x (D.at_ x) pc pb pn most).1.fn) = (pc, pb, pn) := by
  unfold cutF
  rw [if_neg (by rw [hh]; decide), if_neg he]
  exact ⟨rfl, rfl⟩
 refine ⟨⟨hh, he, end_key hh he, h1.1.er, hd.1, hd.2, h1.2.2.1, h1.1.has, ⟨h1.1.s1, h1.1.s2, h1.1.s3⟩, h2, h1.1.n0, h1.1.n1, h1.1.l1⟩, ?_⟩
 unfold noneB cutS
 refine decide_eq_false ?_
 rintro (h3 | h3)
 ·exact h3 h1.1.er
 ·have := h1.2.2.1
  have h4 : (cutF x (D.at_ x) pc pb pn most).1.cn = 0 := h3
  omega
theorem cut_cases {D : BD} (hD : OkD D) (x : Nat) (p : Pl) (most : Int) : (noneB (cutS x (D.at_ x) p most) = true ∧ (hasC (D.at_ x) p.1 p.2.1 p.2.2 = false ∨ p = endC (D.at_ x))) ∨ (noneB (cutS x (D.at_ x) p most) = false ∧ CutS D x p most (cutS x (D.at_ x) p most)) := by
 cases hh : hasC (D.at_ x) p.1 p.2.1 p.2.2 with
 | false => exact .inl ⟨cut_no hh, .inl rfl⟩
 | true =>
  by_cases he : p = endC (D.at_ x)
  ·exact .inl ⟨cut_end he, .inr he⟩
  ·exact .inr ⟨(cut_some hD x hh he).2, (cut_some hD x hh he).1⟩
theorem cut_of {D : BD} (hD : OkD D) {x : Nat} {p : Pl} {most : Int} (h : noneB (cutS x (D.at_ x) p most) = false) : CutS D x p most (cutS x (D.at_ x) p most) := by
 rcases cut_cases hD x p most with ⟨h1, -⟩ | ⟨-, h1⟩
 ·rw [h1] at h; cases h
 ·exact h1
theorem asF_se (k : Nat) (S : SD) (f : FrD) : (asF k S f).se = f.se := rfl
theorem OkSn.pumX {D : BD} (hD : OkD D) {x : Nat} : ∀ (n : Nat) {S : SD}, OkSn D S → OkSn D (pumX x (D.at_ x) n S).1
 | 0, S, h => h
 | n + 1, S, h => by
  unfold Go.Proofs.YtnjcdihgaidlbaaGreatDoor.pumX
  split
  ·dsimp only
   by_cases hn : noneB (cutS x (D.at_ x) (S.sent x) 1024) = true
   ·rw [if_pos hn]; exact h
   ·rw [if_neg hn]
    have hc := cut_of hD (Bool.not_eq_true _ ▸ hn)
    exact OkSn.pumX hD n ((h.send (by rw [asF_se, hc.se]; exact hc.key) hc.okto).start hc.key)
  ·exact h
theorem OkSn.pumL {D : BD} (hD : OkD D) : ∀ (xs : List Nat) {S : SD}, OkSn D S → OkSn D (pumL D xs S).1
 | [], S, h => h
 | x :: xs, S, h => OkSn.pumL hD xs (OkSn.pumX hD 1002 h)
theorem OkSn.pump {D : BD} (hD : OkD D) {S : SD} (h : OkSn D S) : OkSn D (pumpD D S).1 := OkSn.pumL hD _ h
theorem OkSn.anew {D : BD} (hD : OkD D) {S : SD} (h : OkSn D S) (x : Nat) : OkSn D (anewD D S x).1 := by
 unfold anewD
 dsimp only
 by_cases hn : noneB (cutS x (D.at_ x) ((S.come x).1, 0, 0) 9223372036854775807) = true
 ·rw [if_pos hn]; exact h.reset x
 ·rw [if_neg hn]
  have hc := cut_of hD (Bool.not_eq_true _ ▸ hn)
  exact ((h.reset x).send (by rw [asF_se]; dsimp only; rw [hc.se]; exact hc.key) hc.okto).again hc.key
theorem OkSn.accept {D : BD} {S : SD} (h : OkSn D S) {x : Nat} {p : Pl} (hh : hasC (D.at_ x) p.1 p.2.1 p.2.2 = true) (hp : OkPl p) (nack : Bool) : OkSn D (acceptD D S x p nack) := by
 have h1 := h.acked (x := x) (p := p) (fun h0 => has_key hh h0) hp
 have h2 : OkSn D (if nack then resetD (comeD S x p) x else comeD S x p) := by
  cases nack
  ·exact h1
  ·exact h1.reset x
 unfold acceptD
 dsimp only
 split
 ·exact h2
 ·split
  ·exact h2.stop x
  ·rename_i he
   exact h2.again (end_key hh he)
theorem OkSn.tak {D : BD} (hD : OkD D) {S : SD} (h : OkSn D S) {f : FrD} (hf : f.ok) : OkSn D (takD D S f).1 := by
 unfold takD
 split
 ·exact h
 ·split
  ·exact h
  ·split
   ·exact h
   ·rename_i h1 h2 h3
    split
    ·exact h.anew hD f.se
    ·exact (h.accept (p := (f.fc, f.fb, f.fn)) (Bool.not_eq_false _ ▸ h2) ⟨hf.2.2.2.1, hf.2.2.2.2.1, hf.2.2.2.2.2.1⟩ _).pump hD
theorem OkSn.fired {D : BD} {S : SD} (h : OkSn D S) (x : Nat) : OkSn D (firedD D S x) := by
 unfold firedD
 split
 ·exact (h.reset x).stop x
 ·exact h.reset x
theorem OkSn.firedL {D : BD} : ∀ (xs : List Nat) {S : SD}, OkSn D S → OkSn D (firedL D xs S)
 | [], S, h => h
 | x :: xs, S, h => OkSn.firedL xs (h.fired x)
theorem left_few {C : CsT} (oc : OkC1 C) (p : Pl) : leftS C p ≤ 1000 := by
 have h1 := oc.len
 have h2 : C.flatten.length = (C.take p.1).flatten.length + (C.drop p.1).flatten.length := by rw [← List.length_append, ← List.flatten_append, List.take_append_drop]
 unfold leftS
 omega
end Go.Proofs.YtnjcdihgaidlbaaGreatDoor
set_option linter.unusedSimpArgs false
set_option linter.unusedVariables false
namespace Go.Proofs.YtnjcdihgaidlbaaGreatDoor
open Go.RowKit
set_option maxRecDepth 100000
theorem foot_tou {F : Nat → Prop} {w w' : World} (t : Tou F w w') : Foot F w w' := ⟨t.os, t.tape, t.output, t.size, t.block⟩
theorem tou_foot {F : Nat → Prop} {w w' : World} (t : Foot F w w') : Tou F w w' := ⟨t.os, t.tape, t.output, t.size, t.block⟩
def thW (F : Nat → Prop) (g : Nat) (b : Int) (l : List PC) : Kt := ⟨fun w => WinO w F g b l, F, fun h t hF => h.foot (foot_tou t) hF, fun h k hk => h.low k hk⟩
def plE (p : Pl) : Value := plV p.1 p.2.1 p.2.2
structure SL where
 (q g t c s : Nat)
def sdC (X : SL) (S : SD) : Array Value := #[.pointer (some ⟨X.g, 0, none⟩), .pointer (some ⟨X.t, 0, none⟩), .int .u32 (S.ep : Nat), .int .u64 (S.now : Nat), .map (some X.c), .map (some X.s)]
def Sd (B : Nat) (w0 w : World) (X : SL) (S : SD) (ts : List Kt) : Prop := ∃ (F : Nat → Prop) (b : Nat),
 Sep B w0 w (thB X.q 85 (sdC X S) :: thW F X.g (S.bw : Int) S.PL :: thMu plE X.c S.CM :: thMu plE X.s S.SM :: thB X.t 135 #[.int .u64 (S.tk : Nat), .map (some b)] :: thMu alV b S.TM :: ts)
section
variable {B : Nat} {w0 w w' : World} {X : SL} {S : SD} {ts us : List Kt}
theorem Sd.go (h : Sd B w0 w X S ts) (b : Below w.heap.size w w') : Sd B w0 w' X S ts := by
 obtain ⟨F, c, h⟩ := h
 exact ⟨F, c, h.go b⟩
theorem Sd.sep (h : Sd B w0 w X S ts) : Sep B w0 w ts := by
 obtain ⟨F, c, h⟩ := h
 exact h.tail.tail.tail.tail.tail.tail
theorem Sd.b (h : Sd B w0 w X S ts) : Below B w0 w := h.sep.b
theorem Sd.blk (h : Sd B w0 w X S ts) : Blk w X.q 85 (sdC X S) := by
 obtain ⟨F, c, h⟩ := h
 exact h.blk 0
theorem perm6 (a1 a2 a3 a4 a5 a6 : Kt) {us vs : List Kt} (h : us.Perm vs) : (a1 :: a2 :: a3 :: a4 :: a5 :: a6 :: us).Perm (a1 :: a2 :: a3 :: a4 :: a5 :: a6 :: vs) := ((((((h.cons a6).cons a5).cons a4).cons a3).cons a2).cons a1)
theorem Sd.perm (h : Sd B w0 w X S ts) (hp : ts.Perm us) : Sd B w0 w X S us := by
 obtain ⟨F, c, h⟩ := h
 exact ⟨F, c, h.permB (perm6 _ _ _ _ _ _ hp)⟩
theorem Sd.sub (h : Sd B w0 w X S ts) (hs : us.Sublist ts) : Sd B w0 w X S us := by
 obtain ⟨F, c, h⟩ := h
 exact ⟨F, c, h.sub ((((((hs.cons_cons _).cons_cons _).cons_cons _).cons_cons _).cons_cons _).cons_cons _)⟩
theorem front6 {a1 a2 a3 a4 a5 a6 : Kt} {us ts : List Kt} : (us ++ (a1 :: a2 :: a3 :: a4 :: a5 :: a6 :: ts)).Perm (a1 :: a2 :: a3 :: a4 :: a5 :: a6 :: (us ++ ts)) := by
 have h := (List.perm_append_comm (l₁ := us) (l₂ := [a1, a2, a3, a4, a5, a6])).append_right ts
 simp only [List.append_assoc, List.cons_append, List.nil_append] at h
 exact h
theorem Sd.cons {t : Kt} (h : Sd B w0 w X S ts) (b : Below w.heap.size w w') (hP : t.P w') (hF : ∀ k, t.F k → w.heap.size ≤ k) : Sd B w0 w' X S (t :: ts) := by
 obtain ⟨F, c, h⟩ := h
 exact ⟨F, c, (h.cons b hP hF).permB (front6 (us := [t]))⟩
theorem Sd.box (h : Sd B w0 w X S ts) (cs : Array Value) (t : TypeId) : Sd B w0 (w.alloc (.cells cs t)) X S (thB w.heap.size t cs :: ts) :=
 h.cons (below_alloc w _) (Blk.new w t cs) (fun k e => by have e2 : k = w.heap.size := e; omega)
theorem Sd.side (h : Sd B w0 w X S ts) (hs : ∀ rs, Sep B w0 w (ts ++ rs) → Sep B w0 w' (us ++ rs)) : Sd B w0 w' X S us := by
 obtain ⟨F, c, h⟩ := h
 have h1 := hs _ (h.permB (List.perm_append_comm (l₁ := [_, _, _, _, _, _]) (l₂ := ts)))
 exact ⟨F, c, h1.permB (List.perm_append_comm (l₁ := us) (l₂ := [_, _, _, _, _, _]))⟩
theorem Sd.win (h : Sd B w0 w X S ts) : ∃ F, WinO w F X.g (S.bw : Int) S.PL ∧ ∀ w' F' l, WinO w' F' X.g (S.bw : Int) l → Aft F F' w w' → Sd B w0 w' X { S with PL := l } ts := by
 obtain ⟨F, c, h⟩ := h
 exact ⟨F, h.at_ 1 rfl, fun w' F' l h1 h2 => ⟨F', c, h.call (t' := thW F' X.g (S.bw : Int) l) 1 rfl (tou_foot h2.foot) h1 h2.new⟩⟩
theorem Sd.cm (h : Sd B w0 w X S ts) : Mu plE w X.c S.CM ∧ ∀ w' M, Mu plE w' X.c M → w.grownBy w' (some X.c) → Sd B w0 w' X { S with CM := M } ts := by
 obtain ⟨F, c, h⟩ := h
 exact ⟨h.at_ 2 rfl, fun w' M h1 h2 => ⟨F, c, h.call (t' := thMu plE X.c M) 2 rfl (Tou.of_grown h2 (fun j e => by injection e with e; exact e.symm)) h1 (fun j hj => .inl hj)⟩⟩
theorem Sd.sm (h : Sd B w0 w X S ts) : Mu plE w X.s S.SM ∧ ∀ w' M, Mu plE w' X.s M → w.grownBy w' (some X.s) → Sd B w0 w' X { S with SM := M } ts := by
 obtain ⟨F, c, h⟩ := h
 exact ⟨h.at_ 3 rfl, fun w' M h1 h2 => ⟨F, c, h.call (t' := thMu plE X.s M) 3 rfl (Tou.of_grown h2 (fun j e => by injection e with e; exact e.symm)) h1 (fun j hj => .inl hj)⟩⟩
theorem Sd.tm (h : Sd B w0 w X S ts) : ∃ rs, Tm B w0 w X.t S.tk S.TM rs ∧ ∀ w' M us, Tm B w0 w' X.t S.tk M (us ++ rs) → Sd B w0 w' X { S with TM := M } (us ++ ts) := by
 obtain ⟨F, c, h⟩ := h
 refine ⟨thB X.q 85 (sdC X S) :: thW F X.g (S.bw : Int) S.PL :: thMu plE X.c S.CM :: thMu plE X.s S.SM :: ts, ⟨c, h.permB ?_⟩, ?_⟩
 ·exact (List.perm_append_comm (l₁ := [_, _, _, _]) (l₂ := [_, _])).append_right ts
 ·rintro w' M us ⟨c', h'⟩
  refine ⟨F, c', h'.permB ?_⟩
  have e1 : ∀ (a1 a2 b1 b2 b3 b4 : Kt) (us ts : List Kt), (a1 :: a2 :: (us ++ b1 :: b2 :: b3 :: b4 :: ts)).Perm (b1 :: b2 :: b3 :: b4 :: a1 :: a2 :: (us ++ ts)) := by
   intro a1 a2 b1 b2 b3 b4 us ts
   have p1 : (us ++ [b1, b2, b3, b4]).Perm ([b1, b2, b3, b4] ++ us) := List.perm_append_comm
   have p2 := ((p1.append_right ts).cons a2).cons a1
   have p3 := ((List.perm_append_comm (l₁ := [a1, a2]) (l₂ := [b1, b2, b3, b4])).append_right (us ++ ts))
   simp only [List.append_assoc, List.cons_append, List.nil_append] at p2 p3
   exact p2.trans p3
  exact e1 _ _ _ _ _ _ us ts
theorem Sd.now_ (h : Sd B w0 w X S ts) (n : Nat) : Sd B w0 (w.setCell ⟨X.q, 3, none⟩ (.int .u64 (n : Nat))) X { S with now := n } ts := by
 obtain ⟨F, c, h⟩ := h
 have h1 := h.put 0 X.q [(3, .int .u64 (n : Nat))] (sdC X { S with now := n }) rfl
 exact ⟨F, c, h1⟩
end
end Go.Proofs.YtnjcdihgaidlbaaGreatDoor
set_option linter.unusedSimpArgs false
set_option linter.unusedVariables false
namespace Go.Proofs.YtnjcdihgaidlbaaGreatDoor
open Go.RowKit
set_option maxRecDepth 100000
abbrev PMT : TypeId := 83
theorem pmU : Tryz.prog.underlying PMT = some (.map KU 40) := Tryz.underlying83
theorem pmZ (w : World) : (zeroValue 40).run Tryz.prog w = .ok (plE (0, 0, 0)) w := by kernel_rfl
theorem look_place (M : List (Nat × Pl)) (x : Nat) : ((lookM M x).map plE).getD (plE (0, 0, 0)) = plE (placeM M x) := by
 unfold placeM
 cases lookM M x <;> rfl
set_option maxHeartbeats 4000000 in
theorem set_any {w : World} {b : Nat} {M : List (Nat × Pl)} (h : Mu plE w b M) (x : Nat) (hx : x < 4294967296) (p : Pl) (hM : M.length < maxLen) :
  Calls Tryz.prog 59 #[.map (some b), .int .u32 (x : Nat), plE p] w fun e w' => e = .returned (.tuple #[]) ∧ ∃ w1, Below w.heap.size w w1 ∧ w1.grownBy w' (some b) ∧ Mu plE w' b (setP M x p) := by
 obtain ⟨p1, p2, p3⟩ := p
 obtain ⟨W, hW⟩ : ∃ W, W = w.alloc (.cells #[.int .u32 (p1 : Nat), .int .u32 (p2 : Nat), .int .u32 (p3 : Nat)] 40) := ⟨_, rfl⟩
 obtain ⟨g, hg⟩ : ∃ g, g = w.heap.size := ⟨_, rfl⟩
 have hbw : Below w.heap.size w W := by rw [hW]; exact below_alloc w _
 have cg : Blk W g 40 #[.int .u32 (p1 : Nat), .int .u32 (p2 : Nat), .int .u32 (p3 : Nat)] := by rw [hW, hg]; exact Blk.new _ _ _
 have hm : Mu plE W b M := h.tou (F := fun _ => False) (Tou.of_below hbw) (fun e => e)
 have hQ : ∀ w, (binOp .eql 40 (.agg #[.int .u32 (p1 : Nat), .int .u32 (p2 : Nat), .int .u32 (p3 : Nat)]) (.agg #[.int .u32 0, .int .u32 0, .int .u32 0])).run Tryz.prog w = .ok (.bool (decide ((p1, p2, p3) = (0, 0, 0)))) w := fun w => eqPlB_run p1 p2 p3 0 0 0 w
 have HB := Lib.hid (And.intro cg hbw)
 have Hm := Lib.hid hm
 clear h
 by_cases h0 : (p1, p2, p3) = (0, 0, 0)
 ·rw [decide_eq_true h0] at hQ
  have e : setP M x (p1, p2, p3) = delM M x := if_pos h0
  rw [e]
  clear h0 e cg hbw hm
  simp only [plE, plV]
  go_enter Tryz.func59, Tryz.ntmps59
  go_upto_region 1 with fail
  rw [← hW, ← hg]
  clear hW hg
  have C : cellsSay W g 0 [.int .u32 (p1 : Nat), .int .u32 (p2 : Nat), .int .u32 (p3 : Nat)] := cells_say HB.out.1 _ 0 rfl
  simp only [cellsSay, Nat.reduceAdd, and_true] at C
  have hm2 := Hm.out
  go_wp2_with (at_delete; go_must (refine step_delU rfl _ _ rfl pmU rfl hm2 x hx rfl ?_); intro w3 hm3 hg3)
  first | go_end0 | (refine bodyPost_ret (v := .tuple #[]) (by simp [results, Tryz.results59]) rfl ?_)
  exact ⟨rfl, W, HB.out.2, hg3, hm3⟩
 ·rw [decide_eq_false h0] at hQ
  have e : setP M x (p1, p2, p3) = putM M x (p1, p2, p3) := if_neg h0
  rw [e]
  clear h0 e cg hbw hm
  simp only [plE, plV]
  go_enter Tryz.func59, Tryz.ntmps59
  go_upto_region 1 with fail
  rw [← hW, ← hg]
  clear hW hg
  have C : cellsSay W g 0 [.int .u32 (p1 : Nat), .int .u32 (p2 : Nat), .int .u32 (p3 : Nat)] := cells_say HB.out.1 _ 0 rfl
  simp only [cellsSay, Nat.reduceAdd, and_true] at C
  have hm2 := Hm.out
  go_wp2_with (at_mapUpdate; go_must (refine step_putU rfl _ _ _ rfl pmU rfl hm2 hM x hx rfl (p1, p2, p3) rfl ?_); intro w3 hm3 hg3)
  first | go_end0 | (refine bodyPost_ret (v := .tuple #[]) (by simp [results, Tryz.results59]) rfl ?_)
  exact ⟨rfl, W, HB.out.2, hg3, hm3⟩
section
variable {B : Nat} {w0 w w' : World} {X : SL} {S : SD} {ts us : List Kt}
abbrev ptS (X : SL) : Value := .pointer (some ⟨X.q, 0, none⟩)
theorem Sd.cells (h : Sd B w0 w X S ts) : cellsSay w X.q 0 [.pointer (some ⟨X.g, 0, none⟩), .pointer (some ⟨X.t, 0, none⟩), .int .u32 (S.ep : Nat), .int .u64 (S.now : Nat), .map (some X.c), .map (some X.s)] := cells_say h.blk _ 0 rfl
theorem Sd.f0 (h : Sd B w0 w X S ts) : w.cell? ⟨X.q, 0, none⟩ = some (.pointer (some ⟨X.g, 0, none⟩)) := h.cells.1
theorem Sd.f1 (h : Sd B w0 w X S ts) : w.cell? ⟨X.q, 1, none⟩ = some (.pointer (some ⟨X.t, 0, none⟩)) := h.cells.2.2.1
theorem Sd.f2 (h : Sd B w0 w X S ts) : w.cell? ⟨X.q, 2, none⟩ = some (.int .u32 (S.ep : Nat)) := h.cells.2.2.2.2.1
theorem Sd.f3 (h : Sd B w0 w X S ts) : w.cell? ⟨X.q, 3, none⟩ = some (.int .u64 (S.now : Nat)) := h.cells.2.2.2.2.2.2.1
theorem Sd.f4 (h : Sd B w0 w X S ts) : w.cell? ⟨X.q, 4, none⟩ = some (.map (some X.c)) := h.cells.2.2.2.2.2.2.2.2.1
theorem Sd.f5 (h : Sd B w0 w X S ts) : w.cell? ⟨X.q, 5, none⟩ = some (.map (some X.s)) := h.cells.2.2.2.2.2.2.2.2.2.2.1
set_option maxHeartbeats 4000000 in
theorem come_any (h : Sd B w0 w X S ts) (x : Nat) (hx : x < 4294967296) : Calls Tryz.prog 17 #[ptS X, .int .u32 (x : Nat)] w fun e w' => e = .returned (plE (S.come x)) ∧ Below w.heap.size w w' := by
 obtain ⟨W, hW⟩ : ∃ W, W = w.alloc (.cells #[.int .u32 0, .int .u32 0, .int .u32 0] 40) := ⟨_, rfl⟩
 obtain ⟨g, hg⟩ : ∃ g, g = w.heap.size := ⟨_, rfl⟩
 have hbw : Below w.heap.size w W := by rw [hW]; exact below_alloc w _
 have cg : Blk W g 40 #[.int .u32 0, .int .u32 0, .int .u32 0] := by rw [hW, hg]; exact Blk.new _ _ _
 have h2 := h.go hbw
 have C := h2.cells
 simp only [cellsSay, Nat.reduceAdd, and_true] at C
 have hl := Mu.look1 h2.cm.1 pmU (pmZ W) x hx
 rw [look_place] at hl
 unfold SD.come
 obtain ⟨⟨p1, p2, p3⟩, hp⟩ : ∃ p, p = placeM S.CM x := ⟨_, rfl⟩
 rw [← hp] at hl ⊢
 have hl2 : (Instr.lookup PMT (.map (some X.c)) (.int .u32 ((x : Nat) : Int)) false).run Tryz.prog W = .ok (.agg #[.int .u32 ((p1 : Nat) : Int), .int .u32 ((p2 : Nat) : Int), .int .u32 ((p3 : Nat) : Int)]) W := hl
 have HB := Lib.hid (And.intro cg (And.intro hbw (Nat.le_of_eq hg.symm)))
 clear hl h2 h hbw hp cg
 go_enter Tryz.func17, Tryz.ntmps17
 go_upto_region 1 with fail
 rw [← hW, ← hg]
 clear hW hg
 have D : cellsSay W g 0 [.int .u32 0, .int .u32 0, .int .u32 0] := cells_say HB.out.1 _ 0 rfl
 simp only [cellsSay, Nat.reduceAdd, and_true] at D
 go_wp2_with fail
 exact bodyPost_ret (results_cell_row Tryz.results17 _ _ g 40 #[.int .u32 (p1 : Nat), .int .u32 (p2 : Nat), .int .u32 (p3 : Nat)] (0, 0) _ rfl (HB.out.1.set3 _ _ _) Tryz.underlying40 rfl (by kernel_rfl)) rfl ⟨rfl, ((HB.out.2.1.setCell HB.out.2.2 _).setCell HB.out.2.2 _).setCell HB.out.2.2 _⟩
set_option maxHeartbeats 4000000 in
theorem sent_any (h : Sd B w0 w X S ts) (x : Nat) (hx : x < 4294967296) : Calls Tryz.prog 22 #[ptS X, .int .u32 (x : Nat)] w fun e w' => e = .returned (plE (S.sent x)) ∧ Below w.heap.size w w' := by
 obtain ⟨W, hW⟩ : ∃ W, W = w.alloc (.cells #[.int .u32 0, .int .u32 0, .int .u32 0] 40) := ⟨_, rfl⟩
 obtain ⟨g, hg⟩ : ∃ g, g = w.heap.size := ⟨_, rfl⟩
 have hbw : Below w.heap.size w W := by rw [hW]; exact below_alloc w _
 have cg : Blk W g 40 #[.int .u32 0, .int .u32 0, .int .u32 0] := by rw [hW, hg]; exact Blk.new _ _ _
 have h2 := h.go hbw
 have C := h2.cells
 simp only [cellsSay, Nat.reduceAdd, and_true] at C
 have hl := Mu.look1 h2.sm.1 pmU (pmZ W) x hx
 rw [look_place] at hl
 unfold SD.sent
 obtain ⟨⟨p1, p2, p3⟩, hp⟩ : ∃ p, p = placeM S.SM x := ⟨_, rfl⟩
 rw [← hp] at hl ⊢
 have hl2 : (Instr.lookup PMT (.map (some X.s)) (.int .u32 ((x : Nat) : Int)) false).run Tryz.prog W = .ok (.agg #[.int .u32 ((p1 : Nat) : Int), .int .u32 ((p2 : Nat) : Int), .int .u32 ((p3 : Nat) : Int)]) W := hl
 have HB := Lib.hid (And.intro cg (And.intro hbw (Nat.le_of_eq hg.symm)))
 clear hl h2 h hbw hp cg
 go_enter Tryz.func22, Tryz.ntmps22
 go_upto_region 1 with fail
 rw [← hW, ← hg]
 clear hW hg
 have D : cellsSay W g 0 [.int .u32 0, .int .u32 0, .int .u32 0] := cells_say HB.out.1 _ 0 rfl
 simp only [cellsSay, Nat.reduceAdd, and_true] at D
 go_wp2_with fail
 exact bodyPost_ret (results_cell_row Tryz.results22 _ _ g 40 #[.int .u32 (p1 : Nat), .int .u32 (p2 : Nat), .int .u32 (p3 : Nat)] (0, 0) _ rfl (HB.out.1.set3 _ _ _) Tryz.underlying40 rfl (by kernel_rfl)) rfl ⟨rfl, ((HB.out.2.1.setCell HB.out.2.2 _).setCell HB.out.2.2 _).setCell HB.out.2.2 _⟩
theorem way_any (h : Sd B w0 w X S ts) : Calls Tryz.prog 23 #[ptS X] w fun e w' => e = .returned (.int .i64 (sumP S.PL)) ∧ w' = w := by
 have C := h.cells
 simp only [cellsSay, Nat.reduceAdd, and_true] at C
 obtain ⟨F, hw, -⟩ := h.win
 have HN := Lib.hid (winin_any hw)
 clear h hw
 go_enter Tryz.func23, Tryz.ntmps23
 go_wp2_with (go_at_call 50; refine HN.out.mono ?_; rintro e w1 ⟨rfl, rfl⟩)
 go_ret
 exact ⟨rfl, rfl⟩
theorem epoch_any (h : Sd B w0 w X S ts) : Calls Tryz.prog 29 #[ptS X] w fun e w' => e = .returned (.int .u32 (S.ep : Nat)) ∧ w' = w := by
 have C := h.cells
 simp only [cellsSay, Nat.reduceAdd, and_true] at C
 clear h
 go_enter Tryz.func29, Tryz.ntmps29
 go_wp2_with fail
 go_ret
 exact ⟨rfl, rfl⟩
end
end Go.Proofs.YtnjcdihgaidlbaaGreatDoor
set_option linter.unusedSimpArgs false
set_option linter.unusedVariables false
namespace Go.Proofs.YtnjcdihgaidlbaaGreatDoor
open Go.RowKit
set_option maxRecDepth 100000
section
variable {B : Nat} {w0 w w' : World} {X : SL} {S : SD} {ts us : List Kt} {D : BD}
theorem Sd.fewC (h : Sd B w0 w X S ts) (hD : OkD D) (hS : OkSn D S) : S.CM.length < maxLen := by
 have := keys_few hD h.cm.1.nodup (fun p hp => (hS.cv p hp).1)
 unfold maxLen; omega
theorem Sd.fewS (h : Sd B w0 w X S ts) (hD : OkD D) (hS : OkSn D S) : S.SM.length < maxLen := by
 have := keys_few hD h.sm.1.nodup (fun p hp => (hS.sv p hp).1)
 unfold maxLen; omega
theorem Sd.fewT (h : Sd B w0 w X S ts) (hD : OkD D) (hS : OkSn D S) : S.TM.length ≤ 64 := by
 obtain ⟨F, b, h⟩ := h
 exact keys_few hD (show Mu alV w b S.TM from h.at_ 5 rfl).nodup (fun p hp => (hS.tv p hp).1)
set_option maxHeartbeats 4000000 in
theorem reset_any (h : Sd B w0 w X S ts) (hD : OkD D) (hS : OkSn D S) (x : Nat) (hx : x < 4294967296) :
  Calls Tryz.prog 52 #[ptS X, .int .u32 (x : Nat)] w fun e w' => e = .returned (.tuple #[]) ∧ Sd B w0 w' X (resetD S x) ts := by
 have hmx : Tryz.prog.follows .mixedOrders = true := by kernel_rfl
 have C := h.cells
 simp only [cellsSay, Nat.reduceAdd, and_true] at C
 obtain ⟨F, hw, hL⟩ := h.win
 have HN := Lib.hid (wdrop_any F X.g x (S.bw : Int) S.PL w hw hS.pl (by have := hS.sum; omega) (by have := hS.len; omega))
 have hfew := h.fewS hD hS
 have HL := Lib.hid (And.intro hL hfew)
 clear h hw hL hfew hD hS
 go_enter Tryz.func52, Tryz.ntmps52
 go_upto_region 1 with (go_at_call 71; refine HN.out.mono ?_; rintro e w1 ⟨rfl, hw1, ha1⟩)
 have h1 := HL.out.1 w1 F _ hw1 ha1
 obtain ⟨S1, hS1⟩ : ∃ T : SD, T = { S with PL := S.PL.filter fun p => !goneD x p } := ⟨_, rfl⟩
 rw [← hS1] at h1
 have hco : S1.come x = S.come x := by rw [hS1]; rfl
 have hfe : S1.SM.length < maxLen := by rw [hS1]; exact HL.out.2
 have hre : { S1 with SM := setP S1.SM x (S.come x) } = resetD S x := by rw [hS1]; rfl
 have H1 := Lib.hid (And.intro h1 (And.intro hfe hre))
 have HC := Lib.hid (fun (y : More) => come_any (h1.go (plus_below w1 y)) x hx)
 rw [hco] at HC
 obtain ⟨⟨p1, p2, p3⟩, hp⟩ : ∃ p, p = S.come x := ⟨_, rfl⟩
 rw [← hp] at HC H1
 have C5 : ∀ y : More, (plus w1 y).cell? ⟨X.q, 5, none⟩ = some (.map (some X.s)) := fun y => (h1.go (plus_below w1 y)).f5
 clear HN HL hw1 ha1 hS1 hco hfe hre h1 hp
 refine wp_region_tail_ext 8 (by kernel_rfl) (by kernel_rfl) ?_
 simp only [List.take_succ_cons, List.take_zero, List.drop_succ_cons, List.drop_zero]
 repeat (go_big_quiet_step ((go_at_call 17; exact ext_of (HC.out _))))
 refine wpQuiet_nil ?_
 rintro w2 ⟨y, rfl⟩
 have h2 := H1.out.1.go (plus_below w1 y)
 have HS := Lib.hid (set_any h2.sm.1 x hx (p1, p2, p3) H1.out.2.1)
 have H2 := Lib.hid (And.intro h2 H1.out.2.2)
 clear HC C5 h2 H1
 go_wp2_with (go_at_call 59; refine HS.out.mono ?_; rintro e w3 ⟨rfl, w4, b4, hg, hm⟩)
 go_end0
 refine ⟨rfl, ?_⟩
 rw [← H2.out.2]
 exact (H2.out.1.go b4).sm.2 _ _ hm hg
theorem Sd.put_ (h : Sd B w0 w X S ts) (i g : Nat) (l : List (Nat × Value)) (cs' : Array Value) {t : TypeId} {cs : Array Value} (hW : sets w g l = w') (e : ts[i]? = some (thB g t cs) := by rfl) (hc : setsL cs.toList l = cs'.toList := by rfl) : Sd B w0 w' X S (ts.set i (thB g t cs')) := by
 obtain ⟨F, b, h⟩ := h
 exact ⟨F, b, h.put (i + 6) g l cs' hW e hc⟩
theorem Sd.blkAt (h : Sd B w0 w X S ts) (i : Nat) {g : Nat} {t : TypeId} {cs : Array Value} (e : ts[i]? = some (thB g t cs) := by rfl) : Blk w g t cs := h.sep.blk i e
theorem Sd.tail {t : Kt} (h : Sd B w0 w X S (t :: ts)) : Sd B w0 w X S ts := h.sub (List.sublist_cons_self t ts)
set_option maxHeartbeats 8000000 in
theorem sending_any (h : Sd B w0 w X S ts) (hD : OkD D) (hS : OkSn D S) (k : Nat) (f : FrD) (A : Option Addr) (c : Nat) (tp : Pl) (hx : f.se < 4294967296) :
  Calls Tryz.prog 33 #[ptS X, .int .u8 (k : Nat), .agg (frC f A c), plE tp] w fun e w' => e = .returned (.agg (frC (asF k S f) A c)) ∧ Sd B w0 w' X (sendD S (asF k S f) tp) ts := by
 have hmx : Tryz.prog.follows .mixedOrders = true := by kernel_rfl
 obtain ⟨kd, ep, se, fc, fb, fn, cn, cl, sm, l, n⟩ := f
 obtain ⟨t1, t2, t3⟩ := tp
 obtain ⟨m, hm⟩ : ∃ m, m = l.length := ⟨_, rfl⟩
 have hfew := h.fewS hD hS
 obtain ⟨T, hT⟩ : ∃ T, T = sendD S (asF k S ⟨kd, ep, se, fc, fb, fn, cn, cl, sm, l, n⟩) (t1, t2, t3) := ⟨_, rfl⟩
 have hfr : frC (asF k S ⟨kd, ep, se, fc, fb, fn, cn, cl, sm, l, n⟩) A c = #[.int .u8 (k : Nat), .int .u32 (S.ep : Nat), .int .u32 (se : Nat), .int .u32 (fc : Nat), .int .u32 (fb : Nat), .int .u32 (fn : Nat), .int .u32 (cn : Nat), .bool cl, .int .u64 (sm : Nat), .slice A m c, .int .i64 n] := by rw [hm]; rfl
 have hfr0 : frC ⟨kd, ep, se, fc, fb, fn, cn, cl, sm, l, n⟩ A c = #[.int .u8 (kd : Nat), .int .u32 (ep : Nat), .int .u32 (se : Nat), .int .u32 (fc : Nat), .int .u32 (fb : Nat), .int .u32 (fn : Nat), .int .u32 (cn : Nat), .bool cl, .int .u64 (sm : Nat), .slice A m c, .int .i64 n] := by rw [hm]; rfl
 have hTd : T = { S with PL := addL S.bw S.PL ⟨se, fc, fb, fn, t1, t2, t3, n⟩, SM := setP S.SM se (t1, t2, t3) } := hT
 rw [hfr, hfr0, ← hT]
 have h3 := ((h.box #[.int .u8 (kd : Nat), .int .u32 (ep : Nat), .int .u32 (se : Nat), .int .u32 (fc : Nat), .int .u32 (fb : Nat), .int .u32 (fn : Nat), .int .u32 (cn : Nat), .bool cl, .int .u64 (sm : Nat), .slice A m c, .int .i64 n] 46).box #[.int .u32 (t1 : Nat), .int .u32 (t2 : Nat), .int .u32 (t3 : Nat)] 40).box #[.int .u8 0, .int .u32 0, .int .u32 0, .int .u32 0, .int .u32 0, .int .u32 0, .int .u32 0, .bool false, .int .u64 0, .slice none 0 0, .int .i64 0] 46
 simp only [World.size_alloc] at h3
 have HS := Lib.hid (And.intro hS (And.intro hfew hTd))
 have HL := Lib.hid hx
 clear h hD hS hfew hTd hT hfr hfr0 hm
 simp only [plE, plV]
 go_enter Tryz.func33, Tryz.ntmps33
 go_upto_region 1 with fail
 generalize hW : World.alloc (World.alloc (World.alloc _ _) _) _ = W at h3 ⊢
 obtain ⟨g6, hg6⟩ : ∃ g, g = w.heap.size := ⟨_, rfl⟩
 obtain ⟨g7, hg7⟩ : ∃ g, g = w.heap.size + 1 := ⟨_, rfl⟩
 obtain ⟨g8, hg8⟩ : ∃ g, g = w.heap.size + 1 + 1 := ⟨_, rfl⟩
 rw [← hg8, ← hg7, ← hg6] at h3 ⊢
 clear hW hg6 hg7 hg8
 have C := h3.f2
 have D6 := cells_say (h3.blkAt 2) _ 0 rfl
 simp only [cellsSay, List.drop_zero, Nat.reduceAdd, and_true] at D6
 have H3 := Lib.hid h3
 clear h3
 go_region
 generalize hWx : World.setCell _ _ _ = Wx
 have h4 := H3.out.put_ 2 g6 [(0, .int .u8 (k : Nat)), (1, .int .u32 (S.ep : Nat))] #[.int .u8 (k : Nat), .int .u32 (S.ep : Nat), .int .u32 (se : Nat), .int .u32 (fc : Nat), .int .u32 (fb : Nat), .int .u32 (fn : Nat), .int .u32 (cn : Nat), .bool cl, .int .u64 (sm : Nat), .slice A m c, .int .i64 n] hWx
 simp only [List.set] at h4
 clear C D6 hWx H3
 go_upto_region 2 with fail
 replace h4 := h4.go (Below.refl Wx.heap.size Wx).drew
 generalize World.drew Wx = Wx at h4 ⊢
 have H4 := Lib.hid h4
 have D6 := fun (y : More) => cells_say ((h4.go (plus_below Wx y)).blkAt 2) _ 0 rfl
 have D7 := fun (y : More) => cells_say ((h4.go (plus_below Wx y)).blkAt 1) _ 0 rfl
 simp only [cellsSay, List.drop_zero, Nat.reduceAdd, and_true] at D6 D7
 have C0 := fun (y : More) => (h4.go (plus_below Wx y)).f0
 clear h4
 refine wp_region_tail_ext 13 (by kernel_rfl) (by kernel_rfl) ?_
 simp only [List.take_succ_cons, List.take_zero, List.drop_succ_cons, List.drop_zero]
 repeat (go_big_quiet_step (fail))
 refine wpQuiet_nil ?_
 rintro w5 ⟨y, rfl⟩
 have h5 := H4.out.go (plus_below Wx y)
 obtain ⟨F, hw, hL⟩ := h5.win
 have HN := Lib.hid (winadd_any F X.g (S.bw : Int) S.PL ⟨se, fc, fb, fn, t1, t2, t3, n⟩ _ hw (by have := HS.out.1.bw2; omega) HS.out.1.pl (by have := HS.out.1.len; omega))
 have HW := Lib.hid hL
 clear D6 D7 C0 hw hL h5 H4
 go_upto_region 3 with (go_at_call 58; refine HN.out.mono ?_; rintro e w6 ⟨rfl, F2, hw2, ha2⟩)
 have h6 := HW.out w6 F2 _ hw2 ha2
 clear HN HW hw2 ha2
 have H6 := Lib.hid h6
 have D6 := fun (y : More) => cells_say ((h6.go (plus_below w6 y)).blkAt 2) _ 0 rfl
 have D7 := fun (y : More) => cells_say ((h6.go (plus_below w6 y)).blkAt 1) _ 0 rfl
 simp only [cellsSay, List.drop_zero, Nat.reduceAdd, and_true] at D6 D7
 have C5 := fun (y : More) => (h6.go (plus_below w6 y)).f5
 clear h6
 refine wp_region_tail_ext 7 (by kernel_rfl) (by kernel_rfl) ?_
 simp only [List.take_succ_cons, List.take_zero, List.drop_succ_cons, List.drop_zero]
 repeat (go_big_quiet_step (fail))
 refine wpQuiet_nil ?_
 rintro w7 ⟨z, rfl⟩
 have h7 := H6.out.go (plus_below w6 z)
 have HP := Lib.hid (set_any h7.sm.1 se HL.out (t1, t2, t3) HS.out.2.1)
 have H7 := Lib.hid h7
 clear D6 D7 C5 h7 H6
 go_upto_region 4 with (go_at_call 59; refine HP.out.mono ?_; rintro e w8 ⟨rfl, w9, b9, hg, hm⟩)
 have h8 := (H7.out.go b9).sm.2 _ _ hm hg
 have h9 : Sd B w0 w8 X T (thB g8 46 #[.int .u8 0, .int .u32 0, .int .u32 0, .int .u32 0, .int .u32 0, .int .u32 0, .int .u32 0, .bool false, .int .u64 0, .slice none 0 0, .int .i64 0] :: thB g7 40 #[.int .u32 (t1 : Nat), .int .u32 (t2 : Nat), .int .u32 (t3 : Nat)] :: thB g6 46 #[.int .u8 (k : Nat), .int .u32 (S.ep : Nat), .int .u32 (se : Nat), .int .u32 (fc : Nat), .int .u32 (fb : Nat), .int .u32 (fn : Nat), .int .u32 (cn : Nat), .bool cl, .int .u64 (sm : Nat), .slice A m c, .int .i64 n] :: ts) := by rw [HS.out.2.2]; exact h8
 have D6 := cells_say (h9.blkAt 2) _ 0 rfl
 have D8 := cells_say (h9.blkAt 0) _ 0 rfl
 simp only [cellsSay, List.drop_zero, Nat.reduceAdd, and_true] at D6 D8
 have H9 := Lib.hid h9
 clear h8 h9 hg hm b9 HP H7
 go_wp2_with fail
 generalize hWx : World.setCell _ _ _ = Wz
 have hZ := H9.out.put_ 0 g8 [(0, .int .u8 (k : Nat)), (1, .int .u32 (S.ep : Nat)), (2, .int .u32 (se : Nat)), (3, .int .u32 (fc : Nat)), (4, .int .u32 (fb : Nat)), (5, .int .u32 (fn : Nat)), (6, .int .u32 (cn : Nat)), (7, .bool cl), (8, .int .u64 (sm : Nat)), (9, .slice A m c), (10, .int .i64 n)] #[.int .u8 (k : Nat), .int .u32 (S.ep : Nat), .int .u32 (se : Nat), .int .u32 (fc : Nat), .int .u32 (fb : Nat), .int .u32 (fn : Nat), .int .u32 (cn : Nat), .bool cl, .int .u64 (sm : Nat), .slice A m c, .int .i64 n] hWx
 simp only [List.set] at hZ
 clear D6 D8 hWx
 exact bodyPost_ret (results_cell_row Tryz.results33 _ _ g8 46 #[.int .u8 (k : Nat), .int .u32 (S.ep : Nat), .int .u32 (se : Nat), .int .u32 (fc : Nat), .int .u32 (fb : Nat), .int .u32 (fn : Nat), .int .u32 (cn : Nat), .bool cl, .int .u64 (sm : Nat), .slice A m c, .int .i64 n] (0, 0) _ rfl (hZ.blkAt 0) Tryz.underlying46 rfl (by kernel_rfl)) rfl ⟨rfl, hZ.tail.tail.tail⟩
end
end Go.Proofs.YtnjcdihgaidlbaaGreatDoor
set_option linter.unusedSimpArgs false
set_option linter.unusedVariables false
namespace Go.Proofs.YtnjcdihgaidlbaaGreatDoor
def asE (k ep : Nat) (f : FrD) : FrD := { f with kd := k, ep := ep }
theorem asE_eq (k : Nat) (S : SD) (f : FrD) : asF k S f = asE k S.ep f := rfl
def nextP (x : Nat) (C : CsT) (p : Pl) : Pl := (cutS x C p 1024).2.1
def atF (x : Nat) (C : CsT) : List FrD → Pl → Pl
 | [], p => p
 | f :: l, p => atF x C l (if f.se = x then nextP x C p else p)
def okF (x : Nat) (C : CsT) (ep : Nat) : List FrD → Pl → Prop
 | [], p => True
 | f :: l, p => (f.se = x → noneB (cutS x C p 1024) = false ∧ f = asE 2 ep (cutS x C p 1024).1) ∧ okF x C ep l (if f.se = x then nextP x C p else p)
theorem atF_app (x : Nat) (C : CsT) : ∀ (l m : List FrD) (p : Pl), atF x C (l ++ m) p = atF x C m (atF x C l p)
 | [], m, p => rfl
 | f :: l, m, p => atF_app x C l m _
theorem okF_app (x : Nat) (C : CsT) (ep : Nat) : ∀ (l m : List FrD) (p : Pl), okF x C ep l p → okF x C ep m (atF x C l p) → okF x C ep (l ++ m) p
 | [], m, p, _, h => h
 | f :: l, m, p, h, k => ⟨h.1, okF_app x C ep l m _ h.2 k⟩
theorem atF_ne (x : Nat) (C : CsT) : ∀ (l : List FrD) (p : Pl), (∀ f ∈ l, f.se ≠ x) → atF x C l p = p
 | [], p, _ => rfl
 | f :: l, p, h => by
  unfold atF
  rw [if_neg (h f List.mem_cons_self)]
  exact atF_ne x C l p (fun g hg => h g (List.mem_cons_of_mem _ hg))
theorem okF_ne (x : Nat) (C : CsT) (ep : Nat) : ∀ (l : List FrD) (p : Pl), (∀ f ∈ l, f.se ≠ x) → okF x C ep l p
 | [], p, _ => trivial
 | f :: l, p, h => by
  unfold okF
  rw [if_neg (h f List.mem_cons_self)]
  exact ⟨fun e => absurd e (h f List.mem_cons_self), okF_ne x C ep l p (fun g hg => h g (List.mem_cons_of_mem _ hg))⟩
structure Stay (S T : SD) : Prop where
 bw : T.bw = S.bw
 tk : T.tk = S.tk
 ep : T.ep = S.ep
 now : T.now = S.now
 cm : T.CM = S.CM
theorem Stay.refl (S : SD) : Stay S S := ⟨rfl, rfl, rfl, rfl, rfl⟩
theorem Stay.trans {S T U : SD} (h : Stay S T) (k : Stay T U) : Stay S U := ⟨k.bw.trans h.bw, k.tk.trans h.tk, k.ep.trans h.ep, k.now.trans h.now, k.cm.trans h.cm⟩
theorem Stay.come {S T : SD} (h : Stay S T) (x : Nat) : T.come x = S.come x := by unfold SD.come; rw [h.cm]
def stepS (x : Nat) (C : CsT) (S : SD) : SD := startD (sendD S (asF 2 S (cutS x C (S.sent x) 1024).1) (cutS x C (S.sent x) 1024).2.1) x
theorem step_stay (x : Nat) (C : CsT) (S : SD) : Stay S (stepS x C S) := ⟨rfl, rfl, rfl, rfl, rfl⟩
theorem sent_send (S : SD) (f : FrD) (tp : Pl) (y : Nat) : (sendD S f tp).sent y = if y = f.se then tp else S.sent y := place_set _ _ _ _
theorem step_sent (x : Nat) (C : CsT) (S : SD) (hs : (cutS x C (S.sent x) 1024).1.se = x) (y : Nat) : (stepS x C S).sent y = if y = x then nextP x C (S.sent x) else S.sent y := by
 show (sendD S (asF 2 S (cutS x C (S.sent x) 1024).1) (cutS x C (S.sent x) 1024).2.1).sent y = _
 rw [sent_send, asF_se, hs]
 rfl
theorem pumX_full (x : Nat) (C : CsT) (n : Nat) (S : SD) (h : ¬ sumP S.PL < (S.bw : Int)) : pumX x C n S = (S, []) := by
 cases n with
 | zero => rfl
 | succ n => unfold pumX; rw [if_neg h]
theorem pumX_none (x : Nat) (C : CsT) (n : Nat) (S : SD) (h : noneB (cutS x C (S.sent x) 1024) = true) : pumX x C n S = (S, []) := by
 cases n with
 | zero => rfl
 | succ n =>
  unfold pumX
  dsimp only
  rw [if_pos h]
  split <;> rfl
theorem pumX_some (x : Nat) (C : CsT) (n : Nat) (S : SD) (h : sumP S.PL < (S.bw : Int)) (h2 : noneB (cutS x C (S.sent x) 1024) = false) : pumX x C (n + 1) S = ((pumX x C n (stepS x C S)).1, asF 2 S (cutS x C (S.sent x) 1024).1 :: (pumX x C n (stepS x C S)).2) := by
 conv => lhs; unfold pumX
 dsimp only
 rw [if_pos h, h2, if_neg (by decide)]
 rfl
structure RunI (x : Nat) (C : CsT) (S : SD) (t : SD × List FrD) : Prop where
 stay : Stay S t.1
 ok : okF x C S.ep t.2 (S.sent x)
 at_ : t.1.sent x = atF x C t.2 (S.sent x)
 others : ∀ y, y ≠ x → t.1.sent y = S.sent y
 se : ∀ f ∈ t.2, f.se = x
theorem RunI.none (x : Nat) (C : CsT) (S : SD) : RunI x C S (S, []) := ⟨.refl S, trivial, rfl, fun _ _ => rfl, fun f h => by cases h⟩
theorem pumX_run {D : BD} (hD : OkD D) (x : Nat) : ∀ (n : Nat) (S : SD), RunI x (D.at_ x) S (pumX x (D.at_ x) n S)
 | 0, S => .none x _ S
 | n + 1, S => by
  by_cases h : sumP S.PL < (S.bw : Int)
  ·cases h2 : noneB (cutS x (D.at_ x) (S.sent x) 1024) with
   | true => rw [pumX_none x _ _ S h2]; exact .none x _ S
   | false =>
    rw [pumX_some x _ n S h h2]
    have hc := cut_of hD h2
    have ih := pumX_run hD x n (stepS x (D.at_ x) S)
    have hs := step_sent x (D.at_ x) S hc.se
    have hx := hs x
    rw [if_pos rfl] at hx
    have hse : (asF 2 S (cutS x (D.at_ x) (S.sent x) 1024).1).se = x := hc.se
    refine ⟨(step_stay x _ S).trans ih.stay, ?_, ?_, fun y hy => ?_, fun f hf => ?_⟩
    ·refine ⟨fun _ => ⟨h2, asE_eq _ _ _⟩, ?_⟩
     rw [if_pos hse, ← hx]
     exact ih.ok
    ·show _ = atF x (D.at_ x) _ (if _ then _ else _)
     rw [if_pos hse, ← hx]
     exact ih.at_
    ·have := ih.others y hy
     rw [hs y, if_neg hy] at this
     exact this
    ·rcases List.mem_cons.1 hf with rfl | hf
     ·exact hse
     ·exact ih.se f hf
  ·rw [pumX_full x _ _ S h]; exact .none x _ S
structure RunL (D : BD) (xs : List Nat) (S : SD) (t : SD × List FrD) : Prop where
 stay : Stay S t.1
 ok : ∀ x ∈ xs, okF x (D.at_ x) S.ep t.2 (S.sent x)
 at_ : ∀ x ∈ xs, t.1.sent x = atF x (D.at_ x) t.2 (S.sent x)
 others : ∀ y, y ∉ xs → t.1.sent y = S.sent y
 se : ∀ f ∈ t.2, f.se ∈ xs
theorem pumL_run {D : BD} (hD : OkD D) : ∀ (xs : List Nat) (S : SD), xs.Nodup → RunL D xs S (pumL D xs S)
 | [], S, _ => ⟨.refl S, fun x h => (by cases h), fun x h => (by cases h), fun _ _ => rfl, fun f h => (by cases h)⟩
 | x :: xs, S, hn => by
  rw [List.nodup_cons] at hn
  have h1 := pumX_run hD x 1002 S
  have h2 := pumL_run hD xs (pumX x (D.at_ x) 1002 S).1 hn.2
  have hne : ∀ f ∈ (pumL D xs (pumX x (D.at_ x) 1002 S).1).2, f.se ≠ x := fun f hf e => hn.1 (e ▸ h2.se f hf)
  have hep := h1.stay.ep
  unfold pumL
  refine ⟨h1.stay.trans h2.stay, fun y hy => ?_, fun y hy => ?_, fun y hy => ?_, fun f hf => ?_⟩
  ·by_cases e : y = x
   ·subst e
    exact okF_app _ _ _ _ _ _ h1.ok (okF_ne _ _ _ _ _ hne)
   ·have hy2 : y ∈ xs := (List.mem_cons.1 hy).resolve_left e
    have hno : ∀ f ∈ (pumX x (D.at_ x) 1002 S).2, f.se ≠ y := fun f hf e2 => e (e2.symm.trans (h1.se f hf))
    refine okF_app _ _ _ _ _ _ (okF_ne _ _ _ _ _ hno) ?_
    rw [atF_ne _ _ _ _ hno]
    have h3 := h2.ok y hy2
    rw [hep, h1.others y e] at h3
    exact h3
  ·by_cases e : y = x
   ·subst e
    show (pumL D xs _).1.sent y = _
    rw [h2.others y hn.1, h1.at_, atF_app, atF_ne _ _ _ _ hne]
   ·have hy2 : y ∈ xs := (List.mem_cons.1 hy).resolve_left e
    have hno : ∀ f ∈ (pumX x (D.at_ x) 1002 S).2, f.se ≠ y := fun f hf e2 => e (e2.symm.trans (h1.se f hf))
    show (pumL D xs _).1.sent y = _
    rw [h2.at_ y hy2, atF_app, atF_ne _ _ _ _ hno, h1.others y e]
  ·have h3 : y ≠ x ∧ y ∉ xs := by rw [List.mem_cons, not_or] at hy; exact hy
   show (pumL D xs _).1.sent y = _
   rw [h2.others y h3.2, h1.others y h3.1]
  ·rcases List.mem_append.1 hf with h3 | h3
   ·rw [h1.se f h3]; exact List.mem_cons_self
   ·exact List.mem_cons_of_mem _ (h2.se f h3)
theorem ksD_nodup {D : BD} (hD : OkD D) : (ksD D).Nodup := (ksD_perm D).nodup_iff.2 hD.nd
theorem pump_run {D : BD} (hD : OkD D) (S : SD) : RunL D (ksD D) S (pumpD D S) := pumL_run hD _ S (ksD_nodup hD)
end Go.Proofs.YtnjcdihgaidlbaaGreatDoor
set_option linter.unusedSimpArgs false
set_option linter.unusedVariables false
namespace Go.Proofs.YtnjcdihgaidlbaaGreatDoor
open Go.RowKit
set_option maxRecDepth 100000
def lenV : Value → Nat
 | .slice _ n _ => n
 | _ => 0
def SndO (B : Nat) (w0 : World) (X : SL) (Y : Bl) (ts : List Kt) (r : SD × List FrD) (e : Ending) (w' : World) : Prop := ∃ U c T, e = .returned (.slice U T.length c) ∧ T.map (fun y => y.f) = r.2 ∧ Sd B w0 w' X r.1 (thBk Y :: (chT (.slice U T.length c) T ++ ts))
theorem pumL_snoc (D : BD) (x : Nat) : ∀ (l : List Nat) (S : SD), pumL D (l ++ [x]) S = ((pumX x (D.at_ x) 1002 (pumL D l S).1).1, (pumL D l S).2 ++ (pumX x (D.at_ x) 1002 (pumL D l S).1).2)
 | [], S => by
  show ((pumX x (D.at_ x) 1002 S).1, (pumX x (D.at_ x) 1002 S).2 ++ []) = _
  rw [List.append_nil]
  rfl
 | y :: l, S => by
  show ((pumL D (l ++ [x]) _).1, _ ++ (pumL D (l ++ [x]) _).2) = _
  rw [pumL_snoc D x l]
  show _ = (_, (_ ++ _) ++ _)
  rw [List.append_assoc]
  rfl
theorem cut_er (x : Nat) (C : CsT) (p : Pl) (most : Int) : (cutS x C p most).2.2 = 0 ∨ (cutS x C p most).2.2 = 122 := by
 unfold cutS cutF
 split
 ·exact .inr rfl
 ·split
  ·exact .inl rfl
  ·exact .inl rfl
theorem cut_way {D : BD} (hD : OkD D) (x : Nat) (p : Pl) (most : Int) (R : FrD × Pl × Nat) (hR : R = cutS x (D.at_ x) p most) : (noneB R = true ∧ R.2.2 = 122) ∨ (noneB R = true ∧ R.2.2 = 0 ∧ R.1.cn = 0) ∨ (noneB R = false ∧ R.2.2 = 0 ∧ 0 < R.1.cn ∧ CutS D x p most R) := by
 subst hR
 cases hn : noneB (cutS x (D.at_ x) p most) with
 | true =>
  rcases cut_er x (D.at_ x) p most with h | h
  ·refine .inr (.inl ⟨rfl, h, ?_⟩)
   have h2 := of_decide_eq_true hn
   rcases h2 with h2 | h2
   ·exact absurd h h2
   ·exact h2
  ·exact .inl ⟨rfl, h⟩
 | false =>
  have hc := cut_of hD hn
  have := hc.cn
  exact .inr (.inr ⟨rfl, hc.er, by omega, hc⟩)
theorem permF (o a b c : Kt) (M ts : List Kt) : (o :: a :: b :: c :: (M ++ ts)).Perm (a :: b :: (c :: (M ++ [o]) ++ ts)) := by
 have h := (List.perm_middle (l₁ := a :: b :: c :: M) (a := o) (l₂ := ts)).symm
 simpa using h
abbrev zFr (kd ep se fc fb fn cn : Nat) (cl : Bool) (sm : Nat) (A : Option Addr) (l : List UInt8) (c : Nat) (n : Int) : Array Value := #[.int .u8 ((kd : Nat) : Int), .int .u32 ((ep : Nat) : Int), .int .u32 ((se : Nat) : Int), .int .u32 ((fc : Nat) : Int), .int .u32 ((fb : Nat) : Int), .int .u32 ((fn : Nat) : Int), .int .u32 ((cn : Nat) : Int), .bool cl, .int .u64 ((sm : Nat) : Int), .slice A l.length c, .int .i64 n]
set_option maxHeartbeats 32000000 in
theorem pump_any {B : Nat} {w0 w : World} {X : SL} {S : SD} {Y : Bl} {ts : List Kt} (h : Sd B w0 w X S (thBk Y :: ts)) (ok : OkB Y) (hS : OkSn Y.D S) :
  Calls Tryz.prog 12 #[ptS X, prB Y] w (SndO B w0 X Y ts (pumpD Y.D S)) := by
 have hmx : Tryz.prog.follows .mixedOrders = true := by kernel_rfl
 have HSe := Lib.hid (bSeries_any (RdK.of (h.sep.at_ 0 rfl)) ok)
 obtain ⟨D, hDe⟩ : ∃ D, D = Y.D := ⟨_, rfl⟩
 have hCt := fun (W : World) (hY : (thBk Y).P W) (x : Nat) (hx : x < 4294967296) (p1 p2 p3 : Nat) (h1 : p1 < 4294967296) (h2 : p2 < 4294967296) (h3 : p3 < 4294967296) => bCut_any (RdK.of hY) ok x hx p1 p2 p3 1024 h1 h2 h3 (by unfold in64; omega)
 have hD := ok.D
 rw [← hDe] at HSe hCt hD hS ⊢
 have hk64 : (ksD D).length ≤ 64 := by rw [ksD_len]; have h1 := hD.few; have h2 := hD.mo2; omega
 have HCt := Lib.hid hCt
 have HD := Lib.hid (And.intro hD hS)
 have H0 := Lib.hid h
 clear h ok hS hCt hD hDe
 go_enter Tryz.func12, Tryz.ntmps12
 go_upto_region 3 with (go_at_call 13; refine HSe.out.mono ?_; rintro e w1 ⟨U1, c1, xs, rfl, h1, h2, h3, b1⟩)
 have hxs := ksD_of h1 h2
 rw [← hxs] at hk64
 obtain ⟨n, hn⟩ : ∃ n, n = xs.length := ⟨_, rfl⟩
 rw [← hn] at h3 hk64 ⊢
 have hxk : ∀ x ∈ xs, x < 4294967296 := fun x hx => by
  obtain ⟨p, hp, rfl⟩ := List.mem_map.1 (h1.subset hx)
  exact HD.out.1.key p hp
 have hS1 : Sd B w0 w1 X S (thBk Y :: thR 30 encU 1 (.slice U1 n c1) xs :: ts) := (H0.out.cons (t := thR 30 encU 1 (.slice U1 n c1) xs) b1 (h3.mono (Nat.zero_le _)) (fun k hk => (World.ownsRow.lt h3 k hk).1)).perm (List.Perm.swap _ _ _)
 have HX := Lib.hid (And.intro hxs (And.intro hn (And.intro hS1 hxk)))
 clear h1 h2 h3 b1 hxs hn hxk hS1 HSe H0
 go_loopw [5, 7, 8, 9, 10, 14] (fun s5 s7 s8 s9 s10 s14 wr => ∃ (i m cc : Nat) (U : Option Addr) (T : List FrE), s14 = .int .i64 (i : Nat) ∧ i ≤ n ∧ s5 = .slice U m cc ∧ m ≤ 1002 * i ∧ Hid (m = T.length ∧ T.map (fun y => y.f) = (pumL D (xs.take i) S).2 ∧ Sd B w0 wr X (pumL D (xs.take i) S).1 (thBk Y :: thR 30 encU 1 (.slice U1 n c1) xs :: (chT (.slice U m cc) T ++ ts))))
  (fun _ _ _ _ _ s14 _ => n - (intOf s14).toNat)
 case atStart =>
  refine ⟨0, 0, 0, none, [], by go_num, Nat.zero_le _, rfl, Nat.zero_le _, Lib.hid ⟨rfl, rfl, ?_⟩⟩
  refine HX.out.2.2.1.side (us := thBk Y :: thR 30 encU 1 (.slice U1 n c1) xs :: (chT (.slice none 0 0) [] ++ ts)) fun rs hs => ?_
  exact (hs.addNilR 46 encFrE 11).permB ((List.Perm.swap _ _ _).trans (List.Perm.cons _ (List.Perm.swap _ _ _)))
 case round =>
  obtain ⟨i, m, cc, U, T, rfl, hi, rfl, hm1, HI⟩ := hrel
  obtain ⟨wi, hwi⟩ : ∃ wi, wi = wr := ⟨_, rfl⟩
  rw [← hwi] at HI ⊢
  clear hwi
  by_cases hit : i < n
  ·obtain ⟨x, hx⟩ : ∃ x, xs[i]? = some x := ⟨_, List.getElem?_eq_getElem (by rw [← HX.out.2.1]; exact hit)⟩
   obtain ⟨gs, hgs, -, hcs⟩ := row_at Tryz.eltU (HI.out.2.2.sep.at_ (t := thR 30 encU 1 (.slice U1 n c1) xs) 1 rfl) hx
   subst hgs
   have hx32 := HX.out.2.2.2 x (List.mem_of_getElem? hx)
   have C1 : wi.cell? ⟨gs, i, none⟩ = some (.int .u32 (x : Nat)) := by
    have h1 := hcs 0 _ rfl
    rw [Nat.mul_one, Nat.add_zero] at h1
    exact h1
   obtain ⟨C, hC⟩ : ∃ C, C = D.at_ x := ⟨_, rfl⟩
   have hsn : pumL D (xs.take (i + 1)) S = ((pumX x C 1002 (pumL D (xs.take i) S).1).1, (pumL D (xs.take i) S).2 ++ (pumX x C 1002 (pumL D (xs.take i) S).1).2) := by rw [List.take_add_one, hx, hC]; exact pumL_snoc _ _ _ _
   have hSi : OkSn D (pumL D (xs.take i) S).1 := OkSn.pumL HD.out.1 _ HD.out.2
   obtain ⟨SI, hSI⟩ : ∃ SI, SI = pumL D (xs.take i) S := ⟨_, rfl⟩
   rw [← hSI] at hsn hSi HI
   have hit2 : (i : Int) < (n : Int) := by omega
   have HC := Lib.hid (And.intro hC hsn)
   have HJ0 := Lib.hid (And.intro HI.out.1 (And.intro HI.out.2.2 (And.intro hSi HI.out.2.1)))
   clear hx hcs hC hsn hSi hSI HI
   go_upto_region 5 with fail
   clear C1
   go_loopw [5, 8, 9, 10] (fun s5 s8 s9 s10 wj => ∃ (k m2 c2 : Nat) (U2 : Option Addr) (T2 : List FrE) (S2 : SD), s5 = .slice U2 m2 c2 ∧ m2 + k = m + 1002 ∧ Hid (m2 = T2.length ∧ Sd B w0 wj X S2 (thBk Y :: thR 30 encU 1 (.slice (some ⟨gs, 0, none⟩) n c1) xs :: (chT (.slice U2 m2 c2) T2 ++ ts)) ∧ OkSn D S2 ∧ leftS C (S2.sent x) < k ∧ T2.map (fun y => y.f) ++ (pumX x C k S2).2 = SI.2 ++ (pumX x C 1002 SI.1).2 ∧ (pumX x C k S2).1 = (pumX x C 1002 SI.1).1))
    (fun s5 _ _ _ _ => m + 1002 - lenV s5)
   case atStart => exact ⟨1002, m, cc, U, T, SI.1, rfl, rfl, Lib.hid ⟨HJ0.out.1, HJ0.out.2.1, HJ0.out.2.2.1, by have := left_few (HD.out.1.at_ x) (SI.1.sent x); rw [HC.out.1]; omega, by rw [HJ0.out.2.2.2], rfl⟩⟩
   case round =>
    obtain ⟨k, m2, c2, U2, T2, S2, rfl, hmk, HJ⟩ := hrel
    obtain ⟨wj, hwj⟩ : ∃ wj, wj = wr := ⟨_, rfl⟩
    rw [← hwj] at HJ ⊢
    clear hwj
    have hk0 : 0 < k := by have := HJ.out.2.2.2.1; omega
    have C0 := HJ.out.2.1.f0
    obtain ⟨F, hw, -⟩ := HJ.out.2.1.win
    have hN := winroom_any hw
    clear hw
    have HDone := Lib.hid (fun (W : World) (hb : Below wj.heap.size wj W) (he : pumX x C k S2 = (S2, [])) => (show ∃ (i' m' cc' : Nat) (U' : Option Addr) (T' : List FrE), Value.int .i64 ((i : Int) + 1) = .int .i64 (i' : Nat) ∧ i' ≤ n ∧ Value.slice U2 m2 c2 = .slice U' m' cc' ∧ m' ≤ 1002 * i' ∧ Hid (m' = T'.length ∧ T'.map (fun y => y.f) = (pumL D (xs.take i') S).2 ∧ Sd B w0 W X (pumL D (xs.take i') S).1 (thBk Y :: thR 30 encU 1 (.slice (some ⟨gs, 0, none⟩) n c1) xs :: (chT (.slice U' m' cc') T' ++ ts))) by
     have h1 := HJ.out.2.2.2.2.1
     have h2 := HJ.out.2.2.2.2.2
     rw [he] at h1 h2
     dsimp only at h1 h2
     rw [List.append_nil] at h1
     refine ⟨i + 1, m2, c2, U2, T2, by go_num, by omega, rfl, by omega, Lib.hid ⟨HJ.out.1, ?_, ?_⟩⟩
     ·rw [HC.out.2]; exact h1
     ·rw [HC.out.2]
      dsimp only
      rw [← h2]
      exact HJ.out.2.1.go hb))
    by_cases hr : sumP S2.PL < (S2.bw : Int)
    ·rw [decide_eq_true hr] at hN
     have HN := Lib.hid hN
     have Hr := Lib.hid hr
     clear hN hr
     go_upto_region 6 with (go_at_call 32; refine HN.out.mono ?_; rintro e w5 ⟨rfl, b5⟩)
     have h5 := HJ.out.2.1.go b5
     have hY5 : (thBk Y).P w5 := h5.sep.at_ 0 rfl
     have hpo := HJ.out.2.2.1.sent x
     have HSn := Lib.hid (sent_any h5 x hx32)
     obtain ⟨p, hp⟩ : ∃ p, p = S2.sent x := ⟨_, rfl⟩
     rw [← hp] at HSn hpo
     obtain ⟨p1, p2, p3⟩ := p
     have hCt := fun (W : World) (hb : Below w5.heap.size w5 W) => HCt.out W ((thBk Y).below hY5 hb) x hx32 p1 p2 p3 hpo.1 hpo.2.1 hpo.2.2
     obtain ⟨R, hR⟩ : ∃ R, R = cutS x C (p1, p2, p3) 1024 := ⟨_, rfl⟩
     have hway := cut_way HD.out.1 x (p1, p2, p3) 1024 R (by rw [← HC.out.1]; exact hR)
     rw [← HC.out.1, show cutF x C p1 p2 p3 1024 = R from hR.symm] at hCt
     obtain ⟨⟨kd, ep, se, fc, fb, fn, cn, cl, sm, fl, nn⟩, ⟨t1, t2, t3⟩, er⟩ := R
     have HCut := Lib.hid hCt
     have HW := Lib.hid hway
     have HR := Lib.hid (And.intro hp hR)
     have H5 := Lib.hid (And.intro h5 b5)
     clear hCt hR hp hpo hY5 h5 b5 C0 HN
     have ways : er = 122 ∨ er = 0 ∧ (cn = 0 ∨ 0 < cn) := by
      rcases hway with h1 | h1 | h1
      ·exact .inl h1.2
      ·exact .inr ⟨h1.2.1, .inl h1.2.2⟩
      ·exact .inr ⟨h1.2.1, .inr h1.2.2.1⟩
     clear hway
     have hnone : noneB ((⟨kd, ep, se, fc, fb, fn, cn, cl, sm, fl, nn⟩ : FrD), (t1, t2, t3), er) = true → pumX x C k S2 = (S2, []) := fun e => pumX_none x C k S2 (by rw [← HR.out.1, ← HR.out.2]; exact e)
     have HNo := Lib.hid hnone
     clear hnone
     have k00 : ((0 : Int) == 0) = true := rfl
     rcases ways with rfl | ⟨rfl, rfl | hcn⟩
     ·go_upto_region 7 with (first | (go_at_call 22; refine HSn.out.mono ?_; rintro e w6 ⟨rfl, b6⟩; simp only [plE, plV]) | (go_at_call 14; refine (HCut.out _ b6).mono ?_; rintro e w7 ⟨⟨A3, c3, rfl, ho⟩, b7⟩; simp only [frC]))
      have bV := below_alloc2 w7 (.cells (zFr kd ep se fc fb fn cn cl sm A3 fl c3 nn) 46) (.cells #[.int .u32 ((t1 : Nat) : Int), .int .u32 ((t2 : Nat) : Int), .int .u32 ((t3 : Nat) : Int)] 40)
      have b57 := H5.out.2.trans ((b6.trans ((b7.mono b6.size).trans (bV.mono (Nat.le_trans b6.size b7.size)))).mono H5.out.2.size)
      have HBW := Lib.hid b57
      clear bV b57 b6 b7 ho
      go_wp2_with fail
      go_roundw
      case measure => simp [intOf]; omega
      case rel => exact HDone.out _ HBW.out (HNo.out rfl)
     ·go_upto_region 7 with (first | (go_at_call 22; refine HSn.out.mono ?_; rintro e w6 ⟨rfl, b6⟩; simp only [plE, plV]) | (go_at_call 14; refine (HCut.out _ b6).mono ?_; rintro e w7 ⟨⟨A3, c3, rfl, ho⟩, b7⟩; simp only [frC]))
      have h7 := (((H5.out.1.go b6).cons (t := thO (.slice A3 fl.length c3) fl) b7 (ho.mono (Nat.zero_le _)) (fun k hk => (World.ownsRow.lt ho k hk).1)).box (zFr kd ep se fc fb fn 0 cl sm A3 fl c3 nn) 46).box #[.int .u32 ((t1 : Nat) : Int), .int .u32 ((t2 : Nat) : Int), .int .u32 ((t3 : Nat) : Int)] 40
      rw [World.size_alloc] at h7
      have b57 := H5.out.2.trans ((b6.trans ((b7.mono b6.size).trans ((below_alloc2 w7 (.cells (zFr kd ep se fc fb fn 0 cl sm A3 fl c3 nn) 46) (.cells #[.int .u32 ((t1 : Nat) : Int), .int .u32 ((t2 : Nat) : Int), .int .u32 ((t3 : Nat) : Int)] 40)).mono (Nat.le_trans b6.size b7.size)))).mono H5.out.2.size)
      dsimp only [zFr] at h7 b57
      generalize hV7 : World.alloc (World.alloc _ _) _ = V7 at h7 b57 ⊢
      obtain ⟨g8, hg8⟩ : ∃ g, g = w7.heap.size := ⟨_, rfl⟩
      obtain ⟨g9, hg9⟩ : ∃ g, g = w7.heap.size + 1 := ⟨_, rfl⟩
      rw [← hg9, ← hg8] at h7 ⊢
      have D8 := cells_say (h7.blkAt 1) _ 0 rfl
      have D9 := cells_say (h7.blkAt 0) _ 0 rfl
      simp only [cellsSay, List.drop_zero, Nat.reduceAdd, and_true] at D8 D9
      have HBW := Lib.hid b57
      clear hV7 hg8 hg9 h7 b57 b6 b7 ho
      go_wp2_with fail
      go_roundw
      case measure => simp [intOf]; omega
      case rel => exact HDone.out _ HBW.out (HNo.out rfl)
     ·go_upto_region 7 with (first | (go_at_call 22; refine HSn.out.mono ?_; rintro e w6 ⟨rfl, b6⟩; simp only [plE, plV]) | (go_at_call 14; refine (HCut.out _ b6).mono ?_; rintro e w7 ⟨⟨A3, c3, rfl, ho⟩, b7⟩; simp only [frC]))
      have h7 := (((H5.out.1.go b6).cons (t := thO (.slice A3 fl.length c3) fl) b7 (ho.mono (Nat.zero_le _)) (fun k hk => (World.ownsRow.lt ho k hk).1)).box (zFr kd ep se fc fb fn cn cl sm A3 fl c3 nn) 46).box #[.int .u32 ((t1 : Nat) : Int), .int .u32 ((t2 : Nat) : Int), .int .u32 ((t3 : Nat) : Int)] 40
      rw [World.size_alloc] at h7
      have b57 := H5.out.2.trans ((b6.trans ((b7.mono b6.size).trans ((below_alloc2 w7 (.cells (zFr kd ep se fc fb fn cn cl sm A3 fl c3 nn) 46) (.cells #[.int .u32 ((t1 : Nat) : Int), .int .u32 ((t2 : Nat) : Int), .int .u32 ((t3 : Nat) : Int)] 40)).mono (Nat.le_trans b6.size b7.size)))).mono H5.out.2.size)
      dsimp only [zFr] at h7 b57
      generalize hV7 : World.alloc (World.alloc _ _) _ = V7 at h7 b57 ⊢
      obtain ⟨g8, hg8⟩ : ∃ g, g = w7.heap.size := ⟨_, rfl⟩
      obtain ⟨g9, hg9⟩ : ∃ g, g = w7.heap.size + 1 := ⟨_, rfl⟩
      rw [← hg9, ← hg8] at h7 ⊢
      have D8 := cells_say (h7.blkAt 1) _ 0 rfl
      have D9 := cells_say (h7.blkAt 0) _ 0 rfl
      simp only [cellsSay, List.drop_zero, Nat.reduceAdd, and_true] at D8 D9
      have HBW := Lib.hid b57
      have kcn : ((cn : Int) == 0) = false := beq_eq_false_iff_ne.2 (by omega)
      have hse : se = x := by
       rcases HW.out with h1 | h1 | h1
       ·exact absurd h1.2 (by show ¬ (0 : Nat) = 122; decide)
       ·exact absurd h1.2.2 (by show ¬ cn = 0; omega)
       ·exact h1.2.2.2.se
      subst hse
      obtain ⟨E2, hE2⟩ : ∃ E, E = asF 2 S2 ⟨kd, ep, se, fc, fb, fn, cn, cl, sm, fl, nn⟩ := ⟨_, rfl⟩
      have hSg : Calls Tryz.prog 33 #[ptS X, .int .u8 2, .agg #[.int .u8 ((kd : Nat) : Int), .int .u32 ((ep : Nat) : Int), .int .u32 ((se : Nat) : Int), .int .u32 ((fc : Nat) : Int), .int .u32 ((fb : Nat) : Int), .int .u32 ((fn : Nat) : Int), .int .u32 ((cn : Nat) : Int), .bool cl, .int .u64 ((sm : Nat) : Int), .slice A3 fl.length c3, .int .i64 nn], .agg #[.int .u32 ((t1 : Nat) : Int), .int .u32 ((t2 : Nat) : Int), .int .u32 ((t3 : Nat) : Int)]] V7 _ := sending_any h7 HD.out.1 HJ.out.2.2.1 2 ⟨kd, ep, se, fc, fb, fn, cn, cl, sm, fl, nn⟩ A3 c3 (t1, t2, t3) hx32
      have HSg := Lib.hid hSg
      have HE2 := Lib.hid hE2
      have hm2 : m2 ≤ 70000 := by omega
      clear hV7 hg8 hg9 h7 b57 b6 b7 ho hSg hE2
      go_upto_region 9 with (first
       | (go_at_call 33; refine HSg.out.mono ?_; rintro e w8 ⟨rfl, F8, q8, hs8⟩; simp only [frC, asF])
       | (at_builtin; go_must (refine sep_app1 Tryz.eltFrE rfl (.tmp 40) (.tmp 45) rfl 12 (.slice U2 m2 c2) T2 (by simp [Act.eval, Act.put]) (hs8.box (zFr 2 S2.ep se fc fb fn cn cl sm A3 fl c3 nn) 46) rfl w8.heap.size 1 ⟨⟨2, S2.ep, se, fc, fb, fn, cn, cl, sm, fl, nn⟩, A3, c3⟩ 46 (zFr 2 S2.ep se fc fb fn cn cl sm A3 fl c3 nn) rfl (Blk.new w8 _ _) rfl (by unfold maxLen; rw [← HJ.out.1]; omega) (by rw [← HJ.out.1]; omega) ?_); intro g11 c11 w11 hS11; rw [← HJ.out.1] at hS11 ⊢))
      simp only [List.set_cons_succ, List.set_cons_zero] at hS11
      have h11 : Sd B w0 w11 X (sendD S2 E2 (t1, t2, t3)) _ := ⟨F8, q8, by rw [HE2.out]; exact hS11.tail⟩
      have h12 : Sd B w0 w11 X (sendD S2 E2 (t1, t2, t3)) (thBk Y :: thR 30 encU 1 (.slice (some ⟨gs, 0, none⟩) n c1) xs :: (chT (.slice (some ⟨g11, 0, none⟩) (m2 + 1) c11) (T2 ++ [⟨⟨2, S2.ep, se, fc, fb, fn, cn, cl, sm, fl, nn⟩, A3, c3⟩]) ++ ts)) := by
       refine h11.tail.tail.perm ?_
       unfold chT
       rw [List.map_append]
       exact permF _ _ _ _ _ _
      obtain ⟨S3, hS3⟩ : ∃ T, T = sendD S2 E2 (t1, t2, t3) := ⟨_, rfl⟩
      have hst : stepS se C S2 = startD S3 se := by
       rw [hS3, HE2.out]
       unfold stepS
       rw [← HR.out.1, ← HR.out.2]
      have hcs : CutS D se (p1, p2, p3) 1024 ((⟨kd, ep, se, fc, fb, fn, cn, cl, sm, fl, nn⟩ : FrD), (t1, t2, t3), 0) ∧ noneB ((⟨kd, ep, se, fc, fb, fn, cn, cl, sm, fl, nn⟩ : FrD), (t1, t2, t3), 0) = false := by
       rcases HW.out with h1 | h1 | h1
       ·exact absurd h1.2 (by show ¬ (0 : Nat) = 122; decide)
       ·exact absurd h1.2.2 (by show ¬ cn = 0; omega)
       ·exact ⟨h1.2.2.2, h1.1⟩
      have hok3 : OkSn D S3 := by
       rw [hS3, HE2.out]
       exact HJ.out.2.2.1.send (by rw [asF_se]; exact hcs.1.key) hcs.1.okto
      rw [← hS3] at h12
      have HH := Lib.hid (And.intro hst (And.intro hcs (And.intro hok3 h12)))
      have C1 := fun (y : More) => (h12.go (plus_below w11 y)).f1
      have C3 := fun (y : More) => (h12.go (plus_below w11 y)).f3
      clear hS11 h11 hst hcs hok3 hS3 h12 hs8 D8 D9 HSg
      refine wp_region_tail_ext 9 (by kernel_rfl) (by kernel_rfl) ?_
      simp only [List.take_succ_cons, List.take_zero, List.drop_succ_cons, List.drop_zero]
      repeat (go_big_quiet_step (fail))
      refine wpQuiet_nil ?_
      rintro w12 ⟨y, rfl⟩
      have h13 := HH.out.2.2.2.go (plus_below w11 y)
      have hfew := h13.fewT HD.out.1 HH.out.2.2.1
      obtain ⟨rs, hT, hL⟩ := h13.tm
      have HSt := Lib.hid (tstart_any hT se S3.now hx32 HH.out.2.2.1.now HH.out.2.2.1.tk (by omega))
      have HL := Lib.hid hL
      clear h13 hT hL hfew C1 C3
      go_wp2_with (go_at_call 34; refine HSt.out.mono ?_; rintro e w13 ⟨rfl, hT2⟩)
      have h14 : Sd B w0 w13 X (stepS se C S2) (thBk Y :: thR 30 encU 1 (.slice (some ⟨gs, 0, none⟩) n c1) xs :: (chT (.slice (some ⟨g11, 0, none⟩) (m2 + 1) c11) (T2 ++ [⟨⟨2, S2.ep, se, fc, fb, fn, cn, cl, sm, fl, nn⟩, A3, c3⟩]) ++ ts)) := by rw [HH.out.1]; exact HL.out w13 _ [] hT2
      go_roundw
      case measure => simp [lenV]; omega
      case rel =>
       obtain ⟨k', rfl⟩ : ∃ k', k = k' + 1 := ⟨k - 1, by omega⟩
       have hnb : noneB (cutS se C (S2.sent se) 1024) = false := by rw [← HR.out.1, ← HR.out.2]; exact HH.out.2.1.2
       have hps := pumX_some se C k' S2 Hr.out hnb
       have h1 := HJ.out.2.2.2.2.1
       have h2 := HJ.out.2.2.2.2.2
       rw [hps] at h1 h2
       dsimp only at h1 h2
       refine ⟨k', m2 + 1, c11, some ⟨g11, 0, none⟩, T2 ++ [⟨⟨2, S2.ep, se, fc, fb, fn, cn, cl, sm, fl, nn⟩, A3, c3⟩], stepS se C S2, rfl, by omega, Lib.hid ⟨by rw [List.length_append, List.length_singleton, HJ.out.1], h14, ?_, ?_, ?_, h2⟩⟩
       ·rw [HH.out.1]; exact HH.out.2.2.1.start HH.out.2.1.1.key
       ·have h3 := step_sent se C S2 (by rw [← HR.out.1, ← HR.out.2]) se
        rw [if_pos rfl] at h3
        rw [h3]
        unfold nextP
        rw [← HR.out.1, ← HR.out.2]
        have h4 := HH.out.2.1.1.left
        have h5 := HJ.out.2.2.2.1
        rw [← HC.out.1] at h4
        rw [← HR.out.1] at h5
        dsimp only at h4 ⊢
        omega
       ·rw [← h1, List.map_append, List.append_assoc, ← HR.out.1, ← HR.out.2]
        rfl
    ·rw [decide_eq_false hr] at hN
     have HN := Lib.hid hN
     have Hr := Lib.hid hr
     clear hN hr
     go_wp2_with (go_at_call 32; refine HN.out.mono ?_; rintro e w5 ⟨rfl, b5⟩)
     go_roundw
     case measure => simp [intOf]; omega
     case rel => exact HDone.out _ b5 (pumX_full x C k S2 (by have := Hr.out; omega))
  ·have hit2 : ¬ (i : Int) < (n : Int) := by omega
   have hii : i = n := by omega
   have hE : xs.take i = ksD D := by rw [hii, HX.out.2.1, List.take_length]; exact HX.out.1
   have hF := HI.out
   rw [hE] at hF
   have HF := Lib.hid hF
   clear hii hE hF HI
   go_wp2_with fail
   go_ret
   refine ⟨U, cc, T, by rw [← HF.out.1]; rfl, HF.out.2.1, ?_⟩
   rw [← HF.out.1]
   exact HF.out.2.2.sub ((List.sublist_cons_self _ _).cons_cons _)
end Go.Proofs.YtnjcdihgaidlbaaGreatDoor
set_option linter.unusedSimpArgs false
set_option linter.unusedVariables false
namespace Go.Proofs.YtnjcdihgaidlbaaGreatDoor
open Go.RowKit
set_option maxRecDepth 100000
theorem rowOne {w : World} {g : Nat} {e : TypeId} {cs : Array Value} (h : Blk w g e cs) (y : FrE) (hc : cs = (encFrE y).toArray) : OwnR w g e encFrE 11 (.slice (some ⟨g, 0, none⟩) 1 1) [y] := by
 refine ⟨rfl, .inr ⟨g, 1, cs, rfl, Nat.le_refl _, h, Nat.le_refl _, by decide, by rw [hc]; rfl, ?_⟩⟩
 rw [hc]
 rfl
theorem chunkOf (u v z : Value) (w : World) : (Instr.field 40 (.agg #[u, v, z]) 0).run Tryz.prog w = .ok u w := by kernel_rfl
set_option maxHeartbeats 32000000 in
theorem anew_any {B : Nat} {w0 w : World} {X : SL} {S : SD} {Y : Bl} {ts : List Kt} (h : Sd B w0 w X S (thBk Y :: ts)) (ok : OkB Y) (hS : OkSn Y.D S) (x : Nat) (hx : x < 4294967296) :
  Calls Tryz.prog 46 #[ptS X, prB Y, .int .u32 (x : Nat)] w (SndO B w0 X Y ts (anewD Y.D S x)) := by
 have hmx : Tryz.prog.follows .mixedOrders = true := by kernel_rfl
 obtain ⟨D, hDe⟩ : ∃ D, D = Y.D := ⟨_, rfl⟩
 have hCt := fun (W : World) (hY : (thBk Y).P W) (p1 : Nat) (h1 : p1 < 4294967296) => bCut_any (RdK.of hY) ok x hx p1 0 0 9223372036854775807 h1 (by decide) (by decide) (by unfold in64; omega)
 have hD := ok.D
 have hRs := reset_any h hD hS x hx
 rw [← hDe] at hCt hD hS ⊢
 have HRs := Lib.hid hRs
 have HCt := Lib.hid hCt
 have HD := Lib.hid (And.intro hD (And.intro hS hx))
 clear h ok hS hCt hD hDe hRs
 go_enter Tryz.func46, Tryz.ntmps46
 go_upto_region 2 with (go_at_call 52; refine HRs.out.mono ?_; rintro e w1 ⟨rfl, h1⟩)
 obtain ⟨S1, hS1⟩ : ∃ T, T = resetD S x := ⟨_, rfl⟩
 have hok1 : OkSn D S1 := by rw [hS1]; exact HD.out.2.1.reset x
 have hco1 : S1.come x = S.come x := by rw [hS1]; rfl
 rw [← hS1] at h1
 have hpo := hok1.come x
 have HCo := Lib.hid (come_any h1 x hx)
 have hfi := chunkOf
 obtain ⟨p, hp⟩ : ∃ p, p = S1.come x := ⟨_, rfl⟩
 rw [← hp] at HCo hpo hco1
 obtain ⟨p1, p2, p3⟩ := p
 have hY1 : (thBk Y).P w1 := h1.sep.at_ 0 rfl
 have hCut := fun (W : World) (hb : Below w1.heap.size w1 W) => HCt.out W ((thBk Y).below hY1 hb) p1 hpo.1
 obtain ⟨R, hR⟩ : ∃ R, R = cutS x (D.at_ x) (p1, 0, 0) 9223372036854775807 := ⟨_, rfl⟩
 have hway := cut_way HD.out.1 x (p1, 0, 0) 9223372036854775807 R hR
 rw [show cutF x (D.at_ x) p1 0 0 9223372036854775807 = R from hR.symm] at hCut
 have hanN : noneB R = true → anewD D S x = (S1, []) := fun e => by
  unfold anewD
  dsimp only
  rw [← hco1, ← hR, if_pos e, hS1]
 have hanS : noneB R = false → anewD D S x = (againD (sendD S1 (asF 3 S { R.1 with sm := 0 }) R.2.1) x, [asF 3 S { R.1 with sm := 0 }]) := fun e => by
  unfold anewD
  dsimp only
  rw [← hco1, ← hR, if_neg (by rw [e]; decide), hS1]
 obtain ⟨⟨kd, ep, se, fc, fb, fn, cn, cl, sm, fl, nn⟩, ⟨t1, t2, t3⟩, er⟩ := R
 have HCut := Lib.hid hCut
 have HW := Lib.hid hway
 have hep : S1.ep = S.ep := by rw [hS1]; rfl
 have HA := Lib.hid (And.intro hanN (And.intro hanS hep))
 have H1 := Lib.hid (And.intro h1 hok1)
 clear hCut hR hp hpo hY1 h1 hanN hanS hep hok1 hco1 HRs HCt hS1
 have ways : er = 122 ∨ er = 0 ∧ (cn = 0 ∨ 0 < cn) := by
  rcases hway with h1 | h1 | h1
  ·exact .inl h1.2
  ·exact .inr ⟨h1.2.1, .inl h1.2.2⟩
  ·exact .inr ⟨h1.2.1, .inr h1.2.2.1⟩
 clear hway
 go_upto_region 3 with (go_at_call 17; refine HCo.out.mono ?_; rintro e w2 ⟨rfl, b2⟩; simp only [plE, plV])
 have h3 := (H1.out.1.go b2).box #[.int .u32 (p1 : Nat), .int .u32 0, .int .u32 0] 40
 have b3 := b2.trans ((below_alloc w2 (.cells #[.int .u32 (p1 : Nat), .int .u32 0, .int .u32 0] 40)).mono b2.size)
 generalize hV3 : World.alloc _ _ = V3 at h3 b3 ⊢
 obtain ⟨g7, hg7⟩ : ∃ g, g = w2.heap.size := ⟨_, rfl⟩
 rw [← hg7] at h3 ⊢
 have D7 := cells_say (h3.blkAt 0) _ 0 rfl
 simp only [cellsSay, List.drop_zero, Nat.reduceAdd, and_true] at D7
 have H3 := Lib.hid (And.intro h3 b3)
 have HCt := Lib.hid (HCut.out V3 b3)
 clear hV3 hg7 b2 h3 b3 HCo HCut
 have k00 : ((0 : Int) == 0) = true := rfl
 rcases ways with rfl | ⟨rfl, rfl | hcn⟩
 ·go_upto_region 4 with (go_at_call 14; refine HCt.out.mono ?_; rintro e w4 ⟨⟨A3, c3, rfl, ho⟩, b4⟩; simp only [frC])
  have h5 := (((H3.out.1.cons (t := thO (.slice A3 fl.length c3) fl) b4 (ho.mono (Nat.zero_le _)) (fun k hk => (World.ownsRow.lt ho k hk).1)).box (zFr kd ep se fc fb fn cn cl sm A3 fl c3 nn) 46).box #[.int .u32 ((t1 : Nat) : Int), .int .u32 ((t2 : Nat) : Int), .int .u32 ((t3 : Nat) : Int)] 40)
  rw [World.size_alloc] at h5
  dsimp only [zFr] at h5
  generalize hV5 : World.alloc (World.alloc _ _) _ = V5 at h5 ⊢
  obtain ⟨g8, hg8⟩ : ∃ g, g = w4.heap.size := ⟨_, rfl⟩
  obtain ⟨g9, hg9⟩ : ∃ g, g = w4.heap.size + 1 := ⟨_, rfl⟩
  rw [← hg9, ← hg8] at h5 ⊢
  have D8 := cells_say (h5.blkAt 1) _ 0 rfl
  have D9 := cells_say (h5.blkAt 0) _ 0 rfl
  simp only [cellsSay, List.drop_zero, Nat.reduceAdd, and_true] at D8 D9
  have H5 := Lib.hid h5
  clear hV5 hg8 hg9 b4 ho h5
  go_wp2_with fail
  go_ret
  rw [HA.out.1 rfl]
  refine ⟨none, 0, [], rfl, rfl, ?_⟩
  have h6 := H5.out.tail.tail.tail.tail
  refine h6.side (us := thBk Y :: (chT (.slice none 0 0) [] ++ ts)) fun rs hs => ?_
  exact (hs.addNilR 46 encFrE 11).permB (List.Perm.swap _ _ _)
 ·go_upto_region 4 with (go_at_call 14; refine HCt.out.mono ?_; rintro e w4 ⟨⟨A3, c3, rfl, ho⟩, b4⟩; simp only [frC])
  have h5 := (((H3.out.1.cons (t := thO (.slice A3 fl.length c3) fl) b4 (ho.mono (Nat.zero_le _)) (fun k hk => (World.ownsRow.lt ho k hk).1)).box (zFr kd ep se fc fb fn 0 cl sm A3 fl c3 nn) 46).box #[.int .u32 ((t1 : Nat) : Int), .int .u32 ((t2 : Nat) : Int), .int .u32 ((t3 : Nat) : Int)] 40)
  rw [World.size_alloc] at h5
  dsimp only [zFr] at h5
  generalize hV5 : World.alloc (World.alloc _ _) _ = V5 at h5 ⊢
  obtain ⟨g8, hg8⟩ : ∃ g, g = w4.heap.size := ⟨_, rfl⟩
  obtain ⟨g9, hg9⟩ : ∃ g, g = w4.heap.size + 1 := ⟨_, rfl⟩
  rw [← hg9, ← hg8] at h5 ⊢
  have D8 := cells_say (h5.blkAt 1) _ 0 rfl
  have D9 := cells_say (h5.blkAt 0) _ 0 rfl
  simp only [cellsSay, List.drop_zero, Nat.reduceAdd, and_true] at D8 D9
  have H5 := Lib.hid h5
  clear hV5 hg8 hg9 b4 ho h5
  go_wp2_with fail
  go_ret
  rw [HA.out.1 rfl]
  refine ⟨none, 0, [], rfl, rfl, ?_⟩
  have h6 := H5.out.tail.tail.tail.tail
  refine h6.side (us := thBk Y :: (chT (.slice none 0 0) [] ++ ts)) fun rs hs => ?_
  exact (hs.addNilR 46 encFrE 11).permB (List.Perm.swap _ _ _)
 ·go_upto_region 4 with (go_at_call 14; refine HCt.out.mono ?_; rintro e w4 ⟨⟨A3, c3, rfl, ho⟩, b4⟩; simp only [frC])
  have h5 := (((H3.out.1.cons (t := thO (.slice A3 fl.length c3) fl) b4 (ho.mono (Nat.zero_le _)) (fun k hk => (World.ownsRow.lt ho k hk).1)).box (zFr kd ep se fc fb fn cn cl sm A3 fl c3 nn) 46).box #[.int .u32 ((t1 : Nat) : Int), .int .u32 ((t2 : Nat) : Int), .int .u32 ((t3 : Nat) : Int)] 40)
  rw [World.size_alloc] at h5
  dsimp only [zFr] at h5
  generalize hV5 : World.alloc (World.alloc _ _) _ = V5 at h5 ⊢
  obtain ⟨g8, hg8⟩ : ∃ g, g = w4.heap.size := ⟨_, rfl⟩
  obtain ⟨g9, hg9⟩ : ∃ g, g = w4.heap.size + 1 := ⟨_, rfl⟩
  rw [← hg9, ← hg8] at h5 ⊢
  have D8 := cells_say (h5.blkAt 1) _ 0 rfl
  have D9 := cells_say (h5.blkAt 0) _ 0 rfl
  simp only [cellsSay, List.drop_zero, Nat.reduceAdd, and_true] at D8 D9
  have H5 := Lib.hid h5
  clear hV5 hg8 hg9 b4 ho h5
  have kcn : ((cn : Int) == 0) = false := beq_eq_false_iff_ne.2 (by omega)
  have hcs : CutS D x (p1, 0, 0) 9223372036854775807 ((⟨kd, ep, se, fc, fb, fn, cn, cl, sm, fl, nn⟩ : FrD), (t1, t2, t3), 0) ∧ noneB ((⟨kd, ep, se, fc, fb, fn, cn, cl, sm, fl, nn⟩ : FrD), (t1, t2, t3), 0) = false := by
   rcases HW.out with h1 | h1 | h1
   ·exact absurd h1.2 (by show ¬ (0 : Nat) = 122; decide)
   ·exact absurd h1.2.2 (by show ¬ cn = 0; omega)
   ·exact ⟨h1.2.2.2, h1.1⟩
  have hse : se = x := hcs.1.se
  subst hse
  have HCS := Lib.hid hcs
  clear hcs
  go_upto_region 7 with fail
  generalize hWx : World.setCell _ _ _ = W6
  have h6 := H5.out.put_ 1 g8 [(8, .int .u64 0)] (zFr kd ep se fc fb fn cn cl 0 A3 fl c3 nn) hWx
  dsimp only [zFr] at h6
  simp only [List.set] at h6
  clear D8 D9 hWx H5
  have D8 := cells_say (h6.blkAt 1) _ 0 rfl
  have D9 := cells_say (h6.blkAt 0) _ 0 rfl
  simp only [cellsSay, List.drop_zero, Nat.reduceAdd, and_true] at D8 D9
  obtain ⟨E2, hE2⟩ : ∃ E, E = asF 3 S1 ⟨kd, ep, se, fc, fb, fn, cn, cl, 0, fl, nn⟩ := ⟨_, rfl⟩
  have hSg : Calls Tryz.prog 33 #[ptS X, .int .u8 3, .agg #[.int .u8 ((kd : Nat) : Int), .int .u32 ((ep : Nat) : Int), .int .u32 ((se : Nat) : Int), .int .u32 ((fc : Nat) : Int), .int .u32 ((fb : Nat) : Int), .int .u32 ((fn : Nat) : Int), .int .u32 ((cn : Nat) : Int), .bool cl, .int .u64 0, .slice A3 fl.length c3, .int .i64 nn], .agg #[.int .u32 ((t1 : Nat) : Int), .int .u32 ((t2 : Nat) : Int), .int .u32 ((t3 : Nat) : Int)]] W6 _ := sending_any h6 HD.out.1 H1.out.2 3 ⟨kd, ep, se, fc, fb, fn, cn, cl, 0, fl, nn⟩ A3 c3 (t1, t2, t3) HD.out.2.2
  have HSg := Lib.hid hSg
  have HE2 := Lib.hid hE2
  clear h6 hSg hE2
  go_upto_region 8 with (go_at_call 33; refine HSg.out.mono ?_; rintro e w8 ⟨rfl, h8⟩; simp only [frC, asF]; have D8 := cells_say (h8.blkAt 1) _ 0 rfl; simp only [cellsSay, List.drop_zero, Nat.reduceAdd, and_true] at D8; have H8 := Lib.hid h8; clear h8)
  generalize hWz : World.setCell _ _ _ = W9
  have h9 := H8.out.put_ 1 g8 [(0, .int .u8 3), (1, .int .u32 (S1.ep : Nat)), (2, .int .u32 (se : Nat)), (3, .int .u32 (fc : Nat)), (4, .int .u32 (fb : Nat)), (5, .int .u32 (fn : Nat)), (6, .int .u32 (cn : Nat)), (7, .bool cl), (8, .int .u64 0), (9, .slice A3 fl.length c3), (10, .int .i64 nn)] (zFr 3 S1.ep se fc fb fn cn cl 0 A3 fl c3 nn) hWz
  simp only [List.set] at h9
  obtain ⟨S3, hS3⟩ : ∃ T, T = sendD S1 E2 (t1, t2, t3) := ⟨_, rfl⟩
  have hok3 : OkSn D S3 := by
   rw [hS3, HE2.out]
   exact H1.out.2.send (by rw [asF_se]; exact HCS.out.1.key) HCS.out.1.okto
  rw [← HE2.out, ← hS3] at h9
  have hfin : anewD D S se = (againD S3 se, [E2]) := by
   rw [HA.out.2.1 HCS.out.2, hS3, HE2.out]
   dsimp only
   unfold asF
   rw [HA.out.2.2]
  have HH := Lib.hid (And.intro hfin (And.intro hok3 h9))
  have C1 := fun (y : More) => (h9.go (plus_below W9 y)).f1
  have C3 := fun (y : More) => (h9.go (plus_below W9 y)).f3
  clear hfin hok3 hS3 h9 H8 D8 D9 HSg hWz
  refine wp_region_tail_ext 9 (by kernel_rfl) (by kernel_rfl) ?_
  simp only [List.take_succ_cons, List.take_zero, List.drop_succ_cons, List.drop_zero]
  repeat (go_big_quiet_step (fail))
  refine wpQuiet_nil ?_
  rintro w12 ⟨y, rfl⟩
  have h13 := HH.out.2.2.go (plus_below W9 y)
  have hfew := h13.fewT HD.out.1 HH.out.2.1
  obtain ⟨rs, hT, hL⟩ := h13.tm
  have HSt := Lib.hid (tagain_any hT se S3.now HD.out.2.2 HH.out.2.1.now HH.out.2.1.tk (by omega))
  have HL := Lib.hid hL
  clear h13 hT hL hfew C1 C3
  go_upto_region 9 with (go_at_call 60; refine HSt.out.mono ?_; rintro e w13 ⟨rfl, hT2⟩)
  have h14 := HL.out w13 _ [] hT2
  have D8 := cells_say (h14.blkAt 1) _ 0 rfl
  simp only [cellsSay, List.drop_zero, Nat.reduceAdd, and_true] at D8
  have H14 := Lib.hid h14
  clear h14 hT2 HL HSt
  go_wp2_with fail
  go_ret
  rw [HH.out.1]
  refine ⟨some ⟨w13.heap.size, 0, none⟩, 1, [⟨E2, A3, c3⟩], rfl, rfl, ?_⟩
  have hB := Blk.new w13 46 (zFr 3 S1.ep se fc fb fn cn cl 0 A3 fl c3 nn)
  have hr := rowOne hB ⟨E2, A3, c3⟩ (by rw [HE2.out]; rfl)
  have h15 := H14.out.tail.tail.cons (t := thR 46 encFrE 11 (.slice (some ⟨w13.heap.size, 0, none⟩) 1 1) [⟨E2, A3, c3⟩]) (below_alloc w13 _) (hr.mono (Nat.zero_le _)) (fun k hk => (World.ownsRow.lt hr k hk).1)
  have h16 := h15.sub (((List.sublist_cons_self _ _).cons_cons _).cons_cons _)
  have hfb : frB ⟨E2, A3, c3⟩ = thO (.slice A3 fl.length c3) fl := by rw [HE2.out]; rfl
  show Sd B w0 _ X (againD S3 se) (thBk Y :: thR 46 encFrE 11 (.slice (some ⟨w13.heap.size, 0, none⟩) 1 1) [⟨E2, A3, c3⟩] :: frB ⟨E2, A3, c3⟩ :: ts)
  rw [hfb]
  exact h16.perm (List.perm_middle (l₁ := [_, _]))
end Go.Proofs.YtnjcdihgaidlbaaGreatDoor
set_option linter.unusedSimpArgs false
set_option linter.unusedVariables false
namespace Go.Proofs.YtnjcdihgaidlbaaGreatDoor
open Go.RowKit
set_option maxRecDepth 100000
set_option maxHeartbeats 32000000 in
theorem accept_any {B : Nat} {w0 w : World} {X : SL} {S : SD} {Y : Bl} {ts : List Kt} (h : Sd B w0 w X S (thBk Y :: ts)) (ok : OkB Y) (hS : OkSn Y.D S) (f : FrD) (hf : f.ok) (A : Option Addr) (c : Nat) (hh : hasC (Y.D.at_ f.se) f.fc f.fb f.fn = true) :
  Calls Tryz.prog 47 #[ptS X, prB Y, .agg (frC f A c)] w fun e w' => e = .returned (.bool (movD S f.se (f.fc, f.fb, f.fn))) ∧ Sd B w0 w' X (acceptD Y.D S f.se (f.fc, f.fb, f.fn) (decide (f.kd = 5))) (thBk Y :: ts) := by
 have hmx : Tryz.prog.follows .mixedOrders = true := by kernel_rfl
 obtain ⟨kd, ep, se, fc, fb, fn, cn, cl, sm, l, n⟩ := f
 obtain ⟨D, hDe⟩ : ∃ D, D = Y.D := ⟨_, rfl⟩
 have hx : se < 4294967296 := hf.2.2.1
 have hpo : OkPl (fc, fb, fn) := ⟨hf.2.2.2.1, hf.2.2.2.2.1, hf.2.2.2.2.2.1⟩
 have hEnd := fun (W : World) (hY : (thBk Y).P W) => bEnd_any (RdK.of hY) ok se hx
 have hD := ok.D
 rw [← hDe] at hEnd hD hS hh ⊢
 have hfc := h.fewC hD hS
 have hfs := h.fewS hD hS
 have hok2 : OkSn D (comeD S se (fc, fb, fn)) := hS.acked (fun h0 => has_key hh h0) hpo
 obtain ⟨eP, heP⟩ : ∃ z : Pl, z = endC (D.at_ se) := ⟨_, rfl⟩
 have hacc : ∀ nk, acceptD D S se (fc, fb, fn) nk = if !movD S se (fc, fb, fn) && !nk then (if nk then resetD (comeD S se (fc, fb, fn)) se else comeD S se (fc, fb, fn)) else if (fc, fb, fn) = eP then stopD (if nk then resetD (comeD S se (fc, fb, fn)) se else comeD S se (fc, fb, fn)) se else againD (if nk then resetD (comeD S se (fc, fb, fn)) se else comeD S se (fc, fb, fn)) se := fun nk => by rw [heP]; rfl
 rw [← heP] at hEnd
 obtain ⟨e1, e2, e3⟩ := eP
 have hQ : ∀ w, (binOp .eql 40 (.agg #[.int .u32 (fc : Nat), .int .u32 (fb : Nat), .int .u32 (fn : Nat)]) (.agg #[.int .u32 (e1 : Nat), .int .u32 (e2 : Nat), .int .u32 (e3 : Nat)])).run Tryz.prog w = .ok (.bool (decide ((fc, fb, fn) = (e1, e2, e3)))) w := fun w => eqPlB_run _ _ _ _ _ _ w
 obtain ⟨nk, hnk⟩ : ∃ b, b = decide (kd = 5) := ⟨_, rfl⟩
 have hkd : ((kd : Int) == 5) = nk := by
  rw [hnk, Bool.eq_iff_iff, beq_iff_eq, decide_eq_true_iff]
  omega
 obtain ⟨mv, hmv⟩ : ∃ b, b = movD S se (fc, fb, fn) := ⟨_, rfl⟩
 obtain ⟨sb, hsb⟩ : ∃ b, b = befP (S.sent se) (fc, fb, fn) := ⟨_, rfl⟩
 obtain ⟨S3, hS3⟩ : ∃ T, T = comeD S se (fc, fb, fn) := ⟨_, rfl⟩
 have hS3d : S3 = { S with CM := setP S.CM se (fc, fb, fn), PL := S.PL.filter fun q => !goneA se fc fn q, SM := if sb then setP S.SM se (fc, fb, fn) else S.SM } := by rw [hS3, hsb]; rfl
 have hco : mv = bef (S.come se).1 (S.come se).2.2 fc fn := hmv
 have hse2 : sb = bef (S.sent se).1 (S.sent se).2.2 fc fn := hsb
 rw [← hS3] at hok2 hacc
 have hac := hacc nk
 rw [← hmv] at hac
 obtain ⟨S4, hS4⟩ : ∃ T, T = (if nk then resetD S3 se else S3) := ⟨_, rfl⟩
 rw [← hS4] at hac
 have hok4 : OkSn D S4 := by
  rw [hS4]
  cases nk
  ·exact hok2
  ·exact hok2.reset se
 have H4S := Lib.hid (And.intro hS4 hok4)
 show Calls _ _ #[ptS X, prB Y, .agg (frC ⟨kd, ep, se, fc, fb, fn, cn, cl, sm, l, n⟩ A c)] w fun e w' => e = .returned (.bool (movD S se (fc, fb, fn))) ∧ Sd B w0 w' X (acceptD D S se (fc, fb, fn) (decide (kd = 5))) (thBk Y :: ts)
 rw [← hmv, ← hnk]
 obtain ⟨Z, hZ⟩ : ∃ T, T = acceptD D S se (fc, fb, fn) nk := ⟨_, rfl⟩
 rw [← hZ]
 have HZ := Lib.hid (hZ.trans hac)
 have h1 := h.box #[.int .u8 ((kd : Nat) : Int), .int .u32 ((ep : Nat) : Int), .int .u32 ((se : Nat) : Int), .int .u32 ((fc : Nat) : Int), .int .u32 ((fb : Nat) : Int), .int .u32 ((fn : Nat) : Int), .int .u32 ((cn : Nat) : Int), .bool cl, .int .u64 ((sm : Nat) : Int), .slice A l.length c, .int .i64 n] 46
 have HD := Lib.hid (And.intro hD (And.intro hS (And.intro hx hpo)))
 have HE := Lib.hid hEnd
 have HM := Lib.hid (And.intro hfc (And.intro hfs (And.intro hok2 hS3d)))
 have HB := Lib.hid (And.intro hco hse2)
 clear hZ hS4 hok4 h ok hS hD hDe hEnd hx hpo hfc hfs hok2 heP hacc hnk hmv hsb hS3 hS3d hco hse2 hac hh hf
 simp only [frC]
 go_enter Tryz.func47, Tryz.ntmps47
 go_upto_region 1 with fail
 generalize hW : World.alloc _ _ = W at h1 ⊢
 obtain ⟨g5, hg5⟩ : ∃ g, g = w.heap.size := ⟨_, rfl⟩
 rw [← hg5] at h1 ⊢
 clear hW hg5
 have HCo := Lib.hid (fun (y : More) => come_any (h1.go (plus_below W y)) se HD.out.2.2.1)
 obtain ⟨⟨p1, p2, p3⟩, hp⟩ : ∃ p, p = S.come se := ⟨_, rfl⟩
 have hb1 := HB.out.1
 rw [← hp] at HCo hb1
 have HBe := Lib.hid (fun (y : More) => before_any p1 p2 p3 fc fb fn (plus W y))
 rw [show bef p1 p3 fc fn = mv from hb1.symm] at HBe
 have D5 := fun (y : More) => cells_say ((h1.go (plus_below W y)).blkAt 0) _ 0 rfl
 simp only [cellsSay, List.drop_zero, Nat.reduceAdd, and_true] at D5
 have H1 := Lib.hid h1
 clear h1 hp hb1
 refine wp_region_ext (by kernel_rfl) (by kernel_rfl) ?_
 repeat (go_big_quiet_step ((first
  | (go_at_call 17; exact ext_of (HCo.out _))
  | (go_at_call 45; exact ext_of (HBe.out _)))))
 refine wpQuiet_nil ?_
 rintro w2 ⟨y, rfl⟩
 go_upto_region 2 with fail
 have h2 := H1.out.go (plus_below W y)
 generalize plus W y = W2 at h2 ⊢
 clear D5 HCo HBe H1
 have H2 := Lib.hid h2
 have D5 := fun (y : More) => cells_say ((h2.go (plus_below W2 y)).blkAt 0) _ 0 rfl
 simp only [cellsSay, List.drop_zero, Nat.reduceAdd, and_true] at D5
 have C4 := fun (y : More) => (h2.go (plus_below W2 y)).f4
 clear h2
 refine wp_region_tail_ext 8 (by kernel_rfl) (by kernel_rfl) ?_
 simp only [List.take_succ_cons, List.take_zero, List.drop_succ_cons, List.drop_zero]
 repeat (go_big_quiet_step (fail))
 refine wpQuiet_nil ?_
 rintro w3 ⟨y, rfl⟩
 have h3 := H2.out.go (plus_below W2 y)
 have HP := Lib.hid (set_any h3.cm.1 se HD.out.2.2.1 (fc, fb, fn) HM.out.1)
 have H3 := Lib.hid h3
 clear D5 C4 h3 H2
 go_upto_region 3 with (go_at_call 59; refine HP.out.mono ?_; rintro e w4 ⟨rfl, w5, b5, hg, hm⟩)
 have h4 := (H3.out.go b5).cm.2 _ _ hm hg
 clear hg hm b5 HP H3
 have H4 := Lib.hid h4
 have D5 := fun (y : More) => cells_say ((h4.go (plus_below w4 y)).blkAt 0) _ 0 rfl
 simp only [cellsSay, List.drop_zero, Nat.reduceAdd, and_true] at D5
 have C0 := fun (y : More) => (h4.go (plus_below w4 y)).f0
 clear h4
 refine wp_region_tail_ext 8 (by kernel_rfl) (by kernel_rfl) ?_
 simp only [List.take_succ_cons, List.take_zero, List.drop_succ_cons, List.drop_zero]
 repeat (go_big_quiet_step (fail))
 refine wpQuiet_nil ?_
 rintro w5 ⟨y, rfl⟩
 have h5 := H4.out.go (plus_below w4 y)
 obtain ⟨F, hw, hL⟩ := h5.win
 have HN := Lib.hid (wack_any F X.g se fc fb fn (S.bw : Int) S.PL _ hw HD.out.2.1.pl (by have := HD.out.2.1.sum; omega) (by have := HD.out.2.1.len; omega))
 have HL := Lib.hid hL
 clear D5 C0 hw hL h5 H4
 go_upto_region 4 with (go_at_call 68; refine HN.out.mono ?_; rintro e w6 ⟨rfl, hw6, ha6⟩)
 have h6 := HL.out w6 F _ hw6 ha6
 clear HN HL hw6 ha6
 obtain ⟨S2, hS2⟩ : ∃ T : SD, T = { S with CM := setP S.CM se (fc, fb, fn), PL := S.PL.filter fun q => !goneA se fc fn q } := ⟨_, rfl⟩
 have h6b : Sd B w0 w6 X S2 (thB g5 46 #[.int .u8 ((kd : Nat) : Int), .int .u32 ((ep : Nat) : Int), .int .u32 ((se : Nat) : Int), .int .u32 ((fc : Nat) : Int), .int .u32 ((fb : Nat) : Int), .int .u32 ((fn : Nat) : Int), .int .u32 ((cn : Nat) : Int), .bool cl, .int .u64 ((sm : Nat) : Int), .slice A l.length c, .int .i64 n] :: thBk Y :: ts) := by rw [hS2]; exact h6
 clear h6
 have hse2 : S2.sent se = S.sent se := by rw [hS2]; rfl
 have hS3e : S3 = { S2 with SM := if sb then setP S2.SM se (fc, fb, fn) else S2.SM } := by rw [HM.out.2.2.2, hS2]
 have hsm2 : S2.SM.length < maxLen := by rw [hS2]; exact HM.out.2.1
 have HCo := Lib.hid (fun (y : More) => sent_any (h6b.go (plus_below w6 y)) se HD.out.2.2.1)
 rw [hse2] at HCo
 obtain ⟨⟨q1, q2, q3⟩, hp⟩ : ∃ p, p = S.sent se := ⟨_, rfl⟩
 have hb1 := HB.out.2
 rw [← hp] at HCo hb1
 have HBe := Lib.hid (fun (y : More) => before_any q1 q2 q3 fc fb fn (plus w6 y))
 rw [show bef q1 q3 fc fn = sb from hb1.symm] at HBe
 have D5 := fun (y : More) => cells_say ((h6b.go (plus_below w6 y)).blkAt 0) _ 0 rfl
 simp only [cellsSay, List.drop_zero, Nat.reduceAdd, and_true] at D5
 have H6 := Lib.hid h6b
 have HS2 := Lib.hid (And.intro hS3e hsm2)
 clear h6b hp hb1 hse2 hS3e hsm2 hS2
 refine wp_region_ext (by kernel_rfl) (by kernel_rfl) ?_
 repeat (go_big_quiet_step ((first
  | (go_at_call 22; exact ext_of (HCo.out _))
  | (go_at_call 45; exact ext_of (HBe.out _)))))
 refine wpQuiet_nil ?_
 rintro w7 ⟨y, rfl⟩
 have h7 := H6.out.go (plus_below w6 y)
 have H7 := Lib.hid h7
 go_upto_if 43 with fail
 generalize plus w6 y = W7 at h7 H7 ⊢
 clear D5 HCo HBe H6 h7
 go_cut [] from 44 to 52 (fun wx => Hid (Sd B w0 wx X S3 (thB g5 46 #[.int .u8 ((kd : Nat) : Int), .int .u32 ((ep : Nat) : Int), .int .u32 ((se : Nat) : Int), .int .u32 ((fc : Nat) : Int), .int .u32 ((fb : Nat) : Int), .int .u32 ((fn : Nat) : Int), .int .u32 ((cn : Nat) : Int), .bool cl, .int .u64 ((sm : Nat) : Int), .slice A l.length c, .int .i64 n] :: thBk Y :: ts)))
 case first =>
  cases sb
  ·go_wp2_with fail
   go_meet
   rw [HS2.out.1]
   exact H7
  ·go_upto_region 5 with fail
   have D5 := fun (y : More) => cells_say ((H7.out.go (plus_below W7 y)).blkAt 0) _ 0 rfl
   simp only [cellsSay, List.drop_zero, Nat.reduceAdd, and_true] at D5
   have C5 := fun (y : More) => (H7.out.go (plus_below W7 y)).f5
   refine wp_region_tail_ext 8 (by kernel_rfl) (by kernel_rfl) ?_
   simp only [List.take_succ_cons, List.take_zero, List.drop_succ_cons, List.drop_zero]
   repeat (go_big_quiet_step (fail))
   refine wpQuiet_nil ?_
   rintro w8 ⟨y, rfl⟩
   have h8 := H7.out.go (plus_below W7 y)
   have HP := Lib.hid (set_any h8.sm.1 se HD.out.2.2.1 (fc, fb, fn) HS2.out.2)
   have H8 := Lib.hid h8
   clear D5 C5 h8 H7
   go_wp2_with (go_at_call 59; refine HP.out.mono ?_; rintro e w9 ⟨rfl, w10, b10, hg, hm⟩)
   go_meet
   rw [HS2.out.1]
   exact Lib.hid ((H8.out.go b10).sm.2 _ _ hm hg)
 case rest =>
  have HK := hcut
  obtain ⟨W8, hW8⟩ : ∃ Wx, Wx = wc := ⟨_, rfl⟩
  rw [← hW8] at HK ⊢
  clear hW8 hcut H7 HS2 HB
  go_upto_if 53 with fail
  go_cut [] from 54 to 57 (fun wx => Hid (Sd B w0 wx X S4 (thB g5 46 #[.int .u8 ((kd : Nat) : Int), .int .u32 ((ep : Nat) : Int), .int .u32 ((se : Nat) : Int), .int .u32 ((fc : Nat) : Int), .int .u32 ((fb : Nat) : Int), .int .u32 ((fn : Nat) : Int), .int .u32 ((cn : Nat) : Int), .bool cl, .int .u64 ((sm : Nat) : Int), .slice A l.length c, .int .i64 n] :: thBk Y :: ts)))
  case first =>
   cases nk
   ·go_wp2_with fail
    go_meet
    rw [H4S.out.1]
    exact HK
   ·have D5 := cells_say (HK.out.blkAt 0) _ 0 rfl
    simp only [cellsSay, List.drop_zero, Nat.reduceAdd, and_true] at D5
    have HR := Lib.hid (reset_any HK.out HD.out.1 HM.out.2.2.1 se HD.out.2.2.1)
    go_wp2_with (go_at_call 52; refine HR.out.mono ?_; rintro e w9 ⟨rfl, h9⟩)
    go_meet
    rw [H4S.out.1]
    exact Lib.hid h9
  case rest =>
   have HK4 := hcut
   obtain ⟨W9, hW9⟩ : ∃ Wx, Wx = wc := ⟨_, rfl⟩
   rw [← hW9] at HK4 ⊢
   clear hW9 hcut HK
   have HEn := Lib.hid (fun (y : More) => HE.out (plus W9 y) ((HK4.out.go (plus_below W9 y)).sep.at_ 1 rfl))
   have hok4 := Lib.hid H4S.out.2
   clear H4S HM HE hkd
   cases mv <;> cases nk
   case false.false =>
    go_wp2_with fail
    go_ret
    rw [HZ.out, if_pos (by decide)]
    exact ⟨rfl, HK4.out.tail⟩
   all_goals
    go_upto_region 10 with fail
    have D5 := fun (y : More) => cells_say ((HK4.out.go (plus_below W9 y)).blkAt 0) _ 0 rfl
    simp only [cellsSay, List.drop_zero, Nat.reduceAdd, and_true] at D5
    by_cases he : (fc, fb, fn) = (e1, e2, e3)
    ·rw [decide_eq_true he] at hQ
     have He := Lib.hid he
     clear he
     refine wp_region_ext (by kernel_rfl) (by kernel_rfl) ?_
     repeat (go_big_quiet_step ((go_at_call 18; exact ext_of (HEn.out _))))
     refine wpQuiet_nil ?_
     rintro w10 ⟨y, rfl⟩
     have h10 := HK4.out.go (plus_below W9 y)
     go_upto_region 11 with fail
     generalize plus W9 y = W10 at h10 ⊢
     clear D5 HEn
     have H10 := Lib.hid h10
     have D5 := fun (y : More) => cells_say ((h10.go (plus_below W10 y)).blkAt 0) _ 0 rfl
     simp only [cellsSay, List.drop_zero, Nat.reduceAdd, and_true] at D5
     have C1 := fun (y : More) => (h10.go (plus_below W10 y)).f1
     clear h10 HK4
     refine wp_region_tail_ext 6 (by kernel_rfl) (by kernel_rfl) ?_
     simp only [List.take_succ_cons, List.take_zero, List.drop_succ_cons, List.drop_zero]
     repeat (go_big_quiet_step (fail))
     refine wpQuiet_nil ?_
     rintro w11 ⟨y, rfl⟩
     have h11 := H10.out.go (plus_below W10 y)
     obtain ⟨rs, hT, hL⟩ := h11.tm
     have HSt := Lib.hid (tstop_any hT se HD.out.2.2.1)
     have HL := Lib.hid hL
     clear h11 hT hL C1 D5
     go_wp2_with (go_at_call 54; refine HSt.out.mono ?_; rintro e w12 ⟨rfl, hT2⟩)
     go_ret
     refine ⟨rfl, ?_⟩
     rw [HZ.out, if_neg (by decide), if_pos He.out]
     exact (show Sd B w0 w12 X (stopD S4 se) (thB g5 46 #[.int .u8 ((kd : Nat) : Int), .int .u32 ((ep : Nat) : Int), .int .u32 ((se : Nat) : Int), .int .u32 ((fc : Nat) : Int), .int .u32 ((fb : Nat) : Int), .int .u32 ((fn : Nat) : Int), .int .u32 ((cn : Nat) : Int), .bool cl, .int .u64 ((sm : Nat) : Int), .slice A l.length c, .int .i64 n] :: thBk Y :: ts) from HL.out w12 _ [] hT2).tail
    ·rw [decide_eq_false he] at hQ
     have He := Lib.hid he
     clear he
     refine wp_region_ext (by kernel_rfl) (by kernel_rfl) ?_
     repeat (go_big_quiet_step ((go_at_call 18; exact ext_of (HEn.out _))))
     refine wpQuiet_nil ?_
     rintro w10 ⟨y, rfl⟩
     have h10 := HK4.out.go (plus_below W9 y)
     go_upto_region 8 with fail
     generalize plus W9 y = W10 at h10 ⊢
     clear D5 HEn
     have H10 := Lib.hid h10
     have D5 := fun (y : More) => cells_say ((h10.go (plus_below W10 y)).blkAt 0) _ 0 rfl
     simp only [cellsSay, List.drop_zero, Nat.reduceAdd, and_true] at D5
     have C1 := fun (y : More) => (h10.go (plus_below W10 y)).f1
     have C3 := fun (y : More) => (h10.go (plus_below W10 y)).f3
     clear h10 HK4
     refine wp_region_tail_ext 10 (by kernel_rfl) (by kernel_rfl) ?_
     simp only [List.take_succ_cons, List.take_zero, List.drop_succ_cons, List.drop_zero]
     repeat (go_big_quiet_step (fail))
     refine wpQuiet_nil ?_
     rintro w11 ⟨y, rfl⟩
     have h11 := H10.out.go (plus_below W10 y)
     have hfew := h11.fewT HD.out.1 hok4.out
     obtain ⟨rs, hT, hL⟩ := h11.tm
     have HSt := Lib.hid (tagain_any hT se S4.now HD.out.2.2.1 hok4.out.now hok4.out.tk (by omega))
     have HL := Lib.hid hL
     clear h11 hT hL C1 C3 D5 hfew
     go_wp2_with (go_at_call 60; refine HSt.out.mono ?_; rintro e w12 ⟨rfl, hT2⟩)
     go_ret
     refine ⟨rfl, ?_⟩
     rw [HZ.out, if_neg (by decide), if_neg He.out]
     exact (show Sd B w0 w12 X (againD S4 se) (thB g5 46 #[.int .u8 ((kd : Nat) : Int), .int .u32 ((ep : Nat) : Int), .int .u32 ((se : Nat) : Int), .int .u32 ((fc : Nat) : Int), .int .u32 ((fb : Nat) : Int), .int .u32 ((fn : Nat) : Int), .int .u32 ((cn : Nat) : Int), .bool cl, .int .u64 ((sm : Nat) : Int), .slice A l.length c, .int .i64 n] :: thBk Y :: ts) from HL.out w12 _ [] hT2).tail
end Go.Proofs.YtnjcdihgaidlbaaGreatDoor
set_option linter.unusedSimpArgs false
set_option linter.unusedVariables false
namespace Go.Proofs.YtnjcdihgaidlbaaGreatDoor
open Go.RowKit
set_option maxRecDepth 100000
def TakO (B : Nat) (w0 : World) (X : SL) (Y : Bl) (ts : List Kt) (r : SD × List FrD × Bool × Nat) (e : Ending) (w' : World) : Prop := ∃ U c T, e = .returned (.tuple #[.slice U T.length c, .bool r.2.2.1, .int .u16 (r.2.2.2 : Nat)]) ∧ T.map (fun y => y.f) = r.2.1 ∧ Sd B w0 w' X r.1 (thBk Y :: (chT (.slice U T.length c) T ++ ts))
theorem nilF {B : Nat} {w0 w : World} {X : SL} {S : SD} {Y : Bl} {t : Kt} {ts : List Kt} (h : Sd B w0 w X S (thBk Y :: t :: ts)) : Sd B w0 w X S (thBk Y :: (chT (.slice none 0 0) [] ++ ts)) := by
 refine (h.sub (us := thBk Y :: ts) ((List.sublist_cons_self _ _).cons_cons _)).side (us := thBk Y :: (chT (.slice none 0 0) [] ++ ts)) fun rs hs => ?_
 exact (hs.addNilR 46 encFrE 11).permB (List.Perm.swap _ _ _)
theorem dropF {B : Nat} {w0 w : World} {X : SL} {S : SD} {Y : Bl} {t : Kt} {us ts : List Kt} (h : Sd B w0 w X S (thBk Y :: (us ++ t :: ts))) : Sd B w0 w X S (thBk Y :: (us ++ ts)) :=
 h.sub (((List.Sublist.refl us).append (List.sublist_cons_self t ts)).cons_cons _)
theorem neI (a b : Nat) : (((a : Nat) : Int) != ((b : Nat) : Int)) = decide (a ≠ b) := by
 rw [Bool.eq_iff_iff, bne_iff_ne, decide_eq_true_iff]
 omega
set_option maxHeartbeats 32000000 in
theorem take_any {B : Nat} {w0 w : World} {X : SL} {S : SD} {Y : Bl} {ts : List Kt} (h : Sd B w0 w X S (thBk Y :: ts)) (ok : OkB Y) (hS : OkSn Y.D S) (f : FrD) (hf : f.ok) (A : Option Addr) (c : Nat) :
  Calls Tryz.prog 16 #[ptS X, prB Y, .agg (frC f A c)] w (TakO B w0 X Y ts (takD Y.D S f)) := by
 have hmx : Tryz.prog.follows .mixedOrders = true := by kernel_rfl
 obtain ⟨kd, ep, se, fc, fb, fn, cn, cl, sm, l, n⟩ := f
 have hx : se < 4294967296 := hf.2.2.1
 have hpo : OkPl (fc, fb, fn) := ⟨hf.2.2.2.1, hf.2.2.2.2.1, hf.2.2.2.2.2.1⟩
 have hSum := fun (W : World) (hY : (thBk Y).P W) => bSum_any (RdK.of hY) ok se hx fc fb fn hpo.1 hpo.2.1 hpo.2.2
 have hAn := fun (W : World) (us : List Kt) (h : Sd B w0 W X S (thBk Y :: us)) => anew_any h ok hS se hx
 have hAc := fun (W : World) (us : List Kt) (h : Sd B w0 W X S (thBk Y :: us)) (hh : hasC (Y.D.at_ se) fc fb fn = true) => accept_any h ok hS ⟨kd, ep, se, fc, fb, fn, cn, cl, sm, l, n⟩ hf A c hh
 have hPu := fun (W : World) (S' : SD) (us : List Kt) (h : Sd B w0 W X S' (thBk Y :: us)) (hS' : OkSn Y.D S') => pump_any h ok hS'
 have hD := ok.D
 obtain ⟨D, hDe⟩ : ∃ D, D = Y.D := ⟨_, rfl⟩
 rw [← hDe] at hSum hAn hAc hPu hD hS ⊢
 have r1 : (kd ≠ 4 ∧ kd ≠ 5) ∨ ep ≠ S.ep → takD D S ⟨kd, ep, se, fc, fb, fn, cn, cl, sm, l, n⟩ = (S, [], false, 1) := fun h => by
  unfold takD ackK
  refine if_pos ?_
  rcases h with h | h
  ·exact .inl (decide_eq_false (by rintro (e | e); exact h.1 e; exact h.2 e))
  ·exact .inr h
 have r0 : (kd = 4 ∨ kd = 5) → ep = S.ep → takD D S ⟨kd, ep, se, fc, fb, fn, cn, cl, sm, l, n⟩ = if hasC (D.at_ se) fc fb fn = false then (S, [], false, 122)
   else if befP (fc, fb, fn) (S.come se) = true then (S, [], false, 0)
   else if sumC (D.at_ se) fc fb ≠ sm then ((anewD D S se).1, (anewD D S se).2, false, 0)
   else ((pumpD D (acceptD D S se (fc, fb, fn) (decide (kd = 5)))).1, (pumpD D (acceptD D S se (fc, fb, fn) (decide (kd = 5)))).2, movD S se (fc, fb, fn), 0) := fun h1 h2 => by
  unfold takD ackK
  rw [if_neg]
  rintro (e | e)
  ·exact absurd h1 (of_decide_eq_false e)
  ·exact e h2
 obtain ⟨r, hr⟩ : ∃ r, r = takD D S ⟨kd, ep, se, fc, fb, fn, cn, cl, sm, l, n⟩ := ⟨_, rfl⟩
 rw [← hr] at r1 r0 ⊢
 have h1 := h.box #[.int .u8 ((kd : Nat) : Int), .int .u32 ((ep : Nat) : Int), .int .u32 ((se : Nat) : Int), .int .u32 ((fc : Nat) : Int), .int .u32 ((fb : Nat) : Int), .int .u32 ((fn : Nat) : Int), .int .u32 ((cn : Nat) : Int), .bool cl, .int .u64 ((sm : Nat) : Int), .slice A l.length c, .int .i64 n] 46
 have HD := Lib.hid (And.intro hD (And.intro hS (And.intro hx hpo)))
 have HR := Lib.hid (And.intro r1 r0)
 have HSum := Lib.hid hSum
 have HAn := Lib.hid hAn
 have HAc := Lib.hid hAc
 have HPu := Lib.hid hPu
 have n4 : kd ≠ 4 → ((kd : Int) != 4) = true := fun h => (neI kd 4).trans (decide_eq_true h)
 have y4 : kd = 4 → ((kd : Int) != 4) = false := fun h => (neI kd 4).trans (decide_eq_false (fun e => e h))
 have n5 : kd ≠ 5 → ((kd : Int) != 5) = true := fun h => (neI kd 5).trans (decide_eq_true h)
 have y5 : kd = 5 → ((kd : Int) != 5) = false := fun h => (neI kd 5).trans (decide_eq_false (fun e => e h))
 have ways : ((kd ≠ 4 ∧ kd ≠ 5) ∧ ((kd : Int) != 4) = true ∧ ((kd : Int) != 5) = true) ∨ ((kd = 4 ∨ kd = 5) ∧ (((kd : Int) != 4) = false ∨ ((kd : Int) != 4) = true ∧ ((kd : Int) != 5) = false)) := by
  by_cases h4 : kd = 4
  ·exact .inr ⟨.inl h4, .inl (y4 h4)⟩
  ·by_cases h5 : kd = 5
   ·exact .inr ⟨.inr h5, .inr ⟨n4 h4, y5 h5⟩⟩
   ·exact .inl ⟨⟨h4, h5⟩, n4 h4, n5 h5⟩
 have Wy := Lib.hid ways
 clear n4 y4 n5 y5 ways
 clear h ok hS hD hSum hAn hAc hPu r1 r0 hr hx hpo hf hDe
 simp only [frC]
 go_enter Tryz.func16, Tryz.ntmps16
 go_upto_region 1 with fail
 generalize hW : World.alloc _ _ = W at h1 ⊢
 obtain ⟨g5, hg5⟩ : ∃ g, g = w.heap.size := ⟨_, rfl⟩
 rw [← hg5] at h1 ⊢
 clear hW hg5
 have D5 := fun (y : More) => cells_say ((h1.go (plus_below W y)).blkAt 0) _ 0 rfl
 simp only [cellsSay, List.drop_zero, Nat.reduceAdd, and_true] at D5
 have C2 := fun (y : More) => (h1.go (plus_below W y)).f2
 have H0 := Lib.hid h1
 clear h1
 rcases Wy.out with ⟨hk, q4, q5⟩ | ⟨hk, hq⟩
 ·have Hk := Lib.hid hk
  clear hk Wy
  refine wp_region_ext (by kernel_rfl) (by kernel_rfl) ?_
  repeat (go_big_quiet_step (fail))
  refine wpQuiet_nil ?_
  rintro w2 ⟨y, rfl⟩
  have H1 := Lib.hid (H0.out.go (plus_below W y))
  go_wp2_with fail
  go_ret3
  rw [HR.out.1 (.inl Hk.out)]
  exact ⟨none, 0, [], rfl, rfl, nilF (H1.out.perm (List.Perm.swap _ _ _))⟩
 ·have Hk := Lib.hid hk
  clear hk Wy
  by_cases he : ep = S.ep
  case neg =>
   have qe : ((ep : Int) != (S.ep : Int)) = true := (neI ep S.ep).trans (decide_eq_true he)
   have He := Lib.hid he
   clear he
   rcases hq with q4 | ⟨q4, q5⟩
   all_goals
   refine wp_region_ext (by kernel_rfl) (by kernel_rfl) ?_
   repeat (go_big_quiet_step (fail))
   refine wpQuiet_nil ?_
   rintro w2 ⟨y, rfl⟩
   have H1 := Lib.hid (H0.out.go (plus_below W y))
   go_wp2_with fail
   go_ret3
   rw [HR.out.1 (.inr He.out)]
   exact ⟨none, 0, [], rfl, rfl, nilF (H1.out.perm (List.Perm.swap _ _ _))⟩
  case pos =>
   have qe : ((ep : Int) != (S.ep : Int)) = false := (neI ep S.ep).trans (decide_eq_false (fun e => e he))
   have hr := HR.out.2 Hk.out he
   have Hr0 := Lib.hid hr
   clear he hr
   rcases hq with q4 | ⟨q4, q5⟩
   all_goals
   refine wp_region_ext (by kernel_rfl) (by kernel_rfl) ?_
   repeat (go_big_quiet_step (fail))
   refine wpQuiet_nil ?_
   rintro w2 ⟨y, rfl⟩
   go_upto_region 3 with fail
   have h2 := H0.out.go (plus_below W y)
   generalize plus W y = W2 at h2 ⊢
   clear D5 C2 q4 qe
   try clear q5
   have D5 := cells_say (h2.blkAt 0) _ 0 rfl
   simp only [cellsSay, List.drop_zero, Nat.reduceAdd, and_true] at D5
   have hSu := HSum.out W2 (h2.sep.at_ 1 rfl)
   have hr := Hr0.out
   have H2 := Lib.hid h2
   clear h2 H0
   cases hh : hasC (D.at_ se) fc fb fn with
   | false =>
    rw [hh] at hSu hr
    simp only [Bool.false_eq_true, if_false] at hSu
    rw [if_pos rfl] at hr
    have HSu := Lib.hid hSu
    have Hr := Lib.hid hr
    clear hSu hr hh
    go_wp2_with (go_at_call 15; refine HSu.out.mono ?_; rintro e w3 ⟨rfl, b3⟩)
    have H1 := Lib.hid (H2.out.go b3)
    go_ret3
    rw [Hr.out]
    exact ⟨none, 0, [], rfl, rfl, nilF (H1.out.perm (List.Perm.swap _ _ _))⟩
   | true =>
    rw [hh] at hSu hr
    simp only [if_true] at hSu
    rw [if_neg (by decide)] at hr
    obtain ⟨Z, hZ⟩ : ∃ Z, Z = sumC (D.at_ se) fc fb := ⟨_, rfl⟩
    rw [← hZ] at hSu hr
    have HSu := Lib.hid hSu
    have Hh := Lib.hid hh
    clear hSu hZ hh
    have e00 : ((0 : Nat) : Int) = 0 := rfl
    go_upto_region 6 with (go_at_call 15; refine HSu.out.mono ?_; rintro e w3 ⟨rfl, b3⟩)
    have h3 := H2.out.go b3
    clear D5 H2 HSu
    have D5 := fun (y : More) => cells_say ((h3.go (plus_below w3 y)).blkAt 0) _ 0 rfl
    simp only [cellsSay, List.drop_zero, Nat.reduceAdd, and_true] at D5
    have HCo := Lib.hid (fun (y : More) => come_any (h3.go (plus_below w3 y)) se HD.out.2.2.1)
    obtain ⟨bf, hbf⟩ : ∃ b, b = befP (fc, fb, fn) (S.come se) := ⟨_, rfl⟩
    rw [← hbf] at hr
    have hb1 : bf = bef fc fn (S.come se).1 (S.come se).2.2 := hbf
    obtain ⟨⟨p1, p2, p3⟩, hp⟩ : ∃ p, p = S.come se := ⟨_, rfl⟩
    rw [← hp] at HCo hb1
    have HBe := Lib.hid (fun (y : More) => before_any fc fb fn p1 p2 p3 (plus w3 y))
    rw [show bef fc fn p1 p3 = bf from hb1.symm] at HBe
    have H3 := Lib.hid h3
    have Hr := Lib.hid hr
    clear h3 hr hbf hb1 hp b3
    refine wp_region_ext (by kernel_rfl) (by kernel_rfl) ?_
    repeat (go_big_quiet_step ((first
     | (go_at_call 17; exact ext_of (HCo.out _))
     | (go_at_call 45; exact ext_of (HBe.out _)))))
    refine wpQuiet_nil ?_
    rintro w4 ⟨y, rfl⟩
    have h4 := H3.out.go (plus_below w3 y)
    generalize plus w3 y = W4 at h4 ⊢
    clear D5 HCo HBe H3
    cases bf with
    | true =>
     have H1 := Lib.hid h4
     go_wp2_with fail
     go_ret3
     rw [Hr.out]; first | rw [if_pos rfl] | rw [if_pos trivial]
     exact ⟨none, 0, [], rfl, rfl, nilF (H1.out.perm (List.Perm.swap _ _ _))⟩
    | false =>
     have D5 := cells_say (h4.blkAt 0) _ 0 rfl
     simp only [cellsSay, List.drop_zero, Nat.reduceAdd, and_true] at D5
     have h4p := h4.perm (List.Perm.swap _ _ _)
     by_cases hz : Z = sm
     ·have kz : ((Z : Int) != (sm : Int)) = false := by rw [neI]; exact decide_eq_false (fun e => e hz)
      have HAcc := Lib.hid (HAc.out W4 _ h4p Hh.out)
      have Hz := Lib.hid hz
      have Hok := Lib.hid (HD.out.2.1.accept (p := (fc, fb, fn)) Hh.out HD.out.2.2.2 (decide (kd = 5)))
      clear hz h4 h4p
      go_upto_region 11 with (go_at_call 47; refine HAcc.out.mono ?_; rintro e w5 ⟨rfl, h5⟩)
      have HP := Lib.hid (HPu.out w5 _ _ h5 Hok.out)
      clear h5 HAcc
      go_wp2_with (go_at_call 12; refine HP.out.mono ?_; rintro e w6 ⟨U, cc, T, rfl, hT, h6⟩)
      have H6 := Lib.hid (And.intro hT h6)
      clear hT h6
      go_ret3
      rw [Hr.out, if_neg (by decide), if_neg (fun e => e Hz.out)]
      exact ⟨U, cc, T, rfl, H6.out.1, dropF H6.out.2⟩
     ·have kz : ((Z : Int) != (sm : Int)) = true := by rw [neI]; exact decide_eq_true hz
      have HAnn := Lib.hid (HAn.out W4 _ h4p)
      have Hz := Lib.hid hz
      clear hz h4 h4p
      go_wp2_with (go_at_call 46; refine HAnn.out.mono ?_; rintro e w6 ⟨U, cc, T, rfl, hT, h6⟩)
      have H6 := Lib.hid (And.intro hT h6)
      clear hT h6
      go_ret3
      rw [Hr.out, if_neg (by decide), if_pos Hz.out]
      exact ⟨U, cc, T, rfl, H6.out.1, dropF H6.out.2⟩
end Go.Proofs.YtnjcdihgaidlbaaGreatDoor
set_option linter.unusedSimpArgs false
set_option linter.unusedVariables false
namespace Go.Proofs.YtnjcdihgaidlbaaGreatDoor
open Go.RowKit
set_option maxRecDepth 100000
structure DueI (S : SD) (nw : Nat) (l : List Nat) (M : List (Nat × Nat × Nat)) : Prop where
 out : OutU S.TM nw l
 look : ∀ k, lookM M k = (lookM S.TM k).map (dueC S.tk nw)
 keys : M.map Prod.fst = S.TM.map Prod.fst
theorem OkSn.due {D : BD} {S : SD} (h : OkSn D S) (hn : (S.TM.map Prod.fst).Nodup) {nw : Nat} (hw : nw < 18446744073709551616) {l : List Nat} {M : List (Nat × Nat × Nat)} (hd : DueI S nw l M) : OkSn D { S with now := nw, TM := M } :=
 ⟨h.bw1, h.bw2, h.pl, h.sum, h.tk, h.ep, hw, fun p hp => by
  have h1 := lookM_of_mem (by rw [hd.keys]; exact hn) hp
  rw [hd.look] at h1
  cases hl : lookM S.TM p.1 with
  | none => rw [hl] at h1; cases h1
  | some c =>
   rw [hl, Option.map_some] at h1
   injection h1 with h1
   have h2 := h.tv (p.1, c) (lookM_mem hl)
   refine ⟨h2.1, ?_⟩
   rw [← h1]
   unfold dueC
   split
   ·unfold almD; exact Nat.min_le_right _ _
   ·exact h2.2, h.cv, h.sv⟩
theorem due_few {D : BD} {S : SD} (hD : OkD D) (h : OkSn D S) {nw : Nat} {l : List Nat} (hl : OutU S.TM nw l) : l.length ≤ 64 ∧ ∀ x ∈ l, x < 4294967296 ∧ (lookM D.M x).isSome := by
 have hk : ∀ x ∈ l, (lookM D.M x).isSome := fun x hx => by
  obtain ⟨c, h1, -⟩ := (hl.2 x).1 hx
  exact (h.tv (x, c) (lookM_mem h1)).1
 refine ⟨?_, fun x hx => ⟨?_, hk x hx⟩⟩
 ·have h1 := len_sub l (D.M.map Prod.fst) (hl.1.imp fun h => Nat.ne_of_lt h) (fun x hx => by
   obtain ⟨a, ha⟩ := look_key (hk x hx)
   exact List.mem_map_of_mem (f := Prod.fst) ha)
  rw [List.length_map] at h1
  have h2 := hD.few
  have h3 := hD.mo2
  omega
 ·obtain ⟨a, ha⟩ := look_key (hk x hx)
  exact hD.key _ ha
theorem fired_yes {D : BD} {S : SD} {x : Nat} (h : hasC (D.at_ x) (S.come x).1 (S.come x).2.1 (S.come x).2.2 = false ∨ S.come x = endC (D.at_ x)) : firedD D S x = stopD (resetD S x) x := if_pos h
theorem fired_not {D : BD} {S : SD} {x : Nat} (h : ¬ (hasC (D.at_ x) (S.come x).1 (S.come x).2.1 (S.come x).2.2 = false ∨ S.come x = endC (D.at_ x))) : firedD D S x = resetD S x := if_neg h
theorem row_shape {w : World} {e : TypeId} {v : Value} {l : List Nat} (h : OwnR w 0 e encU 1 v l) : ∃ U c, v = .slice U l.length c := by
 rcases row_cases h with ⟨h1, h2⟩ | ⟨g, n, c, h1, h2⟩
 ·exact ⟨none, 0, by rw [h1, h2]; rfl⟩
 ·exact ⟨some ⟨g, 0, none⟩, c, by rw [h1, h2]⟩
theorem tm_row {B : Nat} {w0 w : World} {q tk : Nat} {M : List (Nat × Nat × Nat)} {t : Kt} {ts : List Kt} (h : Tm B w0 w q tk M (t :: ts)) : t.P w := by
 obtain ⟨b, h⟩ := h
 exact h.at_ 2 rfl
set_option maxHeartbeats 32000000 in
theorem tick_any {B : Nat} {w0 w : World} {X : SL} {S : SD} {Y : Bl} {ts : List Kt} (h : Sd B w0 w X S (thBk Y :: ts)) (ok : OkB Y) (hS : OkSn Y.D S) (n : Nat) (hn : n < 4294967296) :
  Calls Tryz.prog 24 #[ptS X, prB Y, .int .u32 (n : Nat)] w fun e w' => ∃ l M, DueI S ((S.now + n) % 18446744073709551616) l M ∧ SndO B w0 X Y ts (pumpD Y.D (firedL Y.D l { S with now := (S.now + n) % 18446744073709551616, TM := M })) e w' := by
 have hmx : Tryz.prog.follows .mixedOrders = true := by kernel_rfl
 have hPu := fun (W : World) (S' : SD) (us : List Kt) (h : Sd B w0 W X S' (thBk Y :: us)) (hS' : OkSn Y.D S') => pump_any h ok hS'
 have hBe := fun (W : World) (hY : (thBk Y).P W) (x : Nat) (hx : x < 4294967296) (p1 p2 p3 : Nat) (h1 : p1 < 4294967296) (h2 : p2 < 4294967296) (h3 : p3 < 4294967296) => bBehind_any (RdK.of hY) ok x hx p1 p2 p3 h1 h2 h3
 have hEn := fun (W : World) (hY : (thBk Y).P W) (x : Nat) (hx : x < 4294967296) => bEnd_any (RdK.of hY) ok x hx
 have hD := ok.D
 obtain ⟨D, hDe⟩ : ∃ D, D = Y.D := ⟨_, rfl⟩
 rw [← hDe] at hPu hBe hEn hD hS ⊢
 obtain ⟨nw, hnw⟩ : ∃ k, k = (S.now + n) % 18446744073709551616 := ⟨_, rfl⟩
 rw [← hnw]
 have hv1 : IntKind.u64.wrap ((n : Nat) : Int) = ((n : Nat) : Int) := by rw [IntKind.wrap_u64]; omega
 have hv2 : IntKind.u64.wrap (((S.now : Nat) : Int) + ((n : Nat) : Int)) = ((nw : Nat) : Int) := by rw [IntKind.wrap_u64, hnw]; omega
 have hnw2 : nw < 18446744073709551616 := by rw [hnw]; exact Nat.mod_lt _ (by decide)
 have F3o := h.f3
 have F3f : w.frozen? ⟨X.q, 3, none⟩ = false := h.blk.frozen 3
 have HD := Lib.hid (And.intro hD (And.intro hS (And.intro hnw2 h)))
 have HPu := Lib.hid hPu
 have HBe := Lib.hid hBe
 have HEn := Lib.hid hEn
 clear h ok hS hPu hBe hEn hD hDe hnw hnw2
 go_enter Tryz.func24, Tryz.ntmps24
 go_upto_region 2 with fail
 generalize hWx : World.setCell _ _ _ = W1
 have h1 := HD.out.2.2.2.now_ nw
 rw [hWx] at h1
 obtain ⟨S1, hS1⟩ : ∃ T : SD, T = { S with now := nw } := ⟨_, rfl⟩
 rw [← hS1] at h1
 have H1 := Lib.hid h1
 have h1d := h1.go (Below.refl W1.heap.size W1).drew
 have F1 := h1.f1
 have F3 := h1.f3
 rw [show S1.now = nw by rw [hS1]] at F3
 have hfew := h1d.fewT HD.out.1 (show OkSn D S1 by rw [hS1]; exact ⟨HD.out.2.1.bw1, HD.out.2.1.bw2, HD.out.2.1.pl, HD.out.2.1.sum, HD.out.2.1.tk, HD.out.2.1.ep, HD.out.2.2.1, HD.out.2.1.tv, HD.out.2.1.cv, HD.out.2.1.sv⟩)
 obtain ⟨rs, hT, hL⟩ := h1d.tm
 have htm : S1.TM = S.TM ∧ S1.tk = S.tk := by rw [hS1]; exact ⟨rfl, rfl⟩
 rw [htm.1, htm.2] at hT
 rw [htm.1] at hfew
 have hnd : (S.TM.map Prod.fst).Nodup := by
  obtain ⟨b, hT⟩ := hT
  exact (show Mu alV W1.drew b S.TM from hT.at_ 1 rfl).nodup
 have HDu := Lib.hid (tdue_any hT nw HD.out.2.2.1 HD.out.2.1.tk (by omega) (fun k c hk => (HD.out.2.1.tv (k, c) (lookM_mem hk)).2))
 subst hS1
 have HL := Lib.hid (And.intro hL hnd)
 clear F3o F3f h1 hWx h1d hfew hT hL hv1 hv2 htm hnd H1
 go_cut [29, 30, 31] from 21 to 31 (fun s29 s30 s31 wx => ∃ (l : List Nat) (M : List (Nat × Nat × Nat)) (U1 : Option Addr) (c1 : Nat), s29 = .slice U1 l.length c1 ∧ s30 = .int .i64 (l.length : Nat) ∧ s31 = .int .i64 0 ∧ Hid (DueI S nw l M ∧ Sd B w0 wx X { S with now := nw, TM := M } (thR 30 encU 1 (.slice U1 l.length c1) l :: thBk Y :: ts)))
 case first =>
  go_region_with (go_at_call 51; refine HDu.out.mono ?_; rintro e w2 ⟨v, l, M, rfl, hT2, ho, hlk, hks, -⟩; obtain ⟨U1, c1, rfl⟩ := row_shape (tm_row hT2))
  all_goals
   have H2 := Lib.hid (And.intro hT2 (And.intro ho (And.intro hlk hks)))
   clear hT2 ho hlk hks
   go_wp2_with fail
   go_meet
   have h3 := HL.out.1 w2 M [_] H2.out.1
   exact ⟨l, M, U1, c1, rfl, rfl, rfl, Lib.hid ⟨⟨H2.out.2.1, H2.out.2.2.1, H2.out.2.2.2⟩, h3⟩⟩
 case rest =>
  obtain ⟨l, M, U1, c1, rfl, rfl, rfl, HC⟩ := hcut
  obtain ⟨W2, hW2⟩ : ∃ Wx, Wx = wc := ⟨_, rfl⟩
  rw [← hW2] at HC ⊢
  clear hW2 HDu
  obtain ⟨S2, hS2⟩ : ∃ T : SD, T = { S with now := nw, TM := M } := ⟨_, rfl⟩
  have hok2 : OkSn D S2 := by rw [hS2]; exact HD.out.2.1.due HL.out.2 HD.out.2.2.1 HC.out.1
  have hfw := due_few HD.out.1 HD.out.2.1 HC.out.1.out
  have hc2 := HC.out.2
  rw [← hS2] at hc2
  obtain ⟨m, hm⟩ : ∃ m, m = l.length := ⟨_, rfl⟩
  rw [← hm] at hc2 ⊢
  have hm64 : m ≤ 64 := by rw [hm]; exact hfw.1
  have HX := Lib.hid (And.intro hm (And.intro hfw.2 (And.intro (hc2.perm (List.Perm.swap _ _ _)) (And.intro hok2 (And.intro hS2 HC.out.1)))))
  clear hm hfw hc2 hok2 hS2 HC HL
  go_upto_region 3 with fail
  go_loopw [8, 9, 10, 11, 31] (fun s8 s9 s10 s11 s31 wr => ∃ (i : Nat) (S3 : SD), s31 = .int .i64 (i : Nat) ∧ i ≤ m ∧ Hid (Sd B w0 wr X S3 (thBk Y :: thR 30 encU 1 (.slice U1 m c1) l :: ts) ∧ OkSn D S3 ∧ firedL D (l.drop i) S3 = firedL D l S2))
   (fun _ _ _ _ s31 _ => m - (intOf s31).toNat)
  case atStart => exact ⟨0, S2, by go_num, Nat.zero_le _, Lib.hid ⟨HX.out.2.2.1, HX.out.2.2.2.1, rfl⟩⟩
  case round =>
   obtain ⟨i, S3, rfl, hi, HI⟩ := hrel
   obtain ⟨wi, hwi⟩ : ∃ wi, wi = wr := ⟨_, rfl⟩
   rw [← hwi] at HI ⊢
   clear hwi
   by_cases hit : i < m
   ·have hil : i < l.length := by rw [← HX.out.1]; exact hit
    obtain ⟨x, hx⟩ : ∃ x, l[i]? = some x := ⟨_, List.getElem?_eq_getElem hil⟩
    obtain ⟨gs, hgs, -, hcs⟩ := row_at Tryz.eltU (HI.out.1.sep.at_ (t := thR 30 encU 1 (.slice U1 m c1) l) 1 rfl) hx
    subst hgs
    have hxb := HX.out.2.1 x (List.mem_of_getElem? hx)
    have hx32 := hxb.1
    have C1 : wi.cell? ⟨gs, i, none⟩ = some (.int .u32 (x : Nat)) := by
     have h1 := hcs 0 _ rfl
     rw [Nat.mul_one, Nat.add_zero] at h1
     exact h1
    have hdr : l.drop i = x :: l.drop (i + 1) := by rw [List.drop_eq_getElem_cons hil, (List.getElem?_eq_some_iff.1 hx).2]
    have hfi := HI.out.2.2
    rw [hdr] at hfi
    have hfi2 : firedL D (l.drop (i + 1)) (firedD D S3 x) = firedL D l S2 := hfi
    have HRs := Lib.hid (reset_any HI.out.1 HD.out.1 HI.out.2.1 x hx32)
    have hit2 : (i : Int) < (m : Int) := by omega
    have HF := Lib.hid (And.intro hfi2 HI.out.2.1)
    clear hx hcs hdr hfi hfi2 hxb hil HI
    go_upto_region 6 with (go_at_call 52; refine HRs.out.mono ?_; rintro e w1 ⟨rfl, h1⟩)
    obtain ⟨S4, hS4⟩ : ∃ T, T = resetD S3 x := ⟨_, rfl⟩
    rw [← hS4] at h1
    have hok4 : OkSn D S4 := by rw [hS4]; exact HF.out.2.reset x
    have hco4 : S4.come x = S3.come x := by rw [hS4]; rfl
    have hpo := hok4.come x
    have HCo := Lib.hid (come_any h1 x hx32)
    obtain ⟨p, hp⟩ : ∃ p, p = S3.come x := ⟨_, rfl⟩
    rw [hco4, ← hp] at HCo hpo
    obtain ⟨p1, p2, p3⟩ := p
    have hfy : hasC (D.at_ x) p1 p2 p3 = false ∨ (p1, p2, p3) = endC (D.at_ x) → firedD D S3 x = stopD S4 x := fun h => by rw [hS4]; exact fired_yes (by rw [← hp]; exact h)
    have hfn : ¬ (hasC (D.at_ x) p1 p2 p3 = false ∨ (p1, p2, p3) = endC (D.at_ x)) → firedD D S3 x = S4 := fun h => by rw [hS4]; exact fired_not (by rw [← hp]; exact h)
    have HY := Lib.hid (And.intro hfy (And.intro hfn hok4))
    have Hpo := Lib.hid hpo
    have H1 := Lib.hid h1
    clear h1 hS4 hok4 hco4 hpo hp hfy hfn C1 HRs
    go_upto_region 7 with (go_at_call 17; refine HCo.out.mono ?_; rintro e w2 ⟨rfl, b2⟩; simp only [plE, plV])
    have h2 := (H1.out.go b2).box #[.int .u32 (p1 : Nat), .int .u32 (p2 : Nat), .int .u32 (p3 : Nat)] 40
    generalize hV2 : World.alloc _ _ = V2 at h2 ⊢
    obtain ⟨g9, hg9⟩ : ∃ g, g = w2.heap.size := ⟨_, rfl⟩
    rw [← hg9] at h2 ⊢
    clear hV2 hg9 b2 HCo H1
    have D9 := cells_say (h2.blkAt 0) _ 0 rfl
    simp only [cellsSay, List.drop_zero, Nat.reduceAdd, and_true] at D9
    have hbe := HBe.out V2 (h2.sep.at_ 1 rfl) x hx32 p1 p2 p3 Hpo.out.1 Hpo.out.2.1 Hpo.out.2.2
    have H2 := Lib.hid h2
    clear h2
    have e00 : ((0 : Nat) : Int) = 0 := rfl
    have e122 : ((122 : Nat) : Int) = 122 := rfl
    cases hh : hasC (D.at_ x) p1 p2 p3 with
    | false =>
     rw [hh] at hbe
     simp only [Bool.false_eq_true, if_false] at hbe
     have HB := Lib.hid hbe
     have Hf := Lib.hid (HY.out.1 (.inl hh))
     clear hbe hh
     go_upto_region 8 with (go_at_call 53; refine HB.out.mono ?_; rintro e w3 ⟨rfl, b3⟩)
     have h3 := H2.out.go b3
     have H3 := Lib.hid h3
     clear D9 b3 H2 HB h3
     refine wp_region_ext (by kernel_rfl) (by kernel_rfl) ?_
     repeat (go_big_quiet_step (fail))
     refine wpQuiet_nil ?_
     rintro w4 ⟨y, rfl⟩
     have h4 := H3.out.go (plus_below w3 y)
     generalize plus w3 y = W4 at h4 ⊢
     obtain ⟨rs, hT, hL⟩ := h4.tm
     have HSt := Lib.hid (tstop_any hT x hx32)
     have HL := Lib.hid hL
     have C1 := h4.f1
     clear h4 hT hL H3
     go_wp2_with (go_at_call 54; refine HSt.out.mono ?_; rintro e w5 ⟨rfl, hT2⟩)
     go_roundw
     case measure => simp [intOf]; omega
     case rel => exact ⟨i + 1, stopD S4 x, by go_num, by omega, Lib.hid ⟨(show Sd B w0 w5 X (stopD S4 x) (thB g9 40 #[.int .u32 (p1 : Nat), .int .u32 (p2 : Nat), .int .u32 (p3 : Nat)] :: thBk Y :: thR 30 encU 1 (.slice (some ⟨gs, 0, none⟩) m c1) l :: ts) from HL.out w5 _ [] hT2).tail, HY.out.2.2.stop x, by rw [← Hf.out]; exact HF.out.1⟩⟩
    | true =>
     rw [hh] at hbe
     simp only [if_true] at hbe
     have HB := Lib.hid hbe
     clear hbe
     go_upto_region 8 with (go_at_call 53; refine HB.out.mono ?_; rintro e w3 ⟨rfl, b3⟩)
     have h3 := H2.out.go b3
     have H3 := Lib.hid h3
     clear D9 b3 H2 HB
     have D9 := fun (y : More) => cells_say ((h3.go (plus_below w3 y)).blkAt 0) _ 0 rfl
     simp only [cellsSay, List.drop_zero, Nat.reduceAdd, and_true] at D9
     have HE := Lib.hid (fun (y : More) => HEn.out (plus w3 y) ((h3.go (plus_below w3 y)).sep.at_ 1 rfl) x hx32)
     clear h3
     obtain ⟨eP, heP⟩ : ∃ z : Pl, z = endC (D.at_ x) := ⟨_, rfl⟩
     have hY1 : (p1, p2, p3) = eP → firedD D S3 x = stopD S4 x := fun h => HY.out.1 (.inr (h.trans heP))
     have hY2 : (p1, p2, p3) ≠ eP → firedD D S3 x = S4 := fun h => HY.out.2.1 (by rintro (e | e); rw [hh] at e; cases e; exact h (e.trans heP.symm))
     rw [← heP] at HE
     obtain ⟨e1, e2, e3⟩ := eP
     have hQ : ∀ w, (binOp .eql 40 (.agg #[.int .u32 (p1 : Nat), .int .u32 (p2 : Nat), .int .u32 (p3 : Nat)]) (.agg #[.int .u32 (e1 : Nat), .int .u32 (e2 : Nat), .int .u32 (e3 : Nat)])).run Tryz.prog w = .ok (.bool (decide ((p1, p2, p3) = (e1, e2, e3)))) w := fun w => eqPlB_run _ _ _ _ _ _ w
     clear heP hh
     by_cases he : (p1, p2, p3) = (e1, e2, e3)
     ·rw [decide_eq_true he] at hQ
      have Hf := Lib.hid (hY1 he)
      clear he hY1 hY2
      refine wp_region_ext (by kernel_rfl) (by kernel_rfl) ?_
      repeat (go_big_quiet_step ((go_at_call 18; exact ext_of (HE.out _))))
      refine wpQuiet_nil ?_
      rintro w4 ⟨y, rfl⟩
      have h4 := H3.out.go (plus_below w3 y)
      generalize plus w3 y = W4 at h4 ⊢
      obtain ⟨rs, hT, hL⟩ := h4.tm
      have HSt := Lib.hid (tstop_any hT x hx32)
      have HL := Lib.hid hL
      have C1 := h4.f1
      clear h4 hT hL H3 HE D9
      go_wp2_with (go_at_call 54; refine HSt.out.mono ?_; rintro e w5 ⟨rfl, hT2⟩)
      go_roundw
      case measure => simp [intOf]; omega
      case rel => exact ⟨i + 1, stopD S4 x, by go_num, by omega, Lib.hid ⟨(show Sd B w0 w5 X (stopD S4 x) (thB g9 40 #[.int .u32 (p1 : Nat), .int .u32 (p2 : Nat), .int .u32 (p3 : Nat)] :: thBk Y :: thR 30 encU 1 (.slice (some ⟨gs, 0, none⟩) m c1) l :: ts) from HL.out w5 _ [] hT2).tail, HY.out.2.2.stop x, by rw [← Hf.out]; exact HF.out.1⟩⟩
     ·rw [decide_eq_false he] at hQ
      have Hf := Lib.hid (hY2 he)
      clear he hY1 hY2
      refine wp_region_ext (by kernel_rfl) (by kernel_rfl) ?_
      repeat (go_big_quiet_step ((go_at_call 18; exact ext_of (HE.out _))))
      refine wpQuiet_nil ?_
      rintro w4 ⟨y, rfl⟩
      have h4 := H3.out.go (plus_below w3 y)
      generalize plus w3 y = W4 at h4 ⊢
      clear H3 HE D9
      have H4 := Lib.hid h4
      clear h4
      go_wp2_with fail
      go_roundw
      case measure => simp [intOf]; omega
      case rel => exact ⟨i + 1, S4, by go_num, by omega, Lib.hid ⟨H4.out.tail, HY.out.2.2, by rw [← Hf.out]; exact HF.out.1⟩⟩
   ·have hit2 : ¬ (i : Int) < (m : Int) := by omega
    have hii : l.drop i = [] := List.drop_eq_nil_of_le (by rw [← HX.out.1]; omega)
    have hf := HI.out.2.2
    rw [hii] at hf
    have hf2 : S3 = firedL D l S2 := hf
    have HP := Lib.hid (HPu.out wi S3 _ HI.out.1 HI.out.2.1)
    have HF := Lib.hid hf2
    clear hii hf hf2 HI
    go_wp2_with (go_at_call 12; refine HP.out.mono ?_; rintro e w6 ⟨U, cc, T, rfl, hT, h6⟩)
    have H6 := Lib.hid (And.intro hT h6)
    clear hT h6
    go_ret
    refine ⟨l, M, HX.out.2.2.2.2.2, ?_⟩
    rw [← HX.out.2.2.2.2.1, ← HF.out]
    exact ⟨U, cc, T, rfl, H6.out.1, dropF H6.out.2⟩
end Go.Proofs.YtnjcdihgaidlbaaGreatDoor
set_option linter.unusedSimpArgs false
set_option linter.unusedVariables false
namespace Go.Proofs.YtnjcdihgaidlbaaGreatDoor
open Go.RowKit
set_option maxRecDepth 100000
def backX (D : BD) (S : SD) (x : Nat) : Int := if hasC (D.at_ x) (S.come x).1 (S.come x).2.1 (S.come x).2.2 then behC (D.at_ x) (S.come x).1 (S.come x).2.1 else behC (D.at_ x) 0 0
def backL (D : BD) (S : SD) : List Nat → Int
 | [] => 0
 | x :: xs => backX D S x + backL D S xs
theorem backL_snoc (D : BD) (S : SD) (x : Nat) : ∀ l, backL D S (l ++ [x]) = backL D S l + backX D S x
 | [] => by show backX D S x + 0 = 0 + backX D S x; omega
 | y :: l => by show backX D S y + backL D S (l ++ [x]) = backX D S y + backL D S l + backX D S x; rw [backL_snoc D S x l]; omega
theorem backX_in {D : BD} (hD : OkD D) {S : SD} (hS : OkSn D S) (x : Nat) : -5000000000 ≤ backX D S x ∧ backX D S x ≤ 5000000000 := by
 unfold backX
 split
 ·exact beh_bound (hD.at_ x) _ _ (hS.come x).2.1
 ·exact beh_bound (hD.at_ x) _ _ (by decide)
set_option maxHeartbeats 16000000 in
theorem back_any {B : Nat} {w0 w : World} {X : SL} {S : SD} {Y : Bl} {ts : List Kt} (h : Sd B w0 w X S (thBk Y :: ts)) (ok : OkB Y) (hS : OkSn Y.D S) :
  Calls Tryz.prog 25 #[ptS X, prB Y] w fun e w' => e = .returned (.int .i64 (backL Y.D S (ksD Y.D))) ∧ Below w.heap.size w w' := by
 have hmx : Tryz.prog.follows .mixedOrders = true := by kernel_rfl
 have HSe := Lib.hid (bSeries_any (RdK.of (h.sep.at_ 0 rfl)) ok)
 have hBe := fun (W : World) (hY : (thBk Y).P W) (x : Nat) (hx : x < 4294967296) (p1 p2 p3 : Nat) (h1 : p1 < 4294967296) (h2 : p2 < 4294967296) (h3 : p3 < 4294967296) => bBehind_any (RdK.of hY) ok x hx p1 p2 p3 h1 h2 h3
 have hD := ok.D
 obtain ⟨D, hDe⟩ : ∃ D, D = Y.D := ⟨_, rfl⟩
 rw [← hDe] at HSe hBe hD hS ⊢
 have hk64 : (ksD D).length ≤ 64 := by rw [ksD_len]; have h1 := hD.few; have h2 := hD.mo2; omega
 have HBe := Lib.hid hBe
 have HD := Lib.hid (And.intro hD hS)
 have H0 := Lib.hid h
 clear h ok hS hBe hD hDe
 go_enter Tryz.func25, Tryz.ntmps25
 go_upto_region 3 with (go_at_call 13; refine HSe.out.mono ?_; rintro e w1 ⟨U1, c1, xs, rfl, h1, h2, h3, b1⟩)
 have hxs := ksD_of h1 h2
 rw [← hxs] at hk64
 obtain ⟨n, hn⟩ : ∃ n, n = xs.length := ⟨_, rfl⟩
 rw [← hn] at h3 hk64 ⊢
 have hxk : ∀ x ∈ xs, x < 4294967296 := fun x hx => by
  obtain ⟨p, hp, rfl⟩ := List.mem_map.1 (h1.subset hx)
  exact HD.out.1.key p hp
 have HX := Lib.hid (And.intro hxs (And.intro hn (And.intro (h3.mono (Nat.zero_le _)) (And.intro b1 hxk))))
 clear h1 h2 h3 b1 hxs hn hxk HSe
 go_loopw [5, 7, 8, 9, 13] (fun s5 s7 s8 s9 s13 wr => ∃ (i : Nat) (a : Int), s13 = .int .i64 (i : Nat) ∧ i ≤ n ∧ s5 = .int .i64 a ∧ -5000000000 * (i : Int) ≤ a ∧ a ≤ 5000000000 * (i : Int) ∧ Hid (a = backL D S (xs.take i) ∧ Below w1.heap.size w1 wr))
  (fun _ _ _ _ s13 _ => n - (intOf s13).toNat)
 case atStart => exact ⟨0, 0, by go_num, Nat.zero_le _, rfl, by omega, by omega, Lib.hid ⟨rfl, Below.refl _ _⟩⟩
 case round =>
  obtain ⟨i, a, rfl, hi, rfl, ha1, ha2, HI⟩ := hrel
  obtain ⟨wi, hwi⟩ : ∃ wi, wi = wr := ⟨_, rfl⟩
  rw [← hwi] at HI ⊢
  clear hwi
  by_cases hit : i < n
  ·obtain ⟨x, hx⟩ : ∃ x, xs[i]? = some x := ⟨_, List.getElem?_eq_getElem (by rw [← HX.out.2.1]; exact hit)⟩
   obtain ⟨gs, hgs, -, hcs⟩ := row_at Tryz.eltU HX.out.2.2.1 hx
   subst hgs
   have hx32 := HX.out.2.2.2.2 x (List.mem_of_getElem? hx)
   have C1 : wi.cell? ⟨gs, i, none⟩ = some (.int .u32 (x : Nat)) := by
    have h1 := hcs 0 _ rfl
    rw [Nat.mul_one, Nat.add_zero] at h1
    exact (HI.out.2.cell (cell_lt h1)).trans h1
   have hsn : backL D S (xs.take (i + 1)) = backL D S (xs.take i) + backX D S x := by rw [List.take_add_one, hx]; exact backL_snoc _ _ _ _
   have hbi := backX_in HD.out.1 HD.out.2 x
   have hw : Below w.heap.size w wi := HX.out.2.2.2.1.trans (HI.out.2.mono HX.out.2.2.2.1.size)
   have h1 := H0.out.go hw
   have hpo := HD.out.2.come x
   have HCo := Lib.hid (come_any h1 x hx32)
   obtain ⟨V, hV⟩ : ∃ V, V = backX D S x := ⟨_, rfl⟩
   have hV2 := hV
   unfold backX at hV2
   obtain ⟨p, hp⟩ : ∃ p, p = S.come x := ⟨_, rfl⟩
   rw [← hp] at HCo hpo hV2
   rw [← hV] at hsn hbi
   obtain ⟨p1, p2, p3⟩ := p
   have hY := h1.sep.at_ (t := thBk Y) 0 rfl
   have hbe := fun (W : World) (b : Below wi.heap.size wi W) => HBe.out W ((thBk Y).below hY b) x hx32
   have Hbe := Lib.hid hbe
   have Hpo := Lib.hid hpo
   have hit2 : (i : Int) < (n : Int) := by omega
   have HS := Lib.hid (And.intro HI.out.1 (And.intro hsn HI.out.2))
   clear hx hcs hsn hw h1 hpo hV hp hY hbe HI
   have e00 : ((0 : Nat) : Int) = 0 := rfl
   have e122 : ((122 : Nat) : Int) = 122 := rfl
   cases hh : hasC (D.at_ x) p1 p2 p3 with
   | true =>
    dsimp only at hV2
    rw [hh, if_pos rfl] at hV2
    have hv3 : IntKind.i64.wrap (a + V) = a + V := by rw [IntKind.wrap_i64]; omega
    have hbe := fun (W : World) (b : Below wi.heap.size wi W) => Hbe.out W b p1 p2 p3 Hpo.out.1 Hpo.out.2.1 Hpo.out.2.2
    rw [hh] at hbe
    simp only [if_true] at hbe
    rw [← hV2] at hbe
    have HB := Lib.hid hbe
    clear hbe hh hV2 Hbe
    go_wp2_with (first | (go_at_call 17; refine HCo.out.mono ?_; rintro e w2 ⟨rfl, b2⟩; simp only [plE, plV]) | (go_at_call 53; refine (HB.out _ b2).mono ?_; rintro e w3 ⟨rfl, b3⟩))
    go_roundw
    case measure => simp [intOf]; omega
    case rel => exact ⟨i + 1, a + V, by go_num, by omega, rfl, by omega, by omega, Lib.hid ⟨by rw [HS.out.2.1, HS.out.1], (HS.out.2.2.trans (b2.mono HS.out.2.2.size)).trans (b3.mono (Nat.le_trans HS.out.2.2.size b2.size))⟩⟩
   | false =>
    dsimp only at hV2
    rw [hh, if_neg (by decide)] at hV2
    have hv3 : IntKind.i64.wrap (a + V) = a + V := by rw [IntKind.wrap_i64]; omega
    have hbe := fun (W : World) (b : Below wi.heap.size wi W) => Hbe.out W b p1 p2 p3 Hpo.out.1 Hpo.out.2.1 Hpo.out.2.2
    rw [hh] at hbe
    simp only [Bool.false_eq_true, if_false] at hbe
    have hbz := fun (W : World) (b : Below wi.heap.size wi W) => Hbe.out W b 0 0 0 (by decide) (by decide) (by decide)
    rw [has_first (HD.out.1.at_ x)] at hbz
    simp only [if_true] at hbz
    rw [← hV2] at hbz
    have HB := Lib.hid hbe
    have HBz := Lib.hid hbz
    clear hbe hh hV2 Hbe hbz
    go_upto_region 7 with (first | (go_at_call 17; refine HCo.out.mono ?_; rintro e w2 ⟨rfl, b2⟩; simp only [plE, plV]) | (go_at_call 53; refine (HB.out _ b2).mono ?_; rintro e w3 ⟨rfl, b3⟩))
    have b23 := b2.trans (b3.mono b2.size)
    have hbz := HBz.out _ b23
    have HBz2 := Lib.hid hbz
    clear b2 b3 hbz HB HBz HCo
    go_wp2_with (go_at_call 53; refine HBz2.out.mono ?_; rintro e w4 ⟨rfl, b4⟩)
    go_roundw
    case measure => simp [intOf]; omega
    case rel => exact ⟨i + 1, a + V, by go_num, by omega, rfl, by omega, by omega, Lib.hid ⟨by rw [HS.out.2.1, HS.out.1], (HS.out.2.2.trans (b23.mono HS.out.2.2.size)).trans (b4.mono (Nat.le_trans HS.out.2.2.size b23.size))⟩⟩
  ·have hit2 : ¬ (i : Int) < (n : Int) := by omega
   have hii : i = n := by omega
   have hE : xs.take i = ksD D := by rw [hii, HX.out.2.1, List.take_length]; exact HX.out.1
   have hF := HI.out
   rw [hE] at hF
   have HF := Lib.hid hF
   clear hii hE hF HI
   go_wp2_with fail
   go_ret
   exact ⟨by rw [← HF.out.1]; rfl, HX.out.2.2.2.1.trans (HF.out.2.mono HX.out.2.2.2.1.size)⟩
end Go.Proofs.YtnjcdihgaidlbaaGreatDoor
set_option linter.unusedSimpArgs false
set_option linter.unusedVariables false
namespace Go.Proofs.YtnjcdihgaidlbaaGreatDoor
open Go.RowKit
set_option maxRecDepth 100000
def inI (n l m : Int) : Bool := decide (l ≤ n) && decide (n ≤ m)
structure Cf where
 (a b ch wi ti di : Int)
def Cf.v (c : Cf) : Value := .agg #[.int .i64 c.a, .int .i64 c.b, .int .i64 c.ch, .int .i64 c.wi, .int .i64 c.ti, .int .i64 c.di]
def rightB (c : Cf) : Bool := inI c.a 1 64 && (inI c.b 1 1073741824 && (inI c.ch 1 24 && (inI c.wi 1 1048576 && (inI c.ti 1 1000 && inI c.di 0 1048576))))
theorem within_any (n l m : Int) (w : World) : Calls Tryz.prog 48 #[.int .i64 n, .int .i64 l, .int .i64 m] w fun e w' => e = .returned (.bool (inI n l m)) ∧ w' = w := by
 unfold inI
 by_cases h1 : l ≤ n
 ·by_cases h2 : n ≤ m
  ·rw [decide_eq_true h1, decide_eq_true h2]
   go_enter Tryz.func48, Tryz.ntmps48
   go_wp2_with fail
   go_ret
   exact ⟨rfl, rfl⟩
  ·rw [decide_eq_true h1, decide_eq_false h2]
   have k2 : decide (n ≤ m) = false := decide_eq_false h2
   go_enter Tryz.func48, Tryz.ntmps48
   go_wp2_with fail
   go_ret
   exact ⟨by simp [k2], rfl⟩
 ·rw [decide_eq_false h1, Bool.false_and]
  have k1 : decide (l ≤ n) = false := decide_eq_false h1
  go_enter Tryz.func48, Tryz.ntmps48
  go_wp2_with fail
  go_ret
  exact ⟨by simp, rfl⟩
set_option maxHeartbeats 8000000 in
theorem right_any (c : Cf) (w : World) : Calls Tryz.prog 19 #[c.v] w fun e w' => e = .returned (.bool (rightB c)) ∧ Below w.heap.size w w' := by
 obtain ⟨a, b, ch, wi, ti, di⟩ := c
 unfold rightB Cf.v
 dsimp only
 obtain ⟨b0, e0⟩ : ∃ z, z = inI a 1 64 := ⟨_, rfl⟩
 obtain ⟨b1, e1⟩ : ∃ z, z = inI b 1 1073741824 := ⟨_, rfl⟩
 obtain ⟨b2, e2⟩ : ∃ z, z = inI ch 1 24 := ⟨_, rfl⟩
 obtain ⟨b3, e3⟩ : ∃ z, z = inI wi 1 1048576 := ⟨_, rfl⟩
 obtain ⟨b4, e4⟩ : ∃ z, z = inI ti 1 1000 := ⟨_, rfl⟩
 obtain ⟨b5, e5⟩ : ∃ z, z = inI di 0 1048576 := ⟨_, rfl⟩
 rw [← e0, ← e1, ← e2, ← e3, ← e4, ← e5]
 have E0 := Lib.hid e0.symm
 clear e0
 have E1 := Lib.hid e1.symm
 clear e1
 have E2 := Lib.hid e2.symm
 clear e2
 have E3 := Lib.hid e3.symm
 clear e3
 have E4 := Lib.hid e4.symm
 clear e4
 have E5 := Lib.hid e5.symm
 clear e5
 go_enter Tryz.func19, Tryz.ntmps19
 go_upto_region 2 with fail
 have hb := below_alloc w (.cells #[.int .i64 a, .int .i64 b, .int .i64 ch, .int .i64 wi, .int .i64 ti, .int .i64 di] 26)
 have hB := Blk.new w 26 #[.int .i64 a, .int .i64 b, .int .i64 ch, .int .i64 wi, .int .i64 ti, .int .i64 di]
 generalize hW : World.alloc _ _ = W at hb hB ⊢
 obtain ⟨g, hg⟩ : ∃ g, g = w.heap.size := ⟨_, rfl⟩
 rw [← hg] at hB ⊢
 have D := cells_say hB _ 0 rfl
 simp only [cellsSay, List.drop_zero, Nat.reduceAdd, and_true] at D
 have HB := Lib.hid hb
 clear hb hW hg hB
 cases b0 with
 | false =>
  go_wp2_with (go_at_call 48; refine (within_any _ _ _ _).mono ?_; rintro e w2 ⟨rfl, rfl⟩; (first | rw [E0.out] | rw [E1.out] | rw [E2.out] | rw [E3.out] | rw [E4.out] | rw [E5.out]))
  go_ret
  exact ⟨rfl, HB.out⟩
 | true =>
  cases b1 with
  | false =>
   go_wp2_with (go_at_call 48; refine (within_any _ _ _ _).mono ?_; rintro e w2 ⟨rfl, rfl⟩; (first | rw [E0.out] | rw [E1.out] | rw [E2.out] | rw [E3.out] | rw [E4.out] | rw [E5.out]))
   go_ret
   exact ⟨rfl, HB.out⟩
  | true =>
   cases b2 with
   | false =>
    go_wp2_with (go_at_call 48; refine (within_any _ _ _ _).mono ?_; rintro e w2 ⟨rfl, rfl⟩; (first | rw [E0.out] | rw [E1.out] | rw [E2.out] | rw [E3.out] | rw [E4.out] | rw [E5.out]))
    go_ret
    exact ⟨rfl, HB.out⟩
   | true =>
    cases b3 with
    | false =>
     go_wp2_with (go_at_call 48; refine (within_any _ _ _ _).mono ?_; rintro e w2 ⟨rfl, rfl⟩; (first | rw [E0.out] | rw [E1.out] | rw [E2.out] | rw [E3.out] | rw [E4.out] | rw [E5.out]))
     go_ret
     exact ⟨rfl, HB.out⟩
    | true =>
     cases b4 with
     | false =>
      go_wp2_with (go_at_call 48; refine (within_any _ _ _ _).mono ?_; rintro e w2 ⟨rfl, rfl⟩; (first | rw [E0.out] | rw [E1.out] | rw [E2.out] | rw [E3.out] | rw [E4.out] | rw [E5.out]))
      go_ret
      exact ⟨rfl, HB.out⟩
     | true =>
      cases b5 with
      | false =>
       go_wp2_with (go_at_call 48; refine (within_any _ _ _ _).mono ?_; rintro e w2 ⟨rfl, rfl⟩; (first | rw [E0.out] | rw [E1.out] | rw [E2.out] | rw [E3.out] | rw [E4.out] | rw [E5.out]))
       go_ret
       exact ⟨rfl, HB.out⟩
      | true =>
       go_wp2_with (go_at_call 48; refine (within_any _ _ _ _).mono ?_; rintro e w2 ⟨rfl, rfl⟩; (first | rw [E0.out] | rw [E1.out] | rw [E2.out] | rw [E3.out] | rw [E4.out] | rw [E5.out]))
       go_ret
       exact ⟨rfl, HB.out⟩
end Go.Proofs.YtnjcdihgaidlbaaGreatDoor
set_option linter.unusedSimpArgs false
set_option linter.unusedVariables false
namespace Go.Proofs.YtnjcdihgaidlbaaGreatDoor
open Go.RowKit
set_option maxRecDepth 100000
def newS (bw tk ep : Nat) : SD := ⟨bw, [], tk, [], ep, 0, [], []⟩
def mkW (bw : Nat) : Option Value → List Kt
 | some (.pointer (some a)) => [thW (fun k => k = a.block) a.block (bw : Int) []]
 | _ => []
def mkT (tk : Nat) : Option Value → List Kt
 | some (.pointer (some a)) => [thB a.block 135 #[.int .u64 (tk : Nat), .map (some (a.block - 1))], thMu alV (a.block - 1) []]
 | _ => []
def mkM : Option Value → List Kt
 | some (.map (some b)) => [thMu plE b []]
 | _ => []
def mkS (ep : Nat) (E : Rec) : List Kt := match E 10 with
 | some (.pointer (some a)) => [thB a.block 85 #[(E 2).getD undef, (E 5).getD undef, .int .u32 (ep : Nat), .int .u64 0, (E 7).getD undef, (E 8).getD undef]]
 | _ => []
theorem permM {α : Type} (us vs r : List α) : (us ++ (vs ++ r)).Perm (vs ++ (us ++ r)) := by
 have h := (List.perm_append_comm (l₁ := us) (l₂ := vs)).append_right r
 simpa only [List.append_assoc] using h
set_option maxHeartbeats 16000000 in
theorem new_some (c : Cf) (ep : Nat) (hr : rightB c = true) (bw tk : Nat) (hbw : c.wi = (bw : Nat)) (htk : c.ti = (tk : Nat)) (h1 : 1 ≤ bw ∧ bw ≤ 1048576) (h2 : 1 ≤ tk ∧ tk ≤ 1000) {B : Nat} {w0 w : World} {ts : List Kt} (h : Sep B w0 w ts) : Calls Tryz.prog 10 #[c.v, .int .u32 (ep : Nat)] w fun e w' => ∃ X, e = .returned (ptS X) ∧ Sd B w0 w' X (newS bw tk ep) ts := by
 have hmx : Tryz.prog.follows .mixedOrders = true := by kernel_rfl
 have HR := Lib.hid (fun (W : World) => right_any c W)
 rw [hr] at HR
 obtain ⟨a, b, ch, wi, ti, di⟩ := c
 dsimp only at hbw htk
 subst hbw htk
 unfold Cf.v at HR ⊢
 dsimp only at HR ⊢
 have h0 := h.box #[.int .i64 a, .int .i64 b, .int .i64 ch, .int .i64 (bw : Nat), .int .i64 (tk : Nat), .int .i64 di] 26
 have hmm := @run_makeMap Tryz.prog
 have HN1 := Lib.hid (fun (W : World) => winnew_any (bw : Int) (by omega) (by omega) W)
 have HN2 := Lib.hid (fun (W : World) => tnew_any tk h2.1 h2.2 W)
 clear hr h h1 h2
 go_enter Tryz.func10, Tryz.ntmps10
 go_upto_region 1 with fail
 generalize hW : World.alloc _ _ = W at h0 ⊢
 obtain ⟨g, hg⟩ : ∃ g, g = w.heap.size := ⟨_, rfl⟩
 rw [← hg] at h0 ⊢
 have D := cells_say (h0.blk 0) _ 0 rfl
 simp only [cellsSay, List.drop_zero, Nat.reduceAdd, and_true] at D
 have H0 := Lib.hid h0
 clear hW hg h0
 go_upto_region 3 with (go_at_call 19; refine (HR.out _).mono ?_; rintro e w2 ⟨rfl, b2⟩)
 have h3 := H0.out.go b2
 clear D HR b2 H0
 obtain ⟨I, hI⟩ : ∃ I : Rec → World → Prop, ∀ E W, I E W ↔ ((E 10 ≠ none → E 2 ≠ none ∧ E 5 ≠ none ∧ E 7 ≠ none ∧ E 8 ≠ none) ∧ Sep B w0 W (mkS ep E ++ (mkW bw (E 2) ++ (mkT tk (E 5) ++ (mkM (E 7) ++ (mkM (E 8) ++ (thB g 26 #[.int .i64 a, .int .i64 b, .int .i64 ch, .int .i64 (bw : Nat), .int .i64 (tk : Nat), .int .i64 di] :: ts))))))) := ⟨_, fun _ _ => Iff.rfl⟩
 have hI0 : I (fun _ => none) w2.drew := (hI _ _).2 ⟨fun e => absurd rfl e, h3.drew⟩
 haveI : Nonempty (InvW I) := ⟨⟨_, _, hI0⟩⟩
 have e1 : ∀ x : InvW I, x.W.cell? ⟨g, 3, none⟩ = some (.int .i64 (bw : Nat)) := fun x => (Sep.get (t := thB g 26 #[.int .i64 a, .int .i64 b, .int .i64 ch, .int .i64 (bw : Nat), .int .i64 (tk : Nat), .int .i64 di]) ((hI _ _).1 x.h).2 (by simp) : Blk _ g _ _).cell 3
 have e2 : ∀ x : InvW I, x.W.cell? ⟨g, 4, none⟩ = some (.int .i64 (tk : Nat)) := fun x => (Sep.get (t := thB g 26 #[.int .i64 a, .int .i64 b, .int .i64 ch, .int .i64 (bw : Nat), .int .i64 (tk : Nat), .int .i64 di]) ((hI _ _).1 x.h).2 (by simp) : Blk _ g _ _).cell 4
 have HI := Lib.hid hI
 clear hI h3
 refine wp_region_inv I [[], [], [], [], [], [], [], [], [], [], [2, 5, 7, 8]] [2, 5, 7, 8, 10] (fun k v => if k = 2 ∨ k = 5 ∨ k = 10 then ∃ n, v = .pointer (some ⟨n, 0, none⟩) else ∃ n, v = .map (some n)) hmx (by kernel_rfl) hI0 ?_
 iterate 2 (refine walkJ_one rfl (by kernel_rfl) ?_; go_big_quiet_step (fail); refine wpQuiet_nil ?_)
 refine walkJ_turn rfl rfl ⟨_, 0, rfl⟩ (fun s W1 hs h7 _ => ?_) ?_
 ·obtain ⟨ho, h⟩ := (HI.out _ _).1 hs
  have h10 : s 10 = none := Classical.byContradiction fun e => (ho e).1 h7
  unfold mkS at h
  rw [h10, h7] at h
  refine inv_call (by simp [execOp, go_sem]) ((HN1.out W1).mono ?_)
  rintro e w1 ⟨rfl, hw, hb⟩
  refine ⟨_, rfl, ⟨_, rfl⟩, (HI.out _ _).2 ⟨fun e => absurd h10 (by rw [recSet_ne (by decide)] at e; exact e), ?_⟩⟩
  unfold mkS
  rw [recSet_ne (by decide), recSet_same, recSet_ne (by decide), recSet_ne (by decide), recSet_ne (by decide), h10]
  exact h.cons (t := thW (fun k => k = W1.heap.size) W1.heap.size (bw : Int) []) hb hw (fun k hk => Nat.le_of_eq hk.symm)
 rintro v ⟨gw, rfl⟩
 conv => arg 11; simp [Act.put]
 iterate 2 (refine walkJ_one rfl (by kernel_rfl) ?_; go_big_quiet_step (fail); refine wpQuiet_nil ?_)
 refine walkJ_turn rfl rfl ⟨_, 0, rfl⟩ (fun s W1 hs h7 _ => ?_) ?_
 ·obtain ⟨ho, h⟩ := (HI.out _ _).1 hs
  have h10 : s 10 = none := Classical.byContradiction fun e => (ho e).2.1 h7
  unfold mkS at h
  rw [h10, h7] at h
  refine inv_call (by simp [execOp, go_sem]) ((HN2.out W1).mono ?_)
  rintro e w1 ⟨q, rfl, hq, hw⟩
  subst hq hw
  refine ⟨_, rfl, ⟨_, rfl⟩, (HI.out _ _).2 ⟨fun e => absurd h10 (by rw [recSet_ne (by decide)] at e; exact e), ?_⟩⟩
  unfold mkS
  rw [recSet_ne (by decide), recSet_ne (by decide), recSet_same, recSet_ne (by decide), recSet_ne (by decide), h10]
  have k1 := h.cons (t := thMu alV W1.heap.size []) (below_alloc W1 (.map #[] 0)) (Mu.made W1) (fun k hk => Nat.le_of_eq hk.symm)
  have k2 := k1.box #[.int .u64 (tk : Nat), .map (some W1.heap.size)] 135
  rw [World.size_alloc] at k2
  exact k2.permB (permM [_, _] (mkW bw (s 2)) _)
 rintro v ⟨gt, rfl⟩
 conv => arg 11; simp [Act.put]
 iterate 1 (refine walkJ_one rfl (by kernel_rfl) ?_; go_big_quiet_step (fail); refine wpQuiet_nil ?_)
 refine walkJ_turn rfl rfl ⟨_, 0, rfl⟩ (fun s W1 hs h7 _ => ?_) ?_
 ·obtain ⟨ho, h⟩ := (HI.out _ _).1 hs
  have h10 : s 10 = none := Classical.byContradiction fun e => (ho e).2.2.1 h7
  unfold mkS at h
  rw [h10, h7] at h
  refine inv_val (v := .map (some W1.heap.size)) (W' := W1.alloc (.map #[] 0)) (by simp [execOp, go_sem, hmm]) ⟨⟨_, rfl⟩, (HI.out _ _).2 ⟨fun e => absurd h10 (by rw [recSet_ne (by decide)] at e; exact e), ?_⟩⟩
  unfold mkS
  rw [recSet_ne (by decide), recSet_ne (by decide), recSet_ne (by decide), recSet_same, recSet_ne (by decide), h10]
  have k1 := h.cons (t := thMu plE W1.heap.size ([] : List (Nat × Pl))) (below_alloc W1 (.map #[] 0)) (Mu.made W1) (fun k hk => Nat.le_of_eq hk.symm)
  refine k1.permB ?_
  have hp := permM [thMu plE W1.heap.size ([] : List (Nat × Pl))] (mkW bw (s 2) ++ mkT tk (s 5)) (mkM (s 8) ++ (thB g 26 #[.int .i64 a, .int .i64 b, .int .i64 ch, .int .i64 (bw : Nat), .int .i64 (tk : Nat), .int .i64 di] :: ts))
  simp only [List.append_assoc] at hp
  exact hp
 rintro v ⟨bc, rfl⟩
 conv => arg 11; simp [Act.put]
 refine walkJ_turn rfl rfl ⟨_, 0, rfl⟩ (fun s W1 hs h7 _ => ?_) ?_
 ·obtain ⟨ho, h⟩ := (HI.out _ _).1 hs
  have h10 : s 10 = none := Classical.byContradiction fun e => (ho e).2.2.2 h7
  unfold mkS at h
  rw [h10, h7] at h
  refine inv_val (v := .map (some W1.heap.size)) (W' := W1.alloc (.map #[] 0)) (by simp [execOp, go_sem, hmm]) ⟨⟨_, rfl⟩, (HI.out _ _).2 ⟨fun e => absurd h10 (by rw [recSet_ne (by decide)] at e; exact e), ?_⟩⟩
  unfold mkS
  rw [recSet_ne (by decide), recSet_ne (by decide), recSet_ne (by decide), recSet_ne (by decide), recSet_same, h10]
  have k1 := h.cons (t := thMu plE W1.heap.size ([] : List (Nat × Pl))) (below_alloc W1 (.map #[] 0)) (Mu.made W1) (fun k hk => Nat.le_of_eq hk.symm)
  refine k1.permB ?_
  have hp := permM [thMu plE W1.heap.size ([] : List (Nat × Pl))] (mkW bw (s 2) ++ (mkT tk (s 5) ++ mkM (s 7))) (thB g 26 #[.int .i64 a, .int .i64 b, .int .i64 ch, .int .i64 (bw : Nat), .int .i64 (tk : Nat), .int .i64 di] :: ts)
  simp only [List.append_assoc] at hp
  exact hp
 rintro v ⟨bs, rfl⟩
 conv => arg 11; simp [Act.put]
 iterate 1 (refine walkJ_one rfl (by kernel_rfl) ?_; go_big_quiet_step (fail); refine wpQuiet_nil ?_)
 refine walkJ_turn rfl rfl ⟨_, 0, rfl⟩ (fun s W1 hs h7 hch => ?_) ?_
 ·obtain ⟨ho, h⟩ := (HI.out _ _).1 hs
  have c2 : s 2 = some (.pointer (some ⟨gw, 0, none⟩)) := (hch 2 (by decide)).trans rfl
  have c5 : s 5 = some (.pointer (some ⟨gt, 0, none⟩)) := (hch 5 (by decide)).trans rfl
  have c7 : s 7 = some (.map (some bc)) := (hch 7 (by decide)).trans rfl
  have c8 : s 8 = some (.map (some bs)) := (hch 8 (by decide)).trans rfl
  unfold mkS at h
  rw [h7, c2, c5, c7, c8] at h
  refine inv_val (v := .pointer (some ⟨W1.heap.size, 0, none⟩)) (W' := W1.alloc (.cells #[.pointer (some ⟨gw, 0, none⟩), .pointer (some ⟨gt, 0, none⟩), .int .u32 (ep : Nat), .int .u64 0, .map (some bc), .map (some bs)] 85)) (by simp [execOp, go_sem]) ⟨⟨_, rfl⟩, (HI.out _ _).2 ⟨fun _ => ?_, ?_⟩⟩
  ·rw [recSet_ne (by decide), recSet_ne (by decide), recSet_ne (by decide), recSet_ne (by decide), c2, c5, c7, c8]
   exact ⟨Option.some_ne_none _, Option.some_ne_none _, Option.some_ne_none _, Option.some_ne_none _⟩
  ·unfold mkS
   rw [recSet_same, recSet_ne (by decide), recSet_ne (by decide), recSet_ne (by decide), recSet_ne (by decide), c2, c5, c7, c8]
   exact h.box #[.pointer (some ⟨gw, 0, none⟩), .pointer (some ⟨gt, 0, none⟩), .int .u32 (ep : Nat), .int .u64 0, .map (some bc), .map (some bs)] 85
 rintro v ⟨q, rfl⟩
 conv => arg 11; simp [Act.put]
 iterate 1 (refine walkJ_one rfl (by kernel_rfl) ?_; go_big_quiet_step (fail); refine wpQuiet_nil ?_)
 refine walkJ_end ?_
 intro W' hW'
 have h9 : Sep B w0 W' (thB q 85 #[.pointer (some ⟨gw, 0, none⟩), .pointer (some ⟨gt, 0, none⟩), .int .u32 (ep : Nat), .int .u64 0, .map (some bc), .map (some bs)] :: thW (fun k => k = gw) gw (bw : Int) [] :: thB gt 135 #[.int .u64 (tk : Nat), .map (some (gt - 1))] :: thMu alV (gt - 1) [] :: thMu plE bc [] :: thMu plE bs [] :: thB g 26 #[.int .i64 a, .int .i64 b, .int .i64 ch, .int .i64 (bw : Nat), .int .i64 (tk : Nat), .int .i64 di] :: ts) := ((HI.out _ _).1 hW').2
 have H9 := Lib.hid h9
 clear e1 e2 hW' h9
 go_wp2_with fail
 go_ret
 refine ⟨⟨q, gw, gt, bc, bs⟩, rfl, fun k => k = gw, gt - 1, ?_⟩
 refine (H9.out.sub (us := thB q 85 #[.pointer (some ⟨gw, 0, none⟩), .pointer (some ⟨gt, 0, none⟩), .int .u32 (ep : Nat), .int .u64 0, .map (some bc), .map (some bs)] :: thW (fun k => k = gw) gw (bw : Int) [] :: thB gt 135 #[.int .u64 (tk : Nat), .map (some (gt - 1))] :: thMu alV (gt - 1) [] :: thMu plE bc [] :: thMu plE bs [] :: ts) ?_).permB ?_
 ·exact ((((((List.sublist_cons_self _ _).cons_cons _).cons_cons _).cons_cons _).cons_cons _).cons_cons _).cons_cons _
 ·exact (((permM [thB gt 135 #[.int .u64 (tk : Nat), .map (some (gt - 1))], thMu alV (gt - 1) []] [thMu plE bc [], thMu plE bs []] ts).cons _).cons _)
end Go.Proofs.YtnjcdihgaidlbaaGreatDoor
set_option linter.unusedSimpArgs false
set_option linter.unusedVariables false
namespace Go.Proofs.YtnjcdihgaidlbaaGreatDoor
theorem pumL_none {D : BD} : ∀ (xs : List Nat) (S : SD), (∀ x ∈ xs, noneB (cutS x (D.at_ x) (S.sent x) 1024) = true) → pumL D xs S = (S, [])
 | [], S, _ => rfl
 | x :: xs, S, h => by
  unfold pumL
  rw [pumX_none x _ _ S (h x List.mem_cons_self), pumL_none xs S (fun y hy => h y (List.mem_cons_of_mem _ hy))]
  rfl
end Go.Proofs.YtnjcdihgaidlbaaGreatDoor
set_option linter.unusedSimpArgs false
set_option linter.unusedVariables false
namespace Go.Proofs.YtnjcdihgaidlbaaGreatDoor
theorem pumL_first {D : BD} (hD : OkD D) : ∀ (xs : List Nat) (S : SD), xs.Pairwise (· ≤ ·) → sumP S.PL < (S.bw : Int) → (∀ x ∈ xs, hasC (D.at_ x) (S.sent x).1 (S.sent x).2.1 (S.sent x).2.2 = true) →
  ((∀ x ∈ xs, S.sent x = endC (D.at_ x)) ∧ pumL D xs S = (S, [])) ∨ ∃ x f l, x ∈ xs ∧ S.sent x ≠ endC (D.at_ x) ∧ (∀ y ∈ xs, S.sent y ≠ endC (D.at_ y) → x ≤ y) ∧ (pumL D xs S).2 = f :: l ∧ f.se = x ∧ (f.fc, f.fb, f.fn) = S.sent x
 | [], S, _, _, _ => .inl ⟨fun x h => (by cases h), rfl⟩
 | x :: xs, S, hp, hr, hh => by
  by_cases he : S.sent x = endC (D.at_ x)
  ·have h0 := pumX_none x (D.at_ x) 1002 S (cut_end he)
   unfold pumL
   rw [h0]
   rcases pumL_first hD xs S hp.tail hr (fun y hy => hh y (List.mem_cons_of_mem _ hy)) with ⟨h1, h2⟩ | ⟨y, f, l, h1, h2, h3, h4, h5⟩
   ·left
    refine ⟨fun y hy => ?_, by rw [h2]; rfl⟩
    rcases List.mem_cons.1 hy with rfl | hy
    ·exact he
    ·exact h1 y hy
   ·right
    refine ⟨y, f, l, List.mem_cons_of_mem _ h1, h2, fun z hz hze => ?_, h4, h5⟩
    rcases List.mem_cons.1 hz with rfl | hz
    ·exact absurd he hze
    ·exact h3 z hz hze
  ·right
   have hc := cut_some hD x (most := 1024) (hh x List.mem_cons_self) he
   unfold pumL
   rw [pumX_some x _ 1001 S hr hc.2]
   refine ⟨x, _, _, List.mem_cons_self, he, fun y hy _ => ?_, rfl, hc.1.se, hc.1.from_⟩
   rcases List.mem_cons.1 hy with rfl | hy
   ·exact Nat.le_refl _
   ·exact List.rel_of_pairwise_cons hp hy
theorem befP_iff (a b : Pl) : befP a b = true ↔ a.1 < b.1 ∨ a.1 = b.1 ∧ a.2.2 < b.2.2 := by
 unfold befP bef
 simp
theorem befP_no {a b : Pl} (h : befP a b = false) : ¬ (a.1 < b.1 ∨ a.1 = b.1 ∧ a.2.2 < b.2.2) := fun e => by rw [(befP_iff a b).2 e] at h; cases h
theorem place_uniq {C : CsT} {p q : Pl} (hp : hasC C p.1 p.2.1 p.2.2 = true) (hq : hasC C q.1 q.2.1 q.2.2 = true) (h1 : p.1 = q.1) (h2 : p.2.2 = q.2.2) : p = q := by
 obtain ⟨L, a1, a2, a3, -⟩ := hasC_true hp
 obtain ⟨M, b1, b2, b3, -⟩ := hasC_true hq
 rw [h1, b1] at a1
 injection a1 with a1
 subst a1
 obtain ⟨p1, p2, p3⟩ := p
 obtain ⟨q1, q2, q3⟩ := q
 dsimp only at *
 subst h1 h2
 rw [a3, b3]
theorem place_eq {C : CsT} {p q : Pl} (hp : hasC C p.1 p.2.1 p.2.2 = true) (hq : hasC C q.1 q.2.1 q.2.2 = true) (h1 : befP p q = false) (h2 : befP q p = false) : p = q := by
 have a := befP_no h1
 have b := befP_no h2
 exact place_uniq hp hq (by omega) (by omega)
theorem end_has {C : CsT} (oc : OkC1 C) : hasC C (endC C).1 (endC C).2.1 (endC C).2.2 = true := by
 have hl : C[C.length - 1]? = some (lastL C) := by
  unfold lastL
  rw [← List.getLast?_eq_getElem?, List.getLast?_eq_some_getLast oc.ne, Option.getD_some]
 show hasC C (C.length - 1) (endN (lastL C) (lastL C).length) (lastL C).length = true
 exact hasC_of (pn := (lastL C).length) hl (Nat.le_refl _) (fun h => by have := List.length_pos_iff.2 oc.ne; omega)
theorem end_last {C : CsT} (oc : OkC1 C) {q : Pl} (hq : hasC C q.1 q.2.1 q.2.2 = true) : befP (endC C) q = false := by
 cases hb : befP (endC C) q with
 | false => rfl
 | true =>
  exfalso
  obtain ⟨L, h1, h2, -, -⟩ := hasC_true hq
  have h3 := (List.getElem?_eq_some_iff.1 h1).1
  have h4 := (befP_iff _ _).1 hb
  unfold endC at h4
  dsimp only at h4
  rcases h4 with h4 | ⟨h4, h5⟩
  ·omega
  ·have h6 : lastL C = L := by unfold lastL; rw [List.getLast?_eq_getElem?, h4, h1]; rfl
   rw [h6] at h5
   omega
structure AgI (D : BD) (S : SD) : Prop where
 run : ∀ p ∈ S.PL, (lookM S.TM p.se).isSome
 off : ∀ x, lookM S.TM x = none → S.sent x = S.come x
 due : ∀ x c, lookM S.TM x = some c → c = (S.tk, 0)
 to_ : ∀ p ∈ S.PL, hasC (D.at_ p.se) p.t0 p.t1 p.t2 = true
 has : ∀ x, hasC (D.at_ x) (S.sent x).1 (S.sent x).2.1 (S.sent x).2.2 = true
 hac : ∀ x, hasC (D.at_ x) (S.come x).1 (S.come x).2.1 (S.come x).2.2 = true
 now : S.now = 0
 tk : S.tk ≤ 1000
theorem alm0 {tk : Nat} (h : tk ≤ 1000) : almD tk 0 0 = (tk, 0) := by
 unfold almD
 rw [Nat.pow_zero, Nat.mul_one, Nat.zero_add, Nat.mod_eq_of_lt (by omega)]
theorem mem_addL {b : Int} {l : List PC} {p q : PC} (h : q ∈ addL b l p) : q ∈ l ∨ q = p := by
 unfold addL at h
 split at h
 ·rcases List.mem_append.1 h with h | h
  ·exact .inl h
  ·exact .inr (List.mem_singleton.1 h)
 ·exact .inl h
theorem look_start (tk : Nat) (M : List (Nat × Nat × Nat)) (x now y : Nat) : lookM (startM tk M x now) y = if y = x then some ((lookM M x).getD (almD tk now 0)) else lookM M y := by
 unfold startM
 by_cases hs : (lookM M x).isSome = true
 ·rw [if_pos hs]
  by_cases hy : y = x
  ·rw [if_pos hy, hy]
   obtain ⟨a, ha⟩ := Option.isSome_iff_exists.1 hs
   rw [ha]; rfl
  ·rw [if_neg hy]
 ·rw [if_neg hs, look_put]
  by_cases hy : y = x
  ·rw [if_pos hy, if_pos hy]
   cases hl : lookM M x with
   | none => rfl
   | some a => rw [hl] at hs; exact absurd rfl hs
  ·rw [if_neg hy, if_neg hy]
theorem AgI.step {D : BD} (hD : OkD D) {S : SD} (h : AgI D S) {x : Nat} (h2 : noneB (cutS x (D.at_ x) (S.sent x) 1024) = false) : AgI D (stepS x (D.at_ x) S) := by
 have hc := cut_of hD h2
 have hlk : ∀ y, lookM (stepS x (D.at_ x) S).TM y = if y = x then some ((lookM S.TM x).getD (almD S.tk S.now 0)) else lookM S.TM y := fun y => look_start _ _ _ _ _
 have hst := step_sent x (D.at_ x) S hc.se
 refine ⟨fun p hp => ?_, fun y hy => ?_, fun y c hy => ?_, fun p hp => ?_, fun y => ?_, h.hac, h.now, h.tk⟩
 ·rw [hlk]
  by_cases e : p.se = x
  ·rw [if_pos e]; rfl
  ·rw [if_neg e]
   rcases mem_addL hp with hp | hp
   ·exact h.run p hp
   ·rw [hp] at e
    exact absurd hc.se e
 ·rw [hlk] at hy
  by_cases e : y = x
  ·rw [if_pos e] at hy; cases hy
  ·rw [if_neg e] at hy
   rw [hst, if_neg e]
   exact h.off y hy
 ·rw [hlk] at hy
  by_cases e : y = x
  ·rw [if_pos e] at hy
   injection hy with hy
   rw [← hy]
   cases hl : lookM S.TM x with
   | none => show almD S.tk S.now 0 = (S.tk, 0); rw [h.now, alm0 h.tk]
   | some c => exact h.due x c hl
  ·rw [if_neg e] at hy
   exact h.due y c hy
 ·rcases mem_addL hp with hp | hp
  ·exact h.to_ p hp
  ·rw [hp]
   show hasC (D.at_ (cutS x (D.at_ x) (S.sent x) 1024).1.se) _ _ _ = true
   rw [hc.se]
   exact hc.to_
 ·rw [hst]
  by_cases e : y = x
  ·rw [if_pos e, e]; exact hc.to_
  ·rw [if_neg e]; exact h.has y
theorem AgI.pumX {D : BD} (hD : OkD D) (x : Nat) : ∀ (n : Nat) {S : SD}, AgI D S → AgI D (pumX x (D.at_ x) n S).1
 | 0, S, h => h
 | n + 1, S, h => by
  by_cases hr : sumP S.PL < (S.bw : Int)
  ·cases h2 : noneB (cutS x (D.at_ x) (S.sent x) 1024) with
   | true => rw [pumX_none x _ _ S h2]; exact h
   | false => rw [pumX_some x _ n S hr h2]; exact AgI.pumX hD x n (h.step hD h2)
  ·rw [pumX_full x _ _ S hr]; exact h
theorem AgI.pumL {D : BD} (hD : OkD D) : ∀ (xs : List Nat) {S : SD}, AgI D S → AgI D (pumL D xs S).1
 | [], S, h => h
 | x :: xs, S, h => AgI.pumL hD xs (AgI.pumX hD x 1002 h)
theorem AgI.pump {D : BD} (hD : OkD D) {S : SD} (h : AgI D S) : AgI D (pumpD D S).1 := AgI.pumL hD _ h
theorem come_acked (S : SD) (x : Nat) (p : Pl) (y : Nat) : (comeD S x p).come y = if y = x then p else S.come y := place_set _ _ _ _
theorem sent_acked (S : SD) (x : Nat) (p : Pl) (y : Nat) : (comeD S x p).sent y = if y = x ∧ befP (S.sent x) p = true then p else S.sent y := by
 unfold SD.sent comeD
 dsimp only
 cases hb : befP (placeM S.SM x) p with
 | true =>
  rw [show befP (S.sent x) p = true from hb, if_pos rfl, place_set]
  by_cases e : y = x
  ·rw [if_pos e, if_pos ⟨e, rfl⟩]
  ·rw [if_neg e, if_neg (fun h => e h.1)]
 | false =>
  rw [show befP (S.sent x) p = false from hb, if_neg (by decide), if_neg (fun h => by cases h.2)]
theorem accept_ack (D : BD) (S : SD) (x : Nat) (p : Pl) : acceptD D S x p false = if movD S x p = false then comeD S x p else if p = endC (D.at_ x) then stopD (comeD S x p) x else againD (comeD S x p) x := by
 unfold acceptD
 cases movD S x p <;> rfl
theorem AgI.acked {D : BD} (hD : OkD D) {S : SD} (h : AgI D S) {x : Nat} {p : Pl} (hp : hasC (D.at_ x) p.1 p.2.1 p.2.2 = true) (hb : befP p (S.come x) = false) : AgI D (acceptD D S x p false) := by
 have hco := come_acked S x p
 have hse := sent_acked S x p
 have hsub : ∀ q, q ∈ (comeD S x p).PL → q ∈ S.PL := fun q hq => (List.mem_filter.1 hq).1
 have hhas : ∀ y, hasC (D.at_ y) ((comeD S x p).sent y).1 ((comeD S x p).sent y).2.1 ((comeD S x p).sent y).2.2 = true := fun y => by
  rw [hse]
  by_cases e : y = x ∧ befP (S.sent x) p = true
  ·rw [if_pos e, e.1]; exact hp
  ·rw [if_neg e]; exact h.has y
 have hhac : ∀ y, hasC (D.at_ y) ((comeD S x p).come y).1 ((comeD S x p).come y).2.1 ((comeD S x p).come y).2.2 = true := fun y => by
  rw [hco]
  by_cases e : y = x
  ·rw [if_pos e, e]; exact hp
  ·rw [if_neg e]; exact h.hac y
 have hoff : ∀ y, y ≠ x → lookM S.TM y = none → (comeD S x p).sent y = (comeD S x p).come y := fun y e hy => by
  rw [hse, hco, if_neg (fun k => e k.1), if_neg e]; exact h.off y hy
 rw [accept_ack]
 cases hm : movD S x p with
 | false =>
  rw [if_pos rfl]
  have e : p = S.come x := place_eq hp (h.hac x) hb hm
  refine ⟨fun q hq => h.run q (hsub q hq), fun y hy => ?_, h.due, fun q hq => h.to_ q (hsub q hq), hhas, hhac, h.now, h.tk⟩
  by_cases ey : y = x
  ·subst ey
   rw [hse, hco, if_pos rfl]
   by_cases eb : befP (S.sent y) p = true
   ·rw [if_pos ⟨rfl, eb⟩]
   ·rw [if_neg (fun k => eb k.2), h.off y hy, ← e]
  ·exact hoff y ey hy
 | true =>
  rw [if_neg (by decide)]
  by_cases he : p = endC (D.at_ x)
  ·rw [if_pos he]
   refine ⟨fun q hq => ?_, fun y hy => ?_, fun y c hy => ?_, fun q hq => h.to_ q (hsub q hq), hhas, hhac, h.now, h.tk⟩
   ·have hq2 := List.mem_filter.1 hq
    show (lookM (delM S.TM x) q.se).isSome
    rw [look_del]
    by_cases eq : q.se = x
    ·exfalso
     have h1 := h.to_ q hq2.1
     rw [eq] at h1
     have h2 := end_last (hD.at_ x) (q := (q.t0, q.t1, q.t2)) h1
     have h3 := hq2.2
     unfold goneA at h3
     rw [he] at h3
     unfold befP at h2
     dsimp only at h2
     rw [h2, decide_eq_true eq] at h3
     cases h3
    ·rw [if_neg eq]; exact h.run q hq2.1
   ·have hy2 : lookM (delM S.TM x) y = none := hy
    rw [look_del] at hy2
    show (comeD S x p).sent y = (comeD S x p).come y
    by_cases ey : y = x
    ·subst ey
     rw [hse, hco, if_pos rfl]
     cases eb : befP (S.sent y) p with
     | true => rw [if_pos ⟨rfl, rfl⟩]
     | false =>
      rw [if_neg (fun k => by cases k.2)]
      refine place_eq (h.has y) hp eb ?_
      rw [he]
      exact end_last (hD.at_ y) (h.has y)
    ·rw [if_neg ey] at hy2
     exact hoff y ey hy2
   ·have hy2 : lookM (delM S.TM x) y = some c := hy
    rw [look_del] at hy2
    by_cases ey : y = x
    ·rw [if_pos ey] at hy2; cases hy2
    ·rw [if_neg ey] at hy2; exact h.due y c hy2
  ·rw [if_neg he]
   refine ⟨fun q hq => ?_, fun y hy => ?_, fun y c hy => ?_, fun q hq => h.to_ q (hsub q hq), hhas, hhac, h.now, h.tk⟩
   ·show (lookM (putM S.TM x (almD S.tk S.now 0)) q.se).isSome
    rw [look_put]
    by_cases eq : q.se = x
    ·rw [if_pos eq]; rfl
    ·rw [if_neg eq]; exact h.run q (hsub q hq)
   ·have hy2 : lookM (putM S.TM x (almD S.tk S.now 0)) y = none := hy
    rw [look_put] at hy2
    show (comeD S x p).sent y = (comeD S x p).come y
    by_cases ey : y = x
    ·rw [if_pos ey] at hy2; cases hy2
    ·rw [if_neg ey] at hy2; exact hoff y ey hy2
   ·have hy2 : lookM (putM S.TM x (almD S.tk S.now 0)) y = some c := hy
    rw [look_put] at hy2
    by_cases ey : y = x
    ·rw [if_pos ey] at hy2
     injection hy2 with hy2
     rw [← hy2, h.now]
     exact alm0 h.tk
    ·rw [if_neg ey] at hy2; exact h.due y c hy2
theorem fired_come (D : BD) (S : SD) (x y : Nat) : (firedD D S x).come y = S.come y := by unfold firedD; split <;> rfl
theorem fired_sent (D : BD) (S : SD) (x y : Nat) : (firedD D S x).sent y = if y = x then S.come x else S.sent y := by
 have h : (resetD S x).sent y = if y = x then S.come x else S.sent y := place_set _ _ _ _
 unfold firedD
 split <;> exact h
theorem fired_pl (D : BD) (S : SD) (x : Nat) : (firedD D S x).PL = S.PL.filter fun p => !goneD x p := by unfold firedD; split <;> rfl
theorem fired_bw (D : BD) (S : SD) (x : Nat) : (firedD D S x).bw = S.bw := by unfold firedD; split <;> rfl
structure FirI (l : List Nat) (S T : SD) : Prop where
 come : ∀ y, T.come y = S.come y
 sent : ∀ y, T.sent y = if y ∈ l then S.come y else S.sent y
 pl : ∀ p ∈ T.PL, p ∈ S.PL ∧ p.se ∉ l
 bw : T.bw = S.bw
theorem firedL_is (D : BD) : ∀ (l : List Nat) (S : SD), FirI l S (firedL D l S)
 | [], S => ⟨fun _ => rfl, fun y => by rw [if_neg (by simp)]; rfl, fun p hp => ⟨hp, by simp⟩, rfl⟩
 | x :: l, S => by
  have h := firedL_is D l (firedD D S x)
  refine ⟨fun y => (h.come y).trans (fired_come D S x y), fun y => ?_, fun p hp => ?_, h.bw.trans (fired_bw D S x)⟩
  ·show (firedL D l (firedD D S x)).sent y = _
   rw [h.sent, fired_come, fired_sent]
   by_cases h1 : y ∈ l
   ·rw [if_pos h1, if_pos (List.mem_cons_of_mem _ h1)]
   ·rw [if_neg h1]
    by_cases h2 : y = x
    ·rw [if_pos h2, if_pos (by rw [h2]; exact List.mem_cons_self), h2]
    ·rw [if_neg h2, if_neg (by rw [List.mem_cons, not_or]; exact ⟨h2, h1⟩)]
  ·have h1 := h.pl p hp
   rw [fired_pl] at h1
   have h2 := List.mem_filter.1 h1.1
   refine ⟨h2.1, ?_⟩
   rw [List.mem_cons, not_or]
   refine ⟨fun e => ?_, h1.2⟩
   have h3 := h2.2
   unfold goneD at h3
   rw [decide_eq_true e] at h3
   cases h3
theorem fired_all {D : BD} {S T : SD} {l : List Nat} (h : AgI D S) (hl : ∀ x, (lookM S.TM x).isSome → x ∈ l) (hP : T.PL = S.PL) (hC : T.CM = S.CM) (hS : T.SM = S.SM) :
  (firedL D l T).PL = [] ∧ ∀ y, (firedL D l T).sent y = S.come y ∧ (firedL D l T).come y = S.come y := by
 have hf := firedL_is D l T
 have hc : ∀ y, T.come y = S.come y := fun y => by unfold SD.come; rw [hC]
 have hs : ∀ y, T.sent y = S.sent y := fun y => by unfold SD.sent; rw [hS]
 refine ⟨List.eq_nil_iff_forall_not_mem.2 fun p hp => ?_, fun y => ⟨?_, (hf.come y).trans (hc y)⟩⟩
 ·have h1 := hf.pl p hp
  rw [hP] at h1
  exact h1.2 (hl _ (h.run p h1.1))
 ·rw [hf.sent]
  by_cases hy : y ∈ l
  ·rw [if_pos hy, hc]
  ·rw [if_neg hy, hs]
   refine h.off y ?_
   cases e : lookM S.TM y with
   | none => rfl
   | some c => exact absurd (hl y (by rw [e]; rfl)) hy
end Go.Proofs.YtnjcdihgaidlbaaGreatDoor
set_option linter.unusedSimpArgs false
set_option linter.unusedVariables false
namespace Go.Proofs.YtnjcdihgaidlbaaGreatDoor
open Go.RowKit
set_option maxRecDepth 100000
def kJ : BD := ⟨2, 4, [(5, [[(10, 1)]])]⟩
def kJ0 : SD := newS 500 10 3
def kJC : CsT := [[(10, 1)]]
theorem kJ_at : kJ.at_ 5 = kJC := rfl
theorem kJ_ks : ksD kJ = [5] := (ksD_of (xs := [5]) (List.Perm.refl _) (List.pairwise_singleton _ _)).symm
theorem kJ_put : mayD ⟨2, 4, []⟩ 5 10 = 0 ∧ putD ⟨2, 4, []⟩ 5 (10, 1) = kJ := ⟨by kernel_rfl, by kernel_rfl⟩
theorem kJ_end : endC kJC = (0, 128, 1) := by kernel_rfl
theorem kJ_cut : noneB (cutS 5 kJC (0, 0, 0) 1024) = false ∧ (cutS 5 kJC (0, 0, 0) 1024).1.n = 128 ∧ (cutS 5 kJC (0, 0, 0) 1024).2.1 = (0, 128, 1) ∧ (cutS 5 kJC (0, 0, 0) 1024).1.se = 5 := ⟨by kernel_rfl, by kernel_rfl, by kernel_rfl, by kernel_rfl⟩
theorem kJ_has : hasC kJC 0 128 1 = true ∧ hasC kJC 0 0 0 = true := ⟨by kernel_rfl, by kernel_rfl⟩
theorem kJ_beh : behC kJC 0 128 = 0 := by kernel_rfl
theorem kJ_pump {S : SD} (h1 : sumP S.PL < (S.bw : Int)) (h2 : S.sent 5 = (0, 0, 0)) : pumpD kJ S = (stepS 5 kJC S, [asF 2 S (cutS 5 kJC (0, 0, 0) 1024).1]) := by
 have hs := step_sent 5 kJC S (by rw [h2]; exact kJ_cut.2.2.2) 5
 rw [if_pos rfl, h2] at hs
 unfold nextP at hs
 rw [kJ_cut.2.2.1] at hs
 have h4 : pumX 5 kJC 1002 S = (stepS 5 kJC S, [asF 2 S (cutS 5 kJC (0, 0, 0) 1024).1]) := by
  rw [pumX_some 5 kJC 1001 S h1 (by rw [h2]; exact kJ_cut.1), pumX_none 5 kJC 1001 (stepS 5 kJC S) (cut_end (by rw [hs, kJ_end])), h2]
 unfold pumpD
 rw [kJ_ks]
 show ((pumL kJ [] (pumX 5 (kJ.at_ 5) 1002 S).1).1, (pumX 5 (kJ.at_ 5) 1002 S).2 ++ (pumL kJ [] (pumX 5 (kJ.at_ 5) 1002 S).1).2) = _
 rw [kJ_at, h4]
 rfl
theorem kJ_idle {S : SD} (h2 : S.sent 5 = (0, 128, 1)) : pumpD kJ S = (S, []) := by
 unfold pumpD
 rw [kJ_ks]
 exact pumL_none [5] S (fun x hx => by
  rw [List.mem_singleton] at hx
  subst hx
  exact cut_end (by rw [h2, kJ_at, kJ_end]))
theorem kJ_sent {S : SD} (h2 : S.sent 5 = (0, 0, 0)) : (stepS 5 kJC S).sent 5 = (0, 128, 1) := by
 have hs := step_sent 5 kJC S (by rw [h2]; exact kJ_cut.2.2.2) 5
 rw [if_pos rfl, h2] at hs
 unfold nextP at hs
 rw [kJ_cut.2.2.1] at hs
 exact hs
def kJ1 : SD := stepS 5 kJC kJ0
theorem kJ1_is : pumpD kJ kJ0 = (kJ1, [asF 2 kJ0 (cutS 5 kJC (0, 0, 0) 1024).1]) ∧ kJ1.sent 5 = (0, 128, 1) ∧ kJ1.come 5 = (0, 0, 0) ∧ kJ1.TM = [(5, 10, 0)] ∧ kJ1.ep = 3 ∧ kJ1.now = 0 ∧ kJ1.tk = 10 ∧ kJ1.CM = [] :=
 ⟨kJ_pump (by decide) rfl, kJ_sent rfl, rfl, by kernel_rfl, rfl, rfl, rfl, rfl⟩
theorem kJ1_due {l : List Nat} {M : List (Nat × Nat × Nat)} (h : DueI kJ1 10 l M) : l = [5] := by
 have hm : ∀ k, k ∈ l ↔ k = 5 := fun k => by
  rw [h.out.2 k, kJ1_is.2.2.2.1, lookM_cons, lookM_nil]
  by_cases e : (5 : Nat) = k
  ·rw [if_pos e]
   exact ⟨fun _ => e.symm, fun _ => ⟨_, rfl, by decide⟩⟩
  ·rw [if_neg e]
   exact ⟨fun ⟨c, h1, _⟩ => (by cases h1), fun h1 => absurd h1.symm e⟩
 have hp := h.out.1
 cases l with
 | nil => exact absurd ((hm 5).2 rfl) (by simp)
 | cons a l =>
  have ha : a = 5 := (hm a).1 List.mem_cons_self
  subst ha
  cases l with
  | nil => rfl
  | cons b l =>
   have hb : b = 5 := (hm b).1 (by simp)
   have := List.rel_of_pairwise_cons hp (List.mem_cons_self (a := b) (l := l))
   omega
structure KnI (S : SD) : Prop where
 bw : S.bw = 500
 ep : S.ep = 3
 sent : S.sent 5 = (0, 128, 1)
 come : S.come 5 = (0, 0, 0)
 pl : ∀ p ∈ S.PL, p.se = 5 ∧ (p.t0, p.t1, p.t2) = (0, 128, 1)
theorem kn_tick {M : List (Nat × Nat × Nat)} : (pumpD kJ (firedL kJ [5] { kJ1 with now := 10, TM := M })).2.length = 1 ∧ KnI (pumpD kJ (firedL kJ [5] { kJ1 with now := 10, TM := M })).1 := by
 have h1 := firedL_is kJ [5] { kJ1 with now := 10, TM := M }
 obtain ⟨T, hT⟩ : ∃ T, T = firedL kJ [5] { kJ1 with now := 10, TM := M } := ⟨_, rfl⟩
 have hep : T.ep = 3 := by
  rw [hT]
  show (firedD kJ { kJ1 with now := 10, TM := M } 5).ep = 3
  unfold firedD
  split <;> rfl
 rw [← hT] at h1 ⊢
 have hse : T.sent 5 = (0, 0, 0) := by rw [h1.sent, if_pos (by simp)]; rfl
 have hpl : T.PL = [] := List.eq_nil_iff_forall_not_mem.2 fun p hp => by
  have h2 := h1.pl p hp
  refine h2.2 (List.mem_singleton.2 ?_)
  have h3 : p ∈ addL (500 : Int) [] (pcF (asF 2 kJ0 (cutS 5 kJC (kJ0.sent 5) 1024).1) (cutS 5 kJC (kJ0.sent 5) 1024).2.1) := h2.1
  rcases mem_addL h3 with h3 | h3
  ·cases h3
  ·rw [h3]; exact kJ_cut.2.2.2
 have hbw : T.bw = 500 := h1.bw
 have hp := kJ_pump (S := T) (by rw [hpl, hbw]; decide) hse
 rw [hp]
 refine ⟨rfl, hbw, hep, kJ_sent hse, (h1.come 5).trans rfl, fun p hq => ?_⟩
 have h3 : p ∈ addL (T.bw : Int) T.PL (pcF (asF 2 T (cutS 5 kJC (T.sent 5) 1024).1) (cutS 5 kJC (T.sent 5) 1024).2.1) := hq
 rcases mem_addL h3 with h3 | h3
 ·rw [hpl] at h3; cases h3
 ·rw [h3, hse]
  refine ⟨kJ_cut.2.2.2, ?_⟩
  have := kJ_cut.2.2.1
  show ((cutS 5 kJC (0, 0, 0) 1024).2.1.1, (cutS 5 kJC (0, 0, 0) 1024).2.1.2.1, (cutS 5 kJC (0, 0, 0) 1024).2.1.2.2) = _
  rw [this]
def kJF (l : List UInt8) : FrD := ⟨4, 3, 5, 0, 128, 1, 0, false, sumC kJC 0 128, l, 0⟩
theorem kn_take {S : SD} (h : KnI S) : ∃ T, takD kJ S (kJF []) = (T, [], true, 0) ∧ sumP T.PL = 0 ∧ T.ep = 3 ∧ backL kJ T (ksD kJ) = 0 := by
 have hac : acceptD kJ S 5 (0, 128, 1) false = stopD (comeD S 5 (0, 128, 1)) 5 := by
  rw [accept_ack]
  have : movD S 5 (0, 128, 1) = true := by unfold movD; rw [h.come]; rfl
  rw [this, if_neg (by decide), if_pos (by rw [kJ_at, kJ_end])]
 have hse : (stopD (comeD S 5 (0, 128, 1)) 5).sent 5 = (0, 128, 1) := by
  show (comeD S 5 (0, 128, 1)).sent 5 = _
  rw [sent_acked, h.sent]
  split <;> rfl
 have hco : (stopD (comeD S 5 (0, 128, 1)) 5).come 5 = (0, 128, 1) := by
  show (comeD S 5 (0, 128, 1)).come 5 = _
  rw [come_acked, if_pos rfl]
 have hpl : (stopD (comeD S 5 (0, 128, 1)) 5).PL = [] := by
  show S.PL.filter _ = []
  rw [List.filter_eq_nil_iff]
  intro p hp
  have h2 := h.pl p hp
  have h3 := h2.2
  simp only [Prod.mk.injEq] at h3
  unfold goneA bef
  rw [h2.1, h3.1, h3.2.2]
  decide
 refine ⟨stopD (comeD S 5 (0, 128, 1)) 5, ?_, by rw [hpl]; rfl, h.ep, ?_⟩
 ·unfold takD
  rw [if_neg (by rintro (e | e); cases e; exact e h.ep.symm)]
  show (if hasC (kJ.at_ 5) 0 128 1 = false then _ else _) = _
  rw [kJ_at, kJ_has.1, if_neg (by decide)]
  show (if befP (0, 128, 1) (S.come 5) = true then _ else if sumC (kJ.at_ 5) 0 128 ≠ sumC kJC 0 128 then _ else ((pumpD kJ (acceptD kJ S 5 (0, 128, 1) false)).1, (pumpD kJ (acceptD kJ S 5 (0, 128, 1) false)).2, movD S 5 (0, 128, 1), 0)) = _
  rw [h.come, if_neg (by decide), kJ_at, if_neg (fun e => e rfl), hac, kJ_idle hse]
  unfold movD
  rw [h.come]
  rfl
 ·rw [kJ_ks]
  show backX kJ _ 5 + 0 = 0
  unfold backX
  rw [hco, kJ_at, kJ_has.1, if_pos rfl, kJ_beh]
  rfl
end Go.Proofs.YtnjcdihgaidlbaaGreatDoor
set_option linter.unusedSimpArgs false
set_option linter.unusedVariables false
namespace Go.Proofs.YtnjcdihgaidlbaaGreatDoor
open Go.RowKit
set_option maxRecDepth 100000
theorem sd_book {B : Nat} {w0 w : World} {X : SL} {S : SD} {ts : List Kt} (h : Sd B w0 w X S ts) (m c : Nat) (h1 : 1 ≤ m) (h2 : m ≤ 64) (h3 : 1 ≤ c) (h4 : c ≤ 24) : Calls Tryz.prog 27 #[.int .i64 (m : Nat), .int .i64 (c : Nat)] w fun e w' => ∃ Y, e = .returned (prB Y) ∧ Y.D = ⟨m, c, []⟩ ∧ OkB Y ∧ Sd B w0 w' X S (thBk Y :: ts) := by
 obtain ⟨F, b, hs⟩ := h
 refine (bNew_sep hs m c h1 h2 h3 h4).mono ?_
 rintro e w' ⟨Y, rfl, k1, k2, k3⟩
 exact ⟨Y, rfl, k1, k2, F, b, k3.permB (front6 (us := [thBk Y]))⟩
theorem sd_put {B : Nat} {w0 w : World} {X : SL} {S : SD} {Y : Bl} {ts : List Kt} (h : Sd B w0 w X S (thBk Y :: ts)) (ok : OkB Y) (hT : Tab w) (x : Nat) (hx : x < 4294967296) (t : Int) (v : Nat) (hz : in64 t ∧ v < 18446744073709551616) (hn : (Y.D.at_ x).flatten.length < 1000) :
  Calls Tryz.prog 28 #[prB Y, .int .u32 (x : Nat), .agg #[.int .i64 t, .int .u64 (v : Nat)]] w fun e w' => e = .returned (.int .u16 (mayD Y.D x t : Nat)) ∧ ∃ Y', prB Y' = prB Y ∧ Y'.D = putD Y.D x (t, v) ∧ OkB Y' ∧ Sd B w0 w' X S (thBk Y' :: ts) := by
 obtain ⟨F, b, hs⟩ := h
 refine (bPut_any (hs.permB (front6 (us := [thBk Y])).symm) ok hT x hx (t, v) hz hn).mono ?_
 rintro e w' ⟨rfl, Y', k1, k2, k3, k4⟩
 exact ⟨rfl, Y', by unfold prB; rw [k1], k2, k3, F, b, k4.permB (front6 (us := [thBk Y']))⟩
theorem okS_new (D : BD) (bw tk ep : Nat) (h1 : 1 ≤ bw) (h2 : bw ≤ 100000) (h3 : tk ≤ 1000) (h4 : ep < 4294967296) : OkSn D (newS bw tk ep) :=
 ⟨h1, h2, fun p h => (by cases h), by show (0 : Int) ≤ 165536; decide, h3, h4, by show (0 : Nat) < _; decide, fun p h => (by cases h), fun p h => (by cases h), fun p h => (by cases h)⟩
theorem sumC_lt (C : CsT) (pc pb : Nat) : sumC C pc pb < 18446744073709551616 := by
 have := moreR_lt 0 ((bitsL ((C[pc]?).getD [])).take pb)
 unfold sumC
 omega
set_option maxHeartbeats 16000000 in
theorem sknown_any (w : World) (hT : Tab w) : Calls Tryz.prog 8 #[] w fun e w' => e = .returned (.bool true) ∧ Below w.heap.size w w' := by
 have hmx : Tryz.prog.follows .mixedOrders = true := by kernel_rfl
 have HT := Lib.hid hT
 have b64 : ∀ t : Int, 0 ≤ t → t < 100 → in64 t := fun t h1 h2 => by unfold in64; omega
 have Hb64 := Lib.hid b64
 clear hT b64
 go_enter Tryz.func8, Tryz.ntmps8
 go_upto_region 2 with fail
 have hS1 := (Sep.nil (Below.refl w.heap.size w) (Nat.le_refl _)).box #[.int .i64 2, .int .i64 9000, .int .i64 4, .int .i64 500, .int .i64 10, .int .i64 0] 26
 generalize hV1 : World.alloc _ _ = V1 at hS1 ⊢
 obtain ⟨g1, hg1⟩ : ∃ g, g = w.heap.size := ⟨_, rfl⟩
 have hS1b := hS1
 rw [← hg1] at hS1b
 rw [← hg1]
 have D1 := cells_say (hS1b.blk 0) _ 0 rfl
 simp only [cellsSay, List.drop_zero, Nat.reduceAdd, and_true] at D1
 have HNew := Lib.hid (new_some ⟨2, 9000, 4, 500, 10, 0⟩ 3 (by decide) 500 10 rfl rfl (by decide) (by decide) hS1.tail)
 clear hV1 hg1 hS1 hS1b
 go_upto_region 3 with (go_at_call 10; refine HNew.out.mono ?_; rintro e w2 ⟨X, rfl, h2⟩)
 have HBk := Lib.hid (sd_book h2 2 4 (by decide) (by decide) (by decide) (by decide))
 clear h2 HNew
 go_upto_region 4 with (go_at_call 27; refine HBk.out.mono ?_; rintro e w3 ⟨Y, rfl, hYD, ok, h3⟩; simp only [prB])
 have hP := sd_put h3 ok (tabGo HT.out h3.b) 5 (by decide) 10 1 ⟨Hb64.out 10 (by decide) (by decide), by decide⟩ (by rw [hYD]; decide)
 rw [hYD, kJ_put.2] at hP
 simp only [prB] at hP
 obtain ⟨q, hq⟩ : ∃ q, q = Y.q := ⟨_, rfl⟩
 rw [← hq] at hP ⊢
 have HP := Lib.hid hP
 clear hP hYD ok h3 hq HBk
 go_upto_region 7 with (go_at_call 28; refine HP.out.mono ?_; rintro e w4 ⟨rfl, Y, hpr, hYD, ok, h4⟩)
 have hDk : OkD kJ := hYD ▸ ok.D
 have hok0 : OkSn kJ kJ0 := okS_new kJ 500 10 3 (by decide) (by decide) (by decide) (by decide)
 have hok1 : OkSn kJ kJ1 := by
  have := OkSn.pump hDk hok0
  rw [kJ1_is.1] at this
  exact this
 have hP1 := pump_any (S := kJ0) h4 ok (by rw [hYD]; exact hok0)
 rw [hYD, kJ1_is.1] at hP1
 simp only [prB] at hP1
 have HP1 := Lib.hid hP1
 have HY := Lib.hid (And.intro hYD (And.intro ok (And.intro hDk hok1)))
 clear hP1 hYD ok h4 hDk hok0 hok1 HP D1
 go_upto_region 8 with (go_at_call 12; refine HP1.out.mono ?_; rintro e w5 ⟨U1, c1, T1, rfl, hT1, h5⟩)
 obtain ⟨y, rfl⟩ : ∃ y, T1 = [y] := List.length_eq_one_iff.1 (by have := congrArg List.length hT1; rw [List.length_map] at this; exact this)
 have hyn : y.f.n = 128 := by
  simp only [List.map_cons, List.map_nil, List.cons.injEq, and_true] at hT1
  rw [hT1]
  exact kJ_cut.2.1
 rw [show [y].length = 1 from rfl] at h5 ⊢
 have hP2 := pump_any h5 HY.out.2.1 (by rw [HY.out.1]; exact HY.out.2.2.2)
 rw [HY.out.1, kJ_idle kJ1_is.2.1] at hP2
 simp only [prB] at hP2
 have HP2 := Lib.hid hP2
 have Hyn := Lib.hid hyn
 clear hP2 hyn hT1 h5 HP1
 go_upto_region 9 with (go_at_call 12; refine HP2.out.mono ?_; rintro e w6 ⟨U2, c2, T2, rfl, hT2, h6⟩)
 obtain rfl : T2 = [] := List.map_eq_nil_iff.1 hT2
 rw [show ([] : List FrE).length = 0 from rfl] at h6 ⊢
 have hTk := tick_any h6 HY.out.2.1 (by rw [HY.out.1]; exact HY.out.2.2.2) 10 (by decide)
 rw [show (kJ1.now + 10) % 18446744073709551616 = 10 by rw [kJ1_is.2.2.2.2.2.1], HY.out.1] at hTk
 simp only [prB] at hTk
 have HTk := Lib.hid hTk
 clear hTk h6 hT2 HP2
 go_upto_region 10 with (go_at_call 24; refine HTk.out.mono ?_; rintro e w7 ⟨l, M, hdu, U3, c3, T3, rfl, hT3, h7⟩)
 obtain rfl := kJ1_due hdu
 have kt := kn_tick (M := M)
 have hl3 : T3.length = 1 := by
  have := congrArg List.length hT3
  rw [List.length_map, kt.1] at this
  exact this
 have hok3 := ((HY.out.2.2.2.due (by rw [kJ1_is.2.2.2.1]; simp) (by decide) hdu).firedL [5]).pump HY.out.2.2.1
 rw [hl3]
 obtain ⟨S3, hS3⟩ : ∃ S, S = (pumpD kJ (firedL kJ [5] { kJ1 with now := 10, TM := M })).1 := ⟨_, rfl⟩
 rw [← hS3] at hok3 h7
 have hkn : KnI S3 := by rw [hS3]; exact kt.2
 have hEn := fun (W : World) (hY : (thBk Y).P W) => bEnd_any (RdK.of hY) HY.out.2.1 5 (by decide)
 have hSu := fun (W : World) (hY : (thBk Y).P W) => bSum_any (RdK.of hY) HY.out.2.1 5 (by decide) 0 128 1 (by decide) (by decide) (by decide)
 rw [HY.out.1, kJ_at, kJ_end] at hEn
 rw [HY.out.1, kJ_at, kJ_has.1] at hSu
 simp only [prB, if_true] at hEn hSu
 obtain ⟨Z, hZ⟩ : ∃ Z, Z = sumC kJC 0 128 := ⟨_, rfl⟩
 rw [← hZ] at hSu
 have HEn := Lib.hid hEn
 have HSu := Lib.hid hSu
 have HZ := Lib.hid hZ
 have H7 := Lib.hid (And.intro h7 (And.intro hok3 hkn))
 clear hEn hSu hZ h7 hok3 hkn hS3 kt hl3 hT3 hdu HTk
 have hY7 : (thBk Y).P w7 := H7.out.1.sep.at_ 0 rfl
 have HE1 := Lib.hid (HEn.out w7 hY7)
 have HS1 := Lib.hid (fun (W : World) (b : Below w7.heap.size w7 W) => HSu.out W ((thBk Y).below hY7 b))
 clear hY7 HSu
 go_upto_region 11 with (first | (go_at_call 18; refine HE1.out.mono ?_; rintro e w8 ⟨rfl, b8⟩; simp only [plV]) | (go_at_call 15; refine (HS1.out _ b8).mono ?_; rintro e w9 ⟨rfl, b9⟩))
 have h9 := (H7.out.1.go b8).go b9
 have hY9 : (thBk Y).P w9 := h9.sep.at_ 0 rfl
 have HE2 := Lib.hid (HEn.out w9 hY9)
 obtain ⟨S4, hS4, hw4, he4, hb4⟩ := kn_take H7.out.2.2
 have hokF : (kJF []).ok := ⟨by decide, by decide, by decide, by decide, by decide, by decide, by decide, sumC_lt _ _ _, by decide, by decide⟩
 have hok4 := H7.out.2.1.tak HY.out.2.2.1 hokF
 rw [hS4] at hok4
 have hTa : ∀ (W : World) (b : Below w9.heap.size w9 W), Calls Tryz.prog 16 #[ptS X, .pointer (some ⟨Y.q, 0, none⟩), .agg #[.int .u8 4, .int .u32 3, .int .u32 5, .int .u32 ((0 : Nat) : Int), .int .u32 ((128 : Nat) : Int), .int .u32 ((1 : Nat) : Int), .int .u32 0, .bool false, .int .u64 (Z : Nat), .slice none 0 0, .int .i64 0]] W (TakO w.heap.size w X Y _ (S4, [], true, 0)) := fun W b => by
  have h := take_any (h9.go b) HY.out.2.1 (by rw [HY.out.1]; exact H7.out.2.1) (kJF []) hokF none 0
  rw [HY.out.1, hS4] at h
  rw [HZ.out]
  exact h
 have HTa := Lib.hid hTa
 have H4 := Lib.hid (And.intro hw4 (And.intro he4 (And.intro hb4 hok4)))
 clear hTa hS4 hY9 h9 b8 b9 HE1 HS1 HEn hokF hok4 hw4 he4 hb4
 go_upto_region 12 with (first | (go_at_call 18; refine HE2.out.mono ?_; rintro e w10 ⟨rfl, b10⟩; simp only [plV]) | (go_at_call 16; refine (HTa.out _ b10).mono ?_; rintro e w11 ⟨U4, c4, T4, rfl, hT4, h11⟩))
 obtain rfl : T4 = [] := List.map_eq_nil_iff.1 hT4
 rw [show ([] : List FrE).length = 0 from rfl] at h11 ⊢
 have hrow : OwnR w11 0 46 encFrE 11 (.slice U1 1 c1) [y] := h11.sep.get (t := thR 46 encFrE 11 (.slice U1 1 c1) [y]) (by simp [chT])
 obtain ⟨gf, hgf, -, hc⟩ := row_at Tryz.eltFrE hrow (show [y][0]? = some y from rfl)
 subst hgf
 have C10 : w11.cell? ⟨gf, 10, none⟩ = some (.int .i64 128) := by
  have := hc 10 _ rfl
  rw [show 0 * 11 + 10 = 10 from rfl, Hyn.out] at this
  exact this
 have hBa := back_any h11 HY.out.2.1 (by rw [HY.out.1]; exact H4.out.2.2.2)
 rw [HY.out.1, H4.out.2.2.1] at hBa
 simp only [prB] at hBa
 have hWy := fun (W : World) (b : Below w11.heap.size w11 W) => way_any (h11.go b)
 have hEp := fun (W : World) (b : Below w11.heap.size w11 W) => epoch_any (h11.go b)
 rw [H4.out.1] at hWy
 rw [H4.out.2.1] at hEp
 have HBa := Lib.hid hBa
 have HWy := Lib.hid hWy
 have HEp := Lib.hid hEp
 have H11 := Lib.hid h11.b
 clear hBa hWy hEp h11 hrow hc hT4 HTa HE2 b10
 go_wp2_with (first
  | (go_at_call 25; refine HBa.out.mono ?_; rintro e w12 ⟨rfl, b12⟩)
  | (go_at_call 23; refine (HWy.out _ b12).mono ?_; rintro e w13 ⟨rfl, rfl⟩)
  | (go_at_call 29; refine (HEp.out _ b12).mono ?_; rintro e w14 ⟨rfl, rfl⟩))
 go_ret
 exact ⟨rfl, H11.out.trans (b12.mono H11.out.size)⟩
end Go.Proofs.YtnjcdihgaidlbaaGreatDoor
set_option linter.unusedSimpArgs false
set_option linter.unusedVariables false
namespace Go.Proofs.YtnjcdihgaidlbaaGreatDoor
open Go.RowKit
set_option maxRecDepth 100000
def cfS (wi ti si : Nat) : Cf := ⟨64, 1048576, ((1 + si % 24 : Nat) : Int), ((1 + wi % 3000 : Nat) : Int), ((1 + ti % 1000 : Nat) : Int), 1048576⟩
theorem cfS_right (wi ti si : Nat) : rightB (cfS wi ti si) = true := by
 unfold rightB inI cfS
 simp only [Bool.and_eq_true, decide_eq_true_eq]
 omega
theorem cfS_any (wi ti si : Nat) (h1 : wi < 65536) (h2 : ti < 65536) (h3 : si < 256) (w : World) : Calls Tryz.prog 9 #[.int .u16 (wi : Nat), .int .u16 (ti : Nat), .int .u8 (si : Nat)] w fun e w' => e = .returned (cfS wi ti si).v ∧ Below w.heap.size w w' := by
 obtain ⟨W, hW⟩ : ∃ W, W = w.alloc (.cells #[.int .i64 0, .int .i64 0, .int .i64 0, .int .i64 0, .int .i64 0, .int .i64 0] 26) := ⟨_, rfl⟩
 obtain ⟨g, hg⟩ : ∃ g, g = w.heap.size := ⟨_, rfl⟩
 have hbw : Below w.heap.size w W := by rw [hW]; exact below_alloc w _
 have cg : Blk W g 26 #[.int .i64 0, .int .i64 0, .int .i64 0, .int .i64 0, .int .i64 0, .int .i64 0] := by rw [hW, hg]; exact Blk.new _ _ _
 obtain ⟨a, ha⟩ : ∃ a, a = si % 24 := ⟨_, rfl⟩
 obtain ⟨b, hb⟩ : ∃ b, b = wi % 3000 := ⟨_, rfl⟩
 obtain ⟨c, hc⟩ : ∃ c, c = ti % 1000 := ⟨_, rfl⟩
 have r1 : (si : Int).tmod 24 = (a : Int) := by rw [Int.tmod_eq_emod_of_nonneg (by omega)]; omega
 have r2 : (wi : Int).tmod 3000 = (b : Int) := by rw [Int.tmod_eq_emod_of_nonneg (by omega)]; omega
 have r3 : (ti : Int).tmod 1000 = (c : Int) := by rw [Int.tmod_eq_emod_of_nonneg (by omega)]; omega
 have v : ∀ z : Nat, z < 5000 → IntKind.i64.wrap (z : Int) = (z : Int) := fun z hz => by rw [IntKind.wrap_i64]; omega
 have v1 := v a (by omega)
 have v2 := v b (by omega)
 have v3 := v c (by omega)
 have w1 : IntKind.i64.wrap (1 + (a : Int)) = 1 + (a : Int) := by rw [IntKind.wrap_i64]; omega
 have w2 : IntKind.i64.wrap (1 + (b : Int)) = 1 + (b : Int) := by rw [IntKind.wrap_i64]; omega
 have w3 : IntKind.i64.wrap (1 + (c : Int)) = 1 + (c : Int) := by rw [IntKind.wrap_i64]; omega
 have u1 : (si : Int) % 24 = (a : Int) := by omega
 have u2 : (wi : Int) % 3000 = (b : Int) := by omega
 have u3 : (ti : Int) % 1000 = (c : Int) := by omega
 have hcf : (cfS wi ti si).v = .agg #[.int .i64 64, .int .i64 1048576, .int .i64 (1 + (a : Int)), .int .i64 (1 + (b : Int)), .int .i64 (1 + (c : Int)), .int .i64 1048576] := by
  unfold cfS Cf.v
  dsimp only
  rw [← ha, ← hb, ← hc]
  simp only [Int.natCast_add, Int.cast_ofNat_Int]
 have HB := Lib.hid (And.intro cg (And.intro hbw (Nat.le_of_eq hg.symm)))
 rw [hcf]
 clear hbw cg ha hb hc v hcf h1 h2 h3
 go_enter Tryz.func9, Tryz.ntmps9
 go_upto_region 1 with fail
 rw [← hW, ← hg]
 clear hW hg
 have D := cells_say HB.out.1 _ 0 rfl
 simp only [cellsSay, List.drop_zero, Nat.reduceAdd, and_true] at D
 go_wp2_with fail
 exact bodyPost_ret (results_cell_row Tryz.results9 _ _ g 26 #[.int .i64 64, .int .i64 1048576, .int .i64 (1 + (a : Int)), .int .i64 (1 + (b : Int)), .int .i64 (1 + (c : Int)), .int .i64 1048576] (0, 0) _ rfl ((HB.out.1.sets [(0, .int .i64 64), (1, .int .i64 1048576), (2, .int .i64 (1 + (a : Int))), (3, .int .i64 (1 + (b : Int))), (4, .int .i64 (1 + (c : Int))), (5, .int .i64 1048576)]) ) Tryz.underlying26 rfl (by kernel_rfl)) rfl ⟨rfl, ((((((HB.out.2.1.setCell HB.out.2.2 _).setCell HB.out.2.2 _).setCell HB.out.2.2 _).setCell HB.out.2.2 _).setCell HB.out.2.2 _).setCell HB.out.2.2 _)⟩
theorem sd_lay {B : Nat} {w0 w : World} {X : SL} {S : SD} {ts : List Kt} (h : Sd B w0 w X S ts) (hT : Tab w0) (hB0 : w0.heap.size ≤ B) (size : Int) (hsz : in64 size) (V : Option Addr) (c : Nat) (l : List OB) (hV : Rw w0 encOB 17 V l) (hok : ∀ o ∈ l, OkOB o) (hl : l.length ≤ 60) :
  Calls Tryz.prog 11 #[.int .i64 size, .slice V l.length c] w fun e w' => ∃ (Y : Bl) (T : List Se) (A : Option Addr) (cc : Nat), e = .returned (.tuple #[prB Y, .slice A T.length cc]) ∧ T.map seD = allD (laD (laSz size) l) ∧ Y.D = laD (laSz size) l ∧ OkB Y ∧ Sd B w0 w' X S (thBk Y :: (laT (.slice A T.length cc) T ++ ts)) := by
 obtain ⟨F, b, hs⟩ := h
 refine (bLay_any hs hT hB0 size hsz V c l hV hok hl).mono ?_
 rintro e w' ⟨q, T, A, cc, rfl, h1, Y, h2, h3, h4, h5⟩
 exact ⟨Y, T, A, cc, by subst h2; rfl, h1, h3, h4, F, b, h5.permB (front6 (us := thBk Y :: laT (.slice A T.length cc) T))⟩
end Go.Proofs.YtnjcdihgaidlbaaGreatDoor
set_option linter.unusedSimpArgs false
set_option linter.unusedVariables false
namespace Go.Proofs.YtnjcdihgaidlbaaGreatDoor
open Go.RowKit
set_option maxRecDepth 100000
theorem next_ok {D : BD} (hD : OkD D) (x : Nat) {p : Pl} (most : Int) (hp : hasC (D.at_ x) p.1 p.2.1 p.2.2 = true) (ho : OkPl p) : hasC (D.at_ x) (cutS x (D.at_ x) p most).2.1.1 (cutS x (D.at_ x) p most).2.1.2.1 (cutS x (D.at_ x) p most).2.1.2.2 = true ∧ OkPl (cutS x (D.at_ x) p most).2.1 := by
 by_cases he : p = endC (D.at_ x)
 ·have e : cutS x (D.at_ x) p most = (zeroF, p, 0) := (cut_endI (x := x) (most := most) hp ho.1 ho.2.1 ho.2.2 he).1
  rw [e]
  exact ⟨hp, ho⟩
 ·have h := (cut_some hD x (most := most) hp he).1
  exact ⟨h.to_, h.okto⟩
end Go.Proofs.YtnjcdihgaidlbaaGreatDoor
set_option linter.unusedSimpArgs false
set_option linter.unusedVariables false
namespace Go.Proofs.YtnjcdihgaidlbaaGreatDoor
open Go.RowKit
set_option maxRecDepth 100000
theorem ne_blk {w : World} {g1 g2 : Nat} {t1 t2 : TypeId} {c1 c2 : Array Value} (k1 : Blk w g1 t1 c1) (k2 : Blk w g2 t2 c2) (h : t1 ≠ t2) : g1 ≠ g2 := fun e => by
 subst e
 have := Option.some.inj (k1.symm.trans k2)
 injection this with _ e2 _
 exact h e2
theorem ne_own {w : World} {g base : Nat} {t : TypeId} {c : Array Value} {v : Value} {l : List UInt8} (k : OwnB w base v l) (k1 : Blk w g t c) (h : 5 ≠ t) : v.ownBlock ≠ some g := fun e => by
 rcases k.2 with ⟨e0, _⟩ | ⟨g', cap, cur, e0, _, hgg, _⟩
 ·rw [e0] at e; cases e
 ·rw [e0] at e
  injection e with e
  exact ne_blk (show Blk w g' 5 cur from hgg) k1 h e
end Go.Proofs.YtnjcdihgaidlbaaGreatDoor
set_option linter.unusedSimpArgs false
set_option linter.unusedVariables false
namespace Go.Proofs.YtnjcdihgaidlbaaGreatDoor
theorem accept_come (D : BD) (S : SD) (x : Nat) (p : Pl) (nack : Bool) (y : Nat) : (acceptD D S x p nack).come y = if y = x then p else S.come y := by
 have h : ∀ T : SD, T = (if nack then resetD (comeD S x p) x else comeD S x p) → T.come y = if y = x then p else S.come y := fun T hT => by
  rw [hT]
  cases nack <;> exact come_acked S x p y
 unfold acceptD
 dsimp only
 have h1 := h _ rfl
 split
 ·exact h1
 ·split
  ·exact h1
  ·exact h1
theorem beh_end {C : CsT} (oc : OkC1 C) : behC C (endC C).1 (endC C).2.1 = 0 := by
 have h1 : totC C = totC C.dropLast + (bitsL (lastL C)).length := by
  conv => lhs; rw [← cs_split oc.ne]
  rw [totC_app, totC_one]
 unfold behC endC
 dsimp only
 rw [← List.dropLast_eq_take, endN_all]
 omega
theorem again_main {D : BD} (hD : OkD D) {S : SD} (hS : OkSn D S) (h : AgI D S) {nw : Nat} (hnw : S.tk ≤ nw) {l : List Nat} {M : List (Nat × Nat × Nat)} (hd : DueI S nw l M) :
  ((∀ x ∈ ksD D, S.come x = endC (D.at_ x)) ∧ pumpD D (firedL D l { S with now := nw, TM := M }) = (firedL D l { S with now := nw, TM := M }, []) ∧ sumP (firedL D l { S with now := nw, TM := M }).PL = 0 ∧ backL D (firedL D l { S with now := nw, TM := M }) (ksD D) = 0) ∨
  ∃ x f l', x ∈ ksD D ∧ S.come x ≠ endC (D.at_ x) ∧ (∀ y ∈ ksD D, S.come y ≠ endC (D.at_ y) → x ≤ y) ∧ (pumpD D (firedL D l { S with now := nw, TM := M })).2 = f :: l' ∧ f.se = x ∧ (f.fc, f.fb, f.fn) = S.come x := by
 have hl : ∀ x, (lookM S.TM x).isSome → x ∈ l := fun x hx => by
  obtain ⟨c, hc⟩ := Option.isSome_iff_exists.1 hx
  refine (hd.out.2 x).2 ⟨c, hc, ?_⟩
  rw [h.due x c hc]
  exact hnw
 have hf := fired_all (T := { S with now := nw, TM := M }) h hl rfl rfl rfl
 have hb := (firedL_is D l { S with now := nw, TM := M }).bw
 obtain ⟨T, hT⟩ : ∃ T, T = firedL D l { S with now := nw, TM := M } := ⟨_, rfl⟩
 rw [← hT] at hf hb ⊢
 have hroom : sumP T.PL < (T.bw : Int) := by
  rw [hf.1, hb]
  have := hS.bw1
  show (0 : Int) < _
  dsimp only
  omega
 rcases pumL_first hD (ksD D) T (ksD_rise D) hroom (fun x _ => by rw [(hf.2 x).1]; exact h.hac x) with ⟨h1, h2⟩ | ⟨x, f, l', h1, h2, h3, h4, h5, h6⟩
 ·left
  have h3 : ∀ x ∈ ksD D, S.come x = endC (D.at_ x) := fun x hx => by rw [← (hf.2 x).1]; exact h1 x hx
  refine ⟨h3, h2, by rw [hf.1]; rfl, ?_⟩
  have hz : ∀ xs : List Nat, (∀ x ∈ xs, S.come x = endC (D.at_ x)) → backL D T xs = 0 := by
   intro xs
   induction xs with
   | nil => intro _; rfl
   | cons x xs ih =>
    intro hx
    show backX D T x + backL D T xs = 0
    rw [ih (fun y hy => hx y (List.mem_cons_of_mem _ hy))]
    have e : T.come x = endC (D.at_ x) := (hf.2 x).2.trans (hx x List.mem_cons_self)
    unfold backX
    rw [e, end_has (hD.at_ x), if_pos rfl]
    have hz := beh_end (hD.at_ x)
    omega
  exact hz _ h3
 ·right
  rw [(hf.2 x).1] at h2 h6
  exact ⟨x, f, l', h1, h2, fun y hy he => h3 y hy (by rw [(hf.2 y).1]; exact he), h4, h5, h6⟩
end Go.Proofs.YtnjcdihgaidlbaaGreatDoor
set_option linter.unusedSimpArgs false
set_option linter.unusedVariables false
namespace Go.Proofs.YtnjcdihgaidlbaaGreatDoor
theorem Sd.ndT {B : Nat} {w0 w : World} {X : SL} {S : SD} {ts : List Kt} (h : Sd B w0 w X S ts) : (S.TM.map Prod.fst).Nodup := by
 obtain ⟨rs, hT, -⟩ := h.tm
 obtain ⟨b, hT⟩ := hT
 exact (show Mu alV w b S.TM from hT.at_ 1 rfl).nodup
theorem again_new {D : BD} (hD : OkD D) (bw tk ep : Nat) (h : tk ≤ 1000) : AgI D (newS bw tk ep) :=
 ⟨fun p hp => absurd (show p ∈ ([] : List PC) from hp) List.not_mem_nil, fun x _ => rfl, fun x c hc => (by have h2 : (none : Option (Nat × Nat)) = some c := hc; cases h2), fun p hp => absurd (show p ∈ ([] : List PC) from hp) List.not_mem_nil, fun x => has_first (hD.at_ x), fun x => has_first (hD.at_ x), rfl, h⟩
theorem accept_keeps (D : BD) (S : SD) (x : Nat) (p : Pl) (nack : Bool) : (acceptD D S x p nack).ep = S.ep ∧ (acceptD D S x p nack).tk = S.tk := by
 unfold acceptD
 dsimp only
 split
 ·cases nack <;> exact ⟨rfl, rfl⟩
 ·split <;> cases nack <;> exact ⟨rfl, rfl⟩
theorem again_step {D : BD} (hD : OkD D) {S : SD} (h : AgI D S) (hep : S.ep = 1) {x : Nat} (h0 : S.come x = (0, 0, 0)) {p : Pl} (hp : hasC (D.at_ x) p.1 p.2.1 p.2.2 = true) :
  ∃ S' l', takD D S ⟨4, 1, x, p.1, p.2.1, p.2.2, 0, false, sumC (D.at_ x) p.1 p.2.1, [], 0⟩ = (S', l', movD S x p, 0) ∧ AgI D S' ∧ S'.ep = 1 ∧ S'.tk = S.tk ∧ ∀ y, S'.come y = if y = x then p else S.come y := by
 have hb : befP p (S.come x) = false := by
  rw [h0]
  cases hb : befP p (0, 0, 0) with
  | false => rfl
  | true =>
   have := (befP_iff _ _).1 hb
   dsimp only at this
   omega
 obtain ⟨A, hA⟩ : ∃ A, A = acceptD D S x p false := ⟨_, rfl⟩
 have hk := accept_keeps D S x p false
 have hac := h.acked hD hp hb
 have hco := fun y => accept_come D S x p false y
 rw [← hA] at hk hac hco
 have hr := pump_run hD A
 refine ⟨(pumpD D A).1, (pumpD D A).2, ?_, hac.pump hD, hr.stay.ep.trans (hk.1.trans hep), hr.stay.tk.trans hk.2, fun y => (hr.stay.come y).trans (hco y)⟩
 unfold takD ackK
 dsimp only
 rw [if_neg (by rintro (e | e); exact absurd e (by simp); exact e hep.symm), hp, if_neg (by decide), if_neg (by rw [hb]; decide), if_neg (fun e => e rfl)]
 show ((pumpD D (acceptD D S x p false)).1, (pumpD D (acceptD D S x p false)).2, movD S x p, 0) = _
 rw [← hA]
def afiV : Option Nat → Int
 | none => -1
 | some f => (f : Nat)
def AfiI (D : BD) (S : SD) (K : List Nat) (i : Nat) : Option Nat → Prop
 | none => ∀ j x, j < i → K[j]? = some x → S.come x = endC (D.at_ x)
 | some f => f < i ∧ ∃ x, K[f]? = some x ∧ S.come x ≠ endC (D.at_ x) ∧ ∀ j y, j < i → K[j]? = some y → S.come y ≠ endC (D.at_ y) → x ≤ y
theorem afi_skip {D : BD} {S : SD} {K : List Nat} {i x : Nat} (hx : K[i]? = some x) (he : S.come x = endC (D.at_ x)) : ∀ {fo : Option Nat}, AfiI D S K i fo → AfiI D S K (i + 1) fo
 | none, h => fun j y hj hy => by
  by_cases e : j = i
  ·subst e
   rw [hx] at hy
   injection hy with hy
   rw [← hy]; exact he
  ·exact h j y (by omega) hy
 | some f, h => ⟨Nat.lt_succ_of_lt h.1, by
  obtain ⟨z, h1, h2, h3⟩ := h.2
  refine ⟨z, h1, h2, fun j y hj hy hn => ?_⟩
  by_cases e : j = i
  ·subst e
   rw [hx] at hy
   injection hy with hy
   rw [← hy] at hn
   exact absurd he hn
  ·exact h3 j y (by omega) hy hn⟩
theorem afi_first {D : BD} {S : SD} {K : List Nat} {i x : Nat} (hx : K[i]? = some x) (he : S.come x ≠ endC (D.at_ x)) (h : AfiI D S K i none) : AfiI D S K (i + 1) (some i) :=
 ⟨Nat.lt_succ_self _, x, hx, he, fun j y hj hy hn => by
  by_cases e : j = i
  ·subst e
   rw [hx] at hy
   injection hy with hy
   omega
  ·exact absurd (h j y (by omega) hy) hn⟩
theorem afi_less {D : BD} {S : SD} {K : List Nat} {i x f z : Nat} (hx : K[i]? = some x) (he : S.come x ≠ endC (D.at_ x)) (hz : K[f]? = some z) (hl : x < z) (h : AfiI D S K i (some f)) : AfiI D S K (i + 1) (some i) :=
 ⟨Nat.lt_succ_self _, x, hx, he, fun j y hj hy hn => by
  by_cases e : j = i
  ·subst e
   rw [hx] at hy
   injection hy with hy
   omega
  ·obtain ⟨z', h1, h2, h3⟩ := h.2
   rw [hz] at h1
   injection h1 with h1
   have := h3 j y (by omega) hy hn
   omega⟩
theorem afi_keep {D : BD} {S : SD} {K : List Nat} {i x f z : Nat} (hx : K[i]? = some x) (hz : K[f]? = some z) (hl : ¬ x < z) (h : AfiI D S K i (some f)) : AfiI D S K (i + 1) (some f) := by
 obtain ⟨z', h1, h2, h3⟩ := h.2
 rw [hz] at h1
 injection h1 with h1
 subst h1
 refine ⟨Nat.lt_succ_of_lt h.1, z, hz, h2, fun j y hj hy hn => ?_⟩
 by_cases e : j = i
 ·subst e
  rw [hx] at hy
  injection hy with hy
  omega
 ·exact h3 j y (by omega) hy hn
theorem again_none {D : BD} (hD : OkD D) {S : SD} (hS : OkSn D S) (h : AgI D S) {nw : Nat} (hnw : S.tk ≤ nw) {l : List Nat} {M : List (Nat × Nat × Nat)} (hd : DueI S nw l M) {K : List Nat} (hK : ∀ x, x ∈ ksD D ↔ x ∈ K) {R : SD × List FrD} (hR : R = pumpD D (firedL D l { S with now := nw, TM := M })) {n : Nat} (hn : n = K.length) (hf : AfiI D S K n none) :
  R.2 = [] ∧ sumP R.1.PL = 0 ∧ backL D R.1 (ksD D) = 0 := by
 subst hn
 rcases again_main hD hS h hnw hd with ⟨-, h2, h3, h4⟩ | ⟨x, g, l', h1, h2, -⟩
 ·rw [hR, h2]
  exact ⟨rfl, h3, h4⟩
 ·obtain ⟨j, hj⟩ := List.mem_iff_getElem?.1 ((hK x).1 h1)
  exact absurd (hf j x (List.getElem?_eq_some_iff.1 hj).1 hj) h2
theorem again_some {D : BD} (hD : OkD D) {S : SD} (hS : OkSn D S) (h : AgI D S) {nw : Nat} (hnw : S.tk ≤ nw) {l : List Nat} {M : List (Nat × Nat × Nat)} (hd : DueI S nw l M) {K : List Nat} (hK : ∀ x, x ∈ ksD D ↔ x ∈ K) {R : SD × List FrD} (hR : R = pumpD D (firedL D l { S with now := nw, TM := M })) {n f : Nat} (hn : n = K.length) (hf : AfiI D S K n (some f)) :
  ∃ x g l', f < n ∧ K[f]? = some x ∧ R.2 = g :: l' ∧ g.se = x ∧ (g.fc, g.fb, g.fn) = S.come x := by
 subst hn
 obtain ⟨hfl, z, hz, hn, hm⟩ := hf
 have hzK := (hK z).2 (List.mem_of_getElem? hz)
 rcases again_main hD hS h hnw hd with ⟨h1, -⟩ | ⟨x, g, l', h1, h2, h3, h4, h5, h6⟩
 ·exact absurd (h1 z hzK) hn
 ·obtain ⟨j, hj⟩ := List.mem_iff_getElem?.1 ((hK x).1 h1)
  have a := hm j x (List.getElem?_eq_some_iff.1 hj).1 hj h2
  have b := h3 z hzK hn
  have e : x = z := by omega
  subst e
  rw [hR]
  exact ⟨x, g, l', hfl, hz, h4, h5, h6⟩
theorem again_places {K : List Nat} {PL : List Pl} {S S' : SD} {i id : Nat} {p : Pl} (hn : K.Nodup) (hKi : K[i]? = some id) (hl : PL.length = i) (hc : ∀ y, S'.come y = if y = id then p else S.come y)
  (h : ∀ j x, K[j]? = some x → (j < i → PL[j]? = some (S.come x)) ∧ (i ≤ j → S.come x = (0, 0, 0))) : ∀ j x, K[j]? = some x → (j < i + 1 → (PL ++ [p])[j]? = some (S'.come x)) ∧ (i + 1 ≤ j → S'.come x = (0, 0, 0)) := fun j x hj => by
 have hne : j ≠ i → x ≠ id := fun e e2 => e (by
  subst e2
  obtain ⟨a1, a2⟩ := List.getElem?_eq_some_iff.1 hj
  obtain ⟨b1, b2⟩ := List.getElem?_eq_some_iff.1 hKi
  rcases Nat.lt_or_gt_of_ne e with h1 | h1
  ·exact (List.pairwise_iff_getElem.1 hn j i a1 b1 h1 (a2.trans b2.symm)).elim
  ·exact (List.pairwise_iff_getElem.1 hn i j b1 a1 h1 (b2.trans a2.symm)).elim)
 refine ⟨fun hlt => ?_, fun hge => ?_⟩
 ·by_cases e : j = i
  ·subst e
   rw [hKi] at hj
   injection hj with hj
   subst hj
   rw [hc, if_pos rfl, List.getElem?_append_right (by omega), hl, Nat.sub_self]
   rfl
  ·rw [hc, if_neg (hne e), List.getElem?_append_left (by omega)]
   exact (h j x hj).1 (by omega)
 ·rw [hc, if_neg (hne (by omega))]
  exact (h j x hj).2 (by omega)
def encPl (p : Pl) : List Value := [.int .u32 ((p.1 : Nat) : Int), .int .u32 ((p.2.1 : Nat) : Int), .int .u32 ((p.2.2 : Nat) : Int)]
theorem Tryz.eltPl : Elt Tryz.prog 64 40 encPl 3 12 := ⟨Tryz.underlying64, ⟨.agg #[.int .u32 0, .int .u32 0, .int .u32 0], by kernel_rfl, rfl⟩, by decide, fun _ => rfl, fun x v h => by
 unfold encPl at h
 simp only [List.mem_cons, List.not_mem_nil, or_false] at h
 rcases h with rfl | rfl | rfl <;> rfl⟩
end Go.Proofs.YtnjcdihgaidlbaaGreatDoor
set_option linter.unusedSimpArgs false
set_option linter.unusedVariables false
namespace Go.Proofs.YtnjcdihgaidlbaaGreatDoor
open Go.RowKit
set_option maxRecDepth 100000
set_option maxHeartbeats 64000000 in
theorem sendAgain_walk (wi ti si : Nat) (hwi : wi < 65536) (hti : ti < 65536) (hsi : si < 256) (V : Option Addr) (c : Nat) (l : List OB) (V2 : Option Addr) (c2 : Nat) (LB : List UInt8) (w : World) (hV : Rw w encOB 17 V l) (hok : ∀ o ∈ l, OkOB o) (hB : Bs w V2 LB) (hT : Tab w) :
  Calls Tryz.prog 6 #[.int .u16 (wi : Nat), .int .u8 (si : Nat), .int .u16 (ti : Nat), .slice V l.length c, .slice V2 LB.length c2] w fun e w' => e = .returned (.bool true) ∧ Below w.heap.size w w' := by
 have hmx : Tryz.prog.follows .mixedOrders = true := by kernel_rfl
 have HKn := Lib.hid (sknown_any w hT)
 obtain ⟨n, hn⟩ : ∃ n, n = l.length := ⟨_, rfl⟩
 obtain ⟨ln, hln⟩ : ∃ n, n = LB.length := ⟨_, rfl⟩
 rw [← hn, ← hln]
 have HLB := Lib.hid (And.intro hB hln)
 clear hB hln
 by_cases h60 : n ≤ 60
 case neg =>
  have k60 : (60 : Int) < (n : Int) := by omega
  clear hV hok hn hT
  go_enter Tryz.func6, Tryz.ntmps6
  go_wp2_with (go_at_call 8; refine HKn.out.mono ?_; rintro e w2 ⟨rfl, b2⟩)
  go_ret
  exact ⟨rfl, b2⟩
 have k60 : ¬ (60 : Int) < (n : Int) := by omega
 by_cases h61 : ln ≤ 70
 case neg =>
  have k61 : (70 : Int) < (ln : Int) := by omega
  clear hV hok hn hT
  go_enter Tryz.func6, Tryz.ntmps6
  go_wp2_with (go_at_call 8; refine HKn.out.mono ?_; rintro e w2 ⟨rfl, b2⟩)
  go_ret
  exact ⟨rfl, b2⟩
 have k61 : ¬ (70 : Int) < (ln : Int) := by omega
 obtain ⟨sz, hsz⟩ : ∃ z, z = 1 + si % 24 := ⟨_, rfl⟩
 obtain ⟨bw, hbw⟩ : ∃ z, z = 1 + wi % 3000 := ⟨_, rfl⟩
 obtain ⟨tq, htq⟩ : ∃ z, z = 1 + ti % 1000 := ⟨_, rfl⟩
 have hcv : (cfS wi ti si).v = .agg #[.int .i64 64, .int .i64 1048576, .int .i64 (sz : Nat), .int .i64 (bw : Nat), .int .i64 (tq : Nat), .int .i64 1048576] := by rw [hsz, hbw, htq]; rfl
 have HCf := Lib.hid (fun (W : World) => cfS_any wi ti si hwi hti hsi W)
 have HNew := Lib.hid (fun (w1 : World) (ts : List Kt) (h : Sep w.heap.size w w1 ts) => new_some (cfS wi ti si) 1 (cfS_right wi ti si) bw tq (by rw [hbw]; rfl) (by rw [htq]; rfl) (by omega) (by omega) h)
 rw [hcv] at HCf HNew
 have hv1 : IntKind.i64.wrap ((sz : Int) - 1) = (sz : Int) - 1 := by rw [IntKind.wrap_i64]; omega
 have HLy := Lib.hid (fun (w1 : World) (X : SL) (S : SD) (ts : List Kt) (h : Sd w.heap.size w w1 X S ts) => sd_lay h hT (Nat.le_refl _) ((sz : Int) - 1) (by unfold in64; omega) V c l hV hok (by omega))
 rw [← hn] at HLy
 have HBw := Lib.hid (show (1 ≤ bw ∧ bw ≤ 3000) ∧ 1 ≤ tq ∧ tq ≤ 1000 by omega)
 clear hV hok hn hsz hbw htq hcv hT hwi hti hsi h60
 go_enter Tryz.func6, Tryz.ntmps6
 go_upto_region 4 with (first | (go_at_call 8; refine HKn.out.mono ?_; rintro e w1 ⟨rfl, b1⟩) | (go_at_call 9; refine (HCf.out _).mono ?_; rintro e w2 ⟨rfl, b2⟩))
 have h2 := ((Sep.nil b1 b1.size).go b2).box #[.int .i64 64, .int .i64 1048576, .int .i64 (sz : Nat), .int .i64 (bw : Nat), .int .i64 (tq : Nat), .int .i64 1048576] 26
 generalize hV2 : World.alloc _ _ = V2 at h2 ⊢
 obtain ⟨g9, hg9⟩ : ∃ g, g = w2.heap.size := ⟨_, rfl⟩
 rw [← hg9] at h2 ⊢
 have D9 := cells_say (h2.blk 0) _ 0 rfl
 simp only [cellsSay, List.drop_zero, Nat.reduceAdd, and_true] at D9
 have HN := Lib.hid (HNew.out _ _ h2)
 clear hV2 hg9 h2 b1 b2 HKn HCf HNew
 go_upto_region 5 with (go_at_call 10; refine HN.out.mono ?_; rintro e w3 ⟨X, rfl, h3⟩)
 clear D9
 have D9 := cells_say (h3.blkAt 0) _ 0 rfl
 simp only [cellsSay, List.drop_zero, Nat.reduceAdd, and_true] at D9
 have HL := Lib.hid (HLy.out _ _ _ _ h3)
 clear h3 HLy HN
 go_upto_region 6 with (go_at_call 11; refine HL.out.mono ?_; rintro e w4 ⟨Y, T, A, cc, rfl, hTD, hYD, ok, h4⟩; simp only [prB])
 obtain ⟨D, hD⟩ : ∃ D, D = laD (laSz ((sz : Int) - 1)) l := ⟨_, rfl⟩
 rw [← hD] at hTD hYD
 have hids : T.map (fun z => z.id) = D.M.map Prod.fst := by
  have := congrArg (List.map Prod.fst) hTD
  rw [List.map_map] at this
  rw [show (fun z : Se => z.id) = Prod.fst ∘ seD from rfl, this]
  unfold allD
  rw [List.map_map]
  rfl
 obtain ⟨tn, htn⟩ : ∃ n, n = T.length := ⟨_, rfl⟩
 rw [← htn] at h4 ⊢
 have hDk : OkD D := hYD ▸ ok.D
 have hok0 : OkSn D (newS bw tq 1) := okS_new D bw tq 1 HBw.out.1.1 (by have := HBw.out.1.2; omega) HBw.out.2.2 (by decide)
 have hPu := pump_any h4 ok (by rw [hYD]; exact hok0)
 rw [hYD] at hPu
 simp only [prB] at hPu
 have HPu := Lib.hid hPu
 have HY := Lib.hid (And.intro hYD (And.intro ok (And.intro hDk hok0)))
 have HId := Lib.hid (And.intro hids htn)
 clear hTD hYD ok h4 hDk hok0 hPu HL hD htn D9 hv1 hids
 go_upto_region 9 with (go_at_call 12; refine HPu.out.mono ?_; rintro e w5 ⟨U5, c5, T5, rfl, hT5, h5⟩)
 have hids := HId.out.1
 have htn := HId.out.2
 have hDk := HY.out.2.2.1
 obtain ⟨S1, hS1⟩ : ∃ S, S = (pumpD D (newS bw tq 1)).1 := ⟨_, rfl⟩
 have hok1 : OkSn D S1 := by rw [hS1]; exact HY.out.2.2.2.pump hDk
 have hst := (pump_run hDk (newS bw tq 1)).stay
 have hag1 : AgI D S1 := by rw [hS1]; exact (again_new hDk bw tq 1 HBw.out.2.2).pump hDk
 rw [← hS1] at h5 hst
 have hep : S1.ep = 1 := hst.ep
 have htk : S1.tk = tq := hst.tk
 have hco : ∀ x, S1.come x = (0, 0, 0) := fun x => hst.come x
 obtain ⟨L, hL⟩ : ∃ L, L = chT (.slice U5 T5.length c5) T5 ++ (laT (.slice A tn cc) T ++ [thB g9 26 #[.int .i64 64, .int .i64 1048576, .int .i64 (sz : Nat), .int .i64 (bw : Nat), .int .i64 (tq : Nat), .int .i64 1048576]]) := ⟨_, rfl⟩
 have h5b : Sd w.heap.size w w5 X S1 (thBk Y :: L) := by rw [hL]; exact h5
 have HMem := Lib.hid (show thR 60 encSe 2 (.slice A tn cc) T ∈ L ∧ thB g9 26 #[.int .i64 64, .int .i64 1048576, .int .i64 (sz : Nat), .int .i64 (bw : Nat), .int .i64 (tq : Nat), .int .i64 1048576] ∈ L by
  rw [hL]
  exact ⟨by simp [chT, laT], by simp⟩)
 obtain ⟨K, hK⟩ : ∃ K, K = T.map (fun z => z.id) := ⟨_, rfl⟩
 have hKk : ∀ x, x ∈ ksD D ↔ x ∈ K := fun x => by rw [hK, hids]; exact (ksD_perm D).mem_iff
 have hKn : K.Nodup := by rw [hK, hids]; exact hDk.nd
 have hKl : K.length = tn := by rw [hK, List.length_map, htn]
 have hKi : ∀ (i : Nat) (z : Se), T[i]? = some z → z.id < 4294967296 ∧ K[i]? = some z.id := fun i z hz => by
  have h1 : K[i]? = some z.id := by rw [hK, List.getElem?_map, hz]; rfl
  have h2 : z.id ∈ D.M.map Prod.fst := by rw [← hids, ← hK]; exact List.mem_of_getElem? h1
  obtain ⟨q, hq, e⟩ := List.mem_map.1 h2
  exact ⟨by rw [← e]; exact hDk.key q hq, h1⟩
 have htn64 : tn ≤ 64 := by
  have h1 := congrArg List.length hids
  rw [List.length_map, List.length_map, ← htn] at h1
  have h2 := hDk.few
  have h3 := hDk.mo2
  omega
 have h5r : Sd w.heap.size w w5 X S1 (thBk Y :: thR 40 encPl 3 (.slice none 0 0) [] :: L) := h5b.side fun rs hs => (hs.addNilR 40 encPl 3).permB (List.Perm.swap _ _ _)
 have H5 := Lib.hid (And.intro h5r (And.intro hok1 (And.intro hag1 (And.intro hep (And.intro htk hco)))))
 have HK := Lib.hid (And.intro hKk (And.intro hKn (And.intro hKl (And.intro hKi htn))))
 clear h5 h5b h5r hT5 hS1 hok1 hst hag1 hep htk hco hL hK hKk hKn hKl hKi hids htn hDk HPu
 go_upto_region 11 with fail
 go_loopw [15, 16, 17, 18, 19, 20, 21, 22, 23] (fun s15 s16 s17 s18 s19 s20 s21 s22 s23 wr => ∃ (i : Nat) (U : Option Addr) (cu : Nat) (PL : List Pl) (S : SD), s15 = .slice U i cu ∧ s16 = .int .i64 (i : Nat) ∧ i ≤ tn ∧ Hid (PL.length = i ∧ OkSn D S ∧ AgI D S ∧ S.ep = 1 ∧ S.tk = tq ∧ (∀ j x, K[j]? = some x → (j < i → PL[j]? = some (S.come x)) ∧ (i ≤ j → S.come x = (0, 0, 0))) ∧ Sd w.heap.size w wr X S (thBk Y :: thR 40 encPl 3 (.slice U i cu) PL :: L)))
  (fun _ s16 _ _ _ _ _ _ _ _ => tn - (intOf s16).toNat)
 case atStart => exact ⟨0, none, 0, [], S1, rfl, by go_num, Nat.zero_le _, Lib.hid ⟨rfl, H5.out.2.1, H5.out.2.2.1, H5.out.2.2.2.1, H5.out.2.2.2.2.1, fun j x _ => ⟨fun h => absurd h (Nat.not_lt_zero _), fun _ => H5.out.2.2.2.2.2 x⟩, H5.out.1⟩⟩
 case round =>
  obtain ⟨i, U, cu, PL, S, rfl, rfl, hi, HI⟩ := hrel
  obtain ⟨wo, hwo⟩ : ∃ wo, wo = wr := ⟨_, rfl⟩
  rw [← hwo] at HI ⊢
  clear hwo
  by_cases hit : i < tn
  ·obtain ⟨z, hz⟩ : ∃ z, T[i]? = some z := ⟨_, List.getElem?_eq_getElem (by rw [← HK.out.2.2.2.2]; exact hit)⟩
   obtain ⟨id, hid⟩ : ∃ x, x = z.id := ⟨_, rfl⟩
   have hzi := HK.out.2.2.2.1 i z hz
   rw [← hid] at hzi
   have hit2 : (i : Int) < (tn : Int) := by omega
   have h1 := HI.out.2.2.2.2.2.2.box #[.int .u32 ((0 : Nat) : Int), .int .u32 ((0 : Nat) : Int), .int .u32 ((0 : Nat) : Int)] 40
   have HZ := Lib.hid (And.intro hz (And.intro hid hzi))
   have id32 := hzi.1
   clear hz hid hzi
   go_upto_region 14 with fail
   generalize hV1 : World.alloc _ _ = V1 at h1 ⊢
   obtain ⟨g14, hg14⟩ : ∃ g, g = wo.heap.size := ⟨_, rfl⟩
   rw [← hg14] at h1 ⊢
   have H1 := Lib.hid h1
   clear hV1 hg14 h1
   obtain ⟨bb, hbb⟩ : ∃ b, b = decide (0 < ln) := ⟨_, rfl⟩
   have kb1 : decide (0 < ln) = bb := hbb.symm
   have kb2 : decide ((0 : Int) < (ln : Int)) = bb := by
    rw [hbb]
    exact decide_eq_decide.2 (by omega)
   have HBb := Lib.hid hbb
   clear hbb
   go_upto_if 73 with fail
   clear kb1 kb2
   go_cut [18, 19, 20, 21] from 74 to 98 (fun s18 s19 s20 s21 wx => ∃ p : Pl, Hid (hasC (D.at_ id) p.1 p.2.1 p.2.2 = true ∧ OkPl p ∧ Sd w.heap.size w wx X S (thB g14 40 #[.int .u32 (p.1 : Nat), .int .u32 (p.2.1 : Nat), .int .u32 (p.2.2 : Nat)] :: thBk Y :: thR 40 encPl 3 (.slice U i cu) PL :: L)))
   case first =>
    cases bb with
    | false =>
     go_wp2_with fail
     go_meet
     exact ⟨(0, 0, 0), Lib.hid ⟨has_first (HY.out.2.2.1.at_ id), okPl0, H1.out⟩⟩
    | true =>
     have hat : 0 < ln := of_decide_eq_true HBb.out.symm
     obtain ⟨q, hq⟩ : ∃ q, q = i % ln := ⟨_, rfl⟩
     have hql : q < ln := by rw [hq]; exact Nat.mod_lt _ hat
     obtain ⟨b, hb⟩ : ∃ b, LB[q]? = some b := ⟨_, List.getElem?_eq_getElem (by rw [← HLB.out.2]; exact hql)⟩
     obtain ⟨pb, ob, rfl, hC5⟩ := HLB.out.1 q b hb
     obtain ⟨bn, hbn⟩ : ∃ k, k = b.toNat := ⟨_, rfl⟩
     have hC : w.cell? ⟨pb, ob + q, none⟩ = some (.int .u8 (bn : Nat)) := by rw [hbn]; exact hC5
     have hbl : bn < 256 := by rw [hbn]; exact b.toNat_lt
     obtain ⟨m, hm⟩ : ∃ m, m = bn % 20 := ⟨_, rfl⟩
     have m20 : m < 20 := by omega
     have t1 : (bn : Int).tmod 20 = (m : Int) := by rw [Int.tmod_eq_emod_of_nonneg (by omega)]; omega
     have t2 : (bn : Int) % 20 = (m : Int) := by omega
     have r1 : (i : Int).tmod (ln : Int) = (q : Int) := by rw [Int.tmod_eq_emod_of_nonneg (by omega), hq]; rfl
     have r2 : (i : Int) % (ln : Int) = (q : Int) := by rw [hq]; rfl
     have w2' : IntKind.i64.wrap (q : Int) = (q : Int) := by rw [IntKind.wrap_i64]; omega
     have kln : ((ln : Int) = 0) = False := by simp; omega
     have kql : (q : Int) < (ln : Int) := by omega
     have HC := Lib.hid hC
     clear hq hb hC5 hbn hC hm hat
     go_upto_region 16 with fail
     go_loopw [18, 19, 20, 21] (fun s18 s19 s20 s21 wr => ∃ (k : Nat) (p : Pl), s18 = .int .u8 (k : Nat) ∧ k ≤ 20 ∧ Hid (hasC (D.at_ id) p.1 p.2.1 p.2.2 = true ∧ OkPl p ∧ Sd w.heap.size w wr X S (thB g14 40 #[.int .u32 (p.1 : Nat), .int .u32 (p.2.1 : Nat), .int .u32 (p.2.2 : Nat)] :: thBk Y :: thR 40 encPl 3 (.slice U i cu) PL :: L)))
      (fun s18 _ _ _ _ => m - (intOf s18).toNat)
     case atStart => exact ⟨0, (0, 0, 0), by go_num, by omega, Lib.hid ⟨has_first (HY.out.2.2.1.at_ id), okPl0, H1.out⟩⟩
     case round =>
      obtain ⟨k, ⟨p1, p2, p3⟩, rfl, hk, HJ⟩ := hrel
      obtain ⟨wj, hwj⟩ : ∃ wj, wj = wr := ⟨_, rfl⟩
      rw [← hwj] at HJ ⊢
      clear hwj
      have C5 : wj.cell? ⟨pb, ob + q, none⟩ = some (.int .u8 (bn : Nat)) := (HJ.out.2.2.b.cell (cell_lt HC.out)).trans HC.out
      by_cases hkm : k < m
      ·have kk : (k : Int) < (m : Int) := by omega
       have hvk : IntKind.u8.wrap ((k : Int) + 1) = (k : Int) + 1 := by rw [IntKind.wrap_u8]; omega
       have hnx := next_ok HY.out.2.2.1 id 1 HJ.out.1 HJ.out.2.1
       have hm3 := List.mem_cons_of_mem (thB g14 40 #[.int .u32 (p1 : Nat), .int .u32 (p2 : Nat), .int .u32 (p3 : Nat)]) (List.mem_cons_of_mem (thBk Y) (List.mem_cons_of_mem (thR 40 encPl 3 (.slice U i cu) PL) HMem.out.1))
       obtain ⟨gr, hgr, -, -⟩ := row_at Tryz.eltSe (HJ.out.2.2.sep.get (t := thR 60 encSe 2 (.slice A tn cc) T) hm3) HZ.out.1
       subst hgr
       have C1 : ∀ y : More, (plus wj y).cell? ⟨gr, i * 2, none⟩ = some (.int .u32 (id : Nat)) := fun y => by
        have := row_cellE Tryz.eltSe ((HJ.out.2.2.go (plus_below wj y)).sep.get (t := thR 60 encSe 2 (.slice (some ⟨gr, 0, none⟩) tn cc) T) hm3) HZ.out.1 0 _ rfl
        rw [← HZ.out.2.1] at this
        exact this
       have C2 := fun (y : More) => cells_say ((HJ.out.2.2.go (plus_below wj y)).blkAt 0) _ 0 rfl
       simp only [cellsSay, List.drop_zero, Nat.reduceAdd, and_true] at C2
       have hCt := fun (W : World) (b : Below wj.heap.size wj W) => bCut_any (RdK.of ((HJ.out.2.2.go b).sep.at_ (t := thBk Y) 1 rfl)) HY.out.2.1 id id32 p1 p2 p3 1 HJ.out.2.1.1 HJ.out.2.1.2.1 HJ.out.2.1.2.2 (by unfold in64; omega)
       rw [HY.out.1] at hCt
       obtain ⟨R, hR⟩ : ∃ R, R = cutS id (D.at_ id) (p1, p2, p3) 1 := ⟨_, rfl⟩
       rw [← hR] at hnx
       rw [show cutF id (D.at_ id) p1 p2 p3 1 = R from hR.symm] at hCt
       clear hR
       obtain ⟨⟨kd, ep, se, fc, fb, fn, cn, cl, sm, fl, nn⟩, ⟨t1', t2', t3'⟩, er⟩ := R
       have HCt8 := Lib.hid hCt
       have HNx := Lib.hid hnx
       clear hCt hnx hm3
       go_upto_region 18 with fail
       clear C5
       refine wp_region_frw [none, none, none, none, none, none, none, none, none, none, none, none, none, none, some 12, some 13] [3, 7, 12, 13] [14, 15] (fun k lo v z => if k = 3 then v = .pointer (some ⟨gr, i * 2, none⟩) else if k = 7 then ∃ (A3 : Option Addr) (c3 : Nat), v = .tuple #[.agg #[.int .u8 ((kd : Nat) : Int), .int .u32 ((ep : Nat) : Int), .int .u32 ((se : Nat) : Int), .int .u32 ((fc : Nat) : Int), .int .u32 ((fb : Nat) : Int), .int .u32 ((fn : Nat) : Int), .int .u32 ((cn : Nat) : Int), .bool cl, .int .u64 ((sm : Nat) : Int), .slice A3 fl.length c3, .int .i64 nn], plV t1' t2' t3', .int .u16 (er : Int)] ∧ OwnB z lo (.slice A3 fl.length c3) fl
        else if k = 12 then v = .pointer (some ⟨lo, 0, none⟩) ∧ z.heap.size = lo + 1 ∧ Blk z lo 46 #[.int .u8 0, .int .u32 0, .int .u32 0, .int .u32 0, .int .u32 0, .int .u32 0, .int .u32 0, .bool false, .int .u64 0, .slice none 0 0, .int .i64 0]
        else v = .pointer (some ⟨lo, 0, none⟩) ∧ z.heap.size = lo + 1 ∧ Blk z lo 40 #[.int .u32 0, .int .u32 0, .int .u32 0]) hmx (by kernel_rfl) ?_
       iterate 3 (refine walkH_one rfl rfl (by kernel_rfl) ?_; go_big_quiet_step (fail); refine wpQuiet_nil ?_)
       refine walkH_make rfl rfl (by kernel_rfl) (fun x => ?_) ?_
       ·refine grow_val (v := .pointer (some ⟨gr, i * 2, none⟩)) (w' := plus wj x) ?_ (Below.refl _ _) rfl
        simp [execOp, go_sem, hit2]
       rintro V1 lo1 z1 rfl hlo1 hz1 hbw1
       conv => arg 12; simp [Act.put]
       iterate 3 (refine walkH_one rfl rfl (by kernel_rfl) ?_; go_big_quiet_step (fail); refine wpQuiet_nil ?_)
       refine walkH_make rfl rfl (by kernel_rfl) (fun x => ?_) ?_
       ·refine grow_call ?_ ((HCt8.out _ (plus_below wj x)).mono ?_)
        ·simp [execOp, go_sem]
        ·rintro e w4 ⟨⟨A3, c3, rfl, o3⟩, b4⟩
         exact ⟨_, rfl, b4, A3, c3, rfl, o3⟩
       rintro V9 lo9 z9 ⟨A3, c3, rfl, o3⟩ hlo9 hz9 hb9
       conv => arg 12; simp [Act.put]
       iterate 4 (refine walkH_one rfl rfl (by kernel_rfl) ?_; go_big_quiet_step (fail); refine wpQuiet_nil ?_)
       refine walkH_make rfl rfl (by kernel_rfl) (fun x => ?_) ?_
       ·exact grow_alloc (by simp [execOp, go_sem]) ⟨rfl, by simp, Blk.new _ _ _⟩
       rintro V12 lo12 z12 ⟨rfl, hs12, hb12⟩ hlo12 hz12 hbw12
       conv => arg 12; simp [Act.put]
       refine walkH_make rfl rfl (by kernel_rfl) (fun x => ?_) ?_
       ·exact grow_alloc (by simp [execOp, go_sem]) ⟨rfl, by simp, Blk.new _ _ _⟩
       rintro V13 lo13 z13 ⟨rfl, hs13, hb13⟩ hlo13 hz13 hbw13
       conv => arg 12; simp [Act.put]
       refine walkH_store rfl rfl (j := 12) rfl (by kernel_rfl) (fun W hW hA => ?_)
       have hB : Blk W lo12 46 #[.int .u8 0, .int .u32 0, .int .u32 0, .int .u32 0, .int .u32 0, .int .u32 0, .int .u32 0, .bool false, .int .u64 0, .slice none 0 0, .int .i64 0] := Agr.blk (s := ⟨z12, lo12, z12.heap.size⟩) hA hb12 (Nat.le_refl _) (by rw [hs12]; exact Nat.lt_succ_self _)
       have hcs := cells_say hB _ 0 rfl
       simp only [cellsSay, List.drop_zero, Nat.reduceAdd, and_true] at hcs
       refine ⟨sets W lo12 [(0, .int .u8 ((kd : Nat) : Int)), (1, .int .u32 ((ep : Nat) : Int)), (2, .int .u32 ((se : Nat) : Int)), (3, .int .u32 ((fc : Nat) : Int)), (4, .int .u32 ((fb : Nat) : Int)), (5, .int .u32 ((fn : Nat) : Int)), (6, .int .u32 ((cn : Nat) : Int)), (7, .bool cl), (8, .int .u64 ((sm : Nat) : Int)), (9, .slice A3 fl.length c3), (10, .int .i64 nn)], by simp [execOp, go_sem, hcs, sets],
        (((((((((((storeUpon.same W _).cell _ _ (Nat.le_refl _) (show lo12 < z12.heap.size by omega)).cell _ _ (Nat.le_refl _) (show lo12 < z12.heap.size by omega)).cell _ _ (Nat.le_refl _) (show lo12 < z12.heap.size by omega)).cell _ _ (Nat.le_refl _) (show lo12 < z12.heap.size by omega)).cell _ _ (Nat.le_refl _) (show lo12 < z12.heap.size by omega)).cell _ _ (Nat.le_refl _) (show lo12 < z12.heap.size by omega)).cell _ _ (Nat.le_refl _) (show lo12 < z12.heap.size by omega)).cell _ _ (Nat.le_refl _) (show lo12 < z12.heap.size by omega)).cell _ _ (Nat.le_refl _) (show lo12 < z12.heap.size by omega)).cell _ _ (Nat.le_refl _) (show lo12 < z12.heap.size by omega)).cell _ _ (Nat.le_refl _) (show lo12 < z12.heap.size by omega), fun hbz14 => ?_⟩
       have hb14 := hB.sets [(0, .int .u8 ((kd : Nat) : Int)), (1, .int .u32 ((ep : Nat) : Int)), (2, .int .u32 ((se : Nat) : Int)), (3, .int .u32 ((fc : Nat) : Int)), (4, .int .u32 ((fb : Nat) : Int)), (5, .int .u32 ((fn : Nat) : Int)), (6, .int .u32 ((cn : Nat) : Int)), (7, .bool cl), (8, .int .u64 ((sm : Nat) : Int)), (9, .slice A3 fl.length c3), (10, .int .i64 nn)]
       generalize sets W lo12 _ = z14 at *
       clear hA hB hcs hW
       conv => arg 12; simp [Act.put]
       refine walkH_store rfl rfl (j := 13) rfl (by kernel_rfl) (fun W hW hA => ?_)
       have hB : Blk W lo13 40 #[.int .u32 0, .int .u32 0, .int .u32 0] := Agr.blk (s := ⟨z13, lo13, z13.heap.size⟩) hA hb13 (Nat.le_refl _) (by rw [hs13]; exact Nat.lt_succ_self _)
       have hcs := cells_say hB _ 0 rfl
       simp only [cellsSay, List.drop_zero, Nat.reduceAdd, and_true] at hcs
       refine ⟨sets W lo13 [(0, .int .u32 ((t1' : Nat) : Int)), (1, .int .u32 ((t2' : Nat) : Int)), (2, .int .u32 ((t3' : Nat) : Int))], by simp [execOp, go_sem, hcs, sets],
        (((storeUpon.same W _).cell _ _ (Nat.le_refl _) (show lo13 < z13.heap.size by omega)).cell _ _ (Nat.le_refl _) (show lo13 < z13.heap.size by omega)).cell _ _ (Nat.le_refl _) (show lo13 < z13.heap.size by omega), fun hbz15 => ?_⟩
       have hb15 := hB.sets [(0, .int .u32 ((t1' : Nat) : Int)), (1, .int .u32 ((t2' : Nat) : Int)), (2, .int .u32 ((t3' : Nat) : Int))]
       generalize sets W lo13 _ = z15 at *
       clear hA hB hcs hW
       conv => arg 12; simp [Act.put]
       refine walkH_one rfl rfl (by kernel_rfl) ?_; go_big_quiet_step (fail); refine wpQuiet_nil ?_
       refine walkH_end ?_
       intro W9 hR
       have k9 : OwnB W9 lo9 (.slice A3 fl.length c3) fl := Agr.own (s := ⟨z9, lo9, z9.heap.size⟩) (hR.agr 7) o3 rfl
       have k12 : Blk W9 lo12 46 #[.int .u8 ((kd : Nat) : Int), .int .u32 ((ep : Nat) : Int), .int .u32 ((se : Nat) : Int), .int .u32 ((fc : Nat) : Int), .int .u32 ((fb : Nat) : Int), .int .u32 ((fn : Nat) : Int), .int .u32 ((cn : Nat) : Int), .bool cl, .int .u64 ((sm : Nat) : Int), .slice A3 fl.length c3, .int .i64 nn] := Agr.blk (s := ⟨z14, lo12, z12.heap.size⟩) (hR.agr 12) hb14 (Nat.le_refl _) (by rw [hs12]; exact Nat.lt_succ_self _)
       have k13 : Blk W9 lo13 40 #[.int .u32 ((t1' : Nat) : Int), .int .u32 ((t2' : Nat) : Int), .int .u32 ((t3' : Nat) : Int)] := Agr.blk (s := ⟨z15, lo13, z13.heap.size⟩) (hR.agr 13) hb15 (Nat.le_refl _) (by rw [hs13]; exact Nat.lt_succ_self _)
       have kb := hR.base
       have n9 : wj.heap.size ≤ lo9 := hlo9
       have n12 : wj.heap.size ≤ lo12 := hlo12
       have n13 : wj.heap.size ≤ lo13 := hlo13
       clear hR hb15 hb14 hb13 hb12 hbz14 hbz15 hbw12 hbw13 hb9 o3 hz9 hz12 hz13 hs12 hs13 hlo9 hlo12 hlo13
       obtain ⟨F8, q8, hs8⟩ := HJ.out.2.2
       have h9 : Sd w.heap.size w W9 X S (thO (.slice A3 fl.length c3) fl :: thB lo12 46 #[.int .u8 ((kd : Nat) : Int), .int .u32 ((ep : Nat) : Int), .int .u32 ((se : Nat) : Int), .int .u32 ((fc : Nat) : Int), .int .u32 ((fb : Nat) : Int), .int .u32 ((fn : Nat) : Int), .int .u32 ((cn : Nat) : Int), .bool cl, .int .u64 ((sm : Nat) : Int), .slice A3 fl.length c3, .int .i64 nn] :: thB lo13 40 #[.int .u32 ((t1' : Nat) : Int), .int .u32 ((t2' : Nat) : Int), .int .u32 ((t3' : Nat) : Int)] :: thB g14 40 #[.int .u32 (p1 : Nat), .int .u32 (p2 : Nat), .int .u32 (p3 : Nat)] :: thBk Y :: thR 40 encPl 3 (.slice U i cu) PL :: L) := ⟨F8, q8, (hs8.own2 kb k9 n9 k12 k13 n12 n13 (ne_blk k12 k13 (by decide)) (ne_own k9 k12 (by decide)) (ne_own k9 k13 (by decide))).permB (front6 (us := [_, _, _]))⟩
       have H9 := Lib.hid h9
       have D20 := cells_say k13 _ 0 rfl
       have D17 := cells_say (h9.blkAt 3) _ 0 rfl
       simp only [cellsSay, List.drop_zero, Nat.reduceAdd, and_true] at D20 D17
       clear C1 C2 h9 hs8 k9 k12 k13 kb n9 n12 n13 HCt8
       try clear hbw1 hlo1 hz1
       go_wp2_with fail
       generalize hWx : World.setCell _ _ _ = Wx
       have h8 := H9.out.put_ 3 g14 [(0, .int .u32 ((t1' : Nat) : Int)), (1, .int .u32 ((t2' : Nat) : Int)), (2, .int .u32 ((t3' : Nat) : Int))] #[.int .u32 ((t1' : Nat) : Int), .int .u32 ((t2' : Nat) : Int), .int .u32 ((t3' : Nat) : Int)] hWx
       simp only [List.set] at h8
       clear D20 D17 hWx H9
       have H8 := Lib.hid h8
       clear h8
       go_roundw
       case measure => simp [intOf]; omega
       case rel => exact ⟨k + 1, (t1', t2', t3'), by go_num, by omega, Lib.hid ⟨HNx.out.1, HNx.out.2, H8.out.tail.tail.tail⟩⟩
      ·have kk : ¬ (k : Int) < (m : Int) := by omega
       go_wp2_with fail
       go_meet
       exact ⟨(p1, p2, p3), HJ⟩
   case rest =>
    obtain ⟨⟨p1, p2, p3⟩, HKp⟩ := hcut
    obtain ⟨W3, hW3⟩ : ∃ Wx, Wx = wc := ⟨_, rfl⟩
    rw [← hW3] at HKp ⊢
    clear hW3 H1 HBb
    have hm3 : thR 60 encSe 2 (.slice A tn cc) T ∈ thB g14 40 #[.int .u32 (p1 : Nat), .int .u32 (p2 : Nat), .int .u32 (p3 : Nat)] :: thBk Y :: thR 40 encPl 3 (.slice U i cu) PL :: L := List.mem_cons_of_mem _ (List.mem_cons_of_mem _ (List.mem_cons_of_mem _ HMem.out.1))
    obtain ⟨gr, hgr, -, -⟩ := row_at Tryz.eltSe (HKp.out.2.2.sep.get (t := thR 60 encSe 2 (.slice A tn cc) T) hm3) HZ.out.1
    subst hgr
    have hcr : ∀ (W : World) (us : List Kt), Sep w.heap.size w W us → thR 60 encSe 2 (.slice (some ⟨gr, 0, none⟩) tn cc) T ∈ us → W.cell? ⟨gr, i * 2, none⟩ = some (.int .u32 (id : Nat)) := fun W us h hm => by
     have := row_cellE Tryz.eltSe (h.get (t := thR 60 encSe 2 (.slice (some ⟨gr, 0, none⟩) tn cc) T) hm) HZ.out.1 0 _ rfl
     rw [← HZ.out.2.1] at this
     exact this
    have HCr := Lib.hid hcr
    have C1 : ∀ y : More, (plus W3 y).cell? ⟨gr, i * 2, none⟩ = some (.int .u32 (id : Nat)) := fun y => HCr.out _ _ (HKp.out.2.2.go (plus_below W3 y)).sep hm3
    have C2 := fun (y : More) => cells_say ((HKp.out.2.2.go (plus_below W3 y)).blkAt 0) _ 0 rfl
    simp only [cellsSay, List.drop_zero, Nat.reduceAdd, and_true] at C2
    have hSu := fun (y : More) => ext_of (bSum_any (RdK.of ((HKp.out.2.2.go (plus_below W3 y)).sep.at_ (t := thBk Y) 1 rfl)) HY.out.2.1 id id32 p1 p2 p3 HKp.out.2.1.1 HKp.out.2.1.2.1 HKp.out.2.1.2.2)
    rw [HY.out.1, HKp.out.1] at hSu
    simp only [if_true] at hSu
    obtain ⟨Z, hZ⟩ : ∃ Z, Z = sumC (D.at_ id) p1 p2 := ⟨_, rfl⟩
    rw [← hZ] at hSu
    obtain ⟨S', l', hta, hag', hep', htk', hco'⟩ := again_step HY.out.2.2.1 HI.out.2.2.1 HI.out.2.2.2.1 (x := id) ((HI.out.2.2.2.2.2.1 i id HZ.out.2.2.2).2 (Nat.le_refl _)) (p := (p1, p2, p3)) HKp.out.1
    have hfo : (⟨4, 1, id, p1, p2, p3, 0, false, sumC (D.at_ id) p1 p2, [], 0⟩ : FrD).ok := ⟨(by decide : (4 : Nat) < 256), (by decide : (1 : Nat) < 4294967296), id32, HKp.out.2.1.1, HKp.out.2.1.2.1, HKp.out.2.1.2.2, (by decide : (0 : Nat) < 4294967296), sumC_lt _ _ _, (by decide : (-9223372036854775808 : Int) ≤ 0), (by decide : (0 : Int) ≤ 9223372036854775807)⟩
    have hok' : OkSn D S' := by
     have := OkSn.tak HY.out.2.2.1 HI.out.2.1 hfo
     rw [hta] at this
     exact this
    have hTk : ∀ (W : World) (us : List Kt), Sd w.heap.size w W X S (thBk Y :: us) → Calls Tryz.prog 16 #[ptS X, .pointer (some ⟨Y.q, 0, none⟩), .agg #[.int .u8 4, .int .u32 1, .int .u32 (id : Nat), .int .u32 (p1 : Nat), .int .u32 (p2 : Nat), .int .u32 (p3 : Nat), .int .u32 0, .bool false, .int .u64 (Z : Nat), .slice none 0 0, .int .i64 0]] W (TakO w.heap.size w X Y us (S', l', movD S id (p1, p2, p3), 0)) := fun W us h => by
     have h2 := take_any h HY.out.2.1 (by rw [HY.out.1]; exact HI.out.2.1) ⟨4, 1, id, p1, p2, p3, 0, false, sumC (D.at_ id) p1 p2, [], 0⟩ hfo none 0
     rw [HY.out.1, hta] at h2
     rw [hZ]
     exact h2
    have HSu := Lib.hid hSu
    have HTk := Lib.hid hTk
    have HS' := Lib.hid (And.intro hok' (And.intro hag' (And.intro hep' (And.intro htk' hco'))))
    clear hSu hTk hok' hag' hep' htk' hco' hfo hta hZ hcr
    go_upto_region 20 with fail
    refine wp_region_ext (by kernel_rfl) (by kernel_rfl) ?_
    repeat (go_big_quiet_step ((go_at_call 15; exact HSu.out _)))
    refine wpQuiet_nil ?_
    rintro wy ⟨yy, hwy⟩
    obtain ⟨us0, hus0⟩ : ∃ us, us = thB g14 40 #[.int .u32 (p1 : Nat), .int .u32 (p2 : Nat), .int .u32 (p3 : Nat)] :: thR 40 encPl 3 (.slice U i cu) PL :: L := ⟨_, rfl⟩
    have h9 : Sd w.heap.size w wy X S (thBk Y :: us0) := by
     rw [hus0]
     exact (HKp.out.2.2.go (show Below W3.heap.size W3 wy by rw [hwy]; exact plus_below W3 yy)).perm (List.Perm.swap _ _ _)
    have hm4 : thR 60 encSe 2 (.slice (some ⟨gr, 0, none⟩) tn cc) T ∈ thBk Y :: us0 := by
     rw [hus0]
     exact List.mem_cons_of_mem _ (List.mem_cons_of_mem _ (List.mem_cons_of_mem _ HMem.out.1))
    have hm5 : thB g14 40 #[.int .u32 (p1 : Nat), .int .u32 (p2 : Nat), .int .u32 (p3 : Nat)] ∈ thBk Y :: us0 := by
     rw [hus0]
     exact List.mem_cons_of_mem _ List.mem_cons_self
    clear C1 C2 hwy HSu hm3
    go_upto_region 21 with fail
    obtain ⟨I, hI⟩ : ∃ I : Rec → World → Prop, ∀ E W, I E W ↔ ((E 10 = none ∧ Sd w.heap.size w W X S (thBk Y :: us0)) ∨ (E 10 ≠ none ∧ Sd w.heap.size w W X S' (thBk Y :: us0))) := ⟨_, fun _ _ => Iff.rfl⟩
    have hI0 : I (fun _ => none) wy.drew := (hI _ _).2 (.inl ⟨rfl, h9.go (Below.refl _ _).drew⟩)
    haveI : Nonempty (InvW I) := ⟨⟨_, _, hI0⟩⟩
    have hIs : ∀ y : InvW I, Sep w.heap.size w y.W (thBk Y :: us0) := fun y => by
     rcases (hI _ _).1 y.h with ⟨-, h⟩ | ⟨-, h⟩
     ·exact h.sep
     ·exact h.sep
    have e1 : ∀ y : InvW I, y.W.cell? ⟨gr, i * 2, none⟩ = some (.int .u32 (id : Nat)) := fun y => HCr.out _ _ (hIs y) hm4
    have e2 := fun y : InvW I => cells_say (show Blk y.W g14 40 #[.int .u32 (p1 : Nat), .int .u32 (p2 : Nat), .int .u32 (p3 : Nat)] from (hIs y).get hm5) _ 0 rfl
    simp only [cellsSay, List.drop_zero, Nat.reduceAdd, and_true] at e2
    have HI2 := Lib.hid hI
    have HM4 := Lib.hid (And.intro hm4 hus0)
    clear hI hIs hm4 hm5 hus0 h9
    refine wp_region_inv I [[], [], [], [], [], [], [], [], [], [], []] [4, 10] (fun k v => if k = 4 then v = .pointer (some ⟨gr, i * 2, none⟩) else True) hmx (by kernel_rfl) hI0 ?_
    iterate 4 (refine walkJ_one rfl (by kernel_rfl) ?_; go_big_quiet_step (fail); refine wpQuiet_nil ?_)
    refine walkJ_turn rfl rfl ⟨_, rfl⟩ (fun s W1 hs h7 _ => ?_) ?_
    ·exact inv_val (W' := W1) (v := .pointer (some ⟨gr, i * 2, none⟩)) (by simp [execOp, go_sem, hit2]) ⟨rfl, (HI2.out _ _).2 (by rw [recSet_ne (by decide)]; exact (HI2.out _ _).1 hs)⟩
    rintro v rfl
    conv => arg 11; simp [Act.put]
    iterate 5 (refine walkJ_one rfl (by kernel_rfl) ?_; go_big_quiet_step (fail); refine wpQuiet_nil ?_)
    refine walkJ_turn rfl rfl ⟨undef, trivial⟩ (fun s W1 hs h7 _ => ?_) ?_
    ·rcases (HI2.out _ _).1 hs with ⟨-, h⟩ | ⟨h, -⟩
     ·refine inv_call (by simp [execOp, go_sem]) ((HTk.out _ _ h).mono ?_)
      rintro e w7 ⟨U7, c7, T7, rfl, -, h7'⟩
      exact ⟨_, rfl, trivial, (HI2.out _ _).2 (.inr ⟨(by rw [recSet_same]; intro e; cases e), h7'.sub ((List.sublist_append_right _ _).cons_cons _)⟩)⟩
     ·exact absurd h7 h
    rintro v -
    conv => arg 11; simp [Act.put]
    refine walkJ_end ?_
    intro W9 hW9
    have h10 : Sd w.heap.size w W9 X S' (thBk Y :: us0) := by
     rcases (HI2.out _ _).1 hW9 with ⟨h, -⟩ | ⟨-, h⟩
     ·rw [recSet_same] at h; cases h
     ·exact h
    have C1 : W9.cell? ⟨gr, i * 2, none⟩ = some (.int .u32 (id : Nat)) := HCr.out _ _ h10.sep HM4.out.1
    rw [HM4.out.2] at h10
    have hCo := come_any h10 id id32
    rw [HS'.out.2.2.2.2 id, if_pos rfl] at hCo
    simp only [plE, plV] at hCo
    have HCo := Lib.hid hCo
    have H10 := Lib.hid h10
    clear e1 e2 hI0 HI2 hW9 h10 hCo HTk
    go_upto_region 23 with (first
     | (go_at_call 17; refine HCo.out.mono ?_; rintro e w8 ⟨rfl, b8⟩; obtain ⟨F8, q8, hs8⟩ := H10.out.go b8)
     | (at_builtin; go_must (refine sep_app1 Tryz.eltPl rfl (.tmp 121) (.tmp 129) rfl 9 (.slice U i cu) PL (by simp [Act.eval, Act.put]) (hs8.box #[.int .u32 (p1 : Nat), .int .u32 (p2 : Nat), .int .u32 (p3 : Nat)] 40) rfl w8.heap.size 1 (p1, p2, p3) 40 #[.int .u32 (p1 : Nat), .int .u32 (p2 : Nat), .int .u32 (p3 : Nat)] rfl (Blk.new w8 _ _) rfl (by unfold maxLen; rw [HI.out.1]; omega) (by rw [HI.out.1]; omega) ?_); intro g11 c11 w11 hS11; rw [HI.out.1] at hS11 ⊢))
    simp only [List.set_cons_succ, List.set_cons_zero] at hS11
    have h11 : Sd w.heap.size w w11 X S' (thBk Y :: thB g14 40 #[.int .u32 (p1 : Nat), .int .u32 (p2 : Nat), .int .u32 (p3 : Nat)] :: thR 40 encPl 3 (.slice (some ⟨g11, 0, none⟩) (i + 1) c11) (PL ++ [(p1, p2, p3)]) :: L) := ⟨F8, q8, hS11.tail⟩
    have C2 : ∀ y : More, (plus w11 y).cell? ⟨gr, i * 2, none⟩ = some (.int .u32 (id : Nat)) := fun y => HCr.out _ _ (h11.go (plus_below w11 y)).sep (List.mem_cons_of_mem _ (List.mem_cons_of_mem _ (List.mem_cons_of_mem _ HMem.out.1)))
    have C3 := fun (y : More) => cells_say ((h11.go (plus_below w11 y)).blkAt 1) _ 0 rfl
    simp only [cellsSay, List.drop_zero, Nat.reduceAdd, and_true] at C3
    have hCo := fun (y : More) => ext_of (come_any (h11.go (plus_below w11 y)) id id32)
    rw [HS'.out.2.2.2.2 id, if_pos rfl] at hCo
    simp only [plE, plV] at hCo
    have hQ : ∀ w, (binOp .neq 40 (.agg #[.int .u32 (p1 : Nat), .int .u32 (p2 : Nat), .int .u32 (p3 : Nat)]) (.agg #[.int .u32 (p1 : Nat), .int .u32 (p2 : Nat), .int .u32 (p3 : Nat)])).run Tryz.prog w = .ok (.bool false) w := fun w => by
     rw [nePlB_run p1 p2 p3 p1 p2 p3 w, decide_eq_true rfl]
     rfl
    have HCo2 := Lib.hid hCo
    have H11 := Lib.hid h11
    clear C1 hS11 hs8 b8 h11 hCo HCo H10
    refine wp_region_ext (by kernel_rfl) (by kernel_rfl) ?_
    repeat (go_big_quiet_step ((go_at_call 17; exact HCo2.out _)))
    refine wpQuiet_nil ?_
    rintro wz ⟨yz, hwz⟩
    have H12 := Lib.hid (H11.out.go (show Below w11.heap.size w11 wz by rw [hwz]; exact plus_below w11 yz))
    clear C2 C3 hwz hQ HCo2 H11
    go_wp2_with fail
    go_roundw
    case measure => simp [intOf]; omega
    case rel => exact ⟨i + 1, some ⟨g11, 0, none⟩, c11, PL ++ [(p1, p2, p3)], S', rfl, by go_num, by omega, Lib.hid ⟨by rw [List.length_append, HI.out.1]; rfl, HS'.out.1, HS'.out.2.1, HS'.out.2.2.1, HS'.out.2.2.2.1.trans HI.out.2.2.2.2.1, again_places HK.out.2.1 HZ.out.2.2.2 HI.out.1 HS'.out.2.2.2.2 HI.out.2.2.2.2.2.1, H12.out.sub ((List.sublist_cons_self _ _).cons_cons _)⟩⟩
  ·have hin : i = tn := by omega
   subst hin
   have hit2 : ¬ (i : Int) < (i : Int) := by omega
   have D9 := cells_say (show Blk wo g9 26 #[.int .i64 64, .int .i64 1048576, .int .i64 (sz : Nat), .int .i64 (bw : Nat), .int .i64 (tq : Nat), .int .i64 1048576] from HI.out.2.2.2.2.2.2.sep.get (List.mem_cons_of_mem _ (List.mem_cons_of_mem _ HMem.out.2))) _ 0 rfl
   simp only [cellsSay, List.drop_zero, Nat.reduceAdd, and_true] at D9
   obtain ⟨nt, hnt⟩ : ∃ n, n = 16 * tq := ⟨_, rfl⟩
   have htq := HBw.out.2
   have hnt32 : nt < 4294967296 := by omega
   have hv1 : IntKind.i64.wrap (16 * (tq : Int)) = (nt : Int) := by rw [IntKind.wrap_i64]; omega
   have hTi := tick_any HI.out.2.2.2.2.2.2 HY.out.2.1 (by rw [HY.out.1]; exact HI.out.2.1) nt hnt32
   have hnw : S.tk ≤ (S.now + nt) % 18446744073709551616 := by
    rw [HI.out.2.2.1.now, HI.out.2.2.2.2.1]
    omega
   rw [HY.out.1] at hTi
   obtain ⟨nw, hnwe⟩ : ∃ n, n = (S.now + nt) % 18446744073709551616 := ⟨_, rfl⟩
   rw [← hnwe] at hTi hnw
   have HTi := Lib.hid hTi
   have hnw2 : nw < 18446744073709551616 := by rw [hnwe]; exact Nat.mod_lt _ (by decide)
   have HNw := Lib.hid (And.intro hnw hnw2)
   clear hTi hnw hnw2 hnwe hnt htq
   go_upto_region 25 with fail
   clear hit2
   go_upto_region 28 with (go_at_call 24; refine HTi.out.mono ?_; rintro e w7 ⟨ll, MM, hdu, U9, c9, T9, rfl, hT9, h9⟩)
   obtain ⟨R, hR⟩ : ∃ R, R = pumpD D (firedL D ll { S with now := nw, TM := MM }) := ⟨_, rfl⟩
   rw [← hR] at hT9 h9
   obtain ⟨m9, hm9⟩ : ∃ m, m = T9.length := ⟨_, rfl⟩
   rw [← hm9] at h9 ⊢
   obtain ⟨L9, hL9⟩ : ∃ L9, L9 = chT (.slice U9 m9 c9) T9 ++ (thR 40 encPl 3 (.slice U i cu) PL :: L) := ⟨_, rfl⟩
   rw [← hL9] at h9
   have hmS : thR 60 encSe 2 (.slice A i cc) T ∈ thBk Y :: L9 := by
    rw [hL9]
    exact List.mem_cons_of_mem _ (List.mem_append_right _ (List.mem_cons_of_mem _ HMem.out.1))
   have hmP : thR 40 encPl 3 (.slice U i cu) PL ∈ thBk Y :: L9 := by
    rw [hL9]
    exact List.mem_cons_of_mem _ (List.mem_append_right _ List.mem_cons_self)
   have hmF : thR 46 encFrE 11 (.slice U9 m9 c9) T9 ∈ thBk Y :: L9 := by
    rw [hL9]
    exact List.mem_cons_of_mem _ (List.mem_append_left _ List.mem_cons_self)
   have hokR : OkSn D R.1 := by
    rw [hR]
    exact ((HI.out.2.1.due HI.out.2.2.2.2.2.2.ndT HNw.out.2 hdu).firedL ll).pump HY.out.2.2.1
   have HR := Lib.hid (And.intro hR (And.intro hdu (And.intro hT9 (And.intro hm9 (And.intro hokR (And.intro hmS (And.intro hmP hmF)))))))
   have H9 := Lib.hid h9
   clear hR hdu hT9 hm9 hL9 hmS hmP hmF hokR h9 D9 hv1 HTi
   go_loopw [25, 26] (fun s25 s26 wr => ∃ (j : Nat) (fo : Option Nat), s25 = .int .i64 (afiV fo) ∧ s26 = .int .i64 (j : Nat) ∧ j ≤ i ∧ Hid (AfiI D S K j fo ∧ Sd w.heap.size w wr X R.1 (thBk Y :: L9)))
    (fun _ s26 _ => i - (intOf s26).toNat)
   case atStart => exact ⟨0, none, rfl, by go_num, Nat.zero_le _, Lib.hid ⟨fun j x hj => absurd hj (Nat.not_lt_zero _), H9.out⟩⟩
   case round =>
    obtain ⟨j, fo, rfl, rfl, hj, HJ⟩ := hrel
    obtain ⟨wj, hwj⟩ : ∃ wj, wj = wr := ⟨_, rfl⟩
    rw [← hwj] at HJ ⊢
    clear hwj
    by_cases hji : j < i
    ·have hji2 : (j : Int) < (i : Int) := by omega
     obtain ⟨z, hz⟩ : ∃ z, T[j]? = some z := ⟨_, List.getElem?_eq_getElem (by rw [← HK.out.2.2.2.2]; exact hji)⟩
     have hzi := HK.out.2.2.2.1 j z hz
     obtain ⟨id, hid⟩ : ∃ x, x = z.id := ⟨_, rfl⟩
     rw [← hid] at hzi
     have id32 := hzi.1
     have hpj := (HI.out.2.2.2.2.2.1 j id hzi.2).1 hji
     obtain ⟨gr, hgr, -, -⟩ := row_at Tryz.eltSe (HJ.out.2.sep.get (t := thR 60 encSe 2 (.slice A i cc) T) HR.out.2.2.2.2.2.1) hz
     subst hgr
     obtain ⟨gp, hgp, -, -⟩ := row_at Tryz.eltPl (HJ.out.2.sep.get (t := thR 40 encPl 3 (.slice U i cu) PL) HR.out.2.2.2.2.2.2.1) hpj
     subst hgp
     obtain ⟨⟨c1, c2, c3⟩, hc⟩ : ∃ p, p = S.come id := ⟨_, rfl⟩
     rw [← hc] at hpj
     have hcr : ∀ (k : Nat) (y : Se), T[k]? = some y → ∀ W, Sep w.heap.size w W (thBk Y :: L9) → W.cell? ⟨gr, k * 2, none⟩ = some (.int .u32 (y.id : Nat)) := fun k y hy W h => row_cellE Tryz.eltSe (h.get (t := thR 60 encSe 2 (.slice (some ⟨gr, 0, none⟩) i cc) T) HR.out.2.2.2.2.2.1) hy 0 _ rfl
     have C1 : ∀ y : More, (plus wj y).cell? ⟨gr, j * 2, none⟩ = some (.int .u32 (id : Nat)) := fun y => by rw [hid]; exact hcr j z hz _ (HJ.out.2.go (plus_below wj y)).sep
     have C2 : ∀ y : More, (plus wj y).cell? ⟨gp, j * 3, none⟩ = some (.int .u32 (c1 : Nat)) := fun y => row_cellE Tryz.eltPl ((HJ.out.2.go (plus_below wj y)).sep.get (t := thR 40 encPl 3 (.slice (some ⟨gp, 0, none⟩) i cu) PL) HR.out.2.2.2.2.2.2.1) hpj 0 _ rfl
     have C3 : ∀ y : More, (plus wj y).cell? ⟨gp, j * 3 + 1, none⟩ = some (.int .u32 (c2 : Nat)) := fun y => row_cellE Tryz.eltPl ((HJ.out.2.go (plus_below wj y)).sep.get (t := thR 40 encPl 3 (.slice (some ⟨gp, 0, none⟩) i cu) PL) HR.out.2.2.2.2.2.2.1) hpj 1 _ rfl
     have C4 : ∀ y : More, (plus wj y).cell? ⟨gp, j * 3 + 2, none⟩ = some (.int .u32 (c3 : Nat)) := fun y => row_cellE Tryz.eltPl ((HJ.out.2.go (plus_below wj y)).sep.get (t := thR 40 encPl 3 (.slice (some ⟨gp, 0, none⟩) i cu) PL) HR.out.2.2.2.2.2.2.1) hpj 2 _ rfl
     have hEn := fun (y : More) => ext_of (bEnd_any (RdK.of ((HJ.out.2.go (plus_below wj y)).sep.at_ (t := thBk Y) 0 rfl)) HY.out.2.1 id id32)
     rw [HY.out.1] at hEn
     obtain ⟨⟨e1, e2, e3⟩, he⟩ : ∃ p, p = endC (D.at_ id) := ⟨_, rfl⟩
     rw [← he] at hEn
     simp only [plV, prB] at hEn
     have HEn := Lib.hid hEn
     have HZ := Lib.hid (And.intro hzi.2 (And.intro hc (And.intro he (And.intro hcr hz))))
     clear hz hzi hid hpj hc he hEn hcr
     by_cases hq : (c1, c2, c3) = (e1, e2, e3)
     ·have hQ : ∀ w, (binOp .neq 40 (.agg #[.int .u32 (c1 : Nat), .int .u32 (c2 : Nat), .int .u32 (c3 : Nat)]) (.agg #[.int .u32 (e1 : Nat), .int .u32 (e2 : Nat), .int .u32 (e3 : Nat)])).run Tryz.prog w = .ok (.bool false) w := fun w => by
       rw [nePlB_run c1 c2 c3 e1 e2 e3 w, decide_eq_true hq]
       rfl
      have HQ := Lib.hid hq
      clear hq
      go_upto_region 30 with fail
      refine wp_region_ext (by kernel_rfl) (by kernel_rfl) ?_
      repeat (go_big_quiet_step ((go_at_call 18; exact HEn.out _)))
      refine wpQuiet_nil ?_
      rintro wz ⟨yz, hwz⟩
      have H12 := Lib.hid (HJ.out.2.go (show Below wj.heap.size wj wz by rw [hwz]; exact plus_below wj yz))
      clear C1 C2 C3 C4 hwz hQ HEn
      go_wp2_with fail
      go_roundw
      case measure => simp [intOf]; omega
      case rel => exact ⟨j + 1, fo, rfl, by go_num, by omega, Lib.hid ⟨afi_skip HZ.out.1 (HZ.out.2.1.symm.trans (HQ.out.trans HZ.out.2.2.1)) HJ.out.1, H12.out⟩⟩
     ·have hQ : ∀ w, (binOp .neq 40 (.agg #[.int .u32 (c1 : Nat), .int .u32 (c2 : Nat), .int .u32 (c3 : Nat)]) (.agg #[.int .u32 (e1 : Nat), .int .u32 (e2 : Nat), .int .u32 (e3 : Nat)])).run Tryz.prog w = .ok (.bool true) w := fun w => by
       rw [nePlB_run c1 c2 c3 e1 e2 e3 w, decide_eq_false hq]
       rfl
      have HQ := Lib.hid (show S.come id ≠ endC (D.at_ id) by rw [← HZ.out.2.1, ← HZ.out.2.2.1]; exact hq)
      clear hq
      cases fo with
      | none =>
       rw [show afiV none = -1 from rfl]
       go_upto_region 30 with fail
       refine wp_region_ext (by kernel_rfl) (by kernel_rfl) ?_
       repeat (go_big_quiet_step ((go_at_call 18; exact HEn.out _)))
       refine wpQuiet_nil ?_
       rintro wz ⟨yz, hwz⟩
       have H12 := Lib.hid (HJ.out.2.go (show Below wj.heap.size wj wz by rw [hwz]; exact plus_below wj yz))
       clear C1 C2 C3 C4 hwz hQ HEn
       go_wp2_with fail
       go_roundw
       case measure => simp [intOf]; omega
       case rel => exact ⟨j + 1, some j, rfl, by go_num, by omega, Lib.hid ⟨afi_first HZ.out.1 HQ.out HJ.out.1, H12.out⟩⟩
      | some f =>
       rw [show afiV (some f) = ((f : Nat) : Int) from rfl]
       have hfj : f < j := HJ.out.1.1
       obtain ⟨zf, hzf⟩ : ∃ z, T[f]? = some z := ⟨_, List.getElem?_eq_getElem (by rw [← HK.out.2.2.2.2]; omega)⟩
       obtain ⟨idf, hidf⟩ : ∃ x, x = zf.id := ⟨_, rfl⟩
       have hkf := (HK.out.2.2.2.1 f zf hzf).2
       have C5 : ∀ y : More, (plus wj y).cell? ⟨gr, f * 2, none⟩ = some (.int .u32 (idf : Nat)) := fun y => by rw [hidf]; exact HZ.out.2.2.2.1 f zf hzf _ (HJ.out.2.go (plus_below wj y)).sep
       rw [← hidf] at hkf
       have HKf := Lib.hid hkf
       have kf0 : ¬ ((f : Nat) : Int) < 0 := by omega
       have kf1 : decide (((f : Nat) : Int) < 0) = false := decide_eq_false kf0
       have kf2 : ((f : Nat) : Int) < (i : Int) := by omega
       clear hzf hidf hkf
       by_cases hlt : id < idf
       ·have kl : ((id : Nat) : Int) < ((idf : Nat) : Int) := by omega
        have kl2 : decide (id < idf) = true := decide_eq_true hlt
        have HLt := Lib.hid hlt
        clear hlt
        go_upto_region 30 with fail
        refine wp_region_ext (by kernel_rfl) (by kernel_rfl) ?_
        repeat (go_big_quiet_step ((go_at_call 18; exact HEn.out _)))
        refine wpQuiet_nil ?_
        rintro wz ⟨yz, hwz⟩
        have H12 := Lib.hid (HJ.out.2.go (show Below wj.heap.size wj wz by rw [hwz]; exact plus_below wj yz))
        clear C1 C2 C3 C4 C5 hwz hQ HEn
        go_wp2_with fail
        go_roundw
        case measure => simp [intOf]; omega
        case rel => exact ⟨j + 1, some j, rfl, by go_num, by omega, Lib.hid ⟨afi_less HZ.out.1 HQ.out HKf.out HLt.out HJ.out.1, H12.out⟩⟩
       ·have kl : ¬ ((id : Nat) : Int) < ((idf : Nat) : Int) := by omega
        have kl2 : decide (id < idf) = false := decide_eq_false hlt
        have HLt := Lib.hid hlt
        clear hlt
        go_upto_region 30 with fail
        refine wp_region_ext (by kernel_rfl) (by kernel_rfl) ?_
        repeat (go_big_quiet_step ((go_at_call 18; exact HEn.out _)))
        refine wpQuiet_nil ?_
        rintro wz ⟨yz, hwz⟩
        have H12 := Lib.hid (HJ.out.2.go (show Below wj.heap.size wj wz by rw [hwz]; exact plus_below wj yz))
        clear C1 C2 C3 C4 C5 hwz hQ HEn
        go_wp2_with fail
        go_roundw
        case measure => simp [intOf]; omega
        case rel => exact ⟨j + 1, some f, rfl, by go_num, by omega, Lib.hid ⟨afi_keep HZ.out.1 HKf.out HLt.out HJ.out.1, H12.out⟩⟩
    ·have hji' : j = i := by omega
     subst hji'
     have hji2 : ¬ (j : Int) < (j : Int) := by omega
     cases fo with
     | none =>
      obtain ⟨h1, h2, h3⟩ := again_none HY.out.2.2.1 HI.out.2.1 HI.out.2.2.1 HNw.out.1 HR.out.2.1 HK.out.1 HR.out.1 HK.out.2.2.1.symm HJ.out.1
      have hT0 : T9 = [] := List.map_eq_nil_iff.1 (HR.out.2.2.1.trans h1)
      have hm0 : m9 = 0 := by rw [HR.out.2.2.2.1, hT0]; rfl
      have hWy := way_any HJ.out.2
      rw [h2] at hWy
      have hBa := back_any HJ.out.2 HY.out.2.1 (by rw [HY.out.1]; exact HR.out.2.2.2.2.1)
      rw [HY.out.1, h3] at hBa
      simp only [prB] at hBa
      have HWy := Lib.hid hWy
      have HBa := Lib.hid hBa
      rw [show afiV none = -1 from rfl]
      subst hm0
      clear h1 h2 h3 hT0 hWy hBa
      go_wp2_with (first
       | (go_at_call 23; refine HWy.out.mono ?_; rintro e w8 ⟨rfl, rfl⟩)
       | (go_at_call 25; refine HBa.out.mono ?_; rintro e w9 ⟨rfl, b9⟩))
      go_ret
      exact ⟨rfl, (HJ.out.2.go b9).b⟩
     | some f =>
      obtain ⟨x, g, l', hfl, hkf, h1, h2, h3⟩ := again_some HY.out.2.2.1 HI.out.2.1 HI.out.2.2.1 HNw.out.1 HR.out.2.1 HK.out.1 HR.out.1 HK.out.2.2.1.symm HJ.out.1
      rw [show afiV (some f) = ((f : Nat) : Int) from rfl]
      have kf0 : ¬ ((f : Nat) : Int) < 0 := by omega
      have kf1 : decide (((f : Nat) : Int) < 0) = false := decide_eq_false kf0
      have kf2 : ((f : Nat) : Int) < (j : Int) := by omega
      obtain ⟨y9, T9', hT9⟩ : ∃ y T', T9 = y :: T' := by
       have := HR.out.2.2.1.trans h1
       cases T9 with
       | nil => cases this
       | cons y T' => exact ⟨y, T', rfl⟩
      have hg : y9.f = g := by
       have := HR.out.2.2.1.trans h1
       rw [hT9] at this
       injection this
      have hm0 : (0 : Int) < (m9 : Int) := by
       have := HR.out.2.2.2.1
       rw [hT9, List.length_cons] at this
       omega
      obtain ⟨zf, hzf⟩ : ∃ z, T[f]? = some z := ⟨_, List.getElem?_eq_getElem (by rw [← HK.out.2.2.2.2]; exact hfl)⟩
      have hkz := (HK.out.2.2.2.1 f zf hzf).2
      rw [hkf] at hkz
      injection hkz with hkz
      have hpf := (HI.out.2.2.2.2.2.1 f x hkf).1 hfl
      obtain ⟨gr, hgr, -, -⟩ := row_at Tryz.eltSe (HJ.out.2.sep.get (t := thR 60 encSe 2 (.slice A j cc) T) HR.out.2.2.2.2.2.1) hzf
      subst hgr
      obtain ⟨gp, hgp, -, -⟩ := row_at Tryz.eltPl (HJ.out.2.sep.get (t := thR 40 encPl 3 (.slice U j cu) PL) HR.out.2.2.2.2.2.2.1) hpf
      subst hgp
      obtain ⟨gf, hgf, -, hcf⟩ := row_at Tryz.eltFrE (HJ.out.2.sep.get (t := thR 46 encFrE 11 (.slice U9 m9 c9) T9) HR.out.2.2.2.2.2.2.2) (show T9[0]? = some y9 by rw [hT9]; rfl)
      subst hgf
      obtain ⟨⟨c1, c2, c3⟩, hc⟩ : ∃ p, p = S.come x := ⟨_, rfl⟩
      rw [← hc] at hpf h3
      obtain ⟨⟨kd, ep, se, fc, fb, fn, cn, cl, sm, fl, nn⟩, fA, fcc⟩ := y9
      dsimp only at hg
      subst hg
      dsimp only at h2 h3
      injection h3 with h31 h32
      injection h32 with h32 h33
      subst h31 h32 h33 h2
      have C1 : wj.cell? ⟨gr, f * 2, none⟩ = some (.int .u32 (se : Nat)) := by
       rw [hkz]
       exact row_cellE Tryz.eltSe (HJ.out.2.sep.get (t := thR 60 encSe 2 (.slice (some ⟨gr, 0, none⟩) j cc) T) HR.out.2.2.2.2.2.1) hzf 0 _ rfl
      have C2 : wj.cell? ⟨gp, f * 3, none⟩ = some (.int .u32 (fc : Nat)) := row_cellE Tryz.eltPl (HJ.out.2.sep.get (t := thR 40 encPl 3 (.slice (some ⟨gp, 0, none⟩) j cu) PL) HR.out.2.2.2.2.2.2.1) hpf 0 _ rfl
      have C3 : wj.cell? ⟨gp, f * 3 + 1, none⟩ = some (.int .u32 (fb : Nat)) := row_cellE Tryz.eltPl (HJ.out.2.sep.get (t := thR 40 encPl 3 (.slice (some ⟨gp, 0, none⟩) j cu) PL) HR.out.2.2.2.2.2.2.1) hpf 1 _ rfl
      have C4 : wj.cell? ⟨gp, f * 3 + 2, none⟩ = some (.int .u32 (fn : Nat)) := row_cellE Tryz.eltPl (HJ.out.2.sep.get (t := thR 40 encPl 3 (.slice (some ⟨gp, 0, none⟩) j cu) PL) HR.out.2.2.2.2.2.2.1) hpf 2 _ rfl
      have F2 : wj.cell? ⟨gf, 2, none⟩ = some (.int .u32 (se : Nat)) := by have := hcf 2 _ rfl; rw [Nat.zero_mul, Nat.zero_add] at this; exact this
      have F3 : wj.cell? ⟨gf, 3, none⟩ = some (.int .u32 (fc : Nat)) := by have := hcf 3 _ rfl; rw [Nat.zero_mul, Nat.zero_add] at this; exact this
      have F4 : wj.cell? ⟨gf, 4, none⟩ = some (.int .u32 (fb : Nat)) := by have := hcf 4 _ rfl; rw [Nat.zero_mul, Nat.zero_add] at this; exact this
      have F5 : wj.cell? ⟨gf, 5, none⟩ = some (.int .u32 (fn : Nat)) := by have := hcf 5 _ rfl; rw [Nat.zero_mul, Nat.zero_add] at this; exact this
      have hQ : ∀ w, (binOp .eql 40 (.agg #[.int .u32 (fc : Nat), .int .u32 (fb : Nat), .int .u32 (fn : Nat)]) (.agg #[.int .u32 (fc : Nat), .int .u32 (fb : Nat), .int .u32 (fn : Nat)])).run Tryz.prog w = .ok (.bool true) w := fun w => by
       rw [eqPlB_run fc fb fn fc fb fn w, decide_eq_true rfl]
      have hb := Lib.hid HJ.out.2.b
      have C := And.intro C1 (And.intro C2 (And.intro C3 (And.intro C4 (And.intro F2 (And.intro F3 (And.intro F4 F5))))))
      clear h1 hkf hkz hT9 hzf hpf hc hcf C1 C2 C3 C4 F2 F3 F4 F5 hfl
      go_upto_region 35 with fail
      go_loopw [27] (fun s27 wq => s27 = .int .i64 0 ∧ wq = wj) (fun _ _ => 0)
      case atStart => exact ⟨rfl, rfl⟩
      case round =>
       obtain ⟨rfl, rfl⟩ := hrel
       go_upto_region 37 with fail
       go_quiet (fail)
       go_upto_region 38 with fail
       go_quiet (fail)
       go_wp2_with fail
       go_ret
       exact ⟨rfl, below_drewN (below_drewN hb.out _) _⟩
end Go.Proofs.YtnjcdihgaidlbaaGreatDoor
