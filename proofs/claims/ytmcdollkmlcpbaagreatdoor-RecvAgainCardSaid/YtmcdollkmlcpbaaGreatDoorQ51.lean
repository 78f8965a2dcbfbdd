/- Joined: Bk37, Dg1, RvDat, Bk45, Bk47. -/
import Derived.Test.YtmcdollkmlcpbaaGreatDoorQ43
import Derived.Test.YtmcdollkmlcpbaaGreatDoorQ44
import Derived.Test.YtmcdollkmlcpbaaGreatDoorQ50
import Derived.Test.YtmcdollkmlcpbaaGreatDoorQ1
import Derived.Test.YtmcdollkmlcpbaaGreatDoorQ46
import Derived.Test.YtmcdollkmlcpbaaGreatDoorQ7
set_option linter.unusedSimpArgs false
set_option linter.unusedVariables false
set_option linter.unusedSimpArgs false
set_option linter.unusedVariables false
namespace Go.Proofs.YtmcdollkmlcpbaaGreatDoor
open Go.RowKit
set_option maxRecDepth 100000
section
variable {B : Nat} {w0 w w' : World} {q : Nat} {D : BD} {ts us : List Kt}
theorem bk_samples (h : Bk B w0 w q D ts) (hT : Tab w) (x : Nat) (hx : x < 4294967296) : Calls Tryz.prog 14 #[ptB q, .int .u32 (x : Nat)] w fun e w' => ∃ U n, e = .returned (.slice U (D.at_ x).flatten.length n) ∧ OwnR w' w.heap.size 42 smp 2 (.slice U (D.at_ x).flatten.length n) (D.at_ x).flatten ∧ Below w.heap.size w w' := by
 obtain ⟨X, rfl, rfl, ok, hS⟩ := h
 exact bSamples_any (RdK.of (hS.at_ 0 rfl)) ok hT x hx
theorem bk_series (h : Bk B w0 w q D ts) : Calls Tryz.prog 15 #[ptB q] w (SrtO w (D.M.map Prod.fst)) := by
 obtain ⟨X, rfl, rfl, ok, hS⟩ := h
 exact bSeries_any (RdK.of (hS.at_ 0 rfl)) ok
theorem bk_seriesN (h : Bk B w0 w q D ts) : Calls Tryz.prog 15 #[ptB q] w fun e w' => ∃ U c, e = .returned (.slice U D.M.length c) ∧ Below w.heap.size w w' := by
 refine (bk_series h).mono ?_
 rintro e w' ⟨U, c, xs, rfl, h1, h2, h3, h4⟩
 have hl := h1.length_eq
 rw [List.length_map] at hl
 rw [hl]
 exact ⟨U, c, rfl, h4⟩
end
theorem csame_eq (V U : Option Addr) (n c d : Nat) (a : List (Int × Nat)) (w : World) (hn : n = a.length) (hV : Rw w smp 2 V a) (hU : Rw w smp 2 U a) (hal : a.length ≤ 4096) :
  Calls Tryz.prog 13 #[.slice V n c, .slice U n d] w fun e w' => e = .returned (.bool true) ∧ Below w.heap.size w w' := by
 have := csame_any V U c d a a w hV.ss hU.ss hal hal
 rw [decide_eq_true rfl] at this
 rw [hn]
 exact this
end Go.Proofs.YtmcdollkmlcpbaaGreatDoor
set_option linter.unusedSimpArgs false
set_option linter.unusedVariables false
namespace Go.Proofs.YtmcdollkmlcpbaaGreatDoor
open Go.RowKit
set_option maxRecDepth 100000
theorem rise_uniq : ∀ {xs ys : List Nat}, xs.Perm ys → xs.Pairwise (· ≤ ·) → ys.Pairwise (· ≤ ·) → xs = ys
 | [], ys, hp, _, _ => hp.nil_eq
 | x :: xs, [], hp, _, _ => absurd hp.eq_nil (by simp)
 | x :: xs, y :: ys, hp, hx, hy => by
  have e : x = y := by
   have h1 : x ∈ y :: ys := hp.subset List.mem_cons_self
   have h2 : y ∈ x :: xs := hp.symm.subset List.mem_cons_self
   have a1 : ∀ z ∈ xs, x ≤ z := fun z hz => List.rel_of_pairwise_cons hx hz
   have a2 : ∀ z ∈ ys, y ≤ z := fun z hz => List.rel_of_pairwise_cons hy hz
   rcases List.mem_cons.1 h1 with h1 | h1
   ·exact h1
   ·rcases List.mem_cons.1 h2 with h2 | h2
    ·exact h2.symm
    ·exact Nat.le_antisymm (a1 _ h2) (a2 _ h1)
  subst e
  rw [rise_uniq (List.Perm.cons_inv hp) hx.tail hy.tail]
def ksD (D : BD) : List Nat := (D.M.map Prod.fst).mergeSort (fun a b => decide (a ≤ b))
theorem ksD_perm (D : BD) : (ksD D).Perm (D.M.map Prod.fst) := List.mergeSort_perm _ _
theorem ksD_rise (D : BD) : (ksD D).Pairwise (· ≤ ·) := by
 have h := List.pairwise_mergeSort (le := fun a b : Nat => decide (a ≤ b)) (fun a b c h1 h2 => by simp only [decide_eq_true_eq] at *; omega) (fun a b => by simp only [Bool.or_eq_true, decide_eq_true_eq]; omega) (D.M.map Prod.fst)
 exact h.imp fun h => of_decide_eq_true h
theorem ksD_of {D : BD} {xs : List Nat} (hp : xs.Perm (D.M.map Prod.fst)) (hr : xs.Pairwise (· ≤ ·)) : xs = ksD D := rise_uniq (hp.trans (ksD_perm D).symm) hr (ksD_rise D)
theorem ksD_len (D : BD) : (ksD D).length = D.M.length := by rw [(ksD_perm D).length_eq, List.length_map]
end Go.Proofs.YtmcdollkmlcpbaaGreatDoor
set_option linter.unusedSimpArgs false
set_option linter.unusedVariables false
namespace Go.Proofs.YtmcdollkmlcpbaaGreatDoor
open Go.RowKit
set_option maxRecDepth 100000
def noF (f : FrD) : NoD := ⟨4, 0, f.se, 0, 0, f.fc, f.fb, f.fn, f.cn, f.cl, f.l, f.n⟩
def frN (d : NoD) : FrD := ⟨0, 0, d.se, d.pc, d.pb, d.pn, d.cn, d.cl, 0, d.l, d.n⟩
def sumE (C : CsT) : Nat := sumC C (endC C).1 (endC C).2.1
def ansF (D : BD) (ep kd x : Nat) : FrD := ⟨kd, ep, x, (endC (D.at_ x)).1, (endC (D.at_ x)).2.1, (endC (D.at_ x)).2.2, 0, false, sumE (D.at_ x), [], 0⟩
def takF (D : BD) (f : FrD) : Nat := if mayN (noF f) = true ∧ (fitD D f).1 = 0 then 1 else 0
def reactF (D : BD) (f : FrD) : Nat :=
 if f.kd = 3 then
  if f.fc < (endC (D.at_ f.se)).1 ∨ f.fc = (endC (D.at_ f.se)).1 ∧ f.cn < (endC (D.at_ f.se)).2.2 then 2
  else if f.fc = (endC (D.at_ f.se)).1 then takF D f else 3
 else if (f.fc, f.fb, f.fn) = endC (D.at_ f.se) then (if f.sm = sumE (D.at_ f.se) then takF D f else 3)
 else if f.fc < (endC (D.at_ f.se)).1 ∨ f.fc = (endC (D.at_ f.se)).1 ∧ f.cn ≤ (endC (D.at_ f.se)).2.2 then 2 else 3
structure LkD where
 ep : Nat
 nd : NoD
 so : Bool
 fs : List FrD
 er : Nat
def lookF (D : BD) (ep : Nat) (f : FrD) : LkD :=
 if f.kd ≠ 1 ∧ f.kd ≠ 2 ∧ f.kd ≠ 3 then ⟨ep, zeroN, false, [], 1⟩
 else if f.ep < ep then ⟨ep, zeroN, false, [], 170⟩
 else if f.kd = 1 then ⟨f.ep, zeroN, false, (ksD D).map (ansF D f.ep 4), 0⟩
 else if reactF D f = 1 then ⟨f.ep, noF f, true, [], 0⟩
 else if reactF D f = 2 then ⟨f.ep, zeroN, false, [ansF D f.ep 4 f.se], 0⟩
 else if reactF D f = 3 then ⟨f.ep, zeroN, false, [ansF D f.ep 5 f.se], 0⟩
 else ⟨f.ep, zeroN, false, [], 171⟩
theorem look_ep (D : BD) (ep : Nat) (f : FrD) : ep ≤ (lookF D ep f).ep := by
 unfold lookF
 split
 ·exact Nat.le_refl _
 ·split
  ·exact Nat.le_refl _
  ·rename_i h
   have h2 : ep ≤ f.ep := by omega
   split
   ·exact h2
   ·split
    ·exact h2
    ·split
     ·exact h2
     ·split <;> exact h2
theorem look_er (D : BD) (ep : Nat) (f : FrD) (h : (lookF D ep f).er ≠ 0) : (lookF D ep f).so = false ∧ (lookF D ep f).fs = [] ∧ (lookF D ep f).nd = zeroN := by
 unfold lookF at h ⊢
 split
 ·exact ⟨rfl, rfl, rfl⟩
 ·rename_i h1
  rw [if_neg h1] at h
  split
  ·exact ⟨rfl, rfl, rfl⟩
  ·rename_i h2
   rw [if_neg h2] at h
   split
   ·rename_i h3
    rw [if_pos h3] at h
    exact absurd rfl h
   ·rename_i h3
    rw [if_neg h3] at h
    split
    ·rename_i h4
     rw [if_pos h4] at h
     exact absurd rfl h
    ·rename_i h4
     rw [if_neg h4] at h
     split
     ·rename_i h5
      rw [if_pos h5] at h
      exact absurd rfl h
     ·rename_i h5
      rw [if_neg h5] at h
      split
      ·rename_i h6
       rw [if_pos h6] at h
       exact absurd rfl h
      ·exact ⟨rfl, rfl, rfl⟩
end Go.Proofs.YtmcdollkmlcpbaaGreatDoor
set_option linter.unusedSimpArgs false
set_option linter.unusedVariables false
namespace Go.Proofs.YtmcdollkmlcpbaaGreatDoor
open Go.RowKit
set_option maxRecDepth 100000
def Bk2 (B : Nat) (w0 w : World) (q : Nat) (D : BD) (p : Nat) (E : BD) (ts : List Kt) : Prop := ∃ Y : Bl, Y.q = p ∧ Y.D = E ∧ OkB Y ∧ Bk B w0 w q D (thBk Y :: ts)
section
variable {B : Nat} {w0 w w' : World} {q p : Nat} {D E : BD} {ts us : List Kt}
theorem Bk2.swap (h : Bk2 B w0 w q D p E ts) : Bk2 B w0 w p E q D ts := by
 obtain ⟨Y, h1, h2, h3, X, h4, h5, h6, h7⟩ := h
 exact ⟨X, h4, h5, h6, Y, h1, h2, h3, h7.permB (List.Perm.swap _ _ _)⟩
theorem Bk2.sep (h : Bk2 B w0 w q D p E ts) : Sep B w0 w ts := by
 obtain ⟨Y, h1, h2, h3, h4⟩ := h
 exact h4.sep.tail
theorem Bk2.b (h : Bk2 B w0 w q D p E ts) : Below B w0 w := h.sep.b
theorem bk2_new (h : Bk B w0 w q D ts) (m c : Nat) (h1 : 1 ≤ m) (h2 : m ≤ 64) (h3 : 1 ≤ c) (h4 : c ≤ 24) : Calls Tryz.prog 16 #[.int .i64 (m : Nat), .int .i64 (c : Nat)] w fun e w' => ∃ p, e = .returned (ptB p) ∧ Bk2 B w0 w' q D p ⟨m, c, []⟩ ts := by
 obtain ⟨X, e1, e2, e3, hS⟩ := h
 refine (bk_new hS m c h1 h2 h3 h4).mono ?_
 rintro e w' ⟨p, rfl, hB⟩
 exact ⟨p, rfl, Bk2.swap ⟨X, e1, e2, e3, hB⟩⟩
end
end Go.Proofs.YtmcdollkmlcpbaaGreatDoor
set_option linter.unusedSimpArgs false
set_option linter.unusedVariables false
namespace Go.Proofs.YtmcdollkmlcpbaaGreatDoor
open Go.RowKit
set_option maxRecDepth 100000
set_option maxHeartbeats 16000000 in
theorem bk_fits {B : Nat} {w0 w : World} {q : Nat} {D : BD} {ts : List Kt} (h : Bk B w0 w q D ts) (hT : Tab w) (f : FrD) (hf : f.ok) (A : Option Addr) (c : Nat) (hb : Bs w A f.l) (hl : f.l.length ≤ 1000) :
  Calls Tryz.prog 60 #[ptB q, .agg (frC f A c)] w fun e w' => e = .returned (.int .u16 ((fitD D f).1 : Nat)) ∧ Below w.heap.size w w' := by
 have hmx : Tryz.prog.follows .mixedOrders = true := by kernel_rfl
 obtain ⟨X, rfl, rfl, ok, hS0⟩ := h
 obtain ⟨W, hW⟩ : ∃ W, W = w.alloc (.cells (frC f A c) 39) := ⟨_, rfl⟩
 obtain ⟨g3, hg3⟩ : ∃ g, g = w.heap.size := ⟨_, rfl⟩
 have bW : Below w.heap.size w W := by rw [hW]; exact below_alloc w _
 have cg : Blk W g3 39 (frC f A c) := by rw [hW, hg3]; exact Blk.new _ _ _
 have HFt := Lib.hid (bfitted_any (RdK.of ((hS0.go bW).at_ 0 rfl)) ok (tabGo hT bW) f hf A c (hb.below bW) hl)
 have HS := Lib.hid ((Sep.nil (Below.refl w.heap.size w) (Nat.le_refl _)).go bW)
 obtain ⟨⟨cd, S⟩, hr⟩ : ∃ r, r = fitD X.D f := ⟨_, rfl⟩
 rw [← hr] at HFt ⊢
 obtain ⟨a, ha⟩ : ∃ a, a = totC (X.D.at_ f.se).dropLast := ⟨_, rfl⟩
 rw [← ha] at HFt
 obtain ⟨kd, ep, se, fc, fb, fn, cn, cl, sm, fl, nn⟩ := f
 have C0 := cells_say cg _ 0 rfl
 simp only [cellsSay, frC, List.drop_zero, Nat.reduceAdd, and_true] at C0
 clear ok hS0 hT hf hb hl bW cg hr ha
 simp only [frC] at hW HFt ⊢
 by_cases h0 : cd = 0
 ·subst h0
  go_enter Tryz.func60, Tryz.ntmps60
  go_upto_region 1 with fail
  rw [← hW, ← hg3]
  clear hW hg3
  go_wp2_with (go_at_call 52; refine HFt.out.mono ?_; rintro e w2 ⟨b2, -, he⟩; obtain ⟨A2, c2, E2, ec2, hh, rfl, hh1, ho2, hlt2, hr2⟩ := he rfl; obtain ⟨⟨en, el, ed, ⟨eh, ev, eL, eX⟩⟩, hE0⟩ : ∃ E, E = lastC ec0 S := ⟨_, rfl⟩; simp only [← hE0]; clear hE0)
  go_ret
  exact ⟨rfl, ((HS.out.go b2).go (below_alloc2 w2 _ _)).b⟩
 ·have hne : (cd, S).1 ≠ 0 := h0
  go_enter Tryz.func60, Tryz.ntmps60
  go_upto_region 1 with fail
  rw [← hW, ← hg3]
  clear hW hg3
  go_wp2_with (go_at_call 52; refine HFt.out.mono ?_; rintro e w2 ⟨b2, he, -⟩; obtain rfl := he hne)
  go_ret
  exact ⟨rfl, ((HS.out.go b2).go (below_alloc2 w2 _ _)).b⟩
section
variable {B : Nat} {w0 w w' : World} {q p : Nat} {D E : BD} {ts us : List Kt}
theorem bk2_put (h : Bk2 B w0 w q D p E ts) (hT : Tab w) (x : Nat) (hx : x < 4294967296) (t : Int) (v : Nat) (hz : in64 t ∧ v < 18446744073709551616) (hn : (E.at_ x).flatten.length < 1000) :
  Calls Tryz.prog 23 #[ptB p, .int .u32 (x : Nat), .agg #[.int .i64 t, .int .u64 (v : Nat)]] w fun e w' => e = .returned (.int .u16 (mayD E x t : Nat)) ∧ Bk2 B w0 w' q D p (putD E x (t, v)) ts := by
 obtain ⟨X, e1, e2, e3, hS⟩ := h.swap
 refine (bk_put hS hT x hx t v hz hn).mono ?_
 rintro e w' ⟨rfl, hB⟩
 exact ⟨rfl, Bk2.swap ⟨X, e1, e2, e3, hB⟩⟩
end
end Go.Proofs.YtmcdollkmlcpbaaGreatDoor
