/- Layer 13: slices.IndexFunc with what remove hands it. -/
import Derived.Test.YtlchnpmiaemobaaWin6
set_option linter.unusedSimpArgs false
set_option linter.unusedVariables false
namespace Go.Proofs.Ytlchnpmiaemobaa
open Go.RowKit
set_option maxRecDepth 100000

theorem OwnR.at_ {P : Program} {α : Type} {t e : TypeId} {enc : α → List Value} {sz bytes : Nat} (E : Elt P t e enc sz bytes) {w : World} {base n c : Nat} {A : Option Addr} {l : List α} (h : OwnR w base e enc sz (.slice A n c) l) (k : Nat) (hk : k < l.length) :
    ∃ p, A = some ⟨p, 0, none⟩ ∧ (∀ j v, (enc l[k])[j]? = some v → w.cell? ⟨p, k * sz + j, none⟩ = some v) ∧ (∀ j, w.frozen? ⟨p, k * sz + j, none⟩ = false) ∧ n = l.length ∧ n ≤ c ∧ (Value.slice A n c).ownBlock = some p := by
  obtain ⟨A', c', hv, hlc, hr⟩ := OwnR.row E h
  injection hv with e1 e2 e3
  subst e1; subst e2; subst e3
  rcases h.2 with ⟨e0, h0⟩ | ⟨g, cap, cur, e0, hb, hg, hn, hm, hs, ht⟩
  · injection e0 with e1 e2 _
    omega
  · injection e0 with e1 e2 e3
    subst e1
    refine ⟨g, rfl, fun j v hj => ?_, fun j => World.ownsRow.frozenAt h _, rfl, hlc, rfl⟩
    obtain ⟨p, o, hA, hc⟩ := hr k l[k] (List.getElem?_eq_getElem hk)
    injection hA with e1
    injection e1 with e1 e2 _
    subst e1; subst e2
    have := hc j v hj
    rwa [Nat.zero_add] at this

theorem idx_none (E : Kq) (g q1 q2 : Nat) (b n : Int) (gone : PC → Bool) (hd : DelE E g q1 q2 b gone) (A : Option Addr) (c : Nat) (V : Value) (l : List PC) (w : World) (hE : E.P w) (hg : Blk w g 78 #[.int .i64 b, .int .i64 n, V])
    (hr : OwnR w 0 31 encP 8 (.slice A l.length c) l) (hok : ∀ p ∈ l, 0 ≤ p.n ∧ p.n ≤ n) (hn : n ≤ 1000000000000) (hl : l.length ≤ 1000000) (hno : ∀ p ∈ l, gone p = false) :
    Calls Try.prog 60 #[.slice A l.length c, .func (.func 54) #[] #[.pointer (some ⟨q1, 0, none⟩), .pointer (some ⟨q2, 0, none⟩)]] w fun e w' => e = .returned (.int .i64 (-1)) ∧ Below w.heap.size w w' := by
  have HK := Lib.hid ((((Qs.zero w).cons (k := E) hE).cons (k := qB _ _ _) hg).cons (k := qV _ _ _ _ _ _) hr)
  have HD := Lib.hid hd
  have HN := Lib.hid hno
  have HO := Lib.hid hok
  clear hd hE hg hr hno hok
  go_enter Try.func60, Try.ntmps60
  go_wp2_with fail
  go_loopw [8] (fun i wr => ∃ k : Nat, k ≤ l.length ∧ i = .int .i64 k ∧ Hid (Qs wr [qV 0 31 encP 8 (.slice A l.length c) l, qB g 78 #[.int .i64 b, .int .i64 n, V], E, qW w w.heap.size (Nat.le_refl _)]))
    (fun i _ => l.length - (intOf i).toNat)
  case atStart => exact ⟨0, Nat.zero_le _, rfl, HK⟩
  case round =>
    obtain ⟨k, hk, rfl, HR⟩ := hrel
    by_cases hlt : k < l.length
    · obtain ⟨p, rfl, hc, hf, -, -, -⟩ := OwnR.at_ Try.eltP (HR.out.rowV 0) k hlt
      have hgo := HN.out l[k] (List.getElem_mem hlt)
      have hpb := HO.out l[k] (List.getElem_mem hlt)
      obtain ⟨pc, hpc⟩ : ∃ pc, pc = l[k] := ⟨_, rfl⟩
      rw [← hpc] at hc hgo hpb
      clear hpc hf
      obtain ⟨se, f0, f1, f2, t0, t1, t2, pn⟩ := pc
      have hD := fun W V hE hg => HD.out.1 W n V ⟨se, f0, f1, f2, t0, t1, t2, pn⟩ hgo hE hg hpb.1 hpb.2 hn
      simp only [encP] at hD
      have C := And.intro (hc 0 _ rfl) (And.intro (hc 1 _ rfl) (And.intro (hc 2 _ rfl) (And.intro (hc 3 _ rfl) (And.intro (hc 4 _ rfl) (And.intro (hc 5 _ rfl) (And.intro (hc 6 _ rfl) (hc 7 _ rfl)))))))
      simp only [Nat.add_zero] at C
      have HDk := Lib.hid hD
      clear hD hc hgo hpb
      go_wp2_with fail
      refine (HDk.out _ V (HR.out.get 2 rfl) (HR.out.blk 1)).mono ?_
      rintro e w1 ⟨rfl, b1⟩
      have HR1 := Lib.hid (HR.out.go b1)
      clear C b1
      go_wp2_with fail
      go_roundw
      case measure => simp [intOf]; omega
      case rel => exact ⟨k + 1, by omega, by go_num, HR1⟩
    · obtain rfl : k = l.length := by omega
      go_wp2_with fail
      go_ret
      exact ⟨rfl, HR.out.top 3⟩

theorem idx_some (E : Kq) (g q1 q2 : Nat) (b n : Int) (gone : PC → Bool) (hd : DelE E g q1 q2 b gone) (A : Option Addr) (c : Nat) (V : Value) (l : List PC) (w : World) (hE : E.P w) (hg : Blk w g 78 #[.int .i64 b, .int .i64 n, V])
    (hr : OwnR w 0 31 encP 8 (.slice A l.length c) l) (hok : ∀ p ∈ l, 0 ≤ p.n ∧ p.n ≤ n) (hn : n ≤ 1000000000000) (hl : l.length ≤ 1000000) (i : Nat) (pc : PC) (hi : l[i]? = some pc) (hyes : gone pc = true) (hno : ∀ j q, j < i → l[j]? = some q → gone q = false) :
    Calls Try.prog 60 #[.slice A l.length c, .func (.func 54) #[] #[.pointer (some ⟨q1, 0, none⟩), .pointer (some ⟨q2, 0, none⟩)]] w fun e w' => e = .returned (.int .i64 i) ∧ ∃ w2, Below w.heap.size w w2 ∧ w' = w2.setCell ⟨g, 1, none⟩ (.int .i64 (n - pc.n)) := by
  have hil : i < l.length := (List.getElem?_eq_some_iff.1 hi).1
  have hie : l[i] = pc := (List.getElem?_eq_some_iff.1 hi).2
  have HK := Lib.hid ((((Qs.zero w).cons (k := E) hE).cons (k := qB _ _ _) hg).cons (k := qV _ _ _ _ _ _) hr)
  have HD := Lib.hid hd
  have HN := Lib.hid hno
  have HO := Lib.hid hok
  have HI := Lib.hid hie
  have HY := Lib.hid hyes
  clear hd hE hg hr hno hok hi hie hyes
  go_enter Try.func60, Try.ntmps60
  go_wp2_with fail
  go_loopw [8] (fun s wr => ∃ k : Nat, k ≤ i ∧ s = .int .i64 k ∧ Hid (Qs wr [qV 0 31 encP 8 (.slice A l.length c) l, qB g 78 #[.int .i64 b, .int .i64 n, V], E, qW w w.heap.size (Nat.le_refl _)]))
    (fun s _ => l.length - (intOf s).toNat)
  case atStart => exact ⟨0, Nat.zero_le _, rfl, HK⟩
  case round =>
    obtain ⟨k, hk, rfl, HR⟩ := hrel
    have hlt : k < l.length := by omega
    obtain ⟨p, rfl, hc, hf, -, -, -⟩ := OwnR.at_ Try.eltP (HR.out.rowV 0) k hlt
    have hpb := HO.out l[k] (List.getElem_mem hlt)
    by_cases hki : k < i
    · have hgo := HN.out k l[k] hki (List.getElem?_eq_getElem hlt)
      obtain ⟨pk, hpc⟩ : ∃ pc, pc = l[k] := ⟨_, rfl⟩
      rw [← hpc] at hc hgo hpb
      clear hpc hf
      obtain ⟨se, f0, f1, f2, t0, t1, t2, pn⟩ := pk
      have hD := fun W V hE hg => HD.out.1 W n V ⟨se, f0, f1, f2, t0, t1, t2, pn⟩ hgo hE hg hpb.1 hpb.2 hn
      simp only [encP] at hD
      have C := And.intro (hc 0 _ rfl) (And.intro (hc 1 _ rfl) (And.intro (hc 2 _ rfl) (And.intro (hc 3 _ rfl) (And.intro (hc 4 _ rfl) (And.intro (hc 5 _ rfl) (And.intro (hc 6 _ rfl) (hc 7 _ rfl)))))))
      simp only [Nat.add_zero] at C
      have HDk := Lib.hid hD
      clear hD hc hgo hpb
      go_wp2_with fail
      refine (HDk.out _ V (HR.out.get 2 rfl) (HR.out.blk 1)).mono ?_
      rintro e w1 ⟨rfl, b1⟩
      have HR1 := Lib.hid (HR.out.go b1)
      clear C b1
      go_wp2_with fail
      go_roundw
      case measure => simp [intOf]; omega
      case rel => exact ⟨k + 1, by omega, by go_num, HR1⟩
    · obtain rfl : k = i := by omega
      rw [HI.out] at hc hpb
      clear hf
      obtain ⟨se, f0, f1, f2, t0, t1, t2, pn⟩ := pc
      have hD := fun W V hE hg => HD.out.2 W n V ⟨se, f0, f1, f2, t0, t1, t2, pn⟩ HY.out hE hg hpb.1 hpb.2 hn
      simp only [encP] at hD
      have C := And.intro (hc 0 _ rfl) (And.intro (hc 1 _ rfl) (And.intro (hc 2 _ rfl) (And.intro (hc 3 _ rfl) (And.intro (hc 4 _ rfl) (And.intro (hc 5 _ rfl) (And.intro (hc 6 _ rfl) (hc 7 _ rfl)))))))
      simp only [Nat.add_zero] at C
      have HDk := Lib.hid hD
      clear hD hc hpb
      go_wp2_with fail
      refine (HDk.out _ V (HR.out.get 2 rfl) (HR.out.blk 1)).mono ?_
      rintro e w1 ⟨rfl, w2, b1, hw⟩
      have HR1 := Lib.hid (HR.out.go b1)
      have HW := Lib.hid hw
      clear C b1 hw
      go_wp2_with fail
      go_ret
      exact ⟨rfl, w2, HR1.out.top 3, HW.out⟩

end Go.Proofs.Ytlchnpmiaemobaa
