/- Layer 13: slices.DeleteFunc with what remove hands it. -/
import Derived.Test.YtlchnpmiaemobaaWin7
set_option linter.unusedSimpArgs false
set_option linter.unusedVariables false
namespace Go.Proofs.Ytlchnpmiaemobaa
open Go.RowKit
set_option maxRecDepth 100000

theorem take_set_snoc {α : Type} (L : List α) (i : Nat) (x : α) (hi : i < L.length) : (L.set i x).take (i + 1) = L.take i ++ [x] := by
  rw [List.take_succ_eq_append_getElem (by rw [List.length_set]; exact hi), List.take_set_of_le (Nat.le_refl _)]
  simp
theorem del_keep {l L : List PC} {i j : Nat} {f : PC → Bool} {x : PC} (h1 : L.length = l.length) (hij : i < j) (hx : l[j]? = some x) (ht : L.take i = (l.take j).filter fun p => !f p) (hd : L.drop j = l.drop j) (hk : f x = false) :
    (L.set i x).take (i + 1) = ((l.take (j + 1)).filter fun p => !f p) ∧ (L.set i x).drop (j + 1) = l.drop (j + 1) := by
  obtain ⟨hj, hx⟩ := List.getElem?_eq_some_iff.1 hx
  constructor
  · rw [take_set_snoc _ _ _ (by omega), ht, List.take_succ_eq_append_getElem hj, List.filter_append, hx]
    simp [hk]
  · rw [List.drop_set_of_lt (by omega), ← List.drop_drop, hd, List.drop_drop]
theorem del_gone {l L : List PC} {i j : Nat} {f : PC → Bool} {x : PC} (hx : l[j]? = some x) (ht : L.take i = (l.take j).filter fun p => !f p) (hd : L.drop j = l.drop j) (hk : f x = true) :
    L.take i = ((l.take (j + 1)).filter fun p => !f p) ∧ L.drop (j + 1) = l.drop (j + 1) := by
  obtain ⟨hj, hx⟩ := List.getElem?_eq_some_iff.1 hx
  constructor
  · rw [ht, List.take_succ_eq_append_getElem hj, List.filter_append, hx]
    simp [hk]
  · rw [← List.drop_drop, hd, List.drop_drop]
theorem sum_left {l : List PC} {j : Nat} {x : PC} {f : PC → Bool} (hok : okP l) (hx : l[j]? = some x) : sumP ((l.take j).filter f) + x.n ≤ sumP l := by
  obtain ⟨hj, hx⟩ := List.getElem?_eq_some_iff.1 hx
  have h1 := sumP_parts f (l.take j)
  have h2 := sumP_nonneg _ ((hok.take j).filter fun p => !f p)
  have h3 : l = l.take j ++ (x :: l.drop (j + 1)) := by rw [← hx, ← List.drop_eq_getElem_cons hj, List.take_append_drop]
  have h4 : sumP l = sumP (l.take j) + (x.n + sumP (l.drop (j + 1))) := by
    conv => lhs; rw [h3, sumP_append]
    rfl
  have h5 := sumP_nonneg _ (hok.drop (j + 1))
  omega
theorem sum_step {l : List PC} {j : Nat} {x : PC} {f : PC → Bool} (hx : l[j]? = some x) : sumP ((l.take (j + 1)).filter f) = sumP ((l.take j).filter f) + if f x = true then x.n else 0 := by
  obtain ⟨hj, hx⟩ := List.getElem?_eq_some_iff.1 hx
  rw [List.take_succ_eq_append_getElem hj, List.filter_append, sumP_append, hx]
  by_cases h : f x = true <;> simp [h, sumP]

theorem Qs.putRowV {w W : World} {ks : List Kq} {α : Type} {P : Program} {t e : TypeId} {enc : α → List Value} {sz bytes : Nat} (E : Elt P t e enc sz bytes) (h : Qs w ks) (i g j : Nat) (x : α) {base cap n : Nat} {l : List α} (hn : n = l.length) (hj : j < l.length)
    (hW : setsAt w g (j * sz) (enc x).zipIdx = W) (ha : apBut g i ks) (ee : ks[i]? = some (qV base e enc sz (.slice (some ⟨g, 0, none⟩) n cap) l) := by rfl) : Qs W (ks.set i (qV base e enc sz (.slice (some ⟨g, 0, none⟩) n cap) (l.set j x))) := by
  subst hW
  intro k hk
  obtain ⟨m, hm⟩ := List.getElem?_of_mem hk
  by_cases hmi : m = i
  · subst hmi
    rw [List.getElem?_set_self (List.getElem?_eq_some_iff.1 ee).1] at hm
    injection hm with hm
    subst hm
    exact OwnR.stored E (h.rowV m ee) hn j x hj
  · rw [List.getElem?_set_ne (fun e => hmi e.symm)] at hm
    exact k.go w _ _ (h.get m hm) (grown_setsAt g _ _ w) (fun y ey => by injection ey with ey; subst ey; exact but_mem ha m k hmi hm)

theorem delf_none (E : Kq) (g q1 q2 : Nat) (b : Int) (gone : PC → Bool) (hd : DelE E g q1 q2 b gone) (A : Option Addr) (c : Nat) (l : List PC) (w : World) (hE : E.P w) (hg : Blk w g 78 #[.int .i64 b, .int .i64 (sumP l), .slice A l.length c])
    (hr : OwnR w 0 31 encP 8 (.slice A l.length c) l) (hok : okP l) (hn : sumP l ≤ 1000000000) (hl : l.length ≤ 1000000) (hno : ∀ p ∈ l, gone p = false) :
    Calls Try.prog 53 #[.slice A l.length c, .func (.func 54) #[] #[.pointer (some ⟨q1, 0, none⟩), .pointer (some ⟨q2, 0, none⟩)]] w fun e w' => e = .returned (.slice A l.length c) ∧ Below w.heap.size w w' := by
  have hb : ∀ p ∈ l, 0 ≤ p.n ∧ p.n ≤ sumP l := fun p hp => by
    obtain ⟨j, hj, rfl⟩ := List.getElem_of_mem hp
    have h1 := sum_left (f := fun _ => false) hok (List.getElem?_eq_getElem hj)
    have h2 := sumP_nonneg _ ((hok.take j).filter fun _ => false)
    have h3 := hok _ hp
    omega
  have HC := Lib.hid (idx_none E g q1 q2 b (sumP l) gone hd A c _ l w hE hg hr hb (by omega) hl hno)
  clear hd hE hg hr hno hok hb
  go_enter Try.func53, Try.ntmps53
  go_wp2_with fail
  refine HC.out.mono ?_
  rintro e w1 ⟨rfl, b1⟩
  have HB := Lib.hid b1
  clear b1
  go_wp2_with fail
  go_ret
  exact ⟨rfl, HB.out⟩

theorem delf_some (E : Kq) (g q1 q2 : Nat) (b : Int) (gone : PC → Bool) (hd : DelE E g q1 q2 b gone) (P c : Nat) (l : List PC) (w : World) (hE : E.P w) (hEg : E.ap g) (hEP : E.ap P) (hgP : g ≠ P) (hg : Blk w g 78 #[.int .i64 b, .int .i64 (sumP l), .slice (some ⟨P, 0, none⟩) l.length c])
    (hr : OwnR w 0 31 encP 8 (.slice (some ⟨P, 0, none⟩) l.length c) l) (hok : okP l) (hn : sumP l ≤ 1000000000) (hl : l.length ≤ 1000000) (i0 : Nat) (pc : PC) (hi : l[i0]? = some pc) (hyes : gone pc = true) (hno : ∀ j q, j < i0 → l[j]? = some q → gone q = false) :
    Calls Try.prog 53 #[.slice (some ⟨P, 0, none⟩) l.length c, .func (.func 54) #[] #[.pointer (some ⟨q1, 0, none⟩), .pointer (some ⟨q2, 0, none⟩)]] w fun e w' =>
      e = .returned (.slice (some ⟨P, 0, none⟩) (l.filter fun p => !gone p).length c) ∧ Blk w' g 78 #[.int .i64 b, .int .i64 (sumP (l.filter fun p => !gone p)), .slice (some ⟨P, 0, none⟩) l.length c] ∧ OwnR w' 0 31 encP 8 (.slice (some ⟨P, 0, none⟩) (l.filter fun p => !gone p).length c) (l.filter fun p => !gone p) ∧ Foot (inBR g (.slice (some ⟨P, 0, none⟩) l.length c)) w w' := by
  have hil : i0 < l.length := (List.getElem?_eq_some_iff.1 hi).1
  have hcl : l.length ≤ c := (OwnR.at_ Try.eltP hr i0 hil).choose_spec.2.2.2.2.1
  have hb : ∀ p ∈ l, 0 ≤ p.n ∧ p.n ≤ sumP l := fun p hp => by
    obtain ⟨j, hj, rfl⟩ := List.getElem_of_mem hp
    have h1 := sum_left (f := fun _ => false) hok (List.getElem?_eq_getElem hj)
    have h2 := sumP_nonneg _ ((hok.take j).filter fun _ => false)
    have h3 := hok _ hp
    omega
  have HC := Lib.hid (idx_some E g q1 q2 b (sumP l) gone hd (some ⟨P, 0, none⟩) c _ l w hE hg hr hb (by omega) hl i0 pc hi hyes hno)
  have HK := Lib.hid (((((Qs.nil w).cons (k := qF (inBR g (.slice (some ⟨P, 0, none⟩) l.length c)) w) (Foot.refl _ _)).cons (k := E) hE).cons (k := qB _ _ _) hg).cons (k := qV _ _ _ _ _ _) hr)
  have hfil : (l.take i0).filter (fun p => !gone p) = l.take i0 := List.filter_eq_self.2 fun q hq => by
    obtain ⟨j, hj, rfl⟩ := List.getElem_of_mem hq
    rw [List.length_take] at hj
    rw [List.getElem_take, hno j _ (by omega) (List.getElem?_eq_getElem (by omega))]; rfl
  have hfil2 : (l.take i0).filter gone = [] := List.filter_eq_nil_iff.2 fun q hq => by
    obtain ⟨j, hj, rfl⟩ := List.getElem_of_mem hq
    rw [List.length_take] at hj
    rw [List.getElem_take, hno j _ (by omega) (List.getElem?_eq_getElem (by omega))]; simp
  obtain ⟨h1, h2⟩ := del_gone (L := l) hi hfil.symm rfl hyes
  have h3 := sum_step (f := gone) hi
  rw [hfil2, if_pos hyes] at h3
  have h4 : sumP (([] : List PC)) = 0 := rfl
  rw [h4, Int.zero_add] at h3
  have H1 := Lib.hid h1
  have H2 := Lib.hid h2
  have H3 := Lib.hid h3
  have HD := Lib.hid hd
  have HO := Lib.hid hok
  clear hd hE hg hr hno hok hb hi hfil hfil2 h1 h2 h3 h4
  go_enter Try.func53, Try.ntmps53
  go_wp2_with fail
  refine HC.out.mono ?_
  rintro e w1 ⟨rfl, w2, b1, hw1⟩
  have HK2 := Lib.hid (HK.out.go b1)
  have HW1 := Lib.hid (show sets w2 g [(1, .int .i64 (sumP l - pc.n))] = w1 from hw1.symm)
  have HK1 := Lib.hid (HK2.out.putTo 1 g [(1, .int .i64 (sumP l - pc.n))] #[.int .i64 b, .int .i64 (sumP l - pc.n), .slice (some ⟨P, 0, none⟩) l.length c] HW1.out (by
    simp only [apBut, apAll, qV, qF, inBR, Value.ownBlock, true_or, and_true]; exact ⟨fun e => hgP (by injection e with e; exact e.symm), hEg⟩))
  simp only [List.set] at HK1
  clear b1 hw1 HK2 HW1 HK
  have hne : ((i0 : Int) == -1) = false := beq_eq_false_iff_ne.2 (by omega)
  go_wp2_with fail
  go_loopw [5, 6] (fun s5 s6 wr => ∃ (i j : Nat) (L : List PC) (m : Int), i < j ∧ j ≤ l.length ∧ L.length = l.length ∧ s5 = .int .i64 i ∧ s6 = .int .i64 j ∧ Hid (L.take i = (l.take j).filter fun p => !gone p) ∧ Hid (L.drop j = l.drop j) ∧ Hid (m = sumP l - sumP ((l.take j).filter gone)) ∧
      Hid (Qs wr [qV 0 31 encP 8 (.slice (some ⟨P, 0, none⟩) l.length c) L, qB g 78 #[.int .i64 b, .int .i64 m, .slice (some ⟨P, 0, none⟩) l.length c], E, qF (inBR g (.slice (some ⟨P, 0, none⟩) l.length c)) w]))
    (fun _ j _ => l.length - (intOf j).toNat)
  case atStart => exact ⟨i0, i0 + 1, l, _, by omega, by omega, rfl, rfl, by go_num, H1, Lib.hid rfl, Lib.hid (by rw [H3.out]), HK1⟩
  case round =>
    obtain ⟨i, j, L, m, hij, hj, hL, rfl, rfl, HT, HDr, HM, HR⟩ := hrel
    clear HK1 H1 H2 H3
    by_cases hlt : j < l.length
    · have hLj : L[j]? = l[j]? := by
        have := congrArg List.head? HDr.out
        simpa [List.head?_drop] using this
      obtain ⟨x, hx⟩ : ∃ x, l[j]? = some x := ⟨_, List.getElem?_eq_getElem hlt⟩
      have hLx : L[j] = x := by rw [hx, List.getElem?_eq_getElem (by omega)] at hLj; injection hLj
      obtain ⟨p, hp, hc, hf, -, -, -⟩ := OwnR.at_ Try.eltP (HR.out.rowV 0) j (by omega)
      injection hp with hp
      injection hp with hp _ _
      subst hp
      rw [hLx] at hc
      have hsl := sum_left (f := gone) HO.out hx
      have hxb := HO.out x (List.mem_of_getElem? hx)
      have HX := Lib.hid hx
      have hmb : 0 ≤ x.n ∧ x.n ≤ m := by have := HM.out; omega
      clear hLj hLx hf hx hsl
      obtain ⟨se, f0, f1, f2, t0, t1, t2, pn⟩ := x
      have C := And.intro (hc 0 _ rfl) (And.intro (hc 1 _ rfl) (And.intro (hc 2 _ rfl) (And.intro (hc 3 _ rfl) (And.intro (hc 4 _ rfl) (And.intro (hc 5 _ rfl) (And.intro (hc 6 _ rfl) (hc 7 _ rfl)))))))
      simp only [Nat.add_zero] at C
      clear hc
      have HL := Lib.hid hL
      have hsz := HR.out.tofoot 3 |>.size
      cases hgo : gone ⟨se, f0, f1, f2, t0, t1, t2, pn⟩
      · have hD := fun W V hE hg => HD.out.1 W m V ⟨se, f0, f1, f2, t0, t1, t2, pn⟩ hgo hE hg hmb.1 hmb.2 (by have := HM.out; have := HO.out; have h9 := (sumP_nonneg _ ((HO.out.take j).filter gone)).1; omega)
        simp only [encP] at hD
        have HDk := Lib.hid hD
        have HG := Lib.hid hgo
        clear hD hgo hmb
        have HR1 := Lib.hid (HR.out.box #[.int .u32 se, .int .u32 f0, .int .u32 f1, .int .u32 f2, .int .u32 t0, .int .u32 t1, .int .u32 t2, .int .i64 pn] 31)
        go_wp2_with fail
        refine (HDk.out _ _ (HR1.out.get 3 rfl) (HR1.out.blk 2)).mono ?_
        rintro e w3 ⟨rfl, b3⟩
        have HR3 := Lib.hid (HR1.out.go b3)
        obtain ⟨p, hp, hc, hf, -, -, -⟩ := OwnR.at_ Try.eltP (HR3.out.rowV 1) i (by have := HL.out; omega)
        injection hp with hp
        injection hp with hp _ _
        subst hp
        obtain ⟨⟨ye, y0, y1, y2, y3, y4, y5, yn⟩, hy⟩ : ∃ y, y = L[i]'(by have := HL.out; omega) := ⟨_, rfl⟩
        rw [← hy] at hc
        have C1 := And.intro (hc 0 _ rfl) (And.intro (hc 1 _ rfl) (And.intro (hc 2 _ rfl) (And.intro (hc 3 _ rfl) (And.intro (hc 4 _ rfl) (And.intro (hc 5 _ rfl) (And.intro (hc 6 _ rfl) (hc 7 _ rfl)))))))
        have C2 := And.intro (hf 0) (And.intro (hf 1) (And.intro (hf 2) (And.intro (hf 3) (And.intro (hf 4) (And.intro (hf 5) (And.intro (hf 6) (hf 7)))))))
        have C3 := (HR3.out.blk 0)
        simp only [Nat.add_zero] at C1 C2
        have hbx : wr.heap.size ≠ P := by have := (World.ownsRow.lt (HR.out.rowV 0) P rfl).2; omega
        have C4 := HR3.out.says
        simp only [sayAll, cellsSay, qB, qV, qF, Nat.reduceAdd, and_true, true_and] at C4
        clear C hc hf hy b3
        have hx2 := del_keep HL.out hij HX.out HT.out HDr.out HG.out
        have hs2 := sum_step (f := gone) HX.out
        rw [HG.out] at hs2
        simp only [Bool.false_eq_true, if_false, Int.add_zero] at hs2
        have HX2 := Lib.hid hx2
        have HS2 := Lib.hid hs2
        clear hx2 hs2
        go_wp2_with fail
        go_roundw
        case measure => simp [intOf]; omega
        case rel =>
          have K4 := HR3.out.putRowV (W := _) Try.eltP 1 P i ⟨se, f0, f1, f2, t0, t1, t2, pn⟩ HL.out.symm (by have := HL.out; omega) rfl (by
            simp only [apBut, apAll, qB, qF, inBR, Value.ownBlock, or_true, true_or, and_true]; exact ⟨hbx, hgP, hEP⟩)
          exact ⟨i + 1, j + 1, L.set i ⟨se, f0, f1, f2, t0, t1, t2, pn⟩, m, by omega, by omega, by rw [List.length_set]; exact HL.out, by go_num, by go_num, Lib.hid HX2.out.1, Lib.hid HX2.out.2, Lib.hid (by rw [HS2.out]; exact HM.out), Lib.hid K4.tail⟩
      · have hD := fun W V hE hg => HD.out.2 W m V ⟨se, f0, f1, f2, t0, t1, t2, pn⟩ hgo hE hg hmb.1 hmb.2 (by have := HM.out; have := HO.out; have h9 := (sumP_nonneg _ ((HO.out.take j).filter gone)).1; omega)
        simp only [encP] at hD
        have HDk := Lib.hid hD
        have HG := Lib.hid hgo
        clear hD hgo hmb
        have HR1 := Lib.hid (HR.out.box #[.int .u32 se, .int .u32 f0, .int .u32 f1, .int .u32 f2, .int .u32 t0, .int .u32 t1, .int .u32 t2, .int .i64 pn] 31)
        go_wp2_with fail
        refine (HDk.out _ _ (HR1.out.get 3 rfl) (HR1.out.blk 2)).mono ?_
        rintro e w3 ⟨rfl, w4, b3, hw3⟩
        have K3 := (HR1.out.go b3).putTo 2 g [(1, .int .i64 (m - pn))] #[.int .i64 b, .int .i64 (m - pn), .slice (some ⟨P, 0, none⟩) l.length c] (show sets w4 g _ = w3 from hw3.symm) (by
          have hgw := (HR.out.blk 1).lt
          simp only [apBut, apAll, qB, qV, qF, inBR, Value.ownBlock, true_or, and_true]; exact ⟨by omega, fun e => hgP (by injection e with e; exact e.symm), hEg⟩)
        simp only [List.set] at K3
        have HR3 := Lib.hid K3.tail
        have hx2 := del_gone HX.out HT.out HDr.out HG.out
        have hs2 := sum_step (f := gone) HX.out
        rw [HG.out, if_pos rfl] at hs2
        have HX2 := Lib.hid hx2
        have HS2 := Lib.hid (show m - pn = sumP l - sumP ((l.take (j + 1)).filter gone) by rw [hs2, HM.out]; simp only; omega)
        clear C b3 hw3 K3 hx2 hs2
        go_wp2_with fail
        go_roundw
        case measure => simp [intOf]; omega
        case rel => exact ⟨i, j + 1, L, m - pn, by omega, by omega, HL.out, rfl, by go_num, Lib.hid HX2.out.1, Lib.hid HX2.out.2, HS2, HR3⟩
    · obtain rfl : j = l.length := by omega
      rw [List.take_length] at HT HM
      have hil : i < l.length := hij
      have hfl : (l.filter fun p => !gone p).length = i := by rw [← HT.out, List.length_take]; omega
      have hzv : ∀ w, (zeroValue 31).run Try.prog w = .ok (.agg #[.int .u32 0, .int .u32 0, .int .u32 0, .int .u32 0, .int .u32 0, .int .u32 0, .int .u32 0, .int .i64 0]) w := Try.zeroValue31
      obtain ⟨w5, hrun, hown5, hgr5⟩ := run_clearR Try.eltP _ hzv rfl (by decide) wr 0 P l.length c (c - i) 0 L (HR.out.rowV 0) hL.symm i hil
      have K5 := HR.out.tail.grow hgr5 (fun k e => by
        injection e with e
        subst e
        simp only [apAll, qB, qF, inBR, Value.ownBlock, or_true, true_or, and_true]; exact ⟨hgP, hEP⟩)
      rw [HT.out] at hown5
      have hm2 : m = sumP (l.filter fun p => !gone p) := by have h1 := sumP_parts gone l; have h2 := HM.out; omega
      rw [hm2] at K5
      have HF := Lib.hid hfl
      have HK5 := Lib.hid K5
      have HO5 := Lib.hid hown5
      have hic : i < c := by omega
      clear hown5 hgr5 K5 hm2 hfl HR hzv
      go_wp2_with fail
      go_ret
      rw [HF.out]
      exact ⟨rfl, HK5.out.blk 0, HO5.out, HK5.out.tofoot 2⟩

end Go.Proofs.Ytlchnpmiaemobaa
