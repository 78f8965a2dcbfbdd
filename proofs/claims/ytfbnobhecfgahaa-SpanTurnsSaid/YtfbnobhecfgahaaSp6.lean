/- Layer 23: Drop. -/
import Derived.Test.YtfbnobhecfgahaaMathS2
import Derived.Test.YtfbnobhecfgahaaSp5
set_option linter.unusedSimpArgs false
set_option linter.unusedVariables false
namespace Go.Proofs.Ytfbnobhecfgahaa
open Go.RowKit
set_option maxRecDepth 100000

/-- what Drop gives -/
structure DropR (l : List Sp) (s : Sp) (R : List Sp) : Prop where
  snd : Snd R
  mem : ∀ t, Mem t R ↔ Mem t l ∧ ¬ (s.1 ≤ t ∧ t ≤ s.2)
  inl : InL R
  len : R.length ≤ l.length + 1
theorem DropR.uniq {l : List Sp} {s : Sp} {R R' : List Sp} (h : DropR l s R) (h' : DropR l s R') : R = R' := snd_uniq h.snd h'.snd fun t => (h.mem t).trans (h'.mem t).symm
theorem mono_drop1 {l : List Sp} (h : Snd l) (s1 s2 : Int) : ∀ (a b : Nat) (x y : Sp), a ≤ b → l[a]? = some x → l[b]? = some y → p_drop1 s1 s2 x = true → p_drop1 s1 s2 y = true := fun a b x y hab hx hy hp => by
  have := sorted_at h hab hx hy
  unfold p_drop1 at *
  simp only [decide_eq_true_eq] at *
  omega
theorem mono_drop2 {l : List Sp} (h : Snd l) (s1 s2 : Int) : ∀ (a b : Nat) (x y : Sp), a ≤ b → l[a]? = some x → l[b]? = some y → p_drop2 s1 s2 x = true → p_drop2 s1 s2 y = true := fun a b x y hab hx hy hp => by
  have := sorted_at h hab hx hy
  unfold p_drop2 at *
  simp only [decide_eq_true_eq] at *
  omega

theorem qs3_below {w W W' : World} {t1 t2 : TypeId} {c1 c2 : Array Value} (h : Qs W [qB (w.heap.size + 1) t1 c1, qB w.heap.size t2 c2, qW w w.heap.size (Nat.le_refl _)]) (hb : Below (w.heap.size + 2) W W') (hs : w.heap.size + 2 ≤ W.heap.size) : Qs W' [qB (w.heap.size + 1) t1 c1, qB w.heap.size t2 c2, qW w w.heap.size (Nat.le_refl _)] :=
  (((Qs.nil W').cons (k := qW _ _ _) ⟨(h.top 2).trans (hb.mono (by omega)), Nat.le_trans (by omega) (Nat.le_trans hs hb.size)⟩).cons (k := qB _ _ _) ((h.blk 1).below hb (by omega))).cons (k := qB _ _ _) ((h.blk 0).below hb (by omega))

theorem drop_no (V : Option Addr) (c : Nat) (l : List Sp) (s1 s2 : Int) (w : World) (hV : Ps w V l) (hin : InL l) (hl : l.length ≤ 1000000) (hno : s2 < s1 ∨ ¬ Snd l) :
    Calls Try.prog 13 #[.slice V l.length c, .agg #[.int .i64 s1, .int .i64 s2]] w fun e w' => e = .returned (.tuple #[.slice none 0 0, .int .u16 1]) ∧ Below w.heap.size w w' := by
  have HK := Lib.hid (((Qs.zero w).box #[.slice V l.length c] 22).box #[.int .i64 s1, .int .i64 s2] 24)
  by_cases h : s2 < s1
  · have hd : decide (s2 < s1) = true := decide_eq_true h
    clear hno h hV hin
    go_enter Try.func13, Try.ntmps13
    go_wp2_with fail
    go_ret2
    exact ⟨rfl, HK.out.top 2⟩
  · have hd : decide (s2 < s1) = false := decide_eq_false h
    have hs : sndB l = false := decide_eq_false (by rcases hno with h1 | h1; exact absurd h1 h; exact h1)
    have hS := fun (W : World) (hb : Below w.heap.size w W) => sound_any V c l W (hV.below hb (Nat.le_refl _)) hin hl
    rw [hs] at hS
    have HS := Lib.hid (hS _ (HK.out.top 2))
    clear hno h hV hin hs hS
    go_enter Try.func13, Try.ntmps13
    go_wp2_with fail
    refine HS.out.mono ?_
    rintro e w1 ⟨rfl, b1⟩
    have HK1 := Lib.hid (HK.out.go b1)
    clear b1
    go_wp2_with fail
    go_ret2
    exact ⟨rfl, HK1.out.top 2⟩

set_option maxHeartbeats 8000000 in
theorem drop_yes (V : Option Addr) (c : Nat) (l : List Sp) (s1 s2 : Int) (w : World) (hV : Sl w V c l) (hin : InL l) (hl : l.length ≤ 999999) (hs : Snd l) (h12 : s1 ≤ s2) (hi1 : In s1) (hi2 : In s2) :
    Calls Try.prog 13 #[.slice V l.length c, .agg #[.int .i64 s1, .int .i64 s2]] w fun e w' => (∃ R A c', DropR l (s1, s2) R ∧ e = .returned (.tuple #[.slice A R.length c', .int .u16 0]) ∧ OwnR w' w.heap.size 24 encS 2 (.slice A R.length c') R) ∧ Below w.heap.size w w' := by
  have K := ((Qs.zero w).box #[.slice V l.length c] 22).box #[.int .i64 s1, .int .i64 s2] 24
  simp only [World.size_alloc] at K
  have HK := Lib.hid K
  have hd : decide (s2 < s1) = false := decide_eq_false (by omega)
  have hS := sound_any V c l _ (hV.ps.below (K.top 2) (Nat.le_refl _)) hin (by omega)
  rw [show sndB l = true from decide_eq_true hs] at hS
  have HS := Lib.hid hS
  have HV := Lib.hid hV
  have HSd := Lib.hid hs
  have HI := Lib.hid (And.intro hin (And.intro hi1 hi2))
  clear hV hin hs hi1 hi2 hS K
  go_enter Try.func13, Try.ntmps13
  go_wp2_with fail
  refine HS.out.mono ?_
  rintro e w1 ⟨rfl, b1⟩
  have HK1 := Lib.hid (HK.out.go b1)
  clear b1 HS HK
  have C := HK1.out.says
  simp only [sayAll, cellsSay, qB, qW, Nat.reduceAdd, and_true, true_and] at C
  go_wp2_with fail
  refine (search_drop1 w.heap.size (w.heap.size + 1) s1 s2 V c l w1 (HK1.out.blk 1) (HK1.out.blk 0) (HV.out.ps.below (HK1.out.top 2) (Nat.le_refl _)) HI.out.1 HI.out.2.1 HI.out.2.2 (by omega) (mono_drop1 HSd.out s1 s2)).mono ?_
  rintro e w2 ⟨⟨r1, hr1, rfl, hp1⟩, b2⟩
  have HP1 := Lib.hid hp1
  have HK2 := Lib.hid (HK1.out.go b2)
  clear b2 HK1 C hp1
  have C := HK2.out.says
  simp only [sayAll, cellsSay, qB, qW, Nat.reduceAdd, and_true, true_and] at C
  go_wp2_with fail
  refine (search_drop2 w.heap.size (w.heap.size + 1) s1 s2 V c l w2 (HK2.out.blk 1) (HK2.out.blk 0) (HV.out.ps.below (HK2.out.top 2) (Nat.le_refl _)) HI.out.1 HI.out.2.1 HI.out.2.2 (by omega) (mono_drop2 HSd.out s1 s2)).mono ?_
  rintro e w3 ⟨⟨r2, hr2, rfl, hp2⟩, b3⟩
  have hA : ∀ (k : Nat) (x : Sp), l[k]? = some x → (k < r1 ↔ x.2 < s1) := fun k x hx => (HP1.out k x hx).trans (by unfold p_drop1; simp)
  have hZ : ∀ (k : Nat) (x : Sp), l[k]? = some x → (r2 ≤ k ↔ s2 < x.1) := fun k x hx => by
    have := hp2 k x hx
    unfold p_drop2 at this
    simp only [decide_eq_false_iff_not] at this
    omega
  have h12r : r1 ≤ r2 := by
    rcases Nat.lt_or_ge r2 r1 with h | h
    · have hx := List.getElem?_eq_getElem (show r2 < l.length by omega)
      have a1 := (hA r2 _ hx).1 h
      have a2 := (hZ r2 _ hx).1 (Nat.le_refl _)
      have a3 := HSd.out.1 _ (List.getElem_mem (show r2 < l.length by omega))
      omega
    · exact h
  have hR := dropAt_ok (s := (s1, s2)) HSd.out h12 h12r hr2 hA hZ
  have HK3 := Lib.hid (HK2.out.go b3)
  have HAZ := Lib.hid (And.intro hA hZ)
  clear b3 HK2 C hp2 HP1 hA hZ
  have C := HK3.out.says
  simp only [sayAll, cellsSay, qB, qW, Nat.reduceAdd, and_true, true_and] at C
  have z3 : w.heap.size + 2 ≤ w3.heap.size := (HK3.out.blk 0).lt
  go_upto_if 31 with fail
  go_cut [8] (fun s8 wx => ∃ (M : List Sp) (A : Option Addr) (cm : Nat), s8 = .slice A M.length cm ∧ M.length ≤ 2 ∧ Hid (OwnR wx (w.heap.size + 2) 24 encS 2 (.slice A M.length cm) M) ∧ Hid (Qs wx [qB (w.heap.size + 1) 24 #[.int .i64 s1, .int .i64 s2], qB w.heap.size 22 #[.slice V l.length c], qW w w.heap.size (Nat.le_refl _)]) ∧ Hid (InL M ∧ (M.length ≤ 1 + (r2 - r1)) ∧ Snd (l.take r1 ++ M ++ l.drop r2) ∧ ∀ t, Mem t (l.take r1 ++ M ++ l.drop r2) ↔ Mem t l ∧ ¬ (s1 ≤ t ∧ t ≤ s2)))
  case first =>
    by_cases hlt : r1 < r2
    · obtain ⟨j, rfl⟩ : ∃ j, r2 = j + 1 := ⟨r2 - 1, by omega⟩
      have g1 : l[r1]? = some l[r1] := List.getElem?_eq_getElem (by omega)
      have g2 : l[j]? = some l[j] := List.getElem?_eq_getElem (by omega)
      obtain ⟨p, o, hp, hc1⟩ := ps_at HV.out.ps r1 _ g1
      obtain ⟨p', o', hp', hc2⟩ := ps_at HV.out.ps j _ g2
      subst hp
      injection hp' with e1
      injection e1 with e1 e2 _
      subst e1; subst e2
      have i1 := HI.out.1 _ (List.mem_of_getElem? g1)
      have i2 := HI.out.1 _ (List.mem_of_getElem? g2)
      obtain ⟨x, hx⟩ : ∃ x, x = l[r1] := ⟨_, rfl⟩
      obtain ⟨y, hy⟩ : ∃ y, y = l[j] := ⟨_, rfl⟩
      rw [← hx] at hc1 i1 g1
      rw [← hy] at hc2 i2 g2
      have hR2 := hR (dropM (s1, s2) x y) (fun _ => ⟨x, y, g1, by rw [Nat.add_sub_cancel]; exact g2, rfl⟩) (fun h => absurd hlt h)
      have hx12 := HSd.out.1 x (List.mem_of_getElem? g1)
      have hy12 := HSd.out.1 y (List.mem_of_getElem? g2)
      have hsx := mt (HAZ.out.1 r1 x g1).2 (by omega)
      have hsy := mt (HAZ.out.2 j y g2).2 (by omega)
      have hmx := dropM_ok (s := (s1, s2)) h12 hx12 hy12 (by simp only; omega) (by simp only; omega)
      obtain ⟨xf, xt⟩ := x
      obtain ⟨yf, yt⟩ := y
      unfold dropM at hR2
      dsimp only at hc1 hc2 hR2 i1 i2 hx12 hy12 hsx hsy
      have i3 := HI.out.2
      unfold In at i1 i2 i3
      have hw3 : IntKind.i64.wrap (s1 - 1) = s1 - 1 ∨ xf ≥ s1 := by
        rw [IntKind.wrap_i64]; omega
      have hpw : p < w3.heap.size := cell_lt (hc1 w3 (HK3.out.top 2)).1
      have hw2 : IntKind.i64.wrap (j : Int) = j := by rw [IntKind.wrap_i64]; omega
      have hj1 : (j : Int) < l.length := by omega
      have hj2 : 0 ≤ (j : Int) := by omega
      have hj3 : j < l.length := by omega
      have hr3 : r1 < l.length := by omega
      have hr4 : (r1 : Int) < l.length := by omega
      have hltI : (r1 : Int) < (j : Int) + 1 := by omega
      have hz4 : w.heap.size + 1 < w3.heap.size := by omega
      have hz5 : w.heap.size < w3.heap.size := by omega
      have HR0 := Lib.hid hR2
      have HX := Lib.hid (And.intro i1 (And.intro i2 i3))
      have HC1 := Lib.hid hc1
      have HC2 := Lib.hid hc2
      have D1 := hc1 w3 (HK3.out.top 2)
      have D2 := hc2 w3 (HK3.out.top 2)
      clear g1 g2 hc1 hc2 hx hy hR hR2 i1 i2 i3 h12r hmx hsx hsy hw3 hx12 hy12
      by_cases hm1 : xf < s1
      · by_cases hm2 : s2 < yt
        · have hwa : IntKind.i64.wrap (s1 - 1) = s1 - 1 := by have := HX.out; rw [IntKind.wrap_i64]; omega
          have hwb : IntKind.i64.wrap (s2 + 1) = s2 + 1 := by have := HX.out; rw [IntKind.wrap_i64]; omega
          have HB4 := Lib.hid ((HK3.out.box #[.int .i64 xf, .int .i64 xt] 24).box #[.int .i64 xf, .int .i64 (s1 - 1)] 24)
          go_upto_region 10 with (at_builtin; go_must (refine appR1 Try.eltS _ rfl (.tmp 41) (.tmp 48) rfl (w.heap.size + 2) _ [] rfl (OwnR.nil _ _ _ _ _) (w3.heap.size + 1) 1 (xf, s1 - 1) 24 _ rfl (by have := HB4.out.blk 0; rw [World.size_alloc] at this; exact this) rfl (by simp [maxLen]) (by simp) (by simp; omega) ?_); intro g5 c5 w5 hown5 hb5 hg5)
          have HK5 := Lib.hid (qs3_below HB4.out.tail.tail hb5 (by simp; omega))
          have HO5 := Lib.hid (show OwnR w5 (w.heap.size + 2) 24 encS 2 (.slice (some ⟨g5, 0, none⟩) 1 c5) [(xf, s1 - 1)] from hown5)
          clear hown5 hb5 hg5 HB4 C D1 D2
          have C := HK5.out.says
          simp only [sayAll, cellsSay, qB, qW, Nat.reduceAdd, and_true, true_and] at C
          have D2 := HC2.out w5 (HK5.out.top 2)
          have z5 : w.heap.size + 2 ≤ w5.heap.size := (HK5.out.blk 0).lt
          have hz4 : w.heap.size + 1 < w5.heap.size := by omega
          have hz5 : w.heap.size < w5.heap.size := by omega
          have HB6 := Lib.hid ((HK5.out.box #[.int .i64 yf, .int .i64 yt] 24).box #[.int .i64 (s2 + 1), .int .i64 yt] 24)
          go_wp2_with (at_builtin; go_must (refine appR1 Try.eltS _ rfl (.tmp 60) (.tmp 67) rfl (w.heap.size + 2) _ [(xf, s1 - 1)] rfl ((HO5.out.alloc _).alloc _) (w5.heap.size + 1) 1 (s2 + 1, yt) 24 _ rfl (by have := HB6.out.blk 0; rw [World.size_alloc] at this; exact this) rfl (by simp [maxLen]) (by simp) (by simp; omega) ?_); intro g7 c7 w7 hown7 hb7 hg7)
          have HK7 := Lib.hid (qs3_below HB6.out.tail.tail hb7 (by simp; omega))
          go_meet
          refine ⟨[(xf, s1 - 1)] ++ [(s2 + 1, yt)], some ⟨g7, 0, none⟩, c7, rfl, by simp, Lib.hid hown7, HK7, Lib.hid ⟨?_, by simp <;> omega, ?_, ?_⟩⟩
          · intro z hz
            have := HX.out
            simp only [List.mem_append, List.mem_cons, List.not_mem_nil, or_false, false_or] at hz
            unfold In
            rcases hz with rfl | rfl <;> simp only <;> omega
          · have h := HR0.out.1
            rw [if_pos hm1, if_pos hm2] at h
            exact h
          · have h := HR0.out.2
            rw [if_pos hm1, if_pos hm2] at h
            exact h
        · have hwa : IntKind.i64.wrap (s1 - 1) = s1 - 1 := by have := HX.out; rw [IntKind.wrap_i64]; omega
          have HB4 := Lib.hid ((HK3.out.box #[.int .i64 xf, .int .i64 xt] 24).box #[.int .i64 xf, .int .i64 (s1 - 1)] 24)
          go_upto_region 10 with (at_builtin; go_must (refine appR1 Try.eltS _ rfl (.tmp 41) (.tmp 48) rfl (w.heap.size + 2) _ [] rfl (OwnR.nil _ _ _ _ _) (w3.heap.size + 1) 1 (xf, s1 - 1) 24 _ rfl (by have := HB4.out.blk 0; rw [World.size_alloc] at this; exact this) rfl (by simp [maxLen]) (by simp) (by simp; omega) ?_); intro g5 c5 w5 hown5 hb5 hg5)
          have HK5 := Lib.hid (qs3_below HB4.out.tail.tail hb5 (by simp; omega))
          have HO5 := Lib.hid (show OwnR w5 (w.heap.size + 2) 24 encS 2 (.slice (some ⟨g5, 0, none⟩) 1 c5) [(xf, s1 - 1)] from hown5)
          clear hown5 hb5 hg5 HB4 C D1 D2
          have C := HK5.out.says
          simp only [sayAll, cellsSay, qB, qW, Nat.reduceAdd, and_true, true_and] at C
          have D2 := HC2.out w5 (HK5.out.top 2)
          have z5 : w.heap.size + 2 ≤ w5.heap.size := (HK5.out.blk 0).lt
          have hz4 : w.heap.size + 1 < w5.heap.size := by omega
          have hz5 : w.heap.size < w5.heap.size := by omega
          go_wp2_with fail
          go_meet
          refine ⟨[(xf, s1 - 1)], (some ⟨g5, 0, none⟩), c5, rfl, by simp, Lib.hid (HO5.out.alloc _), Lib.hid (HK5.out.box #[.int .i64 yf, .int .i64 yt] 24).tail, Lib.hid ⟨?_, by simp <;> omega, ?_, ?_⟩⟩
          · intro z hz
            have := HX.out
            simp only [List.mem_append, List.mem_cons, List.not_mem_nil, or_false, false_or] at hz
            unfold In
            subst hz; simp only; omega
          · have h := HR0.out.1
            rw [if_pos hm1, if_neg (show ¬ s2 < yt by omega)] at h
            exact h
          · have h := HR0.out.2
            rw [if_pos hm1, if_neg (show ¬ s2 < yt by omega)] at h
            exact h
      · by_cases hm2 : s2 < yt
        · have hwb : IntKind.i64.wrap (s2 + 1) = s2 + 1 := by have := HX.out; rw [IntKind.wrap_i64]; omega
          go_upto_region 10 with fail
          obtain ⟨w5, hw5⟩ : ∃ w5, w5 = w3.alloc (.cells #[.int .i64 xf, .int .i64 xt] 24) := ⟨_, rfl⟩
          have HK5 : Hid (Qs w5 [qB (w.heap.size + 1) 24 #[.int .i64 s1, .int .i64 s2], qB w.heap.size 22 #[.slice (some ⟨p, o, none⟩) l.length c], qW w w.heap.size (Nat.le_refl _)]) := Lib.hid (by rw [hw5]; exact (HK3.out.box #[.int .i64 xf, .int .i64 xt] 24).tail)
          rw [← hw5]
          clear hw5 C D1 D2
          have HO5 := Lib.hid (OwnR.nil w5 (w.heap.size + 2) 24 encS 2)
          have C := HK5.out.says
          simp only [sayAll, cellsSay, qB, qW, Nat.reduceAdd, and_true, true_and] at C
          have D2 := HC2.out w5 (HK5.out.top 2)
          have z5 : w.heap.size + 2 ≤ w5.heap.size := (HK5.out.blk 0).lt
          have hz4 : w.heap.size + 1 < w5.heap.size := by omega
          have hz5 : w.heap.size < w5.heap.size := by omega
          have HB6 := Lib.hid ((HK5.out.box #[.int .i64 yf, .int .i64 yt] 24).box #[.int .i64 (s2 + 1), .int .i64 yt] 24)
          go_wp2_with (at_builtin; go_must (refine appR1 Try.eltS _ rfl (.tmp 60) (.tmp 67) rfl (w.heap.size + 2) _ [] rfl ((HO5.out.alloc _).alloc _) (w5.heap.size + 1) 1 (s2 + 1, yt) 24 _ rfl (by have := HB6.out.blk 0; rw [World.size_alloc] at this; exact this) rfl (by simp [maxLen]) (by simp) (by simp; omega) ?_); intro g7 c7 w7 hown7 hb7 hg7)
          have HK7 := Lib.hid (qs3_below HB6.out.tail.tail hb7 (by simp; omega))
          go_meet
          refine ⟨[] ++ [(s2 + 1, yt)], some ⟨g7, 0, none⟩, c7, rfl, by simp, Lib.hid hown7, HK7, Lib.hid ⟨?_, by simp <;> omega, ?_, ?_⟩⟩
          · intro z hz
            have := HX.out
            simp only [List.mem_append, List.mem_cons, List.not_mem_nil, or_false, false_or] at hz
            unfold In
            subst hz; simp only; omega
          · have h := HR0.out.1
            rw [if_neg (show ¬ xf < s1 by omega), if_pos hm2] at h
            exact h
          · have h := HR0.out.2
            rw [if_neg (show ¬ xf < s1 by omega), if_pos hm2] at h
            exact h
        · go_upto_region 10 with fail
          obtain ⟨w5, hw5⟩ : ∃ w5, w5 = w3.alloc (.cells #[.int .i64 xf, .int .i64 xt] 24) := ⟨_, rfl⟩
          have HK5 : Hid (Qs w5 [qB (w.heap.size + 1) 24 #[.int .i64 s1, .int .i64 s2], qB w.heap.size 22 #[.slice (some ⟨p, o, none⟩) l.length c], qW w w.heap.size (Nat.le_refl _)]) := Lib.hid (by rw [hw5]; exact (HK3.out.box #[.int .i64 xf, .int .i64 xt] 24).tail)
          rw [← hw5]
          clear hw5 C D1 D2
          have HO5 := Lib.hid (OwnR.nil w5 (w.heap.size + 2) 24 encS 2)
          have C := HK5.out.says
          simp only [sayAll, cellsSay, qB, qW, Nat.reduceAdd, and_true, true_and] at C
          have D2 := HC2.out w5 (HK5.out.top 2)
          have z5 : w.heap.size + 2 ≤ w5.heap.size := (HK5.out.blk 0).lt
          have hz4 : w.heap.size + 1 < w5.heap.size := by omega
          have hz5 : w.heap.size < w5.heap.size := by omega
          go_wp2_with fail
          go_meet
          refine ⟨[], none, 0, rfl, by simp, Lib.hid (HO5.out.alloc _), Lib.hid (HK5.out.box #[.int .i64 yf, .int .i64 yt] 24).tail, Lib.hid ⟨?_, by simp <;> omega, ?_, ?_⟩⟩
          · exact fun z hz => by cases hz
          · have h := HR0.out.1
            rw [if_neg (show ¬ xf < s1 by omega), if_neg (show ¬ s2 < yt by omega)] at h
            exact h
          · have h := HR0.out.2
            rw [if_neg (show ¬ xf < s1 by omega), if_neg (show ¬ s2 < yt by omega)] at h
            exact h
    · obtain rfl : r1 = r2 := by omega
      have hR2 := hR [] (fun h => absurd h hlt) (fun _ => rfl)
      have HR0 := Lib.hid hR2
      clear hR hR2
      go_wp2_with fail
      go_meet
      exact ⟨[], none, 0, rfl, by simp, Lib.hid (OwnR.nil _ _ _ _ _), HK3, Lib.hid ⟨(fun z hz => by cases hz), by simp, HR0.out.1, HR0.out.2⟩⟩
  case rest =>
    obtain ⟨M, Am, cm, rfl, hM2, HOm, HK6, HR6⟩ := hcut
    clear C HK3 hR
    have ndr : ∀ (W : World) (a : Addr), W.drew.cell? a = W.cell? a := fun _ _ => rfl
    have hq1 := (HK6.out.blk 1).lt
    have n1 : ∀ (o : Obj) (k : Nat), (wc.alloc o).cell? ⟨w.heap.size, k, none⟩ = wc.cell? ⟨w.heap.size, k, none⟩ := fun o k => World.cell?_alloc_lt _ _ _ hq1
    have d0 : wc.cell? ⟨w.heap.size, 0, none⟩ = some (.slice V l.length c) := (HK6.out.blk 1).cell 0
    have hvl := HV.out.len
    have hvc := HV.out.cap
    unfold maxLen at hvc
    have hr1c : r1 ≤ c := by omega
    have hr1l : r1 ≤ l.length := by omega
    have hM : Hid (∀ (A3 : Option Addr) (n3 c3 : Nat), Ps wc A3 (l.drop r2) → l.length - r2 = n3 → Calls Try.prog 30 #[.slice (some ⟨wc.heap.size, 0, none⟩) 3 3] (wc.alloc (.cells #[.slice V r1 c, .slice Am M.length cm, .slice A3 n3 c3] 22)).drew fun e w' =>
        ∃ R A c', DropR l (s1, s2) R ∧ e = .returned (.slice A R.length c') ∧ OwnR w' w.heap.size 24 encS 2 (.slice A R.length c') R ∧ Below w.heap.size w w' ∧ Below wc.heap.size wc w') := Lib.hid (fun A3 n3 c3 h3 hn3 => by
      have KB := (HK6.out.box #[.slice V r1 c, .slice Am M.length cm, .slice A3 n3 c3] 22).drew
      have hbw : Below wc.heap.size wc (wc.alloc (.cells #[.slice V r1 c, .slice Am M.length cm, .slice A3 n3 c3] 22)).drew := (below_alloc wc _).trans ((Below.refl _ _).grown (grown_drew _ none) (by simp) (fun k e => by cases e))
      refine (concat3 wc.heap.size r1 M.length n3 c cm c3 V Am A3 (l.take r1) M (l.drop r2) _ _ (KB.blk 0) (rw_take (HV.out.ps.below (KB.top 3) (Nat.le_refl _)) r1) (HOm.out.ps.below hbw (Nat.le_refl _)) (h3.below hbw (Nat.le_refl _)) (by rw [List.length_take]; omega) rfl (by rw [List.length_drop]; exact hn3) (by omega) (by omega) (by omega)).mono ?_
      rintro e w' ⟨A, c', he, ho, hb⟩
      have hsz : w.heap.size ≤ (wc.alloc (.cells #[.slice V r1 c, .slice Am M.length cm, .slice A3 n3 c3] 22)).drew.heap.size := (KB.top 3).size
      refine ⟨_, A, c', ⟨HR6.out.2.2.1, HR6.out.2.2.2, fun x hx => ?_, ?_⟩, he, ho.mono hsz, (KB.top 3).trans (hb.mono hsz), hbw.trans (hb.mono hbw.size)⟩
      · rcases List.mem_append.1 hx with hx | hx
        · rcases List.mem_append.1 hx with hx | hx
          · exact HI.out.1 x (List.mem_of_mem_take hx)
          · exact HR6.out.1 x hx
        · exact HI.out.1 x (List.mem_of_mem_drop hx)
      · have := HR6.out.2.1
        simp only [List.length_append, List.length_take, List.length_drop]; omega)
    have HPs := Lib.hid (HV.out.ps.below (HK6.out.top 2) (Nat.le_refl _))
    have hVn := HV.out.nil
    cases V with
    | none =>
      have hc0 := hVn rfl
      subst hc0
      have h0 : l = [] := List.eq_nil_of_length_eq_zero (by omega)
      subst h0
      simp only [List.length_nil] at *
      obtain rfl : r1 = 0 := by omega
      obtain rfl : r2 = 0 := by omega
      have HMn := Lib.hid (hM.out none 0 0 (by rw [List.drop_zero]; exact HPs.out) rfl)
      clear hVn
      go_wp2_with fail
      go_region_held3 (fun w' => w'.cell? ⟨w.heap.size, 0, none⟩ = some (.slice none 0 0)) (first | with_reducible exact d0 | with_reducible exact d8 | (simp only [ndr]; with_reducible exact d0) | (simp only [ndr, n1]; with_reducible exact d0))
        ((go_at_call 30; refine HMn.out.mono ?_; rintro e w8 ⟨R, A8, c8, hR8, rfl, ho8, hb8, hb9⟩; have H8 := Lib.hid (And.intro hR8 (And.intro ho8 hb8)); have d8 : (w8 : World).cell? ⟨w.heap.size, 0, none⟩ = some (.slice none 0 0) := ((HK6.out.go hb9).blk 1).cell 0; clear hR8 ho8 hb8 hb9))
      all_goals
        go_wp2_with fail
        go_ret2
        exact ⟨⟨R, A8, c8, H8.out.1, rfl, H8.out.2.1⟩, H8.out.2.2⟩
    | some a =>
      by_cases hcr : c = r2
      · have hcl : l.length = r2 := by omega
        have HMs := Lib.hid (hM.out (some a) 0 0 (by rw [List.drop_of_length_le (by omega)]; exact Rw.nil _ _ _ _) (by omega))
        have HCL := Lib.hid hcl
        subst hcr
        rw [hcl] at d0 ⊢
        clear hVn hcl
        go_wp2_with fail
        go_region_held3 (fun w' => w'.cell? ⟨w.heap.size, 0, none⟩ = some (.slice (some a) c c)) (first | with_reducible exact d0 | with_reducible exact d8 | (simp only [ndr]; with_reducible exact d0) | (simp only [ndr, n1]; with_reducible exact d0))
          ((go_at_call 30; refine HMs.out.mono ?_; rintro e w8 ⟨R, A8, c8, hR8, rfl, ho8, hb8, hb9⟩; have H8 := Lib.hid (And.intro hR8 (And.intro ho8 hb8)); have d8 : (w8 : World).cell? ⟨w.heap.size, 0, none⟩ = some (.slice (some a) c c) := (by have h9 := ((HK6.out.go hb9).blk 1).cell 0; rw [HCL.out] at h9; exact h9); clear hR8 ho8 hb8 hb9))
        all_goals
          go_wp2_with fail
          go_ret2
          exact ⟨⟨R, A8, c8, H8.out.1, rfl, H8.out.2.1⟩, H8.out.2.2⟩
      · have HMs := Lib.hid (hM.out (some (a.add (r2 * 2))) (l.length - r2) (c - r2) (rw_drop HPs.out r2) rfl)
        clear hVn
        have hcr2 : r2 < c := by omega
        go_wp2_with fail
        go_region_held3 (fun w' => w'.cell? ⟨w.heap.size, 0, none⟩ = some (.slice (some a) l.length c)) (first | with_reducible exact d0 | with_reducible exact d8 | (simp only [ndr]; with_reducible exact d0) | (simp only [ndr, n1]; with_reducible exact d0))
          ((go_at_call 30; refine HMs.out.mono ?_; rintro e w8 ⟨R, A8, c8, hR8, rfl, ho8, hb8, hb9⟩; have H8 := Lib.hid (And.intro hR8 (And.intro ho8 hb8)); have d8 : (w8 : World).cell? ⟨w.heap.size, 0, none⟩ = some (.slice (some a) l.length c) := ((HK6.out.go hb9).blk 1).cell 0; clear hR8 ho8 hb8 hb9))
        all_goals
          go_wp2_with fail
          go_ret2
          exact ⟨⟨R, A8, c8, H8.out.1, rfl, H8.out.2.1⟩, H8.out.2.2⟩


end Go.Proofs.Ytfbnobhecfgahaa
