/- Layer 23: Add. -/
import Derived.Test.YtfbnobhecfgahaaSp3
import Derived.Test.YtfbnobhecfgahaaSp4
set_option linter.unusedSimpArgs false
set_option linter.unusedVariables false
namespace Go.Proofs.Ytfbnobhecfgahaa
open Go.RowKit
set_option maxRecDepth 100000

/-- a slice of spans, with its room -/
structure Sl (w : World) (V : Option Addr) (c : Nat) (l : List Sp) : Prop where
  ps : Ps w V l
  len : l.length ≤ c
  cap : c ≤ maxLen
  nil : V = none → c = 0
theorem Sl.below {w w' : World} {V : Option Addr} {c B : Nat} {l : List Sp} (h : Sl w V c l) (hb : Below B w w') (hB : w.heap.size ≤ B) : Sl w' V c l := ⟨h.ps.below hb hB, h.len, h.cap, h.nil⟩
theorem sl_own {w : World} {base n c : Nat} {A : Option Addr} {l : List Sp} (h : OwnR w base 24 encS 2 (.slice A n c) l) : Sl w A c l := by
  obtain ⟨A', c', hv, hlc, hr⟩ := OwnR.row Try.eltS h
  injection hv with e1 e2 e3
  subst e1; subst e3
  refine ⟨hr, hlc, ?_, fun e => ?_⟩
  · rcases h.2 with ⟨e0, _⟩ | ⟨g, cap, cur, e0, _, _, _, hm, _⟩
    · injection e0 with _ _ e3; omega
    · injection e0 with _ _ e3; omega
  · rcases h.2 with ⟨e0, _⟩ | ⟨g, cap, cur, e0, _⟩
    · injection e0
    · injection e0 with e1; rw [e] at e1; cases e1

/-- what Add gives -/
structure AddR (l : List Sp) (s : Sp) (R : List Sp) : Prop where
  snd : Snd R
  mem : ∀ t, Mem t R ↔ Mem t l ∨ (s.1 ≤ t ∧ t ≤ s.2)
  inl : InL R
  len : R.length ≤ l.length + 1
theorem AddR.uniq {l : List Sp} {s : Sp} {R R' : List Sp} (h : AddR l s R) (h' : AddR l s R') : R = R' := snd_uniq h.snd h'.snd fun t => (h.mem t).trans (h'.mem t).symm

theorem sorted_at {l : List Sp} (h : Snd l) {a b : Nat} {x y : Sp} (hab : a ≤ b) (hx : l[a]? = some x) (hy : l[b]? = some y) : x.1 ≤ y.1 ∧ x.2 ≤ y.2 := by
  obtain ⟨ha, rfl⟩ := List.getElem?_eq_some_iff.1 hx
  obtain ⟨hb, rfl⟩ := List.getElem?_eq_some_iff.1 hy
  by_cases e : a = b
  · subst e; exact ⟨Int.le_refl _, Int.le_refl _⟩
  · have := List.pairwise_iff_getElem.1 h.2 a b ha hb (by omega)
    have h1 := h.1 l[a] (List.getElem_mem ha)
    have h2 := h.1 l[b] (List.getElem_mem hb)
    omega
theorem mono_add1 {l : List Sp} (h : Snd l) (s1 s2 : Int) : ∀ (a b : Nat) (x y : Sp), a ≤ b → l[a]? = some x → l[b]? = some y → p_add1 s1 s2 x = true → p_add1 s1 s2 y = true := fun a b x y hab hx hy hp => by
  have := sorted_at h hab hx hy
  unfold p_add1 apB at *
  simp only [Bool.not_eq_true', decide_eq_false_iff_not] at *
  omega
theorem mono_add2 {l : List Sp} (h : Snd l) (s1 s2 : Int) : ∀ (a b : Nat) (x y : Sp), a ≤ b → l[a]? = some x → l[b]? = some y → p_add2 s1 s2 x = true → p_add2 s1 s2 y = true := fun a b x y hab hx hy hp => by
  have := sorted_at h hab hx hy
  unfold p_add2 apB at *
  simp only [decide_eq_true_eq] at *
  omega

theorem add_no (V : Option Addr) (c : Nat) (l : List Sp) (s1 s2 : Int) (w : World) (hV : Ps w V l) (hin : InL l) (hl : l.length ≤ 1000000) (hno : s2 < s1 ∨ ¬ Snd l) :
    Calls Try.prog 12 #[.slice V l.length c, .agg #[.int .i64 s1, .int .i64 s2]] w fun e w' => e = .returned (.tuple #[.slice none 0 0, .int .u16 1]) ∧ Below w.heap.size w w' := by
  have HK := Lib.hid (((Qs.zero w).box #[.slice V l.length c] 22).box #[.int .i64 s1, .int .i64 s2] 24)
  by_cases h : s2 < s1
  · have hd : decide (s2 < s1) = true := decide_eq_true h
    clear hno h hV hin
    go_enter Try.func12, Try.ntmps12
    go_wp2_with fail
    go_ret2
    exact ⟨rfl, HK.out.top 2⟩
  · have hd : decide (s2 < s1) = false := decide_eq_false h
    have hs : sndB l = false := decide_eq_false (by rcases hno with h1 | h1; exact absurd h1 h; exact h1)
    have hS := fun (W : World) (hb : Below w.heap.size w W) => sound_any V c l W (hV.below hb (Nat.le_refl _)) hin hl
    rw [hs] at hS
    have HS := Lib.hid (hS _ (HK.out.top 2))
    clear hno h hV hin hs hS
    go_enter Try.func12, Try.ntmps12
    go_wp2_with fail
    refine HS.out.mono ?_
    rintro e w1 ⟨rfl, b1⟩
    have HK1 := Lib.hid (HK.out.go b1)
    clear b1
    go_wp2_with fail
    go_ret2
    exact ⟨rfl, HK1.out.top 2⟩

set_option maxHeartbeats 8000000 in
theorem add_yes (V : Option Addr) (c : Nat) (l : List Sp) (s1 s2 : Int) (w : World) (hV : Sl w V c l) (hin : InL l) (hl : l.length ≤ 999999) (hs : Snd l) (h12 : s1 ≤ s2) (hi1 : In s1) (hi2 : In s2) :
    Calls Try.prog 12 #[.slice V l.length c, .agg #[.int .i64 s1, .int .i64 s2]] w fun e w' => (∃ R A c', AddR l (s1, s2) R ∧ e = .returned (.tuple #[.slice A R.length c', .int .u16 0]) ∧ OwnR w' w.heap.size 24 encS 2 (.slice A R.length c') R) ∧ Below w.heap.size w w' := by
  have K := ((Qs.zero w).box #[.slice V l.length c] 22).box #[.int .i64 s1, .int .i64 s2] 24
  simp only [World.size_alloc] at K
  have HK := Lib.hid K
  have hd : decide (s2 < s1) = false := decide_eq_false (by omega)
  have hS := sound_any V c l _ (hV.ps.below (K.top 2) (Nat.le_refl _)) hin (by omega)
  rw [show sndB l = true from decide_eq_true hs] at hS
  have HS := Lib.hid hS
  have HV := Lib.hid hV
  have HSd := Lib.hid hs
  have HI := Lib.hid (And.intro hin (And.intro hi1 hi2))
  clear hV hin hs hi1 hi2 hS K
  go_enter Try.func12, Try.ntmps12
  go_wp2_with fail
  refine HS.out.mono ?_
  rintro e w1 ⟨rfl, b1⟩
  have HK1 := Lib.hid (HK.out.go b1)
  clear b1 HS HK
  have C := HK1.out.says
  simp only [sayAll, cellsSay, qB, qW, Nat.reduceAdd, and_true, true_and] at C
  go_wp2_with fail
  refine (search_add1 w.heap.size (w.heap.size + 1) s1 s2 V c l w1 (HK1.out.blk 1) (HK1.out.blk 0) (HV.out.ps.below (HK1.out.top 2) (Nat.le_refl _)) HI.out.1 HI.out.2.1 HI.out.2.2 (by omega) (mono_add1 HSd.out s1 s2)).mono ?_
  rintro e w2 ⟨⟨r1, hr1, rfl, hp1⟩, b2⟩
  have HP1 := Lib.hid hp1
  have HK2 := Lib.hid (HK1.out.go b2)
  clear b2 HK1 C hp1
  have C := HK2.out.says
  simp only [sayAll, cellsSay, qB, qW, Nat.reduceAdd, and_true, true_and] at C
  go_wp2_with fail
  refine (search_add2 w.heap.size (w.heap.size + 1) s1 s2 V c l w2 (HK2.out.blk 1) (HK2.out.blk 0) (HV.out.ps.below (HK2.out.top 2) (Nat.le_refl _)) HI.out.1 HI.out.2.1 HI.out.2.2 (by omega) (mono_add2 HSd.out s1 s2)).mono ?_
  rintro e w3 ⟨⟨r2, hr2, rfl, hp2⟩, b3⟩
  have hA : ∀ (k : Nat) (x : Sp), l[k]? = some x → (k < r1 ↔ x.2 + 1 < s1) := fun k x hx => (HP1.out k x hx).trans (by unfold p_add1 apB; simp)
  have hZ : ∀ (k : Nat) (x : Sp), l[k]? = some x → (r2 ≤ k ↔ s2 + 1 < x.1) := fun k x hx => by
    have := hp2 k x hx
    unfold p_add2 apB at this
    simp only [decide_eq_false_iff_not] at this
    omega
  have h12r : r1 ≤ r2 := by
    rcases Nat.lt_or_ge r2 r1 with h | h
    · have hx := List.getElem?_eq_getElem (show r2 < l.length by omega)
      have a1 := (hA r2 _ hx).1 h
      have a2 := (hZ r2 _ hx).1 (Nat.le_refl _)
      have a3 := HSd.out.1 _ (List.getElem_mem (show r2 < l.length by omega))
      omega
    · exact h
  have hR := addAt_ok (s := (s1, s2)) HSd.out h12 h12r hr2 hA hZ
  have HK3 := Lib.hid (HK2.out.go b3)
  clear b3 HK2 C hp2 HP1 hA hZ
  have C := HK3.out.says
  simp only [sayAll, cellsSay, qB, qW, Nat.reduceAdd, and_true, true_and] at C
  go_upto_if 28 with fail
  go_cut [28] (fun s28 wx => (∃ b, s28 = .bool b) ∧ ∃ m1 m2 : Int, Hid (Qs wx [qB (w.heap.size + 1) 24 #[.int .i64 m1, .int .i64 m2], qB w.heap.size 22 #[.slice V l.length c], qW w w.heap.size (Nat.le_refl _)]) ∧ Hid (In m1 ∧ In m2 ∧ Snd (l.take r1 ++ [(m1, m2)] ++ l.drop r2) ∧ ∀ t, Mem t (l.take r1 ++ [(m1, m2)] ++ l.drop r2) ↔ Mem t l ∨ (s1 ≤ t ∧ t ≤ s2)))
  case first =>
    by_cases hlt : r1 < r2
    · obtain ⟨j, rfl⟩ : ∃ j, r2 = j + 1 := ⟨r2 - 1, by omega⟩
      have g1 : l[r1]? = some l[r1] := List.getElem?_eq_getElem (by omega)
      have g2 : l[j]? = some l[j] := List.getElem?_eq_getElem (by omega)
      obtain ⟨p, o, hp, hc1⟩ := ps_at HV.out.ps r1 _ g1
      obtain ⟨p', o', hp', hc2⟩ := ps_at HV.out.ps j _ g2
      subst hp
      injection hp' with e1
      injection e1 with e1 e2 _
      subst e1; subst e2
      unfold addAt at hR
      rw [if_pos hlt] at hR
      have d1 : l.getD r1 (0, 0) = l[r1] := by simp [List.getD, g1]
      have d2 : l.getD (j + 1 - 1) (0, 0) = l[j] := by rw [Nat.add_sub_cancel]; simp [List.getD, g2]
      rw [d1, d2] at hR
      have i1 := HI.out.1 _ (List.mem_of_getElem? g1)
      have i2 := HI.out.1 _ (List.mem_of_getElem? g2)
      obtain ⟨x, hx⟩ : ∃ x, x = l[r1] := ⟨_, rfl⟩
      obtain ⟨y, hy⟩ : ∃ y, y = l[j] := ⟨_, rfl⟩
      rw [← hx] at hc1 hR i1
      rw [← hy] at hc2 hR i2
      obtain ⟨xf, xt⟩ := x
      obtain ⟨yf, yt⟩ := y
      dsimp only at hc1 hc2 hR i1 i2
      have D1 := hc1 w3 (HK3.out.top 2)
      have hpw : p < w3.heap.size := cell_lt D1.1
      have hpw0 : p < w.heap.size := cell_lt (hc1 w (Below.refl _ _)).1
      have D2 := hc2 w3 (HK3.out.top 2)
      have hw2 : IntKind.i64.wrap (j : Int) = j := by rw [IntKind.wrap_i64]; omega
      have hj1 : (j : Int) < l.length := by omega
      have hj2 : 0 ≤ (j : Int) := by omega
      have hj3 : j < l.length := by omega
      have hr3 : r1 < l.length := by omega
      have hr4 : (r1 : Int) < l.length := by omega
      have hltI : (r1 : Int) < (j : Int) + 1 := by omega
      have HR0 := Lib.hid hR
      have HX := Lib.hid (And.intro i1 i2)
      clear g1 g2 hc1 d1 d2 hx hy hR i1 i2 h12r
      by_cases hm1 : xf < s1
      · by_cases hm2 : s2 < yt
        · go_wp2_with fail
          go_region
          have K4 := (HK3.out.put 0 (w.heap.size + 1) [(0, .int .i64 xf)] #[.int .i64 xf, .int .i64 s2] (by simp only [apBut, apAll, qB, qW, and_true]; omega)).drew
          simp only [List.set] at K4
          have HK4 := Lib.hid K4
          clear K4
          go_wp2_with fail
          go_region
          have K5 := (HK4.out.put 0 (w.heap.size + 1) [(1, .int .i64 yt)] #[.int .i64 xf, .int .i64 yt] (by simp only [apBut, apAll, qB, qW, and_true]; omega)).drew
          simp only [List.set] at K5
          have HK5 := Lib.hid K5
          clear K5
          go_wp2_with fail
          go_meet
          refine ⟨⟨_, rfl⟩, xf, yt, HK5, Lib.hid ⟨?_, ?_, ?_, ?_⟩⟩
          · have := HX.out; have := HI.out.2; first | exact this.1 | exact HX.out.1.1
          · have := HX.out; have := HI.out.2; first | exact this.2 | exact HX.out.2.2
          · have := HR0.out.1; rw [show min s1 xf = xf by omega, show max s2 yt = yt by omega] at this; exact this
          · have := HR0.out.2; rw [show min s1 xf = xf by omega, show max s2 yt = yt by omega] at this; exact this
        · go_wp2_with fail
          go_region
          have K4 := (HK3.out.put 0 (w.heap.size + 1) [(0, .int .i64 xf)] #[.int .i64 xf, .int .i64 s2] (by simp only [apBut, apAll, qB, qW, and_true]; omega)).drew
          simp only [List.set] at K4
          have HK4 := Lib.hid K4
          clear K4
          go_wp2_with fail
          go_region
          have K5 := (HK4.out.put 0 (w.heap.size + 1) [(1, .int .i64 s2)] #[.int .i64 xf, .int .i64 s2] (by simp only [apBut, apAll, qB, qW, and_true]; omega)).drew
          simp only [List.set] at K5
          have HK5 := Lib.hid K5
          clear K5
          go_wp2_with fail
          go_meet
          refine ⟨⟨_, rfl⟩, xf, s2, HK5, Lib.hid ⟨?_, ?_, ?_, ?_⟩⟩
          · have := HX.out; have := HI.out.2; first | exact this.1 | exact HX.out.1.1
          · have := HX.out; have := HI.out.2; first | exact this.2 | exact HX.out.2.2
          · have := HR0.out.1; rw [show min s1 xf = xf by omega, show max s2 yt = s2 by omega] at this; exact this
          · have := HR0.out.2; rw [show min s1 xf = xf by omega, show max s2 yt = s2 by omega] at this; exact this
      · by_cases hm2 : s2 < yt
        · go_wp2_with fail
          go_region
          have K4 := (HK3.out.put 0 (w.heap.size + 1) [(0, .int .i64 s1)] #[.int .i64 s1, .int .i64 s2] (by simp only [apBut, apAll, qB, qW, and_true]; omega)).drew
          simp only [List.set] at K4
          have HK4 := Lib.hid K4
          clear K4
          go_wp2_with fail
          go_region
          have K5 := (HK4.out.put 0 (w.heap.size + 1) [(1, .int .i64 yt)] #[.int .i64 s1, .int .i64 yt] (by simp only [apBut, apAll, qB, qW, and_true]; omega)).drew
          simp only [List.set] at K5
          have HK5 := Lib.hid K5
          clear K5
          go_wp2_with fail
          go_meet
          refine ⟨⟨_, rfl⟩, s1, yt, HK5, Lib.hid ⟨?_, ?_, ?_, ?_⟩⟩
          · have := HX.out; have := HI.out.2; first | exact this.1 | exact HX.out.1.1
          · have := HX.out; have := HI.out.2; first | exact this.2 | exact HX.out.2.2
          · have := HR0.out.1; rw [show min s1 xf = s1 by omega, show max s2 yt = yt by omega] at this; exact this
          · have := HR0.out.2; rw [show min s1 xf = s1 by omega, show max s2 yt = yt by omega] at this; exact this
        · go_wp2_with fail
          go_region
          have K4 := (HK3.out.put 0 (w.heap.size + 1) [(0, .int .i64 s1)] #[.int .i64 s1, .int .i64 s2] (by simp only [apBut, apAll, qB, qW, and_true]; omega)).drew
          simp only [List.set] at K4
          have HK4 := Lib.hid K4
          clear K4
          go_wp2_with fail
          go_region
          have K5 := (HK4.out.put 0 (w.heap.size + 1) [(1, .int .i64 s2)] #[.int .i64 s1, .int .i64 s2] (by simp only [apBut, apAll, qB, qW, and_true]; omega)).drew
          simp only [List.set] at K5
          have HK5 := Lib.hid K5
          clear K5
          go_wp2_with fail
          go_meet
          refine ⟨⟨_, rfl⟩, s1, s2, HK5, Lib.hid ⟨?_, ?_, ?_, ?_⟩⟩
          · have := HX.out; have := HI.out.2; first | exact this.1 | exact HX.out.1.1
          · have := HX.out; have := HI.out.2; first | exact this.2 | exact HX.out.2.2
          · have := HR0.out.1; rw [show min s1 xf = s1 by omega, show max s2 yt = s2 by omega] at this; exact this
          · have := HR0.out.2; rw [show min s1 xf = s1 by omega, show max s2 yt = s2 by omega] at this; exact this
    · obtain rfl : r1 = r2 := by omega
      unfold addAt at hR
      rw [if_neg hlt] at hR
      have HR := Lib.hid hR
      clear hR
      go_wp2_with fail
      go_meet
      exact ⟨⟨_, rfl⟩, s1, s2, HK3, Lib.hid ⟨HI.out.2.1, HI.out.2.2, HR.out.1, HR.out.2⟩⟩
  case rest =>
    obtain ⟨⟨bb, rfl⟩, m1, m2, HK6, HR6⟩ := hcut
    clear C HK3 hR
    have C := HK6.out.says
    simp only [sayAll, cellsSay, qB, qW, Nat.reduceAdd, and_true, true_and] at C
    have ndr : ∀ (W : World) (a : Addr), W.drew.cell? a = W.cell? a := fun _ _ => rfl
    have hq1 := (HK6.out.blk 1).lt
    have hq0 := (HK6.out.blk 0).lt
    have na : ∀ (a : Addr) (o : Obj), a.block < wc.heap.size → (wc.alloc o).cell? a = wc.cell? a := fun a o h => World.cell?_alloc_lt _ _ _ h
    have n1 : ∀ (o : Obj) (k : Nat), (wc.alloc o).cell? ⟨w.heap.size, k, none⟩ = wc.cell? ⟨w.heap.size, k, none⟩ := fun o k => (World.cell?_alloc_lt _ _ _ hq1).trans rfl
    have n2 : ∀ (o : Obj) (k : Nat), (wc.alloc o).cell? ⟨w.heap.size + 1, k, none⟩ = wc.cell? ⟨w.heap.size + 1, k, none⟩ := fun o k => (World.cell?_alloc_lt _ _ _ hq0).trans rfl
    have n3 : ∀ (o o' : Obj) (k : Nat), ((wc.alloc o).alloc o').cell? ⟨w.heap.size, k, none⟩ = wc.cell? ⟨w.heap.size, k, none⟩ := fun o o' k => (World.cell?_alloc_lt _ _ _ (by rw [World.size_alloc]; exact Nat.lt_succ_of_lt hq1)).trans (n1 o k)
    have n4 : ∀ (o o' : Obj) (k : Nat), ((wc.alloc o).alloc o').cell? ⟨w.heap.size + 1, k, none⟩ = wc.cell? ⟨w.heap.size + 1, k, none⟩ := fun o o' k => (World.cell?_alloc_lt _ _ _ (by rw [World.size_alloc]; exact Nat.lt_succ_of_lt hq0)).trans (n2 o k)
    have d0 : wc.cell? ⟨w.heap.size, 0, none⟩ = some (.slice V l.length c) ∧ wc.cell? ⟨w.heap.size + 1, 0, none⟩ = some (.int .i64 m1) ∧ wc.cell? ⟨w.heap.size + 1, 1, none⟩ = some (.int .i64 m2) := ⟨(HK6.out.blk 1).cell 0, (HK6.out.blk 0).cell 0, (HK6.out.blk 0).cell 1⟩
    have hvl := HV.out.len
    have hvc := HV.out.cap
    unfold maxLen at hvc
    have hr1c : r1 ≤ c := by omega
    have hr1l : r1 ≤ l.length := by omega
    have hM : Hid (∀ (A3 : Option Addr) (n3 c3 : Nat), Ps wc A3 (l.drop r2) → l.length - r2 = n3 → Calls Try.prog 30 #[.slice (some ⟨wc.heap.size + 1, 0, none⟩) 3 3] ((wc.alloc (.cells #[.int .i64 m1, .int .i64 m2] 24)).alloc (.cells #[.slice V r1 c, .slice (some ⟨wc.heap.size, 0, none⟩) 1 1, .slice A3 n3 c3] 22)).drew fun e w' =>
        ∃ R A c', AddR l (s1, s2) R ∧ e = .returned (.slice A R.length c') ∧ OwnR w' w.heap.size 24 encS 2 (.slice A R.length c') R ∧ Below w.heap.size w w' ∧ Below wc.heap.size wc w') := Lib.hid (fun A3 n3 c3 h3 hn3 => by
      have KB := (((HK6.out.box #[.int .i64 m1, .int .i64 m2] 24).box #[.slice V r1 c, .slice (some ⟨wc.heap.size, 0, none⟩) 1 1, .slice A3 n3 c3] 22)).drew
      simp only [World.size_alloc] at KB
      have hbw : Below wc.heap.size wc ((wc.alloc (.cells #[.int .i64 m1, .int .i64 m2] 24)).alloc (.cells #[.slice V r1 c, .slice (some ⟨wc.heap.size, 0, none⟩) 1 1, .slice A3 n3 c3] 22)).drew := (below_alloc2 wc _ _).trans ((Below.refl _ _).grown (grown_drew _ none) (by simp; omega) (fun k e => by cases e))
      refine (concat3 (wc.heap.size + 1) r1 1 n3 c 1 c3 V (some ⟨wc.heap.size, 0, none⟩) A3 (l.take r1) [(m1, m2)] (l.drop r2) _ _ (KB.blk 0) (rw_take (HV.out.ps.below (KB.top 4) (Nat.le_refl _)) r1) (rw_one (KB.blk 1) rfl) (h3.below hbw (Nat.le_refl _)) (by rw [List.length_take]; omega) rfl (by rw [List.length_drop]; exact hn3) (by omega) (by omega) (by omega)).mono ?_
      rintro e w' ⟨A, c', he, ho, hb⟩
      have hsz : w.heap.size ≤ ((wc.alloc (.cells #[.int .i64 m1, .int .i64 m2] 24)).alloc (.cells #[.slice V r1 c, .slice (some ⟨wc.heap.size, 0, none⟩) 1 1, .slice A3 n3 c3] 22)).drew.heap.size := (KB.top 4).size
      refine ⟨_, A, c', ⟨HR6.out.2.2.1, HR6.out.2.2.2, fun x hx => ?_, ?_⟩, he, ho.mono hsz, (KB.top 4).trans (hb.mono hsz), hbw.trans (hb.mono hbw.size)⟩
      · rcases List.mem_append.1 hx with hx | hx
        · rcases List.mem_append.1 hx with hx | hx
          · exact HI.out.1 x (List.mem_of_mem_take hx)
          · rw [List.mem_singleton.1 hx]; exact ⟨HR6.out.1, HR6.out.2.1⟩
        · exact HI.out.1 x (List.mem_of_mem_drop hx)
      · simp only [List.length_append, List.length_take, List.length_drop, List.length_singleton]; omega)
    have HPs := Lib.hid (HV.out.ps.below (HK6.out.top 2) (Nat.le_refl _))
    have hVn := HV.out.nil
    clear C
    cases V with
    | none =>
      have hc0 := hVn rfl
      subst hc0
      have h0 : l = [] := List.eq_nil_of_length_eq_zero (by omega)
      subst h0
      simp only [List.length_nil] at *
      obtain rfl : r1 = 0 := by omega
      obtain rfl : r2 = 0 := by omega
      have HMn := Lib.hid (hM.out none 0 0 (by rw [List.drop_zero]; exact HPs.out) rfl)
      clear hVn
      go_wp2_with fail
      go_region_held3 (fun w' => w'.cell? ⟨w.heap.size, 0, none⟩ = some (.slice none 0 0) ∧ w'.cell? ⟨w.heap.size + 1, 0, none⟩ = some (.int .i64 m1) ∧ w'.cell? ⟨w.heap.size + 1, 1, none⟩ = some (.int .i64 m2)) (first | with_reducible exact d0 | with_reducible exact d8 | (simp only [ndr]; with_reducible exact d0) | (simp only [ndr, n1, n2]; with_reducible exact d0) | (simp only [ndr, n3, n4]; with_reducible exact d0))
        ((go_at_call 30; refine HMn.out.mono ?_; rintro e w8 ⟨R, A8, c8, hR8, rfl, ho8, hb8, hb9⟩; have H8 := Lib.hid (And.intro hR8 (And.intro ho8 hb8)); have d8 : (w8 : World).cell? ⟨w.heap.size, 0, none⟩ = some (.slice none 0 0) ∧ (w8 : World).cell? ⟨w.heap.size + 1, 0, none⟩ = some (.int .i64 m1) ∧ (w8 : World).cell? ⟨w.heap.size + 1, 1, none⟩ = some (.int .i64 m2) := ⟨((HK6.out.go hb9).blk 1).cell 0, ((HK6.out.go hb9).blk 0).cell 0, ((HK6.out.go hb9).blk 0).cell 1⟩; clear hR8 ho8 hb8 hb9))
      all_goals
        go_wp2_with fail
        go_ret2
        exact ⟨⟨R, A8, c8, H8.out.1, rfl, H8.out.2.1⟩, H8.out.2.2⟩
    | some a =>
      by_cases hcr : c = r2
      · have hcl : l.length = r2 := by omega
        have HMs := Lib.hid (hM.out (some a) 0 0 (by rw [List.drop_of_length_le (by omega)]; exact Rw.nil _ _ _ _) (by omega))
        have HCL := Lib.hid hcl
        subst hcr
        rw [hcl] at d0 ⊢
        clear hVn hcl
        go_wp2_with fail
        go_region_held3 (fun w' => w'.cell? ⟨w.heap.size, 0, none⟩ = some (.slice (some a) c c) ∧ w'.cell? ⟨w.heap.size + 1, 0, none⟩ = some (.int .i64 m1) ∧ w'.cell? ⟨w.heap.size + 1, 1, none⟩ = some (.int .i64 m2)) (first | with_reducible exact d0 | with_reducible exact d8 | (simp only [ndr]; with_reducible exact d0) | (simp only [ndr, n1, n2]; with_reducible exact d0) | (simp only [ndr, n3, n4]; with_reducible exact d0))
          ((go_at_call 30; refine HMs.out.mono ?_; rintro e w8 ⟨R, A8, c8, hR8, rfl, ho8, hb8, hb9⟩; have H8 := Lib.hid (And.intro hR8 (And.intro ho8 hb8)); have d8 : (w8 : World).cell? ⟨w.heap.size, 0, none⟩ = some (.slice (some a) c c) ∧ (w8 : World).cell? ⟨w.heap.size + 1, 0, none⟩ = some (.int .i64 m1) ∧ (w8 : World).cell? ⟨w.heap.size + 1, 1, none⟩ = some (.int .i64 m2) := ⟨by have h9 := ((HK6.out.go hb9).blk 1).cell 0; rw [HCL.out] at h9; exact h9, ((HK6.out.go hb9).blk 0).cell 0, ((HK6.out.go hb9).blk 0).cell 1⟩; clear hR8 ho8 hb8 hb9))
        all_goals
          go_wp2_with fail
          go_ret2
          exact ⟨⟨R, A8, c8, H8.out.1, rfl, H8.out.2.1⟩, H8.out.2.2⟩
      · have HMs := Lib.hid (hM.out (some (a.add (r2 * 2))) (l.length - r2) (c - r2) (rw_drop HPs.out r2) rfl)
        clear hVn
        have hcr2 : r2 < c := by omega
        go_wp2_with fail
        go_region_held3 (fun w' => w'.cell? ⟨w.heap.size, 0, none⟩ = some (.slice (some a) l.length c) ∧ w'.cell? ⟨w.heap.size + 1, 0, none⟩ = some (.int .i64 m1) ∧ w'.cell? ⟨w.heap.size + 1, 1, none⟩ = some (.int .i64 m2)) (first | with_reducible exact d0 | with_reducible exact d8 | (simp only [ndr]; with_reducible exact d0) | (simp only [ndr, n1, n2]; with_reducible exact d0) | (simp only [ndr, n3, n4]; with_reducible exact d0))
          ((go_at_call 30; refine HMs.out.mono ?_; rintro e w8 ⟨R, A8, c8, hR8, rfl, ho8, hb8, hb9⟩; have H8 := Lib.hid (And.intro hR8 (And.intro ho8 hb8)); have d8 : (w8 : World).cell? ⟨w.heap.size, 0, none⟩ = some (.slice (some a) l.length c) ∧ (w8 : World).cell? ⟨w.heap.size + 1, 0, none⟩ = some (.int .i64 m1) ∧ (w8 : World).cell? ⟨w.heap.size + 1, 1, none⟩ = some (.int .i64 m2) := ⟨((HK6.out.go hb9).blk 1).cell 0, ((HK6.out.go hb9).blk 0).cell 0, ((HK6.out.go hb9).blk 0).cell 1⟩; clear hR8 ho8 hb8 hb9))
        all_goals
          go_wp2_with fail
          go_ret2
          exact ⟨⟨R, A8, c8, H8.out.1, rfl, H8.out.2.1⟩, H8.out.2.2⟩

end Go.Proofs.Ytfbnobhecfgahaa
