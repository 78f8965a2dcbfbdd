/- Joined: Bk37. -/
import Derived.Test.YtiipmjdmmoaodaaDoorQ44
import Derived.Test.YtiipmjdmmoaodaaDoorQ45
import Derived.Test.YtiipmjdmmoaodaaDoorQ49
set_option linter.unusedSimpArgs false
set_option linter.unusedVariables false
/- Layer 12: walk of BookKeeps. -/
set_option linter.unusedSimpArgs false
set_option linter.unusedVariables false
namespace Go.Proofs.YtiipmjdmmoaodaaDoor
open Go.RowKit
set_option maxRecDepth 100000

section
variable {B : Nat} {w0 w w' : World} {q : Nat} {D : BD} {ts us : List Kt}
theorem bk_samples (h : Bk B w0 w q D ts) (hT : Tab w) (x : Nat) (hx : x < 4294967296) : Calls Tryd.prog 17 #[ptB q, .int .u32 (x : Nat)] w fun e w' => ∃ U n, e = .returned (.slice U (D.at_ x).flatten.length n) ∧ OwnR w' w.heap.size 66 smp 2 (.slice U (D.at_ x).flatten.length n) (D.at_ x).flatten ∧ Below w.heap.size w w' := by
  obtain ⟨X, rfl, rfl, ok, hS⟩ := h
  exact bSamples_any (RdK.of (hS.at_ 0 rfl)) ok hT x hx
theorem bk_chunks (h : Bk B w0 w q D ts) (x : Nat) (hx : x < 4294967296) : Calls Tryd.prog 18 #[ptB q, .int .u32 (x : Nat)] w fun e w' => ∃ U n T, e = .returned (.slice U T.length n) ∧ OwnR w' w.heap.size 45 encFrE 11 (.slice U T.length n) T ∧ ChT (D.at_ x) T ∧ Below w.heap.size w w' := by
  obtain ⟨X, rfl, rfl, ok, hS⟩ := h
  exact bChunks_any (RdK.of (hS.at_ 0 rfl)) ok x hx
theorem bk_series (h : Bk B w0 w q D ts) : Calls Tryd.prog 15 #[ptB q] w (SrtO w (D.M.map Prod.fst)) := by
  obtain ⟨X, rfl, rfl, ok, hS⟩ := h
  exact bSeries_any (RdK.of (hS.at_ 0 rfl)) ok
theorem bk_seriesN (h : Bk B w0 w q D ts) : Calls Tryd.prog 15 #[ptB q] w fun e w' => ∃ U c, e = .returned (.slice U D.M.length c) ∧ Below w.heap.size w w' := by
  refine (bk_series h).mono ?_
  rintro e w' ⟨U, c, xs, rfl, h1, h2, h3, h4⟩
  have hl := h1.length_eq
  rw [List.length_map] at hl
  rw [hl]
  exact ⟨U, c, rfl, h4⟩
end
theorem csame_eq (V U : Option Addr) (n c d : Nat) (a : List (Int × Nat)) (w : World) (hn : n = a.length) (hV : Rw w smp 2 V a) (hU : Rw w smp 2 U a) (hal : a.length ≤ 4096) :
    Calls Tryd.prog 16 #[.slice V n c, .slice U n d] w fun e w' => e = .returned (.bool true) ∧ Below w.heap.size w w' := by
  have := csame_any V U c d a a w hV.ss hU.ss hal hal
  rw [decide_eq_true rfl] at this
  rw [hn]
  exact this
theorem ch_flat {C : CsT} (hC : C ≠ []) : (C.take (chN C)).flatten = C.flatten := by
  unfold chN
  split
  · rename_i h
    rw [← List.dropLast_eq_take]
    rw [cs_flat hC, h, List.append_nil]
  · rw [List.take_length]
/-- what the law looks at of a chunk -/
theorem ch_law {sz k : Nat} {C : CsT} {T : List FrE} (hf : ∀ L ∈ C.dropLast, L.length = sz) (hl : (lastL C).length < sz) (hT : ChT C T) {x : FrE} (hx : T[k]? = some x) :
    x.f.fc = k ∧ (x.f.cl = true → x.f.cn = sz) ∧ (x.f.cl = false → x.f.cn < sz ∧ k + 1 = T.length) ∧ ((C.take (k + 1)).flatten).length = ((C.take k).flatten).length + x.f.cn := by
  have h := hT.2 k x hx
  obtain ⟨L, hL, hcn, hne⟩ := h.cn
  have hk := (List.getElem?_eq_some_iff.1 hL).1
  refine ⟨h.fc, fun hc => ?_, fun hc => ?_, ?_⟩
  · rw [h.cl, decide_eq_true_eq] at hc
    rw [hcn]
    refine hf L (List.mem_of_getElem? (i := k) ?_)
    rw [List.getElem?_dropLast, if_pos (by omega)]
    exact hL
  · rw [h.cl, decide_eq_false_iff_not] at hc
    have hlast := last_at hL (by omega)
    refine ⟨by rw [hcn, ← hlast]; exact hl, ?_⟩
    have := hT.1
    unfold chN at this
    rw [hlast, if_neg hne] at this
    omega
  · rw [List.take_succ_eq_append_getElem hk, List.flatten_append, List.length_append, (List.getElem?_eq_some_iff.1 hL).2, hcn]
    simp
set_option maxHeartbeats 32000000 in
theorem bookKeeps_walk (size : Int) (V : Option Addr) (c : Nat) (l : List OB) (w : World) (hsz : in64 size) (hV : Rw w encOB 17 V l) (hok : ∀ o ∈ l, OkOB o) (hT : Tab w) :
    Calls Tryd.prog 4 #[.int .i64 size, .slice V l.length c] w fun e w' => e = .returned (.bool true) ∧ Below w.heap.size w w' := by
  have hmx : Tryd.prog.follows .mixedOrders = true := by kernel_rfl
  have HH := Lib.hid (heavyB_any V c l w hV)
  have HKn := Lib.hid (bknown_any w hT)
  have HV := Lib.hid (And.intro hsz (And.intro hV (And.intro hok hT)))
  obtain ⟨n, hn⟩ : ∃ n, n = l.length := ⟨_, rfl⟩
  have HN := Lib.hid hn
  rw [← hn] at HH ⊢
  clear hsz hV hok hT hn
  go_enter Tryd.func4, Tryd.ntmps4
  go_upto_region 1 with fail
  go_upto_if 17 with ((first | (go_at_call 7; refine HH.out.mono ?_; rintro e w1 ⟨r, rfl, rfl, hr⟩; cases r) | (go_at_call 8; refine HKn.out.mono ?_; rintro e w2 ⟨rfl, b2⟩)))
  rotate_left
  · go_wp2_with (go_at_call 8; refine HKn.out.mono ?_; rintro e w2 ⟨rfl, b2⟩)
    go_ret
    exact ⟨rfl, b2⟩
  have h60 := hr trivial
  have HLy := Lib.hid (bLay_any (Sep.nil b2 b2.size) HV.out.2.2.2 (Nat.le_refl _) size HV.out.1 V c l HV.out.2.1 HV.out.2.2.1 h60)
  rw [← HN.out] at HLy
  clear hr b2 HKn HH
  go_upto_region 4 with (go_at_call 9; refine HLy.out.mono ?_; rintro e w3 ⟨q, T, A, cc, rfl, hTD, hB⟩)
  obtain ⟨D, hD⟩ : ∃ D, D = laD (laSz size) l := ⟨_, rfl⟩
  have hLa : LaI (laSz size) l.length D := by
    have h1 : 1 ≤ laSz size ∧ laSz size ≤ 24 := by unfold laSz; omega
    have := laD_ok h1.1 h1.2 l HV.out.2.2.1 l.length (Nat.le_refl _) (by omega)
    rw [List.take_length, ← hD] at this
    exact this
  rw [← hD] at hTD hB
  rw [List.append_nil] at hB
  obtain ⟨tn, htn⟩ : ∃ n, n = T.length := ⟨_, rfl⟩
  rw [← htn] at hB ⊢
  have HL := Lib.hid (And.intro hLa (And.intro hTD htn))
  have HB := Lib.hid hB
  have htn64 : tn ≤ 64 := by
    have h1 := hLa.ok.few
    have h2 := hLa.ok.mo2
    have h3 := congrArg List.length hTD
    rw [List.length_map, allD_len] at h3
    omega
  have H60 := Lib.hid h60
  clear h60 hD hLa hTD htn hB HLy
  have hMl : D.M.length = tn := by
    have h3 := congrArg List.length HL.out.2.1
    rw [List.length_map, allD_len] at h3
    rw [HL.out.2.2, h3]
  have hSe := bk_seriesN HB.out
  rw [hMl] at hSe
  have HSe := Lib.hid hSe
  clear hSe hMl
  go_wp2_with (go_at_call 15; refine HSe.out.mono ?_; rintro e w4 ⟨U4, c4, rfl, b4⟩)
  have HB4 := Lib.hid (HB.out.go b4)
  clear HB HSe b4
  have h60b : n ≤ 60 := by rw [HN.out]; exact H60.out
  have HSz := Lib.hid (show 1 + max size 0 % 24 = ((laSz size : Nat) : Int) by unfold laSz; omega)
  go_loopw [7, 8, 9, 10, 11] (fun s7 s8 s9 s10 s11 wr => ∃ i : Nat, s7 = .int .i64 (i : Nat) ∧ i ≤ tn ∧ Hid (Bk w1.heap.size w1 wr q D (laT (.slice A tn cc) T)))
    (fun s7 _ _ _ _ _ => tn - (intOf s7).toNat)
  case atStart => exact ⟨0, by go_num, Nat.zero_le _, HB4⟩
  case round =>
    obtain ⟨i, rfl, hi, HBr⟩ := hrel
    obtain ⟨wo, hwo⟩ : ∃ wo, wo = wr := ⟨_, rfl⟩
    rw [← hwo] at HBr ⊢
    clear hwo
    by_cases hit : i < tn
    · obtain ⟨y0, hy0⟩ : ∃ y, T[i]? = some y := ⟨_, List.getElem?_eq_getElem (by rw [← HL.out.2.2]; exact hit)⟩
      obtain ⟨gr, hgr, -, -⟩ := row_at Tryd.eltSe (HBr.out.sep.at_ (t := thR 33 encSe 2 (.slice A tn cc) T) 0 rfl) hy0
      subst hgr
      have hk := la_key HL.out.1 HL.out.2.1 hy0
      obtain ⟨id, hid⟩ : ∃ x, x = y0.id := ⟨_, rfl⟩
      rw [← hid] at hk
      have hid64 : id < 64 := hk.1
      have hoc := HL.out.1.ok.at_ id
      have hfull := HL.out.1.full id
      have hlast := HL.out.1.last id
      have hfl : (D.at_ id).flatten.length ≤ 60 := by
        have h1 := HL.out.1.len id
        have h2 := HN.out
        omega
      have hyn : y0.n = y0.L.length ∧ y0.L.length ≤ 60 := by
        have hr := HBr.out.sep.get (t := seT y0) (List.mem_cons_of_mem _ (List.mem_map.2 ⟨y0, List.mem_of_getElem? hy0, rfl⟩))
        obtain ⟨A2, c2, e2, -, -⟩ := OwnR.row Tryd.eltS hr
        injection e2 with _ e3 _
        exact ⟨e3, by rw [← hk.2.1]; exact hfl⟩
      obtain ⟨yl, hyl⟩ : ∃ x, x = y0.L.length := ⟨_, rfl⟩
      have hyl60 : yl ≤ 60 := by rw [hyl]; exact hyn.2
      have cells : ∀ W : World, Bk w1.heap.size w1 W q D (laT (.slice (some ⟨gr, 0, none⟩) tn cc) T) → W.cell? ⟨gr, i * 2, none⟩ = some (.int .u32 (id : Nat)) ∧ W.cell? ⟨gr, i * 2 + 1, none⟩ = some (.slice y0.A yl y0.c) ∧ Rw W smp 2 y0.A y0.L := fun W hW => by
        refine ⟨?_, ?_, ?_⟩
        · rw [hid]
          exact row_cellE Tryd.eltSe (hW.sep.at_ (t := thR 33 encSe 2 (.slice (some ⟨gr, 0, none⟩) tn cc) T) 0 rfl) hy0 0 _ rfl
        · rw [hyl, ← hyn.1]
          exact row_cellE Tryd.eltSe (hW.sep.at_ (t := thR 33 encSe 2 (.slice (some ⟨gr, 0, none⟩) tn cc) T) 0 rfl) hy0 1 _ rfl
        · have hr := hW.sep.get (t := seT y0) (List.mem_cons_of_mem _ (List.mem_map.2 ⟨y0, List.mem_of_getElem? hy0, rfl⟩))
          obtain ⟨A2, c2, e2, -, h3⟩ := OwnR.row Tryd.eltS hr
          injection e2 with e4 _ _
          rw [e4]
          exact h3
      have HCe := Lib.hid cells
      have HC := Lib.hid (And.intro hk (And.intro hoc (And.intro hfull (And.intro hlast (And.intro hfl hyl)))))
      clear hy0 hid hk hoc hfull hlast hfl hyn hyl cells
      have hit2 : (i : Int) < (tn : Int) := by omega
      go_upto_region 9 with fail
      obtain ⟨I, hI⟩ : ∃ I : Rec → World → Prop, ∀ E W, I E W ↔ (Bk w1.heap.size w1 W q D (laT (.slice (some ⟨gr, 0, none⟩) tn cc) T) ∧ ∀ u, E 6 = some u → ∃ U n, u = .slice U yl n ∧ Rw W smp 2 U y0.L) := ⟨_, fun _ _ => Iff.rfl⟩
      have hI0 : I (fun _ => none) wo.drew := (hI _ _).2 ⟨HBr.out.go (Below.refl _ _).drew, fun u h => by cases h⟩
      haveI : Nonempty (InvW I) := ⟨⟨_, _, hI0⟩⟩
      have e1 := fun (y : InvW I) => (HCe.out y.W ((hI _ _).1 y.h).1).1
      have e2 := fun (y : InvW I) => (HCe.out y.W ((hI _ _).1 y.h).1).2.1
      have HI2 := Lib.hid hI
      clear hI
      refine wp_region_inv I [[], [], [], [], [], [], [], [], [], [], [], [], [6]] [3, 6, 9, 12] (fun k2 v => if k2 = 12 then v = .bool true else if k2 = 6 then ∃ U n, v = .slice U yl n else v = .pointer (some ⟨gr, i * 2, none⟩)) hmx (by kernel_rfl) hI0 ?_
      iterate 3 (refine walkJ_one rfl (by kernel_rfl) ?_; go_big_quiet_step (fail); refine wpQuiet_nil ?_)
      refine walkJ_turn rfl rfl ⟨_, rfl⟩ (fun s W1 hs h7 _ => ?_) ?_
      · obtain ⟨h, h2⟩ := (HI2.out _ _).1 hs
        exact inv_val (W' := W1) (v := .pointer (some ⟨gr, i * 2, none⟩)) (by simp [execOp, go_sem, hit2]) ⟨rfl, (HI2.out _ _).2 ⟨h, fun u hu => h2 u (by rw [recSet_ne (by decide)] at hu; exact hu)⟩⟩
      rintro v rfl
      conv => arg 11; simp [Act.put]
      iterate 2 (refine walkJ_one rfl (by kernel_rfl) ?_; go_big_quiet_step (fail); refine wpQuiet_nil ?_)
      refine walkJ_turn rfl rfl ⟨_, none, 0, rfl⟩ (fun s W1 hs h7 _ => ?_) ?_
      · obtain ⟨h, -⟩ := (HI2.out _ _).1 hs
        have hsm := bk_samples h (tabGo HV.out.2.2.2 h.b) id (by omega)
        rw [HC.out.1.2.1, ← HC.out.2.2.2.2.2] at hsm
        refine inv_call (by simp [execOp, go_sem]) (hsm.mono ?_)
        rintro e w5 ⟨U, n5, rfl, ho, b5⟩
        refine ⟨_, rfl, ⟨U, n5, rfl⟩, (HI2.out _ _).2 ⟨h.go b5, fun u hu => ?_⟩⟩
        rw [recSet_same] at hu
        injection hu with hu
        obtain ⟨U2, n2, e3, -, h3⟩ := OwnR.row Tryd.eltS ho
        injection e3 with e4 _ _
        exact ⟨U, n5, hu.symm, by rw [e4]; exact h3⟩
      rintro v ⟨U5, n5, rfl⟩
      conv => arg 11; simp [Act.put]
      iterate 2 (refine walkJ_one rfl (by kernel_rfl) ?_; go_big_quiet_step (fail); refine wpQuiet_nil ?_)
      refine walkJ_turn rfl rfl ⟨_, rfl⟩ (fun s W1 hs h7 _ => ?_) ?_
      · obtain ⟨h, h2⟩ := (HI2.out _ _).1 hs
        exact inv_val (W' := W1) (v := .pointer (some ⟨gr, i * 2, none⟩)) (by simp [execOp, go_sem, hit2]) ⟨rfl, (HI2.out _ _).2 ⟨h, fun u hu => h2 u (by rw [recSet_ne (by decide)] at hu; exact hu)⟩⟩
      rintro v rfl
      conv => arg 11; simp [Act.put]
      iterate 2 (refine walkJ_one rfl (by kernel_rfl) ?_; go_big_quiet_step (fail); refine wpQuiet_nil ?_)
      refine walkJ_turn rfl rfl ⟨_, rfl⟩ (fun s W1 hs h7 hch => ?_) ?_
      · obtain ⟨h, h2⟩ := (HI2.out _ _).1 hs
        obtain ⟨U6, n6, e6, hU6⟩ := h2 _ ((hch 6 (by simp)).trans rfl)
        injection e6 with e7 _ e8
        rw [← e7] at hU6
        refine inv_call (by simp [execOp, go_sem]) ((csame_eq U5 y0.A yl n5 y0.c y0.L W1 HC.out.2.2.2.2.2 hU6 (HCe.out _ h).2.2 (by rw [← HC.out.2.2.2.2.2]; omega)).mono ?_)
        rintro e w6 ⟨rfl, b6⟩
        refine ⟨_, rfl, rfl, (HI2.out _ _).2 ⟨h.go b6, fun u hu => ?_⟩⟩
        rw [recSet_ne (by decide)] at hu
        obtain ⟨U7, n7, e7, h7⟩ := h2 u hu
        exact ⟨U7, n7, e7, h7.below b6 (Nat.le_refl _)⟩
      rintro v rfl
      conv => arg 11; simp [Act.put]
      iterate 1 (refine walkJ_one rfl (by kernel_rfl) ?_; go_big_quiet_step (fail); refine wpQuiet_nil ?_)
      refine walkJ_end ?_
      intro wp hW'
      have hBp := ((HI2.out _ _).1 hW').1
      have HBp := Lib.hid hBp
      have hcells := HCe.out wp hBp
      have D1 := hcells.1
      have hCh := Lib.hid (bk_chunks hBp id (by omega))
      clear e1 e2 hW' HI2 hBp hcells hI0 HBr
      go_upto_region 12 with (go_at_call 18; refine hCh.out.mono ?_; rintro e w7 ⟨U7, n7, F, rfl, hoF, hF, b7⟩)
      have hBw := HBp.out.go b7
      obtain ⟨m, hm⟩ : ∃ m, m = F.length := ⟨_, rfl⟩
      rw [← hm] at hoF ⊢
      have hcells := (HCe.out w7 hBw).2.1
      have HF := Lib.hid (And.intro hm (And.intro (hoF.mono (Nat.zero_le _)) hF))
      have HB7 := Lib.hid hBw
      have hm9 : m ≤ 2000 := by
        have h1 := hF.1
        have h2 := HC.out.2.1.few
        unfold chN at h1
        rw [hm, h1]
        split <;> omega
      clear hm hoF hF b7 hBw D1 hCh
      go_wp2_with fail
      go_loopw [9, 10, 11] (fun s9 s10 s11 wi => ∃ k nn : Nat, s10 = .int .i64 (k : Nat) ∧ k ≤ m ∧ s9 = .int .i64 (nn : Nat) ∧ nn ≤ 60 ∧ wi = w7 ∧ Hid (nn = (((D.at_ id).take k).flatten).length))
        (fun _ s10 _ _ => m - (intOf s10).toNat)
      case atStart => exact ⟨0, 0, by go_num, Nat.zero_le _, by go_num, Nat.zero_le _, rfl, Lib.hid rfl⟩
      case round =>
        obtain ⟨k, nn, rfl, hk, rfl, hnn, hwi, HK⟩ := hrel
        rw [hwi]
        clear hwi
        by_cases hkm : k < m
        · have hkm2 : (k : Int) < (m : Int) := by omega
          obtain ⟨x, hx⟩ : ∃ x, F[k]? = some x := ⟨_, List.getElem?_eq_getElem (by rw [← HF.out.1]; exact hkm)⟩
          obtain ⟨gf, hgf, -, hc⟩ := row_at Tryd.eltFrE HF.out.2.1 hx
          subst hgf
          have hlaw := ch_law HC.out.2.2.1 HC.out.2.2.2.1 HF.out.2.2 hx
          obtain ⟨⟨kd, ep, se, fc, fb, fn, cn, cl, sm, fl, n0⟩, XA, xc⟩ := x
          have c3 : w7.cell? ⟨gf, k * 11 + 3, none⟩ = some (.int .u32 (fc : Nat)) := hc 3 _ rfl
          have c6 : w7.cell? ⟨gf, k * 11 + 6, none⟩ = some (.int .u32 (cn : Nat)) := hc 6 _ rfl
          have c7 : w7.cell? ⟨gf, k * 11 + 7, none⟩ = some (.bool cl) := hc 7 _ rfl
          obtain ⟨l1, l2, l3, l4⟩ := hlaw
          replace l1 : fc = k := l1
          replace l2 : cl = true → cn = laSz size := l2
          replace l3 : cl = false → cn < laSz size ∧ k + 1 = F.length := l3
          replace l4 : (((D.at_ id).take (k + 1)).flatten).length = (((D.at_ id).take k).flatten).length + cn := l4
          have hb60 : (((D.at_ id).take (k + 1)).flatten).length ≤ 60 := by
            have h1 : (((D.at_ id).take (k + 1)) ++ ((D.at_ id).drop (k + 1))).flatten.length ≤ 60 := by rw [List.take_append_drop]; exact HC.out.2.2.2.2.1
            rw [List.flatten_append, List.length_append] at h1
            omega
          have hcn : nn + cn ≤ 60 := by have := HK.out; omega
          subst l1
          have HX := Lib.hid (And.intro hx l4)
          clear hx hc l4 hb60
          cases cl
          · obtain ⟨l5, l6⟩ := l3 rfl
            have hq : (((cn : Nat) : Int) == 1 + max size 0 % 24) = false := beq_eq_false_iff_ne.2 (by rw [HSz.out]; omega)
            have hq2 : ¬ ((cn : Nat) : Int) = 1 + max size 0 % 24 := by rw [HSz.out]; omega
            have hlast : ¬ ((fc : Nat) : Int) + 1 < (m : Int) := by rw [HF.out.1]; omega
            clear l2 l3 l5 l6
            go_wp2_with fail
            go_roundw
            case measure => simp [intOf]; omega
            case rel => exact ⟨fc + 1, nn + cn, by go_num, by omega, by go_num, by omega, (by first | trivial | rfl), Lib.hid (by rw [HX.out.2, ← HK.out])⟩
          · have l5 := l2 rfl
            have hq : (((cn : Nat) : Int) == 1 + max size 0 % 24) = true := beq_iff_eq.2 (by rw [HSz.out]; omega)
            clear l2 l3 l5
            go_wp2_with fail
            go_roundw
            case measure => simp [intOf]; omega
            case rel => exact ⟨fc + 1, nn + cn, by go_num, by omega, by go_num, by omega, (by first | trivial | rfl), Lib.hid (by rw [HX.out.2, ← HK.out])⟩
        · have hkm2 : ¬ (k : Int) < (m : Int) := by omega
          have hnl : nn = yl := by
            rw [HK.out, show k = chN (D.at_ id) by rw [← HF.out.2.2.1, ← HF.out.1]; omega, ch_flat HC.out.2.1.ne, HC.out.1.2.1, HC.out.2.2.2.2.2]
          subst hnl
          go_wp2_with fail
          go_roundw
          case measure => simp [intOf]; omega
          case rel => exact ⟨i + 1, by go_num, by omega, HB7⟩
    · have hit2 : ¬ (i : Int) < (tn : Int) := by omega
      have HE := Lib.hid HBr.out.b
      go_wp2_with fail
      go_ret
      exact ⟨rfl, HE.out⟩
end Go.Proofs.YtiipmjdmmoaodaaDoor
