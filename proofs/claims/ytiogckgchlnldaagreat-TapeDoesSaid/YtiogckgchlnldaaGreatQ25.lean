/- Joined: Rf10, Rf11, Rf12, Rf13, Fd1, Fd5. -/
import Derived.Test.YtiogckgchlnldaaGreatQ23
import Derived.StillTailTactics
import Derived.Test.YtiogckgchlnldaaGreatQ6
import Derived.Test.YtiogckgchlnldaaGreatQ7
set_option linter.unusedSimpArgs false
set_option linter.unusedVariables false
/- Layer 8, the document: Cut. -/
set_option linter.unusedSimpArgs false
set_option linter.unusedVariables false
namespace Go.Proofs.YtiogckgchlnldaaGreat
open Go.RowKit
set_option maxRecDepth 100000

set_option maxHeartbeats 16000000 in
theorem rcut_any {B q room : Nat} {w0 w : World} {ts : List Kt} {d : Fd} (n : Nm) (kk : Int) (hn : n.length ≤ maxLen) (h : RfI B w0 w q room ts d) (hd : Db d) (hl : d.lf ≤ 1000000) :
    Calls Tryz.prog 54 #[.pointer (some ⟨q, 0, none⟩), .string ⟨n.toArray⟩, .int .i64 kk] w fun e w' => e = .returned (.int .i64 ((cutD d n kk).1 : Nat)) ∧ RfI B w0 w' q room ts (cutD d n kk).2 := by
  have HC := Lib.hid (rfind_any n hn h hd.df)
  obtain ⟨pp, hpp⟩ : ∃ p, p = posF d.F n := ⟨_, rfl⟩
  rw [← hpp] at HC
  cases hat : atF d.F n with
  | none =>
    rw [hat] at HC
    rw [show cutD d n kk = (80, d) by unfold cutD rdD; rw [hat]; rfl]
    have H := Lib.hid h
    clear h hat hd hn hpp hl
    go_enter Tryz.func54, Tryz.ntmps54
    go_wp2_with fail
    refine HC.out.mono ?_
    rintro e w2 ⟨rfl, b2⟩
    have HB := Lib.hid b2
    clear b2 HC
    go_wp2_with fail
    go_ret
    exact ⟨rfl, H.out.go HB.out⟩
  | some du =>
    rw [hat] at HC
    have hpos := posF_there hd.up hat
    rw [← hpp] at hpos
    obtain ⟨b, hb⟩ : ∃ b, b = du ++ pcs d.P n := ⟨_, rfl⟩
    have hrd : rdD d n = some b := by unfold rdD; rw [hat, hb]; rfl
    have hbl : b.length ≤ 200000 := by rw [hb]; exact hd.fb (n, du) ((atF_some hd.up).1 hat)
    obtain ⟨bl, hbl2⟩ : ∃ m, m = b.length := ⟨_, rfl⟩
    have H := Lib.hid (And.intro h (And.intro hd (And.intro hl (And.intro hrd (And.intro hbl2 (And.intro hpos (And.intro hn hbl)))))))
    have hbl6 : bl ≤ 200000 := by omega
    clear h hd hl hrd hpos hn hb hbl hat hpp hbl2
    by_cases hk0 : kk < 0
    · have dk : decide (kk < 0) = true := decide_eq_true hk0
      have hE : cutD d n kk = (1, d) := by unfold cutD; rw [H.out.2.2.2.1]; simp only [if_pos (Or.inl hk0 : kk < 0 ∨ (b.length : Int) < kk)]
      rw [hE]
      clear hE
      go_enter Tryz.func54, Tryz.ntmps54
      go_wp2_with fail
      refine HC.out.mono ?_
      rintro e w2 ⟨rfl, b2⟩
      have HC2 := Lib.hid (rread_some n H.out.2.2.2.2.2.2.1 (H.out.1.go b2) H.out.2.1 b H.out.2.2.2.1)
      rw [← H.out.2.2.2.2.1] at HC2
      have HB2 := Lib.hid b2
      clear b2 HC
      go_wp2_with fail
      refine HC2.out.mono ?_
      rintro e w3 ⟨A4, c4, rfl, h4⟩
      have HB := Lib.hid (on1 HB2.out h4.out.2)
      clear h4 HC2
      go_wp2_with fail
      go_ret
      exact ⟨rfl, H.out.1.go HB.out⟩
    · obtain ⟨kn, rfl⟩ := Int.eq_ofNat_of_zero_le (show 0 ≤ kk by omega)
      have dk : decide ((kn : Int) < 0) = false := decide_eq_false hk0
      by_cases hkb : bl < kn
      · have dk2 : decide (bl < kn) = true := decide_eq_true hkb
        have hE : cutD d n (kn : Int) = (1, d) := by unfold cutD; rw [H.out.2.2.2.1]; simp only [if_pos (Or.inr (by rw [← H.out.2.2.2.2.1]; omega) : (kn : Int) < 0 ∨ (b.length : Int) < kn)]
        rw [hE]
        clear hE
        go_enter Tryz.func54, Tryz.ntmps54
        go_wp2_with fail
        refine HC.out.mono ?_
        rintro e w2 ⟨rfl, b2⟩
        have HC2 := Lib.hid (rread_some n H.out.2.2.2.2.2.2.1 (H.out.1.go b2) H.out.2.1 b H.out.2.2.2.1)
        rw [← H.out.2.2.2.2.1] at HC2
        have HB2 := Lib.hid b2
        clear b2 HC
        go_wp2_with fail
        refine HC2.out.mono ?_
        rintro e w3 ⟨A4, c4, rfl, h4⟩
        have HB := Lib.hid (on1 HB2.out h4.out.2)
        clear h4 HC2
        go_wp2_with fail
        go_ret
        exact ⟨rfl, H.out.1.go HB.out⟩
      · have dk2 : decide (bl < kn) = false := decide_eq_false hkb
        obtain ⟨r, hr9⟩ : ∃ r, r = runsD d := ⟨_, rfl⟩
        have hk := runs_keeps d
        obtain ⟨bt, hbt⟩ : ∃ t, t = b.take kn := ⟨_, rfl⟩
        have hE : cutD d n (kn : Int) = (0, if r.1 = true then { r.2 with F := setF n bt r.2.F, P := dropN n r.2.P } else r.2) := by
          unfold cutD
          rw [H.out.2.2.2.1]
          simp only [if_neg (show ¬ ((kn : Int) < 0 ∨ (b.length : Int) < kn) from by rw [← H.out.2.2.2.2.1]; omega), hr9, hbt, Int.toNat_natCast]
        rw [hE]
        rw [← hr9] at hk
        have Hr := Lib.hid (And.intro hr9 hk)
        have hbtl : bt.length = kn := by rw [hbt, List.length_take, ← H.out.2.2.2.2.1]; omega
        have Hbt := Lib.hid (And.intro hbt hbtl)
        clear hr9 hk hE hbt hbtl
        obtain ⟨rb, rd⟩ := r
        show Calls _ _ _ _ fun e w' => e = .returned (.int .i64 ((0 : Nat) : Int)) ∧ RfI B w0 w' q room ts (if rb = true then { rd with F := setF n bt rd.F, P := dropN n rd.P } else rd)
        go_enter Tryz.func54, Tryz.ntmps54
        go_wp2_with fail
        refine HC.out.mono ?_
        rintro e w2 ⟨rfl, b2⟩
        have h2 := H.out.1.go b2
        have HC2 := Lib.hid (rread_some n H.out.2.2.2.2.2.2.1 h2 H.out.2.1 b H.out.2.2.2.1)
        rw [← H.out.2.2.2.2.1] at HC2
        have H2 := Lib.hid h2
        clear b2 HC h2
        go_wp2_with fail
        refine HC2.out.mono ?_
        rintro e w3 ⟨A4, c4, rfl, h4⟩
        obtain ⟨o4, b4⟩ := h4.out
        obtain ⟨y1, y2, y3⟩ := own_shape o4
        have o5 : OwnB w3 w2.heap.size (.slice A4 kn c4) bt := by
          rw [Hbt.out.1]
          exact own_front o4 kn (by rw [← H.out.2.2.2.2.1]; omega)
        have h3 : RfI B w0 w3 q room (thb ⟨n, bt, A4, c4⟩ :: ts) d := H2.out.cons (t := thb ⟨n, bt, A4, c4⟩) b4 (by
          show OwnB w3 0 (.slice A4 bt.length c4) bt
          rw [Hbt.out.2]
          exact o5.mono (Nat.zero_le _)) (fun k e => by
          have e : (Value.slice A4 bt.length c4).ownBlock = some k := e
          exact (World.ownsRow.lt o5 k (by rw [Hbt.out.2] at e; exact e)).1)
        have hkc : kn ≤ c4 := by rw [← H.out.2.2.2.2.1] at y1; omega
        have HY := Lib.hid (show ∀ w, (Instr.slice 22 (.slice A4 bl c4) none (some (.int .i64 (kn : Nat))) none).run Tryz.prog w = .ok (.slice A4 kn c4) w from fun w => run_front2 A4 bl c4 kn hkc y2 y3 w)
        have HC3 := Lib.hid (rstop_any h3 H.out.2.2.1)
        rw [← Hr.out.1] at HC3
        clear o4 b4 h4 y1 y2 y3 o5 h3 HC2 H2
        go_wp2_with fail
        refine HC3.out.mono ?_
        rintro e w4 ⟨rfl, h5⟩
        cases rb with
        | false =>
          have H5 := Lib.hid (show RfI B w0 w4 q room ts rd from h5.sub (List.sublist_cons_self _ _))
          clear h5 HC3
          go_wp2_with fail
          go_ret
          exact ⟨rfl, H5.out⟩
        | true =>
          have Hd := Lib.hid (show Db d ∧ rd.F = d.F ∧ rd.P = d.P ∧ d.F[pp]? = some (n, du) from ⟨H.out.2.1, Hr.out.2.1, Hr.out.2.2, H.out.2.2.2.2.2.1⟩)
          obtain ⟨VF, VP, LF, LP, lv, hs, k1, k2, k3⟩ := h5
          have hpos' := Hd.out.2.2.2
          rw [← Hd.out.2.1] at hpos'
          obtain ⟨x, hx, hxn⟩ : ∃ x, LF[pp]? = some x ∧ x.nm = n := by
            have hl := (List.getElem?_eq_some_iff.1 hpos').1
            rw [← nb_len k1] at hl
            refine ⟨LF[pp], List.getElem?_eq_getElem hl, ?_⟩
            have := nb_get k1 (List.getElem?_eq_getElem hl)
            rw [hpos'] at this
            injection this with this
            injection this with e1 _
            exact e1.symm
          obtain ⟨g, mF, cF, hVF⟩ := row_at0 hs.rF (Nat.lt_of_le_of_lt (Nat.zero_le _) (List.getElem?_eq_some_iff.1 hx).1)
          subst hVF
          obtain ⟨wd, hwd⟩ : ∃ wd, wd = w4.drew := ⟨_, rfl⟩
          have hsd : RfS B w0 wd q room (thb ⟨n, bt, A4, c4⟩ :: ts) (.slice (some ⟨g, 0, none⟩) mF cF) VP LF LP rd.st lv rd.dd := by rw [hwd]; exact hs.go (Below.refl _ _).drew
          obtain ⟨A', c', hv, -, hr⟩ := OwnR.row Tryz.eltE2 hs.rF
          injection hv with e1 e2 e3
          subst e1
          have hmF : mF = LF.length := e2
          clear e2 e3
          obtain ⟨p, f, hpf, hc⟩ := hr pp x hx
          injection hpf with hpf
          injection hpf with e1 e2 _
          subst e1 e2
          have c1 := hc 1 _ rfl
          have c1d : wd.cell? ⟨g, pp * 2 + 1, none⟩ = some (vaE x) := by
            rw [hwd]
            have := hc 1 _ rfl
            rw [Nat.zero_add] at this
            exact this
          have hrr := hsd.rF
          rw [hmF] at hrr
          have fz := World.ownsRow.frozenAt hrr (pp * 2 + 1)
          clear hrr
          have hpm : pp < mF := by rw [hmF]; exact (List.getElem?_eq_some_iff.1 hx).1
          have hmF8 : mF ≤ 8 := by rw [hmF, nb_len k1, Hd.out.2.1]; exact Hd.out.1.fl
          have hpl : (pp : Int) < (mF : Int) := by omega
          have hp0 : (0 : Int) ≤ (pp : Int) := by omega
          have C := fbsays hs.bx
          simp only [cellsSay, rfc, Nat.reduceAdd, and_true] at C
          simp only [Nat.zero_add] at c1
          have HS := Lib.hid (And.intro hsd (And.intro k1 (And.intro k2 (And.intro k3 (And.intro hx hxn)))))
          have sA := HY.out w4
          have sB := HY.out w4.drew
          clear hs hsd k1 k2 k3 hx hxn hr hc hpos' HC3 hmF
          go_upto_region 10 with fail
          go_still_tail 10, (by kernel_rfl)
          change wpList _ _ _ _ _ w4.drew
          rw [← hwd]
          clear hwd sA sB C c1
          go_upto_region 11 with fail
          generalize hW : World.setCell _ _ _ = W5
          clear c1d fz hpl hp0
          have S5 := HS.out.1.setB (w' := W5) HS.out.2.2.2.2.1 (y := ⟨n, bt, A4, c4⟩) HS.out.2.2.2.2.2.symm (by
            rw [show vaE ⟨n, bt, A4, c4⟩ = .slice A4 kn c4 from by unfold vaE; rw [Hbt.out.2]]
            exact hW)
          obtain ⟨AP, cP, hVP, -, -⟩ := OwnR.row Tryz.eltP2 S5.rP
          subst hVP
          obtain ⟨mP, hmP⟩ : ∃ m, m = LP.length := ⟨_, rfl⟩
          rw [← hmP] at S5
          have hP8' : mP ≤ 1000000 := by rw [hmP, nb_len HS.out.2.2.1, Hd.out.2.2.1]; exact Hd.out.1.pl
          have HSP := Lib.hid (And.intro S5 hmP)
          have HL1 := Lib.hid (setF_nb (by rw [Hd.out.2.1]; exact Hd.out.1.up) HS.out.2.1 HS.out.2.2.2.2.1 HS.out.2.2.2.2.2 bt A4 c4)
          have HX := Lib.hid (And.intro HS.out.2.2.1 HS.out.2.2.2.1)
          obtain ⟨LF1, hLF1⟩ : ∃ l, l = LF.set pp ⟨n, bt, A4, c4⟩ := ⟨_, rfl⟩
          rw [← hLF1] at HSP HL1
          have C := fbsays HSP.out.1.bx
          simp only [cellsSay, rfc, Nat.reduceAdd, and_true] at C
          clear S5 hW hLF1 HS hmP
          go_wp2_with fail
          go_loopw [12, 13] (fun sl si wr => ∃ (k m : Nat) (A : Option Addr) (c : Nat), k ≤ mP ∧ m ≤ k ∧ sl = .slice A m c ∧ si = .int .i64 k ∧ Hid (OwnR wr W5.heap.size 78 encE 2 (.slice A m c) ((LP.take k).filter fun x => !(x.nm == n)) ∧ m = ((LP.take k).filter fun x => !(x.nm == n)).length ∧ Below W5.heap.size W5 wr)) (fun _ si _ => mP - (intOf si).toNat)
          case atStart => exact ⟨0, 0, none, 0, Nat.zero_le _, Nat.le_refl _, rfl, rfl, Lib.hid ⟨OwnR.nil _ _ _ _ _, rfl, Below.refl _ _⟩⟩
          case round =>
            obtain ⟨k, m, A, c, hk, hmk, rfl, rfl, HR⟩ := hrel
            have hs := HSP.out.1.go HR.out.2.2
            have C := fbsays hs.bx
            simp only [cellsSay, rfc, Nat.reduceAdd, and_true] at C
            by_cases hlt : k < mP
            · obtain ⟨x, hx⟩ : ∃ x, LP[k]? = some x := ⟨_, List.getElem?_eq_getElem (by rw [← HSP.out.2]; exact hlt)⟩
              obtain ⟨A', c', hv, -, hr⟩ := OwnR.row Tryz.eltP2 hs.rP
              injection hv with e1 _ _
              subst e1
              obtain ⟨p, f, rfl, hc⟩ := hr k x hx
              have c0 := hc 0 _ rfl
              have c1 := hc 1 _ rfl
              simp only [vaE, Nat.add_zero] at c0 c1
              have hkl : (k : Int) < (mP : Int) := by omega
              have hk0 : (0 : Int) ≤ (k : Int) := by omega
              have htk : LP.take (k + 1) = LP.take k ++ [x] := by rw [List.take_add_one, hx]; rfl
              obtain ⟨r1, r2, r3⟩ := HR.out
              obtain ⟨M, hM⟩ : ∃ M, M = (LP.take k).filter fun x => !(x.nm == n) := ⟨_, rfl⟩
              rw [← hM] at r1 r2
              by_cases hxn : x.nm = n
              · have e1 : (x.nm == n) = true := beq_iff_eq.2 hxn
                have e1' : (x.nm != n) = false := by unfold bne; rw [e1]; rfl
                have hN : (LP.take (k + 1)).filter (fun x => !(x.nm == n)) = M := by rw [htk, List.filter_append, hM, List.filter_cons, e1]; simp
                have HN := Lib.hid (And.intro hN (And.intro r1 (And.intro r2 r3)))
                clear hs hx hr hc htk r1 r2 r3 hM hxn hN HR
                go_wp2_with fail
                go_roundw
                case measure => simp [intOf]; omega
                case rel => exact ⟨k + 1, m, A, c, by omega, by omega, rfl, by go_num, Lib.hid ⟨by rw [HN.out.1]; exact HN.out.2.1, by rw [HN.out.1]; exact HN.out.2.2.1, HN.out.2.2.2⟩⟩
              · have e1 : (x.nm == n) = false := beq_eq_false_iff_ne.2 hxn
                have e1' : (x.nm != n) = true := by unfold bne; rw [e1]; rfl
                have hN : (LP.take (k + 1)).filter (fun x => !(x.nm == n)) = M ++ [x] := by rw [htk, List.filter_append, hM, List.filter_cons, e1]; simp
                have hbd : Below wr.heap.size wr (wr.alloc (.cells #[.string ⟨x.nm.toArray⟩, .slice x.A x.b.length x.c] 78)) := below_alloc _ _
                have HR1 := Lib.hid (OwnR.below r1 hbd)
                have HN := Lib.hid (And.intro hN (And.intro r2 (And.intro r3 hbd)))
                have hMl : M.length = m := r2.symm
                have h5n : M.length + 1 ≤ maxLen := by unfold maxLen; omega
                have h6n : (M.length + 1) * 40 ≤ 140737488355328 := by omega
                have hsz := r3.size
                have hbs : W5.heap.size ≤ (wr.alloc (.cells #[.string ⟨x.nm.toArray⟩, .slice x.A x.b.length x.c] 78)).heap.size := by simp; omega
                have Hbs := Lib.hid hbs
                clear hs hx hr hc htk r1 r2 r3 hM hxn hN HR hbd hbs hsz
                go_upto_region 14 with (at_builtin; go_must (refine appR1 Tryz.eltP2 _ rfl (.tmp 68) (.tmp 76) rfl W5.heap.size (.slice A m c) M rfl HR1.out wr.heap.size 1 x _ _ rfl (Blk.new wr _ _) rfl h5n h6n Hbs.out ?_); intro g2 c2 w9 hown2 hb2 hg2)
                obtain ⟨hN, r2, r3, hbd⟩ := HN.out
                have HE := Lib.hid (show OwnR w9 W5.heap.size 78 encE 2 (.slice (some ⟨g2, 0, none⟩) (m + 1) c2) ((LP.take (k + 1)).filter fun x => !(x.nm == n)) ∧ m + 1 = ((LP.take (k + 1)).filter fun x => !(x.nm == n)).length ∧ Below W5.heap.size W5 w9 from by
                  refine ⟨by rw [hN, ← hMl]; exact hown2, by rw [hN, List.length_append, hMl]; rfl, ?_⟩
                  exact (on1 r3 hbd).trans hb2)
                clear hown2 hb2 hg2 hN r2 r3 hbd HR1 HN Hbs C c0 c1
                go_wp2_with fail
                go_roundw
                case measure => simp [intOf]; omega
                case rel => exact ⟨k + 1, m + 1, some ⟨g2, 0, none⟩, c2, by omega, by omega, by first | rfl | (rw [hMl]), by go_num, HE⟩
            · obtain rfl : k = mP := by omega
              have hkk : ¬ ((k : Int) < (k : Int)) := by omega
              obtain ⟨r1, r2, r3⟩ := HR.out
              rw [List.take_of_length_le (Nat.le_of_eq HSP.out.2.symm)] at r1 r2
              have HR2 := Lib.hid r2
              clear hlt HR r2
              clear hs
              go_wp2_with fail
              generalize hW : World.setCell _ _ _ = W2
              clear C
              have S := HSP.out.1.setP (us := ts) (M := (LP.filter (fun x => !(fun x : Fe => !(x.nm == n)) x)).map thb) r3 r1 hW (by
                rw [List.append_assoc]
                exact (filt_perm (fun x => !(x.nm == n)) LP ts).append_left _)
              have HE := Lib.hid (show RfI B w0 W2 q room ts { rd with F := setF n bt rd.F, P := dropN n rd.P } from ⟨_, _, _, _, lv, S, HL1.out, by rw [filt_nb, HX.out.1], HX.out.2⟩)
              clear S r1 r3 hW
              go_wp2_with fail
              go_ret
              first | exact ⟨rfl, HE.out⟩ | (have HE9 := HE.out; rw [Hd.out.2.1, Hd.out.2.2.1] at HE9; exact ⟨rfl, HE9⟩)

end Go.Proofs.YtiogckgchlnldaaGreat

/- Layer 8, the document: Rename. -/
set_option linter.unusedSimpArgs false
set_option linter.unusedVariables false
namespace Go.Proofs.YtiogckgchlnldaaGreat
open Go.RowKit
set_option maxRecDepth 100000

/-- a piece under its new name -/
def renE (n m : Nm) (y : Fe) : Fe := if y.nm == n then ⟨m, y.b, y.A, y.c⟩ else y
theorem renE_thb (n m : Nm) (y : Fe) : thb (renE n m y) = thb y := by
  unfold renE
  split <;> rfl
theorem renE_map (n m : Nm) (L : List Fe) : (L.map (renE n m)).map thb = L.map thb := by
  rw [List.map_map]
  exact List.map_congr_left (fun y _ => renE_thb n m y)
theorem renE_nb (n m : Nm) (L : List Fe) : (L.map (renE n m)).map nbE = (L.map nbE).map fun p => if p.1 == n then (m, p.2) else p := by
  rw [List.map_map, List.map_map]
  apply List.map_congr_left
  intro y _
  show nbE (renE n m y) = if (nbE y).1 == n then (m, (nbE y).2) else nbE y
  unfold renE nbE
  split <;> rfl
theorem perm_ren {α : Type} (A B C D E ts : List α) (x r : α) : (A ++ (B ++ (C ++ (x :: (D ++ (E ++ (r :: ts))))))).Perm (r :: ((A ++ ((B ++ C) ++ (x :: ts))) ++ (D ++ E))) := by
  have h1 := List.perm_middle (l₁ := A ++ (B ++ (C ++ (x :: (D ++ E))))) (a := r) (l₂ := ts)
  have e1 : A ++ (B ++ (C ++ (x :: (D ++ (E ++ (r :: ts)))))) = (A ++ (B ++ (C ++ (x :: (D ++ E))))) ++ r :: ts := by simp
  rw [e1]
  refine h1.trans (List.Perm.cons r ?_)
  have e2 : A ++ (B ++ (C ++ (x :: (D ++ E)))) ++ ts = A ++ ((B ++ C) ++ (x :: ((D ++ E) ++ ts))) := by simp
  have e3 : (A ++ ((B ++ C) ++ (x :: ts))) ++ (D ++ E) = A ++ ((B ++ C) ++ (x :: (ts ++ (D ++ E)))) := by simp
  rw [e2, e3]
  exact ((((List.perm_append_comm (l₁ := D ++ E) (l₂ := ts))).cons x).append_left _).append_left _
theorem filt_one {L : List Fe} {F : List (Nm × List UInt8)} (hu : upN F) (h : L.map nbE = F) {i : Nat} {x : Fe} (hx : L[i]? = some x) : (L.filter fun y => y.nm == x.nm) = [x] := by
  have hp : L.Pairwise fun a b => a.nm ≠ b.nm := by
    have := hu.uniq
    rw [← h, List.pairwise_map] at this
    exact this
  clear h hu
  induction L generalizing i with
  | nil => simp at hx
  | cons a L ih =>
    obtain ⟨h1, h2⟩ := List.pairwise_cons.1 hp
    cases i with
    | zero =>
      have e : a = x := by simpa using hx
      subst e
      rw [List.filter_cons, if_pos (beq_self_eq_true _), List.filter_eq_nil_iff.2 (fun y hy => by simpa using (h1 y hy).symm)]
    | succ i =>
      have hx' : L[i]? = some x := by simpa using hx
      rw [List.filter_cons, if_neg (by simpa using h1 x (List.mem_of_getElem? hx'))]
      exact ih hx' h2

set_option maxHeartbeats 16000000 in
theorem rrename_main {B q room : Nat} {w0 w : World} {ts : List Kt} {d : Fd} (n m : Nm) (hm : m.length ≤ maxLen) (hnm : n ≠ m) (hn : n.length ≤ maxLen) (h : RfI B w0 w q room ts d) (hd : Db d) (hl : d.lf ≤ 1000000) (du : List UInt8) (hat : atF d.F n = some du) (hok : okN m = true) :
    Calls Tryz.prog 69 #[.pointer (some ⟨q, 0, none⟩), .string ⟨n.toArray⟩, .string ⟨m.toArray⟩] w fun e w' => e = .returned (.int .i64 ((0 : Nat) : Int)) ∧ RfI B w0 w' q room ts (if (runsD d).1 = true then { (runsD d).2 with F := insF (m, du) (dropN n (dropN m (runsD d).2.F)), P := (dropN m (runsD d).2.P).map fun p => if p.1 == n then (m, p.2) else p } else (runsD d).2) := by
  have HC := Lib.hid (rfind_any n hn h hd.df)
  obtain ⟨pp, hpp⟩ : ∃ p, p = posF d.F n := ⟨_, rfl⟩
  have hpos := posF_there hd.up hat
  rw [← hpp] at HC hpos
  rw [hat] at HC
  have HN := Lib.hid (fun w => rnamed_any m w hm)
  rw [hok] at HN
  have enm : (n == m) = false := beq_eq_false_iff_ne.2 hnm
  obtain ⟨r, hr9⟩ : ∃ r, r = runsD d := ⟨_, rfl⟩
  have hk := runs_keeps d
  rw [← hr9] at hk ⊢
  have H := Lib.hid (And.intro h (And.intro hd (And.intro hl (And.intro hr9 (And.intro hk (And.intro hpos (And.intro hn (And.intro hm hnm))))))))
  clear h hd hl hr9 hk hpos hpp hat hok hn hm hnm
  obtain ⟨rb, rd⟩ := r
  show Calls _ _ _ _ fun e w' => e = .returned (.int .i64 ((0 : Nat) : Int)) ∧ RfI B w0 w' q room ts (if rb = true then { rd with F := insF (m, du) (dropN n (dropN m rd.F)), P := (dropN m rd.P).map fun p => if p.1 == n then (m, p.2) else p } else rd)
  go_enter Tryz.func69, Tryz.ntmps69
  go_wp2_with fail
  refine HC.out.mono ?_
  rintro e w2 ⟨rfl, b2⟩
  have HC2 := Lib.hid (rstop_any (H.out.1.go b2) H.out.2.2.1)
  rw [← H.out.2.2.2.1] at HC2
  clear b2 HC
  go_wp2_with fail
  refine (HN.out w2).mono ?_
  rintro e w3 ⟨rfl, hw3⟩
  rw [hw3]
  clear hw3
  go_wp2_with fail
  refine HC2.out.mono ?_
  rintro e w3 ⟨rfl, h3⟩
  cases rb with
  | false =>
    have H3 := Lib.hid h3
    clear h3 HC2
    go_wp2_with fail
    go_ret
    exact ⟨rfl, H3.out⟩
  | true =>
    obtain ⟨VF, VP, LF, LP, lv, hs, k1, k2, k3⟩ := h3
    have hkF : rd.F = d.F := H.out.2.2.2.2.1.1
    have hkP : rd.P = d.P := H.out.2.2.2.2.1.2
    have hpos' := H.out.2.2.2.2.2.1
    rw [← hkF] at hpos'
    obtain ⟨x, hx, hxn, hxb⟩ : ∃ x, LF[pp]? = some x ∧ x.nm = n ∧ x.b = du := by
      have hl := (List.getElem?_eq_some_iff.1 hpos').1
      rw [← nb_len k1] at hl
      refine ⟨LF[pp], List.getElem?_eq_getElem hl, ?_⟩
      have := nb_get k1 (List.getElem?_eq_getElem hl)
      rw [hpos'] at this
      injection this with this
      injection this with e1 e2
      exact ⟨e1.symm, e2.symm⟩
    obtain ⟨AF, cF, hVF, -, hr⟩ := OwnR.row Tryz.eltE2 hs.rF
    obtain ⟨AP, cP, hVP, -, -⟩ := OwnR.row Tryz.eltP2 hs.rP
    subst hVF hVP
    obtain ⟨mF, hmF⟩ : ∃ m, m = LF.length := ⟨_, rfl⟩
    obtain ⟨mP, hmP⟩ : ∃ m, m = LP.length := ⟨_, rfl⟩
    rw [← hmF, ← hmP] at hs
    obtain ⟨p, f, rfl, hc⟩ := hr pp x hx
    have c1 := hc 1 _ rfl
    have hpm : pp < mF := by rw [hmF]; exact (List.getElem?_eq_some_iff.1 hx).1
    have hmF8 : mF ≤ 8 := by rw [hmF, nb_len k1, hkF]; exact H.out.2.1.fl
    have hP8' : mP ≤ 1000000 := by rw [hmP, nb_len k2, hkP]; exact H.out.2.1.pl
    have hpl : (pp : Int) < (mF : Int) := by omega
    have hp0 : (0 : Int) ≤ (pp : Int) := by omega
    have C := fbsays hs.bx
    simp only [cellsSay, rfc, Nat.reduceAdd, and_true] at C
    obtain ⟨xl, hxl⟩ : ∃ l, l = x.b.length := ⟨_, rfl⟩
    simp only [vaE] at c1
    rw [← hxl] at c1
    have HSP := Lib.hid (And.intro hs hmP)
    have HX := Lib.hid (And.intro k1 (And.intro k2 (And.intro k3 (And.intro hx (And.intro hxn (And.intro hxb (And.intro hxl (And.intro hkF (And.intro hkP hmF)))))))))
    clear hs k1 k2 k3 hx hxn hxb hxl hkF hkP hpos' hr hc hmF hmP HC2
    go_upto_region 13 with fail
    clear C c1 hpl hp0
    go_wp2_with fail
    go_loopw [12, 13] (fun sl si wr => ∃ (k mm : Nat) (A : Option Addr) (c : Nat), k ≤ mP ∧ mm ≤ k ∧ sl = .slice A mm c ∧ si = .int .i64 k ∧ Hid (OwnR wr w3.heap.size 78 encE 2 (.slice A mm c) (((LP.take k).filter fun x => !(x.nm == m)).map (renE n m)) ∧ mm = (((LP.take k).filter fun x => !(x.nm == m)).map (renE n m)).length ∧ Below w3.heap.size w3 wr)) (fun _ si _ => mP - (intOf si).toNat)
    case atStart => exact ⟨0, 0, none, 0, Nat.zero_le _, Nat.le_refl _, rfl, rfl, Lib.hid ⟨OwnR.nil _ _ _ _ _, rfl, Below.refl _ _⟩⟩
    case round =>
      obtain ⟨k, mm, A, c, hk, hmk, rfl, rfl, HR⟩ := hrel
      have hs := HSP.out.1.go HR.out.2.2
      have C := fbsays hs.bx
      simp only [cellsSay, rfc, Nat.reduceAdd, and_true] at C
      by_cases hlt : k < mP
      · obtain ⟨y, hy⟩ : ∃ y, LP[k]? = some y := ⟨_, List.getElem?_eq_getElem (by rw [← HSP.out.2]; exact hlt)⟩
        obtain ⟨A', c', hv, -, hr⟩ := OwnR.row Tryz.eltP2 hs.rP
        injection hv with e1 e2 e3
        subst e1
        clear e2 e3
        obtain ⟨pq, fq, rfl, hc⟩ := hr k y hy
        have c0 := hc 0 _ rfl
        have c1 := hc 1 _ rfl
        simp only [vaE, Nat.add_zero] at c0 c1
        obtain ⟨yl, hyl⟩ : ∃ l, l = y.b.length := ⟨_, rfl⟩
        rw [← hyl] at c1
        have hkl : (k : Int) < (mP : Int) := by omega
        have hk0 : (0 : Int) ≤ (k : Int) := by omega
        have htk : LP.take (k + 1) = LP.take k ++ [y] := by rw [List.take_add_one, hy]; rfl
        obtain ⟨r1, r2, r3⟩ := HR.out
        obtain ⟨M, hM⟩ : ∃ M, M = ((LP.take k).filter fun x => !(x.nm == m)).map (renE n m) := ⟨_, rfl⟩
        rw [← hM] at r1 r2
        obtain ⟨W1, hW1⟩ : ∃ W1, W1 = wr.alloc (.cells #[.string ⟨y.nm.toArray⟩, .slice y.A yl y.c] 78) := ⟨_, rfl⟩
        obtain ⟨gq, hgq⟩ : ∃ g, g = wr.heap.size := ⟨_, rfl⟩
        have hbd0 : Below wr.heap.size wr W1 := by rw [hW1]; exact below_alloc _ _
        have hBq : Blk W1 gq 78 #[.string ⟨y.nm.toArray⟩, .slice y.A yl y.c] := by rw [hW1, hgq]; exact Blk.new _ _ _
        have Cq := fbsays hBq
        simp only [cellsSay, Nat.reduceAdd, and_true] at Cq
        have Hgq := Lib.hid (show gq = wr.heap.size ∧ W1.heap.size = wr.heap.size + 1 from ⟨hgq, by rw [hW1]; simp⟩)
        have HY := Lib.hid (And.intro hyl hBq)
        clear hyl
        go_upto_region 18 with fail
        rw [← hW1, ← hgq]
        clear hW1 hgq hs hy hr hc HR C c0 c1 hBq
        by_cases hym : y.nm = m
        · have e1 : (y.nm == m) = true := beq_iff_eq.2 hym
          have hN : ((LP.take (k + 1)).filter fun x => !(x.nm == m)).map (renE n m) = M := by rw [htk, List.filter_append, List.map_append, hM, List.filter_cons, e1]; simp
          have HN := Lib.hid (show OwnR W1 w3.heap.size 78 encE 2 (.slice A mm c) (((LP.take (k + 1)).filter fun x => !(x.nm == m)).map (renE n m)) ∧ mm = (((LP.take (k + 1)).filter fun x => !(x.nm == m)).map (renE n m)).length ∧ Below w3.heap.size w3 W1 from ⟨by rw [hN]; exact r1.below hbd0, by rw [hN]; exact r2, on1 r3 hbd0⟩)
          clear htk r1 r2 r3 hM hym hN hbd0
          go_wp2_with fail
          go_roundw
          case measure => simp [intOf]; omega
          case rel => exact ⟨k + 1, mm, A, c, by omega, by omega, rfl, by go_num, HN⟩
        · have e1 : (y.nm == m) = false := beq_eq_false_iff_ne.2 hym
          have hN : ((LP.take (k + 1)).filter fun x => !(x.nm == m)).map (renE n m) = M ++ [renE n m y] := by rw [htk, List.filter_append, List.map_append, hM, List.filter_cons, e1]; simp
          have hMl : M.length = mm := r2.symm
          have h5n : M.length + 1 ≤ maxLen := by unfold maxLen; omega
          have h6n : (M.length + 1) * 40 ≤ 140737488355328 := by omega
          by_cases hyn : y.nm = n
          · have e2 : (y.nm == n) = true := beq_iff_eq.2 hyn
            have hre : renE n m y = ⟨m, y.b, y.A, y.c⟩ := by unfold renE; rw [e2]; rfl
            rw [hre] at hN
            have HN := Lib.hid (And.intro hN (And.intro r1 (And.intro r2 (And.intro r3 hbd0))))
            clear htk r1 r2 r3 hM hym hyn hN hbd0 hre
            go_upto_region 21 with fail
            generalize hWs : World.setCell _ _ _ = W2
            obtain ⟨hN, r1, r2, r3, hbd0⟩ := HN.out
            have hB2 : Blk W2 gq 78 #[.string ⟨m.toArray⟩, .slice y.A yl y.c] := by
              rw [← hWs]
              exact Blk.sets [(0, .string ⟨m.toArray⟩)] HY.out.2
            have r1' : OwnR W2 w3.heap.size 78 encE 2 (.slice A mm c) M := by
              rw [← hWs]
              exact (r1.below hbd0).far (fun e => by
                have := (World.ownsRow.lt r1 _ e).2
                have h9 := Hgq.out.1
                simp only at this
                omega) _
            have hb2 : Below w3.heap.size w3 W2 := by
              rw [← hWs]
              exact Below.grown (on1 r3 hbd0) (grown_set W1 gq 0 _) (on1 r3 hbd0).size (fun k e => by
                injection e with e
                have := r3.size
                have h9 := Hgq.out.1
                omega)
            have C2 := fbsays hB2
            simp only [cellsSay, Nat.reduceAdd, and_true] at C2
            have hbd := below_alloc W2 (.cells #[.string ⟨m.toArray⟩, .slice y.A yl y.c] 78)
            have HR1 := Lib.hid (OwnR.below r1' hbd)
            have henc : (#[.string ⟨m.toArray⟩, .slice y.A yl y.c] : Array Value) = (encE ⟨m, y.b, y.A, y.c⟩).toArray := by rw [HY.out.1]; rfl
            have hbs : w3.heap.size ≤ (W2.alloc (.cells #[.string ⟨m.toArray⟩, .slice y.A yl y.c] 78)).heap.size := Nat.le_trans hb2.size hbd.size
            have HM2 := Lib.hid (And.intro hN (And.intro (hb2.trans (hbd.mono hb2.size)) (And.intro henc hbs)))
            clear hN r1 r2 r3 hbd0 hWs hB2 r1' hb2 hbd henc hbs Cq HN
            go_upto_region 16 with (at_builtin; go_must (refine appR1 Tryz.eltP2 _ rfl (.tmp 67) (.tmp 69) rfl w3.heap.size (.slice A mm c) M rfl HR1.out W2.heap.size 1 ⟨m, y.b, y.A, y.c⟩ _ _ rfl (Blk.new W2 _ _) HM2.out.2.2.1 h5n h6n HM2.out.2.2.2 ?_); intro g2 c2 w9 hown2 hb9 hg2)
            have HE := Lib.hid (show OwnR w9 w3.heap.size 78 encE 2 (.slice (some ⟨g2, 0, none⟩) (mm + 1) c2) (((LP.take (k + 1)).filter fun x => !(x.nm == m)).map (renE n m)) ∧ mm + 1 = (((LP.take (k + 1)).filter fun x => !(x.nm == m)).map (renE n m)).length ∧ Below w3.heap.size w3 w9 from by
              rw [HM2.out.1]
              refine ⟨by rw [← hMl]; exact hown2, by rw [List.length_append, hMl]; rfl, HM2.out.2.1.trans hb9⟩)
            clear hown2 hb9 hg2 HM2 HR1 C2
            go_wp2_with fail
            go_roundw
            case measure => simp [intOf]; omega
            case rel => exact ⟨k + 1, mm + 1, some ⟨g2, 0, none⟩, c2, by omega, by omega, by first | rfl | (rw [hMl]), by go_num, HE⟩
          · have e2 : (y.nm == n) = false := beq_eq_false_iff_ne.2 hyn
            have hre : renE n m y = y := by unfold renE; rw [e2]; rfl
            rw [hre] at hN
            have hb2 := on1 r3 hbd0
            have hbd := below_alloc W1 (.cells #[.string ⟨y.nm.toArray⟩, .slice y.A yl y.c] 78)
            have HR1 := Lib.hid (OwnR.below (r1.below hbd0) hbd)
            have henc : (#[.string ⟨y.nm.toArray⟩, .slice y.A yl y.c] : Array Value) = (encE y).toArray := by rw [HY.out.1]; rfl
            have hbs : w3.heap.size ≤ (W1.alloc (.cells #[.string ⟨y.nm.toArray⟩, .slice y.A yl y.c] 78)).heap.size := Nat.le_trans hb2.size hbd.size
            have HM2 := Lib.hid (And.intro hN (And.intro (hb2.trans (hbd.mono hb2.size)) (And.intro henc hbs)))
            clear htk r1 r2 r3 hM hym hyn hN hbd0 hre hb2 hbd henc hbs
            go_upto_region 16 with (at_builtin; go_must (refine appR1 Tryz.eltP2 _ rfl (.tmp 67) (.tmp 69) rfl w3.heap.size (.slice A mm c) M rfl HR1.out W1.heap.size 1 y _ _ rfl (Blk.new W1 _ _) HM2.out.2.2.1 h5n h6n HM2.out.2.2.2 ?_); intro g2 c2 w9 hown2 hb9 hg2)
            have HE := Lib.hid (show OwnR w9 w3.heap.size 78 encE 2 (.slice (some ⟨g2, 0, none⟩) (mm + 1) c2) (((LP.take (k + 1)).filter fun x => !(x.nm == m)).map (renE n m)) ∧ mm + 1 = (((LP.take (k + 1)).filter fun x => !(x.nm == m)).map (renE n m)).length ∧ Below w3.heap.size w3 w9 from by
              rw [HM2.out.1]
              refine ⟨by rw [← hMl]; exact hown2, by rw [List.length_append, hMl]; rfl, HM2.out.2.1.trans hb9⟩)
            clear hown2 hb9 hg2 HM2 HR1 Cq
            go_wp2_with fail
            go_roundw
            case measure => simp [intOf]; omega
            case rel => exact ⟨k + 1, mm + 1, some ⟨g2, 0, none⟩, c2, by omega, by omega, by first | rfl | (rw [hMl]), by go_num, HE⟩
      · obtain rfl : k = mP := by omega
        have hkk : ¬ ((k : Int) < (k : Int)) := by omega
        obtain ⟨r1, r2, r3⟩ := HR.out
        rw [List.take_of_length_le (Nat.le_of_eq HSP.out.2.symm)] at r1 r2
        obtain ⟨M, hM⟩ : ∃ M, M = (LP.filter fun x => !(x.nm == m)).map (renE n m) := ⟨_, rfl⟩
        rw [← hM] at r1 r2
        have S1 := HSP.out.1.cons (t := thRP (.slice A mm c) M) r3 (r1.mono (Nat.zero_le _)) (fun k e => (World.ownsRow.lt r1 k e).1)
        have hLP6 : LP.length ≤ 1000000 := by rw [← HSP.out.2]; exact hP8'
        have hLF6 : LF.length ≤ 1000 := by rw [← HX.out.2.2.2.2.2.2.2.2.2]; omega
        have HC := Lib.hid (rdropS_any m S1 hLF6 hLP6)
        have HM := Lib.hid (And.intro hM (And.intro hLF6 hLP6))
        clear r1 r2 r3 HR hM S1 hs hLF6 hLP6
        go_wp2_with fail
        refine HC.out.mono ?_
        rintro e w5 ⟨rfl, VF1, VP1, S5⟩
        clear C
        have HC2 := Lib.hid (rdropS_any n S5 (Nat.le_trans (List.length_filter_le _ _) HM.out.2.1) (Nat.le_trans (List.length_filter_le _ _) HM.out.2.2))
        clear S5 HC
        go_wp2_with fail
        refine HC2.out.mono ?_
        rintro e w6 ⟨rfl, VF2, VP2, S6⟩
        have C := fbsays S6.bx
        simp only [cellsSay, rfc, Nat.reduceAdd, and_true] at C
        have HS6 := Lib.hid S6
        clear S6 HC2
        go_upto_region 25 with fail
        generalize hW : World.setCell _ _ _ = W7
        clear C
        obtain ⟨k1, k2, k3, hx, hxn, hxb, hxl, hkF, hkP, hmF⟩ := HX.out
        have hup : upN rd.F := by rw [hkF]; exact H.out.2.1.up
        have hone : ((LF.filter fun x => !(x.nm == m)).filter fun x => x.nm == n) = [x] := by
          rw [List.filter_filter]
          have h9 := filt_one hup k1 hx
          rw [hxn] at h9
          rw [← h9]
          apply List.filter_congr
          intro z hz
          by_cases e : z.nm = n
          · rw [beq_iff_eq.2 e, Bool.true_and, e, enm]
            rfl
          · rw [beq_eq_false_iff_ne.2 e, Bool.false_and]
        have S7 := Sep.put HS6.out 0 q [(2, .slice A mm c)] (rfc room VF2 (.slice A mm c) rd.st lv rd.dd) hW
        rw [hone] at S7
        have S8 := Sep.sub S7 (us := thB q 59 (rfc room VF2 (.slice A mm c) rd.st lv rd.dd) :: thRF VF2 ((LF.filter fun x => !(x.nm == m)).filter fun x => !(x.nm == n)) :: _) (((List.sublist_cons_self _ _).cons_cons _).cons_cons _)
        have S9 := Sep.perm S8 (((perm_ren _ _ _ _ _ ts (thb x) (thRP (.slice A mm c) M)).cons _).cons _)
        have hMt : (M.map thb).Perm ((((LP.filter fun x => !(x.nm == m)).filter fun x => !(x.nm == n)).map thb) ++ (((LP.filter fun x => !(x.nm == m)).filter fun x => x.nm == n).map thb)) := by
          rw [HM.out.1, renE_map]
          have h9 := filt_all n (LP.filter fun x => !(x.nm == m)) [] []
          simpa using h9
        have S10 : RfS B w0 W7 q room (thb x :: ts) VF2 (.slice A mm c) ((LF.filter fun x => !(x.nm == m)).filter fun x => !(x.nm == n)) M rd.st lv rd.dd := by
          have h9 := Sep.perm S9 ((((((hMt.symm.append_right (thb x :: ts)).append_left _).append_right _).cons _).cons _).cons _)
          exact Sep.sub h9 ((((List.sublist_append_left _ _).cons_cons _).cons_cons _).cons_cons _)
        have hd3 : Df (dropN n (dropN m rd.F)) := ⟨(hup.drop m).drop n, by
          have h8 : rd.F.length ≤ 8 := by rw [hkF]; exact H.out.2.1.fl
          exact Nat.le_trans (Nat.le_trans (List.length_filter_le _ _) (List.length_filter_le _ _)) h8, fun f hf => by
          have hf2 := (mem_dropN hf).1
          have hf3 := (mem_dropN hf2).1
          rw [hkF] at hf3
          exact H.out.2.1.fn f hf3⟩
        have HI3 : RfI B w0 W7 q room (thb ⟨m, x.b, x.A, x.c⟩ :: ts) { rd with F := dropN n (dropN m rd.F), P := (dropN m rd.P).map fun p => if p.1 == n then (m, p.2) else p } := ⟨VF2, .slice A mm c, _, M, lv, S10, by rw [filt_nb, filt_nb, k1], by rw [HM.out.1, renE_nb, filt_nb, k2], k3⟩
        have HC3 := Lib.hid (rinsert_any ⟨m, x.b, x.A, x.c⟩ H.out.2.2.2.2.2.2.2.1 HI3 hd3)
        have hxl2 := hxl
        rw [← hxl2, hxb] at HC3
        clear k1 k2 k3 hx hxn hxb hxl hkF hkP hmF hup hone S7 S8 S9 S10 hMt hd3 HI3 hW HS6 hxl2
        go_wp2_with fail
        refine HC3.out.mono ?_
        rintro e w8 ⟨rfl, h8⟩
        have H8 := Lib.hid h8
        clear h8 HC3
        go_wp2_with fail
        go_ret
        first | exact ⟨rfl, H8.out⟩ | (have h9 := H8.out; simp only [beq_iff_eq] at h9; exact ⟨rfl, h9⟩)

theorem rrename_any {B q room : Nat} {w0 w : World} {ts : List Kt} {d : Fd} (n m : Nm) (hn : n.length ≤ maxLen) (hm : m.length ≤ maxLen) (h : RfI B w0 w q room ts d) (hd : Db d) (hl : d.lf ≤ 1000000) :
    Calls Tryz.prog 69 #[.pointer (some ⟨q, 0, none⟩), .string ⟨n.toArray⟩, .string ⟨m.toArray⟩] w fun e w' => e = .returned (.int .i64 ((renameD d n m).1 : Nat)) ∧ RfI B w0 w' q room ts (renameD d n m).2 := by
  have HC := Lib.hid (rfind_any n hn h hd.df)
  obtain ⟨pp, hpp⟩ : ∃ p, p = posF d.F n := ⟨_, rfl⟩
  rw [← hpp] at HC
  have HN := Lib.hid (fun w => rnamed_any m w hm)
  cases hat : atF d.F n with
  | none =>
    rw [hat] at HC
    rw [show renameD d n m = (80, d) by unfold renameD; rw [hat]]
    have H := Lib.hid h
    clear h hat hd hn hpp hl hm
    go_enter Tryz.func69, Tryz.ntmps69
    go_wp2_with fail
    refine HC.out.mono ?_
    rintro e w2 ⟨rfl, b2⟩
    have HB := Lib.hid b2
    clear b2 HC
    go_wp2_with fail
    go_ret
    exact ⟨rfl, H.out.go HB.out⟩
  | some du =>
    rw [hat] at HC
    cases hok : okN m with
    | false =>
      rw [hok] at HN
      rw [show renameD d n m = (1, d) by unfold renameD; rw [hat]; simp only [if_pos hok]]
      have H := Lib.hid h
      clear h hat hd hn hpp hl hm hok
      go_enter Tryz.func69, Tryz.ntmps69
      go_wp2_with fail
      refine HC.out.mono ?_
      rintro e w2 ⟨rfl, b2⟩
      have HB := Lib.hid b2
      clear b2 HC
      go_wp2_with fail
      refine (HN.out w2).mono ?_
      rintro e w3 ⟨rfl, hw3⟩
      rw [hw3]
      clear hw3
      go_wp2_with fail
      go_ret
      exact ⟨rfl, H.out.go HB.out⟩
    | true =>
      by_cases hnm : n = m
      · have enm : (n == m) = true := beq_iff_eq.2 hnm
        rw [hok] at HN
        rw [show renameD d n m = (0, d) by unfold renameD; rw [hat]; simp only [if_neg (show ¬ okN m = false by rw [hok]; simp), if_pos hnm]]
        have H := Lib.hid h
        clear h hat hd hn hpp hl hm hok hnm
        go_enter Tryz.func69, Tryz.ntmps69
        go_wp2_with fail
        refine HC.out.mono ?_
        rintro e w2 ⟨rfl, b2⟩
        have HB := Lib.hid b2
        clear b2 HC
        go_wp2_with fail
        refine (HN.out w2).mono ?_
        rintro e w3 ⟨rfl, hw3⟩
        rw [hw3]
        clear hw3
        go_wp2_with fail
        go_ret
        exact ⟨rfl, H.out.go HB.out⟩
      · have hE : renameD d n m = (0, if (runsD d).1 = true then { (runsD d).2 with F := insF (m, du) (dropN n (dropN m (runsD d).2.F)), P := (dropN m (runsD d).2.P).map fun p => if p.1 == n then (m, p.2) else p } else (runsD d).2) := by
          unfold renameD
          rw [hat]
          simp only [if_neg (show ¬ okN m = false by rw [hok]; simp), if_neg hnm]
        rw [hE]
        exact rrename_main n m hm hnm hn h hd hl du hat hok

end Go.Proofs.YtiogckgchlnldaaGreat

/- Layer 8, the document: kept; a crash's things. -/
set_option linter.unusedSimpArgs false
set_option linter.unusedVariables false
namespace Go.Proofs.YtiogckgchlnldaaGreat
open Go.RowKit
set_option maxRecDepth 100000

theorem rkept_any (KA : Option Addr) (kc kn : Nat) (kp : List Bool) (hkn : kn = kp.length) (torn : Int) (i : Nat) (w : World) (hK : Bo w KA kp) (hi : i ≤ 100000000) :
    Calls Tryz.prog 60 #[.agg #[.slice KA kn kc, .int .i64 torn], .int .i64 (i : Nat)] w fun e w' => e = .returned (.bool (kpt kp i)) ∧ Below w.heap.size w w' := by
  obtain ⟨W, hW⟩ : ∃ W, W = w.alloc (.cells #[.slice KA kn kc, .int .i64 torn] 45) := ⟨_, rfl⟩
  have hb : Below w.heap.size w W := by rw [hW]; exact below_alloc _ _
  have hB : Blk W w.heap.size 45 #[.slice KA kn kc, .int .i64 torn] := by rw [hW]; exact Blk.new _ _ _
  have C := fbsays hB
  simp only [cellsSay, Nat.reduceAdd, and_true] at C
  obtain ⟨r, hr⟩ : ∃ r, r = kpt kp i := ⟨_, rfl⟩
  rw [← hr]
  have HB := Lib.hid hb
  by_cases hlt : i < kn
  · obtain ⟨x, hx⟩ : ∃ x, kp[i]? = some x := ⟨_, List.getElem?_eq_getElem (by rw [← hkn]; exact hlt)⟩
    obtain ⟨p, o, rfl, hc⟩ := hK i x hx
    have hc' := (hb.cell (cell_lt hc)).trans hc
    obtain rfl : r = x := by rw [hr]; exact kpt_in hx
    have d1 : decide (i < kn) = true := decide_eq_true hlt
    have hil : (i : Int) < (kn : Int) := by omega
    have hi0 : (0 : Int) ≤ (i : Int) := by omega
    clear hr hK hx hc hB hb hkn hlt
    go_enter Tryz.func60, Tryz.ntmps60
    go_upto_region 1 with fail
    rw [← hW]
    clear hW
    go_wp2_with fail
    go_ret
    exact ⟨rfl, HB.out⟩
  · obtain rfl : r = false := by rw [hr]; exact kpt_out (by omega)
    have d1 : decide (i < kn) = false := decide_eq_false hlt
    have hil : ¬ (i : Int) < (kn : Int) := by omega
    clear hr hK hB hb hkn hlt
    go_enter Tryz.func60, Tryz.ntmps60
    go_upto_region 1 with fail
    rw [← hW]
    clear hW
    go_wp2_with fail
    go_ret
    exact ⟨rfl, HB.out⟩

/-- while a file is put together: its bytes, what waits, all else -/
def Cs (B : Nat) (w0 w : World) (q room : Nat) (ts : List Kt) (VF VP bv wv : Value) (bc wt : List UInt8) (LF E LP : List Fe) (st : Bool) (lv : Nat) (dd : Bool) : Prop :=
  Sep B w0 w (thO bv bc :: thO wv wt :: thB q 59 (rfc room VF VP st lv dd) :: thRF VF LF :: thRP VP LP :: (E.map thb ++ (LP.map thb ++ ts)))
section
variable {B q room : Nat} {w0 w w' : World} {ts : List Kt} {VF VP bv wv bv' wv' : Value} {bc wt bc' wt' : List UInt8} {LF E LP : List Fe} {st dd : Bool} {lv : Nat}
theorem Cs.go (h : Cs B w0 w q room ts VF VP bv wv bc wt LF E LP st lv dd) (b : Below w.heap.size w w') : Cs B w0 w' q room ts VF VP bv wv bc wt LF E LP st lv dd := Sep.go h b
theorem Cs.bx (h : Cs B w0 w q room ts VF VP bv wv bc wt LF E LP st lv dd) : Blk w q 59 (rfc room VF VP st lv dd) := Sep.blk h 2
theorem Cs.rF (h : Cs B w0 w q room ts VF VP bv wv bc wt LF E LP st lv dd) : OwnR w 0 77 encE 2 VF LF := Sep.at_ (t := thRF VF LF) h 3 rfl
theorem Cs.rP (h : Cs B w0 w q room ts VF VP bv wv bc wt LF E LP st lv dd) : OwnR w 0 78 encE 2 VP LP := Sep.at_ (t := thRP VP LP) h 4 rfl
theorem Cs.ob (h : Cs B w0 w q room ts VF VP bv wv bc wt LF E LP st lv dd) : OwnB w 0 bv bc := Sep.own h 0
theorem Cs.ow (h : Cs B w0 w q room ts VF VP bv wv bc wt LF E LP st lv dd) : OwnB w 0 wv wt := Sep.own h 1
theorem Cs.oP (h : Cs B w0 w q room ts VF VP bv wv bc wt LF E LP st lv dd) {x : Fe} (hx : x ∈ LP) : OwnB w 0 (vaE x) x.b := Sep.get h (t := thb x) (by
  simp only [List.mem_cons, List.mem_append, List.mem_map]
  exact .inr (.inr (.inr (.inr (.inr (.inr (.inl ⟨x, hx, rfl⟩)))))))
theorem Cs.others (h : Cs B w0 w q room ts VF VP bv wv bc wt LF E LP st lv dd) : Sep B w0 w ts :=
  Sep.sub h ((List.sublist_append_right _ _).trans ((List.sublist_append_right _ _).trans ((List.sublist_cons_self _ _).trans ((List.sublist_cons_self _ _).trans ((List.sublist_cons_self _ _).trans ((List.sublist_cons_self _ _).trans (List.sublist_cons_self _ _)))))))
/-- bytes grow -/
theorem Cs.growB (h : Cs B w0 w q room ts VF VP bv wv bc wt LF E LP st lv dd) (ho : OwnB w' 0 bv' bc') (hg : w.grownBy w' bv.ownBlock) (hl : ∀ j, bv'.ownBlock = some j → bv.ownBlock = some j ∨ w.heap.size ≤ j) : Cs B w0 w' q room ts VF VP bv' wv bc' wt LF E LP st lv dd :=
  Sep.call h (t := thO bv bc) (t' := thO bv' bc') 0 rfl (Tou.of_grown hg (fun k e => e)) ho hl
theorem Cs.growW (h : Cs B w0 w q room ts VF VP bv wv bc wt LF E LP st lv dd) (ho : OwnB w' 0 wv' wt') (hg : w.grownBy w' wv.ownBlock) (hl : ∀ j, wv'.ownBlock = some j → wv.ownBlock = some j ∨ w.heap.size ≤ j) : Cs B w0 w' q room ts VF VP bv wv' bc wt' LF E LP st lv dd :=
  Sep.call h (t := thO wv wt) (t' := thO wv' wt') 1 rfl (Tou.of_grown hg (fun k e => e)) ho hl
/-- what waits is nothing again -/
theorem Cs.noW (h : Cs B w0 w q room ts VF VP bv wv bc wt LF E LP st lv dd) : Cs B w0 w q room ts VF VP bv (.slice none 0 0) bc [] LF E LP st lv dd :=
  Sep.call h (t := thO wv wt) (t' := thO (.slice none 0 0) []) 1 rfl (Tou.refl _ _) (OwnB.nil _ _) (fun k e => by
    have e : (Value.slice none 0 0).ownBlock = some k := e
    simp [Value.ownBlock] at e)
theorem Cs.old (h : Cs B w0 w q room ts VF VP bv wv bc wt LF E LP st lv dd) (hB : w0.heap.size ≤ B) {a : Addr} {v : Value} (c : w0.cell? a = some v) : w.cell? a = some v := Sep.old h hB c
end
theorem erase_perm0 {α : Type} : ∀ (L : List α) (k : Nat) (x : α), L[k]? = some x → L.Perm (x :: L.eraseIdx k)
  | [], _, _, h => by simp at h
  | a :: L, 0, x, h => by
    have e : a = x := by simpa using h
    subst e
    exact List.Perm.refl _
  | a :: L, k + 1, x, h => by
    have ih := erase_perm0 L k x (by simpa using h)
    exact (ih.cons a).trans (List.Perm.swap x a (L.eraseIdx k))
theorem erase_perm {L : List Fe} {k : Nat} {x : Fe} (hx : L[k]? = some x) : (L.map thb).Perm (thb x :: (L.eraseIdx k).map thb) := by
  exact (erase_perm0 L k x hx).map thb
theorem RfS.take {B q room k : Nat} {w0 w : World} {ts : List Kt} {VF VP : Value} {LF LP : List Fe} {st dd : Bool} {lv : Nat} {x : Fe} (h : RfS B w0 w q room ts VF VP LF LP st lv dd) (hx : LF[k]? = some x) : Cs B w0 w q room ts VF VP (vaE x) (.slice none 0 0) x.b [] LF (LF.eraseIdx k) LP st lv dd := by
  have S1 := Sep.perm h (us := thb x :: thB q 59 (rfc room VF VP st lv dd) :: thRF VF LF :: thRP VP LP :: ((LF.eraseIdx k).map thb ++ (LP.map thb ++ ts)) ) (by
    have p1 : (LF.map thb ++ (LP.map thb ++ ts)).Perm (thb x :: ((LF.eraseIdx k).map thb ++ (LP.map thb ++ ts))) := (erase_perm hx).append_right _
    refine (((p1.cons _).cons _).cons _).trans ?_
    exact (List.perm_middle (l₁ := [thB q 59 (rfc room VF VP st lv dd), thRF VF LF, thRP VP LP]) (a := thb x) (l₂ := (LF.eraseIdx k).map thb ++ (LP.map thb ++ ts))))
  have S2 := Sep.cons (t := thO (.slice none 0 0) []) S1 (Below.refl _ _) (OwnB.nil _ _) (fun k e => by
    have e : (Value.slice none 0 0).ownBlock = some k := e
    simp [Value.ownBlock] at e)
  exact Sep.perm S2 (List.Perm.swap _ _ _)
theorem Cs.back {B q room k g m c : Nat} {w0 w w' : World} {ts : List Kt} {VP wv : Value} {wt : List UInt8} {LF LP : List Fe} {st dd : Bool} {lv : Nat} {x y : Fe} (h : Cs B w0 w q room ts (.slice (some ⟨g, 0, none⟩) m c) VP (vaE y) wv y.b wt LF (LF.eraseIdx k) LP st lv dd) (hx : LF[k]? = some x) (hn : y.nm = x.nm) (hW : w.setCell ⟨g, k * 2 + 1, none⟩ (vaE y) = w') :
    RfS B w0 w' q room ts (.slice (some ⟨g, 0, none⟩) m c) VP (LF.set k y) LP st lv dd := by
  have hr := h.rF
  have hm : m = LF.length := by
    obtain ⟨A, c', hv, _, _⟩ := OwnR.row Tryz.eltE2 hr
    injection hv with _ e _
  subst hm
  have h1 := (World.ownsRow.stored hr (k * 2 + 1) (vaE y)).1
  rw [flat_setB LF k x y hx hn] at h1
  have h2 : OwnR w' 0 77 encE 2 (.slice (some ⟨g, 0, none⟩) LF.length c) (LF.set k y) := by
    unfold OwnR
    rw [List.length_set, ← hW]
    exact h1
  have S := Sep.call h (t := thRF (.slice (some ⟨g, 0, none⟩) LF.length c) LF) (t' := thRF (.slice (some ⟨g, 0, none⟩) LF.length c) (LF.set k y)) 3 rfl (by rw [← hW]; exact Tou.set g _ _ rfl) h2 (fun k hk => .inl hk)
  have hy : (LF.set k y)[k]? = some y := by
    rw [List.getElem?_set_self (List.getElem?_eq_some_iff.1 hx).1]
  have p1 : ((LF.set k y).map thb).Perm (thb y :: (LF.eraseIdx k).map thb) := by
    have := erase_perm hy
    rw [List.eraseIdx_set_eq] at this
    exact this
  have S2 := Sep.sub S (us := thb y :: thB q 59 (rfc room (.slice (some ⟨g, 0, none⟩) LF.length c) VP st lv dd) :: thRF (.slice (some ⟨g, 0, none⟩) LF.length c) (LF.set k y) :: thRP VP LP :: ((LF.eraseIdx k).map thb ++ (LP.map thb ++ ts))) ((List.sublist_cons_self _ _).cons_cons _)
  refine Sep.perm S2 ?_
  refine (List.perm_middle (l₁ := [thB q 59 (rfc room (.slice (some ⟨g, 0, none⟩) LF.length c) VP st lv dd), thRF (.slice (some ⟨g, 0, none⟩) LF.length c) (LF.set k y), thRP VP LP]) (a := thb y) (l₂ := (LF.eraseIdx k).map thb ++ (LP.map thb ++ ts))).symm.trans ?_
  exact ((((p1.symm.append_right (LP.map thb ++ ts))).cons _).cons _).cons _

end Go.Proofs.YtiogckgchlnldaaGreat

/- Layer 8, the document: Crash. -/
set_option linter.unusedSimpArgs false
set_option linter.unusedVariables false
namespace Go.Proofs.YtiogckgchlnldaaGreat
open Go.RowKit
set_option maxRecDepth 100000

def lossC (KA : Option Addr) (kn kc : Nat) (torn : Int) : Array Value := #[.slice KA kn kc, .int .i64 torn]
theorem bs_take {w : World} {A : Option Addr} {l : List UInt8} (h : Bs w A l) (k : Nat) : Bs w A (l.take k) := fun i x hi => by
  rw [List.getElem?_take] at hi
  split at hi
  · exact h i x hi
  · cases hi
theorem pcs_drop_at {P : List (Nm × List UInt8)} {i : Nat} {p : Nm × List UInt8} (hp : P[i]? = some p) : P.drop i = p :: P.drop (i + 1) := by
  obtain ⟨hi, rfl⟩ := List.getElem?_eq_some_iff.1 hp
  exact List.drop_eq_getElem_cons hi

set_option maxHeartbeats 40000000 in
theorem rcrash_any {B q room : Nat} {w0 w : World} {ts : List Kt} {d : Fd} (kp : List Bool) (KA : Option Addr) (kc kn : Nat) (hkn : kn = kp.length) (torn : Int) (h : RfI B w0 w q room ts d) (hd : Db d) (hK : ∀ W, Sep B w0 W ts → Bo W KA kp) (hkl : kn ≤ 1000000) :
    Calls Tryz.prog 36 #[.pointer (some ⟨q, 0, none⟩), .agg #[.slice KA kn kc, .int .i64 torn]] w fun e w' => e = .returned (.tuple #[]) ∧ RfI B w0 w' q room ts (crashD d (kpt kp) torn) := by
  obtain ⟨W, hW⟩ : ∃ W, W = w.alloc (.cells #[.slice KA kn kc, .int .i64 torn] 45) := ⟨_, rfl⟩
  obtain ⟨gl, hgl⟩ : ∃ g, g = w.heap.size := ⟨_, rfl⟩
  have hI : RfI B w0 W q room (thB gl 45 (lossC KA kn kc torn) :: ts) d := h.cons (by rw [hW]; exact below_alloc _ _) (by rw [hW, hgl]; exact Blk.new _ _ _) (fun k e => by
    have e : k = gl := e
    omega)
  obtain ⟨VF, VP, LF, LP, lv, hs, h1, h2, h3⟩ := hI
  obtain ⟨AF, cF, hVF, -, -⟩ := OwnR.row Tryz.eltE2 hs.rF
  obtain ⟨AP, cP, hVP, -, -⟩ := OwnR.row Tryz.eltP2 hs.rP
  subst hVF hVP
  obtain ⟨mF, hmF⟩ : ∃ m, m = LF.length := ⟨_, rfl⟩
  obtain ⟨mP, hmP⟩ : ∃ m, m = LP.length := ⟨_, rfl⟩
  rw [← hmF, ← hmP] at hs
  have hF8 : mF ≤ 8 := by rw [hmF, nb_len h1]; exact hd.fl
  have hP6 : mP ≤ 1000000 := by rw [hmP, nb_len h2]; exact hd.pl
  obtain ⟨ts2, hts2⟩ : ∃ l, l = thB gl 45 (lossC KA kn kc torn) :: ts := ⟨_, rfl⟩
  rw [← hts2] at hs
  have hgb : ∀ W', Sep B w0 W' ts2 → Blk W' gl 45 (lossC KA kn kc torn) := fun W' h9 => by rw [hts2] at h9; exact Sep.blk h9 0
  have hKb : ∀ W', Sep B w0 W' ts2 → Bo W' KA kp := fun W' h9 => by rw [hts2] at h9; exact hK W' h9.tail
  have hend : ∀ W', Sep B w0 W' ts2 → True := fun _ _ => trivial
  have HX := Lib.hid (And.intro h1 (And.intro h2 (And.intro hd (And.intro hgb (And.intro hKb (And.intro hkn (And.intro hmP (And.intro hmF hts2))))))))
  have HS := Lib.hid hs
  have hrest : ∀ {W' : World} {VF VP : Value} {LF LP : List Fe} {st dd : Bool} {lv : Nat}, RfS B w0 W' q room ts2 VF VP LF LP st lv dd → Sep B w0 W' ts2 := fun h9 => Sep.sub h9 ((List.sublist_append_right _ _).trans ((List.sublist_append_right _ _).trans ((List.sublist_cons_self _ _).trans ((List.sublist_cons_self _ _).trans (List.sublist_cons_self _ _)))))
  have HRest := Lib.hid (fun (W' : World) (VF VP : Value) (LF LP : List Fe) (st dd : Bool) (lv : Nat) (h9 : RfS B w0 W' q room ts2 VF VP LF LP st lv dd) => hrest h9)
  have Hgl := Lib.hid hgl
  clear h hs h1 h2 h3 hd hgb hKb hkn hmP hmF hK hts2 hend hrest hkl
  go_enter Tryz.func36, Tryz.ntmps36
  go_upto_region 1 with fail
  rw [← hW, ← hgl]
  clear hW hgl
  go_wp2_with fail
  go_loopw [4, 5] (fun s4 s5 wr => ∃ (k : Nat) (lk : Int), k ≤ mP ∧ -1 ≤ lk ∧ lk ≤ mP ∧ s4 = .int .i64 lk ∧ s5 = .int .i64 k ∧ Hid (lk = lastK (kpt kp) k ∧ Below W.heap.size W wr)) (fun _ s _ => mP - (intOf s).toNat)
  case atStart => exact ⟨0, -1, Nat.zero_le _, by omega, by omega, rfl, rfl, Lib.hid ⟨rfl, Below.refl _ _⟩⟩
  case round =>
    obtain ⟨k, lk, hk, hl1, hl2, rfl, rfl, HR⟩ := hrel
    have hs := HS.out.go HR.out.2
    have C := fbsays hs.bx
    have hg := HX.out.2.2.2.1 wr (HRest.out _ _ _ _ _ _ _ _ hs)
    have Cg := fbsays hg
    simp only [cellsSay, rfc, lossC, Nat.reduceAdd, and_true] at C Cg
    by_cases hlt : k < mP
    · have hkl : (k : Int) < (mP : Int) := by omega
      have hk0 : (0 : Int) ≤ (k : Int) := by omega
      have HC := Lib.hid (rkept_any KA kc kn kp HX.out.2.2.2.2.2.1 torn k wr (HX.out.2.2.2.2.1 wr (HRest.out _ _ _ _ _ _ _ _ hs)) (by omega))
      obtain ⟨b, hb⟩ : ∃ b, b = kpt kp k := ⟨_, rfl⟩
      rw [← hb] at HC
      have Hb := Lib.hid hb
      clear hs hg hb
      go_wp2_with fail
      refine HC.out.mono ?_
      rintro e w2 ⟨rfl, b2⟩
      have HB := Lib.hid (on1 HR.out.2 b2)
      clear b2 HC C Cg
      cases b with
      | true =>
        have HN := Lib.hid (show ((k : Nat) : Int) = lastK (kpt kp) (k + 1) from by unfold lastK; rw [if_pos Hb.out.symm])
        go_wp2_with fail
        go_roundw
        case measure => simp [intOf]; omega
        case rel => exact ⟨k + 1, k, by omega, by omega, by omega, rfl, by go_num, Lib.hid ⟨HN.out, HB.out⟩⟩
      | false =>
        have HN := Lib.hid (show lk = lastK (kpt kp) (k + 1) from by
          rw [HR.out.1]
          conv => rhs; unfold lastK
          rw [if_neg (by rw [← Hb.out]; simp)])
        go_wp2_with fail
        go_roundw
        case measure => simp [intOf]; omega
        case rel => exact ⟨k + 1, lk, by omega, by omega, by omega, rfl, by go_num, Lib.hid ⟨HN.out, HB.out⟩⟩
    · obtain rfl : k = mP := by omega
      have hkk : ¬ ((k : Int) < (k : Int)) := by omega
      obtain ⟨FN, hFN⟩ : ∃ FN, FN = d.F.map fun f => (f.1, crashF (kpt kp) lk torn f.1 d.P 0 f.2 []) := ⟨_, rfl⟩
      have hlke : lk = lastK (kpt kp) d.P.length := by rw [HR.out.1, ← nb_len HX.out.2.1, ← HX.out.2.2.2.2.2.2.1]
      have HF := Lib.hid (And.intro hFN hlke)
      have H1 := Lib.hid hs
      clear hs hg Cg hFN hlke HR HS
      rename World => w1
      go_wp2_with fail
      clear C
      go_loopw [6] (fun s wr => ∃ kf : Nat, kf ≤ mF ∧ s = .int .i64 kf ∧ Hid (∃ LF', RfS B w0 wr q room ts2 (.slice AF mF cF) (.slice AP k cP) LF' LP d.st lv d.dd ∧ LF'.map nbE = FN.take kf ++ d.F.drop kf)) (fun s _ => mF - (intOf s).toNat)
      case atStart => exact ⟨0, Nat.zero_le _, rfl, Lib.hid ⟨LF, H1.out, by rw [HX.out.1]; rfl⟩⟩
      case round =>
        obtain ⟨kf, hkf, rfl, HR⟩ := hrel
        clear H1
        obtain ⟨LF', hs, hm'⟩ := HR.out
        have hLl : LF'.length = mF := by
          obtain ⟨A', c', hv, _, _⟩ := OwnR.row Tryz.eltE2 hs.rF
          injection hv with _ e _
          exact e.symm
        have C := fbsays hs.bx
        simp only [cellsSay, rfc, Nat.reduceAdd, and_true] at C
        by_cases hlt2 : kf < mF
        · obtain ⟨x, hx⟩ : ∃ x, LF'[kf]? = some x := ⟨_, List.getElem?_eq_getElem (by rw [hLl]; exact hlt2)⟩
          obtain ⟨g, mm, cc, hVg⟩ := row_at0 hs.rF (by omega)
          injection hVg with e1 e2 e3
          subst e1
          clear e2 e3
          obtain ⟨A', c', hv, -, hr⟩ := OwnR.row Tryz.eltE2 hs.rF
          injection hv with e1 e2 e3
          subst e1
          clear e2 e3
          obtain ⟨p, f, hpf, hc⟩ := hr kf x hx
          injection hpf with hpf
          injection hpf with e1 e2 _
          subst e1 e2
          have hFk : d.F[kf]? = some (x.nm, x.b) := by
            have h9 := nb_get hm' hx
            have hFNl : (FN.take kf).length = kf := by rw [HF.out.1, List.length_take, List.length_map, ← nb_len HX.out.1, ← HX.out.2.2.2.2.2.2.2.1]; omega
            rw [List.getElem?_append_right (by omega), hFNl, Nat.sub_self, List.getElem?_drop, Nat.add_zero] at h9
            exact h9
          have c1 := hc 1 _ rfl
          simp only [vaE, Nat.zero_add] at c1
          obtain ⟨xl, hxl⟩ : ∃ l, l = x.b.length := ⟨_, rfl⟩
          rw [← hxl] at c1
          have hkl2 : (kf : Int) < (mF : Int) := by omega
          have hk02 : (0 : Int) ≤ (kf : Int) := by omega
          have hbd : x.b.length + (pcs d.P x.nm).length ≤ 200000 := by
            have := HX.out.2.2.1.fb _ (List.mem_of_getElem? hFk)
            rw [List.length_append] at this
            exact this
          obtain ⟨res, hres⟩ : ∃ r, r = crashF (kpt kp) lk torn x.nm d.P 0 x.b [] := ⟨_, rfl⟩
          have HQ := Lib.hid (show Cs B w0 wr q room ts2 (.slice (some ⟨g, 0, none⟩) mF cF) (.slice AP k cP) (vaE x) (.slice none 0 0) x.b [] LF' (LF'.eraseIdx kf) LP d.st lv d.dd from hs.take hx)
          have HY := Lib.hid (And.intro hx (And.intro hm' (And.intro hFk (And.intro hbd (And.intro hres hxl)))))
          clear hs hx hr hc hm' hFk hbd hres hxl HR hLl
          go_upto_region 12 with fail
          clear C c1
          rename World => w2
          go_wp2_with fail
          go_loopw [7, 8, 9] (fun s7 s8 s9 wr => ∃ (i bl wl : Nat) (A WA : Option Addr) (c wc : Nat), i ≤ k ∧ s7 = .slice A bl c ∧ s8 = .slice WA wl wc ∧ s9 = .int .i64 i ∧ Hid (∃ bc wt, bl = bc.length ∧ wl = wt.length ∧ Cs B w0 wr q room ts2 (.slice (some ⟨g, 0, none⟩) mF cF) (.slice AP k cP) (.slice A bl c) (.slice WA wl wc) bc wt LF' (LF'.eraseIdx kf) LP d.st lv d.dd ∧ crashF (kpt kp) lk torn x.nm (d.P.drop i) i bc wt = res ∧ bc.length + wt.length + (pcs (d.P.drop i) x.nm).length ≤ 200000)) (fun _ _ s _ => k - (intOf s).toNat)
          case atStart => exact ⟨0, xl, 0, x.A, none, x.c, 0, Nat.zero_le _, rfl, rfl, rfl, Lib.hid ⟨x.b, [], HY.out.2.2.2.2.2, rfl, by rw [HY.out.2.2.2.2.2]; exact HQ.out, HY.out.2.2.2.2.1.symm, by have := HY.out.2.2.2.1; simp only [List.length_nil, List.drop_zero]; omega⟩⟩
          case round =>
            obtain ⟨i, bl, wl, A, WA, c, wc, hi, rfl, rfl, rfl, HR⟩ := hrel
            obtain ⟨bc, wt, hbl, hwl, hs, hcr, hbnd⟩ := HR.out
            have C := fbsays hs.bx
            simp only [cellsSay, rfc, Nat.reduceAdd, and_true] at C
            by_cases hlt3 : i < k
            · obtain ⟨y, hy⟩ : ∃ y, LP[i]? = some y := ⟨_, List.getElem?_eq_getElem (by rw [← HX.out.2.2.2.2.2.2.1]; exact hlt3)⟩
              obtain ⟨A', c', hv, -, hr⟩ := OwnR.row Tryz.eltP2 hs.rP
              injection hv with e1 e2 e3
              subst e1
              clear e2 e3
              obtain ⟨pq, fq, rfl, hc⟩ := hr i y hy
              have c0 := hc 0 _ rfl
              have c1 := hc 1 _ rfl
              simp only [vaE, Nat.add_zero] at c0 c1
              obtain ⟨yl, hyl⟩ : ∃ l, l = y.b.length := ⟨_, rfl⟩
              rw [← hyl] at c1
              have hil : (i : Int) < (k : Int) := by omega
              have hi0 : (0 : Int) ≤ (i : Int) := by omega
              have hdr := pcs_drop_at (nb_get HX.out.2.1 hy)
              obtain ⟨W1, hW1⟩ : ∃ W1, W1 = wr.alloc (.cells #[.string ⟨y.nm.toArray⟩, .slice y.A yl y.c] 78) := ⟨_, rfl⟩
              obtain ⟨gq, hgq⟩ : ∃ g, g = wr.heap.size := ⟨_, rfl⟩
              have hb1 : Below wr.heap.size wr W1 := by rw [hW1]; exact below_alloc _ _
              have hBq : Blk W1 gq 78 #[.string ⟨y.nm.toArray⟩, .slice y.A yl y.c] := by rw [hW1, hgq]; exact Blk.new _ _ _
              have hs1 := hs.go hb1
              have hbq : ∃ nb, nb = W1 := ⟨_, rfl⟩
              obtain ⟨A', c', hv, -, hrF⟩ := OwnR.row Tryz.eltE2 hs1.rF
              injection hv with e1 e2 e3
              subst e1
              clear e2 e3
              obtain ⟨pF, fF, hpF, hcF⟩ := hrF kf x HY.out.1
              injection hpF with hpF
              injection hpF with e1 e2 _
              subst e1 e2
              have cF0 := hcF 0 _ rfl
              simp only [Nat.zero_add, Nat.add_zero] at cF0
              have HZ := Lib.hid (And.intro hbl (And.intro hwl (And.intro hs1 (And.intro hcr (And.intro hbnd (And.intro hdr (And.intro hyl (And.intro hy hBq))))))))
              have Cq := fbsays hBq
              have C1 := fbsays hs1.bx
              clear hyl hbl hwl hcr hbnd hdr
              simp only [cellsSay, rfc, Nat.reduceAdd, and_true] at Cq C1
              go_upto_region 16 with fail
              rw [← hW1, ← hgq]
              clear hW1 hgq hs hy hr hc HR C c0 c1 hBq hb1 hs1 hbq hrF hcF
              by_cases hyn : y.nm = x.nm
              · have e1 : (y.nm == x.nm) = true := beq_iff_eq.2 hyn
                have e1' : (y.nm != x.nm) = false := by unfold bne; rw [e1]; rfl
                go_wp2_with fail
                go_quiet (fail)
                clear cF0 Cq C1
                obtain ⟨wd, hwd⟩ : ∃ wd, wd = W1.drewN nq := ⟨_, rfl⟩
                have hbd : Below W1.heap.size W1 wd := by rw [hwd]; exact below_drewN (Below.refl _ _) _
                rw [← hwd]
                obtain ⟨hbl, hwl, hs1, hcr, hbnd, hdr, hyl, hy, hBq⟩ := HZ.out
                have hsd := hs1.go hbd
                have hBd := hBq.below hbd hBq.lt
                have hg := HX.out.2.2.2.1 wd hsd.others
                have Cg := fbsays hg
                have Cq := fbsays hBd
                simp only [cellsSay, lossC, Nat.reduceAdd, and_true] at Cg Cq
                have HC := Lib.hid (rkept_any KA kc kn kp HX.out.2.2.2.2.2.1 torn i wd (HX.out.2.2.2.2.1 wd hsd.others) (by omega))
                obtain ⟨kb, hkb⟩ : ∃ b, b = kpt kp i := ⟨_, rfl⟩
                rw [← hkb] at HC
                rw [hdr] at hcr hbnd
                rw [show (y.nm, y.b) = ((y.nm, y.b) : Nm × List UInt8) from rfl] at hcr
                have hpc : pcs ((y.nm, y.b) :: d.P.drop (i + 1)) x.nm = y.b ++ pcs (d.P.drop (i + 1)) x.nm := by
                  have h9 := pcs_cons_same (y.nm, y.b) (d.P.drop (i + 1))
                  simp only at h9
                  rw [hyn] at h9
                  rw [hyn]
                  exact h9
                rw [hpc, List.length_append] at hbnd
                rw [crashF, if_pos (by simpa using hyn)] at hcr
                have HZ2 := Lib.hid (And.intro hbl (And.intro hwl (And.intro hsd (And.intro hcr (And.intro hbnd (And.intro hyl (And.intro hy (And.intro hBd (And.intro hkb hg)))))))))
                clear hwd hbd hbl hwl hs1 hcr hbnd hdr hyl hy hBq hsd hBd hg hkb hpc HZ hyn e1 e1'
                go_wp2_with fail
                refine HC.out.mono ?_
                rintro e w3 ⟨rfl, b3⟩
                obtain ⟨hbl, hwl, hsd, hcr, hbnd, hyl, hy, hBd, hkb, hg⟩ := HZ2.out
                have hs3 := hsd.go b3
                have hB3 := hBd.below b3 hBd.lt
                have hg3 := hg.below b3 hg.lt
                have Cg := fbsays hg3
                have Cq := fbsays hB3
                simp only [cellsSay, lossC, Nat.reduceAdd, and_true] at Cg Cq
                rw [← hkb] at hcr
                have HBy := Lib.hid (OwnB.bs (hs3.oP (List.mem_of_getElem? hy)))
                cases kb with
                | false =>
                  rw [if_neg (by simp)] at hcr
                  have HZ3 := Lib.hid (And.intro hbl (And.intro hwl (And.intro hs3 (And.intro hcr (And.intro hbnd hyl)))))
                  have HO := Lib.hid hs3.ow
                  have hyl6 : yl ≤ 1000000 := by omega
                  have hwt6 : wt.length ≤ 1000000 := by omega
                  clear hbl hwl hsd hcr hbnd hyl hy hBd hkb hg b3 hs3 hB3 hg3 HC HZ2
                  go_upto_region 14 with (at_builtin; go_must (refine appZ _ rfl (.tmp 73) (.tmp 76) rfl 0 (.slice WA wl wc) wt rfl HO.out yl rfl hyl6 hwt6 (Nat.zero_le _) ?_); intro A5 c5 w5 hown5 hg5 hl5)
                  obtain ⟨hbl, hwl, hs3, hcr, hbnd, hyl⟩ := HZ3.out
                  obtain ⟨w5l, hw5l⟩ : ∃ m, m = wt.length + yl := ⟨_, rfl⟩
                  rw [← hw5l] at hown5 hl5 ⊢
                  have hs5 := hs3.growW hown5 hg5 hl5
                  have HN := Lib.hid (show ∃ bc wt, bl = bc.length ∧ w5l = wt.length ∧ Cs B w0 w5 q room ts2 (.slice (some ⟨g, 0, none⟩) mF cF) (.slice (some ⟨pq, fq, none⟩) k cP) (.slice A bl c) (.slice A5 w5l c5) bc wt LF' (LF'.eraseIdx kf) LP d.st lv d.dd ∧ crashF (kpt kp) lk torn x.nm (d.P.drop (i + 1)) (i + 1) bc wt = res ∧ bc.length + wt.length + (pcs (d.P.drop (i + 1)) x.nm).length ≤ 200000 from ⟨bc, wt ++ List.replicate yl 0, hbl, by rw [List.length_append, List.length_replicate]; exact hw5l, hs5, by rw [hyl]; exact hcr, by rw [List.length_append, List.length_replicate]; omega⟩)
                  clear hbl hwl hs3 hcr hbnd hyl hown5 hg5 hl5 hs5 hw5l HZ3 HO Cg Cq hyl6 hwt6
                  go_wp2_with fail
                  go_roundw
                  case measure => simp [intOf]; omega
                  case rel => exact ⟨i + 1, bl, w5l, A, A5, c, c5, by omega, rfl, rfl, by go_num, HN⟩
                | true =>
                  rw [if_pos rfl] at hcr
                  have hyo := hs3.oP (List.mem_of_getElem? hy)
                  obtain ⟨yy1, yy2, yy3⟩ := own_shape hyo
                  clear hyo
                  by_cases hlk : (i : Int) = lk
                  · have f1 : ((i : Int) == lk) = true := beq_iff_eq.2 hlk
                    by_cases ht0 : 0 ≤ torn
                    · obtain ⟨tn, rfl⟩ := Int.eq_ofNat_of_zero_le ht0
                      have f2 : decide ((0 : Int) ≤ (tn : Int)) = true := decide_eq_true ht0
                      by_cases htl : tn < yl
                      · have f3 : decide (tn < yl) = true := decide_eq_true htl
                        rw [if_pos (⟨hlk, ht0, by rw [← hyl]; omega⟩ : (i : Int) = lk ∧ 0 ≤ (tn : Int) ∧ (tn : Int) < y.b.length), Int.toNat_natCast] at hcr
                        obtain ⟨pc, hpc⟩ : ∃ pc, pc = y.b.take tn := ⟨_, rfl⟩
                        have hpcl : pc.length = tn := by rw [hpc, List.length_take, ← hyl]; omega
                        have hpcy : pc.length ≤ yl := by omega
                        rw [← hpc] at hcr
                        have HBp := Lib.hid (show Bs w3 y.A pc from by rw [hpc]; exact bs_take HBy.out _)
                        have sl := run_front2 y.A yl y.c tn (by omega) yy2 yy3 w3
                        have htc : tn ≤ y.c := by omega
                        have HZ3 := Lib.hid (And.intro hbl (And.intro hwl (And.intro hs3 (And.intro hcr (And.intro hbnd (And.intro hyl (And.intro hpcl hpcy)))))))
                        have HO := Lib.hid hs3.ob
                        have Hy := Lib.hid (List.mem_of_getElem? hy)
                        have Hpc := Lib.hid hpc
                        have HOw := Lib.hid (OwnB.bs hs3.ow)
                        have Hwl := Lib.hid hwl
                        have hq1 : bc.length + wt.length ≤ 140737488355328 := by omega
                        have hq2 : bc.length + wt.length + pc.length ≤ 140737488355328 := by omega
                        clear hbl hwl hsd hcr hbnd hyl hy hBd hkb hg b3 hs3 hB3 hg3 HC HZ2 hpc hpcy HBy
                        go_upto_region 23 with (at_builtin; go_must (refine appAllL _ rfl (.tmp 99) (.tmp 100) rfl 0 (.slice A bl c) bc rfl HO.out WA wc wt (by rw [← Hwl.out]; rfl) HOw.out hq1 (Nat.zero_le _) ?_); intro A5 c5 w5 hown5 hg5 hl5)
                        obtain ⟨hbl, hwl, hs3, hcr, hbnd, hyl, hpcl2, hpcy⟩ := HZ3.out
                        obtain ⟨b5l, hb5l⟩ : ∃ m, m = bc.length + wt.length := ⟨_, rfl⟩
                        rw [← hb5l] at hown5 hl5 ⊢
                        have hs5 := hs3.growB hown5 hg5 hl5
                        obtain ⟨bw, hbw⟩ : ∃ l, l = bc ++ wt := ⟨_, rfl⟩
                        rw [← hbw] at hown5 hs5 hcr
                        have hbwl : bw.length = b5l := by rw [hbw, List.length_append]; exact hb5l.symm
                        have HO5 := Lib.hid hs5.ob
                        have HBp5 := Lib.hid (show Bs w5 y.A pc from by rw [Hpc.out]; exact bs_take (OwnB.bs (hs5.oP Hy.out)) _)
                        have HZ5 := Lib.hid (And.intro hs5 (And.intro hcr (And.intro hbnd (And.intro hpcl2 (And.intro hpcy (And.intro hbwl (And.intro hb5l hyl)))))))
                        have Hpl := Lib.hid hpcl2
                        have hq3 : bw.length + pc.length ≤ 140737488355328 := by omega
                        clear hbl hwl hs3 hcr hbnd hyl hpcl2 hpcy hown5 hg5 hl5 hs5 hb5l hbw HZ3 HO HOw Hwl hq1 hq2 HBp Cg Cq sl htc
                        go_upto_region 24 with (at_builtin; go_must (refine appAllL _ rfl (.tmp 102) (.tmp 103) rfl 0 (.slice A5 b5l c5) bw rfl HO5.out y.A y.c pc (by rw [Hpl.out]; rfl) HBp5.out hq3 (Nat.zero_le _) ?_); intro A7 c7 w7 hown7 hg7 hl7)
                        obtain ⟨hs5, hcr, hbnd, hpcl2, hpcy, hbwl2, hb5l, hyl⟩ := HZ5.out
                        obtain ⟨b7l, hb7l⟩ : ∃ m, m = b5l + tn := ⟨_, rfl⟩
                        have h7e : bw.length + pc.length = b7l := by rw [hbwl2, hpcl2, hb7l]
                        rw [h7e] at hown7 hl7
                        try rw [hbwl2, hpcl2, ← hb7l]
                        try rw [← hb7l]
                        have hs7 := (hs5.growB hown7 hg7 hl7).noW
                        have HN := Lib.hid (show ∃ bc wt, b7l = bc.length ∧ 0 = wt.length ∧ Cs B w0 w7 q room ts2 (.slice (some ⟨g, 0, none⟩) mF cF) (.slice (some ⟨pq, fq, none⟩) k cP) (.slice A7 b7l c7) (.slice none 0 0) bc wt LF' (LF'.eraseIdx kf) LP d.st lv d.dd ∧ crashF (kpt kp) lk (tn : Int) x.nm (d.P.drop (i + 1)) (i + 1) bc wt = res ∧ bc.length + wt.length + (pcs (d.P.drop (i + 1)) x.nm).length ≤ 200000 from ⟨bw ++ pc, [], by rw [List.length_append]; exact h7e.symm, rfl, hs7, hcr, by rw [List.length_append, List.length_nil]; omega⟩)
                        clear hs5 hcr hbnd hpcl2 hpcy hbwl2 hb5l hyl hb7l h7e hown7 hg7 hl7 hs7 HZ5 HO5 HBp5 Hpl hq3 hbwl hpcl
                        go_wp2_with fail
                        go_roundw
                        case measure => simp [intOf]; omega
                        case rel => exact ⟨i + 1, b7l, 0, A7, none, c7, 0, by omega, rfl, rfl, by go_num, HN⟩
                      · have f3 : decide (tn < yl) = false := decide_eq_false htl
                        rw [if_neg (fun e : (i : Int) = lk ∧ 0 ≤ (tn : Int) ∧ (tn : Int) < y.b.length => htl (by have := e.2.2; rw [← hyl] at this; omega))] at hcr
                        obtain ⟨pc, hpc⟩ : ∃ pc, pc = y.b := ⟨_, rfl⟩
                        have hpcl : pc.length = yl := by rw [hpc, ← hyl]
                        have hpcy : pc.length ≤ yl := by omega
                        rw [← hpc] at hcr
                        have HBp := Lib.hid (show Bs w3 y.A pc from by rw [hpc]; exact HBy.out)
                        have HZ3 := Lib.hid (And.intro hbl (And.intro hwl (And.intro hs3 (And.intro hcr (And.intro hbnd (And.intro hyl (And.intro hpcl hpcy)))))))
                        have HO := Lib.hid hs3.ob
                        have Hy := Lib.hid (List.mem_of_getElem? hy)
                        have Hpc := Lib.hid hpc
                        have HOw := Lib.hid (OwnB.bs hs3.ow)
                        have Hwl := Lib.hid hwl
                        have hq1 : bc.length + wt.length ≤ 140737488355328 := by omega
                        have hq2 : bc.length + wt.length + pc.length ≤ 140737488355328 := by omega
                        clear hbl hwl hsd hcr hbnd hyl hy hBd hkb hg b3 hs3 hB3 hg3 HC HZ2 hpc hpcy HBy
                        go_upto_region 23 with (at_builtin; go_must (refine appAllL _ rfl (.tmp 99) (.tmp 100) rfl 0 (.slice A bl c) bc rfl HO.out WA wc wt (by rw [← Hwl.out]; rfl) HOw.out hq1 (Nat.zero_le _) ?_); intro A5 c5 w5 hown5 hg5 hl5)
                        obtain ⟨hbl, hwl, hs3, hcr, hbnd, hyl, hpcl2, hpcy⟩ := HZ3.out
                        obtain ⟨b5l, hb5l⟩ : ∃ m, m = bc.length + wt.length := ⟨_, rfl⟩
                        rw [← hb5l] at hown5 hl5 ⊢
                        have hs5 := hs3.growB hown5 hg5 hl5
                        obtain ⟨bw, hbw⟩ : ∃ l, l = bc ++ wt := ⟨_, rfl⟩
                        rw [← hbw] at hown5 hs5 hcr
                        have hbwl : bw.length = b5l := by rw [hbw, List.length_append]; exact hb5l.symm
                        have HO5 := Lib.hid hs5.ob
                        have HBp5 := Lib.hid (show Bs w5 y.A pc from by rw [Hpc.out]; exact OwnB.bs (hs5.oP Hy.out))
                        have HZ5 := Lib.hid (And.intro hs5 (And.intro hcr (And.intro hbnd (And.intro hpcl2 (And.intro hpcy (And.intro hbwl (And.intro hb5l hyl)))))))
                        have Hpl := Lib.hid hpcl2
                        have hq3 : bw.length + pc.length ≤ 140737488355328 := by omega
                        clear hbl hwl hs3 hcr hbnd hyl hpcl2 hpcy hown5 hg5 hl5 hs5 hb5l hbw HZ3 HO HOw Hwl hq1 hq2 HBp Cg Cq
                        go_upto_region 24 with (at_builtin; go_must (refine appAllL _ rfl (.tmp 102) (.tmp 103) rfl 0 (.slice A5 b5l c5) bw rfl HO5.out y.A y.c pc (by rw [Hpl.out]; rfl) HBp5.out hq3 (Nat.zero_le _) ?_); intro A7 c7 w7 hown7 hg7 hl7)
                        obtain ⟨hs5, hcr, hbnd, hpcl2, hpcy, hbwl2, hb5l, hyl⟩ := HZ5.out
                        obtain ⟨b7l, hb7l⟩ : ∃ m, m = b5l + yl := ⟨_, rfl⟩
                        have h7e : bw.length + pc.length = b7l := by rw [hbwl2, hpcl2, hb7l]
                        rw [h7e] at hown7 hl7
                        try rw [hbwl2, hpcl2, ← hb7l]
                        try rw [← hb7l]
                        have hs7 := (hs5.growB hown7 hg7 hl7).noW
                        have HN := Lib.hid (show ∃ bc wt, b7l = bc.length ∧ 0 = wt.length ∧ Cs B w0 w7 q room ts2 (.slice (some ⟨g, 0, none⟩) mF cF) (.slice (some ⟨pq, fq, none⟩) k cP) (.slice A7 b7l c7) (.slice none 0 0) bc wt LF' (LF'.eraseIdx kf) LP d.st lv d.dd ∧ crashF (kpt kp) lk (tn : Int) x.nm (d.P.drop (i + 1)) (i + 1) bc wt = res ∧ bc.length + wt.length + (pcs (d.P.drop (i + 1)) x.nm).length ≤ 200000 from ⟨bw ++ pc, [], by rw [List.length_append]; exact h7e.symm, rfl, hs7, hcr, by rw [List.length_append, List.length_nil]; omega⟩)
                        clear hs5 hcr hbnd hpcl2 hpcy hbwl2 hb5l hyl hb7l h7e hown7 hg7 hl7 hs7 HZ5 HO5 HBp5 Hpl hq3 hbwl hpcl
                        go_wp2_with fail
                        go_roundw
                        case measure => simp [intOf]; omega
                        case rel => exact ⟨i + 1, b7l, 0, A7, none, c7, 0, by omega, rfl, rfl, by go_num, HN⟩
                    · have f2 : decide ((0 : Int) ≤ torn) = false := decide_eq_false ht0
                      rw [if_neg (fun e : (i : Int) = lk ∧ 0 ≤ torn ∧ torn < y.b.length => ht0 e.2.1)] at hcr
                      obtain ⟨pc, hpc⟩ : ∃ pc, pc = y.b := ⟨_, rfl⟩
                      have hpcl : pc.length = yl := by rw [hpc, ← hyl]
                      have hpcy : pc.length ≤ yl := by omega
                      rw [← hpc] at hcr
                      have HBp := Lib.hid (show Bs w3 y.A pc from by rw [hpc]; exact HBy.out)
                      have HZ3 := Lib.hid (And.intro hbl (And.intro hwl (And.intro hs3 (And.intro hcr (And.intro hbnd (And.intro hyl (And.intro hpcl hpcy)))))))
                      have HO := Lib.hid hs3.ob
                      have Hy := Lib.hid (List.mem_of_getElem? hy)
                      have Hpc := Lib.hid hpc
                      have HOw := Lib.hid (OwnB.bs hs3.ow)
                      have Hwl := Lib.hid hwl
                      have hq1 : bc.length + wt.length ≤ 140737488355328 := by omega
                      have hq2 : bc.length + wt.length + pc.length ≤ 140737488355328 := by omega
                      clear hbl hwl hsd hcr hbnd hyl hy hBd hkb hg b3 hs3 hB3 hg3 HC HZ2 hpc hpcy HBy
                      go_upto_region 23 with (at_builtin; go_must (refine appAllL _ rfl (.tmp 99) (.tmp 100) rfl 0 (.slice A bl c) bc rfl HO.out WA wc wt (by rw [← Hwl.out]; rfl) HOw.out hq1 (Nat.zero_le _) ?_); intro A5 c5 w5 hown5 hg5 hl5)
                      obtain ⟨hbl, hwl, hs3, hcr, hbnd, hyl, hpcl2, hpcy⟩ := HZ3.out
                      obtain ⟨b5l, hb5l⟩ : ∃ m, m = bc.length + wt.length := ⟨_, rfl⟩
                      rw [← hb5l] at hown5 hl5 ⊢
                      have hs5 := hs3.growB hown5 hg5 hl5
                      obtain ⟨bw, hbw⟩ : ∃ l, l = bc ++ wt := ⟨_, rfl⟩
                      rw [← hbw] at hown5 hs5 hcr
                      have hbwl : bw.length = b5l := by rw [hbw, List.length_append]; exact hb5l.symm
                      have HO5 := Lib.hid hs5.ob
                      have HBp5 := Lib.hid (show Bs w5 y.A pc from by rw [Hpc.out]; exact OwnB.bs (hs5.oP Hy.out))
                      have HZ5 := Lib.hid (And.intro hs5 (And.intro hcr (And.intro hbnd (And.intro hpcl2 (And.intro hpcy (And.intro hbwl (And.intro hb5l hyl)))))))
                      have Hpl := Lib.hid hpcl2
                      have hq3 : bw.length + pc.length ≤ 140737488355328 := by omega
                      clear hbl hwl hs3 hcr hbnd hyl hpcl2 hpcy hown5 hg5 hl5 hs5 hb5l hbw HZ3 HO HOw Hwl hq1 hq2 HBp Cg Cq
                      go_upto_region 24 with (at_builtin; go_must (refine appAllL _ rfl (.tmp 102) (.tmp 103) rfl 0 (.slice A5 b5l c5) bw rfl HO5.out y.A y.c pc (by rw [Hpl.out]; rfl) HBp5.out hq3 (Nat.zero_le _) ?_); intro A7 c7 w7 hown7 hg7 hl7)
                      obtain ⟨hs5, hcr, hbnd, hpcl2, hpcy, hbwl2, hb5l, hyl⟩ := HZ5.out
                      obtain ⟨b7l, hb7l⟩ : ∃ m, m = b5l + yl := ⟨_, rfl⟩
                      have h7e : bw.length + pc.length = b7l := by rw [hbwl2, hpcl2, hb7l]
                      rw [h7e] at hown7 hl7
                      try rw [hbwl2, hpcl2, ← hb7l]
                      try rw [← hb7l]
                      have hs7 := (hs5.growB hown7 hg7 hl7).noW
                      have HN := Lib.hid (show ∃ bc wt, b7l = bc.length ∧ 0 = wt.length ∧ Cs B w0 w7 q room ts2 (.slice (some ⟨g, 0, none⟩) mF cF) (.slice (some ⟨pq, fq, none⟩) k cP) (.slice A7 b7l c7) (.slice none 0 0) bc wt LF' (LF'.eraseIdx kf) LP d.st lv d.dd ∧ crashF (kpt kp) lk torn x.nm (d.P.drop (i + 1)) (i + 1) bc wt = res ∧ bc.length + wt.length + (pcs (d.P.drop (i + 1)) x.nm).length ≤ 200000 from ⟨bw ++ pc, [], by rw [List.length_append]; exact h7e.symm, rfl, hs7, hcr, by rw [List.length_append, List.length_nil]; omega⟩)
                      clear hs5 hcr hbnd hpcl2 hpcy hbwl2 hb5l hyl hb7l h7e hown7 hg7 hl7 hs7 HZ5 HO5 HBp5 Hpl hq3 hbwl hpcl
                      go_wp2_with fail
                      go_roundw
                      case measure => simp [intOf]; omega
                      case rel => exact ⟨i + 1, b7l, 0, A7, none, c7, 0, by omega, rfl, rfl, by go_num, HN⟩
                  · have f1 : ((i : Int) == lk) = false := beq_eq_false_iff_ne.2 hlk
                    rw [if_neg (fun e : (i : Int) = lk ∧ 0 ≤ torn ∧ torn < y.b.length => hlk e.1)] at hcr
                    obtain ⟨pc, hpc⟩ : ∃ pc, pc = y.b := ⟨_, rfl⟩
                    have hpcl : pc.length = yl := by rw [hpc, ← hyl]
                    have hpcy : pc.length ≤ yl := by omega
                    rw [← hpc] at hcr
                    have HBp := Lib.hid (show Bs w3 y.A pc from by rw [hpc]; exact HBy.out)
                    have HZ3 := Lib.hid (And.intro hbl (And.intro hwl (And.intro hs3 (And.intro hcr (And.intro hbnd (And.intro hyl (And.intro hpcl hpcy)))))))
                    have HO := Lib.hid hs3.ob
                    have Hy := Lib.hid (List.mem_of_getElem? hy)
                    have Hpc := Lib.hid hpc
                    have HOw := Lib.hid (OwnB.bs hs3.ow)
                    have Hwl := Lib.hid hwl
                    have hq1 : bc.length + wt.length ≤ 140737488355328 := by omega
                    have hq2 : bc.length + wt.length + pc.length ≤ 140737488355328 := by omega
                    clear hbl hwl hsd hcr hbnd hyl hy hBd hkb hg b3 hs3 hB3 hg3 HC HZ2 hpc hpcy HBy
                    go_upto_region 23 with (at_builtin; go_must (refine appAllL _ rfl (.tmp 99) (.tmp 100) rfl 0 (.slice A bl c) bc rfl HO.out WA wc wt (by rw [← Hwl.out]; rfl) HOw.out hq1 (Nat.zero_le _) ?_); intro A5 c5 w5 hown5 hg5 hl5)
                    obtain ⟨hbl, hwl, hs3, hcr, hbnd, hyl, hpcl2, hpcy⟩ := HZ3.out
                    obtain ⟨b5l, hb5l⟩ : ∃ m, m = bc.length + wt.length := ⟨_, rfl⟩
                    rw [← hb5l] at hown5 hl5 ⊢
                    have hs5 := hs3.growB hown5 hg5 hl5
                    obtain ⟨bw, hbw⟩ : ∃ l, l = bc ++ wt := ⟨_, rfl⟩
                    rw [← hbw] at hown5 hs5 hcr
                    have hbwl : bw.length = b5l := by rw [hbw, List.length_append]; exact hb5l.symm
                    have HO5 := Lib.hid hs5.ob
                    have HBp5 := Lib.hid (show Bs w5 y.A pc from by rw [Hpc.out]; exact OwnB.bs (hs5.oP Hy.out))
                    have HZ5 := Lib.hid (And.intro hs5 (And.intro hcr (And.intro hbnd (And.intro hpcl2 (And.intro hpcy (And.intro hbwl (And.intro hb5l hyl)))))))
                    have Hpl := Lib.hid hpcl2
                    have hq3 : bw.length + pc.length ≤ 140737488355328 := by omega
                    clear hbl hwl hs3 hcr hbnd hyl hpcl2 hpcy hown5 hg5 hl5 hs5 hb5l hbw HZ3 HO HOw Hwl hq1 hq2 HBp Cg Cq
                    go_upto_region 24 with (at_builtin; go_must (refine appAllL _ rfl (.tmp 102) (.tmp 103) rfl 0 (.slice A5 b5l c5) bw rfl HO5.out y.A y.c pc (by rw [Hpl.out]; rfl) HBp5.out hq3 (Nat.zero_le _) ?_); intro A7 c7 w7 hown7 hg7 hl7)
                    obtain ⟨hs5, hcr, hbnd, hpcl2, hpcy, hbwl2, hb5l, hyl⟩ := HZ5.out
                    obtain ⟨b7l, hb7l⟩ : ∃ m, m = b5l + yl := ⟨_, rfl⟩
                    have h7e : bw.length + pc.length = b7l := by rw [hbwl2, hpcl2, hb7l]
                    rw [h7e] at hown7 hl7
                    try rw [hbwl2, hpcl2, ← hb7l]
                    try rw [← hb7l]
                    have hs7 := (hs5.growB hown7 hg7 hl7).noW
                    have HN := Lib.hid (show ∃ bc wt, b7l = bc.length ∧ 0 = wt.length ∧ Cs B w0 w7 q room ts2 (.slice (some ⟨g, 0, none⟩) mF cF) (.slice (some ⟨pq, fq, none⟩) k cP) (.slice A7 b7l c7) (.slice none 0 0) bc wt LF' (LF'.eraseIdx kf) LP d.st lv d.dd ∧ crashF (kpt kp) lk torn x.nm (d.P.drop (i + 1)) (i + 1) bc wt = res ∧ bc.length + wt.length + (pcs (d.P.drop (i + 1)) x.nm).length ≤ 200000 from ⟨bw ++ pc, [], by rw [List.length_append]; exact h7e.symm, rfl, hs7, hcr, by rw [List.length_append, List.length_nil]; omega⟩)
                    clear hs5 hcr hbnd hpcl2 hpcy hbwl2 hb5l hyl hb7l h7e hown7 hg7 hl7 hs7 HZ5 HO5 HBp5 Hpl hq3 hbwl hpcl
                    go_wp2_with fail
                    go_roundw
                    case measure => simp [intOf]; omega
                    case rel => exact ⟨i + 1, b7l, 0, A7, none, c7, 0, by omega, rfl, rfl, by go_num, HN⟩
              · have e1 : (y.nm == x.nm) = false := beq_eq_false_iff_ne.2 hyn
                have e1' : (y.nm != x.nm) = true := by unfold bne; rw [e1]; rfl
                go_wp2_with fail
                go_quiet (fail)
                clear cF0 Cq C1
                obtain ⟨wd, hwd⟩ : ∃ wd, wd = W1.drewN nq := ⟨_, rfl⟩
                have hbd : Below W1.heap.size W1 wd := by rw [hwd]; exact below_drewN (Below.refl _ _) _
                rw [← hwd]
                obtain ⟨hbl, hwl, hs1, hcr, hbnd, hdr, hyl, hy, hBq⟩ := HZ.out
                rw [hdr] at hcr hbnd
                rw [pcs_cons_ne hyn] at hbnd
                rw [crashF, if_neg (by simpa using hyn)] at hcr
                have HN := Lib.hid (show ∃ bc wt, bl = bc.length ∧ wl = wt.length ∧ Cs B w0 wd q room ts2 (.slice (some ⟨g, 0, none⟩) mF cF) (.slice (some ⟨pq, fq, none⟩) k cP) (.slice A bl c) (.slice WA wl wc) bc wt LF' (LF'.eraseIdx kf) LP d.st lv d.dd ∧ crashF (kpt kp) lk torn x.nm (d.P.drop (i + 1)) (i + 1) bc wt = res ∧ bc.length + wt.length + (pcs (d.P.drop (i + 1)) x.nm).length ≤ 200000 from ⟨bc, wt, hbl, hwl, hs1.go hbd, hcr, hbnd⟩)
                clear hwd hbd hbl hwl hs1 hcr hbnd hdr hyl hy hBq HZ hyn e1 e1'
                go_wp2_with fail
                go_roundw
                case measure => simp [intOf]; omega
                case rel => exact ⟨i + 1, bl, wl, A, WA, c, wc, by omega, rfl, rfl, by go_num, HN⟩
            · obtain rfl : i = k := by omega
              have hii : ¬ ((i : Int) < (i : Int)) := by omega
              have hdr : d.P.drop i = [] := List.drop_eq_nil_of_le (by rw [← nb_len HX.out.2.1, ← HX.out.2.2.2.2.2.2.1]; exact Nat.le_refl _)
              rw [hdr] at hcr
              have hcr : bc = res := hcr
              have hrr := hs.rF
              obtain ⟨A', c', hv, -, hrF⟩ := OwnR.row Tryz.eltE2 hrr
              injection hv with e1 e2 e3
              subst e1
              have hmF' : mF = LF'.length := e2
              clear e2 e3
              rw [hmF'] at hrr
              have fz := World.ownsRow.frozenAt hrr (kf * 2 + 1)
              obtain ⟨pF, fF, hpF, hcF⟩ := hrF kf x HY.out.1
              injection hpF with hpF
              injection hpF with e1 e2 _
              subst e1 e2
              have cF1 := hcF 1 _ rfl
              simp only [Nat.zero_add] at cF1
              have HZ := Lib.hid (And.intro hbl (And.intro hs hcr))
              clear hrr hrF hcF hmF' hbl hwl hs hcr hbnd hdr HR
              go_upto_region 9 with fail
              generalize hW : World.setCell _ _ _ = W5
              clear C fz cF1
              obtain ⟨hbl, hs, hcr⟩ := HZ.out
              have hs5 := Cs.back (w' := W5) (y := ⟨x.nm, bc, A, c⟩) (by
                show Cs _ _ _ _ _ _ _ _ (.slice A bc.length c) _ _ _ _ _ _ _ _ _
                rw [← hbl]
                exact hs) HY.out.1 rfl (by
                rw [show vaE ⟨x.nm, bc, A, c⟩ = .slice A bl c from by unfold vaE; rw [hbl]]
                exact hW)
              have hmN : (LF'.set kf ⟨x.nm, bc, A, c⟩).map nbE = FN.take (kf + 1) ++ d.F.drop (kf + 1) := by
                have hFk := HY.out.2.2.1
                have hkl := (List.getElem?_eq_some_iff.1 hFk).1
                have hFNk : FN[kf]? = some (x.nm, bc) := by
                  rw [HF.out.1, List.getElem?_map, hFk, hcr, HY.out.2.2.2.2.1]
                  rfl
                have hFNl : (FN.take kf).length = kf := by rw [HF.out.1, List.length_take, List.length_map]; omega
                have hdk : d.F.drop kf = (x.nm, x.b) :: d.F.drop (kf + 1) := pcs_drop_at hFk
                rw [List.map_set, HY.out.2.1, List.take_add_one, hFNk, hdk, List.set_append_right _ _ (by omega), hFNl, Nat.sub_self, List.set_cons_zero, List.append_assoc]
                rfl
              have HN := Lib.hid (show ∃ LF', RfS B w0 W5 q room ts2 (.slice (some ⟨g, 0, none⟩) mF cF) (.slice AP i cP) LF' LP d.st lv d.dd ∧ LF'.map nbE = FN.take (kf + 1) ++ d.F.drop (kf + 1) from ⟨_, hs5, hmN⟩)
              clear hbl hs hcr hs5 hmN hW HZ
              go_wp2_with fail
              go_roundw
              case measure => simp [intOf]; omega
              case rel => exact ⟨kf + 1, by omega, by go_num, HN⟩
        · obtain rfl : kf = mF := by omega
          have hkk2 : ¬ ((kf : Int) < (kf : Int)) := by omega
          have hFl : d.F.length = kf := by rw [← nb_len HX.out.1, ← HX.out.2.2.2.2.2.2.2.1]
          rw [List.take_of_length_le (by rw [HF.out.1, List.length_map, hFl]; exact Nat.le_refl _), List.drop_eq_nil_of_le (by omega), List.append_nil] at hm'
          have HZ := Lib.hid (And.intro hs hm')
          clear hs hm' hFl HR hLl
          go_wp2_with fail
          generalize hW : World.setCell _ _ _ = W9
          go_end0
          clear C
          obtain ⟨hs, hm'⟩ := HZ.out
          have S1 := Sep.put hs 0 q [(2, .slice none 0 0), (3, .bool false), (5, .bool false)] (rfc room (.slice AF kf cF) (.slice none 0 0) false lv false) hW
          have S2 := Sep.call S1 (t := thRP (.slice AP k cP) LP) (t' := thRP (.slice none 0 0) []) 2 rfl (Tou.refl _ _) (OwnR.nil _ _ _ _ _) (fun k e => by
            have e : (Value.slice none 0 0).ownBlock = some k := e
            simp [Value.ownBlock] at e)
          have S3 : RfS B w0 W9 q room ts (.slice AF kf cF) (.slice none 0 0) LF' [] false lv false := by
            refine Sep.sub S2 ((((List.Sublist.append_left ?_ _).cons_cons _).cons_cons _).cons_cons _)
            rw [HX.out.2.2.2.2.2.2.2.2]
            exact (List.sublist_cons_self _ _).trans (List.sublist_append_right _ _)
          refine ⟨rfl, _, _, LF', [], lv, S3, ?_, rfl, fun e => by cases e⟩
          rw [hm', HF.out.1, HF.out.2]
          rfl

end Go.Proofs.YtiogckgchlnldaaGreat

/- Layer 8: both file systems at once: what a call on either does. -/
set_option linter.unusedSimpArgs false
set_option linter.unusedVariables false
namespace Go.Proofs.YtiogckgchlnldaaGreat
open Go.RowKit
set_option maxRecDepth 100000

/-- the document's things -/
def Ys (q room : Nat) (VF VP : Value) (LF LP : List Fe) (st : Bool) (lv : Nat) (dd : Bool) : List Kt := thB q 59 (rfc room VF VP st lv dd) :: thRF VF LF :: thRP VP LP :: (LF.map thb ++ LP.map thb)
section
variable {B qs qr room : Nat} {w0 w w' : World} {ts us : List Kt} {t t' : Kt} {da db da' db' : Fd} {VF VP : Value} {LF LP : List Fe} {st dd : Bool} {lv : Nat}
theorem ys_of (h : RfS B w0 w qr room ts VF VP LF LP st lv dd) : Sep B w0 w (Ys qr room VF VP LF LP st lv dd ++ ts) := by
  unfold RfS at h
  unfold Ys
  rw [List.cons_append, List.cons_append, List.cons_append, List.append_assoc]
  exact h
theorem ys_to (h : Sep B w0 w (Ys qr room VF VP LF LP st lv dd ++ ts)) : RfS B w0 w qr room ts VF VP LF LP st lv dd := by
  unfold Ys at h
  rw [List.cons_append, List.cons_append, List.cons_append, List.append_assoc] at h
  exact h
/-- the program's file system with data da, the document's with db, and other things -/
def Bd (B : Nat) (w0 w : World) (qs qr room : Nat) (ts : List Kt) (da db : Fd) : Prop :=
  ∃ VF VP LF LP lv, FsI B w0 w qs room (Ys qr room VF VP LF LP db.st lv db.dd ++ ts) da ∧ LF.map nbE = db.F ∧ LP.map nbE = db.P ∧ (db.st = true → lv = db.lf)
theorem Bd.go (h : Bd B w0 w qs qr room ts da db) (b : Below w.heap.size w w') : Bd B w0 w' qs qr room ts da db := by
  obtain ⟨VF, VP, LF, LP, lv, hs, h1⟩ := h
  exact ⟨VF, VP, LF, LP, lv, hs.go b, h1⟩
theorem Bd.drew (h : Bd B w0 w qs qr room ts da db) : Bd B w0 w.drew qs qr room ts da db := h.go (Below.refl w.heap.size w).drew
theorem Bd.b (h : Bd B w0 w qs qr room ts da db) : Below B w0 w := by
  obtain ⟨VF, VP, LF, LP, lv, hs, h1⟩ := h
  exact hs.b
theorem Bd.bs (h : Bd B w0 w qs qr room ts da db) (hB : w0.heap.size ≤ B) {A : Option Addr} {l : List UInt8} (b : Bs w0 A l) : Bs w A l := by
  obtain ⟨VF, VP, LF, LP, lv, hs, h1⟩ := h
  exact hs.bs hB b
theorem Bd.old (h : Bd B w0 w qs qr room ts da db) (hB : w0.heap.size ≤ B) {a : Addr} {v : Value} (c : w0.cell? a = some v) : w.cell? a = some v := by
  obtain ⟨VF, VP, LF, LP, lv, hs, h1⟩ := h
  exact hs.old hB c
theorem Bd.prog (h : Bd B w0 w qs qr room ts da db) : ∃ us, FsI B w0 w qs room us da := by
  obtain ⟨VF, VP, LF, LP, lv, hs, h1⟩ := h
  exact ⟨_, hs⟩
theorem Bd.dbs (h : Bd B w0 w qs qr room ts da db) : Db da := by
  obtain ⟨us, h⟩ := h.prog
  obtain ⟨T, hT⟩ := h.fi
  exact hT.db
theorem Bd.ref (h : Bd B w0 w qs qr room ts da db) : ∃ us, RfI B w0 w qr room us db := by
  obtain ⟨VF, VP, LF, LP, lv, ⟨bm, VW, T, hs, hi⟩, h1⟩ := h
  have hs : Sep B w0 w (Xs qs room bm VW T da ++ (Ys qr room VF VP LF LP db.st lv db.dd ++ ts)) := hs
  exact ⟨_, VF, VP, LF, LP, lv, ys_to (hs.perm (List.perm_append_comm_assoc _ _ _)), h1⟩
theorem Bd.get (h : Bd B w0 w qs qr room ts da db) (i : Nat) (e : ts[i]? = some t) : t.P w := by
  obtain ⟨VF, VP, LF, LP, lv, hs, h1⟩ := h
  refine hs.get (i + (Ys qr room VF VP LF LP db.st lv db.dd).length) ?_
  rw [List.getElem?_append_right (by omega), Nat.add_sub_cancel]
  exact e
theorem Bd.blk (h : Bd B w0 w qs qr room ts da db) (i : Nat) {g : Nat} {t : TypeId} {cs : Array Value} (e : ts[i]? = some (thB g t cs) := by rfl) : Blk w g t cs := h.get i e
theorem Bd.cons (h : Bd B w0 w qs qr room ts da db) (b : Below w.heap.size w w') (hP : t.P w') (hF : ∀ k, t.F k → w.heap.size ≤ k) : Bd B w0 w' qs qr room (t :: ts) da db := by
  obtain ⟨VF, VP, LF, LP, lv, hs, h1⟩ := h
  exact ⟨VF, VP, LF, LP, lv, (hs.cons b hP hF).perm List.perm_middle.symm, h1⟩
theorem Bd.box (h : Bd B w0 w qs qr room ts da db) (cs : Array Value) (t : TypeId) : Bd B w0 (w.alloc (.cells cs t)) qs qr room (thB w.heap.size t cs :: ts) da db :=
  h.cons (below_alloc w _) (Blk.new w t cs) (fun k e => by subst e; exact Nat.le_refl _)
theorem Bd.tail (h : Bd B w0 w qs qr room (t :: ts) da db) : Bd B w0 w qs qr room ts da db := by
  obtain ⟨VF, VP, LF, LP, lv, hs, h1⟩ := h
  exact ⟨VF, VP, LF, LP, lv, hs.sub ((List.sublist_cons_self t ts).append_left _), h1⟩
/-- one of the other things turns -/
theorem Bd.turn (h : Bd B w0 w qs qr room ts da db) (i : Nat) (e : ts[i]? = some t) (hT : Tou t.F w w') (hP : t'.P w') (hN : ∀ k, t'.F k → t.F k ∨ w.heap.size ≤ k) : Bd B w0 w' qs qr room (ts.set i t') da db := by
  obtain ⟨VF, VP, LF, LP, lv, hs, h1⟩ := h
  refine ⟨VF, VP, LF, LP, lv, ?_, h1⟩
  have h2 := hs.turn (i + (Ys qr room VF VP LF LP db.st lv db.dd).length) (t := t) (by
    rw [List.getElem?_append_right (by omega), Nat.add_sub_cancel]; exact e) hT hP hN
  rw [List.set_append_right _ _ (by omega), Nat.add_sub_cancel] at h2
  exact h2
theorem FsI.mem {q : Nat} {d : Fd} (h : FsI B w0 w q room ts d) (e : t ∈ ts) : t.P w := by
  obtain ⟨i, hi, e⟩ := List.mem_iff_getElem.1 e
  exact h.get i (by rw [List.getElem?_eq_getElem hi, e])
/-- a call on the program's -/
theorem Bd.lift {P : Program} {f : FuncId} {args : Array Value} {E : Ending → World → Prop} (h : Bd B w0 w qs qr room ts da db) (C : ∀ us, (∀ t ∈ ts, t ∈ us) → FsI B w0 w qs room us da → Calls P f args w fun e w' => E e w' ∧ FsI B w0 w' qs room us da') : Calls P f args w fun e w' => E e w' ∧ Bd B w0 w' qs qr room ts da' db := by
  obtain ⟨VF, VP, LF, LP, lv, hs, h1⟩ := h
  exact (C _ (fun t ht => List.mem_append_right _ ht) hs).mono fun e w' ⟨h2, h3⟩ => ⟨h2, VF, VP, LF, LP, lv, h3, h1⟩
/-- a call on the document's -/
theorem Bd.lift2 {P : Program} {f : FuncId} {args : Array Value} {E : Ending → World → Prop} (h : Bd B w0 w qs qr room ts da db) (C : ∀ us, (∀ t ∈ ts, t ∈ us) → RfI B w0 w qr room us db → Calls P f args w fun e w' => E e w' ∧ RfI B w0 w' qr room us db') : Calls P f args w fun e w' => E e w' ∧ Bd B w0 w' qs qr room ts da db' := by
  obtain ⟨VF, VP, LF, LP, lv, ⟨bm, VW, T, hs, hi⟩, h1⟩ := h
  have hs : Sep B w0 w (Xs qs room bm VW T da ++ (Ys qr room VF VP LF LP db.st lv db.dd ++ ts)) := hs
  refine (C _ (fun t ht => List.mem_append_right _ ht) ⟨VF, VP, LF, LP, lv, ys_to (hs.perm (List.perm_append_comm_assoc _ _ _)), h1⟩).mono ?_
  rintro e w' ⟨h4, VF', VP', LF', LP', lv', hs', h1'⟩
  exact ⟨h4, VF', VP', LF', LP', lv', ⟨bm, VW, T, (ys_of hs').perm (List.perm_append_comm_assoc _ _ _), hi⟩, h1'⟩
end
def pickR {α : Type} (o : Option Value) (x y : α) : α := match o with
  | none => x
  | some _ => y
theorem create_c (d : Fd) (n : Nm) : (createD d n).1 ≤ 1000 := by unfold createD; (repeat' split) <;> simp
theorem sync_c (d : Fd) (n : Nm) : (syncD d n).1 ≤ 1000 := by unfold syncD; (repeat' split) <;> simp
theorem cut_c (d : Fd) (n : Nm) (k : Int) : (cutD d n k).1 ≤ 1000 := by unfold cutD; (repeat' split) <;> simp
theorem rename_c (d : Fd) (n m : Nm) : (renameD d n m).1 ≤ 1000 := by unfold renameD; (repeat' split) <;> simp
theorem remove_c (d : Fd) (n : Nm) : (removeD d n).1 ≤ 1000 := by unfold removeD; (repeat' split) <;> simp
theorem append_c (room : Int) (d : Fd) (n : Nm) (b : List UInt8) : (appendD room d n b).1 ≤ 1000 := by unfold appendD; (repeat' split) <;> simp
theorem wrap_c {c : Nat} (h : c ≤ 1000) : IntKind.i64.wrap (c : Int) = (c : Int) := by
  rw [IntKind.wrap_i64]; omega

end Go.Proofs.YtiogckgchlnldaaGreat

/- Layer 8: Same. -/
set_option linter.unusedSimpArgs false
set_option linter.unusedVariables false
namespace Go.Proofs.YtiogckgchlnldaaGreat
open Go.RowKit
set_option maxRecDepth 100000

/-- a slice of files that a call answered -/
def Ef (E : Option Value) (n : Nat) (M : List (Nm × List UInt8)) (W : World) : Prop := ∀ v, E = some v → ∃ R c L, v = .slice R n c ∧ L.length = n ∧ Es W R L ∧ L.map nbE = M
theorem Ef.below {E : Option Value} {n : Nat} {M : List (Nm × List UInt8)} {W W' : World} (h : Ef E n M W) (b : Below W.heap.size W W') : Ef E n M W' := fun v hv => by
  obtain ⟨R, c, L, h1, h2, h3, h4⟩ := h v hv
  exact ⟨R, c, L, h1, h2, h3.below b, h4⟩
theorem Ef.none_ {n : Nat} {M : List (Nm × List UInt8)} {W : World} : Ef none n M W := fun v hv => by cases hv

set_option maxHeartbeats 8000000 in
theorem fsame_any {B qs qr room : Nat} {w0 w : World} {ts : List Kt} {d : Fd} (h : Bd B w0 w qs qr room ts d d) :
    Calls Tryz.prog 14 #[.pointer (some ⟨qs, 0, none⟩), .pointer (some ⟨qr, 0, none⟩)] w fun e w' => e = .returned (.int .i64 1) ∧ Below w.heap.size w w' := by
  have hmx : Tryz.prog.follows .mixedOrders = true := by kernel_rfl
  have hd := h.dbs
  obtain ⟨us, hu⟩ := h.prog
  obtain ⟨us2, hu2⟩ := h.ref
  clear h
  obtain ⟨VF, VP, LF, LP, lv, hs, h1, h2, h3⟩ := id hu2
  obtain ⟨AP, cP, hVP, -, -⟩ := OwnR.row Tryz.eltP2 hs.rP
  subst hVP
  obtain ⟨pl, hpl⟩ : ∃ m, m = d.P.length := ⟨_, rfl⟩
  have hBx := hs.bx
  rw [nb_len h2, ← hpl] at hBx
  obtain ⟨n, hn⟩ : ∃ m, m = d.F.length := ⟨_, rfl⟩
  have hn8 : n ≤ 8 := by rw [hn]; exact hd.fl
  obtain ⟨un, hun⟩ : ∃ m, m = usedD d := ⟨_, rfl⟩
  obtain ⟨dd, hdd⟩ : ∃ m, m = d.dd := ⟨_, rfl⟩
  rw [← hdd] at hBx
  have hLen : ∀ L : List Fe, L.map nbE = nbD d → L.length = n := fun L hL => by rw [hn]; exact fs_len hL
  have H1 := Lib.hid (fun W (b : Below w.heap.size w W) => lfiles_any (hu.go b))
  have H3 := Lib.hid (fun W (b : Below w.heap.size w W) => rfiles_any (hu2.go b) hd)
  have H7 := Lib.hid (fun W (b : Below w.heap.size w W) => used_any (hu.go b))
  have H9 := Lib.hid (fun W (b : Below w.heap.size w W) => rused_any (hu2.go b) hd)
  have H14 := Lib.hid (fun W (b : Below w.heap.size w W) => waits_any (hu.go b))
  have H24 := Lib.hid (fun W (b : Below w.heap.size w W) => halted_any (hu.go b))
  rw [← hn] at H1 H3
  rw [← hun] at H7 H9
  rw [← hpl] at H14
  rw [← hdd] at H24
  obtain ⟨M, hM⟩ : ∃ M, M = nbD d := ⟨_, rfl⟩
  rw [← hM] at H1 H3 hLen
  have HLen := Lib.hid hLen
  have HBx := Lib.hid hBx
  clear hd hu hu2 hs h1 h2 h3 hpl hBx hn hun hdd hLen hM
  go_enter Tryz.func14, Tryz.ntmps14
  go_upto_region 1 with fail
  obtain ⟨I, hI⟩ : ∃ I : Rec → World → Prop, ∀ E W, I E W ↔ (Below w.heap.size w W ∧ Ef (E 1) n M W ∧ Ef (E 3) n M W) := ⟨_, fun _ _ => Iff.rfl⟩
  have hI0 : I (fun _ => none) w.drew := (hI _ _).2 ⟨(Below.refl w.heap.size w).drew, Ef.none_, Ef.none_⟩
  haveI : Nonempty (InvW I) := ⟨⟨_, _, hI0⟩⟩
  have e2 : ∀ x : InvW I, x.W.cell? ⟨qr, 2, none⟩ = some (.slice AP pl cP) := fun x => (((hI _ _).1 x.h).1.cell (cell_lt (HBx.out.cell 2))).trans (HBx.out.cell 2)
  have e5 : ∀ x : InvW I, x.W.cell? ⟨qr, 5, none⟩ = some (.bool dd) := fun x => (((hI _ _).1 x.h).1.cell (cell_lt (HBx.out.cell 5))).trans (HBx.out.cell 5)
  have HI := Lib.hid hI
  clear hI
  refine wp_region_inv I [[], [], [], [], [1, 3]] [1, 3, 4, 7, 9, 14, 16, 24, 26] (fun k v => if k = 1 then ∃ R c, v = .slice R n c else if k = 3 then ∃ R c, v = .slice R n c else if k = 4 then v = .bool true else if k = 7 then v = .int .i64 (un : Nat) else if k = 9 then v = .int .i64 (un : Nat) else if k = 14 then v = .int .i64 (pl : Nat) else if k = 24 then v = .bool dd else v = .pointer (some ⟨qr, 0, none⟩)) hmx (by kernel_rfl) hI0 ?_
  refine walkJ_one rfl (by kernel_rfl) ?_; go_big_quiet_step (fail); refine wpQuiet_nil ?_
  refine walkJ_turn rfl rfl ⟨.slice none n 0, none, 0, rfl⟩ (fun s W1 hs h7 _ => ?_) ?_
  · have h := (HI.out _ _).1 hs
    refine inv_call (by simp [execOp, go_sem]) ((H1.out W1 h.1).mono ?_)
    rintro e w1 ⟨R, c, L, rfl, h9⟩
    obtain ⟨g1, g2, g3, -⟩ := h9.out
    refine ⟨_, rfl, ⟨R, c, rfl⟩, (HI.out _ _).2 ⟨on1 h.1 g3, fun v hv => ?_, h.2.2.below g3⟩⟩
    injection hv with hv
    exact ⟨R, c, L, hv.symm, HLen.out L g2, es_thE g1, g2⟩
  rintro v ⟨R1, c1, rfl⟩
  conv => arg 11; simp [Act.put]
  refine walkJ_one rfl (by kernel_rfl) ?_; go_big_quiet_step (fail); refine wpQuiet_nil ?_
  refine walkJ_turn rfl rfl ⟨.slice none n 0, none, 0, rfl⟩ (fun s W1 hs h7 _ => ?_) ?_
  · have h := (HI.out _ _).1 hs
    refine inv_call (by simp [execOp, go_sem]) ((H3.out W1 h.1).mono ?_)
    rintro e w1 ⟨R, c, L, rfl, h9⟩
    obtain ⟨g1, g2, g3, -⟩ := h9.out
    refine ⟨_, rfl, ⟨R, c, rfl⟩, (HI.out _ _).2 ⟨on1 h.1 g3, h.2.1.below g3, fun v hv => ?_⟩⟩
    injection hv with hv
    exact ⟨R, c, L, hv.symm, HLen.out L g2, es_thE g1, g2⟩
  rintro v ⟨R3, c3, rfl⟩
  conv => arg 11; simp [Act.put]
  refine walkJ_turn rfl rfl ⟨_, rfl⟩ (fun s W1 hs h7 hch => ?_) ?_
  · have h := (HI.out _ _).1 hs
    obtain ⟨Ra, ca, La, hv, hl, hE, hd⟩ := h.2.1 _ (hch 1 (by decide))
    injection hv with hv1 _ hv2
    subst hv1 hv2
    obtain ⟨Rb, cb, Lb, hv, hl', hE', hd'⟩ := h.2.2 _ (hch 3 (by decide))
    injection hv with hv1 _ hv2
    subst hv1 hv2
    have hc := rsame8_any R1 R3 c1 c3 La Lb W1 hE hE' (by omega) (by omega)
    rw [hl, hl', decide_eq_true (hd.trans hd'.symm)] at hc
    refine inv_call (by simp [execOp, go_sem]) (hc.mono ?_)
    rintro e w1 ⟨rfl, h9⟩
    exact ⟨_, rfl, rfl, (HI.out _ _).2 ⟨on1 h.1 h9, h.2.1.below h9, h.2.2.below h9⟩⟩
  rintro v rfl
  conv => arg 11; simp [Act.put]
  iterate 2 (refine walkJ_one rfl (by kernel_rfl) ?_; go_big_quiet_step (fail); refine wpQuiet_nil ?_)
  refine walkJ_turn rfl rfl ⟨_, rfl⟩ (fun s W1 hs h7 _ => ?_) ?_
  · have h := (HI.out _ _).1 hs
    refine inv_call (by simp [execOp, go_sem]) ((H7.out W1 h.1).mono ?_)
    rintro e w1 ⟨rfl, h9⟩
    exact ⟨_, rfl, rfl, (HI.out _ _).2 ⟨on1 h.1 h9, h.2.1.below h9, h.2.2.below h9⟩⟩
  rintro v rfl
  conv => arg 11; simp [Act.put]
  refine walkJ_one rfl (by kernel_rfl) ?_; go_big_quiet_step (fail); refine wpQuiet_nil ?_
  refine walkJ_turn rfl rfl ⟨_, rfl⟩ (fun s W1 hs h7 _ => ?_) ?_
  · have h := (HI.out _ _).1 hs
    refine inv_call (by simp [execOp, go_sem]) ((H9.out W1 h.1).mono ?_)
    rintro e w1 ⟨rfl, h9⟩
    exact ⟨_, rfl, rfl, (HI.out _ _).2 ⟨on1 h.1 h9, h.2.1.below h9, h.2.2.below h9⟩⟩
  rintro v rfl
  conv => arg 11; simp [Act.put]
  iterate 4 (refine walkJ_one rfl (by kernel_rfl) ?_; go_big_quiet_step (fail); refine wpQuiet_nil ?_)
  refine walkJ_turn rfl rfl ⟨_, rfl⟩ (fun s W1 hs h7 _ => ?_) ?_
  · have h := (HI.out _ _).1 hs
    refine inv_call (by simp [execOp, go_sem]) ((H14.out W1 h.1).mono ?_)
    rintro e w1 ⟨rfl, rfl⟩
    exact ⟨_, rfl, rfl, (HI.out _ _).2 h⟩
  rintro v rfl
  conv => arg 11; simp [Act.put]
  refine walkJ_one rfl (by kernel_rfl) ?_; go_big_quiet_step (fail); refine wpQuiet_nil ?_
  refine walkJ_turn rfl rfl ⟨_, rfl⟩ (fun s W1 hs h7 _ => ?_) ?_
  · have h := (HI.out _ _).1 hs
    exact inv_val (W' := W1) (v := .pointer (some ⟨qr, 0, none⟩)) (by simp [execOp, go_sem]) ⟨rfl, (HI.out _ _).2 ⟨h.1, h.2.1, h.2.2⟩⟩
  rintro v rfl
  conv => arg 11; simp [Act.put]
  iterate 7 (refine walkJ_one rfl (by kernel_rfl) ?_; go_big_quiet_step (fail); refine wpQuiet_nil ?_)
  refine walkJ_turn rfl rfl ⟨_, rfl⟩ (fun s W1 hs h7 _ => ?_) ?_
  · have h := (HI.out _ _).1 hs
    refine inv_call (by simp [execOp, go_sem]) ((H24.out W1 h.1).mono ?_)
    rintro e w1 ⟨rfl, rfl⟩
    exact ⟨_, rfl, rfl, (HI.out _ _).2 h⟩
  rintro v rfl
  conv => arg 11; simp [Act.put]
  refine walkJ_one rfl (by kernel_rfl) ?_; go_big_quiet_step (fail); refine wpQuiet_nil ?_
  refine walkJ_turn rfl rfl ⟨_, rfl⟩ (fun s W1 hs h7 _ => ?_) ?_
  · have h := (HI.out _ _).1 hs
    exact inv_val (W' := W1) (v := .pointer (some ⟨qr, 0, none⟩)) (by simp [execOp, go_sem]) ⟨rfl, (HI.out _ _).2 ⟨h.1, h.2.1, h.2.2⟩⟩
  rintro v rfl
  conv => arg 11; simp [Act.put]
  iterate 5 (refine walkJ_one rfl (by kernel_rfl) ?_; go_big_quiet_step (fail); refine wpQuiet_nil ?_)
  refine walkJ_end ?_
  intro W' hW'
  have HE := Lib.hid ((HI.out _ _).1 hW').1
  clear e2 e5
  go_wp2_with fail
  go_ret
  exact ⟨rfl, HE.out⟩

end Go.Proofs.YtiogckgchlnldaaGreat
