/- Joined: Fs28, Fs34, Fs35, Fs36, Fs37, Tp1. -/
import Derived.Test.YtiogckgchlnldaaQ20
import Derived.Test.YtiogckgchlnldaaQ19
import Derived.BigQuiet
set_option linter.unusedSimpArgs false
set_option linter.unusedVariables false
/- Layer 8: the statements' Files; SameFiles. -/
set_option linter.unusedSimpArgs false
set_option linter.unusedVariables false
namespace Go.Proofs.Ytiogckgchlnldaa
open Go.RowKit
set_option maxRecDepth 100000

/-- a slice of files, to read -/
structure Es (w : World) (A : Option Addr) (L : List Fe) : Prop where
  row : Rw w encE 2 A L
  by_ : ∀ x ∈ L, Bs w x.A x.b
theorem Es.below {w w' : World} {A : Option Addr} {L : List Fe} (h : Es w A L) (b : Below w.heap.size w w') : Es w' A L := ⟨h.row.below b (Nat.le_refl _), fun x hx => (h.by_ x hx).below b⟩
theorem es_of {w : World} {R : Option Addr} {n c : Nat} {L : List Fe} (h : Ge w (.slice R n c) L) : Es w R L := by
  obtain ⟨A, c', hv, _, hr⟩ := OwnR.row Try.eltE h.row
  injection hv with e1 _ _
  subst e1
  exact ⟨hr, fun x hx => OwnB.bs (h.el x hx)⟩
theorem Try.eltE2 : Elt Try.prog 38 53 encE 2 40 := ⟨Try.underlying38, ⟨.agg #[.string ⟨#[]⟩, .slice none 0 0], by kernel_rfl, rfl⟩, by decide, fun _ => rfl, fun x v h => by
  simp [encE, vaE] at h; rcases h with rfl | rfl <;> rfl⟩
/-- files handed out, as a thing -/
def thE (R : Value) (L : List Fe) : Kt := ⟨fun w => OwnR w 0 53 encE 2 R L ∧ ∀ x ∈ L, OwnB w 0 (vaE x) x.b, footG vaE R L,
  fun h t hF => ⟨t.row h.1 (fun k hk => hF k (.inl hk)), fun x hx => t.row (h.2 x hx) (fun k hk => hF k (.inr ⟨x, hx, hk⟩))⟩,
  fun h k hk => by
    rcases hk with hk | ⟨x, hx, hk⟩
    · exact (World.ownsRow.lt h.1 k hk).2
    · exact (World.ownsRow.lt (h.2 x hx) k hk).2⟩
theorem es_thE {w : World} {R : Option Addr} {n c : Nat} {L : List Fe} (h : (thE (.slice R n c) L).P w) : Es w R L := by
  obtain ⟨A, c', hv, _, hr⟩ := OwnR.row Try.eltE2 h.1
  injection hv with e1 _ _
  subst e1
  exact ⟨hr, fun x hx => OwnB.bs (h.2 x hx)⟩
/-- what Files tells -/
def nbD (d : Fd) : List (Nm × List UInt8) := d.F.map fun f => (f.1, f.2 ++ pcs d.P f.1)
theorem nbD_len (d : Fd) : (nbD d).length = d.F.length := List.length_map ..

set_option maxHeartbeats 8000000 in
theorem lfiles_any {B q room : Nat} {w0 w : World} {ts : List Kt} {d : Fd} (h : FsI B w0 w q room ts d) :
    Calls Try.prog 22 #[.pointer (some ⟨q, 0, none⟩)] w fun e w' => ∃ R c L, e = .returned (.slice R d.F.length c) ∧ Hid ((thE (.slice R d.F.length c) L).P w' ∧ L.map nbE = nbD d ∧ Below w.heap.size w w' ∧ ∀ k, (thE (.slice R d.F.length c) L).F k → w.heap.size ≤ k) := by
  have HC := Lib.hid (files_any h)
  obtain ⟨n, hn⟩ : ∃ n, n = d.F.length := ⟨_, rfl⟩
  rw [← hn] at HC ⊢
  have hn8 : n ≤ 8 := by
    obtain ⟨bm, VW, T, hs, hF⟩ := h
    rw [hn, hF.len]
    exact hF.fl
  have Hn := Lib.hid hn
  clear h hn
  go_enter Try.func22, Try.ntmps22
  go_wp2_with fail
  refine HC.out.mono ?_
  rintro e w1 ⟨R0, c0, L0, rfl, h1⟩
  obtain ⟨g1, m1, b1, f1⟩ := h1.out
  have hL0 : L0.length = n := by
    have := congrArg List.length m1
    rw [List.length_map, List.length_map] at this
    rw [this, Hn.out]
  have H1 := Lib.hid (And.intro g1 (And.intro m1 (And.intro b1 (And.intro f1 hL0))))
  clear g1 m1 b1 f1 h1 HC hL0
  go_wp2_with fail
  go_loopw [3, 5] (fun s3 s5 wr => ∃ k : Nat, ∃ (R : Option Addr) (c : Nat), k ≤ n ∧ s3 = .slice R k c ∧ s5 = .int .i64 k ∧ Hid (OwnR wr 0 53 encE 2 (.slice R k c) (L0.take k) ∧ Below w1.heap.size w1 wr ∧ ∀ j, (Value.slice R k c).ownBlock = some j → w1.heap.size ≤ j)) (fun _ s5 _ => n - (intOf s5).toNat)
  case atStart => exact ⟨0, none, 0, Nat.zero_le _, rfl, rfl, Lib.hid ⟨OwnR.nil _ _ _ _ _, Below.refl _ _, fun j hj => by simp [Value.ownBlock] at hj⟩⟩
  case round =>
    obtain ⟨k, R, c, hkn, rfl, rfl, HR⟩ := hrel
    by_cases hlt : k < n
    · obtain ⟨x, hx⟩ : ∃ x, L0[k]? = some x := ⟨_, List.getElem?_eq_getElem (by rw [H1.out.2.2.2.2]; exact hlt)⟩
      obtain ⟨r1, r2, r3⟩ := HR.out
      obtain ⟨p, o, rfl, hc⟩ := (es_of (H1.out.1.below r2)).row k x hx
      have d0 := hc 0 _ rfl
      have d1 := hc 1 _ rfl
      simp only [vaE, Nat.add_zero] at d0 d1
      obtain ⟨L1, hL1⟩ : ∃ L1, L1 = L0.take k := ⟨_, rfl⟩
      rw [← hL1] at r1
      have hLl : L1.length = k := by
        have := H1.out.2.2.2.2
        rw [hL1, List.length_take]
        omega
      have hL2 : L0.take (k + 1) = L1 ++ [x] := by rw [List.take_add_one, hx, hL1]; rfl
      have HL := Lib.hid (And.intro r1 (And.intro r2 (And.intro r3 hL2)))
      have hkl : (k : Int) < (n : Int) := by omega
      have hk0 : (0 : Int) ≤ (k : Int) := by omega
      clear r1 r2 r3 HR hx hc hL1 hL2
      have hbd : Below wr.heap.size wr (wr.alloc (.cells #[.string ⟨x.nm.toArray⟩, .slice x.A x.b.length x.c] 53)) := below_alloc _ _
      have HR1 := Lib.hid (OwnR.below HL.out.1 hbd)
      have Hbd := Lib.hid hbd
      clear hbd
      have h5n : L1.length + 1 ≤ maxLen := by unfold maxLen; omega
      have h6n : (L1.length + 1) * 40 ≤ 140737488355328 := by omega
      have kA := fun W => keepA W
      go_upto_region 6 with fail
      go_region_law (refine step_appR1L Try.eltE2 _ rfl (.tmp 14) (.tmp 26) rfl 0 (.slice R k c) L1 (by simp [Act.eval, Act.put]) HR1.out wr.heap.size 1 x 53 #[.string ⟨x.nm.toArray⟩, .slice x.A x.b.length x.c] (by simp [Act.eval, Act.put]) (Blk.new wr _ _) rfl h5n h6n (Nat.zero_le _) (wr.heap.size + 1) (by simp) ?_; intro g2 c2 w9 hown2 hgr2 hor2 hlt2)
      all_goals
        clear kA d0 d1
        obtain ⟨r1, r2, r3, hL2⟩ := HL.out
        have HE := Lib.hid (show OwnR w9 0 53 encE 2 (.slice (some ⟨g2, 0, none⟩) (k + 1) c2) (L0.take (k + 1)) ∧ Below w1.heap.size w1 w9 ∧ ∀ j, (Value.slice (some ⟨g2, 0, none⟩) (k + 1) c2).ownBlock = some j → w1.heap.size ≤ j from by
          refine ⟨by rw [hL2, ← hLl]; exact hown2, Below.grown (on1 r2 Hbd.out.drew) hgr2 (on1 r2 Hbd.out.drew).size (fun j e => r3 j e), fun j e => ?_⟩
          have e2 : g2 = j := by simpa [Value.ownBlock] using e
          subst e2
          rcases hor2 with h9 | h9
          · exact r3 _ h9
          · rw [h9]
            exact Nat.le_succ_of_le r2.size)
        clear r1 r2 r3 hL2 hown2 hgr2 hor2 hlt2 HL HR1 Hbd
        go_wp2_with fail
        go_roundw
        case measure => simp [intOf]; omega
        case rel => exact ⟨k + 1, some ⟨g2, 0, none⟩, c2, by omega, rfl, by go_num, HE⟩
    · obtain rfl : k = n := by omega
      have hkk : ¬ ((k : Int) < (k : Int)) := by omega
      obtain ⟨r1, r2, r3⟩ := HR.out
      rw [List.take_of_length_le (Nat.le_of_eq H1.out.2.2.2.2)] at r1
      have HEND := Lib.hid (show (thE (.slice R k c) L0).P wr ∧ L0.map nbE = nbD d ∧ Below w.heap.size w wr ∧ ∀ j, (thE (.slice R k c) L0).F j → w.heap.size ≤ j from ⟨⟨r1, fun x hx => (H1.out.1.below r2).el x hx⟩, H1.out.2.1, on1 H1.out.2.2.1 r2, fun j hj => by
        rcases hj with hj | ⟨x, hx, hj⟩
        · exact Nat.le_trans H1.out.2.2.1.size (r3 j hj)
        · exact H1.out.2.2.2.1 j (.inr ⟨x, hx, hj⟩)⟩)
      clear r1 r2 r3 HR
      go_wp2_with fail
      go_ret
      exact ⟨R, c, rfl, L0, HEND⟩

set_option maxHeartbeats 4000000 in
theorem rsame8_any (A A' : Option Addr) (c c' : Nat) (L L' : List Fe) (w : World) (h : Es w A L) (h' : Es w A' L') (hL : L.length ≤ 1000000) (hL' : L'.length ≤ 1000000) :
    Calls Try.prog 21 #[.slice A L.length c, .slice A' L'.length c'] w fun e w' => e = .returned (.bool (decide (L.map nbE = L'.map nbE))) ∧ Below w.heap.size w w' := by
  obtain ⟨n, hn⟩ : ∃ n, n = L.length := ⟨_, rfl⟩
  obtain ⟨n', hn'⟩ : ∃ n', n' = L'.length := ⟨_, rfl⟩
  rw [← hn, ← hn']
  by_cases hnn : n = n'
  · subst hnn
    have k0 : ((n : Int) == (n : Int)) = true := beq_iff_eq.2 rfl
    have hn6 : n ≤ 1000000 := by omega
    obtain ⟨r, hr⟩ : ∃ r, r = decide (L.map nbE = L'.map nbE) := ⟨_, rfl⟩
    rw [← hr]
    have HH := Lib.hid (And.intro h (And.intro h' (And.intro hn (And.intro hn' hr))))
    clear h h' hn hn' hr
    go_enter Try.func21, Try.ntmps21
    go_wp2_with fail
    go_loopw [5] (fun s wr => ∃ k : Nat, k ≤ n ∧ s = .int .i64 k ∧ Hid (Below w.heap.size w wr ∧ (L.take k).map nbE = (L'.take k).map nbE)) (fun s _ => n - (intOf s).toNat)
    case atStart => exact ⟨0, Nat.zero_le _, rfl, Lib.hid ⟨Below.refl _ _, rfl⟩⟩
    case round =>
      obtain ⟨k, hk, rfl, HR⟩ := hrel
      obtain ⟨hw, hm⟩ := HR.out
      have hGx := HH.out.1.below hw
      have hGy := HH.out.2.1.below hw
      have HW := Lib.hid hw
      clear hw
      by_cases hlt : k < n
      · obtain ⟨x, hx⟩ : ∃ x, L[k]? = some x := ⟨_, List.getElem?_eq_getElem (by rw [← HH.out.2.2.1]; exact hlt)⟩
        obtain ⟨y, hy⟩ : ∃ y, L'[k]? = some y := ⟨_, List.getElem?_eq_getElem (by rw [← HH.out.2.2.2.1]; exact hlt)⟩
        obtain ⟨p, f, rfl, hc⟩ := hGx.row k x hx
        obtain ⟨p', f', rfl, hc'⟩ := hGy.row k y hy
        have c0 := hc 0 _ rfl
        have c1 := hc 1 _ rfl
        have d0 := hc' 0 _ rfl
        have d1 := hc' 1 _ rfl
        simp only [Nat.add_zero] at c0 d0
        have s1 := fun nq => str_of ((hGx.by_ x (List.mem_of_getElem? hx)).below (below_drewN (Below.refl _ wr) nq)) x.c
        have s2 := fun nq => str_of ((hGy.by_ y (List.mem_of_getElem? hy)).below (below_drewN (Below.refl _ wr) nq)) y.c
        have hkl : (k : Int) < (n : Int) := by omega
        have hk0 : (0 : Int) ≤ (k : Int) := by omega
        have hgx : (L.map nbE)[k]? = some (nbE x) := by rw [List.getElem?_map, hx]; rfl
        have hgy : (L'.map nbE)[k]? = some (nbE y) := by rw [List.getElem?_map, hy]; rfl
        have HG := Lib.hid (And.intro hgx hgy)
        have HM : Hid (nbE x = nbE y → (L.take (k + 1)).map nbE = (L'.take (k + 1)).map nbE) := Lib.hid (fun e => by
          rw [List.take_add_one, List.take_add_one, hx, hy, List.map_append, List.map_append, hm]
          show _ ++ [nbE x] = _ ++ [nbE y]
          rw [e])
        simp only [vaE] at c1 d1
        clear hc hc' hx hy hgx hgy hm HR hGx hGy
        by_cases hs : x.nm = y.nm
        · have e1 : (x.nm == y.nm) = true := beq_iff_eq.2 hs
          have e1' : (x.nm != y.nm) = false := by unfold bne; rw [e1]; rfl
          by_cases hb : x.b = y.b
          · have e2 : (x.b == y.b) = true := beq_iff_eq.2 hb
            have e2' : (x.b != y.b) = false := by unfold bne; rw [e2]; rfl
            have HE := Lib.hid (HM.out (by unfold nbE; rw [hs, hb]))
            clear hs hb
            go_wp2_with fail
            go_quiet (fail)
            go_wp2_with fail
            go_roundw
            case measure => simp [intOf]; omega
            case rel => exact ⟨k + 1, by omega, by go_num, Lib.hid ⟨below_drewN HW.out nq, HE.out⟩⟩
          · have e2 : (x.b == y.b) = false := beq_eq_false_iff_ne.2 hb
            have e2' : (x.b != y.b) = true := by unfold bne; rw [e2]; rfl
            have HE : Hid (r = false) := Lib.hid (by
              rw [HH.out.2.2.2.2]
              refine decide_eq_false (fun e => hb ?_)
              have h9 := HG.out.1
              rw [e, HG.out.2] at h9
              injection h9 with h9
              exact (congrArg Prod.snd h9).symm)
            clear hs hb
            go_wp2_with fail
            go_quiet (fail)
            go_wp2_with fail
            go_ret
            exact ⟨by simp [HE.out], below_drewN HW.out nq⟩
        · have e1 : (x.nm == y.nm) = false := beq_eq_false_iff_ne.2 hs
          have e1' : (x.nm != y.nm) = true := by unfold bne; rw [e1]; rfl
          have HE : Hid (r = false) := Lib.hid (by
            rw [HH.out.2.2.2.2]
            refine decide_eq_false (fun e => hs ?_)
            have h9 := HG.out.1
            rw [e, HG.out.2] at h9
            injection h9 with h9
            exact (congrArg Prod.fst h9).symm)
          clear hs
          go_wp2_with fail
          go_quiet (fail)
          go_wp2_with fail
          go_ret
          exact ⟨by simp [HE.out], below_drewN HW.out nq⟩
      · obtain rfl : k = n := by omega
        have HE : Hid (r = true) := Lib.hid (by
          rw [HH.out.2.2.2.2]
          refine decide_eq_true ?_
          have h9 := hm
          rw [List.take_of_length_le (Nat.le_of_eq HH.out.2.2.1.symm), List.take_of_length_le (Nat.le_of_eq HH.out.2.2.2.1.symm)] at h9
          exact h9)
        have hkk : ¬ ((k : Int) < (k : Int)) := by omega
        clear hm hGx hGy HR
        go_wp2_with fail
        go_ret
        exact ⟨by simp [HE.out], HW.out⟩
  · have k0 : ((n : Int) == (n' : Int)) = false := beq_eq_false_iff_ne.2 (by omega)
    have he : decide (L.map nbE = L'.map nbE) = false := decide_eq_false (fun e => hnn (by
      have := congrArg List.length e
      rw [List.length_map, List.length_map] at this
      omega))
    rw [he]
    clear h h' hn hn' he hL hL'
    go_enter Try.func21, Try.ntmps21
    go_wp2_with fail
    go_ret
    exact ⟨rfl, Below.refl _ _⟩

end Go.Proofs.Ytiogckgchlnldaa

/- Layer 8: walk of FsRoom. -/
set_option linter.unusedSimpArgs false
set_option linter.unusedVariables false
namespace Go.Proofs.Ytiogckgchlnldaa
open Go.RowKit
set_option maxRecDepth 100000

theorem fs_len {L : List Fe} {d : Fd} (h : L.map nbE = nbD d) : L.length = d.F.length := by
  have := congrArg List.length h
  rw [List.length_map, nbD_len] at this
  exact this
theorem FsI.fi {B q room : Nat} {w0 w : World} {ts : List Kt} {d : Fd} (h : FsI B w0 w q room ts d) : ∃ T, Fi d T := by
  obtain ⟨bm, VW, T, _, hi⟩ := h
  exact ⟨T, hi⟩
theorem FsI.f8 {B q room : Nat} {w0 w : World} {ts : List Kt} {d : Fd} (h : FsI B w0 w q room ts d) : d.F.length ≤ 8 := by
  obtain ⟨T, hi⟩ := h.fi
  rw [hi.len]
  exact hi.fl

set_option maxHeartbeats 8000000 in
theorem fsRoom_walk (room : Nat) (hroom : room < 65536) (V : Option Addr) (cv : Nat) (l : List Op8) (w : World) (hV : Rw w encOp8 7 V l) (hl : l.length ≤ maxLen) (ho : ∀ o ∈ l, o.ok w) :
    Calls Try.prog 8 #[.int .u16 (room : Nat), .slice V l.length cv] w fun e w' => e = .returned (.bool true) ∧ Below w.heap.size w w' := by
  have HK := Lib.hid (fun w => fknown8_any w)
  have HH := Lib.hid (heavy8_any V cv l w hV hl)
  obtain ⟨n, hn⟩ : ∃ n, n = l.length := ⟨_, rfl⟩
  rw [← hn] at HH ⊢
  cases hh : heavyL l with
  | true =>
    rw [hh] at HH
    clear hV hl ho hn hh
    go_enter Try.func8, Try.ntmps8
    go_wp2_with fail
    refine HH.out.mono ?_
    rintro e w1 ⟨rfl, h1⟩
    have H1 := Lib.hid h1
    clear h1 HH
    go_wp2_with fail
    refine (HK.out w1).mono ?_
    rintro e w2 ⟨rfl, h2⟩
    have H2 := Lib.hid h2
    clear h2 HK
    go_wp2_with fail
    go_ret
    exact ⟨rfl, on1 H1.out H2.out⟩
  | false =>
    rw [hh] at HH
    obtain ⟨hn50, hbg⟩ := heavyL_no hh
    have HI := Lib.hid (And.intro hV (And.intro hn (And.intro hn50 (And.intro hbg ho))))
    clear hV hl ho hn hh hn50 hbg
    go_enter Try.func8, Try.ntmps8
    go_wp2_with fail
    refine HH.out.mono ?_
    rintro e w1 ⟨rfl, h1⟩
    have H1 := Lib.hid h1
    clear h1 HH
    go_wp2_with fail
    refine (HK.out w1).mono ?_
    rintro e w2 ⟨rfl, h2⟩
    have H2 := Lib.hid (on1 H1.out h2)
    have HC := Lib.hid (new_any (Sep.nil H2.out H2.out.size) room (by omega))
    clear h2 HK H1
    go_wp2_with fail
    refine HC.out.mono ?_
    rintro e w3 ⟨q, rfl, h3⟩
    have H3 := Lib.hid h3
    clear h3 HC H2
    go_wp2_with fail
    go_loopw [6] (fun s wr => ∃ k : Nat, k ≤ n ∧ s = .int .i64 k ∧ Hid (∃ d, FsI w.heap.size w wr q room [] d ∧ usedD d ≤ room ∧ d.P.length ≤ k ∧ d.lf = 0)) (fun s _ => n - (intOf s).toNat)
    case atStart => exact ⟨0, Nat.zero_le _, rfl, Lib.hid ⟨fd0, H3.out, Nat.zero_le _, Nat.zero_le _, rfl⟩⟩
    case round =>
      obtain ⟨k, hkn, rfl, HR⟩ := hrel
      clear H3
      have hn50 := HI.out.2.2.1
      rw [← HI.out.2.1] at hn50
      by_cases hlt : k < n
      · obtain ⟨o, hx⟩ : ∃ x, l[k]? = some x := ⟨_, List.getElem?_eq_getElem (by rw [← HI.out.2.1]; exact hlt)⟩
        obtain ⟨d, r1, r2, r3, r4⟩ := HR.out
        obtain ⟨p, f, rfl, hc⟩ := HI.out.1 k o hx
        have hom := List.mem_of_getElem? hx
        obtain ⟨g1, g2, g3, g4⟩ := bigO_no (HI.out.2.2.2.1 o hom)
        have hok := HI.out.2.2.2.2 o hom
        have hkl : (k : Int) < (n : Int) := by omega
        have hk0 : (0 : Int) ≤ (k : Int) := by omega
        obtain ⟨m, hm⟩ : ∃ m : Nat, m = o.kd % 14 := ⟨_, rfl⟩
        have f0 : (o.kd : Int) % 14 = (m : Int) := by rw [hm]; omega
        have c0 : wr.cell? ⟨p, f + k * 7, none⟩ = some (.int .u8 (o.kd : Nat)) := r1.old (Nat.le_refl _) (hc 0 _ rfl)
        by_cases h10 : 10 < m
        · have d1 : decide ((10 : Int) < (m : Int)) = true := decide_eq_true (by omega)
          have HN := Lib.hid (show ∃ d, FsI w.heap.size w wr q room [] d ∧ usedD d ≤ room ∧ d.P.length ≤ k + 1 ∧ d.lf = 0 from ⟨d, r1, r2, by omega, r4⟩)
          clear r1 r2 r3 r4 HR hc hx hom hok hm h10 g1 g2 g3 g4
          go_wp2_with fail
          go_roundw
          case measure => simp [intOf]; omega
          case rel => exact ⟨k + 1, by omega, by go_num, HN⟩
        · have d1 : decide ((10 : Int) < (m : Int)) = false := decide_eq_false (by omega)
          have HF := Lib.hid (lfiles_any r1)
          have HX := Lib.hid (And.intro r1 (And.intro r2 (And.intro r3 (And.intro r4 (And.intro hc (And.intro g1 hok))))))
          clear r1 r2 r3 r4 HR hc hx hom hok hm h10 g1 g2 g3 g4
          go_wp2_with fail
          refine HF.out.mono ?_
          rintro e w4 ⟨R4, c4, L4, rfl, h4⟩
          obtain ⟨p4, m4, b4, f4⟩ := h4.out
          obtain ⟨r1, r2, r3, r4, hc, g1, hok⟩ := HX.out
          have F4 := r1.cons b4 p4 f4
          obtain ⟨ok1, ok2, ok3, ok4, ok5, ok6, ok7, ok8, ok9⟩ := hok
          have HC := Lib.hid (plays_any o F4 ok2 ok3 (by omega) (by omega) (fun W d' hs => hs.bs (Nat.le_refl _) ok4) (by omega) (by omega) (by omega))
          obtain ⟨T, hT⟩ := r1.fi
          have hup := play_room (o := o) (room := (room : Int)) hT (by omega) (by omega) (by omega)
          have hlp := lp_play (room : Int) d o
          have herr := fun h => play_err (room := (room : Int)) (d := d) (o := o) h
          obtain ⟨en, hen⟩ : ∃ en, en = (playD (room : Int) d o).1 := ⟨_, rfl⟩
          obtain ⟨d', hd'⟩ : ∃ d', d' = (playD (room : Int) d o).2 := ⟨_, rfl⟩
          rw [← hen] at herr
          rw [← hd'] at hup hlp herr
          rw [← hen, ← hd'] at HC
          have e1 : w4.cell? ⟨p, f + k * 7, none⟩ = some (.int .u8 (o.kd : Nat)) := F4.old (Nat.le_refl _) (hc 0 _ rfl)
          have e2 : w4.cell? ⟨p, f + k * 7 + 1, none⟩ = some (.string ⟨o.nm.toArray⟩) := F4.old (Nat.le_refl _) (hc 1 _ rfl)
          have e3 : w4.cell? ⟨p, f + k * 7 + 2, none⟩ = some (.string ⟨o.ot.toArray⟩) := F4.old (Nat.le_refl _) (hc 2 _ rfl)
          have e4 : w4.cell? ⟨p, f + k * 7 + 3, none⟩ = some (.slice o.A o.b.length o.c) := F4.old (Nat.le_refl _) (hc 3 _ rfl)
          have e5 : w4.cell? ⟨p, f + k * 7 + 4, none⟩ = some (.int .i64 o.n) := F4.old (Nat.le_refl _) (hc 4 _ rfl)
          have e6 : w4.cell? ⟨p, f + k * 7 + 5, none⟩ = some (.slice o.KA o.kp.length o.kc) := F4.old (Nat.le_refl _) (hc 5 _ rfl)
          have e7 : w4.cell? ⟨p, f + k * 7 + 6, none⟩ = some (.int .i64 o.to_) := F4.old (Nat.le_refl _) (hc 6 _ rfl)
          have HY := Lib.hid (And.intro m4 (And.intro hup (And.intro hlp (And.intro herr (And.intro r3 (And.intro r4 r1.f8))))))
          clear r1 r2 r3 r4 hc g1 F4 ok1 ok2 ok3 ok4 ok5 ok6 ok7 ok8 ok9 hT hup hlp herr hen hd' m4 p4 b4 f4 h4 HX HF c0 d1 f0
          go_wp2_with fail
          refine HC.out.mono ?_
          rintro e w5 ⟨rfl, h5⟩
          have H5 := Lib.hid h5
          have HF := Lib.hid (lfiles_any h5)
          clear h5 HC e1 e2 e3 e4 e5 e6 e7
          go_wp2_with fail
          refine HF.out.mono ?_
          rintro e w6 ⟨R6, c6, L6, rfl, h6⟩
          obtain ⟨p6, m6, b6, f6⟩ := h6.out
          have h7 := H5.out.go b6
          obtain ⟨m4, hup, hlp, herr, r3, r4, f84⟩ := HY.out
          have h8 := h7.f8
          have hS := rsame8_any R4 R6 c4 c6 L4 L6 w6 (es_thE (h7.get (t := thE (.slice R4 d.F.length c4) L4) 0 rfl)) (es_thE p6) (by rw [fs_len m4]; omega) (by rw [fs_len m6]; omega)
          rw [fs_len m4, fs_len m6, m4, m6] at hS
          obtain ⟨n4, hn4⟩ : ∃ x, x = d.F.length := ⟨_, rfl⟩
          obtain ⟨n6, hn6⟩ : ∃ x, x = d'.F.length := ⟨_, rfl⟩
          rw [← hn4, ← hn6] at hS
          rw [← hn6] at h8 ⊢
          rw [← hn4]
          have d8 : decide ((8 : Int) < (n6 : Int)) = false := decide_eq_false (by omega)
          have H7 := Lib.hid h7
          have HN := Lib.hid (show usedD d' ≤ room ∧ d'.P.length ≤ k + 1 ∧ d'.lf = 0 from ⟨by omega, by have := hlp.2; omega, by have := hlp.1; omega⟩)
          have hun : usedD d' ≤ room := by omega
          by_cases h0 : en = 0
          · subst h0
            have HU := Lib.hid (used_any h7)
            obtain ⟨un, hun2⟩ : ∃ x, x = usedD d' := ⟨_, rfl⟩
            rw [← hun2] at HU hun
            have dU : decide (room < un) = false := decide_eq_false (by omega)
            clear m4 hup hlp herr r3 r4 f84 hS p6 m6 b6 f6 h6 hn4 hn6 hun2 h7 HF H5 h8
            go_wp2_with fail
            refine HU.out.mono ?_
            rintro e w7 ⟨rfl, h7⟩
            have H8 := Lib.hid (H7.out.go h7)
            clear h7 HU
            go_wp2_with fail
            go_roundw
            case measure => simp [intOf]; omega
            case rel => exact ⟨k + 1, by omega, by go_num, Lib.hid ⟨d', H8.out.tail, HN.out.1, HN.out.2.1, HN.out.2.2⟩⟩
          · have g1 : ((en : Int) == 0) = false := beq_eq_false_iff_ne.2 (by omega)
            have g1' : ((en : Int) != 0) = true := by unfold bne; rw [g1]; rfl
            have hdd : d' = d := herr h0
            rw [show decide (nbD d = nbD d') = true from decide_eq_true (by rw [hdd])] at hS
            have HS := Lib.hid hS
            clear m4 hup hlp herr r3 r4 f84 hS p6 m6 b6 f6 h6 hn4 hn6 h7 HF H5 hdd h0 h8
            go_wp2_with fail
            refine HS.out.mono ?_
            rintro e w7 ⟨rfl, h7⟩
            have h8 := H7.out.go h7
            have H8 := Lib.hid h8
            have HU := Lib.hid (used_any h8)
            obtain ⟨un, hun2⟩ : ∃ x, x = usedD d' := ⟨_, rfl⟩
            rw [← hun2] at HU hun
            have dU : decide (room < un) = false := decide_eq_false (by omega)
            clear h7 h8 HS H7 hun2
            go_wp2_with fail
            refine HU.out.mono ?_
            rintro e w9 ⟨rfl, h9⟩
            have H9 := Lib.hid (H8.out.go h9)
            clear h9 HU
            go_wp2_with fail
            go_roundw
            case measure => simp [intOf]; omega
            case rel => exact ⟨k + 1, by omega, by go_num, Lib.hid ⟨d', H9.out.tail, HN.out.1, HN.out.2.1, HN.out.2.2⟩⟩
      · obtain rfl : k = n := by omega
        have hkk : ¬ ((k : Int) < (k : Int)) := by omega
        obtain ⟨d, r1, r2, r3, r4⟩ := HR.out
        have HB := Lib.hid r1.b
        clear r1 r2 r3 r4 HR
        go_wp2_with fail
        go_ret
        exact ⟨rfl, HB.out⟩

end Go.Proofs.Ytiogckgchlnldaa

/- Layer 8: two file systems side by side; a call as data, by what it reads alone. -/
set_option linter.unusedSimpArgs false
set_option linter.unusedVariables false
namespace Go.Proofs.Ytiogckgchlnldaa
open Go.RowKit
set_option maxRecDepth 100000

/-- a file system's things -/
def Xs (q room bm : Nat) (VW : Value) (T : List Ft) (d : Fd) : List Kt := thB q 87 (fsc room bm VW d) :: thM bm (nmG T) :: thP VW (pcL T d.P) :: T.map thF
theorem FsI.perm {B q room : Nat} {w0 w : World} {ts us : List Kt} {d : Fd} (h : FsI B w0 w q room ts d) (hp : ts.Perm us) : FsI B w0 w q room us d := by
  obtain ⟨bm, VW, T, hs, hi⟩ := h
  exact ⟨bm, VW, T, hs.perm ((((hp.append_left _).cons _).cons _).cons _), hi⟩
/-- two file systems, and other things -/
def Fs2 (B : Nat) (w0 w : World) (qa ra : Nat) (da : Fd) (qb rb : Nat) (db : Fd) (ts : List Kt) : Prop := ∃ bm VW T, FsI B w0 w qa ra (Xs qb rb bm VW T db ++ ts) da ∧ Fi db T
section
variable {B qa ra qb rb : Nat} {w0 w w' : World} {da db da' db' : Fd} {ts us : List Kt} {t : Kt}
theorem Fs2.swap (h : Fs2 B w0 w qa ra da qb rb db ts) : Fs2 B w0 w qb rb db qa ra da ts := by
  obtain ⟨bm, VW, T, ⟨bm2, VW2, T2, hs, hi2⟩, hi⟩ := h
  refine ⟨bm2, VW2, T2, ⟨bm, VW, T, ?_, hi⟩, hi2⟩
  have hs : Sep B w0 w (Xs qa ra bm2 VW2 T2 da ++ (Xs qb rb bm VW T db ++ ts)) := hs
  exact hs.perm (List.perm_append_comm_assoc _ _ _)
/-- a file system made beside another -/
theorem Fs2.made {bm : Nat} {VW : Value} {T : List Ft} (h : FsI B w0 w qb rb (Xs qa ra bm VW T da ++ ts) db) (hi : Fi da T) : Fs2 B w0 w qb rb db qa ra da ts := ⟨_, _, _, h, hi⟩
theorem Fs2.go (h : Fs2 B w0 w qa ra da qb rb db ts) (b : Below w.heap.size w w') : Fs2 B w0 w' qa ra da qb rb db ts := by
  obtain ⟨bm, VW, T, h, hi⟩ := h
  exact ⟨bm, VW, T, h.go b, hi⟩
theorem Fs2.b (h : Fs2 B w0 w qa ra da qb rb db ts) : Below B w0 w := by
  obtain ⟨bm, VW, T, h, hi⟩ := h
  exact h.b
theorem Fs2.bs (h : Fs2 B w0 w qa ra da qb rb db ts) (hB : w0.heap.size ≤ B) {A : Option Addr} {l : List UInt8} (b : Bs w0 A l) : Bs w A l := by
  obtain ⟨bm, VW, T, h, hi⟩ := h
  exact h.bs hB b
theorem Fs2.old (h : Fs2 B w0 w qa ra da qb rb db ts) (hB : w0.heap.size ≤ B) {a : Addr} {v : Value} (c : w0.cell? a = some v) : w.cell? a = some v := by
  obtain ⟨bm, VW, T, h, hi⟩ := h
  exact h.old hB c
theorem Fs2.cons (h : Fs2 B w0 w qa ra da qb rb db ts) (b : Below w.heap.size w w') (hP : t.P w') (hF : ∀ k, t.F k → w.heap.size ≤ k) : Fs2 B w0 w' qa ra da qb rb db (t :: ts) := by
  obtain ⟨bm, VW, T, h, hi⟩ := h
  exact ⟨bm, VW, T, (h.cons b hP hF).perm List.perm_middle.symm, hi⟩
theorem Fs2.tail (h : Fs2 B w0 w qa ra da qb rb db (t :: ts)) : Fs2 B w0 w qa ra da qb rb db ts := by
  obtain ⟨bm, VW, T, h, hi⟩ := h
  exact ⟨bm, VW, T, h.sub ((List.sublist_cons_self t ts).append_left _), hi⟩
theorem Fs2.get (h : Fs2 B w0 w qa ra da qb rb db ts) (i : Nat) (e : ts[i]? = some t) : t.P w := by
  obtain ⟨bm, VW, T, h, hi⟩ := h
  refine h.get (i + (Xs qb rb bm VW T db).length) ?_
  rw [List.getElem?_append_right (by omega), Nat.add_sub_cancel]
  exact e
theorem Fs2.fi (h : Fs2 B w0 w qa ra da qb rb db ts) : (∃ T, Fi da T) ∧ ∃ T, Fi db T := by
  obtain ⟨bm, VW, T, h, hi⟩ := h
  exact ⟨h.fi, T, hi⟩
theorem Fs2.one (h : Fs2 B w0 w qa ra da qb rb db ts) : ∃ us, FsI B w0 w qa ra us da := by
  obtain ⟨bm, VW, T, h, hi⟩ := h
  exact ⟨_, h⟩
/-- a call on the first -/
theorem Fs2.lift {P : Program} {f : FuncId} {args : Array Value} {E : Ending → Prop} (h : Fs2 B w0 w qa ra da qb rb db ts) (C : ∀ us, FsI B w0 w qa ra us da → Calls P f args w fun e w' => E e ∧ FsI B w0 w' qa ra us da') : Calls P f args w fun e w' => E e ∧ Fs2 B w0 w' qa ra da' qb rb db ts := by
  obtain ⟨bm, VW, T, h, hi⟩ := h
  exact (C _ h).mono fun e w' ⟨h1, h2⟩ => ⟨h1, bm, VW, T, h2, hi⟩
/-- a call on the second -/
theorem Fs2.lift2 {P : Program} {f : FuncId} {args : Array Value} {E : Ending → Prop} (h : Fs2 B w0 w qa ra da qb rb db ts) (C : ∀ us, FsI B w0 w qb rb us db → Calls P f args w fun e w' => E e ∧ FsI B w0 w' qb rb us db') : Calls P f args w fun e w' => E e ∧ Fs2 B w0 w' qa ra da qb rb db' ts :=
  (h.swap.lift C).mono fun e w' ⟨h1, h2⟩ => ⟨h1, h2.swap⟩
end

/-- does a call that is done count? -/
def usedO (o : Op8) : Bool := if o.kd % 14 = 9 then !(o.nm == o.ot) else if o.kd % 14 = 0 ∨ 5 < o.kd % 14 then true else decide (0 < o.b.length)
/-- what comes of a call that counts -/
def runTo (d : Fd) (F P : List (Nm × List UInt8)) : Fd := if (runsD d).1 = true then { (runsD d).2 with F := F, P := P } else (runsD d).2
theorem create_form (F P : List (Nm × List UInt8)) (n : Nm) : ∃ c F' P', ∀ d : Fd, d.F = F → d.P = P → createD d n = (c, if c = 0 then runTo d F' P' else d) := by
  refine ⟨if okN n = false then 1 else if (atF F n).isSome then 81 else if 8 ≤ F.length then 3 else 0, insF (n, []) F, P, fun d hF hP => ?_⟩
  unfold createD
  rw [hF]
  split
  · rfl
  · split
    · rfl
    · split
      · rfl
      · rw [if_pos rfl]
        unfold runTo
        simp only [(runs_keeps d).1, hF]
        rw [show ({ (runsD d).2 with F := insF (n, []) F, P := P } : Fd) = { (runsD d).2 with F := insF (n, []) F } by rw [← hP, ← (runs_keeps d).2]]
theorem sync_form (F P : List (Nm × List UInt8)) (n : Nm) : ∃ c F' P', ∀ d : Fd, d.F = F → d.P = P → syncD d n = (c, if c = 0 then runTo d F' P' else d) := by
  cases hr : (atF F n).map (· ++ pcs P n) with
  | none =>
    refine ⟨80, [], [], fun d hF hP => ?_⟩
    unfold syncD rdD
    rw [hF, hP, hr]
    rfl
  | some b =>
    refine ⟨0, setF n b F, dropN n P, fun d hF hP => ?_⟩
    unfold syncD rdD
    rw [hF, hP, hr]
    simp only [runs_keeps, hF, hP, if_true]
    rfl
theorem cut_form (F P : List (Nm × List UInt8)) (n : Nm) (k : Int) : ∃ c F' P', ∀ d : Fd, d.F = F → d.P = P → cutD d n k = (c, if c = 0 then runTo d F' P' else d) := by
  cases hr : (atF F n).map (· ++ pcs P n) with
  | none =>
    refine ⟨80, [], [], fun d hF hP => ?_⟩
    unfold cutD rdD
    rw [hF, hP, hr]
    rfl
  | some b =>
    by_cases hk : k < 0 ∨ (b.length : Int) < k
    · refine ⟨1, [], [], fun d hF hP => ?_⟩
      unfold cutD rdD
      rw [hF, hP, hr]
      simp only [if_pos hk]
      rfl
    · refine ⟨0, setF n (b.take k.toNat) F, dropN n P, fun d hF hP => ?_⟩
      unfold cutD rdD
      rw [hF, hP, hr]
      simp only [if_neg hk, runs_keeps, hF, hP, if_true]
      rfl
theorem remove_form (F P : List (Nm × List UInt8)) (n : Nm) : ∃ c F' P', ∀ d : Fd, d.F = F → d.P = P → removeD d n = (c, if c = 0 then runTo d F' P' else d) := by
  by_cases hr : (atF F n).isNone
  · refine ⟨80, [], [], fun d hF hP => ?_⟩
    unfold removeD
    rw [hF, if_pos hr]
    rfl
  · refine ⟨0, dropN n F, dropN n P, fun d hF hP => ?_⟩
    unfold removeD
    rw [hF, if_neg hr]
    simp only [runs_keeps, hF, hP, if_true]
    rfl
theorem rename_form (F P : List (Nm × List UInt8)) (n m : Nm) : ∃ c F' P', ∀ d : Fd, d.F = F → d.P = P → renameD d n m = (c, if c = 0 ∧ n ≠ m then runTo d F' P' else d) := by
  cases hr : atF F n with
  | none =>
    refine ⟨80, [], [], fun d hF hP => ?_⟩
    unfold renameD
    rw [hF, hr, if_neg (by omega)]
  | some b =>
    by_cases hok : okN m = false
    · refine ⟨1, [], [], fun d hF hP => ?_⟩
      unfold renameD
      rw [hF, hr, if_neg (by omega)]
      simp only [if_pos hok]
    · by_cases hnm : n = m
      · refine ⟨0, [], [], fun d hF hP => ?_⟩
        unfold renameD
        rw [hF, hr, if_neg (by intro h; exact h.2 hnm)]
        simp only [if_neg hok, if_pos hnm]
      · refine ⟨0, insF (m, b) (dropN n (dropN m F)), (dropN m P).map fun p => if p.1 == n then (m, p.2) else p, fun d hF hP => ?_⟩
        unfold renameD
        rw [hF, hr, if_pos ⟨rfl, hnm⟩]
        simp only [if_neg hok, if_neg hnm, runs_keeps, hF, hP]
        rfl
theorem append_form (room : Int) (F P : List (Nm × List UInt8)) (n : Nm) (b : List UInt8) : ∃ c F' P', ∀ d : Fd, d.F = F → d.P = P → appendD room d n b = (c, if c = 0 ∧ 0 < b.length then runTo d F' P' else d) := by
  by_cases hr : (atF F n).isNone
  · refine ⟨80, [], [], fun d hF hP => ?_⟩
    unfold appendD
    rw [hF, if_pos hr, if_neg (by omega)]
  · by_cases hu : room < ((F.map fun f => (f.2 ++ pcs P f.1).length).sum : Nat) + b.length
    · refine ⟨82, [], [], fun d hF hP => ?_⟩
      unfold appendD usedD
      rw [hF, hP, if_neg hr, if_pos hu, if_neg (by omega)]
    · by_cases hb : b = []
      · refine ⟨0, [], [], fun d hF hP => ?_⟩
        unfold appendD usedD
        rw [hF, hP, if_neg hr, if_neg hu, if_pos hb, if_neg (by rw [hb]; simp)]
      · refine ⟨0, F, P ++ [(n, b)], fun d hF hP => ?_⟩
        have hbl : 0 < b.length := List.length_pos_iff.2 hb
        unfold appendD usedD
        rw [hF, hP, if_neg hr, if_neg hu, if_neg hb, if_pos ⟨rfl, hbl⟩]
        unfold runTo
        simp only [(runs_keeps d).2, hP]
        rw [show ({ (runsD d).2 with F := F, P := P ++ [(n, b)] } : Fd) = { (runsD d).2 with P := P ++ [(n, b)] } by rw [← hF, ← (runs_keeps d).1]]
/-- a call reads the files and pieces alone -/
theorem play_form (room : Int) (F P : List (Nm × List UInt8)) (o : Op8) (h10 : o.kd % 14 ≤ 10) : ∃ c F' P', ∀ d : Fd, d.F = F → d.P = P → playD room d o = (c, if c = 0 ∧ usedO o = true then runTo d F' P' else d) := by
  by_cases k0 : o.kd % 14 = 0
  · have hu : usedO o = true := by unfold usedO; rw [if_neg (by omega), if_pos (Or.inl k0)]
    obtain ⟨c, F', P', h⟩ := create_form F P o.nm
    refine ⟨c, F', P', fun d hF hP => ?_⟩
    unfold playD
    rw [if_pos k0, h d hF hP, hu]
    simp
  · by_cases k6 : o.kd % 14 = 6 ∨ o.kd % 14 = 7
    · have hu : usedO o = true := by unfold usedO; rw [if_neg (by omega), if_pos (Or.inr (by omega))]
      obtain ⟨c, F', P', h⟩ := sync_form F P o.nm
      refine ⟨c, F', P', fun d hF hP => ?_⟩
      unfold playD
      rw [if_neg k0, if_pos k6, h d hF hP, hu]
      simp
    · by_cases k8 : o.kd % 14 = 8
      · have hu : usedO o = true := by unfold usedO; rw [if_neg (by omega), if_pos (Or.inr (by omega))]
        obtain ⟨c, F', P', h⟩ := cut_form F P o.nm o.n
        refine ⟨c, F', P', fun d hF hP => ?_⟩
        unfold playD
        rw [if_neg k0, if_neg k6, if_pos k8, h d hF hP, hu]
        simp
      · by_cases k9 : o.kd % 14 = 9
        · have hu : (usedO o = true) = (o.nm ≠ o.ot) := by unfold usedO; rw [if_pos k9]; simp
          obtain ⟨c, F', P', h⟩ := rename_form F P o.nm o.ot
          refine ⟨c, F', P', fun d hF hP => ?_⟩
          unfold playD
          rw [if_neg k0, if_neg k6, if_neg k8, if_pos k9, h d hF hP]
          simp only [hu]
        · by_cases k10 : o.kd % 14 = 10
          · have hu : usedO o = true := by unfold usedO; rw [if_neg k9, if_pos (Or.inr (by omega))]
            obtain ⟨c, F', P', h⟩ := remove_form F P o.nm
            refine ⟨c, F', P', fun d hF hP => ?_⟩
            unfold playD
            rw [if_neg k0, if_neg k6, if_neg k8, if_neg k9, if_pos k10, h d hF hP, hu]
            simp
          · have hu : (usedO o = true) = (0 < o.b.length) := by unfold usedO; rw [if_neg k9, if_neg (by omega)]; simp
            obtain ⟨c, F', P', h⟩ := append_form room F P o.nm o.b
            refine ⟨c, F', P', fun d hF hP => ?_⟩
            unfold playD
            rw [if_neg k0, if_neg k6, if_neg k8, if_neg k9, if_neg k10, h d hF hP]
            simp only [hu]

end Go.Proofs.Ytiogckgchlnldaa

/- Layer 8: walk of FsMoves. -/
set_option linter.unusedSimpArgs false
set_option linter.unusedVariables false
namespace Go.Proofs.Ytiogckgchlnldaa
open Go.RowKit
set_option maxRecDepth 100000

def nY : Nm := [121]
theorem nXY : nX ≠ nY := by decide
/-- two file systems with one file each, alike but for its name -/
structure Two (all : List UInt8) (n : Nat) (da db : Fd) : Prop where
  a : One nX all n da
  b : One nY all n db
  P : db.P = da.P.map fun p => (nY, p.2)
theorem two_new : Two [] 0 (createD fd0 nX).2 (createD fd0 nY).2 := ⟨one_new, ⟨rfl, rfl, fun p hp => by have : p ∈ ([] : List (Nm × List UInt8)) := hp; simp at this, rfl, rfl, rfl, Nat.le_refl _⟩, rfl⟩
theorem One.appendP {x : Nm} {all : List UInt8} {n : Nat} {d : Fd} (h : One x all n d) (room : Int) (b : List UInt8) (hr : (all.length : Int) + b.length ≤ room) : (appendD room d x b).2.P = if b = [] then d.P else d.P ++ [(x, b)] := by
  unfold appendD
  rw [h.at_, if_neg (by simp), if_neg (by rw [h.used]; omega)]
  split
  · rfl
  · rw [h.runs]
    rfl
theorem Two.append {all : List UInt8} {n : Nat} {da db : Fd} (h : Two all n da db) (room : Int) (b : List UInt8) (hr : (all.length : Int) + b.length ≤ room) : Two (all ++ b) n (appendD room da nX b).2 (appendD room db nY b).2 := by
  refine ⟨(h.a.append room b hr).2.1, (h.b.append room b hr).2.1, ?_⟩
  rw [h.a.appendP room b hr, h.b.appendP room b hr, h.P]
  split
  · rfl
  · rw [List.map_append]
    rfl
theorem Two.sync {all : List UInt8} {n : Nat} {da db : Fd} (h : Two all n da db) : Two all all.length (syncD da nX).2 (syncD db nY).2 := by
  refine ⟨h.a.sync.2.1, h.b.sync.2.1, ?_⟩
  rw [h.a.sync.2.2, h.b.sync.2.2]
  rfl
theorem Two.rename {all : List UInt8} {n : Nat} {da db : Fd} (h : Two all n da db) : renameD da nX nY = (0, db) := by
  unfold renameD
  rw [h.a.at_]
  simp only [h.a.runs]
  rw [if_neg (by decide), if_neg nXY]
  obtain ⟨F, P, st, lf, dd⟩ := db
  obtain ⟨F2, P2, st2, lf2, dd2⟩ := da
  obtain ⟨a1, a2, a3, a4, a5, a6, a7⟩ := h.a
  obtain ⟨b1, b2, b3, b4, b5, b6, b7⟩ := h.b
  have hP := h.P
  dsimp only at a1 a2 a3 a4 a5 a6 b1 b2 b3 b4 b5 b6 hP
  subst a1 a4 a5 a6 b1 b4 b5 b6
  have e1 : dropN nY P2 = P2 := by
    unfold dropN
    rw [List.filter_eq_self]
    intro p hp
    rw [a3 p hp]
    decide
  have e2 : (P2.map fun p => if p.1 == nX then (nY, p.2) else p) = P := by
    rw [hP]
    apply List.map_congr_left
    intro p hp
    rw [a3 p hp, beq_self_eq_true, if_pos rfl]
  simp only [e1, e2, if_true]
  rfl

set_option maxHeartbeats 4000000 in
theorem fsMoves_known (V : Option Addr) (cv : Nat) (l : List Bx) (sy : Nat) (KA : Option Addr) (ka : Nat) (kp : List Bool) (ta : Int) (w : World) (hk : 20 < l.length ∨ 60 < kp.length) :
    Calls Try.prog 3 #[.slice V l.length cv, .int .u8 (sy : Nat), .agg #[.slice KA kp.length ka, .int .i64 ta]] w fun e w' => e = .returned (.bool true) ∧ Below w.heap.size w w' := by
  have HK := Lib.hid (fun w => fknown8_any w)
  obtain ⟨n, hn⟩ : ∃ n, n = l.length := ⟨_, rfl⟩
  obtain ⟨m, hm⟩ : ∃ n, n = kp.length := ⟨_, rfl⟩
  rw [← hn, ← hm] at hk ⊢
  clear hn hm
  obtain ⟨W, hW⟩ : ∃ W, W = w.alloc (.cells #[.slice KA m ka, .int .i64 ta] 25) := ⟨_, rfl⟩
  have hb : Below w.heap.size w W := by rw [hW]; exact below_alloc _ _
  have hB1 : Blk W w.heap.size 25 #[.slice KA m ka, .int .i64 ta] := by rw [hW]; exact Blk.new _ _ _
  have C1 := fbsays hB1
  simp only [cellsSay, Nat.reduceAdd, and_true] at C1
  have HW := Lib.hid hb
  clear hb hB1
  by_cases h20 : 20 < n
  · have d1 : decide ((20 : Int) < (n : Int)) = true := decide_eq_true (by omega)
    clear hk h20
    go_enter Try.func3, Try.ntmps3
    go_upto_region 1 with fail
    rw [← hW]
    clear hW
    go_wp2_with fail
    refine (HK.out W).mono ?_
    rintro e w1 ⟨rfl, h1⟩
    have H1 := Lib.hid h1
    clear h1 HK C1
    go_wp2_with fail
    go_ret
    exact ⟨rfl, on1 HW.out H1.out⟩
  · have d1 : decide ((20 : Int) < (n : Int)) = false := decide_eq_false (by omega)
    have d2 : decide ((60 : Int) < (m : Int)) = true := decide_eq_true (by omega)
    clear hk h20
    go_enter Try.func3, Try.ntmps3
    go_upto_region 1 with fail
    rw [← hW]
    clear hW
    go_wp2_with fail
    refine (HK.out W).mono ?_
    rintro e w1 ⟨rfl, h1⟩
    have H1 := Lib.hid h1
    clear h1 HK C1
    go_wp2_with fail
    go_ret
    exact ⟨rfl, on1 HW.out H1.out⟩

set_option maxHeartbeats 16000000 in
theorem fsMoves_main (V : Option Addr) (cv : Nat) (l : List Bx) (sy : Nat) (KA : Option Addr) (ka : Nat) (kp : List Bool) (ta : Int) (w : World) (hV : Rw w encBx 1 V l) (hx : ∀ x ∈ l, Bs w x.A x.b ∧ x.b.length ≤ maxLen) (hsy : sy < 256) (hA : Bo w KA kp) (h20 : ¬ 20 < l.length) (h60 : ¬ 60 < kp.length) :
    Calls Try.prog 3 #[.slice V l.length cv, .int .u8 (sy : Nat), .agg #[.slice KA kp.length ka, .int .i64 ta]] w fun e w' => e = .returned (.bool true) ∧ Below w.heap.size w w' := by
  have HK := Lib.hid (fun w => fknown8_any w)
  obtain ⟨n, hn⟩ : ∃ n, n = l.length := ⟨_, rfl⟩
  obtain ⟨m, hm⟩ : ∃ n, n = kp.length := ⟨_, rfl⟩
  rw [← hn] at h20 ⊢
  rw [← hm] at h60 ⊢
  obtain ⟨W, hW⟩ : ∃ W, W = w.alloc (.cells #[.slice KA m ka, .int .i64 ta] 25) := ⟨_, rfl⟩
  have hb : Below w.heap.size w W := by rw [hW]; exact below_alloc _ _
  have hB1 : Blk W w.heap.size 25 #[.slice KA m ka, .int .i64 ta] := by rw [hW]; exact Blk.new _ _ _
  have C1 := fbsays hB1
  simp only [cellsSay, Nat.reduceAdd, and_true] at C1
  have d1 : decide ((20 : Int) < (n : Int)) = false := decide_eq_false (by omega)
  have d2 : decide ((60 : Int) < (m : Int)) = false := decide_eq_false (by omega)
  obtain ⟨s2, hs2⟩ : ∃ s : Nat, s = sy % 20 := ⟨_, rfl⟩
  have f0 : (sy : Int) % 20 = (s2 : Int) := by rw [hs2]; omega
  have hs20 : s2 < 20 := by omega
  have hV0 : Rw W encBx 1 V l := hV.below hb (Nat.le_refl _)
  have hx0 : ∀ x ∈ l, Bs W x.A x.b := fun x hxm => (hx x hxm).1.below hb
  have hA0 : Bo W KA kp := fun i x hi => by
    obtain ⟨p, o, hAe, hc⟩ := hA i x hi
    exact ⟨p, o, hAe, (hb.cell (cell_lt hc)).trans hc⟩
  have HI := Lib.hid (And.intro hV0 (And.intro hx0 (And.intro hA0 (And.intro hn (And.intro hm (And.intro hb hB1))))))
  have Hn20 := Lib.hid h20
  have Hm60 := Lib.hid h60
  clear hV0 hx0 hA0 hn hm hb hV hx hA h20 h60 hs2 hB1
  go_enter Try.func3, Try.ntmps3
  go_upto_region 1 with fail
  rw [← hW]
  clear hW
  go_wp2_with fail
  refine (HK.out W).mono ?_
  rintro e w1 ⟨rfl, h1⟩
  have H1 := Lib.hid h1
  have HC := Lib.hid (new_any (Sep.nil (on1 (Below.refl W.heap.size W) h1) h1.size) 10000 (by omega))
  clear h1 HK C1
  go_wp2_with fail
  refine HC.out.mono ?_
  rintro e w2 ⟨qa, rfl, h2⟩
  obtain ⟨bm, VW, T, hs2, hi2⟩ := h2
  have Hi2 := Lib.hid hi2
  have HC2 := Lib.hid (new_any hs2 10000 (by omega))
  clear hs2 hi2 HC H1
  go_wp2_with fail
  refine HC2.out.mono ?_
  rintro e w3 ⟨qb, rfl, h3⟩
  have h3 : Fs2 W.heap.size W w3 qa 10000 fd0 qb 10000 fd0 [] := (Fs2.made h3 Hi2.out).swap
  have HC := Lib.hid (h3.lift (fun us hu => create_any nX (by decide) hu (by decide)))
  rw [show (createD fd0 nX).1 = 0 from by kernel_rfl] at HC
  clear h3 HC2 Hi2
  go_wp2_with fail
  refine HC.out.mono ?_
  rintro e w4 ⟨rfl, h4⟩
  have HC2 := Lib.hid (h4.lift2 (fun us hu => create_any nY (by decide) hu (by decide)))
  rw [show (createD fd0 nY).1 = 0 from by kernel_rfl] at HC2
  clear h4 HC
  go_wp2_with fail
  refine HC2.out.mono ?_
  rintro e w5 ⟨rfl, h5⟩
  obtain ⟨da, hda⟩ : ∃ d, d = (createD fd0 nX).2 := ⟨_, rfl⟩
  obtain ⟨db, hdb⟩ : ∃ d, d = (createD fd0 nY).2 := ⟨_, rfl⟩
  rw [← hda, ← hdb] at h5
  have H5 := Lib.hid (show Fs2 W.heap.size W w5 qa 10000 da qb 10000 db [] ∧ Two [] 0 da db ∧ da.P = [] from ⟨h5, by rw [hda, hdb]; exact two_new, by rw [hda]; rfl⟩)
  clear h5 HC2 hda hdb
  go_wp2_with fail
  go_loopw [9] (fun s wr => ∃ k : Nat, k ≤ n ∧ s = .int .i64 k ∧ Hid (∃ all nn da db, Fs2 W.heap.size W wr qa 10000 da qb 10000 db [] ∧ Two all nn da db ∧ da.P.length ≤ k ∧ all.length ≤ 300 * k)) (fun s _ => n - (intOf s).toNat)
  case atStart => exact ⟨0, Nat.zero_le _, rfl, Lib.hid ⟨[], 0, da, db, H5.out.1, H5.out.2.1, by rw [H5.out.2.2]; exact Nat.le_refl _, Nat.zero_le _⟩⟩
  case round =>
    obtain ⟨k, hkn, rfl, HR⟩ := hrel
    clear H5 da db
    by_cases hlt : k < n
    · obtain ⟨x, hx⟩ : ∃ x, l[k]? = some x := ⟨_, List.getElem?_eq_getElem (by rw [← HI.out.2.2.2.1]; exact hlt)⟩
      obtain ⟨all, nn, da, db, r2, r3, r4, r5⟩ := HR.out
      obtain ⟨p, o, rfl, hc⟩ := HI.out.1 k x hx
      have hbx := HI.out.2.1 x (List.mem_of_getElem? hx)
      have c0 := r2.old (Nat.le_refl _) (hc 0 _ rfl)
      simp only [Nat.add_zero, Nat.mul_one] at c0
      obtain ⟨lx, hlx⟩ : ∃ m, m = x.b.length := ⟨_, rfl⟩
      rw [← hlx] at c0
      have hkl : (k : Int) < (n : Int) := by omega
      have hk0 : (0 : Int) ≤ (k : Int) := by omega
      by_cases h3 : 300 < lx
      · have d3 : decide ((300 : Int) < (lx : Int)) = true := decide_eq_true (by omega)
        have HB := Lib.hid r2.b
        clear r2 r3 r4 r5 HR hc hbx hx hlx h3
        go_wp2_with fail
        go_ret
        exact ⟨rfl, HI.out.2.2.2.2.2.1.trans (HB.out.mono (HI.out.2.2.2.2.2.1.size))⟩
      · have d3 : decide ((300 : Int) < (lx : Int)) = false := decide_eq_false (by omega)
        have hn20 := Hn20.out
        have a1 := (r3.a.append 10000 x.b (by omega)).1
        have a3 := (r3.a.append 10000 x.b (by omega)).2.2
        have b1 := (r3.b.append 10000 x.b (by omega)).1
        have a2 := r3.append 10000 x.b (by omega)
        have hbl : db.P.length = da.P.length := by rw [r3.P, List.length_map]
        have HC := Lib.hid (r2.lift (fun us hu => append_any nX (by decide) x.A x.c x.b hu (by omega) (by omega) (fun W' d' hs => hs.bs (Nat.le_refl _) hbx) (by rw [r3.a.lf]; omega) (by rw [r3.a.used]; omega) (by omega)))
        have e1 : (appendD (10000 : Nat) da nX x.b).1 = 0 := a1
        rw [← hlx, e1] at HC
        obtain ⟨d1, hd1⟩ : ∃ d1, d1 = (appendD (10000 : Nat) da nX x.b).2 := ⟨_, rfl⟩
        rw [← hd1] at HC
        have HB2 : Hid (∀ w6, Fs2 W.heap.size W w6 qa 10000 d1 qb 10000 db [] → Calls Try.prog 16 #[.pointer (some ⟨qb, 0, none⟩), .string ⟨#[121]⟩, .slice x.A lx x.c] w6 fun e w' => e = .returned (.int .u16 0) ∧ Fs2 W.heap.size W w' qa 10000 d1 qb 10000 (appendD (10000 : Nat) db nY x.b).2 []) := Lib.hid (fun w6 h6 => by
          have h9 := h6.lift2 (fun us hu => append_any nY (by decide) x.A x.c x.b hu (by omega) (by omega) (fun W' d' hs => hs.bs (Nat.le_refl _) hbx) (by rw [r3.b.lf]; omega) (by rw [r3.b.used]; omega) (by omega))
          have e2 : (appendD (10000 : Nat) db nY x.b).1 = 0 := b1
          rw [← hlx, e2] at h9
          exact h9)
        have a2 : Two (all ++ x.b) nn d1 (appendD (10000 : Nat) db nY x.b).2 := by rw [hd1]; exact a2
        obtain ⟨d2, hd2⟩ : ∃ d1, d1 = (appendD (10000 : Nat) db nY x.b).2 := ⟨_, rfl⟩
        rw [← hd2] at HB2 a2
        have a3 : d1.P.length ≤ da.P.length + 1 := by rw [hd1]; exact a3
        have HX := Lib.hid (show Two (all ++ x.b) nn d1 d2 ∧ d1.P.length ≤ k + 1 ∧ (all ++ x.b).length ≤ 300 * (k + 1) ∧ W.cell? ⟨p, o + k, none⟩ = some (.slice x.A lx x.c) from ⟨a2, by omega, by rw [List.length_append]; omega, by have := hc 0 _ rfl; simp only [Nat.add_zero, Nat.mul_one] at this; rw [← hlx] at this; exact this⟩)
        obtain ⟨all7, hall7⟩ : ∃ m, m = all ++ x.b := ⟨_, rfl⟩
        rw [← hall7] at HX
        clear r2 r3 r4 r5 a1 a2 a3 b1 e1 hd1 hd2 HR hc hbx hx hlx h3 hbl hall7
        go_wp2_with fail
        refine HC.out.mono ?_
        rintro e w6 ⟨rfl, h6⟩
        have c0 := h6.old (Nat.le_refl _) HX.out.2.2.2
        have HC2 := Lib.hid (HB2.out w6 h6)
        clear h6 HC HB2
        go_wp2_with fail
        refine HC2.out.mono ?_
        rintro e w7 ⟨rfl, h7⟩
        have H7 := Lib.hid h7
        clear h7 HC2 c0
        by_cases hks : k < s2
        · have d4 : decide ((k : Int) < (s2 : Int)) = true := decide_eq_true (by omega)
          have hks' : (k : Int) < (s2 : Int) := by omega
          have b1 := HX.out.1.a.sync.1
          have b1' := HX.out.1.b.sync.1
          have b2 := HX.out.1.sync
          have b3 := HX.out.1.a.sync.2.2
          have HC := Lib.hid (H7.out.lift (fun us hu => sync_any nX (by decide) hu (by rw [HX.out.1.a.lf]; omega)))
          rw [b1] at HC
          obtain ⟨d8, hd8⟩ : ∃ d, d = (syncD d1 nX).2 := ⟨_, rfl⟩
          obtain ⟨d9, hd9⟩ : ∃ d, d = (syncD d2 nY).2 := ⟨_, rfl⟩
          rw [← hd8] at HC b2 b3
          rw [← hd9] at b2
          have HB2 : Hid (∀ w6, Fs2 W.heap.size W w6 qa 10000 d8 qb 10000 d2 [] → Calls Try.prog 17 #[.pointer (some ⟨qb, 0, none⟩), .string ⟨#[121]⟩] w6 fun e w' => e = .returned (.int .u16 0) ∧ Fs2 W.heap.size W w' qa 10000 d8 qb 10000 d9 []) := Lib.hid (fun w6 h6 => by
            have h9 := h6.lift2 (fun us hu => sync_any nY (by decide) hu (by rw [HX.out.1.b.lf]; omega))
            rw [b1', ← hd9] at h9
            exact h9)
          have HX3 := Lib.hid (And.intro b2 b3)
          clear b1 b1' b2 b3 hd8 hd9 hks
          go_wp2_with fail
          refine HC.out.mono ?_
          rintro e w8 ⟨rfl, h8⟩
          have HC2 := Lib.hid (HB2.out w8 h8)
          clear h8 HC HB2
          go_wp2_with fail
          refine HC2.out.mono ?_
          rintro e w9 ⟨rfl, h9⟩
          have H9 := Lib.hid h9
          clear h9 HC2
          go_wp2_with fail
          go_roundw
          case measure => simp [intOf]; omega
          case rel => exact ⟨k + 1, by omega, by go_num, Lib.hid ⟨all7, all7.length, d8, d9, H9.out, HX3.out.1, by rw [HX3.out.2]; exact Nat.zero_le _, HX.out.2.2.1⟩⟩
        · have d4 : decide ((k : Int) < (s2 : Int)) = false := decide_eq_false (by omega)
          have hks' : ¬ (k : Int) < (s2 : Int) := by omega
          clear hks
          go_wp2_with fail
          go_roundw
          case measure => simp [intOf]; omega
          case rel => exact ⟨k + 1, by omega, by go_num, Lib.hid ⟨all7, nn, d1, d2, H7.out, HX.out.1, HX.out.2.1, HX.out.2.2.1⟩⟩
    · obtain rfl : k = n := by omega
      have hkk : ¬ ((k : Int) < (k : Int)) := by omega
      obtain ⟨all, nn, da, db, r2, r3, r4, r5⟩ := HR.out
      have hm60 := Hm60.out
      have HC := Lib.hid (r2.lift (fun us hu => rename_any nX nY (by decide) (by decide) hu (by rw [r3.a.lf]; omega)))
      rw [r3.rename] at HC
      have HX := Lib.hid r3
      clear r2 r3 r4 r5 HR
      go_wp2_with fail
      refine HC.out.mono ?_
      rintro e w6 ⟨rfl, h6⟩
      have HC2 := Lib.hid (h6.one.elim fun us hu => waits_any hu)
      have H6 := Lib.hid h6
      clear h6 HC
      go_wp2_with fail
      refine HC2.out.mono ?_
      rintro e w7 ⟨rfl, hw7⟩
      rw [hw7]
      obtain ⟨np, hnp⟩ : ∃ m, m = db.P.length := ⟨_, rfl⟩
      rw [← hnp]
      have Hnp := Lib.hid hnp
      obtain ⟨d5, hd5⟩ : ∃ d5, d5 = crashD db (kpt kp) ta := ⟨_, rfl⟩
      have HC := Lib.hid (H6.out.lift (fun us hu => crash_any kp KA ka m HI.out.2.2.2.2.1 ta hu (fun W' hs => sep_keepK hs (Nat.le_refl _) HI.out.2.2.1) (by omega)))
      have c1 : w6.cell? ⟨w.heap.size, 0, none⟩ = some (.slice KA m ka) := H6.out.old (Nat.le_refl _) (HI.out.2.2.2.2.2.2.cell 0)
      have c2 : w6.cell? ⟨w.heap.size, 1, none⟩ = some (.int .i64 ta) := H6.out.old (Nat.le_refl _) (HI.out.2.2.2.2.2.2.cell 1)
      rw [← hd5] at HC
      clear hw7 HC2 H6 hnp
      go_wp2_with fail
      refine HC.out.mono ?_
      rintro e w8 ⟨rfl, h8⟩
      have HC2 := Lib.hid (h8.swap.one.elim fun us hu => waits_any hu)
      rw [← Hnp.out] at HC2
      have H8 := Lib.hid h8
      clear h8 HC c1 c2
      go_wp2_with fail
      refine HC2.out.mono ?_
      rintro e w9 ⟨rfl, hw9⟩
      rw [hw9]
      have HC := Lib.hid (H8.out.lift2 (fun us hu => crash_any kp KA ka m HI.out.2.2.2.2.1 ta hu (fun W' hs => sep_keepK hs (Nat.le_refl _) HI.out.2.2.1) (by omega)))
      have c1 : w8.cell? ⟨w.heap.size, 0, none⟩ = some (.slice KA m ka) := H8.out.old (Nat.le_refl _) (HI.out.2.2.2.2.2.2.cell 0)
      have c2 : w8.cell? ⟨w.heap.size, 1, none⟩ = some (.int .i64 ta) := H8.out.old (Nat.le_refl _) (HI.out.2.2.2.2.2.2.cell 1)
      rw [← hd5] at HC
      have knp : ((np : Int) == (np : Int)) = true := beq_self_eq_true _
      clear hw9 HC2 H8 hd5
      go_wp2_with fail
      refine HC.out.mono ?_
      rintro e w10 ⟨rfl, h10⟩
      have HC2 := Lib.hid (h10.one.elim fun us hu => lfiles_any hu)
      have H10 := Lib.hid h10
      clear h10 HC c1 c2
      go_wp2_with fail
      refine HC2.out.mono ?_
      rintro e w11 ⟨R4, c4, L4, rfl, h11⟩
      obtain ⟨p4, m4, b4, f4⟩ := h11.out
      have h12 := H10.out.cons b4 p4 f4
      have HC := Lib.hid (h12.swap.one.elim fun us hu => lfiles_any hu)
      have H12 := Lib.hid (And.intro h12 m4)
      clear h12 p4 m4 b4 f4 h11 HC2 H10
      go_wp2_with fail
      refine HC.out.mono ?_
      rintro e w13 ⟨R6, c6, L6, rfl, h13⟩
      obtain ⟨p6, m6, b6, f6⟩ := h13.out
      have h14 := H12.out.1.go b6
      obtain ⟨us, hus⟩ := h14.one
      have h8 := hus.f8
      have hS := rsame8_any R4 R6 c4 c6 L4 L6 w13 (es_thE (h14.get (t := thE (.slice R4 d5.F.length c4) L4) 0 rfl)) (es_thE p6) (by rw [fs_len H12.out.2]; omega) (by rw [fs_len m6]; omega)
      rw [fs_len H12.out.2, fs_len m6, H12.out.2, m6, decide_eq_true rfl] at hS
      obtain ⟨n6, hn6⟩ : ∃ x, x = d5.F.length := ⟨_, rfl⟩
      rw [← hn6] at hS ⊢
      have HS := Lib.hid hS
      have HB := Lib.hid h14.b
      clear hS h8 us hus h14 p6 m6 b6 f6 h13 HC H12 hn6
      go_wp2_with fail
      refine HS.out.mono ?_
      rintro e w15 ⟨rfl, h15⟩
      have H15 := Lib.hid (on1 HB.out h15)
      clear h15 HS HB
      go_wp2_with fail
      go_ret
      exact ⟨rfl, HI.out.2.2.2.2.2.1.trans (H15.out.mono (HI.out.2.2.2.2.2.1.size))⟩

theorem fsMoves_walk (V : Option Addr) (cv : Nat) (l : List Bx) (sy : Nat) (KA : Option Addr) (ka : Nat) (kp : List Bool) (ta : Int) (w : World) (hV : Rw w encBx 1 V l) (hx : ∀ x ∈ l, Bs w x.A x.b ∧ x.b.length ≤ maxLen) (hsy : sy < 256) (hA : Bo w KA kp) :
    Calls Try.prog 3 #[.slice V l.length cv, .int .u8 (sy : Nat), .agg #[.slice KA kp.length ka, .int .i64 ta]] w fun e w' => e = .returned (.bool true) ∧ Below w.heap.size w w' := by
  by_cases hk : 20 < l.length ∨ 60 < kp.length
  · exact fsMoves_known V cv l sy KA ka kp ta w hk
  · exact fsMoves_main V cv l sy KA ka kp ta w hV hx hsy hA (fun h => hk (.inl h)) (fun h => hk (.inr h))

end Go.Proofs.Ytiogckgchlnldaa

/- Layer 8: walk of FsHalts. -/
set_option linter.unusedSimpArgs false
set_option linter.unusedVariables false
namespace Go.Proofs.Ytiogckgchlnldaa
open Go.RowKit
set_option maxRecDepth 100000

/-- one that is halted behind lv more calls, and one that is not -/
structure Hl (lv : Int) (da db : Fd) : Prop where
  F : da.F = db.F
  P : da.P = db.P
  st : db.st = false
  lf : db.lf = 0
  a : 0 ≤ lv → da.st = true ∧ da.lf = lv.toNat ∧ da.dd = false
theorem usedD_eq {da db : Fd} (hF : da.F = db.F) (hP : da.P = db.P) : usedD da = usedD db := by unfold usedD; rw [hF, hP]
theorem nbD_eq {da db : Fd} (hF : da.F = db.F) (hP : da.P = db.P) : nbD da = nbD db := by unfold nbD; rw [hF, hP]
theorem crash_eq {da db : Fd} (hF : da.F = db.F) (hP : da.P = db.P) (kept : Nat → Bool) (torn : Int) : crashD da kept torn = crashD db kept torn := by unfold crashD; rw [hF, hP]
/-- what a call does to both -/
theorem hl_play (room : Int) (o : Op8) (h10 : o.kd % 14 ≤ 10) {lf : Nat} {da db : Fd} (h : Hl lf da db) : ∃ c, (playD room da o).1 = c ∧ (playD room db o).1 = c ∧
    ((c ≠ 0 ∨ usedO o = false) → (playD room da o).2 = da ∧ (playD room db o).2 = db) ∧
    (c = 0 → usedO o = true → (0 < lf → Hl ((lf - 1 : Nat) : Int) (playD room da o).2 (playD room db o).2) ∧ (lf = 0 → Hl (-1) (playD room da o).2 db ∧ (playD room da o).2.dd = true)) := by
  obtain ⟨c, F', P', hf⟩ := play_form room db.F db.P o h10
  have ha := hf da h.F h.P
  have hb := hf db rfl rfl
  rw [ha, hb]
  obtain ⟨a1, a2, a3⟩ := h.a (by omega)
  refine ⟨c, rfl, rfl, fun hc => ?_, fun h0 hu => ?_⟩
  · have : ¬ (c = 0 ∧ usedO o = true) := by
      rintro ⟨h1, h2⟩
      rcases hc with h3 | h3
      · exact h3 h1
      · rw [h3] at h2; cases h2
    simp only [if_neg this]
    exact ⟨trivial, trivial⟩
  · simp only [if_pos (And.intro h0 hu)]
    have rb : runsD db = (true, db) := by unfold runsD; rw [if_pos h.st]
    have e2 : da.lf = lf := by rw [a2]; omega
    refine ⟨fun hl => ?_, fun hl => ?_⟩
    · have ra : runsD da = (true, { da with lf := da.lf - 1 }) := by unfold runsD; rw [if_neg (by rw [a1]; simp), if_pos (by rw [e2]; exact hl)]
      unfold runTo
      rw [ra, rb]
      exact ⟨rfl, rfl, h.st, h.lf, fun _ => ⟨a1, by show da.lf - 1 = _; rw [e2]; omega, a3⟩⟩
    · have ra : runsD da = (false, { da with dd := true }) := by unfold runsD; rw [if_neg (by rw [a1]; simp), if_neg (by rw [e2]; omega)]
      unfold runTo
      rw [ra]
      exact ⟨⟨h.F, h.P, h.st, h.lf, fun h9 => by omega⟩, rfl⟩

set_option maxHeartbeats 4000000 in
theorem fsHalts_known (V : Option Addr) (cv : Nat) (l : List Op8) (sy : Nat) (KA : Option Addr) (ka : Nat) (kp : List Bool) (ta : Int) (w : World) (hV : Rw w encOp8 7 V l) (hl : l.length ≤ maxLen) (hk : heavyL l = true ∨ 60 < kp.length) :
    Calls Try.prog 7 #[.slice V l.length cv, .int .u8 (sy : Nat), .agg #[.slice KA kp.length ka, .int .i64 ta]] w fun e w' => e = .returned (.bool true) ∧ Below w.heap.size w w' := by
  have HK := Lib.hid (fun w => fknown8_any w)
  obtain ⟨W, hW⟩ : ∃ W, W = w.alloc (.cells #[.slice KA kp.length ka, .int .i64 ta] 25) := ⟨_, rfl⟩
  have hb : Below w.heap.size w W := by rw [hW]; exact below_alloc _ _
  have HH := Lib.hid (heavy8_any V cv l W (hV.below hb (Nat.le_refl _)) hl)
  obtain ⟨n, hn⟩ : ∃ n, n = l.length := ⟨_, rfl⟩
  obtain ⟨m, hm⟩ : ∃ n, n = kp.length := ⟨_, rfl⟩
  rw [← hm] at hk hW ⊢
  rw [← hn] at HH ⊢
  clear hn hm
  have hB1 : Blk W w.heap.size 25 #[.slice KA m ka, .int .i64 ta] := by rw [hW]; exact Blk.new _ _ _
  have HB1 := Lib.hid hB1
  have HW := Lib.hid hb
  clear hb hB1 hV hl
  cases hh : heavyL l with
  | true =>
    rw [hh] at HH
    clear hk hh HB1
    go_enter Try.func7, Try.ntmps7
    go_upto_region 1 with fail
    rw [← hW]
    clear hW
    go_wp2_with fail
    refine HH.out.mono ?_
    rintro e w0 ⟨rfl, h0⟩
    have H0 := Lib.hid h0
    clear h0 HH
    go_wp2_with fail
    refine (HK.out w0).mono ?_
    rintro e w1 ⟨rfl, h1⟩
    have H1 := Lib.hid h1
    clear h1 HK
    go_wp2_with fail
    go_ret
    exact ⟨rfl, on1 (on1 HW.out H0.out) H1.out⟩
  | false =>
    rw [hh] at HH hk
    have d2 : decide ((60 : Int) < (m : Int)) = true := decide_eq_true (by have := hk.resolve_left (by simp); omega)
    clear hk hh
    go_enter Try.func7, Try.ntmps7
    go_upto_region 1 with fail
    rw [← hW]
    clear hW
    go_wp2_with fail
    refine HH.out.mono ?_
    rintro e w0 ⟨rfl, h0⟩
    have H0 := Lib.hid h0
    have C1 := fbsays (HB1.out.below h0 HB1.out.lt)
    simp only [cellsSay, Nat.reduceAdd, and_true] at C1
    clear h0 HH
    go_wp2_with fail
    refine (HK.out w0).mono ?_
    rintro e w1 ⟨rfl, h1⟩
    have H1 := Lib.hid h1
    clear h1 HK C1
    go_wp2_with fail
    go_ret
    exact ⟨rfl, on1 (on1 HW.out H0.out) H1.out⟩

set_option maxHeartbeats 40000000 in
theorem fsHalts_main (V : Option Addr) (cv : Nat) (l : List Op8) (sy : Nat) (KA : Option Addr) (ka : Nat) (kp : List Bool) (ta : Int) (w : World) (hV : Rw w encOp8 7 V l) (hl : l.length ≤ maxLen) (ho : ∀ o ∈ l, o.ok w) (hsy : sy < 256) (hA : Bo w KA kp) (hh : heavyL l = false) (h60 : ¬ 60 < kp.length) :
    Calls Try.prog 7 #[.slice V l.length cv, .int .u8 (sy : Nat), .agg #[.slice KA kp.length ka, .int .i64 ta]] w fun e w' => e = .returned (.bool true) ∧ Below w.heap.size w w' := by
  have HK := Lib.hid (fun w => fknown8_any w)
  obtain ⟨W, hW⟩ : ∃ W, W = w.alloc (.cells #[.slice KA kp.length ka, .int .i64 ta] 25) := ⟨_, rfl⟩
  have hb : Below w.heap.size w W := by rw [hW]; exact below_alloc _ _
  have hV0 : Rw W encOp8 7 V l := hV.below hb (Nat.le_refl _)
  have HH := Lib.hid (heavy8_any V cv l W hV0 hl)
  rw [hh] at HH
  obtain ⟨hn50, hbg⟩ := heavyL_no hh
  obtain ⟨n, hn⟩ : ∃ n, n = l.length := ⟨_, rfl⟩
  obtain ⟨m, hm⟩ : ∃ n, n = kp.length := ⟨_, rfl⟩
  rw [← hm] at h60 hW ⊢
  rw [← hn] at HH hn50 ⊢
  have hB1 : Blk W w.heap.size 25 #[.slice KA m ka, .int .i64 ta] := by rw [hW]; exact Blk.new _ _ _
  have d2 : decide ((60 : Int) < (m : Int)) = false := decide_eq_false (by omega)
  obtain ⟨s3, hs3⟩ : ∃ s : Nat, s = sy % 30 := ⟨_, rfl⟩
  have f30 : (sy : Int) % 30 = (s3 : Int) := by rw [hs3]; omega
  have hs30 : s3 < 30 := by omega
  have ho0 : ∀ o ∈ l, o.nm.length ≤ maxLen ∧ o.ot.length ≤ maxLen ∧ Bs W o.A o.b := fun o hm => ⟨(ho o hm).2.1, (ho o hm).2.2.1, (ho o hm).2.2.2.1.below hb⟩
  have hA0 : Bo W KA kp := fun i x hi => by
    obtain ⟨p, o, hAe, hc⟩ := hA i x hi
    exact ⟨p, o, hAe, (hb.cell (cell_lt hc)).trans hc⟩
  have HI := Lib.hid (And.intro hV0 (And.intro ho0 (And.intro hA0 (And.intro hn (And.intro hm (And.intro hb (And.intro hB1 hbg)))))))
  have Hm60 := Lib.hid h60
  have Hn50 := Lib.hid hn50
  have Hs30 := Lib.hid hs30
  clear hV0 ho0 hA0 hn hm hb hV ho hA h60 hs3 hB1 hbg hh hl hn50 hs30
  go_enter Try.func7, Try.ntmps7
  go_upto_region 1 with fail
  rw [← hW]
  clear hW
  go_wp2_with fail
  refine HH.out.mono ?_
  rintro e w0 ⟨rfl, h0⟩
  have H0 := Lib.hid h0
  have C1 := fbsays (HI.out.2.2.2.2.2.2.1.below h0 HI.out.2.2.2.2.2.2.1.lt)
  simp only [cellsSay, Nat.reduceAdd, and_true] at C1
  clear h0 HH
  go_wp2_with fail
  refine (HK.out w0).mono ?_
  rintro e w1 ⟨rfl, h1⟩
  have h1 := on1 (on1 (Below.refl W.heap.size W) H0.out) h1
  have HC := Lib.hid (new_any (Sep.nil h1 h1.size) 5000 (by omega))
  clear h1 HK C1 H0
  go_wp2_with fail
  refine HC.out.mono ?_
  rintro e w2 ⟨qa, rfl, h2⟩
  obtain ⟨bm, VW, T, hs2, hi2⟩ := h2
  have Hi2 := Lib.hid hi2
  have HC2 := Lib.hid (new_any hs2 5000 (by omega))
  clear hs2 hi2 HC
  go_wp2_with fail
  refine HC2.out.mono ?_
  rintro e w3 ⟨qb, rfl, h3⟩
  have h3 : Fs2 W.heap.size W w3 qa 5000 fd0 qb 5000 fd0 [] := (Fs2.made h3 Hi2.out).swap
  have HC := Lib.hid (h3.lift (fun us hu => halt_any (s3 : Int) hu))
  clear h3 HC2 Hi2
  go_wp2_with fail
  refine HC.out.mono ?_
  rintro e w4 ⟨rfl, h4⟩
  obtain ⟨da, hda⟩ : ∃ d, d = haltD fd0 (s3 : Int) := ⟨_, rfl⟩
  rw [← hda] at h4
  have H5 := Lib.hid (show Fs2 W.heap.size W w4 qa 5000 da qb 5000 fd0 [] ∧ Hl s3 da fd0 from ⟨h4, by rw [hda]; exact ⟨rfl, rfl, rfl, rfl, fun _ => ⟨rfl, rfl, rfl⟩⟩⟩)
  clear h4 HC hda
  go_wp2_with fail
  clear f30
  go_loopw [9, 10] (fun s9 s10 wr => ∃ (k : Nat) (lv : Int), k ≤ n ∧ -1 ≤ lv ∧ lv ≤ 30 ∧ s9 = .int .i64 lv ∧ s10 = .int .i64 k ∧ Hid (∃ da db, Fs2 W.heap.size W wr qa 5000 da qb 5000 db [] ∧ Hl lv da db ∧ usedD db ≤ 300 * k ∧ db.P.length ≤ k)) (fun _ s _ => n - (intOf s).toNat)
  case atStart => exact ⟨0, s3, Nat.zero_le _, by omega, by have := Hs30.out; omega, rfl, rfl, Lib.hid ⟨da, fd0, H5.out.1, H5.out.2, Nat.zero_le _, Nat.zero_le _⟩⟩
  case round =>
    obtain ⟨k, lv, hkn, hl1, hl2, rfl, rfl, HR⟩ := hrel
    clear H5 da
    have hn50 := Hn50.out
    by_cases hgo : k < n ∧ 0 ≤ lv
    · obtain ⟨hlt, hlv⟩ := hgo
      obtain ⟨lf, rfl⟩ := Int.eq_ofNat_of_zero_le hlv
      obtain ⟨o, hx⟩ : ∃ x, l[k]? = some x := ⟨_, List.getElem?_eq_getElem (by rw [← HI.out.2.2.2.1]; exact hlt)⟩
      obtain ⟨da, db, r1, r2, r3, r4⟩ := HR.out
      obtain ⟨p, f, rfl, hc⟩ := HI.out.1 k o hx
      have hom := List.mem_of_getElem? hx
      obtain ⟨g1, g2, g3, g4⟩ := bigO_no (HI.out.2.2.2.2.2.2.2 o hom)
      obtain ⟨ok1, ok2, ok3⟩ := HI.out.2.1 o hom
      have hkl : (k : Int) < (n : Int) := by omega
      have hk0 : (0 : Int) ≤ (k : Int) := by omega
      have hk1 : decide ((k : Int) < (n : Int)) = true := decide_eq_true hkl
      have hlv' : (0 : Int) ≤ (lf : Int) := hlv
      have c0 := r1.old (Nat.le_refl _) (hc 0 _ rfl)
      have c1 := r1.old (Nat.le_refl _) (hc 1 _ rfl)
      have c2 := r1.old (Nat.le_refl _) (hc 2 _ rfl)
      have c3 := r1.old (Nat.le_refl _) (hc 3 _ rfl)
      have c4 := r1.old (Nat.le_refl _) (hc 4 _ rfl)
      have c5 := r1.old (Nat.le_refl _) (hc 5 _ rfl)
      have c6 := r1.old (Nat.le_refl _) (hc 6 _ rfl)
      simp only [Nat.add_zero] at c0
      obtain ⟨m14, hm14⟩ : ∃ m : Nat, m = o.kd % 14 := ⟨_, rfl⟩
      have f0 : (o.kd : Int) % 14 = (m14 : Int) := by rw [hm14]; omega
      have hPL := fun (us : List Kt) (d : Fd) (W6 : World) (q : Nat) (h6 : FsI W.heap.size W W6 q 5000 us d) (a1 : d.lf ≤ 1000000) (a2 : usedD d + o.b.length ≤ 100000) (a3 : d.P.length < 1000000) => plays_any o h6 ok1 ok2 (by omega) (by omega) (fun W' d' hs => hs.bs (Nat.le_refl _) ok3) a1 a2 a3
      have hplay := fun h10 => hl_play (5000 : Nat) o h10 r2
      have hbig := fun (T : List Ft) (hT : Fi db T) => play_used (o := o) (room := ((5000 : Nat) : Int)) hT (by omega) (by omega)
      have hlp := lp_play ((5000 : Nat) : Int) db o
      have husd : usedO o = (if m14 = 9 then !(o.nm == o.ot) else if m14 = 0 ∨ 5 < m14 then true else decide (0 < o.b.length)) := by rw [hm14]; rfl
      have hfdb := r1.fi.2
      have HX := Lib.hid (And.intro r2 (And.intro r3 (And.intro r4 (And.intro hPL (And.intro hplay (And.intro hbig (And.intro hlp (And.intro hm14 hfdb))))))))
      have Hus := Lib.hid husd
      have H1 := Lib.hid r1
      obtain ⟨kd, nm, ot, A, cc, b, n9, KA9, kc, kp9, to_⟩ := o
      dsimp only at c0 c1 c2 c3 c4 c5 c6 f0 g1
      obtain ⟨bl, hbl⟩ : ∃ m, m = b.length := ⟨_, rfl⟩
      obtain ⟨kl, hkl9⟩ : ∃ m, m = kp9.length := ⟨_, rfl⟩
      rw [← hbl] at c3
      rw [← hkl9] at c5
      obtain ⟨W2, hW2⟩ : ∃ W2, W2 = wr.alloc (.cells #[.int .u8 (kd : Nat), .string ⟨nm.toArray⟩, .string ⟨ot.toArray⟩, .slice A bl cc, .int .i64 n9, .slice KA9 kl kc, .int .i64 to_] 47) := ⟨_, rfl⟩
      obtain ⟨gq, hgq⟩ : ∃ g, g = wr.heap.size := ⟨_, rfl⟩
      have HBk := Lib.hid (show Fs2 W.heap.size W W2 qa 5000 da qb 5000 db [thB gq 47 #[.int .u8 (kd : Nat), .string ⟨nm.toArray⟩, .string ⟨ot.toArray⟩, .slice A bl cc, .int .i64 n9, .slice KA9 kl kc, .int .i64 to_]] from by
        rw [hW2, hgq]
        exact r1.cons (below_alloc _ _) (Blk.new _ _ _) (fun k e => by
          have e : k = wr.heap.size := e
          omega))
      have HPb := Lib.hid (And.intro hbl (And.intro hkl9 g1))
      clear r1 r2 r3 r4 HR hx hom g1 g2 g3 g4 ok1 ok2 ok3 hc hm14 hPL hplay hbig hlp husd hbl hkl9 hfdb hlv
      have C2 := fbsays (HBk.out.get (t := thB gq 47 #[.int .u8 (kd : Nat), .string ⟨nm.toArray⟩, .string ⟨ot.toArray⟩, .slice A bl cc, .int .i64 n9, .slice KA9 kl kc, .int .i64 to_]) 0 rfl)
      simp only [cellsSay, Nat.reduceAdd, and_true] at C2
      go_upto_region 13 with fail
      rw [← hW2, ← hgq]
      clear hW2 hgq c0 c1 c2 c3 c4 c5 c6
      by_cases h10 : 10 < m14
      · have d1 : decide ((10 : Int) < (m14 : Int)) = true := decide_eq_true (by omega)
        have HN := Lib.hid (show ∃ da db, Fs2 W.heap.size W W2 qa 5000 da qb 5000 db [] ∧ Hl lf da db ∧ usedD db ≤ 300 * (k + 1) ∧ db.P.length ≤ k + 1 from ⟨da, db, HBk.out.tail, HX.out.1, by have := HX.out.2.1; omega, by have := HX.out.2.2.1; omega⟩)
        clear h10
        go_wp2_with fail
        go_roundw
        case measure => simp [intOf]; omega
        case rel => exact ⟨k + 1, lf, by omega, by omega, hl2, rfl, by go_num, HN⟩
      · have d1 : decide ((10 : Int) < (m14 : Int)) = false := decide_eq_false (by omega)
        have hm10 : (⟨kd, nm, ot, A, cc, b, n9, KA9, kc, kp9, to_⟩ : Op8).kd % 14 ≤ 10 := by rw [← HX.out.2.2.2.2.2.2.2.1]; omega
        obtain ⟨c, p1, p2, p3, p4⟩ := HX.out.2.2.2.2.1 hm10
        obtain ⟨q1, q2, q3⟩ := HX.out.1.a (by omega)
        have hua := usedD_eq HX.out.1.F HX.out.1.P
        obtain ⟨r3, r4⟩ : usedD db ≤ 300 * k ∧ db.P.length ≤ k := ⟨HX.out.2.1, HX.out.2.2.1⟩
        have g1 := HPb.out.2.2
        obtain ⟨da', hda'⟩ : ∃ d, d = (playD ((5000 : Nat) : Int) da ⟨kd, nm, ot, A, cc, b, n9, KA9, kc, kp9, to_⟩).2 := ⟨_, rfl⟩
        obtain ⟨db', hdb'⟩ : ∃ d, d = (playD ((5000 : Nat) : Int) db ⟨kd, nm, ot, A, cc, b, n9, KA9, kc, kp9, to_⟩).2 := ⟨_, rfl⟩
        have HCa : Hid (Calls Try.prog 31 #[.pointer (some ⟨qa, 0, none⟩), .agg #[.int .u8 (kd : Nat), .string ⟨nm.toArray⟩, .string ⟨ot.toArray⟩, .slice A bl cc, .int .i64 n9, .slice KA9 kl kc, .int .i64 to_]] W2 fun e w' => e = .returned (.int .u16 (c : Nat)) ∧ Fs2 W.heap.size W w' qa 5000 da' qb 5000 db [thB gq 47 #[.int .u8 (kd : Nat), .string ⟨nm.toArray⟩, .string ⟨ot.toArray⟩, .slice A bl cc, .int .i64 n9, .slice KA9 kl kc, .int .i64 to_]]) := Lib.hid (by
          have h9 := HBk.out.lift (fun us hu => HX.out.2.2.2.1 us da W2 qa hu (by rw [q2]; omega) (by rw [hua]; show _ + b.length ≤ _; omega) (by rw [HX.out.1.P]; omega))
          rw [p1, ← hda'] at h9
          rw [HPb.out.1, HPb.out.2.1]
          rw [HPb.out.1, HPb.out.2.1] at h9
          exact h9)
        have HCb : Hid (∀ w6, Fs2 W.heap.size W w6 qa 5000 da' qb 5000 db [thB gq 47 #[.int .u8 (kd : Nat), .string ⟨nm.toArray⟩, .string ⟨ot.toArray⟩, .slice A bl cc, .int .i64 n9, .slice KA9 kl kc, .int .i64 to_]] → Calls Try.prog 31 #[.pointer (some ⟨qb, 0, none⟩), .agg #[.int .u8 (kd : Nat), .string ⟨nm.toArray⟩, .string ⟨ot.toArray⟩, .slice A bl cc, .int .i64 n9, .slice KA9 kl kc, .int .i64 to_]] w6 fun e w' => e = .returned (.int .u16 (c : Nat)) ∧ Fs2 W.heap.size W w' qa 5000 da' qb 5000 db' [thB gq 47 #[.int .u8 (kd : Nat), .string ⟨nm.toArray⟩, .string ⟨ot.toArray⟩, .slice A bl cc, .int .i64 n9, .slice KA9 kl kc, .int .i64 to_]]) := Lib.hid (fun w6 h6 => by
          have h9 := h6.lift2 (fun us hu => HX.out.2.2.2.1 us db w6 qb hu (by rw [HX.out.1.lf]; omega) (by show _ + b.length ≤ _; omega) (by omega))
          rw [p2, ← hdb'] at h9
          rw [HPb.out.1, HPb.out.2.1]
          rw [HPb.out.1, HPb.out.2.1] at h9
          exact h9)
        have Hsz : Hid (usedD db' ≤ 300 * (k + 1) ∧ db'.P.length ≤ k + 1 ∧ usedD db ≤ 300 * (k + 1) ∧ db.P.length ≤ k + 1) := Lib.hid (by
          obtain ⟨T, hT⟩ := HX.out.2.2.2.2.2.2.2.2
          have h1 := HX.out.2.2.2.2.2.1 T hT
          have h2 := HX.out.2.2.2.2.2.2.1.2
          rw [← hdb'] at h1 h2
          have h1 : usedD db' ≤ usedD db + b.length := h1
          refine ⟨by omega, by omega, by omega, by omega⟩)
        rw [← hda', ← hdb'] at p3 p4
        have HP := Lib.hid (And.intro p3 p4)
        have HlR := Lib.hid HX.out.1
        obtain ⟨uo, huo⟩ : ∃ u, u = usedO ⟨kd, nm, ot, A, cc, b, n9, KA9, kc, kp9, to_⟩ := ⟨_, rfl⟩
        rw [← huo] at Hus HP
        replace Hus : Hid (uo = (if m14 = 9 then !(nm == ot) else if m14 = 0 ∨ 5 < m14 then true else decide (0 < bl))) := by rw [HPb.out.1]; exact Hus
        have hm14 : m14 ≤ 10 := by omega
        have Hq3 := Lib.hid q3
        clear p1 p2 p3 p4 q1 q2 q3 hua r3 r4 g1 hda' hdb' h10 hm10 huo HX HPb
        obtain ⟨ub, hub⟩ : ∃ u, u = decide (0 < bl) := ⟨_, rfl⟩
        have eb : decide ((0 : Int) < (bl : Int)) = ub := by rw [hub]; exact decide_eq_decide.2 (by omega)
        have eb' : decide (0 < bl) = ub := hub.symm
        rw [← hub] at Hus
        clear hub
        go_upto_region 15 with fail
        go_wp2_with fail
        refine HCa.out.mono ?_
        rintro e w6 ⟨rfl, h6⟩
        have H6 := Lib.hid h6
        have C2 := fbsays (h6.get (t := thB gq 47 #[.int .u8 (kd : Nat), .string ⟨nm.toArray⟩, .string ⟨ot.toArray⟩, .slice A bl cc, .int .i64 n9, .slice KA9 kl kc, .int .i64 to_]) 0 rfl)
        simp only [cellsSay, Nat.reduceAdd, and_true] at C2
        have HCb2 := Lib.hid (HCb.out w6 h6)
        clear h6 HCa HCb eb eb'
        by_cases hcl0 : m14 = 9
        · have hcl := hcl0
          obtain rfl : m14 = 9 := hcl
          rw [show ((9 : Nat) : Int) = 9 from rfl] at f0
          cases hq : (nm == ot) with
          | true =>
            have hq' : (nm != ot) = false := by unfold bne; rw [hq]; rfl
            obtain rfl : uo = false := by rw [Hus.out, if_pos rfl, hq]; rfl
            by_cases hc0 : c = 0
            · have e0 : ((c : Int) == 0) = true := beq_iff_eq.2 (by omega)
              have hsame := HP.out.1 (Or.inr rfl)
              have hlv0 : decide ((0 : Int) ≤ (lf : Int)) = true := decide_eq_true (by omega)
              have hlv1 : decide ((lf : Int) < 0) = false := decide_eq_false (by omega)
              have HHa : Hid (∀ w7, Fs2 W.heap.size W w7 qa 5000 da' qb 5000 db' [thB gq 47 #[.int .u8 (kd : Nat), .string ⟨nm.toArray⟩, .string ⟨ot.toArray⟩, .slice A bl cc, .int .i64 n9, .slice KA9 kl kc, .int .i64 to_]] → Calls Try.prog 32 #[.pointer (some ⟨qa, 0, none⟩)] w7 fun e w' => e = .returned (.bool false) ∧ w' = w7) := Lib.hid (fun w7 h7 => by
                have h9 := h7.one.elim fun us hu => halted_any hu
                rw [hsame.1, Hq3.out] at h9
                exact h9)
              have HN := Lib.hid (show Hl (lf : Int) da' db' from by rw [hsame.1, hsame.2]; exact HlR.out)
              clear hsame hc0
              go_wp2_with fail
              refine HCb2.out.mono ?_
              rintro e w7 ⟨rfl, h7⟩
              have H7 := Lib.hid h7.tail
              have HC := Lib.hid (HHa.out w7 h7)
              clear h7 HCb2 C2 HHa
              go_wp2_with fail
              refine HC.out.mono ?_
              rintro e w8 ⟨rfl, hw8⟩
              rw [hw8]
              clear hw8 HC
              go_wp2_with fail
              go_roundw
              case measure => simp [intOf]; omega
              case rel => first | exact ⟨k + 1, lf, by omega, by omega, hl2, rfl, by go_num, Lib.hid ⟨da', db', H7.out, HN.out, Hsz.out.1, Hsz.out.2.1⟩⟩ | ((repeat apply Exists.intro); exact ⟨⟨k + 1, lf, by omega, by omega, hl2, rfl, by go_num, Lib.hid ⟨da', db', H7.out, HN.out, Hsz.out.1, Hsz.out.2.1⟩⟩, rfl⟩)
            · have e0 : ((c : Int) == 0) = false := beq_eq_false_iff_ne.2 (by omega)
              have hsame := HP.out.1 (Or.inl hc0)
              have hlv0 : decide ((0 : Int) ≤ (lf : Int)) = true := decide_eq_true (by omega)
              have hlv1 : decide ((lf : Int) < 0) = false := decide_eq_false (by omega)
              have HHa : Hid (∀ w7, Fs2 W.heap.size W w7 qa 5000 da' qb 5000 db' [thB gq 47 #[.int .u8 (kd : Nat), .string ⟨nm.toArray⟩, .string ⟨ot.toArray⟩, .slice A bl cc, .int .i64 n9, .slice KA9 kl kc, .int .i64 to_]] → Calls Try.prog 32 #[.pointer (some ⟨qa, 0, none⟩)] w7 fun e w' => e = .returned (.bool false) ∧ w' = w7) := Lib.hid (fun w7 h7 => by
                have h9 := h7.one.elim fun us hu => halted_any hu
                rw [hsame.1, Hq3.out] at h9
                exact h9)
              have HN := Lib.hid (show Hl (lf : Int) da' db' from by rw [hsame.1, hsame.2]; exact HlR.out)
              clear hsame hc0
              go_wp2_with fail
              refine HCb2.out.mono ?_
              rintro e w7 ⟨rfl, h7⟩
              have H7 := Lib.hid h7.tail
              have HC := Lib.hid (HHa.out w7 h7)
              clear h7 HCb2 C2 HHa
              go_wp2_with fail
              refine HC.out.mono ?_
              rintro e w8 ⟨rfl, hw8⟩
              rw [hw8]
              clear hw8 HC
              go_wp2_with fail
              go_roundw
              case measure => simp [intOf]; omega
              case rel => first | exact ⟨k + 1, lf, by omega, by omega, hl2, rfl, by go_num, Lib.hid ⟨da', db', H7.out, HN.out, Hsz.out.1, Hsz.out.2.1⟩⟩ | ((repeat apply Exists.intro); exact ⟨⟨k + 1, lf, by omega, by omega, hl2, rfl, by go_num, Lib.hid ⟨da', db', H7.out, HN.out, Hsz.out.1, Hsz.out.2.1⟩⟩, rfl⟩)
          | false =>
            have hq' : (nm != ot) = true := by unfold bne; rw [hq]; rfl
            obtain rfl : uo = true := by rw [Hus.out, if_pos rfl, hq]; rfl
            by_cases hc0 : c = 0
            · by_cases hlf : 0 < lf
              · have e0 : ((c : Int) == 0) = true := beq_iff_eq.2 (by omega)
                obtain ⟨lg, rfl⟩ : ∃ lg, lf = lg + 1 := ⟨lf - 1, by omega⟩
                have hrun := (HP.out.2 hc0 rfl).1 (by omega)
                rw [Nat.add_sub_cancel] at hrun
                have hwr : wrap64 (((lg + 1 : Nat) : Int) - 1) = (lg : Int) := by unfold wrap64; omega
                have hwr2 : (((lg + 1 : Nat) : Int) - 1) = (lg : Int) := by omega
                have hwr3 : ((lg : Int) + 1 - 1) = (lg : Int) := by omega
                have hlv0 : decide ((0 : Int) ≤ (lg : Int)) = true := decide_eq_true (by omega)
                have hlv1 : decide ((lg : Int) < 0) = false := decide_eq_false (by omega)
                have hlg0 : (0 : Int) ≤ (lg : Int) := by omega
                have hlg1 : ¬ (lg : Int) < 0 := by omega
                have HHa : Hid (∀ w7, Fs2 W.heap.size W w7 qa 5000 da' qb 5000 db' [thB gq 47 #[.int .u8 (kd : Nat), .string ⟨nm.toArray⟩, .string ⟨ot.toArray⟩, .slice A bl cc, .int .i64 n9, .slice KA9 kl kc, .int .i64 to_]] → Calls Try.prog 32 #[.pointer (some ⟨qa, 0, none⟩)] w7 fun e w' => e = .returned (.bool false) ∧ w' = w7) := Lib.hid (fun w7 h7 => by
                  have h9 := h7.one.elim fun us hu => halted_any hu
                  rw [(hrun.a (by omega)).2.2] at h9
                  exact h9)
                have HN := Lib.hid hrun
                clear hrun hc0
                go_wp2_with fail
                refine HCb2.out.mono ?_
                rintro e w7 ⟨rfl, h7⟩
                have H7 := Lib.hid h7.tail
                have HC := Lib.hid (HHa.out w7 h7)
                clear h7 HCb2 C2 HHa
                go_wp2_with fail
                refine HC.out.mono ?_
                rintro e w8 ⟨rfl, hw8⟩
                rw [hw8]
                clear hw8 HC
                go_wp2_with fail
                go_roundw
                case measure => simp [intOf]; omega
                case rel => first | exact ⟨k + 1, lg, by omega, by omega, by omega, by go_num, by go_num, Lib.hid ⟨da', db', H7.out, HN.out, Hsz.out.1, Hsz.out.2.1⟩⟩ | ((repeat apply Exists.intro); exact ⟨⟨k + 1, lg, by omega, by omega, by omega, by go_num, by go_num, Lib.hid ⟨da', db', H7.out, HN.out, Hsz.out.1, Hsz.out.2.1⟩⟩, rfl⟩)
              · have e0 : ((c : Int) == 0) = true := beq_iff_eq.2 (by omega)
                obtain rfl : lf = 0 := by omega
                have hrun := (HP.out.2 hc0 rfl).2 rfl
                have HHa := Lib.hid (H6.out.one.elim fun us hu => halted_any hu)
                rw [hrun.2] at HHa
                have HN := Lib.hid hrun.1
                clear hrun hc0 HCb2
                go_wp2_with fail
                refine HHa.out.mono ?_
                rintro e w8 ⟨rfl, hw8⟩
                rw [hw8]
                clear hw8 HHa C2
                go_wp2_with fail
                go_roundw
                case measure => simp [intOf]; omega
                case rel => first | exact ⟨k + 1, -1, by omega, by omega, by omega, rfl, by go_num, Lib.hid ⟨da', db, H6.out.tail, HN.out, Hsz.out.2.2.1, Hsz.out.2.2.2⟩⟩ | ((repeat apply Exists.intro); exact ⟨⟨k + 1, -1, by omega, by omega, by omega, rfl, by go_num, Lib.hid ⟨da', db, H6.out.tail, HN.out, Hsz.out.2.2.1, Hsz.out.2.2.2⟩⟩, rfl⟩)
            · have e0 : ((c : Int) == 0) = false := beq_eq_false_iff_ne.2 (by omega)
              have hsame := HP.out.1 (Or.inl hc0)
              have hlv0 : decide ((0 : Int) ≤ (lf : Int)) = true := decide_eq_true (by omega)
              have hlv1 : decide ((lf : Int) < 0) = false := decide_eq_false (by omega)
              have HHa : Hid (∀ w7, Fs2 W.heap.size W w7 qa 5000 da' qb 5000 db' [thB gq 47 #[.int .u8 (kd : Nat), .string ⟨nm.toArray⟩, .string ⟨ot.toArray⟩, .slice A bl cc, .int .i64 n9, .slice KA9 kl kc, .int .i64 to_]] → Calls Try.prog 32 #[.pointer (some ⟨qa, 0, none⟩)] w7 fun e w' => e = .returned (.bool false) ∧ w' = w7) := Lib.hid (fun w7 h7 => by
                have h9 := h7.one.elim fun us hu => halted_any hu
                rw [hsame.1, Hq3.out] at h9
                exact h9)
              have HN := Lib.hid (show Hl (lf : Int) da' db' from by rw [hsame.1, hsame.2]; exact HlR.out)
              clear hsame hc0
              go_wp2_with fail
              refine HCb2.out.mono ?_
              rintro e w7 ⟨rfl, h7⟩
              have H7 := Lib.hid h7.tail
              have HC := Lib.hid (HHa.out w7 h7)
              clear h7 HCb2 C2 HHa
              go_wp2_with fail
              refine HC.out.mono ?_
              rintro e w8 ⟨rfl, hw8⟩
              rw [hw8]
              clear hw8 HC
              go_wp2_with fail
              go_roundw
              case measure => simp [intOf]; omega
              case rel => first | exact ⟨k + 1, lf, by omega, by omega, hl2, rfl, by go_num, Lib.hid ⟨da', db', H7.out, HN.out, Hsz.out.1, Hsz.out.2.1⟩⟩ | ((repeat apply Exists.intro); exact ⟨⟨k + 1, lf, by omega, by omega, hl2, rfl, by go_num, Lib.hid ⟨da', db', H7.out, HN.out, Hsz.out.1, Hsz.out.2.1⟩⟩, rfl⟩)
        by_cases hcl1 : m14 = 0
        · have hcl := hcl1
          obtain rfl : m14 = 0 := hcl
          rw [show ((0 : Nat) : Int) = 0 from rfl] at f0
          obtain rfl : uo = true := by rw [Hus.out, if_neg (by omega), if_pos (Or.inl rfl)]
          by_cases hc0 : c = 0
          · by_cases hlf : 0 < lf
            · have e0 : ((c : Int) == 0) = true := beq_iff_eq.2 (by omega)
              obtain ⟨lg, rfl⟩ : ∃ lg, lf = lg + 1 := ⟨lf - 1, by omega⟩
              have hrun := (HP.out.2 hc0 rfl).1 (by omega)
              rw [Nat.add_sub_cancel] at hrun
              have hwr : wrap64 (((lg + 1 : Nat) : Int) - 1) = (lg : Int) := by unfold wrap64; omega
              have hwr2 : (((lg + 1 : Nat) : Int) - 1) = (lg : Int) := by omega
              have hwr3 : ((lg : Int) + 1 - 1) = (lg : Int) := by omega
              have hlv0 : decide ((0 : Int) ≤ (lg : Int)) = true := decide_eq_true (by omega)
              have hlv1 : decide ((lg : Int) < 0) = false := decide_eq_false (by omega)
              have hlg0 : (0 : Int) ≤ (lg : Int) := by omega
              have hlg1 : ¬ (lg : Int) < 0 := by omega
              have HHa : Hid (∀ w7, Fs2 W.heap.size W w7 qa 5000 da' qb 5000 db' [thB gq 47 #[.int .u8 (kd : Nat), .string ⟨nm.toArray⟩, .string ⟨ot.toArray⟩, .slice A bl cc, .int .i64 n9, .slice KA9 kl kc, .int .i64 to_]] → Calls Try.prog 32 #[.pointer (some ⟨qa, 0, none⟩)] w7 fun e w' => e = .returned (.bool false) ∧ w' = w7) := Lib.hid (fun w7 h7 => by
                have h9 := h7.one.elim fun us hu => halted_any hu
                rw [(hrun.a (by omega)).2.2] at h9
                exact h9)
              have HN := Lib.hid hrun
              clear hrun hc0
              go_wp2_with fail
              refine HCb2.out.mono ?_
              rintro e w7 ⟨rfl, h7⟩
              have H7 := Lib.hid h7.tail
              have HC := Lib.hid (HHa.out w7 h7)
              clear h7 HCb2 C2 HHa
              go_wp2_with fail
              refine HC.out.mono ?_
              rintro e w8 ⟨rfl, hw8⟩
              rw [hw8]
              clear hw8 HC
              go_wp2_with fail
              go_roundw
              case measure => simp [intOf]; omega
              case rel => first | exact ⟨k + 1, lg, by omega, by omega, by omega, by go_num, by go_num, Lib.hid ⟨da', db', H7.out, HN.out, Hsz.out.1, Hsz.out.2.1⟩⟩ | ((repeat apply Exists.intro); exact ⟨⟨k + 1, lg, by omega, by omega, by omega, by go_num, by go_num, Lib.hid ⟨da', db', H7.out, HN.out, Hsz.out.1, Hsz.out.2.1⟩⟩, rfl⟩)
            · have e0 : ((c : Int) == 0) = true := beq_iff_eq.2 (by omega)
              obtain rfl : lf = 0 := by omega
              have hrun := (HP.out.2 hc0 rfl).2 rfl
              have HHa := Lib.hid (H6.out.one.elim fun us hu => halted_any hu)
              rw [hrun.2] at HHa
              have HN := Lib.hid hrun.1
              clear hrun hc0 HCb2
              go_wp2_with fail
              refine HHa.out.mono ?_
              rintro e w8 ⟨rfl, hw8⟩
              rw [hw8]
              clear hw8 HHa C2
              go_wp2_with fail
              go_roundw
              case measure => simp [intOf]; omega
              case rel => first | exact ⟨k + 1, -1, by omega, by omega, by omega, rfl, by go_num, Lib.hid ⟨da', db, H6.out.tail, HN.out, Hsz.out.2.2.1, Hsz.out.2.2.2⟩⟩ | ((repeat apply Exists.intro); exact ⟨⟨k + 1, -1, by omega, by omega, by omega, rfl, by go_num, Lib.hid ⟨da', db, H6.out.tail, HN.out, Hsz.out.2.2.1, Hsz.out.2.2.2⟩⟩, rfl⟩)
          · have e0 : ((c : Int) == 0) = false := beq_eq_false_iff_ne.2 (by omega)
            have hsame := HP.out.1 (Or.inl hc0)
            have hlv0 : decide ((0 : Int) ≤ (lf : Int)) = true := decide_eq_true (by omega)
            have hlv1 : decide ((lf : Int) < 0) = false := decide_eq_false (by omega)
            have HHa : Hid (∀ w7, Fs2 W.heap.size W w7 qa 5000 da' qb 5000 db' [thB gq 47 #[.int .u8 (kd : Nat), .string ⟨nm.toArray⟩, .string ⟨ot.toArray⟩, .slice A bl cc, .int .i64 n9, .slice KA9 kl kc, .int .i64 to_]] → Calls Try.prog 32 #[.pointer (some ⟨qa, 0, none⟩)] w7 fun e w' => e = .returned (.bool false) ∧ w' = w7) := Lib.hid (fun w7 h7 => by
              have h9 := h7.one.elim fun us hu => halted_any hu
              rw [hsame.1, Hq3.out] at h9
              exact h9)
            have HN := Lib.hid (show Hl (lf : Int) da' db' from by rw [hsame.1, hsame.2]; exact HlR.out)
            clear hsame hc0
            go_wp2_with fail
            refine HCb2.out.mono ?_
            rintro e w7 ⟨rfl, h7⟩
            have H7 := Lib.hid h7.tail
            have HC := Lib.hid (HHa.out w7 h7)
            clear h7 HCb2 C2 HHa
            go_wp2_with fail
            refine HC.out.mono ?_
            rintro e w8 ⟨rfl, hw8⟩
            rw [hw8]
            clear hw8 HC
            go_wp2_with fail
            go_roundw
            case measure => simp [intOf]; omega
            case rel => first | exact ⟨k + 1, lf, by omega, by omega, hl2, rfl, by go_num, Lib.hid ⟨da', db', H7.out, HN.out, Hsz.out.1, Hsz.out.2.1⟩⟩ | ((repeat apply Exists.intro); exact ⟨⟨k + 1, lf, by omega, by omega, hl2, rfl, by go_num, Lib.hid ⟨da', db', H7.out, HN.out, Hsz.out.1, Hsz.out.2.1⟩⟩, rfl⟩)
        by_cases hcl2 : 5 < m14
        · have hcl := hcl2
          have k9 : ((m14 : Int) == 9) = false := beq_eq_false_iff_ne.2 (by omega)
          have k9' : ((m14 : Int) != 9) = true := by unfold bne; rw [k9]; rfl
          have k0 : ((m14 : Int) == 0) = false := beq_eq_false_iff_ne.2 (by omega)
          have k5 : decide ((5 : Int) < (m14 : Int)) = true := decide_eq_true (by omega)
          obtain rfl : uo = true := by rw [Hus.out, if_neg (by omega), if_pos (Or.inr hcl)]
          by_cases hc0 : c = 0
          · by_cases hlf : 0 < lf
            · have e0 : ((c : Int) == 0) = true := beq_iff_eq.2 (by omega)
              obtain ⟨lg, rfl⟩ : ∃ lg, lf = lg + 1 := ⟨lf - 1, by omega⟩
              have hrun := (HP.out.2 hc0 rfl).1 (by omega)
              rw [Nat.add_sub_cancel] at hrun
              have hwr : wrap64 (((lg + 1 : Nat) : Int) - 1) = (lg : Int) := by unfold wrap64; omega
              have hwr2 : (((lg + 1 : Nat) : Int) - 1) = (lg : Int) := by omega
              have hwr3 : ((lg : Int) + 1 - 1) = (lg : Int) := by omega
              have hlv0 : decide ((0 : Int) ≤ (lg : Int)) = true := decide_eq_true (by omega)
              have hlv1 : decide ((lg : Int) < 0) = false := decide_eq_false (by omega)
              have hlg0 : (0 : Int) ≤ (lg : Int) := by omega
              have hlg1 : ¬ (lg : Int) < 0 := by omega
              have HHa : Hid (∀ w7, Fs2 W.heap.size W w7 qa 5000 da' qb 5000 db' [thB gq 47 #[.int .u8 (kd : Nat), .string ⟨nm.toArray⟩, .string ⟨ot.toArray⟩, .slice A bl cc, .int .i64 n9, .slice KA9 kl kc, .int .i64 to_]] → Calls Try.prog 32 #[.pointer (some ⟨qa, 0, none⟩)] w7 fun e w' => e = .returned (.bool false) ∧ w' = w7) := Lib.hid (fun w7 h7 => by
                have h9 := h7.one.elim fun us hu => halted_any hu
                rw [(hrun.a (by omega)).2.2] at h9
                exact h9)
              have HN := Lib.hid hrun
              clear hrun hc0
              go_wp2_with fail
              refine HCb2.out.mono ?_
              rintro e w7 ⟨rfl, h7⟩
              have H7 := Lib.hid h7.tail
              have HC := Lib.hid (HHa.out w7 h7)
              clear h7 HCb2 C2 HHa
              go_wp2_with fail
              refine HC.out.mono ?_
              rintro e w8 ⟨rfl, hw8⟩
              rw [hw8]
              clear hw8 HC
              go_wp2_with fail
              go_roundw
              case measure => simp [intOf]; omega
              case rel => first | exact ⟨k + 1, lg, by omega, by omega, by omega, by go_num, by go_num, Lib.hid ⟨da', db', H7.out, HN.out, Hsz.out.1, Hsz.out.2.1⟩⟩ | ((repeat apply Exists.intro); exact ⟨⟨k + 1, lg, by omega, by omega, by omega, by go_num, by go_num, Lib.hid ⟨da', db', H7.out, HN.out, Hsz.out.1, Hsz.out.2.1⟩⟩, rfl⟩)
            · have e0 : ((c : Int) == 0) = true := beq_iff_eq.2 (by omega)
              obtain rfl : lf = 0 := by omega
              have hrun := (HP.out.2 hc0 rfl).2 rfl
              have HHa := Lib.hid (H6.out.one.elim fun us hu => halted_any hu)
              rw [hrun.2] at HHa
              have HN := Lib.hid hrun.1
              clear hrun hc0 HCb2
              go_wp2_with fail
              refine HHa.out.mono ?_
              rintro e w8 ⟨rfl, hw8⟩
              rw [hw8]
              clear hw8 HHa C2
              go_wp2_with fail
              go_roundw
              case measure => simp [intOf]; omega
              case rel => first | exact ⟨k + 1, -1, by omega, by omega, by omega, rfl, by go_num, Lib.hid ⟨da', db, H6.out.tail, HN.out, Hsz.out.2.2.1, Hsz.out.2.2.2⟩⟩ | ((repeat apply Exists.intro); exact ⟨⟨k + 1, -1, by omega, by omega, by omega, rfl, by go_num, Lib.hid ⟨da', db, H6.out.tail, HN.out, Hsz.out.2.2.1, Hsz.out.2.2.2⟩⟩, rfl⟩)
          · have e0 : ((c : Int) == 0) = false := beq_eq_false_iff_ne.2 (by omega)
            have hsame := HP.out.1 (Or.inl hc0)
            have hlv0 : decide ((0 : Int) ≤ (lf : Int)) = true := decide_eq_true (by omega)
            have hlv1 : decide ((lf : Int) < 0) = false := decide_eq_false (by omega)
            have HHa : Hid (∀ w7, Fs2 W.heap.size W w7 qa 5000 da' qb 5000 db' [thB gq 47 #[.int .u8 (kd : Nat), .string ⟨nm.toArray⟩, .string ⟨ot.toArray⟩, .slice A bl cc, .int .i64 n9, .slice KA9 kl kc, .int .i64 to_]] → Calls Try.prog 32 #[.pointer (some ⟨qa, 0, none⟩)] w7 fun e w' => e = .returned (.bool false) ∧ w' = w7) := Lib.hid (fun w7 h7 => by
              have h9 := h7.one.elim fun us hu => halted_any hu
              rw [hsame.1, Hq3.out] at h9
              exact h9)
            have HN := Lib.hid (show Hl (lf : Int) da' db' from by rw [hsame.1, hsame.2]; exact HlR.out)
            clear hsame hc0
            go_wp2_with fail
            refine HCb2.out.mono ?_
            rintro e w7 ⟨rfl, h7⟩
            have H7 := Lib.hid h7.tail
            have HC := Lib.hid (HHa.out w7 h7)
            clear h7 HCb2 C2 HHa
            go_wp2_with fail
            refine HC.out.mono ?_
            rintro e w8 ⟨rfl, hw8⟩
            rw [hw8]
            clear hw8 HC
            go_wp2_with fail
            go_roundw
            case measure => simp [intOf]; omega
            case rel => first | exact ⟨k + 1, lf, by omega, by omega, hl2, rfl, by go_num, Lib.hid ⟨da', db', H7.out, HN.out, Hsz.out.1, Hsz.out.2.1⟩⟩ | ((repeat apply Exists.intro); exact ⟨⟨k + 1, lf, by omega, by omega, hl2, rfl, by go_num, Lib.hid ⟨da', db', H7.out, HN.out, Hsz.out.1, Hsz.out.2.1⟩⟩, rfl⟩)
        have k9 : ((m14 : Int) == 9) = false := beq_eq_false_iff_ne.2 (by omega)
        have k0 : ((m14 : Int) == 0) = false := beq_eq_false_iff_ne.2 (by omega)
        have k5 : decide ((5 : Int) < (m14 : Int)) = false := decide_eq_false (by omega)
        obtain rfl : uo = ub := by rw [Hus.out, if_neg (by omega), if_neg (by omega)]
        cases uo with
        | true =>
          by_cases hc0 : c = 0
          · by_cases hlf : 0 < lf
            · have e0 : ((c : Int) == 0) = true := beq_iff_eq.2 (by omega)
              obtain ⟨lg, rfl⟩ : ∃ lg, lf = lg + 1 := ⟨lf - 1, by omega⟩
              have hrun := (HP.out.2 hc0 rfl).1 (by omega)
              rw [Nat.add_sub_cancel] at hrun
              have hwr : wrap64 (((lg + 1 : Nat) : Int) - 1) = (lg : Int) := by unfold wrap64; omega
              have hwr2 : (((lg + 1 : Nat) : Int) - 1) = (lg : Int) := by omega
              have hwr3 : ((lg : Int) + 1 - 1) = (lg : Int) := by omega
              have hlv0 : decide ((0 : Int) ≤ (lg : Int)) = true := decide_eq_true (by omega)
              have hlv1 : decide ((lg : Int) < 0) = false := decide_eq_false (by omega)
              have hlg0 : (0 : Int) ≤ (lg : Int) := by omega
              have hlg1 : ¬ (lg : Int) < 0 := by omega
              have HHa : Hid (∀ w7, Fs2 W.heap.size W w7 qa 5000 da' qb 5000 db' [thB gq 47 #[.int .u8 (kd : Nat), .string ⟨nm.toArray⟩, .string ⟨ot.toArray⟩, .slice A bl cc, .int .i64 n9, .slice KA9 kl kc, .int .i64 to_]] → Calls Try.prog 32 #[.pointer (some ⟨qa, 0, none⟩)] w7 fun e w' => e = .returned (.bool false) ∧ w' = w7) := Lib.hid (fun w7 h7 => by
                have h9 := h7.one.elim fun us hu => halted_any hu
                rw [(hrun.a (by omega)).2.2] at h9
                exact h9)
              have HN := Lib.hid hrun
              clear hrun hc0
              go_wp2_with fail
              refine HCb2.out.mono ?_
              rintro e w7 ⟨rfl, h7⟩
              have H7 := Lib.hid h7.tail
              have HC := Lib.hid (HHa.out w7 h7)
              clear h7 HCb2 C2 HHa
              go_wp2_with fail
              refine HC.out.mono ?_
              rintro e w8 ⟨rfl, hw8⟩
              rw [hw8]
              clear hw8 HC
              go_wp2_with fail
              go_roundw
              case measure => simp [intOf]; omega
              case rel => first | exact ⟨k + 1, lg, by omega, by omega, by omega, by go_num, by go_num, Lib.hid ⟨da', db', H7.out, HN.out, Hsz.out.1, Hsz.out.2.1⟩⟩ | ((repeat apply Exists.intro); exact ⟨⟨k + 1, lg, by omega, by omega, by omega, by go_num, by go_num, Lib.hid ⟨da', db', H7.out, HN.out, Hsz.out.1, Hsz.out.2.1⟩⟩, rfl⟩)
            · have e0 : ((c : Int) == 0) = true := beq_iff_eq.2 (by omega)
              obtain rfl : lf = 0 := by omega
              have hrun := (HP.out.2 hc0 rfl).2 rfl
              have HHa := Lib.hid (H6.out.one.elim fun us hu => halted_any hu)
              rw [hrun.2] at HHa
              have HN := Lib.hid hrun.1
              clear hrun hc0 HCb2
              go_wp2_with fail
              refine HHa.out.mono ?_
              rintro e w8 ⟨rfl, hw8⟩
              rw [hw8]
              clear hw8 HHa C2
              go_wp2_with fail
              go_roundw
              case measure => simp [intOf]; omega
              case rel => first | exact ⟨k + 1, -1, by omega, by omega, by omega, rfl, by go_num, Lib.hid ⟨da', db, H6.out.tail, HN.out, Hsz.out.2.2.1, Hsz.out.2.2.2⟩⟩ | ((repeat apply Exists.intro); exact ⟨⟨k + 1, -1, by omega, by omega, by omega, rfl, by go_num, Lib.hid ⟨da', db, H6.out.tail, HN.out, Hsz.out.2.2.1, Hsz.out.2.2.2⟩⟩, rfl⟩)
          · have e0 : ((c : Int) == 0) = false := beq_eq_false_iff_ne.2 (by omega)
            have hsame := HP.out.1 (Or.inl hc0)
            have hlv0 : decide ((0 : Int) ≤ (lf : Int)) = true := decide_eq_true (by omega)
            have hlv1 : decide ((lf : Int) < 0) = false := decide_eq_false (by omega)
            have HHa : Hid (∀ w7, Fs2 W.heap.size W w7 qa 5000 da' qb 5000 db' [thB gq 47 #[.int .u8 (kd : Nat), .string ⟨nm.toArray⟩, .string ⟨ot.toArray⟩, .slice A bl cc, .int .i64 n9, .slice KA9 kl kc, .int .i64 to_]] → Calls Try.prog 32 #[.pointer (some ⟨qa, 0, none⟩)] w7 fun e w' => e = .returned (.bool false) ∧ w' = w7) := Lib.hid (fun w7 h7 => by
              have h9 := h7.one.elim fun us hu => halted_any hu
              rw [hsame.1, Hq3.out] at h9
              exact h9)
            have HN := Lib.hid (show Hl (lf : Int) da' db' from by rw [hsame.1, hsame.2]; exact HlR.out)
            clear hsame hc0
            go_wp2_with fail
            refine HCb2.out.mono ?_
            rintro e w7 ⟨rfl, h7⟩
            have H7 := Lib.hid h7.tail
            have HC := Lib.hid (HHa.out w7 h7)
            clear h7 HCb2 C2 HHa
            go_wp2_with fail
            refine HC.out.mono ?_
            rintro e w8 ⟨rfl, hw8⟩
            rw [hw8]
            clear hw8 HC
            go_wp2_with fail
            go_roundw
            case measure => simp [intOf]; omega
            case rel => first | exact ⟨k + 1, lf, by omega, by omega, hl2, rfl, by go_num, Lib.hid ⟨da', db', H7.out, HN.out, Hsz.out.1, Hsz.out.2.1⟩⟩ | ((repeat apply Exists.intro); exact ⟨⟨k + 1, lf, by omega, by omega, hl2, rfl, by go_num, Lib.hid ⟨da', db', H7.out, HN.out, Hsz.out.1, Hsz.out.2.1⟩⟩, rfl⟩)
        | false =>
          by_cases hc0 : c = 0
          · have e0 : ((c : Int) == 0) = true := beq_iff_eq.2 (by omega)
            have hsame := HP.out.1 (Or.inr rfl)
            have hlv0 : decide ((0 : Int) ≤ (lf : Int)) = true := decide_eq_true (by omega)
            have hlv1 : decide ((lf : Int) < 0) = false := decide_eq_false (by omega)
            have HHa : Hid (∀ w7, Fs2 W.heap.size W w7 qa 5000 da' qb 5000 db' [thB gq 47 #[.int .u8 (kd : Nat), .string ⟨nm.toArray⟩, .string ⟨ot.toArray⟩, .slice A bl cc, .int .i64 n9, .slice KA9 kl kc, .int .i64 to_]] → Calls Try.prog 32 #[.pointer (some ⟨qa, 0, none⟩)] w7 fun e w' => e = .returned (.bool false) ∧ w' = w7) := Lib.hid (fun w7 h7 => by
              have h9 := h7.one.elim fun us hu => halted_any hu
              rw [hsame.1, Hq3.out] at h9
              exact h9)
            have HN := Lib.hid (show Hl (lf : Int) da' db' from by rw [hsame.1, hsame.2]; exact HlR.out)
            clear hsame hc0
            go_wp2_with fail
            refine HCb2.out.mono ?_
            rintro e w7 ⟨rfl, h7⟩
            have H7 := Lib.hid h7.tail
            have HC := Lib.hid (HHa.out w7 h7)
            clear h7 HCb2 C2 HHa
            go_wp2_with fail
            refine HC.out.mono ?_
            rintro e w8 ⟨rfl, hw8⟩
            rw [hw8]
            clear hw8 HC
            go_wp2_with fail
            go_roundw
            case measure => simp [intOf]; omega
            case rel => first | exact ⟨k + 1, lf, by omega, by omega, hl2, rfl, by go_num, Lib.hid ⟨da', db', H7.out, HN.out, Hsz.out.1, Hsz.out.2.1⟩⟩ | ((repeat apply Exists.intro); exact ⟨⟨k + 1, lf, by omega, by omega, hl2, rfl, by go_num, Lib.hid ⟨da', db', H7.out, HN.out, Hsz.out.1, Hsz.out.2.1⟩⟩, rfl⟩)
          · have e0 : ((c : Int) == 0) = false := beq_eq_false_iff_ne.2 (by omega)
            have hsame := HP.out.1 (Or.inl hc0)
            have hlv0 : decide ((0 : Int) ≤ (lf : Int)) = true := decide_eq_true (by omega)
            have hlv1 : decide ((lf : Int) < 0) = false := decide_eq_false (by omega)
            have HHa : Hid (∀ w7, Fs2 W.heap.size W w7 qa 5000 da' qb 5000 db' [thB gq 47 #[.int .u8 (kd : Nat), .string ⟨nm.toArray⟩, .string ⟨ot.toArray⟩, .slice A bl cc, .int .i64 n9, .slice KA9 kl kc, .int .i64 to_]] → Calls Try.prog 32 #[.pointer (some ⟨qa, 0, none⟩)] w7 fun e w' => e = .returned (.bool false) ∧ w' = w7) := Lib.hid (fun w7 h7 => by
              have h9 := h7.one.elim fun us hu => halted_any hu
              rw [hsame.1, Hq3.out] at h9
              exact h9)
            have HN := Lib.hid (show Hl (lf : Int) da' db' from by rw [hsame.1, hsame.2]; exact HlR.out)
            clear hsame hc0
            go_wp2_with fail
            refine HCb2.out.mono ?_
            rintro e w7 ⟨rfl, h7⟩
            have H7 := Lib.hid h7.tail
            have HC := Lib.hid (HHa.out w7 h7)
            clear h7 HCb2 C2 HHa
            go_wp2_with fail
            refine HC.out.mono ?_
            rintro e w8 ⟨rfl, hw8⟩
            rw [hw8]
            clear hw8 HC
            go_wp2_with fail
            go_roundw
            case measure => simp [intOf]; omega
            case rel => first | exact ⟨k + 1, lf, by omega, by omega, hl2, rfl, by go_num, Lib.hid ⟨da', db', H7.out, HN.out, Hsz.out.1, Hsz.out.2.1⟩⟩ | ((repeat apply Exists.intro); exact ⟨⟨k + 1, lf, by omega, by omega, hl2, rfl, by go_num, Lib.hid ⟨da', db', H7.out, HN.out, Hsz.out.1, Hsz.out.2.1⟩⟩, rfl⟩)
    · by_cases hlt : k < n
      · have hkl : (k : Int) < (n : Int) := by omega
        have hk1 : decide ((k : Int) < (n : Int)) = true := decide_eq_true hkl
        have hl0 : ¬ (0 : Int) ≤ lv := fun h => hgo ⟨hlt, h⟩
        have hl0' : decide ((0 : Int) ≤ lv) = false := decide_eq_false hl0
        clear hgo
        obtain ⟨da, db, r1, r2, r3, r4⟩ := HR.out
        have hm60 := Hm60.out
        have HC := Lib.hid (r1.one.elim fun us hu => lfiles_any hu)
        have HX := Lib.hid (And.intro r1 r2)
        clear r1 r2 r3 r4 HR
        go_wp2_with fail
        refine HC.out.mono ?_
        rintro e w5 ⟨R4, c4, L4, rfl, h5⟩
        obtain ⟨p4, m4, b4, f4⟩ := h5.out
        have h6 := HX.out.1.cons b4 p4 f4
        have HC2 := Lib.hid (h6.swap.one.elim fun us hu => lfiles_any hu)
        have H6 := Lib.hid (And.intro h6 m4)
        clear h6 p4 m4 b4 f4 h5 HC
        go_wp2_with fail
        refine HC2.out.mono ?_
        rintro e w7 ⟨R6, c6, L6, rfl, h7⟩
        obtain ⟨p6, m6, b6, f6⟩ := h7.out
        have h8 := H6.out.1.go b6
        have hf8 := h8.swap.one.elim fun us hu => hu.f8
        have hS := rsame8_any R4 R6 c4 c6 L4 L6 w7 (es_thE (h8.get (t := thE (.slice R4 da.F.length c4) L4) 0 rfl)) (es_thE p6) (by rw [fs_len H6.out.2, HX.out.2.F]; omega) (by rw [fs_len m6]; omega)
        rw [fs_len H6.out.2, fs_len m6, H6.out.2, m6, nbD_eq HX.out.2.F HX.out.2.P, decide_eq_true rfl, HX.out.2.F] at hS
        rw [HX.out.2.F]
        obtain ⟨n6, hn6⟩ : ∃ x, x = db.F.length := ⟨_, rfl⟩
        rw [← hn6] at hS ⊢
        have HS := Lib.hid hS
        have H8 := Lib.hid h8.tail
        clear hS hf8 h8 p6 m6 b6 f6 h7 HC2 H6 hn6
        go_wp2_with fail
        refine HS.out.mono ?_
        rintro e w9 ⟨rfl, h9⟩
        have H9 := Lib.hid (H8.out.go h9)
        have HC := Lib.hid (H9.out.lift (fun us hu => crash_any kp KA ka m HI.out.2.2.2.2.1 ta hu (fun W' hs => sep_keepK hs (Nat.le_refl _) HI.out.2.2.1) (by omega)))
        have c1 : w9.cell? ⟨w.heap.size, 0, none⟩ = some (.slice KA m ka) := H9.out.old (Nat.le_refl _) (HI.out.2.2.2.2.2.2.1.cell 0)
        have c2 : w9.cell? ⟨w.heap.size, 1, none⟩ = some (.int .i64 ta) := H9.out.old (Nat.le_refl _) (HI.out.2.2.2.2.2.2.1.cell 1)
        rw [crash_eq HX.out.2.F HX.out.2.P] at HC
        obtain ⟨d5, hd5⟩ : ∃ d5, d5 = crashD db (kpt kp) ta := ⟨_, rfl⟩
        rw [← hd5] at HC
        have Hd5 := Lib.hid (show d5.dd = false from by rw [hd5]; rfl)
        clear h9 HS H8
        go_wp2_with fail
        refine HC.out.mono ?_
        rintro e w10 ⟨rfl, h10⟩
        have HC2 := Lib.hid (h10.lift2 (fun us hu => crash_any kp KA ka m HI.out.2.2.2.2.1 ta hu (fun W' hs => sep_keepK hs (Nat.le_refl _) HI.out.2.2.1) (by omega)))
        have c1 : w10.cell? ⟨w.heap.size, 0, none⟩ = some (.slice KA m ka) := h10.old (Nat.le_refl _) (HI.out.2.2.2.2.2.2.1.cell 0)
        have c2 : w10.cell? ⟨w.heap.size, 1, none⟩ = some (.int .i64 ta) := h10.old (Nat.le_refl _) (HI.out.2.2.2.2.2.2.1.cell 1)
        rw [← hd5] at HC2
        clear hd5 HC h10 H9
        go_wp2_with fail
        refine HC2.out.mono ?_
        rintro e w11 ⟨rfl, h11⟩
        have HC := Lib.hid (h11.one.elim fun us hu => lfiles_any hu)
        have H11 := Lib.hid h11
        clear h11 HC2 c1 c2 HX
        go_wp2_with fail
        refine HC.out.mono ?_
        rintro e w12 ⟨R4, c4, L4, rfl, h5⟩
        obtain ⟨p4, m4, b4, f4⟩ := h5.out
        have h6 := H11.out.cons b4 p4 f4
        have HC2 := Lib.hid (h6.swap.one.elim fun us hu => lfiles_any hu)
        have H6 := Lib.hid (And.intro h6 m4)
        clear h6 p4 m4 b4 f4 h5 HC H11
        go_wp2_with fail
        refine HC2.out.mono ?_
        rintro e w13 ⟨R6, c6, L6, rfl, h7⟩
        obtain ⟨p6, m6, b6, f6⟩ := h7.out
        have h8 := H6.out.1.go b6
        have hf8 := h8.swap.one.elim fun us hu => hu.f8
        have hS := rsame8_any R4 R6 c4 c6 L4 L6 w13 (es_thE (h8.get (t := thE (.slice R4 d5.F.length c4) L4) 0 rfl)) (es_thE p6) (by rw [fs_len H6.out.2]; omega) (by rw [fs_len m6]; omega)
        rw [fs_len H6.out.2, fs_len m6, H6.out.2, m6, decide_eq_true rfl] at hS
        obtain ⟨n6, hn6⟩ : ∃ x, x = d5.F.length := ⟨_, rfl⟩
        rw [← hn6] at hS ⊢
        have HS := Lib.hid hS
        have H8 := Lib.hid h8
        clear hS hf8 h8 p6 m6 b6 f6 h7 HC2 H6 hn6
        go_wp2_with fail
        refine HS.out.mono ?_
        rintro e w14 ⟨rfl, h14⟩
        have h15 := H8.out.go h14
        have HC := Lib.hid (h15.one.elim fun us hu => halted_any hu)
        rw [Hd5.out] at HC
        have H15 := Lib.hid h15.b
        clear h14 h15 HS H8
        go_wp2_with fail
        refine HC.out.mono ?_
        rintro e w16 ⟨rfl, hw16⟩
        rw [hw16]
        clear hw16 HC
        go_wp2_with fail
        go_ret
        exact ⟨by simp, HI.out.2.2.2.2.2.1.trans (H15.out.mono (HI.out.2.2.2.2.2.1.size))⟩
      · have hkl : ¬ (k : Int) < (n : Int) := by omega
        have hk1 : decide ((k : Int) < (n : Int)) = false := decide_eq_false hkl
        clear hgo
        obtain ⟨da, db, r1, r2, r3, r4⟩ := HR.out
        have hm60 := Hm60.out
        have HC := Lib.hid (r1.one.elim fun us hu => lfiles_any hu)
        have HX := Lib.hid (And.intro r1 r2)
        clear r1 r2 r3 r4 HR
        go_wp2_with fail
        refine HC.out.mono ?_
        rintro e w5 ⟨R4, c4, L4, rfl, h5⟩
        obtain ⟨p4, m4, b4, f4⟩ := h5.out
        have h6 := HX.out.1.cons b4 p4 f4
        have HC2 := Lib.hid (h6.swap.one.elim fun us hu => lfiles_any hu)
        have H6 := Lib.hid (And.intro h6 m4)
        clear h6 p4 m4 b4 f4 h5 HC
        go_wp2_with fail
        refine HC2.out.mono ?_
        rintro e w7 ⟨R6, c6, L6, rfl, h7⟩
        obtain ⟨p6, m6, b6, f6⟩ := h7.out
        have h8 := H6.out.1.go b6
        have hf8 := h8.swap.one.elim fun us hu => hu.f8
        have hS := rsame8_any R4 R6 c4 c6 L4 L6 w7 (es_thE (h8.get (t := thE (.slice R4 da.F.length c4) L4) 0 rfl)) (es_thE p6) (by rw [fs_len H6.out.2, HX.out.2.F]; omega) (by rw [fs_len m6]; omega)
        rw [fs_len H6.out.2, fs_len m6, H6.out.2, m6, nbD_eq HX.out.2.F HX.out.2.P, decide_eq_true rfl, HX.out.2.F] at hS
        rw [HX.out.2.F]
        obtain ⟨n6, hn6⟩ : ∃ x, x = db.F.length := ⟨_, rfl⟩
        rw [← hn6] at hS ⊢
        have HS := Lib.hid hS
        have H8 := Lib.hid h8.tail
        clear hS hf8 h8 p6 m6 b6 f6 h7 HC2 H6 hn6
        go_wp2_with fail
        refine HS.out.mono ?_
        rintro e w9 ⟨rfl, h9⟩
        have H9 := Lib.hid (H8.out.go h9)
        have HC := Lib.hid (H9.out.lift (fun us hu => crash_any kp KA ka m HI.out.2.2.2.2.1 ta hu (fun W' hs => sep_keepK hs (Nat.le_refl _) HI.out.2.2.1) (by omega)))
        have c1 : w9.cell? ⟨w.heap.size, 0, none⟩ = some (.slice KA m ka) := H9.out.old (Nat.le_refl _) (HI.out.2.2.2.2.2.2.1.cell 0)
        have c2 : w9.cell? ⟨w.heap.size, 1, none⟩ = some (.int .i64 ta) := H9.out.old (Nat.le_refl _) (HI.out.2.2.2.2.2.2.1.cell 1)
        rw [crash_eq HX.out.2.F HX.out.2.P] at HC
        obtain ⟨d5, hd5⟩ : ∃ d5, d5 = crashD db (kpt kp) ta := ⟨_, rfl⟩
        rw [← hd5] at HC
        have Hd5 := Lib.hid (show d5.dd = false from by rw [hd5]; rfl)
        clear h9 HS H8
        go_wp2_with fail
        refine HC.out.mono ?_
        rintro e w10 ⟨rfl, h10⟩
        have HC2 := Lib.hid (h10.lift2 (fun us hu => crash_any kp KA ka m HI.out.2.2.2.2.1 ta hu (fun W' hs => sep_keepK hs (Nat.le_refl _) HI.out.2.2.1) (by omega)))
        have c1 : w10.cell? ⟨w.heap.size, 0, none⟩ = some (.slice KA m ka) := h10.old (Nat.le_refl _) (HI.out.2.2.2.2.2.2.1.cell 0)
        have c2 : w10.cell? ⟨w.heap.size, 1, none⟩ = some (.int .i64 ta) := h10.old (Nat.le_refl _) (HI.out.2.2.2.2.2.2.1.cell 1)
        rw [← hd5] at HC2
        clear hd5 HC h10 H9
        go_wp2_with fail
        refine HC2.out.mono ?_
        rintro e w11 ⟨rfl, h11⟩
        have HC := Lib.hid (h11.one.elim fun us hu => lfiles_any hu)
        have H11 := Lib.hid h11
        clear h11 HC2 c1 c2 HX
        go_wp2_with fail
        refine HC.out.mono ?_
        rintro e w12 ⟨R4, c4, L4, rfl, h5⟩
        obtain ⟨p4, m4, b4, f4⟩ := h5.out
        have h6 := H11.out.cons b4 p4 f4
        have HC2 := Lib.hid (h6.swap.one.elim fun us hu => lfiles_any hu)
        have H6 := Lib.hid (And.intro h6 m4)
        clear h6 p4 m4 b4 f4 h5 HC H11
        go_wp2_with fail
        refine HC2.out.mono ?_
        rintro e w13 ⟨R6, c6, L6, rfl, h7⟩
        obtain ⟨p6, m6, b6, f6⟩ := h7.out
        have h8 := H6.out.1.go b6
        have hf8 := h8.swap.one.elim fun us hu => hu.f8
        have hS := rsame8_any R4 R6 c4 c6 L4 L6 w13 (es_thE (h8.get (t := thE (.slice R4 d5.F.length c4) L4) 0 rfl)) (es_thE p6) (by rw [fs_len H6.out.2]; omega) (by rw [fs_len m6]; omega)
        rw [fs_len H6.out.2, fs_len m6, H6.out.2, m6, decide_eq_true rfl] at hS
        obtain ⟨n6, hn6⟩ : ∃ x, x = d5.F.length := ⟨_, rfl⟩
        rw [← hn6] at hS ⊢
        have HS := Lib.hid hS
        have H8 := Lib.hid h8
        clear hS hf8 h8 p6 m6 b6 f6 h7 HC2 H6 hn6
        go_wp2_with fail
        refine HS.out.mono ?_
        rintro e w14 ⟨rfl, h14⟩
        have h15 := H8.out.go h14
        have HC := Lib.hid (h15.one.elim fun us hu => halted_any hu)
        rw [Hd5.out] at HC
        have H15 := Lib.hid h15.b
        clear h14 h15 HS H8
        go_wp2_with fail
        refine HC.out.mono ?_
        rintro e w16 ⟨rfl, hw16⟩
        rw [hw16]
        clear hw16 HC
        go_wp2_with fail
        go_ret
        exact ⟨by simp, HI.out.2.2.2.2.2.1.trans (H15.out.mono (HI.out.2.2.2.2.2.1.size))⟩

theorem fsHalts_walk (V : Option Addr) (cv : Nat) (l : List Op8) (sy : Nat) (KA : Option Addr) (ka : Nat) (kp : List Bool) (ta : Int) (w : World) (hV : Rw w encOp8 7 V l) (hl : l.length ≤ maxLen) (ho : ∀ o ∈ l, o.ok w) (hsy : sy < 256) (hA : Bo w KA kp) :
    Calls Try.prog 7 #[.slice V l.length cv, .int .u8 (sy : Nat), .agg #[.slice KA kp.length ka, .int .i64 ta]] w fun e w' => e = .returned (.bool true) ∧ Below w.heap.size w w' := by
  by_cases h60 : 60 < kp.length
  · exact fsHalts_known V cv l sy KA ka kp ta w hV hl (.inr h60)
  · cases hh : heavyL l with
    | true => exact fsHalts_known V cv l sy KA ka kp ta w hV hl (.inl hh)
    | false => exact fsHalts_main V cv l sy KA ka kp ta w hV hl ho hsy hA hh h60

end Go.Proofs.Ytiogckgchlnldaa

/- Layer 10: SameNotes. -/
set_option linter.unusedSimpArgs false
set_option linter.unusedVariables false
namespace Go.Proofs.Ytiogckgchlnldaa
open Go.RowKit
set_option maxRecDepth 100000

/-- a slice of lists of bytes, to read -/
structure Ns (w : World) (A : Option Addr) (L : List Bx) : Prop where
  row : Rw w encBx 1 A L
  by_ : ∀ x ∈ L, Bs w x.A x.b
theorem Ns.below {w w' : World} {A : Option Addr} {L : List Bx} (h : Ns w A L) (b : Below w.heap.size w w') : Ns w' A L := ⟨h.row.below b (Nat.le_refl _), fun x hx => (h.by_ x hx).below b⟩

set_option maxHeartbeats 4000000 in
theorem rsameN_any (A A' : Option Addr) (c c' : Nat) (L L' : List Bx) (w : World) (h : Ns w A L) (h' : Ns w A' L') (hL : L.length ≤ 1000000) (hL' : L'.length ≤ 1000000) :
    Calls Try.prog 38 #[.slice A L.length c, .slice A' L'.length c'] w fun e w' => e = .returned (.bool (decide (L.map Bx.b = L'.map Bx.b))) ∧ Below w.heap.size w w' := by
  obtain ⟨n, hn⟩ : ∃ n, n = L.length := ⟨_, rfl⟩
  obtain ⟨n', hn'⟩ : ∃ n', n' = L'.length := ⟨_, rfl⟩
  rw [← hn, ← hn']
  by_cases hnn : n = n'
  · subst hnn
    have k0 : ((n : Int) == (n : Int)) = true := beq_iff_eq.2 rfl
    have hn6 : n ≤ 1000000 := by omega
    obtain ⟨r, hr⟩ : ∃ r, r = decide (L.map Bx.b = L'.map Bx.b) := ⟨_, rfl⟩
    rw [← hr]
    have HH := Lib.hid (And.intro h (And.intro h' (And.intro hn (And.intro hn' hr))))
    clear h h' hn hn' hr
    go_enter Try.func38, Try.ntmps38
    go_wp2_with fail
    go_loopw [5] (fun s wr => ∃ k : Nat, k ≤ n ∧ s = .int .i64 k ∧ Hid (Below w.heap.size w wr ∧ (L.take k).map Bx.b = (L'.take k).map Bx.b)) (fun s _ => n - (intOf s).toNat)
    case atStart => exact ⟨0, Nat.zero_le _, rfl, Lib.hid ⟨Below.refl _ _, rfl⟩⟩
    case round =>
      obtain ⟨k, hk, rfl, HR⟩ := hrel
      obtain ⟨hw, hm⟩ := HR.out
      have hGx := HH.out.1.below hw
      have hGy := HH.out.2.1.below hw
      have HW := Lib.hid hw
      clear hw
      by_cases hlt : k < n
      · obtain ⟨x, hx⟩ : ∃ x, L[k]? = some x := ⟨_, List.getElem?_eq_getElem (by rw [← HH.out.2.2.1]; exact hlt)⟩
        obtain ⟨y, hy⟩ : ∃ y, L'[k]? = some y := ⟨_, List.getElem?_eq_getElem (by rw [← HH.out.2.2.2.1]; exact hlt)⟩
        obtain ⟨p, f, rfl, hc⟩ := hGx.row k x hx
        obtain ⟨p', f', rfl, hc'⟩ := hGy.row k y hy
        have c0 := hc 0 _ rfl
        have d0 := hc' 0 _ rfl
        simp only [Nat.add_zero, Nat.mul_one] at c0 d0
        have s1 := fun nq => str_of ((hGx.by_ x (List.mem_of_getElem? hx)).below (below_drewN (Below.refl _ wr) nq)) x.c
        have s2 := fun nq => str_of ((hGy.by_ y (List.mem_of_getElem? hy)).below (below_drewN (Below.refl _ wr) nq)) y.c
        have hkl : (k : Int) < (n : Int) := by omega
        have hk0 : (0 : Int) ≤ (k : Int) := by omega
        have hgx : (L.map Bx.b)[k]? = some x.b := by rw [List.getElem?_map, hx]; rfl
        have hgy : (L'.map Bx.b)[k]? = some y.b := by rw [List.getElem?_map, hy]; rfl
        have HG := Lib.hid (And.intro hgx hgy)
        have HM : Hid (x.b = y.b → (L.take (k + 1)).map Bx.b = (L'.take (k + 1)).map Bx.b) := Lib.hid (fun e => by
          rw [List.take_add_one, List.take_add_one, hx, hy, List.map_append, List.map_append, hm]
          show _ ++ [x.b] = _ ++ [y.b]
          rw [e])
        clear hc hc' hx hy hgx hgy hm HR hGx hGy
        by_cases hb : x.b = y.b
        · have e2 : (x.b == y.b) = true := beq_iff_eq.2 hb
          have e2' : (x.b != y.b) = false := by unfold bne; rw [e2]; rfl
          have HE := Lib.hid (HM.out hb)
          clear hb
          go_wp2_with fail
          go_quiet (fail)
          go_wp2_with fail
          go_roundw
          case measure => simp [intOf]; omega
          case rel => exact ⟨k + 1, by omega, by go_num, Lib.hid ⟨below_drewN HW.out nq, HE.out⟩⟩
        · have e2 : (x.b == y.b) = false := beq_eq_false_iff_ne.2 hb
          have e2' : (x.b != y.b) = true := by unfold bne; rw [e2]; rfl
          have HE : Hid (r = false) := Lib.hid (by
            rw [HH.out.2.2.2.2]
            refine decide_eq_false (fun e => hb ?_)
            have h9 := HG.out.1
            rw [e, HG.out.2] at h9
            injection h9 with h9
            exact h9.symm)
          clear hb
          go_wp2_with fail
          go_quiet (fail)
          go_wp2_with fail
          go_ret
          exact ⟨by simp [HE.out], below_drewN HW.out nq⟩
      · obtain rfl : k = n := by omega
        have hkk : ¬ ((k : Int) < (k : Int)) := by omega
        have HE : Hid (r = true) := Lib.hid (by
          rw [HH.out.2.2.2.2]
          refine decide_eq_true ?_
          rw [List.take_of_length_le (by rw [← HH.out.2.2.1]; omega), List.take_of_length_le (by rw [← HH.out.2.2.2.1]; omega)] at hm
          exact hm)
        clear hm HR hGx hGy
        go_wp2_with fail
        go_ret
        exact ⟨by simp [HE.out], HW.out⟩
  · have k0 : ((n : Int) == (n' : Int)) = false := beq_eq_false_iff_ne.2 (by omega)
    have k0' : ((n : Int) != (n' : Int)) = true := by unfold bne; rw [k0]; rfl
    have HE : decide (L.map Bx.b = L'.map Bx.b) = false := decide_eq_false (fun e => hnn (by
      have := congrArg List.length e
      rw [List.length_map, List.length_map] at this
      omega))
    rw [HE]
    clear h h' hn hn' HE hnn hL hL'
    go_enter Try.func38, Try.ntmps38
    go_wp2_with fail
    go_ret
    exact ⟨rfl, Below.refl _ _⟩

end Go.Proofs.Ytiogckgchlnldaa
