/- Joined: Fs28, Fs34, Fs35, Fs36, Fs37, Rf0, Rf1, Rf2, Rf3, Rf4, Rf5, Rf6, Rf7, Rf8, Rf9. -/
import Derived.Test.YtiogckgchlnldaaGreatQ20
import Derived.Test.YtiogckgchlnldaaGreatQ19
import Derived.BigQuiet
set_option linter.unusedSimpArgs false
set_option linter.unusedVariables false
/- Layer 8: the statements' Files; SameFiles. -/
set_option linter.unusedSimpArgs false
set_option linter.unusedVariables false
namespace Go.Proofs.YtiogckgchlnldaaGreat
open Go.RowKit
set_option maxRecDepth 100000

/-- a slice of files, to read -/
structure Es (w : World) (A : Option Addr) (L : List Fe) : Prop where
  row : Rw w encE 2 A L
  by_ : ∀ x ∈ L, Bs w x.A x.b
theorem Es.below {w w' : World} {A : Option Addr} {L : List Fe} (h : Es w A L) (b : Below w.heap.size w w') : Es w' A L := ⟨h.row.below b (Nat.le_refl _), fun x hx => (h.by_ x hx).below b⟩
theorem es_of {w : World} {R : Option Addr} {n c : Nat} {L : List Fe} (h : Ge w (.slice R n c) L) : Es w R L := by
  obtain ⟨A, c', hv, _, hr⟩ := OwnR.row Tryz.eltE h.row
  injection hv with e1 _ _
  subst e1
  exact ⟨hr, fun x hx => OwnB.bs (h.el x hx)⟩
theorem Tryz.eltE2 : Elt Tryz.prog 56 77 encE 2 40 := ⟨Tryz.underlying56, ⟨.agg #[.string ⟨#[]⟩, .slice none 0 0], by kernel_rfl, rfl⟩, by decide, fun _ => rfl, fun x v h => by
  simp [encE, vaE] at h; rcases h with rfl | rfl <;> rfl⟩
/-- files handed out, as a thing -/
def thE (R : Value) (L : List Fe) : Kt := ⟨fun w => OwnR w 0 77 encE 2 R L ∧ ∀ x ∈ L, OwnB w 0 (vaE x) x.b, footG vaE R L,
  fun h t hF => ⟨t.row h.1 (fun k hk => hF k (.inl hk)), fun x hx => t.row (h.2 x hx) (fun k hk => hF k (.inr ⟨x, hx, hk⟩))⟩,
  fun h k hk => by
    rcases hk with hk | ⟨x, hx, hk⟩
    · exact (World.ownsRow.lt h.1 k hk).2
    · exact (World.ownsRow.lt (h.2 x hx) k hk).2⟩
theorem es_thE {w : World} {R : Option Addr} {n c : Nat} {L : List Fe} (h : (thE (.slice R n c) L).P w) : Es w R L := by
  obtain ⟨A, c', hv, _, hr⟩ := OwnR.row Tryz.eltE2 h.1
  injection hv with e1 _ _
  subst e1
  exact ⟨hr, fun x hx => OwnB.bs (h.2 x hx)⟩
/-- what Files tells -/
def nbD (d : Fd) : List (Nm × List UInt8) := d.F.map fun f => (f.1, f.2 ++ pcs d.P f.1)
theorem nbD_len (d : Fd) : (nbD d).length = d.F.length := List.length_map ..

set_option maxHeartbeats 8000000 in
theorem lfiles_any {B q room : Nat} {w0 w : World} {ts : List Kt} {d : Fd} (h : FsI B w0 w q room ts d) :
    Calls Tryz.prog 39 #[.pointer (some ⟨q, 0, none⟩)] w fun e w' => ∃ R c L, e = .returned (.slice R d.F.length c) ∧ Hid ((thE (.slice R d.F.length c) L).P w' ∧ L.map nbE = nbD d ∧ Below w.heap.size w w' ∧ ∀ k, (thE (.slice R d.F.length c) L).F k → w.heap.size ≤ k) := by
  have HC := Lib.hid (files_any h)
  obtain ⟨n, hn⟩ : ∃ n, n = d.F.length := ⟨_, rfl⟩
  rw [← hn] at HC ⊢
  have hn8 : n ≤ 8 := by
    obtain ⟨bm, VW, T, hs, hF⟩ := h
    rw [hn, hF.len]
    exact hF.fl
  have Hn := Lib.hid hn
  clear h hn
  go_enter Tryz.func39, Tryz.ntmps39
  go_wp2_with fail
  refine HC.out.mono ?_
  rintro e w1 ⟨R0, c0, L0, rfl, h1⟩
  obtain ⟨g1, m1, b1, f1⟩ := h1.out
  have hL0 : L0.length = n := by
    have := congrArg List.length m1
    rw [List.length_map, List.length_map] at this
    rw [this, Hn.out]
  have H1 := Lib.hid (And.intro g1 (And.intro m1 (And.intro b1 (And.intro f1 hL0))))
  clear g1 m1 b1 f1 h1 HC hL0
  go_wp2_with fail
  go_loopw [3, 5] (fun s3 s5 wr => ∃ k : Nat, ∃ (R : Option Addr) (c : Nat), k ≤ n ∧ s3 = .slice R k c ∧ s5 = .int .i64 k ∧ Hid (OwnR wr 0 77 encE 2 (.slice R k c) (L0.take k) ∧ Below w1.heap.size w1 wr ∧ ∀ j, (Value.slice R k c).ownBlock = some j → w1.heap.size ≤ j)) (fun _ s5 _ => n - (intOf s5).toNat)
  case atStart => exact ⟨0, none, 0, Nat.zero_le _, rfl, rfl, Lib.hid ⟨OwnR.nil _ _ _ _ _, Below.refl _ _, fun j hj => by simp [Value.ownBlock] at hj⟩⟩
  case round =>
    obtain ⟨k, R, c, hkn, rfl, rfl, HR⟩ := hrel
    by_cases hlt : k < n
    · obtain ⟨x, hx⟩ : ∃ x, L0[k]? = some x := ⟨_, List.getElem?_eq_getElem (by rw [H1.out.2.2.2.2]; exact hlt)⟩
      obtain ⟨r1, r2, r3⟩ := HR.out
      obtain ⟨p, o, rfl, hc⟩ := (es_of (H1.out.1.below r2)).row k x hx
      have d0 := hc 0 _ rfl
      have d1 := hc 1 _ rfl
      simp only [vaE, Nat.add_zero] at d0 d1
      obtain ⟨L1, hL1⟩ : ∃ L1, L1 = L0.take k := ⟨_, rfl⟩
      rw [← hL1] at r1
      have hLl : L1.length = k := by
        have := H1.out.2.2.2.2
        rw [hL1, List.length_take]
        omega
      have hL2 : L0.take (k + 1) = L1 ++ [x] := by rw [List.take_add_one, hx, hL1]; rfl
      have HL := Lib.hid (And.intro r1 (And.intro r2 (And.intro r3 hL2)))
      have hkl : (k : Int) < (n : Int) := by omega
      have hk0 : (0 : Int) ≤ (k : Int) := by omega
      clear r1 r2 r3 HR hx hc hL1 hL2
      have hbd : Below wr.heap.size wr (wr.alloc (.cells #[.string ⟨x.nm.toArray⟩, .slice x.A x.b.length x.c] 77)) := below_alloc _ _
      have HR1 := Lib.hid (OwnR.below HL.out.1 hbd)
      have Hbd := Lib.hid hbd
      clear hbd
      have h5n : L1.length + 1 ≤ maxLen := by unfold maxLen; omega
      have h6n : (L1.length + 1) * 40 ≤ 140737488355328 := by omega
      have kA := fun W => keepA W
      go_upto_region 6 with fail
      go_region_law (refine step_appR1L Tryz.eltE2 _ rfl (.tmp 14) (.tmp 26) rfl 0 (.slice R k c) L1 (by simp [Act.eval, Act.put]) HR1.out wr.heap.size 1 x 77 #[.string ⟨x.nm.toArray⟩, .slice x.A x.b.length x.c] (by simp [Act.eval, Act.put]) (Blk.new wr _ _) rfl h5n h6n (Nat.zero_le _) (wr.heap.size + 1) (by simp) ?_; intro g2 c2 w9 hown2 hgr2 hor2 hlt2)
      all_goals
        clear kA d0 d1
        obtain ⟨r1, r2, r3, hL2⟩ := HL.out
        have HE := Lib.hid (show OwnR w9 0 77 encE 2 (.slice (some ⟨g2, 0, none⟩) (k + 1) c2) (L0.take (k + 1)) ∧ Below w1.heap.size w1 w9 ∧ ∀ j, (Value.slice (some ⟨g2, 0, none⟩) (k + 1) c2).ownBlock = some j → w1.heap.size ≤ j from by
          refine ⟨by rw [hL2, ← hLl]; exact hown2, Below.grown (on1 r2 Hbd.out.drew) hgr2 (on1 r2 Hbd.out.drew).size (fun j e => r3 j e), fun j e => ?_⟩
          have e2 : g2 = j := by simpa [Value.ownBlock] using e
          subst e2
          rcases hor2 with h9 | h9
          · exact r3 _ h9
          · rw [h9]
            exact Nat.le_succ_of_le r2.size)
        clear r1 r2 r3 hL2 hown2 hgr2 hor2 hlt2 HL HR1 Hbd
        go_wp2_with fail
        go_roundw
        case measure => simp [intOf]; omega
        case rel => exact ⟨k + 1, some ⟨g2, 0, none⟩, c2, by omega, rfl, by go_num, HE⟩
    · obtain rfl : k = n := by omega
      have hkk : ¬ ((k : Int) < (k : Int)) := by omega
      obtain ⟨r1, r2, r3⟩ := HR.out
      rw [List.take_of_length_le (Nat.le_of_eq H1.out.2.2.2.2)] at r1
      have HEND := Lib.hid (show (thE (.slice R k c) L0).P wr ∧ L0.map nbE = nbD d ∧ Below w.heap.size w wr ∧ ∀ j, (thE (.slice R k c) L0).F j → w.heap.size ≤ j from ⟨⟨r1, fun x hx => (H1.out.1.below r2).el x hx⟩, H1.out.2.1, on1 H1.out.2.2.1 r2, fun j hj => by
        rcases hj with hj | ⟨x, hx, hj⟩
        · exact Nat.le_trans H1.out.2.2.1.size (r3 j hj)
        · exact H1.out.2.2.2.1 j (.inr ⟨x, hx, hj⟩)⟩)
      clear r1 r2 r3 HR
      go_wp2_with fail
      go_ret
      exact ⟨R, c, rfl, L0, HEND⟩

set_option maxHeartbeats 4000000 in
theorem rsame8_any (A A' : Option Addr) (c c' : Nat) (L L' : List Fe) (w : World) (h : Es w A L) (h' : Es w A' L') (hL : L.length ≤ 1000000) (hL' : L'.length ≤ 1000000) :
    Calls Tryz.prog 38 #[.slice A L.length c, .slice A' L'.length c'] w fun e w' => e = .returned (.bool (decide (L.map nbE = L'.map nbE))) ∧ Below w.heap.size w w' := by
  obtain ⟨n, hn⟩ : ∃ n, n = L.length := ⟨_, rfl⟩
  obtain ⟨n', hn'⟩ : ∃ n', n' = L'.length := ⟨_, rfl⟩
  rw [← hn, ← hn']
  by_cases hnn : n = n'
  · subst hnn
    have k0 : ((n : Int) == (n : Int)) = true := beq_iff_eq.2 rfl
    have hn6 : n ≤ 1000000 := by omega
    obtain ⟨r, hr⟩ : ∃ r, r = decide (L.map nbE = L'.map nbE) := ⟨_, rfl⟩
    rw [← hr]
    have HH := Lib.hid (And.intro h (And.intro h' (And.intro hn (And.intro hn' hr))))
    clear h h' hn hn' hr
    go_enter Tryz.func38, Tryz.ntmps38
    go_wp2_with fail
    go_loopw [5] (fun s wr => ∃ k : Nat, k ≤ n ∧ s = .int .i64 k ∧ Hid (Below w.heap.size w wr ∧ (L.take k).map nbE = (L'.take k).map nbE)) (fun s _ => n - (intOf s).toNat)
    case atStart => exact ⟨0, Nat.zero_le _, rfl, Lib.hid ⟨Below.refl _ _, rfl⟩⟩
    case round =>
      obtain ⟨k, hk, rfl, HR⟩ := hrel
      obtain ⟨hw, hm⟩ := HR.out
      have hGx := HH.out.1.below hw
      have hGy := HH.out.2.1.below hw
      have HW := Lib.hid hw
      clear hw
      by_cases hlt : k < n
      · obtain ⟨x, hx⟩ : ∃ x, L[k]? = some x := ⟨_, List.getElem?_eq_getElem (by rw [← HH.out.2.2.1]; exact hlt)⟩
        obtain ⟨y, hy⟩ : ∃ y, L'[k]? = some y := ⟨_, List.getElem?_eq_getElem (by rw [← HH.out.2.2.2.1]; exact hlt)⟩
        obtain ⟨p, f, rfl, hc⟩ := hGx.row k x hx
        obtain ⟨p', f', rfl, hc'⟩ := hGy.row k y hy
        have c0 := hc 0 _ rfl
        have c1 := hc 1 _ rfl
        have d0 := hc' 0 _ rfl
        have d1 := hc' 1 _ rfl
        simp only [Nat.add_zero] at c0 d0
        have s1 := fun nq => str_of ((hGx.by_ x (List.mem_of_getElem? hx)).below (below_drewN (Below.refl _ wr) nq)) x.c
        have s2 := fun nq => str_of ((hGy.by_ y (List.mem_of_getElem? hy)).below (below_drewN (Below.refl _ wr) nq)) y.c
        have hkl : (k : Int) < (n : Int) := by omega
        have hk0 : (0 : Int) ≤ (k : Int) := by omega
        have hgx : (L.map nbE)[k]? = some (nbE x) := by rw [List.getElem?_map, hx]; rfl
        have hgy : (L'.map nbE)[k]? = some (nbE y) := by rw [List.getElem?_map, hy]; rfl
        have HG := Lib.hid (And.intro hgx hgy)
        have HM : Hid (nbE x = nbE y → (L.take (k + 1)).map nbE = (L'.take (k + 1)).map nbE) := Lib.hid (fun e => by
          rw [List.take_add_one, List.take_add_one, hx, hy, List.map_append, List.map_append, hm]
          show _ ++ [nbE x] = _ ++ [nbE y]
          rw [e])
        simp only [vaE] at c1 d1
        clear hc hc' hx hy hgx hgy hm HR hGx hGy
        by_cases hs : x.nm = y.nm
        · have e1 : (x.nm == y.nm) = true := beq_iff_eq.2 hs
          have e1' : (x.nm != y.nm) = false := by unfold bne; rw [e1]; rfl
          by_cases hb : x.b = y.b
          · have e2 : (x.b == y.b) = true := beq_iff_eq.2 hb
            have e2' : (x.b != y.b) = false := by unfold bne; rw [e2]; rfl
            have HE := Lib.hid (HM.out (by unfold nbE; rw [hs, hb]))
            clear hs hb
            go_wp2_with fail
            go_quiet (fail)
            go_wp2_with fail
            go_roundw
            case measure => simp [intOf]; omega
            case rel => exact ⟨k + 1, by omega, by go_num, Lib.hid ⟨below_drewN HW.out nq, HE.out⟩⟩
          · have e2 : (x.b == y.b) = false := beq_eq_false_iff_ne.2 hb
            have e2' : (x.b != y.b) = true := by unfold bne; rw [e2]; rfl
            have HE : Hid (r = false) := Lib.hid (by
              rw [HH.out.2.2.2.2]
              refine decide_eq_false (fun e => hb ?_)
              have h9 := HG.out.1
              rw [e, HG.out.2] at h9
              injection h9 with h9
              exact (congrArg Prod.snd h9).symm)
            clear hs hb
            go_wp2_with fail
            go_quiet (fail)
            go_wp2_with fail
            go_ret
            exact ⟨by simp [HE.out], below_drewN HW.out nq⟩
        · have e1 : (x.nm == y.nm) = false := beq_eq_false_iff_ne.2 hs
          have e1' : (x.nm != y.nm) = true := by unfold bne; rw [e1]; rfl
          have HE : Hid (r = false) := Lib.hid (by
            rw [HH.out.2.2.2.2]
            refine decide_eq_false (fun e => hs ?_)
            have h9 := HG.out.1
            rw [e, HG.out.2] at h9
            injection h9 with h9
            exact (congrArg Prod.fst h9).symm)
          clear hs
          go_wp2_with fail
          go_quiet (fail)
          go_wp2_with fail
          go_ret
          exact ⟨by simp [HE.out], below_drewN HW.out nq⟩
      · obtain rfl : k = n := by omega
        have HE : Hid (r = true) := Lib.hid (by
          rw [HH.out.2.2.2.2]
          refine decide_eq_true ?_
          have h9 := hm
          rw [List.take_of_length_le (Nat.le_of_eq HH.out.2.2.1.symm), List.take_of_length_le (Nat.le_of_eq HH.out.2.2.2.1.symm)] at h9
          exact h9)
        have hkk : ¬ ((k : Int) < (k : Int)) := by omega
        clear hm hGx hGy HR
        go_wp2_with fail
        go_ret
        exact ⟨by simp [HE.out], HW.out⟩
  · have k0 : ((n : Int) == (n' : Int)) = false := beq_eq_false_iff_ne.2 (by omega)
    have he : decide (L.map nbE = L'.map nbE) = false := decide_eq_false (fun e => hnn (by
      have := congrArg List.length e
      rw [List.length_map, List.length_map] at this
      omega))
    rw [he]
    clear h h' hn hn' he hL hL'
    go_enter Tryz.func38, Tryz.ntmps38
    go_wp2_with fail
    go_ret
    exact ⟨rfl, Below.refl _ _⟩

end Go.Proofs.YtiogckgchlnldaaGreat

/- Layer 8: walk of FsRoom. -/
set_option linter.unusedSimpArgs false
set_option linter.unusedVariables false
namespace Go.Proofs.YtiogckgchlnldaaGreat
open Go.RowKit
set_option maxRecDepth 100000

theorem fs_len {L : List Fe} {d : Fd} (h : L.map nbE = nbD d) : L.length = d.F.length := by
  have := congrArg List.length h
  rw [List.length_map, nbD_len] at this
  exact this
theorem FsI.fi {B q room : Nat} {w0 w : World} {ts : List Kt} {d : Fd} (h : FsI B w0 w q room ts d) : ∃ T, Fi d T := by
  obtain ⟨bm, VW, T, _, hi⟩ := h
  exact ⟨T, hi⟩
theorem FsI.f8 {B q room : Nat} {w0 w : World} {ts : List Kt} {d : Fd} (h : FsI B w0 w q room ts d) : d.F.length ≤ 8 := by
  obtain ⟨T, hi⟩ := h.fi
  rw [hi.len]
  exact hi.fl

end Go.Proofs.YtiogckgchlnldaaGreat

/- Layer 8: two file systems side by side; a call as data, by what it reads alone. -/
set_option linter.unusedSimpArgs false
set_option linter.unusedVariables false
namespace Go.Proofs.YtiogckgchlnldaaGreat
open Go.RowKit
set_option maxRecDepth 100000

/-- a file system's things -/
def Xs (q room bm : Nat) (VW : Value) (T : List Ft) (d : Fd) : List Kt := thB q 67 (fsc room bm VW d) :: thM bm (nmG T) :: thP VW (pcL T d.P) :: T.map thF
theorem FsI.perm {B q room : Nat} {w0 w : World} {ts us : List Kt} {d : Fd} (h : FsI B w0 w q room ts d) (hp : ts.Perm us) : FsI B w0 w q room us d := by
  obtain ⟨bm, VW, T, hs, hi⟩ := h
  exact ⟨bm, VW, T, hs.perm ((((hp.append_left _).cons _).cons _).cons _), hi⟩
/-- two file systems, and other things -/
def Fs2 (B : Nat) (w0 w : World) (qa ra : Nat) (da : Fd) (qb rb : Nat) (db : Fd) (ts : List Kt) : Prop := ∃ bm VW T, FsI B w0 w qa ra (Xs qb rb bm VW T db ++ ts) da ∧ Fi db T
section
variable {B qa ra qb rb : Nat} {w0 w w' : World} {da db da' db' : Fd} {ts us : List Kt} {t : Kt}
theorem Fs2.swap (h : Fs2 B w0 w qa ra da qb rb db ts) : Fs2 B w0 w qb rb db qa ra da ts := by
  obtain ⟨bm, VW, T, ⟨bm2, VW2, T2, hs, hi2⟩, hi⟩ := h
  refine ⟨bm2, VW2, T2, ⟨bm, VW, T, ?_, hi⟩, hi2⟩
  have hs : Sep B w0 w (Xs qa ra bm2 VW2 T2 da ++ (Xs qb rb bm VW T db ++ ts)) := hs
  exact hs.perm (List.perm_append_comm_assoc _ _ _)
/-- a file system made beside another -/
theorem Fs2.made {bm : Nat} {VW : Value} {T : List Ft} (h : FsI B w0 w qb rb (Xs qa ra bm VW T da ++ ts) db) (hi : Fi da T) : Fs2 B w0 w qb rb db qa ra da ts := ⟨_, _, _, h, hi⟩
theorem Fs2.go (h : Fs2 B w0 w qa ra da qb rb db ts) (b : Below w.heap.size w w') : Fs2 B w0 w' qa ra da qb rb db ts := by
  obtain ⟨bm, VW, T, h, hi⟩ := h
  exact ⟨bm, VW, T, h.go b, hi⟩
theorem Fs2.b (h : Fs2 B w0 w qa ra da qb rb db ts) : Below B w0 w := by
  obtain ⟨bm, VW, T, h, hi⟩ := h
  exact h.b
theorem Fs2.bs (h : Fs2 B w0 w qa ra da qb rb db ts) (hB : w0.heap.size ≤ B) {A : Option Addr} {l : List UInt8} (b : Bs w0 A l) : Bs w A l := by
  obtain ⟨bm, VW, T, h, hi⟩ := h
  exact h.bs hB b
theorem Fs2.old (h : Fs2 B w0 w qa ra da qb rb db ts) (hB : w0.heap.size ≤ B) {a : Addr} {v : Value} (c : w0.cell? a = some v) : w.cell? a = some v := by
  obtain ⟨bm, VW, T, h, hi⟩ := h
  exact h.old hB c
theorem Fs2.cons (h : Fs2 B w0 w qa ra da qb rb db ts) (b : Below w.heap.size w w') (hP : t.P w') (hF : ∀ k, t.F k → w.heap.size ≤ k) : Fs2 B w0 w' qa ra da qb rb db (t :: ts) := by
  obtain ⟨bm, VW, T, h, hi⟩ := h
  exact ⟨bm, VW, T, (h.cons b hP hF).perm List.perm_middle.symm, hi⟩
theorem Fs2.tail (h : Fs2 B w0 w qa ra da qb rb db (t :: ts)) : Fs2 B w0 w qa ra da qb rb db ts := by
  obtain ⟨bm, VW, T, h, hi⟩ := h
  exact ⟨bm, VW, T, h.sub ((List.sublist_cons_self t ts).append_left _), hi⟩
theorem Fs2.get (h : Fs2 B w0 w qa ra da qb rb db ts) (i : Nat) (e : ts[i]? = some t) : t.P w := by
  obtain ⟨bm, VW, T, h, hi⟩ := h
  refine h.get (i + (Xs qb rb bm VW T db).length) ?_
  rw [List.getElem?_append_right (by omega), Nat.add_sub_cancel]
  exact e
theorem Fs2.fi (h : Fs2 B w0 w qa ra da qb rb db ts) : (∃ T, Fi da T) ∧ ∃ T, Fi db T := by
  obtain ⟨bm, VW, T, h, hi⟩ := h
  exact ⟨h.fi, T, hi⟩
theorem Fs2.one (h : Fs2 B w0 w qa ra da qb rb db ts) : ∃ us, FsI B w0 w qa ra us da := by
  obtain ⟨bm, VW, T, h, hi⟩ := h
  exact ⟨_, h⟩
/-- a call on the first -/
theorem Fs2.lift {P : Program} {f : FuncId} {args : Array Value} {E : Ending → Prop} (h : Fs2 B w0 w qa ra da qb rb db ts) (C : ∀ us, FsI B w0 w qa ra us da → Calls P f args w fun e w' => E e ∧ FsI B w0 w' qa ra us da') : Calls P f args w fun e w' => E e ∧ Fs2 B w0 w' qa ra da' qb rb db ts := by
  obtain ⟨bm, VW, T, h, hi⟩ := h
  exact (C _ h).mono fun e w' ⟨h1, h2⟩ => ⟨h1, bm, VW, T, h2, hi⟩
/-- a call on the second -/
theorem Fs2.lift2 {P : Program} {f : FuncId} {args : Array Value} {E : Ending → Prop} (h : Fs2 B w0 w qa ra da qb rb db ts) (C : ∀ us, FsI B w0 w qb rb us db → Calls P f args w fun e w' => E e ∧ FsI B w0 w' qb rb us db') : Calls P f args w fun e w' => E e ∧ Fs2 B w0 w' qa ra da qb rb db' ts :=
  (h.swap.lift C).mono fun e w' ⟨h1, h2⟩ => ⟨h1, h2.swap⟩
end

/-- does a call that is done count? -/
def usedO (o : Op8) : Bool := if o.kd % 14 = 9 then !(o.nm == o.ot) else if o.kd % 14 = 0 ∨ 5 < o.kd % 14 then true else decide (0 < o.b.length)
/-- what comes of a call that counts -/
def runTo (d : Fd) (F P : List (Nm × List UInt8)) : Fd := if (runsD d).1 = true then { (runsD d).2 with F := F, P := P } else (runsD d).2
theorem create_form (F P : List (Nm × List UInt8)) (n : Nm) : ∃ c F' P', ∀ d : Fd, d.F = F → d.P = P → createD d n = (c, if c = 0 then runTo d F' P' else d) := by
  refine ⟨if okN n = false then 1 else if (atF F n).isSome then 81 else if 8 ≤ F.length then 3 else 0, insF (n, []) F, P, fun d hF hP => ?_⟩
  unfold createD
  rw [hF]
  split
  · rfl
  · split
    · rfl
    · split
      · rfl
      · rw [if_pos rfl]
        unfold runTo
        simp only [(runs_keeps d).1, hF]
        rw [show ({ (runsD d).2 with F := insF (n, []) F, P := P } : Fd) = { (runsD d).2 with F := insF (n, []) F } by rw [← hP, ← (runs_keeps d).2]]
theorem sync_form (F P : List (Nm × List UInt8)) (n : Nm) : ∃ c F' P', ∀ d : Fd, d.F = F → d.P = P → syncD d n = (c, if c = 0 then runTo d F' P' else d) := by
  cases hr : (atF F n).map (· ++ pcs P n) with
  | none =>
    refine ⟨80, [], [], fun d hF hP => ?_⟩
    unfold syncD rdD
    rw [hF, hP, hr]
    rfl
  | some b =>
    refine ⟨0, setF n b F, dropN n P, fun d hF hP => ?_⟩
    unfold syncD rdD
    rw [hF, hP, hr]
    simp only [runs_keeps, hF, hP, if_true]
    rfl
theorem cut_form (F P : List (Nm × List UInt8)) (n : Nm) (k : Int) : ∃ c F' P', ∀ d : Fd, d.F = F → d.P = P → cutD d n k = (c, if c = 0 then runTo d F' P' else d) := by
  cases hr : (atF F n).map (· ++ pcs P n) with
  | none =>
    refine ⟨80, [], [], fun d hF hP => ?_⟩
    unfold cutD rdD
    rw [hF, hP, hr]
    rfl
  | some b =>
    by_cases hk : k < 0 ∨ (b.length : Int) < k
    · refine ⟨1, [], [], fun d hF hP => ?_⟩
      unfold cutD rdD
      rw [hF, hP, hr]
      simp only [if_pos hk]
      rfl
    · refine ⟨0, setF n (b.take k.toNat) F, dropN n P, fun d hF hP => ?_⟩
      unfold cutD rdD
      rw [hF, hP, hr]
      simp only [if_neg hk, runs_keeps, hF, hP, if_true]
      rfl
theorem remove_form (F P : List (Nm × List UInt8)) (n : Nm) : ∃ c F' P', ∀ d : Fd, d.F = F → d.P = P → removeD d n = (c, if c = 0 then runTo d F' P' else d) := by
  by_cases hr : (atF F n).isNone
  · refine ⟨80, [], [], fun d hF hP => ?_⟩
    unfold removeD
    rw [hF, if_pos hr]
    rfl
  · refine ⟨0, dropN n F, dropN n P, fun d hF hP => ?_⟩
    unfold removeD
    rw [hF, if_neg hr]
    simp only [runs_keeps, hF, hP, if_true]
    rfl
theorem rename_form (F P : List (Nm × List UInt8)) (n m : Nm) : ∃ c F' P', ∀ d : Fd, d.F = F → d.P = P → renameD d n m = (c, if c = 0 ∧ n ≠ m then runTo d F' P' else d) := by
  cases hr : atF F n with
  | none =>
    refine ⟨80, [], [], fun d hF hP => ?_⟩
    unfold renameD
    rw [hF, hr, if_neg (by omega)]
  | some b =>
    by_cases hok : okN m = false
    · refine ⟨1, [], [], fun d hF hP => ?_⟩
      unfold renameD
      rw [hF, hr, if_neg (by omega)]
      simp only [if_pos hok]
    · by_cases hnm : n = m
      · refine ⟨0, [], [], fun d hF hP => ?_⟩
        unfold renameD
        rw [hF, hr, if_neg (by intro h; exact h.2 hnm)]
        simp only [if_neg hok, if_pos hnm]
      · refine ⟨0, insF (m, b) (dropN n (dropN m F)), (dropN m P).map fun p => if p.1 == n then (m, p.2) else p, fun d hF hP => ?_⟩
        unfold renameD
        rw [hF, hr, if_pos ⟨rfl, hnm⟩]
        simp only [if_neg hok, if_neg hnm, runs_keeps, hF, hP]
        rfl
theorem append_form (room : Int) (F P : List (Nm × List UInt8)) (n : Nm) (b : List UInt8) : ∃ c F' P', ∀ d : Fd, d.F = F → d.P = P → appendD room d n b = (c, if c = 0 ∧ 0 < b.length then runTo d F' P' else d) := by
  by_cases hr : (atF F n).isNone
  · refine ⟨80, [], [], fun d hF hP => ?_⟩
    unfold appendD
    rw [hF, if_pos hr, if_neg (by omega)]
  · by_cases hu : room < ((F.map fun f => (f.2 ++ pcs P f.1).length).sum : Nat) + b.length
    · refine ⟨82, [], [], fun d hF hP => ?_⟩
      unfold appendD usedD
      rw [hF, hP, if_neg hr, if_pos hu, if_neg (by omega)]
    · by_cases hb : b = []
      · refine ⟨0, [], [], fun d hF hP => ?_⟩
        unfold appendD usedD
        rw [hF, hP, if_neg hr, if_neg hu, if_pos hb, if_neg (by rw [hb]; simp)]
      · refine ⟨0, F, P ++ [(n, b)], fun d hF hP => ?_⟩
        have hbl : 0 < b.length := List.length_pos_iff.2 hb
        unfold appendD usedD
        rw [hF, hP, if_neg hr, if_neg hu, if_neg hb, if_pos ⟨rfl, hbl⟩]
        unfold runTo
        simp only [(runs_keeps d).2, hP]
        rw [show ({ (runsD d).2 with F := F, P := P ++ [(n, b)] } : Fd) = { (runsD d).2 with P := P ++ [(n, b)] } by rw [← hF, ← (runs_keeps d).1]]
/-- a call reads the files and pieces alone -/
theorem play_form (room : Int) (F P : List (Nm × List UInt8)) (o : Op8) (h10 : o.kd % 14 ≤ 10) : ∃ c F' P', ∀ d : Fd, d.F = F → d.P = P → playD room d o = (c, if c = 0 ∧ usedO o = true then runTo d F' P' else d) := by
  by_cases k0 : o.kd % 14 = 0
  · have hu : usedO o = true := by unfold usedO; rw [if_neg (by omega), if_pos (Or.inl k0)]
    obtain ⟨c, F', P', h⟩ := create_form F P o.nm
    refine ⟨c, F', P', fun d hF hP => ?_⟩
    unfold playD
    rw [if_pos k0, h d hF hP, hu]
    simp
  · by_cases k6 : o.kd % 14 = 6 ∨ o.kd % 14 = 7
    · have hu : usedO o = true := by unfold usedO; rw [if_neg (by omega), if_pos (Or.inr (by omega))]
      obtain ⟨c, F', P', h⟩ := sync_form F P o.nm
      refine ⟨c, F', P', fun d hF hP => ?_⟩
      unfold playD
      rw [if_neg k0, if_pos k6, h d hF hP, hu]
      simp
    · by_cases k8 : o.kd % 14 = 8
      · have hu : usedO o = true := by unfold usedO; rw [if_neg (by omega), if_pos (Or.inr (by omega))]
        obtain ⟨c, F', P', h⟩ := cut_form F P o.nm o.n
        refine ⟨c, F', P', fun d hF hP => ?_⟩
        unfold playD
        rw [if_neg k0, if_neg k6, if_pos k8, h d hF hP, hu]
        simp
      · by_cases k9 : o.kd % 14 = 9
        · have hu : (usedO o = true) = (o.nm ≠ o.ot) := by unfold usedO; rw [if_pos k9]; simp
          obtain ⟨c, F', P', h⟩ := rename_form F P o.nm o.ot
          refine ⟨c, F', P', fun d hF hP => ?_⟩
          unfold playD
          rw [if_neg k0, if_neg k6, if_neg k8, if_pos k9, h d hF hP]
          simp only [hu]
        · by_cases k10 : o.kd % 14 = 10
          · have hu : usedO o = true := by unfold usedO; rw [if_neg k9, if_pos (Or.inr (by omega))]
            obtain ⟨c, F', P', h⟩ := remove_form F P o.nm
            refine ⟨c, F', P', fun d hF hP => ?_⟩
            unfold playD
            rw [if_neg k0, if_neg k6, if_neg k8, if_neg k9, if_pos k10, h d hF hP, hu]
            simp
          · have hu : (usedO o = true) = (0 < o.b.length) := by unfold usedO; rw [if_neg k9, if_neg (by omega)]; simp
            obtain ⟨c, F', P', h⟩ := append_form room F P o.nm o.b
            refine ⟨c, F', P', fun d hF hP => ?_⟩
            unfold playD
            rw [if_neg k0, if_neg k6, if_neg k8, if_neg k9, if_neg k10, h d hF hP]
            simp only [hu]

end Go.Proofs.YtiogckgchlnldaaGreat

/- Layer 8: walk of FsMoves. -/
set_option linter.unusedSimpArgs false
set_option linter.unusedVariables false
namespace Go.Proofs.YtiogckgchlnldaaGreat
open Go.RowKit
set_option maxRecDepth 100000

def nY : Nm := [121]
theorem nXY : nX ≠ nY := by decide
/-- two file systems with one file each, alike but for its name -/
structure Two (all : List UInt8) (n : Nat) (da db : Fd) : Prop where
  a : One nX all n da
  b : One nY all n db
  P : db.P = da.P.map fun p => (nY, p.2)
theorem two_new : Two [] 0 (createD fd0 nX).2 (createD fd0 nY).2 := ⟨one_new, ⟨rfl, rfl, fun p hp => by have : p ∈ ([] : List (Nm × List UInt8)) := hp; simp at this, rfl, rfl, rfl, Nat.le_refl _⟩, rfl⟩
theorem One.appendP {x : Nm} {all : List UInt8} {n : Nat} {d : Fd} (h : One x all n d) (room : Int) (b : List UInt8) (hr : (all.length : Int) + b.length ≤ room) : (appendD room d x b).2.P = if b = [] then d.P else d.P ++ [(x, b)] := by
  unfold appendD
  rw [h.at_, if_neg (by simp), if_neg (by rw [h.used]; omega)]
  split
  · rfl
  · rw [h.runs]
    rfl
theorem Two.append {all : List UInt8} {n : Nat} {da db : Fd} (h : Two all n da db) (room : Int) (b : List UInt8) (hr : (all.length : Int) + b.length ≤ room) : Two (all ++ b) n (appendD room da nX b).2 (appendD room db nY b).2 := by
  refine ⟨(h.a.append room b hr).2.1, (h.b.append room b hr).2.1, ?_⟩
  rw [h.a.appendP room b hr, h.b.appendP room b hr, h.P]
  split
  · rfl
  · rw [List.map_append]
    rfl
theorem Two.sync {all : List UInt8} {n : Nat} {da db : Fd} (h : Two all n da db) : Two all all.length (syncD da nX).2 (syncD db nY).2 := by
  refine ⟨h.a.sync.2.1, h.b.sync.2.1, ?_⟩
  rw [h.a.sync.2.2, h.b.sync.2.2]
  rfl
theorem Two.rename {all : List UInt8} {n : Nat} {da db : Fd} (h : Two all n da db) : renameD da nX nY = (0, db) := by
  unfold renameD
  rw [h.a.at_]
  simp only [h.a.runs]
  rw [if_neg (by decide), if_neg nXY]
  obtain ⟨F, P, st, lf, dd⟩ := db
  obtain ⟨F2, P2, st2, lf2, dd2⟩ := da
  obtain ⟨a1, a2, a3, a4, a5, a6, a7⟩ := h.a
  obtain ⟨b1, b2, b3, b4, b5, b6, b7⟩ := h.b
  have hP := h.P
  dsimp only at a1 a2 a3 a4 a5 a6 b1 b2 b3 b4 b5 b6 hP
  subst a1 a4 a5 a6 b1 b4 b5 b6
  have e1 : dropN nY P2 = P2 := by
    unfold dropN
    rw [List.filter_eq_self]
    intro p hp
    rw [a3 p hp]
    decide
  have e2 : (P2.map fun p => if p.1 == nX then (nY, p.2) else p) = P := by
    rw [hP]
    apply List.map_congr_left
    intro p hp
    rw [a3 p hp, beq_self_eq_true, if_pos rfl]
  simp only [e1, e2, if_true]
  rfl

end Go.Proofs.YtiogckgchlnldaaGreat

/- Layer 8: walk of FsHalts. -/
set_option linter.unusedSimpArgs false
set_option linter.unusedVariables false
namespace Go.Proofs.YtiogckgchlnldaaGreat
open Go.RowKit
set_option maxRecDepth 100000

/-- one that is halted behind lv more calls, and one that is not -/
structure Hl (lv : Int) (da db : Fd) : Prop where
  F : da.F = db.F
  P : da.P = db.P
  st : db.st = false
  lf : db.lf = 0
  a : 0 ≤ lv → da.st = true ∧ da.lf = lv.toNat ∧ da.dd = false
theorem usedD_eq {da db : Fd} (hF : da.F = db.F) (hP : da.P = db.P) : usedD da = usedD db := by unfold usedD; rw [hF, hP]
theorem nbD_eq {da db : Fd} (hF : da.F = db.F) (hP : da.P = db.P) : nbD da = nbD db := by unfold nbD; rw [hF, hP]
theorem crash_eq {da db : Fd} (hF : da.F = db.F) (hP : da.P = db.P) (kept : Nat → Bool) (torn : Int) : crashD da kept torn = crashD db kept torn := by unfold crashD; rw [hF, hP]
/-- what a call does to both -/
theorem hl_play (room : Int) (o : Op8) (h10 : o.kd % 14 ≤ 10) {lf : Nat} {da db : Fd} (h : Hl lf da db) : ∃ c, (playD room da o).1 = c ∧ (playD room db o).1 = c ∧
    ((c ≠ 0 ∨ usedO o = false) → (playD room da o).2 = da ∧ (playD room db o).2 = db) ∧
    (c = 0 → usedO o = true → (0 < lf → Hl ((lf - 1 : Nat) : Int) (playD room da o).2 (playD room db o).2) ∧ (lf = 0 → Hl (-1) (playD room da o).2 db ∧ (playD room da o).2.dd = true)) := by
  obtain ⟨c, F', P', hf⟩ := play_form room db.F db.P o h10
  have ha := hf da h.F h.P
  have hb := hf db rfl rfl
  rw [ha, hb]
  obtain ⟨a1, a2, a3⟩ := h.a (by omega)
  refine ⟨c, rfl, rfl, fun hc => ?_, fun h0 hu => ?_⟩
  · have : ¬ (c = 0 ∧ usedO o = true) := by
      rintro ⟨h1, h2⟩
      rcases hc with h3 | h3
      · exact h3 h1
      · rw [h3] at h2; cases h2
    simp only [if_neg this]
    exact ⟨trivial, trivial⟩
  · simp only [if_pos (And.intro h0 hu)]
    have rb : runsD db = (true, db) := by unfold runsD; rw [if_pos h.st]
    have e2 : da.lf = lf := by rw [a2]; omega
    refine ⟨fun hl => ?_, fun hl => ?_⟩
    · have ra : runsD da = (true, { da with lf := da.lf - 1 }) := by unfold runsD; rw [if_neg (by rw [a1]; simp), if_pos (by rw [e2]; exact hl)]
      unfold runTo
      rw [ra, rb]
      exact ⟨rfl, rfl, h.st, h.lf, fun _ => ⟨a1, by show da.lf - 1 = _; rw [e2]; omega, a3⟩⟩
    · have ra : runsD da = (false, { da with dd := true }) := by unfold runsD; rw [if_neg (by rw [a1]; simp), if_neg (by rw [e2]; omega)]
      unfold runTo
      rw [ra]
      exact ⟨⟨h.F, h.P, h.st, h.lf, fun h9 => by omega⟩, rfl⟩

end Go.Proofs.YtiogckgchlnldaaGreat

/- Layer 8, the document: how its file system lies; the place of a name. -/
set_option linter.unusedSimpArgs false
set_option linter.unusedVariables false
namespace Go.Proofs.YtiogckgchlnldaaGreat
open Go.RowKit
set_option maxRecDepth 100000

/-- how many names are ahead of this one -/
def posF : List (Nm × List UInt8) → Nm → Nat
  | [], _ => 0
  | x :: xs, n => if ltN x.1 n = true then posF xs n + 1 else 0
theorem posF_le : ∀ (F : List (Nm × List UInt8)) (n : Nm), posF F n ≤ F.length
  | [], _ => Nat.le_refl _
  | x :: xs, n => by
    unfold posF
    split
    · have := posF_le xs n; rw [List.length_cons]; omega
    · exact Nat.zero_le _
theorem posF_lt : ∀ (F : List (Nm × List UInt8)) (n : Nm) (j : Nat) (x : Nm × List UInt8), j < posF F n → F[j]? = some x → ltN x.1 n = true
  | [], _, j, x, _, h => by simp at h
  | y :: ys, n, j, x, h, hx => by
    unfold posF at h
    split at h
    · rename_i h1
      cases j with
      | zero =>
        have e : y = x := by simpa using hx
        rw [← e]
        exact h1
      | succ j => exact posF_lt ys n j x (by omega) (by simpa using hx)
    · omega
theorem posF_at : ∀ (F : List (Nm × List UInt8)) (n : Nm) (x : Nm × List UInt8), F[posF F n]? = some x → ltN x.1 n = false
  | [], _, x, h => by simp at h
  | y :: ys, n, x, h => by
    unfold posF at h
    split at h
    · exact posF_at ys n x (by simpa using h)
    · rename_i h1
      have e : y = x := by simpa using h
      rw [← e]
      simpa using h1
theorem posF_is {F : List (Nm × List UInt8)} {n : Nm} {k : Nat} (h1 : ∀ j x, j < k → F[j]? = some x → ltN x.1 n = true) (hk : k ≤ F.length) (h2 : ∀ x, F[k]? = some x → ltN x.1 n = false) : posF F n = k := by
  rcases Nat.lt_trichotomy (posF F n) k with h | h | h
  · obtain ⟨x, hx⟩ : ∃ x, F[posF F n]? = some x := ⟨_, List.getElem?_eq_getElem (by omega)⟩
    have a := posF_at F n x hx
    have b := h1 _ x h hx
    rw [a] at b; cases b
  · exact h
  · have hl := posF_le F n
    obtain ⟨x, hx⟩ : ∃ x, F[k]? = some x := ⟨_, List.getElem?_eq_getElem (by omega)⟩
    have a := posF_lt F n k x h hx
    rw [h2 x hx] at a; cases a
/-- a name that is there stands at its place -/
theorem posF_there {F : List (Nm × List UInt8)} (hu : upN F) {n : Nm} {b : List UInt8} (h : atF F n = some b) : F[posF F n]? = some (n, b) := by
  have hm := (atF_some hu).1 h
  obtain ⟨i, hi⟩ := List.getElem?_of_mem hm
  have hil := (List.getElem?_eq_some_iff.1 hi).1
  have e : posF F n = i := by
    refine posF_is (fun j x hj hx => ?_) (by omega) (fun x hx => ?_)
    · have hjl := (List.getElem?_eq_some_iff.1 hx).1
      have := List.pairwise_iff_getElem.1 hu j i hjl hil hj
      rw [(List.getElem?_eq_some_iff.1 hx).2, (List.getElem?_eq_some_iff.1 hi).2] at this
      exact this
    · rw [hi] at hx
      injection hx with hx
      rw [← hx]
      exact ltN_irrefl n
  rw [e, hi]
theorem posF_gone {F : List (Nm × List UInt8)} {n : Nm} (h : atF F n = none) : ∀ x, F[posF F n]? = some x → x.1 ≠ n := fun x hx => atF_none.1 h x (List.mem_of_getElem? hx)
theorem insF_pos (f : Nm × List UInt8) : ∀ F : List (Nm × List UInt8), insF f F = F.take (posF F f.1) ++ f :: F.drop (posF F f.1)
  | [] => rfl
  | x :: xs => by
    unfold insF posF
    split
    · rw [List.take_succ_cons, List.drop_succ_cons, List.cons_append, ← insF_pos f xs]
    · rfl

theorem ltN_drop : ∀ (k : Nat) (a b : Nm), k ≤ a.length → k ≤ b.length → a.take k = b.take k → ltN a b = ltN (a.drop k) (b.drop k)
  | 0, _, _, _, _, _ => rfl
  | k + 1, [], _, h, _, _ => by simp at h
  | k + 1, _ :: _, [], _, h, _ => by simp at h
  | k + 1, x :: xs, y :: ys, h1, h2, h => by
    rw [List.take_succ_cons, List.take_succ_cons] at h
    injection h with e1 e2
    rw [List.drop_succ_cons, List.drop_succ_cons, ← ltN_drop k xs ys (by simpa using h1) (by simpa using h2) e2]
    rw [ltN, if_pos e1]
set_option maxHeartbeats 2000000 in
theorem less_any (a b : Nm) (w : World) (ha : a.length ≤ maxLen) (hb : b.length ≤ maxLen) :
    Calls Tryz.prog 49 #[.string ⟨a.toArray⟩, .string ⟨b.toArray⟩] w fun e w' => e = .returned (.bool (ltN a b)) ∧ Below w.heap.size w w' := by
  obtain ⟨r, hr⟩ : ∃ r, r = ltN a b := ⟨_, rfl⟩
  rw [← hr]
  have Hr := Lib.hid hr
  have hm : a.length ≤ 9223372036854775807 ∧ b.length ≤ 9223372036854775807 := by unfold maxLen at ha hb; omega
  clear hr ha hb
  go_enter Tryz.func49, Tryz.ntmps49
  go_wp2_with fail
  go_loopw [5] (fun s wr => ∃ k : Nat, k ≤ a.length ∧ k ≤ b.length ∧ s = .int .i64 k ∧ Hid (a.take k = b.take k ∧ Below w.heap.size w wr)) (fun s _ => a.length - (intOf s).toNat)
  case atStart => exact ⟨0, Nat.zero_le _, Nat.zero_le _, rfl, Lib.hid ⟨rfl, Below.refl _ _⟩⟩
  case round =>
    obtain ⟨k, hka, hkb, rfl, HR⟩ := hrel
    have hk0 : (0 : Int) ≤ (k : Int) := by omega
    have HD : Hid (r = ltN (a.drop k) (b.drop k)) := Lib.hid (by rw [Hr.out]; exact ltN_drop k a b hka hkb HR.out.1)
    by_cases h1 : k < a.length
    · by_cases h2 : k < b.length
      · obtain ⟨x, hx⟩ : ∃ x, a[k]? = some x := ⟨_, List.getElem?_eq_getElem h1⟩
        obtain ⟨y, hy⟩ : ∃ y, b[k]? = some y := ⟨_, List.getElem?_eq_getElem h2⟩
        have sza : (⟨a.toArray⟩ : ByteArray).size = a.length := by simp [ByteArray.size]
        have szb : (⟨b.toArray⟩ : ByteArray).size = b.length := by simp [ByteArray.size]
        have ix : ((⟨a.toArray⟩ : ByteArray)[k]'(by rw [sza]; exact h1)).toNat = x.toNat := by
          show (a[k]).toNat = _
          rw [(List.getElem?_eq_some_iff.1 hx).2]
        have iy : ((⟨b.toArray⟩ : ByteArray)[k]'(by rw [szb]; exact h2)).toNat = y.toNat := by
          show (b[k]).toNat = _
          rw [(List.getElem?_eq_some_iff.1 hy).2]
        have d1 : decide (k < a.length) = true := decide_eq_true h1
        have d2 : decide (k < b.length) = true := decide_eq_true h2
        have ea : a.drop k = x :: a.drop (k + 1) := by
          rw [← (List.getElem?_eq_some_iff.1 hx).2]
          exact List.drop_eq_getElem_cons h1
        have eb : b.drop k = y :: b.drop (k + 1) := by
          rw [← (List.getElem?_eq_some_iff.1 hy).2]
          exact List.drop_eq_getElem_cons h2
        rw [ea, eb] at HD
        by_cases hxy : x = y
        · have HN := Lib.hid (show a.take (k + 1) = b.take (k + 1) from by rw [List.take_add_one, List.take_add_one, HR.out.1, hx, hy, hxy])
          subst hxy
          obtain ⟨xn, hxn⟩ : ∃ m, m = x.toNat := ⟨_, rfl⟩
          rw [← hxn] at ix iy
          have e1 : ((xn : Int) != (xn : Int)) = false := by unfold bne; rw [beq_self_eq_true]; rfl
          clear ea eb hx hy hxn HD
          go_wp2_with fail
          go_quiet (fail)
          clear ix iy
          go_wp2_with fail
          go_roundw
          case measure => simp [intOf]; omega
          case rel => exact ⟨k + 1, by omega, by omega, by go_num, Lib.hid ⟨HN.out, below_drewN HR.out.2 nq⟩⟩
        · have HE : Hid (r = decide (x < y)) := Lib.hid (by rw [HD.out, ltN, if_neg hxy])
          have hne : x.toNat ≠ y.toNat := fun e => hxy (UInt8.toNat_inj.1 e)
          have hlt : decide (x < y) = decide (x.toNat < y.toNat) := decide_eq_decide.2 UInt8.lt_iff_toNat_lt
          rw [hlt] at HE
          obtain ⟨xn, hxn⟩ : ∃ m, m = x.toNat := ⟨_, rfl⟩
          obtain ⟨yn, hyn⟩ : ∃ m, m = y.toNat := ⟨_, rfl⟩
          rw [← hxn, ← hyn] at HE hne
          rw [← hxn] at ix
          rw [← hyn] at iy
          have e1 : ((xn : Int) == (yn : Int)) = false := beq_eq_false_iff_ne.2 (by omega)
          have e1' : ((xn : Int) != (yn : Int)) = true := by unfold bne; rw [e1]; rfl
          clear ea eb hx hy hxn hyn HD hxy hlt hne
          go_wp2_with fail
          go_quiet (fail)
          go_wp2_with fail
          go_quiet (fail)
          go_wp2_with fail
          go_ret
          exact ⟨by simp [HE.out], below_drewN (below_drewN HR.out.2 _) _⟩
      · obtain rfl : k = b.length := by omega
        have d1 : decide (b.length < a.length) = true := decide_eq_true h1
        have d2 : decide (b.length < b.length) = false := decide_eq_false (by omega)
        have d3 : decide (a.length < b.length) = false := decide_eq_false (by omega)
        have HE : Hid (r = false) := Lib.hid (by
          rw [HD.out, List.drop_length, List.drop_eq_getElem_cons h1]
          rfl)
        go_wp2_with fail
        go_ret
        exact ⟨by simp [HE.out], HR.out.2⟩
    · obtain rfl : k = a.length := by omega
      have d1 : decide (a.length < a.length) = false := decide_eq_false (by omega)
      have HE : Hid (r = decide (a.length < b.length)) := Lib.hid (by
        rw [HD.out, List.drop_length]
        cases hb : b.drop a.length with
        | nil =>
          have := congrArg List.length hb
          rw [List.length_drop, List.length_nil] at this
          rw [decide_eq_false (by omega)]
          rfl
        | cons y ys =>
          have := congrArg List.length hb
          rw [List.length_drop, List.length_cons] at this
          rw [decide_eq_true (by omega)]
          rfl)
      go_wp2_with fail
      go_ret
      exact ⟨by simp [HE.out], HR.out.2⟩

end Go.Proofs.YtiogckgchlnldaaGreat

/- Layer 8, the document: how its file system lies; find. -/
set_option linter.unusedSimpArgs false
set_option linter.unusedVariables false
namespace Go.Proofs.YtiogckgchlnldaaGreat
open Go.RowKit
set_option maxRecDepth 100000

def thb (x : Fe) : Kt := thO (vaE x) x.b
theorem Tryz.eltP2 : Elt Tryz.prog 57 78 encE 2 40 := ⟨Tryz.underlying57, ⟨.agg #[.string ⟨#[]⟩, .slice none 0 0], by kernel_rfl, rfl⟩, by decide, fun _ => rfl, fun x v h => by
  simp [encE, vaE] at h; rcases h with rfl | rfl <;> rfl⟩
abbrev thRF (V : Value) (L : List Fe) : Kt := thR 77 encE 2 V L
abbrev thRP (V : Value) (L : List Fe) : Kt := thR 78 encE 2 V L
def rfc (room : Nat) (VF VP : Value) (st : Bool) (lv : Nat) (dd : Bool) : Array Value := #[.int .i64 (room : Nat), VF, VP, .bool st, .int .i64 (lv : Nat), .bool dd]
/-- the document's file system at q, its rows and their elements given -/
def RfS (B : Nat) (w0 w : World) (q room : Nat) (ts : List Kt) (VF VP : Value) (LF LP : List Fe) (st : Bool) (lv : Nat) (dd : Bool) : Prop :=
  Sep B w0 w (thB q 59 (rfc room VF VP st lv dd) :: thRF VF LF :: thRP VP LP :: (LF.map thb ++ (LP.map thb ++ ts)))
/-- the document's file system at q, whose data is d, beside other things -/
def RfI (B : Nat) (w0 w : World) (q room : Nat) (ts : List Kt) (d : Fd) : Prop :=
  ∃ VF VP LF LP lv, RfS B w0 w q room ts VF VP LF LP d.st lv d.dd ∧ LF.map nbE = d.F ∧ LP.map nbE = d.P ∧ (d.st = true → lv = d.lf)
/-- how great the data are -/
structure Db (d : Fd) : Prop where
  up : upN d.F
  fl : d.F.length ≤ 8
  pl : d.P.length ≤ 1000000
  us : usedD d ≤ 200000
  fn : ∀ f ∈ d.F, f.1.length ≤ 16
  pn : ∀ p ∈ d.P, ∃ f ∈ d.F, f.1 = p.1
/-- of the files alone -/
structure Df (F : List (Nm × List UInt8)) : Prop where
  up : upN F
  fl : F.length ≤ 8
  fn : ∀ f ∈ F, f.1.length ≤ 16
theorem Db.df {d : Fd} (h : Db d) : Df d.F := ⟨h.up, h.fl, h.fn⟩
theorem Fi.db {d : Fd} {T : List Ft} (h : Fi d T) : Db d := by
  refine ⟨h.up, by rw [h.len]; exact h.fl, h.pl, h.us, fun f hf => ?_, fun p hp => ?_⟩
  · rw [← h.F] at hf
    obtain ⟨t, ht, rfl⟩ := List.mem_map.1 hf
    exact (h.ok t ht).2.2
  · obtain ⟨t, ht, e⟩ := h.pn p hp
    exact ⟨(t.nm, t.b.take t.su), by rw [← h.F]; exact List.mem_map.2 ⟨t, ht, rfl⟩, e⟩
section
variable {d : Fd}
theorem Db.pnm (h : Db d) : ∀ p ∈ d.P, p.1.length ≤ 16 := fun p hp => by
  obtain ⟨f, hf, e⟩ := h.pn p hp
  rw [← e]
  exact h.fn f hf
theorem mem_sum_le {α : Type} (f : α → Nat) : ∀ {l : List α} {x : α}, x ∈ l → f x ≤ (l.map f).sum
  | a :: l, x, h => by
    rw [List.map_cons, List.sum_cons]
    rcases List.mem_cons.1 h with rfl | h
    · omega
    · have := mem_sum_le f h; omega
theorem Db.fb (h : Db d) : ∀ f ∈ d.F, (f.2 ++ pcs d.P f.1).length ≤ 200000 := fun f hf => Nat.le_trans (mem_sum_le (fun f => (f.2 ++ pcs d.P f.1).length) hf) h.us
theorem pcs_mem : ∀ {P : List (Nm × List UInt8)} {p : Nm × List UInt8}, p ∈ P → p.2.length ≤ (pcs P p.1).length
  | x :: xs, p, h => by
    by_cases e : x.1 = p.1
    · rw [← e, pcs_cons_same, List.length_append]
      rcases List.mem_cons.1 h with rfl | h
      · omega
      · have := pcs_mem h
        rw [← e] at this
        omega
    · rw [pcs_cons_ne e]
      rcases List.mem_cons.1 h with rfl | h
      · exact absurd rfl e
      · exact pcs_mem h
theorem Db.pb (h : Db d) : ∀ p ∈ d.P, p.2.length ≤ 200000 := fun p hp => by
  obtain ⟨f, hf, e⟩ := h.pn p hp
  have h1 := h.fb f hf
  have h2 := pcs_mem hp
  rw [List.length_append, e] at h1
  omega
end
section
variable {B q room : Nat} {w0 w w' : World} {ts us : List Kt} {t : Kt} {d : Fd} {VF VP : Value} {LF LP : List Fe} {st dd : Bool} {lv : Nat}
theorem RfS.bx (h : RfS B w0 w q room ts VF VP LF LP st lv dd) : Blk w q 59 (rfc room VF VP st lv dd) := Sep.blk h 0
theorem RfS.rF (h : RfS B w0 w q room ts VF VP LF LP st lv dd) : OwnR w 0 77 encE 2 VF LF := Sep.at_ (t := thRF VF LF) h 1 rfl
theorem RfS.rP (h : RfS B w0 w q room ts VF VP LF LP st lv dd) : OwnR w 0 78 encE 2 VP LP := Sep.at_ (t := thRP VP LP) h 2 rfl
theorem RfS.oF (h : RfS B w0 w q room ts VF VP LF LP st lv dd) {x : Fe} (hx : x ∈ LF) : OwnB w 0 (vaE x) x.b := Sep.get h (t := thb x) (by
  simp only [List.mem_cons, List.mem_append, List.mem_map]
  exact .inr (.inr (.inr (.inl ⟨x, hx, rfl⟩))))
theorem RfS.oP (h : RfS B w0 w q room ts VF VP LF LP st lv dd) {x : Fe} (hx : x ∈ LP) : OwnB w 0 (vaE x) x.b := Sep.get h (t := thb x) (by
  simp only [List.mem_cons, List.mem_append, List.mem_map]
  exact .inr (.inr (.inr (.inr (.inl ⟨x, hx, rfl⟩)))))
theorem RfS.go (h : RfS B w0 w q room ts VF VP LF LP st lv dd) (b : Below w.heap.size w w') : RfS B w0 w' q room ts VF VP LF LP st lv dd := Sep.go h b
theorem RfI.go (h : RfI B w0 w q room ts d) (b : Below w.heap.size w w') : RfI B w0 w' q room ts d := by
  obtain ⟨VF, VP, LF, LP, lv, hs, h1, h2, h3⟩ := h
  exact ⟨VF, VP, LF, LP, lv, hs.go b, h1, h2, h3⟩
theorem RfI.b (h : RfI B w0 w q room ts d) : Below B w0 w := by
  obtain ⟨VF, VP, LF, LP, lv, hs, h1, h2, h3⟩ := h
  exact Sep.b hs
theorem RfI.bs (h : RfI B w0 w q room ts d) (hB : w0.heap.size ≤ B) {A : Option Addr} {l : List UInt8} (b : Bs w0 A l) : Bs w A l := by
  obtain ⟨VF, VP, LF, LP, lv, hs, h1, h2, h3⟩ := h
  exact Sep.bs hs hB b
theorem RfI.old (h : RfI B w0 w q room ts d) (hB : w0.heap.size ≤ B) {a : Addr} {v : Value} (c : w0.cell? a = some v) : w.cell? a = some v := by
  obtain ⟨VF, VP, LF, LP, lv, hs, h1, h2, h3⟩ := h
  exact Sep.old hs hB c
theorem RfS.cons (h : RfS B w0 w q room ts VF VP LF LP st lv dd) (b : Below w.heap.size w w') (hP : t.P w') (hF : ∀ k, t.F k → w.heap.size ≤ k) : RfS B w0 w' q room (t :: ts) VF VP LF LP st lv dd := by
  have h1 := Sep.cons h b hP hF
  refine Sep.perm h1 ?_
  refine (List.perm_middle (l₁ := _ :: _ :: _ :: (LF.map thb)) (a := t) (l₂ := LP.map thb ++ ts)).symm.trans ?_
  exact (((List.Perm.append_left _ (List.perm_middle (l₁ := LP.map thb) (a := t) (l₂ := ts)).symm).cons _).cons _).cons _
theorem RfI.cons (h : RfI B w0 w q room ts d) (b : Below w.heap.size w w') (hP : t.P w') (hF : ∀ k, t.F k → w.heap.size ≤ k) : RfI B w0 w' q room (t :: ts) d := by
  obtain ⟨VF, VP, LF, LP, lv, hs, h1, h2, h3⟩ := h
  exact ⟨VF, VP, LF, LP, lv, hs.cons b hP hF, h1, h2, h3⟩
theorem RfS.sub (h : RfS B w0 w q room ts VF VP LF LP st lv dd) (hs : us.Sublist ts) : RfS B w0 w q room us VF VP LF LP st lv dd :=
  Sep.sub h (((((hs.append_left _).append_left _).cons_cons _).cons_cons _).cons_cons _)
theorem RfI.sub (h : RfI B w0 w q room ts d) (hs : us.Sublist ts) : RfI B w0 w q room us d := by
  obtain ⟨VF, VP, LF, LP, lv, h0, h1, h2, h3⟩ := h
  exact ⟨VF, VP, LF, LP, lv, h0.sub hs, h1, h2, h3⟩
theorem RfI.get (h : RfI B w0 w q room ts d) (i : Nat) (e : ts[i]? = some t) : t.P w := by
  obtain ⟨VF, VP, LF, LP, lv, h0, h1, h2, h3⟩ := h
  exact Sep.get h0 (by
    have := List.mem_of_getElem? e
    simp only [List.mem_cons, List.mem_append]
    exact .inr (.inr (.inr (.inr (.inr this)))))
end

theorem nb_get {L : List Fe} {F : List (Nm × List UInt8)} (h : L.map nbE = F) {k : Nat} {x : Fe} (hx : L[k]? = some x) : F[k]? = some (x.nm, x.b) := by
  rw [← h, List.getElem?_map, hx]; rfl
theorem nb_len {L : List Fe} {F : List (Nm × List UInt8)} (h : L.map nbE = F) : L.length = F.length := by rw [← h, List.length_map]

set_option maxHeartbeats 4000000 in
theorem rfind_any {B q room : Nat} {w0 w : World} {ts : List Kt} {d : Fd} (n : Nm) (hn : n.length ≤ maxLen) (h : RfI B w0 w q room ts d) (hd : Df d.F) :
    Calls Tryz.prog 22 #[.pointer (some ⟨q, 0, none⟩), .string ⟨n.toArray⟩] w fun e w' => e = .returned (.tuple #[.int .i64 (posF d.F n : Nat), .bool (atF d.F n).isSome]) ∧ Below w.heap.size w w' := by
  obtain ⟨VF, VP, LF, LP, lv, hs, h1, h2, h3⟩ := h
  obtain ⟨A, c, hVF, -, -⟩ := OwnR.row Tryz.eltE2 hs.rF
  subst hVF
  obtain ⟨m, hm⟩ : ∃ m, m = LF.length := ⟨_, rfl⟩
  rw [← hm] at hs
  have hm8 : m ≤ 8 := by rw [hm, nb_len h1]; exact hd.fl
  obtain ⟨pp, hpp⟩ : ∃ p, p = posF d.F n := ⟨_, rfl⟩
  obtain ⟨th, hth⟩ : ∃ t, t = (atF d.F n).isSome := ⟨_, rfl⟩
  rw [← hpp, ← hth]
  have HX := Lib.hid (And.intro hs (And.intro h1 (And.intro hm (And.intro hpp (And.intro hth (And.intro hd hn))))))
  clear hs h1 h2 h3 hm hpp hth hd hn
  go_enter Tryz.func22, Tryz.ntmps22
  go_wp2_with fail
  go_loopw [6] (fun s wr => ∃ k : Nat, k ≤ m ∧ s = .int .i64 k ∧ Hid (Below w.heap.size w wr ∧ ∀ j x, j < k → d.F[j]? = some x → ltN x.1 n = true)) (fun s _ => m - (intOf s).toNat)
  case atStart => exact ⟨0, Nat.zero_le _, rfl, Lib.hid ⟨Below.refl _ _, fun j x h => by omega⟩⟩
  case round =>
    obtain ⟨k, hk, rfl, HR⟩ := hrel
    obtain ⟨hs, h1, hm, hpp, hth, hd, hn⟩ := HX.out
    have hs := hs.go HR.out.1
    have C := fbsays hs.bx
    simp only [cellsSay, rfc, Nat.reduceAdd, and_true] at C
    by_cases hlt : k < m
    · obtain ⟨x, hx⟩ : ∃ x, LF[k]? = some x := ⟨_, List.getElem?_eq_getElem (by rw [← hm]; exact hlt)⟩
      obtain ⟨A', c', hv, -, hr⟩ := OwnR.row Tryz.eltE2 hs.rF
      injection hv with e1 _ _
      subst e1
      obtain ⟨p, f, rfl, hc⟩ := hr k x hx
      have c0 := hc 0 _ rfl
      simp only [Nat.add_zero] at c0
      have hF := nb_get h1 hx
      have hxn : x.nm.length ≤ maxLen := by
        have : x.nm.length ≤ 16 := hd.fn _ (List.mem_of_getElem? hF)
        unfold maxLen
        omega
      have HC := Lib.hid (less_any x.nm n wr hxn hn)
      have hkl : (k : Int) < (m : Int) := by omega
      have hk0 : (0 : Int) ≤ (k : Int) := by omega
      have HF := Lib.hid hF
      have HS := Lib.hid (And.intro hs (hc 0 _ rfl))
      obtain ⟨b, hb⟩ : ∃ b, b = ltN x.nm n := ⟨_, rfl⟩
      rw [← hb] at HC
      have Hb := Lib.hid hb
      clear hs h1 hm hpp hth hd hn hr hc hF hxn hx hb
      go_wp2_with fail
      refine HC.out.mono ?_
      rintro e w2 ⟨rfl, b2⟩
      have HB := Lib.hid (on1 HR.out.1 b2)
      cases b with
      | true =>
        have HN := Lib.hid (show ∀ j y, j < k + 1 → d.F[j]? = some y → ltN y.1 n = true from fun j y hj hy => by
          by_cases e : j = k
          · subst e
            rw [HF.out] at hy
            injection hy with hy
            rw [← hy]
            exact Hb.out.symm
          · exact HR.out.2 j y (by omega) hy)
        clear b2 HC C c0
        go_wp2_with fail
        go_roundw
        case measure => simp [intOf]; omega
        case rel => exact ⟨k + 1, by omega, by go_num, Lib.hid ⟨HB.out, HN.out⟩⟩
      | false =>
        have hkp : k = pp := by
          rw [HX.out.2.2.2.1]
          refine (posF_is HR.out.2 (by rw [← nb_len HX.out.2.1, ← HX.out.2.2.1]; exact hk) (fun y hy => ?_)).symm
          rw [HF.out] at hy
          injection hy with hy
          rw [← hy]
          exact Hb.out.symm
        have hthe : (x.nm == n) = th := by
          rw [HX.out.2.2.2.2.1]
          have hF := HF.out
          rw [hkp, HX.out.2.2.2.1] at hF
          cases ha : atF d.F n with
          | some b9 =>
            have := posF_there HX.out.2.2.2.2.2.1.up ha
            rw [hF] at this
            injection this with this
            injection this with e1 _
            rw [e1, beq_self_eq_true]
            rfl
          | none =>
            have := posF_gone ha _ hF
            exact beq_eq_false_iff_ne.2 this
        have hs2 := HS.out.1.go b2
        have C := fbsays hs2.bx
        simp only [cellsSay, rfc, Nat.reduceAdd, and_true] at C
        have c0 : w2.cell? ⟨p, f + k * 2, none⟩ = some (.string ⟨x.nm.toArray⟩) := (b2.cell (cell_lt HS.out.2)).trans HS.out.2
        subst hkp
        clear b2 HC hs2
        go_wp2_with fail
        go_quiet (fail)
        go_wp2_with fail
        go_ret2
        exact ⟨rfl, below_drewN HB.out nq⟩
    · obtain rfl : k = m := by omega
      have hkp : k = pp := by
        rw [hpp]
        refine (posF_is HR.out.2 (by rw [← nb_len h1, ← hm]; exact hk) (fun y hy => ?_)).symm
        have := (List.getElem?_eq_some_iff.1 hy).1
        rw [← nb_len h1, ← hm] at this
        omega
      have hthe : th = false := by
        rw [hth]
        cases ha : atF d.F n with
        | some b9 =>
          have h9 := (List.getElem?_eq_some_iff.1 (posF_there hd.up ha)).1
          rw [← hpp, ← hkp, ← nb_len h1, ← hm] at h9
          omega
        | none => rfl
      have hkk : ¬ ((k : Int) < (k : Int)) := by omega
      have hkk2 : decide (k < k) = false := decide_eq_false (by omega)
      have HB := Lib.hid HR.out.1
      subst hkp hthe
      clear hs h1 hm hpp hth hd hn HR
      go_wp2_with fail
      go_quiet (fail)
      go_wp2_with fail
      go_ret2
      exact ⟨rfl, below_drewN HB.out nq⟩

end Go.Proofs.YtiogckgchlnldaaGreat

/- Layer 8, the document: insert, drop. -/
set_option linter.unusedSimpArgs false
set_option linter.unusedVariables false
namespace Go.Proofs.YtiogckgchlnldaaGreat
open Go.RowKit
set_option maxRecDepth 100000

section
variable {B q room : Nat} {w0 w2 w5 w6 : World} {ts us M : List Kt} {VF VP V : Value} {LF LP L : List Fe} {st dd : Bool} {lv : Nat}
/-- a new row of files -/
theorem RfS.setF (h : RfS B w0 w2 q room ts VF VP LF LP st lv dd) (b : Below w2.heap.size w2 w5) (hl : OwnR w5 w2.heap.size 77 encE 2 V L) (hW : w5.setCell ⟨q, 1, none⟩ V = w6) (hp : (LF.map thb ++ (LP.map thb ++ ts)).Perm ((L.map thb ++ (LP.map thb ++ us)) ++ M)) : RfS B w0 w6 q room us V VP L LP st lv dd := by
  have S := Sep.cons (t := thRF V L) h b (hl.mono (Nat.zero_le _)) (fun k hk => (World.ownsRow.lt hl k hk).1)
  have S2 := Sep.put S 1 q [(1, V)] (rfc room V VP st lv dd) hW
  have S3 := Sep.sub S2 (us := thRF V L :: thB q 59 (rfc room V VP st lv dd) :: thRP VP LP :: (LF.map thb ++ (LP.map thb ++ ts))) (((List.sublist_cons_self _ _).cons_cons _).cons_cons _)
  have S4 := Sep.perm S3 ((((hp.cons (thRP VP LP)).cons _).cons _).trans (List.Perm.swap _ _ _))
  exact Sep.left (us := M) S4
/-- a new row of pieces -/
theorem RfS.setP (h : RfS B w0 w2 q room ts VF VP LF LP st lv dd) (b : Below w2.heap.size w2 w5) (hl : OwnR w5 w2.heap.size 78 encE 2 V L) (hW : w5.setCell ⟨q, 2, none⟩ V = w6) (hp : (LF.map thb ++ (LP.map thb ++ ts)).Perm ((LF.map thb ++ (L.map thb ++ us)) ++ M)) : RfS B w0 w6 q room us VF V LF L st lv dd := by
  have S := Sep.cons (t := thRP V L) h b (hl.mono (Nat.zero_le _)) (fun k hk => (World.ownsRow.lt hl k hk).1)
  have S2 := Sep.put S 1 q [(2, V)] (rfc room VF V st lv dd) hW
  have S3 := Sep.sub S2 (us := thRP V L :: thB q 59 (rfc room VF V st lv dd) :: thRF VF LF :: (LF.map thb ++ (LP.map thb ++ ts))) ((((List.sublist_cons_self _ _).cons_cons _).cons_cons _).cons_cons _)
  have S4 := Sep.perm S3 ((((hp.cons (thRF VF LF)).cons (thB q 59 (rfc room VF V st lv dd))).cons (thRP V L)).trans ((List.Perm.swap _ _ _).trans ((List.Perm.swap _ _ _).cons _)))
  exact Sep.left (us := M) S4
end
theorem filt_perm (p : Fe → Bool) (L : List Fe) (X : List Kt) : (L.map thb ++ X).Perm (((L.filter p).map thb ++ X) ++ (L.filter (fun x => !p x)).map thb) := by
  have h1 : (L.map thb).Perm ((L.filter p).map thb ++ (L.filter (fun x => !p x)).map thb) := by
    rw [← List.map_append]
    exact ((List.filter_append_perm p L).map thb).symm
  refine (h1.append_right X).trans ?_
  rw [List.append_assoc, List.append_assoc]
  exact (List.perm_append_comm (l₁ := (L.filter (fun x => !p x)).map thb) (l₂ := X)).append_left _
theorem filt_nb (n : Nm) (L : List Fe) : (L.filter fun x => !(x.nm == n)).map nbE = dropN n (L.map nbE) := by
  unfold dropN
  rw [List.filter_map]
  rfl
theorem filt_all (n : Nm) (L : List Fe) (X Y : List Kt) : (L.map thb ++ (X ++ Y)).Perm ((L.filter fun x => !(x.nm == n)).map thb ++ (X ++ ((L.filter fun x => x.nm == n).map thb ++ Y))) := by
  have h := filt_perm (fun x => !(x.nm == n)) L (X ++ Y)
  rw [show (L.filter fun x => !(fun x : Fe => !(x.nm == n)) x) = L.filter fun x => x.nm == n by simp] at h
  refine h.trans ?_
  rw [List.append_assoc, List.append_assoc]
  exact ((List.perm_append_comm (l₁ := Y) (l₂ := (L.filter fun x => x.nm == n).map thb)).append_left _).append_left _

set_option maxHeartbeats 8000000 in
theorem rdropS_any {B q room : Nat} {w0 w : World} {ts : List Kt} {VF VP : Value} {LF LP : List Fe} {st dd : Bool} {lv : Nat} (n : Nm) (hs : RfS B w0 w q room ts VF VP LF LP st lv dd) (hF8 : LF.length ≤ 1000) (hP8 : LP.length ≤ 1000000) :
    Calls Tryz.prog 66 #[.pointer (some ⟨q, 0, none⟩), .string ⟨n.toArray⟩] w fun e w' => e = .returned (.tuple #[]) ∧ ∃ VF' VP', RfS B w0 w' q room ((LP.filter fun x => x.nm == n).map thb ++ ((LF.filter fun x => x.nm == n).map thb ++ ts)) VF' VP' (LF.filter fun x => !(x.nm == n)) (LP.filter fun x => !(x.nm == n)) st lv dd := by
  obtain ⟨AF, cF, hVF, -, -⟩ := OwnR.row Tryz.eltE2 hs.rF
  obtain ⟨AP, cP, hVP, -, -⟩ := OwnR.row Tryz.eltP2 hs.rP
  subst hVF hVP
  obtain ⟨mF, hmF⟩ : ∃ m, m = LF.length := ⟨_, rfl⟩
  obtain ⟨mP, hmP⟩ : ∃ m, m = LP.length := ⟨_, rfl⟩
  rw [← hmF, ← hmP] at hs
  have hF8' : mF ≤ 1000 := by rw [hmF]; exact hF8
  have hP8' : mP ≤ 1000000 := by rw [hmP]; exact hP8
  have HmP := Lib.hid hmP
  have HSF := Lib.hid (And.intro hs hmF)
  have C := fbsays hs.bx
  simp only [cellsSay, rfc, Nat.reduceAdd, and_true] at C
  clear hs hmF hmP hF8 hP8
  go_enter Tryz.func66, Tryz.ntmps66
  go_wp2_with fail
  go_loopw [4, 5] (fun sl si wr => ∃ (k m : Nat) (A : Option Addr) (c : Nat), k ≤ mF ∧ m ≤ k ∧ sl = .slice A m c ∧ si = .int .i64 k ∧ Hid (OwnR wr w.heap.size 77 encE 2 (.slice A m c) ((LF.take k).filter fun x => !(x.nm == n)) ∧ m = ((LF.take k).filter fun x => !(x.nm == n)).length ∧ Below w.heap.size w wr)) (fun _ si _ => mF - (intOf si).toNat)
  case atStart => exact ⟨0, 0, none, 0, Nat.zero_le _, Nat.le_refl _, rfl, rfl, Lib.hid ⟨OwnR.nil _ _ _ _ _, rfl, Below.refl _ _⟩⟩
  case round =>
    obtain ⟨k, m, A, c, hk, hmk, rfl, rfl, HR⟩ := hrel
    have hs := HSF.out.1.go HR.out.2.2
    have C := fbsays hs.bx
    simp only [cellsSay, rfc, Nat.reduceAdd, and_true] at C
    by_cases hlt : k < mF
    · obtain ⟨x, hx⟩ : ∃ x, LF[k]? = some x := ⟨_, List.getElem?_eq_getElem (by rw [← HSF.out.2]; exact hlt)⟩
      obtain ⟨A', c', hv, -, hr⟩ := OwnR.row Tryz.eltE2 hs.rF
      injection hv with e1 _ _
      subst e1
      obtain ⟨p, f, rfl, hc⟩ := hr k x hx
      have c0 := hc 0 _ rfl
      have c1 := hc 1 _ rfl
      simp only [vaE, Nat.add_zero] at c0 c1
      have hkl : (k : Int) < (mF : Int) := by omega
      have hk0 : (0 : Int) ≤ (k : Int) := by omega
      have htk : LF.take (k + 1) = LF.take k ++ [x] := by rw [List.take_add_one, hx]; rfl
      obtain ⟨r1, r2, r3⟩ := HR.out
      obtain ⟨M, hM⟩ : ∃ M, M = (LF.take k).filter fun x => !(x.nm == n) := ⟨_, rfl⟩
      rw [← hM] at r1 r2
      by_cases hxn : x.nm = n
      · have e1 : (x.nm == n) = true := beq_iff_eq.2 hxn
        have e1' : (x.nm != n) = false := by unfold bne; rw [e1]; rfl
        have hN : (LF.take (k + 1)).filter (fun x => !(x.nm == n)) = M := by rw [htk, List.filter_append, hM, List.filter_cons, e1]; simp
        have HN := Lib.hid (And.intro hN (And.intro r1 (And.intro r2 r3)))
        clear hs hx hr hc htk r1 r2 r3 hM hxn hN HR
        go_wp2_with fail
        go_roundw
        case measure => simp [intOf]; omega
        case rel => exact ⟨k + 1, m, A, c, by omega, by omega, rfl, by go_num, Lib.hid ⟨by rw [HN.out.1]; exact HN.out.2.1, by rw [HN.out.1]; exact HN.out.2.2.1, HN.out.2.2.2⟩⟩
      · have e1 : (x.nm == n) = false := beq_eq_false_iff_ne.2 hxn
        have e1' : (x.nm != n) = true := by unfold bne; rw [e1]; rfl
        have hN : (LF.take (k + 1)).filter (fun x => !(x.nm == n)) = M ++ [x] := by rw [htk, List.filter_append, hM, List.filter_cons, e1]; simp
        have hbd : Below wr.heap.size wr (wr.alloc (.cells #[.string ⟨x.nm.toArray⟩, .slice x.A x.b.length x.c] 77)) := below_alloc _ _
        have HR1 := Lib.hid (OwnR.below r1 hbd)
        have HN := Lib.hid (And.intro hN (And.intro r2 (And.intro r3 hbd)))
        have hMl : M.length = m := r2.symm
        have h5n : M.length + 1 ≤ maxLen := by unfold maxLen; omega
        have h6n : (M.length + 1) * 40 ≤ 140737488355328 := by omega
        have hsz := r3.size
        have hbs : w.heap.size ≤ (wr.alloc (.cells #[.string ⟨x.nm.toArray⟩, .slice x.A x.b.length x.c] 77)).heap.size := by simp; omega
        have Hbs := Lib.hid hbs
        clear hs hx hr hc htk r1 r2 r3 hM hxn hN HR hbd hbs hsz
        go_upto_region 3 with (at_builtin; go_must (refine appR1 Tryz.eltE2 _ rfl (.tmp 27) (.tmp 35) rfl w.heap.size (.slice A m c) M rfl HR1.out wr.heap.size 1 x _ _ rfl (Blk.new wr _ _) rfl h5n h6n Hbs.out ?_); intro g2 c2 w9 hown2 hb2 hg2)
        obtain ⟨hN, r2, r3, hbd⟩ := HN.out
        have HE := Lib.hid (show OwnR w9 w.heap.size 77 encE 2 (.slice (some ⟨g2, 0, none⟩) (m + 1) c2) ((LF.take (k + 1)).filter fun x => !(x.nm == n)) ∧ m + 1 = ((LF.take (k + 1)).filter fun x => !(x.nm == n)).length ∧ Below w.heap.size w w9 from by
          refine ⟨by rw [hN, ← hMl]; exact hown2, by rw [hN, List.length_append, hMl]; rfl, ?_⟩
          exact (on1 r3 hbd).trans hb2)
        clear hown2 hb2 hg2 hN r2 r3 hbd HR1 HN Hbs C c0 c1
        go_wp2_with fail
        go_roundw
        case measure => simp [intOf]; omega
        case rel => exact ⟨k + 1, m + 1, some ⟨g2, 0, none⟩, c2, by omega, by omega, by first | rfl | (rw [hMl]), by go_num, HE⟩
    · obtain rfl : k = mF := by omega
      have hkk : ¬ ((k : Int) < (k : Int)) := by omega
      obtain ⟨r1, r2, r3⟩ := HR.out
      rw [List.take_of_length_le (Nat.le_of_eq HSF.out.2.symm)] at r1 r2
      have HR2 := Lib.hid r2
      clear hlt HR r2
      go_upto_region 8 with fail
      generalize hW : World.setCell _ _ _ = W1
      clear C
      have S := HSF.out.1.setF (us := (LF.filter fun x => x.nm == n).map thb ++ ts) (M := []) r3 r1 hW (by
        rw [List.append_nil]
        exact filt_all n LF (LP.map thb) ts)
      have HSP := Lib.hid (And.intro S HmP.out)
      have C := fbsays S.bx
      simp only [cellsSay, rfc, Nat.reduceAdd, and_true] at C
      clear S r1 r3 hW hs
      go_wp2_with fail
      go_loopw [6, 7] (fun sl si wr => ∃ (k m : Nat) (A : Option Addr) (c : Nat), k ≤ mP ∧ m ≤ k ∧ sl = .slice A m c ∧ si = .int .i64 k ∧ Hid (OwnR wr W1.heap.size 78 encE 2 (.slice A m c) ((LP.take k).filter fun x => !(x.nm == n)) ∧ m = ((LP.take k).filter fun x => !(x.nm == n)).length ∧ Below W1.heap.size W1 wr)) (fun _ si _ => mP - (intOf si).toNat)
      case atStart => exact ⟨0, 0, none, 0, Nat.zero_le _, Nat.le_refl _, rfl, rfl, Lib.hid ⟨OwnR.nil _ _ _ _ _, rfl, Below.refl _ _⟩⟩
      case round =>
        obtain ⟨k, m, A, c, hk, hmk, rfl, rfl, HR⟩ := hrel
        have hs := HSP.out.1.go HR.out.2.2
        have C := fbsays hs.bx
        simp only [cellsSay, rfc, Nat.reduceAdd, and_true] at C
        by_cases hlt : k < mP
        · obtain ⟨x, hx⟩ : ∃ x, LP[k]? = some x := ⟨_, List.getElem?_eq_getElem (by rw [← HSP.out.2]; exact hlt)⟩
          obtain ⟨A', c', hv, -, hr⟩ := OwnR.row Tryz.eltP2 hs.rP
          injection hv with e1 _ _
          subst e1
          obtain ⟨p, f, rfl, hc⟩ := hr k x hx
          have c0 := hc 0 _ rfl
          have c1 := hc 1 _ rfl
          simp only [vaE, Nat.add_zero] at c0 c1
          have hkl : (k : Int) < (mP : Int) := by omega
          have hk0 : (0 : Int) ≤ (k : Int) := by omega
          have htk : LP.take (k + 1) = LP.take k ++ [x] := by rw [List.take_add_one, hx]; rfl
          obtain ⟨r1, r2, r3⟩ := HR.out
          obtain ⟨M, hM⟩ : ∃ M, M = (LP.take k).filter fun x => !(x.nm == n) := ⟨_, rfl⟩
          rw [← hM] at r1 r2
          by_cases hxn : x.nm = n
          · have e1 : (x.nm == n) = true := beq_iff_eq.2 hxn
            have e1' : (x.nm != n) = false := by unfold bne; rw [e1]; rfl
            have hN : (LP.take (k + 1)).filter (fun x => !(x.nm == n)) = M := by rw [htk, List.filter_append, hM, List.filter_cons, e1]; simp
            have HN := Lib.hid (And.intro hN (And.intro r1 (And.intro r2 r3)))
            clear hs hx hr hc htk r1 r2 r3 hM hxn hN HR
            go_wp2_with fail
            go_roundw
            case measure => simp [intOf]; omega
            case rel => exact ⟨k + 1, m, A, c, by omega, by omega, rfl, by go_num, Lib.hid ⟨by rw [HN.out.1]; exact HN.out.2.1, by rw [HN.out.1]; exact HN.out.2.2.1, HN.out.2.2.2⟩⟩
          · have e1 : (x.nm == n) = false := beq_eq_false_iff_ne.2 hxn
            have e1' : (x.nm != n) = true := by unfold bne; rw [e1]; rfl
            have hN : (LP.take (k + 1)).filter (fun x => !(x.nm == n)) = M ++ [x] := by rw [htk, List.filter_append, hM, List.filter_cons, e1]; simp
            have hbd : Below wr.heap.size wr (wr.alloc (.cells #[.string ⟨x.nm.toArray⟩, .slice x.A x.b.length x.c] 78)) := below_alloc _ _
            have HR1 := Lib.hid (OwnR.below r1 hbd)
            have HN := Lib.hid (And.intro hN (And.intro r2 (And.intro r3 hbd)))
            have hMl : M.length = m := r2.symm
            have h5n : M.length + 1 ≤ maxLen := by unfold maxLen; omega
            have h6n : (M.length + 1) * 40 ≤ 140737488355328 := by omega
            have hsz := r3.size
            have hbs : W1.heap.size ≤ (wr.alloc (.cells #[.string ⟨x.nm.toArray⟩, .slice x.A x.b.length x.c] 78)).heap.size := by simp; omega
            have Hbs := Lib.hid hbs
            clear hs hx hr hc htk r1 r2 r3 hM hxn hN HR hbd hbs hsz
            go_upto_region 10 with (at_builtin; go_must (refine appR1 Tryz.eltP2 _ rfl (.tmp 60) (.tmp 68) rfl W1.heap.size (.slice A m c) M rfl HR1.out wr.heap.size 1 x _ _ rfl (Blk.new wr _ _) rfl h5n h6n Hbs.out ?_); intro g2 c2 w9 hown2 hb2 hg2)
            obtain ⟨hN, r2, r3, hbd⟩ := HN.out
            have HE := Lib.hid (show OwnR w9 W1.heap.size 78 encE 2 (.slice (some ⟨g2, 0, none⟩) (m + 1) c2) ((LP.take (k + 1)).filter fun x => !(x.nm == n)) ∧ m + 1 = ((LP.take (k + 1)).filter fun x => !(x.nm == n)).length ∧ Below W1.heap.size W1 w9 from by
              refine ⟨by rw [hN, ← hMl]; exact hown2, by rw [hN, List.length_append, hMl]; rfl, ?_⟩
              exact (on1 r3 hbd).trans hb2)
            clear hown2 hb2 hg2 hN r2 r3 hbd HR1 HN Hbs C c0 c1
            go_wp2_with fail
            go_roundw
            case measure => simp [intOf]; omega
            case rel => exact ⟨k + 1, m + 1, some ⟨g2, 0, none⟩, c2, by omega, by omega, by first | rfl | (rw [hMl]), by go_num, HE⟩
        · obtain rfl : k = mP := by omega
          have hkk : ¬ ((k : Int) < (k : Int)) := by omega
          obtain ⟨r1, r2, r3⟩ := HR.out
          rw [List.take_of_length_le (Nat.le_of_eq HSP.out.2.symm)] at r1 r2
          have HR2 := Lib.hid r2
          clear hlt HR r2
          clear hs
          go_wp2_with fail
          generalize hW : World.setCell _ _ _ = W2
          clear C
          obtain ⟨LF1, hLF1⟩ : ∃ l, l = LF.filter fun x => !(x.nm == n) := ⟨_, rfl⟩
          obtain ⟨us1, hus1⟩ : ∃ l, l = (LF.filter fun x => x.nm == n).map thb ++ ts := ⟨_, rfl⟩
          have hSP := HSP.out.1
          rw [← hLF1, ← hus1] at hSP
          have S := hSP.setP (us := (LP.filter fun x => x.nm == n).map thb ++ us1) (M := []) r3 r1 hW (by
            rw [List.append_nil]
            exact (filt_all n LP [] us1).append_left _)
          rw [hLF1, hus1] at S
          have HE := Lib.hid S
          clear S r1 r3 hW hLF1 hus1 hSP
          go_wp2_with fail
          go_end0
          exact ⟨rfl, _, _, HE.out⟩

theorem rdrop_any8 {B q room : Nat} {w0 w : World} {ts : List Kt} {d : Fd} (n : Nm) (h : RfI B w0 w q room ts d) (hF8 : d.F.length ≤ 1000) (hP8 : d.P.length ≤ 1000000) :
    Calls Tryz.prog 66 #[.pointer (some ⟨q, 0, none⟩), .string ⟨n.toArray⟩] w fun e w' => e = .returned (.tuple #[]) ∧ RfI B w0 w' q room ts { d with F := dropN n d.F, P := dropN n d.P } := by
  obtain ⟨VF, VP, LF, LP, lv, hs, h1, h2, h3⟩ := h
  refine (rdropS_any n hs (by rw [nb_len h1]; exact hF8) (by rw [nb_len h2]; exact hP8)).mono ?_
  rintro e w' ⟨rfl, VF', VP', hS⟩
  exact ⟨rfl, VF', VP', _, _, lv, hS.sub ((List.sublist_append_right _ _).trans (List.sublist_append_right _ _)), by rw [filt_nb, h1], by rw [filt_nb, h2], h3⟩

end Go.Proofs.YtiogckgchlnldaaGreat

/- Layer 8, the document: insert. -/
set_option linter.unusedSimpArgs false
set_option linter.unusedVariables false
namespace Go.Proofs.YtiogckgchlnldaaGreat
open Go.RowKit
set_option maxRecDepth 100000

/-- where a row's rest lies -/
def clA (A : Option Addr) (i c : Nat) : Option Addr := if c = i then A else A.map fun a => a.add (i * 2)
theorem run_frontF (A : Option Addr) (n c k : Nat) (hk : k ≤ c) (hA : ∀ a, A = some a → ∃ p o, a = ⟨p, o, none⟩) (w : World) : (Instr.slice 56 (.slice A n c) none (some (.int .i64 k)) none).run Tryz.prog w = .ok (.slice A k c) w := by
  have hi : (Tryz.prog.info? 77).map (fun i => i.size) = some 2 := by kernel_rfl
  rw [run_slice_h w 56 A n c Tryz.underlying56 .i64 (k : Nat) (by omega) (by omega)]
  have hs : (sizeOf (Tryz.prog.elem 56)).run Tryz.prog w = .ok 2 w := by
    have e : Tryz.prog.elem 56 = 77 := by kernel_rfl
    rw [e]
    obtain ⟨i, h1, h2⟩ := Option.map_eq_some_iff.1 hi
    simp [sizeOf, typeInfo, h1, h2]
  rw [hs]
  simp only [Result.andThen, sliced, Int.toNat_natCast, Nat.zero_mul, Nat.sub_zero]
  congr 2
  split
  · rfl
  · cases A with
    | none => rfl
    | some a => simp [Addr.add]
theorem run_restF (A : Option Addr) (n c k : Nat) (hk : k ≤ n) (w : World) : (Instr.slice 56 (.slice A n c) (some (.int .i64 k)) none none).run Tryz.prog w = .ok (.slice (clA A k c) (n - k) (c - k)) w := by
  have hi : (Tryz.prog.info? 77).map (fun i => i.size) = some 2 := by kernel_rfl
  rw [run_slice_l w 56 A n c Tryz.underlying56 .i64 (k : Nat) (by omega) (by omega)]
  have hs : (sizeOf (Tryz.prog.elem 56)).run Tryz.prog w = .ok 2 w := by
    have e : Tryz.prog.elem 56 = 77 := by kernel_rfl
    rw [e]
    obtain ⟨i, h1, h2⟩ := Option.map_eq_some_iff.1 hi
    simp [sizeOf, typeInfo, h1, h2]
  rw [hs]
  rfl
theorem rw_front {w : World} {A : Option Addr} {L : List Fe} (h : Rw w encE 2 A L) (i : Nat) : Rw w encE 2 A (L.take i) := fun k x hk => by
  rw [List.getElem?_take] at hk
  split at hk
  · exact h k x hk
  · cases hk
theorem rw_rest {w : World} {A : Option Addr} {L : List Fe} (h : Rw w encE 2 A L) (i c : Nat) (hc : L.length ≤ c) (hi : i ≤ L.length) : Rw w encE 2 (clA A i c) (L.drop i) := fun k x hk => by
  rw [List.getElem?_drop] at hk
  obtain ⟨p, o, rfl, hcell⟩ := h _ x hk
  have hl := (List.getElem?_eq_some_iff.1 hk).1
  refine ⟨p, o + i * 2, ?_, fun j v hj => ?_⟩
  · unfold clA
    rw [if_neg (by omega)]
    simp only [Option.map_some]
    rw [addR]
  · rw [← hcell j v hj]
    congr 2
    omega

set_option maxHeartbeats 8000000 in
theorem rinsert_any {B q room : Nat} {w0 w : World} {ts : List Kt} {d : Fd} (x : Fe) (hx : x.nm.length ≤ maxLen) (h : RfI B w0 w q room (thb x :: ts) d) (hd : Df d.F) :
    Calls Tryz.prog 25 #[.pointer (some ⟨q, 0, none⟩), .agg #[.string ⟨x.nm.toArray⟩, .slice x.A x.b.length x.c]] w fun e w' => e = .returned (.tuple #[]) ∧ RfI B w0 w' q room ts { d with F := insF (x.nm, x.b) d.F } := by
  obtain ⟨bl, hbl⟩ : ∃ m, m = x.b.length := ⟨_, rfl⟩
  obtain ⟨W, hW⟩ : ∃ W, W = w.alloc (.cells #[.string ⟨x.nm.toArray⟩, .slice x.A x.b.length x.c] 77) := ⟨_, rfl⟩
  have hBx : Blk W w.heap.size 77 #[.string ⟨x.nm.toArray⟩, .slice x.A x.b.length x.c] := by rw [hW]; exact Blk.new _ _ _
  have hI : RfI B w0 W q room (thb x :: ts) d := h.go (by rw [hW]; exact below_alloc _ _)
  have HC := Lib.hid (rfind_any x.nm hx hI hd)
  rw [← hbl] at hW hBx ⊢
  obtain ⟨VF, VP, LF, LP, lv, hs, h1, h2, h3⟩ := hI
  obtain ⟨A, c, hVF, hlc, -⟩ := OwnR.row Tryz.eltE2 hs.rF
  subst hVF
  have hA : ∀ a, A = some a → ∃ p o, a = ⟨p, o, none⟩ := fun a e => by
    subst e
    rcases hs.rF.2 with ⟨h9, _⟩ | ⟨g9, cap9, cur, h9, _⟩
    · injection h9 with h9 _ _; cases h9
    · injection h9 with h9 _ _; injection h9 with h9; exact ⟨_, _, h9⟩
  obtain ⟨m, hm⟩ : ∃ m, m = LF.length := ⟨_, rfl⟩
  rw [← hm] at hs hlc
  have hm8 : m ≤ 8 := by rw [hm, nb_len h1]; exact hd.fl
  obtain ⟨pp, hpp⟩ : ∃ p, p = posF d.F x.nm := ⟨_, rfl⟩
  have hpm : pp ≤ m := by rw [hpp, hm, nb_len h1]; exact posF_le _ _
  have hins : insF (x.nm, x.b) d.F = (LF.take pp ++ x :: LF.drop pp).map nbE := by
    rw [insF_pos, ← hpp, ← h1, List.map_append, List.map_take, List.map_cons, List.map_drop]
    rfl
  rw [← hpp] at HC
  obtain ⟨th, hth⟩ : ∃ t, t = (atF d.F x.nm).isSome := ⟨_, rfl⟩
  rw [← hth] at HC
  obtain ⟨L1, hL1⟩ : ∃ l, l = LF.take pp := ⟨_, rfl⟩
  obtain ⟨L2, hL2⟩ : ∃ l, l = LF.drop pp := ⟨_, rfl⟩
  obtain ⟨rr, hrr⟩ : ∃ r, r = m - pp := ⟨_, rfl⟩
  have l1 : L1.length = pp := by rw [hL1, List.length_take, ← hm]; omega
  have l2 : L2.length = rr := by rw [hL2, List.length_drop, ← hm, hrr]
  have hrr8 : rr ≤ 8 := by omega
  have hLF : LF = L1 ++ L2 := by rw [hL1, hL2, List.take_append_drop]
  rw [← hL1, ← hL2] at hins
  have hRw : ∀ w, Rw w encE 2 A LF → Rw w encE 2 A L1 ∧ Rw w encE 2 (clA A pp c) L2 := fun w h9 => ⟨by rw [hL1]; exact rw_front h9 pp, by rw [hL2]; exact rw_rest h9 pp c (by omega) (by omega)⟩
  have hsr : ∀ w, (Instr.slice 56 (.slice A m c) (some (.int .i64 (pp : Nat))) none none).run Tryz.prog w = .ok (.slice (clA A pp c) rr (c - pp)) w := fun w => by rw [run_restF A m c pp hpm w, hrr]
  have hpc : pp ≤ c := by omega
  have hsf : ∀ w, (Instr.slice 56 (.slice A m c) none (some (.int .i64 (pp : Nat))) none).run Tryz.prog w = .ok (.slice A pp c) w := fun w => run_frontF A m c pp hpc hA w
  have HX := Lib.hid (And.intro hs (And.intro hins (And.intro h2 (And.intro h3 (And.intro hLF (And.intro hRw (And.intro hBx (And.intro hbl (And.intro hsf hsr)))))))))
  clear h hs h1 h2 h3 hm hpp hins hA hBx hd hx hth hbl hlc hL1 hL2 hrr hLF hRw hsr hsf
  go_enter Tryz.func25, Tryz.ntmps25
  have C0 := fbsays HX.out.2.2.2.2.2.2.1
  simp only [cellsSay, Nat.reduceAdd, and_true] at C0
  go_upto_region 1 with fail
  rw [← hW]
  clear hW
  go_wp2_with fail
  refine HC.out.mono ?_
  rintro e w2 ⟨rfl, b2⟩
  have S2 := HX.out.1.go b2
  have C := fbsays S2.bx
  have hBx2 := HX.out.2.2.2.2.2.2.1.below b2 HX.out.2.2.2.2.2.2.1.lt
  have C0 := fbsays hBx2
  simp only [cellsSay, rfc, Nat.reduceAdd, and_true] at C C0
  obtain ⟨A', c', hv, -, hr⟩ := OwnR.row Tryz.eltE2 S2.rF
  injection hv with e1 e2 e3
  subst e1
  clear e2 e3
  have sF := HX.out.2.2.2.2.2.2.2.2.1 w2
  have HR := Lib.hid (And.intro hr (And.intro S2 hBx2))
  have hpm9 : pp ≤ maxLen := by unfold maxLen; omega
  have hb0 : (0 + pp) * 40 ≤ 140737488355328 := by omega
  clear HC b2 S2 hr hBx2
  go_upto_region 4 with (at_builtin; go_must (refine appR Tryz.eltE2 _ rfl (.tmp 14) (.tmp 20) rfl w2.heap.size _ [] rfl (OwnR.nil _ _ _ _ _) A c L1 (by rw [l1]; rfl) (HX.out.2.2.2.2.2.1 w2 HR.out.1).1 (by rw [l1, List.length_nil, Nat.zero_add]; exact hpm9) (by rw [l1]; exact hb0) (Nat.le_refl _) ?_); intro A3 c3 w3 hown3 hb3)
  have h9 : OwnR w3 w2.heap.size 77 encE 2 (.slice A3 pp c3) L1 := by have h8 := hown3; rw [l1] at h8; simpa using h8
  have S3 := HR.out.2.1.go hb3
  have hB3 := HR.out.2.2.below hb3 HR.out.2.2.lt
  have C := fbsays S3.bx
  have C0 := fbsays hB3
  simp only [cellsSay, rfc, Nat.reduceAdd, and_true] at C C0
  have hbd : Below w3.heap.size w3 (w3.alloc (.cells #[.string ⟨x.nm.toArray⟩, .slice x.A bl x.c] 77)) := below_alloc _ _
  have H3 := Lib.hid (And.intro h9 (And.intro hb3 (And.intro S3 (And.intro hB3 (And.intro hbd (OwnR.below h9 hbd))))))
  have hbs : w2.heap.size ≤ (w3.alloc (.cells #[.string ⟨x.nm.toArray⟩, .slice x.A bl x.c] 77)).heap.size := by have := hb3.size; simp; omega
  have Hbs := Lib.hid hbs
  have henc : (#[.string ⟨x.nm.toArray⟩, .slice x.A bl x.c] : Array Value) = (encE x).toArray := by rw [HX.out.2.2.2.2.2.2.2.1]; rfl
  have Henc := Lib.hid henc
  have h1n : L1.length + 1 ≤ maxLen := by unfold maxLen; omega
  have h1b : (L1.length + 1) * 40 ≤ 140737488355328 := by omega
  clear hown3 hb3 h9 S3 hB3 hbd sF hb0 hpm9 hbs henc
  go_upto_region 5 with (at_builtin; go_must (refine appR1 Tryz.eltE2 _ rfl (.tmp 22) (.tmp 24) rfl w2.heap.size (.slice A3 pp c3) L1 rfl H3.out.2.2.2.2.2 w3.heap.size 1 x _ _ rfl (Blk.new w3 _ _) Henc.out h1n h1b Hbs.out ?_); intro g4 c4 w4 hown4 hb4 hg4)
  have hb34 := (on1 (Below.refl w3.heap.size w3) H3.out.2.2.2.2.1)
  have hb24 : Below w2.heap.size w2 w4 := (on1 H3.out.2.1 H3.out.2.2.2.2.1).trans hb4
  have S4 := HR.out.2.1.go hb24
  have C := fbsays S4.bx
  simp only [cellsSay, rfc, Nat.reduceAdd, and_true] at C
  obtain ⟨A', c', hv, -, hr4⟩ := OwnR.row Tryz.eltE2 S4.rF
  injection hv with e1 e2 e3
  subst e1
  clear e2 e3
  have h9 : OwnR w4 w2.heap.size 77 encE 2 (.slice (some ⟨g4, 0, none⟩) (pp + 1) c4) (L1 ++ [x]) := by rw [l1] at hown4; exact hown4
  obtain ⟨M, hM⟩ : ∃ M, M = L1 ++ [x] := ⟨_, rfl⟩
  rw [← hM] at h9
  have hMl : M.length = pp + 1 := by rw [hM, List.length_append, l1]; rfl
  have H4 := Lib.hid (And.intro h9 (And.intro hb24 (And.intro S4 (And.intro hr4 hM))))
  have sR := HX.out.2.2.2.2.2.2.2.2.2 w4
  have h5n : M.length + L2.length ≤ maxLen := by unfold maxLen; omega
  have h5b : (M.length + L2.length) * 40 ≤ 140737488355328 := by omega
  have hbs : w2.heap.size ≤ w4.heap.size := hb24.size
  have Hbs4 := Lib.hid hbs
  clear hown4 hb4 hg4 h9 hb34 hb24 S4 hr4 hM h1n h1b C0 Hbs hbs Henc
  go_upto_region 6 with (at_builtin; go_must (refine appR Tryz.eltE2 _ rfl (.tmp 26) (.tmp 32) rfl w2.heap.size (.slice (some ⟨g4, 0, none⟩) (pp + 1) c4) M rfl H4.out.1 (clA A pp c) (c - pp) L2 (by rw [l2]; rfl) (HX.out.2.2.2.2.2.1 w4 H4.out.2.2.2.1).2 h5n h5b Hbs4.out ?_); intro A5 c5 w5 hown5 hb5)
  have hb25 : Below w2.heap.size w2 w5 := H4.out.2.1.trans hb5
  have S5 := HR.out.2.1.go hb25
  have C := fbsays S5.bx
  simp only [cellsSay, rfc, Nat.reduceAdd, and_true] at C
  rw [hMl, l2] at hown5
  have H5 := Lib.hid (And.intro hown5 hb25)
  clear hown5 hb5 hb25 S5 sR h5n h5b
  go_wp2_with fail
  generalize hW : World.setCell _ _ _ = W6
  clear C
  have hp : (LF.map thb ++ (LP.map thb ++ thb x :: ts)).Perm (((M ++ L2).map thb ++ (LP.map thb ++ ts)) ++ []) := by
    rw [List.append_nil, H4.out.2.2.2.2, HX.out.2.2.2.2.1]
    simp only [List.map_append, List.map_cons, List.map_nil, List.append_assoc, List.singleton_append]
    refine List.Perm.append_left _ ?_
    have h8 : ((L2.map thb ++ LP.map thb) ++ thb x :: ts).Perm (thb x :: ((L2.map thb ++ LP.map thb) ++ ts)) := List.perm_middle
    rw [List.append_assoc, List.append_assoc] at h8
    exact h8
  have S := HR.out.2.1.setF (us := ts) (M := []) H5.out.2 H5.out.1 hW hp
  have HE := Lib.hid (show RfI B w0 W6 q room ts { d with F := insF (x.nm, x.b) d.F } from ⟨_, _, _, _, lv, S, by
    rw [HX.out.2.1, H4.out.2.2.2.2, List.append_assoc]
    rfl, HX.out.2.2.1, HX.out.2.2.2.1⟩)
  clear S hp hW
  go_wp2_with fail
  go_end0
  exact ⟨rfl, HE.out⟩

end Go.Proofs.YtiogckgchlnldaaGreat

/- Layer 8, the document: named, stopped, Halt, Read. -/
set_option linter.unusedSimpArgs false
set_option linter.unusedVariables false
namespace Go.Proofs.YtiogckgchlnldaaGreat
open Go.RowKit
set_option maxRecDepth 100000

theorem rnamed_any (n : Nm) (w : World) (hn : n.length ≤ maxLen) :
    Calls Tryz.prog 23 #[.string ⟨n.toArray⟩] w fun e w' => e = .returned (.bool (okN n)) ∧ w' = w := by
  by_cases h1 : 1 ≤ n.length
  · by_cases h2 : n.length ≤ 16
    · rw [show okN n = true from decide_eq_true ⟨h1, h2⟩]
      have d1 : decide ((1 : Int) ≤ (n.length : Int)) = true := decide_eq_true (by omega)
      have d2 : decide ((n.length : Int) ≤ 16) = true := decide_eq_true (by omega)
      clear h1 h2
      go_enter Tryz.func23, Tryz.ntmps23
      go_wp2_with fail
      go_ret
      exact ⟨rfl, rfl⟩
    · rw [show okN n = false from decide_eq_false (fun e => h2 e.2)]
      have d1 : decide ((1 : Int) ≤ (n.length : Int)) = true := decide_eq_true (by omega)
      have d2 : decide ((n.length : Int) ≤ 16) = false := decide_eq_false (by omega)
      clear h1 h2
      go_enter Tryz.func23, Tryz.ntmps23
      go_wp2_with fail
      go_ret
      exact ⟨rfl, rfl⟩
  · rw [show okN n = false from decide_eq_false (fun e => h1 e.1)]
    have d1 : decide ((1 : Int) ≤ (n.length : Int)) = false := decide_eq_false (by omega)
    clear h1
    go_enter Tryz.func23, Tryz.ntmps23
    go_wp2_with fail
    go_ret
    exact ⟨rfl, rfl⟩

section
variable {B q room : Nat} {w0 w w' : World} {ts : List Kt} {VF VP : Value} {LF LP : List Fe} {st dd : Bool} {lv : Nat}
theorem RfS.put (h : RfS B w0 w q room ts VF VP LF LP st lv dd) (l : List (Nat × Value)) (st' : Bool) (lv' : Nat) (dd' : Bool) (hW : sets w q l = w') (hc : setsL (rfc room VF VP st lv dd).toList l = (rfc room VF VP st' lv' dd').toList := by rfl) : RfS B w0 w' q room ts VF VP LF LP st' lv' dd' :=
  Sep.put h 0 q l (rfc room VF VP st' lv' dd') hW rfl hc
end

set_option maxHeartbeats 2000000 in
theorem rstop_any {B q room : Nat} {w0 w : World} {ts : List Kt} {d : Fd} (h : RfI B w0 w q room ts d) (hl : d.lf ≤ 1000000) :
    Calls Tryz.prog 24 #[.pointer (some ⟨q, 0, none⟩)] w fun e w' => e = .returned (.bool (!(runsD d).1)) ∧ RfI B w0 w' q room ts (runsD d).2 := by
  obtain ⟨VF, VP, LF, LP, lv, hs, h1, h2, h3⟩ := h
  have C := fbsays hs.bx
  simp only [cellsSay, rfc, Nat.reduceAdd, and_true] at C
  have HS := Lib.hid (And.intro hs (And.intro h1 h2))
  unfold runsD
  obtain ⟨dF, dP, st, lf, dd⟩ := d
  have hl : lf ≤ 1000000 := hl
  cases st with
  | false =>
    clear hs h1 h2 h3
    go_enter Tryz.func24, Tryz.ntmps24
    go_wp2_with fail
    go_ret
    exact ⟨rfl, VF, VP, LF, LP, lv, HS.out.1, HS.out.2.1, HS.out.2.2, fun e => by cases e⟩
  | true =>
    have h3 : lv = lf := h3 rfl
    subst h3
    clear hs h1 h2
    by_cases h0 : 0 < lv
    · rw [if_neg (by simp), if_pos h0]
      have d1 : decide ((0 : Int) < (lv : Int)) = true := decide_eq_true (by omega)
      have d2 : (0 : Int) < (lv : Int) := by omega
      have hw : wrap64 ((lv : Int) - 1) = ((lv - 1 : Nat) : Int) := by unfold wrap64; omega
      go_enter Tryz.func24, Tryz.ntmps24
      go_wp2_with fail
      go_ret
      rw [show ((lv : Int) - 1) = ((lv - 1 : Nat) : Int) by omega]
      exact ⟨rfl, VF, VP, LF, LP, lv - 1, HS.out.1.put [(4, .int .i64 ((lv - 1 : Nat) : Int))] true (lv - 1) dd rfl, HS.out.2.1, HS.out.2.2, fun _ => rfl⟩
    · rw [if_neg (by simp), if_neg h0]
      have d1 : decide ((0 : Int) < (lv : Int)) = false := decide_eq_false (by omega)
      have d2 : ¬ (0 : Int) < (lv : Int) := by omega
      go_enter Tryz.func24, Tryz.ntmps24
      go_wp2_with fail
      go_ret
      exact ⟨rfl, VF, VP, LF, LP, lv, HS.out.1.put [(5, .bool true)] true lv true rfl, HS.out.2.1, HS.out.2.2, fun _ => rfl⟩

theorem rhalt_any {B q room : Nat} {w0 w : World} {ts : List Kt} {d : Fd} (k : Int) (h : RfI B w0 w q room ts d) :
    Calls Tryz.prog 34 #[.pointer (some ⟨q, 0, none⟩), .int .i64 k] w fun e w' => e = .returned (.tuple #[]) ∧ RfI B w0 w' q room ts (haltD d k) := by
  obtain ⟨VF, VP, LF, LP, lv, hs, h1, h2, h3⟩ := h
  have C := fbsays hs.bx
  simp only [cellsSay, rfc, Nat.reduceAdd, and_true] at C
  have HS := Lib.hid (And.intro hs (And.intro h1 h2))
  clear hs h1 h2 h3
  by_cases hk : k < 0
  · have hk2 : max k 0 = 0 := by omega
    have d1 : decide (k < 0) = true := decide_eq_true hk
    have hz : k.toNat = 0 := by omega
    go_enter Tryz.func34, Tryz.ntmps34
    go_wp2_with fail
    generalize hW : World.setCell _ _ _ = w1
    go_end0
    exact ⟨rfl, VF, VP, LF, LP, 0, HS.out.1.put [(3, .bool true), (4, .int .i64 0)] true 0 d.dd hW, HS.out.2.1, HS.out.2.2, fun _ => hz.symm⟩
  · obtain ⟨n, rfl⟩ : ∃ n : Nat, k = (n : Int) := ⟨k.toNat, by omega⟩
    have d1 : decide ((n : Int) < 0) = false := decide_eq_false hk
    have hk2 : max (n : Int) 0 = (n : Int) := by omega
    go_enter Tryz.func34, Tryz.ntmps34
    go_wp2_with fail
    generalize hW : World.setCell _ _ _ = w1
    go_end0
    exact ⟨rfl, VF, VP, LF, LP, n, HS.out.1.put [(3, .bool true), (4, .int .i64 (n : Nat))] true n d.dd hW, HS.out.2.1, HS.out.2.2, fun _ => rfl⟩

theorem pcs_snoc {P : List (Nm × List UInt8)} {k : Nat} {p : Nm × List UInt8} (hp : P[k]? = some p) (n : Nm) : pcs (P.take (k + 1)) n = pcs (P.take k) n ++ (if p.1 = n then p.2 else []) := by
  rw [List.take_add_one, hp, pcs_append]
  congr 1
  show pcs [p] n = _
  by_cases h : p.1 = n
  · rw [if_pos h, ← h, pcs_cons_same, pcs_nil, List.append_nil]
  · rw [if_neg h, pcs_cons_ne h, pcs_nil]

end Go.Proofs.YtiogckgchlnldaaGreat

/- Layer 8, the document: Read. -/
set_option linter.unusedSimpArgs false
set_option linter.unusedVariables false
namespace Go.Proofs.YtiogckgchlnldaaGreat
open Go.RowKit
set_option maxRecDepth 100000

theorem rread_none {B q room : Nat} {w0 w : World} {ts : List Kt} {d : Fd} (n : Nm) (hn : n.length ≤ maxLen) (h : RfI B w0 w q room ts d) (hd : Db d) (hat : atF d.F n = none) :
    Calls Tryz.prog 52 #[.pointer (some ⟨q, 0, none⟩), .string ⟨n.toArray⟩] w fun e w' => e = .returned (.tuple #[.slice none 0 0, .int .i64 80]) ∧ Below w.heap.size w w' := by
  have HC := Lib.hid (rfind_any n hn h hd.df)
  rw [hat] at HC
  obtain ⟨pp, hpp⟩ : ∃ p, p = posF d.F n := ⟨_, rfl⟩
  rw [← hpp] at HC
  clear h hd hat hn hpp
  go_enter Tryz.func52, Tryz.ntmps52
  go_wp2_with fail
  refine HC.out.mono ?_
  rintro e w2 ⟨rfl, b2⟩
  have HB := Lib.hid b2
  clear b2 HC
  go_wp2_with fail
  go_ret2
  exact ⟨rfl, HB.out⟩

set_option maxHeartbeats 8000000 in
theorem rread_some {B q room : Nat} {w0 w : World} {ts : List Kt} {d : Fd} (n : Nm) (hn : n.length ≤ maxLen) (h : RfI B w0 w q room ts d) (hd : Db d) (b : List UInt8) (hb : rdD d n = some b) :
    Calls Tryz.prog 52 #[.pointer (some ⟨q, 0, none⟩), .string ⟨n.toArray⟩] w fun e w' => ∃ A c, e = .returned (.tuple #[.slice A b.length c, .int .i64 0]) ∧ Hid (OwnB w' w.heap.size (.slice A b.length c) b ∧ Below w.heap.size w w') := by
  have HC := Lib.hid (rfind_any n hn h hd.df)
  obtain ⟨du, hat, hbe⟩ : ∃ du, atF d.F n = some du ∧ b = du ++ pcs d.P n := by
    unfold rdD at hb
    cases ha : atF d.F n with
    | none => rw [ha] at hb; cases hb
    | some du =>
      rw [ha] at hb
      injection hb with hb
      exact ⟨du, rfl, hb.symm⟩
  rw [hat] at HC
  have hpos := posF_there hd.up hat
  obtain ⟨pp, hpp⟩ : ∃ p, p = posF d.F n := ⟨_, rfl⟩
  rw [← hpp] at HC hpos
  have hbl : (du ++ pcs d.P n).length ≤ 200000 := hd.fb (n, du) ((atF_some hd.up).1 hat)
  obtain ⟨VF, VP, LF, LP, lv, hs, h1, h2, h3⟩ := h
  obtain ⟨AF, cF, hVF, -, -⟩ := OwnR.row Tryz.eltE2 hs.rF
  obtain ⟨AP, cP, hVP, -, -⟩ := OwnR.row Tryz.eltP2 hs.rP
  subst hVF hVP
  obtain ⟨mF, hmF⟩ : ∃ m, m = LF.length := ⟨_, rfl⟩
  obtain ⟨mP, hmP⟩ : ∃ m, m = LP.length := ⟨_, rfl⟩
  rw [← hmF, ← hmP] at hs
  have hF8 : mF ≤ 8 := by rw [hmF, nb_len h1]; exact hd.fl
  have hP6 : mP ≤ 1000000 := by rw [hmP, nb_len h2]; exact hd.pl
  obtain ⟨x, hx, hxb⟩ : ∃ x, LF[pp]? = some x ∧ x.b = du := by
    have hl := (List.getElem?_eq_some_iff.1 hpos).1
    rw [← nb_len h1] at hl
    refine ⟨LF[pp], List.getElem?_eq_getElem hl, ?_⟩
    have := nb_get h1 (List.getElem?_eq_getElem hl)
    rw [hpos] at this
    injection this with this
    injection this with _ e2
    exact e2.symm
  have hpm : pp < mF := by rw [hmF]; exact (List.getElem?_eq_some_iff.1 hx).1
  obtain ⟨bl, hbl2⟩ : ∃ m, m = b.length := ⟨_, rfl⟩
  rw [← hbl2]
  have HX := Lib.hid (And.intro hs (And.intro h2 (And.intro hx (And.intro hxb (And.intro hbe (And.intro hbl (And.intro hmP hbl2)))))))
  clear hs h1 h2 h3 hmF hmP hpp hd hat hpos hbl hb hn hbe hx hxb hbl2
  go_enter Tryz.func52, Tryz.ntmps52
  go_wp2_with fail
  refine HC.out.mono ?_
  rintro e w2 ⟨rfl, b2⟩
  obtain ⟨hs, h2, hx, hxb, hbe, hbl, hmP, hbl2⟩ := HX.out
  have S2 := hs.go b2
  have C := fbsays S2.bx
  simp only [cellsSay, rfc, Nat.reduceAdd, and_true] at C
  obtain ⟨A', c', hv, -, hr⟩ := OwnR.row Tryz.eltE2 S2.rF
  injection hv with e1 e2 e3
  subst e1
  clear e2 e3
  obtain ⟨p, f, rfl, hc⟩ := hr pp x hx
  have c1 := hc 1 _ rfl
  simp only [vaE] at c1
  have hpl : (pp : Int) < (mF : Int) := by omega
  have hp0 : (0 : Int) ≤ (pp : Int) := by omega
  have HBx := Lib.hid (OwnB.bs (S2.oF (List.mem_of_getElem? hx)))
  obtain ⟨xl, hxl⟩ : ∃ m, m = x.b.length := ⟨_, rfl⟩
  have hxl6 : xl ≤ 200000 := by rw [hxl, hxb]; rw [List.length_append] at hbl; omega
  rw [← hxl] at c1
  have HS2 := Lib.hid (And.intro S2 b2)
  have Hxl := Lib.hid hxl
  clear hs h2 hx hxb hbe hbl hmP hbl2 S2 b2 hr hc HC hxl
  go_upto_region 6 with (at_builtin; go_must (refine appAll _ rfl (.tmp 18) (.tmp 26) rfl w2.heap.size _ [] rfl (OwnB.nil _ _) x.A x.c x.b (by rw [← Hxl.out]; rfl) HBx.out (by rw [← Hxl.out]; simp only [List.length_nil]; omega) (Nat.le_refl _) ?_); intro A3 c3 w3 hown3 hb3)
  have h9 : OwnB w3 w2.heap.size (.slice A3 xl c3) x.b := by have h8 := hown3; rw [← Hxl.out] at h8; simpa using h8
  have H3 := Lib.hid (And.intro h9 hb3)
  rw [← Hxl.out]
  clear hown3 hb3 h9 C c1 HBx hpl hp0
  go_wp2_with fail
  go_loopw [8, 9] (fun s8 s9 wr => ∃ (k ln : Nat) (A : Option Addr) (c : Nat), k ≤ mP ∧ s8 = .slice A ln c ∧ s9 = .int .i64 k ∧ Hid (OwnB wr w2.heap.size (.slice A ln c) (du ++ pcs (d.P.take k) n) ∧ ln = (du ++ pcs (d.P.take k) n).length ∧ Below w2.heap.size w2 wr)) (fun _ s _ => mP - (intOf s).toNat)
  case atStart => exact ⟨0, xl, A3, c3, Nat.zero_le _, rfl, rfl, Lib.hid ⟨by rw [List.take_zero, pcs_nil, List.append_nil, ← HX.out.2.2.2.1]; exact H3.out.1, by rw [List.take_zero, pcs_nil, List.append_nil, ← HX.out.2.2.2.1]; exact Hxl.out, H3.out.2⟩⟩
  case round =>
    obtain ⟨k, ln, A, c, hk, rfl, rfl, HR⟩ := hrel
    clear H3 Hxl hxl6
    obtain ⟨r1, r2, r3⟩ := HR.out
    have hs := HS2.out.1.go r3
    have C := fbsays hs.bx
    simp only [cellsSay, rfc, Nat.reduceAdd, and_true] at C
    by_cases hlt : k < mP
    · obtain ⟨y, hy⟩ : ∃ y, LP[k]? = some y := ⟨_, List.getElem?_eq_getElem (by rw [← HX.out.2.2.2.2.2.2.1]; exact hlt)⟩
      obtain ⟨A', c', hv, -, hr⟩ := OwnR.row Tryz.eltP2 hs.rP
      injection hv with e1 e2 e3
      subst e1
      clear e2 e3
      obtain ⟨p, f, rfl, hc⟩ := hr k y hy
      have c0 := hc 0 _ rfl
      have c1 := hc 1 _ rfl
      simp only [vaE, Nat.add_zero] at c0 c1
      have hkl : (k : Int) < (mP : Int) := by omega
      have hk0 : (0 : Int) ≤ (k : Int) := by omega
      have hps := pcs_snoc (nb_get HX.out.2.1 hy) n
      have hle := pcs_take_le d.P n (k + 1)
      have hbl := HX.out.2.2.2.2.2.1
      rw [List.length_append] at hbl
      by_cases hyn : y.nm = n
      · have e1 : (y.nm == n) = true := beq_iff_eq.2 hyn
        have hps : pcs (d.P.take (k + 1)) n = pcs (d.P.take k) n ++ y.b := by rw [hps, if_pos hyn]
        obtain ⟨G, hG⟩ : ∃ G, G = du ++ pcs (d.P.take k) n := ⟨_, rfl⟩
        have hG2 : du ++ pcs (d.P.take (k + 1)) n = G ++ y.b := by rw [hps, hG, List.append_assoc]
        rw [← hG] at r1 r2
        rw [hps] at hle
        have hGl : G.length + y.b.length ≤ 140737488355328 := by rw [hG]; rw [List.length_append] at hle ⊢; omega
        have HB2 := Lib.hid (OwnB.bs (hs.oP (List.mem_of_getElem? hy)))
        obtain ⟨yl, hyl⟩ : ∃ m, m = y.b.length := ⟨_, rfl⟩
        have HN := Lib.hid (And.intro r1 (And.intro r2 (And.intro r3 (And.intro hG2 (And.intro hGl hyl)))))
        rw [← hyl] at c1
        have hbase := r3.size
        have Hbs := Lib.hid hbase
        clear hs hy hr hc r1 r2 r3 hps hle hbl hyn hG hG2 hGl hyl HR hbase
        go_upto_region 8 with (at_builtin; go_must (refine appAll _ rfl (.tmp 47) (.tmp 55) rfl w2.heap.size _ G rfl (by have h8 := HN.out.1; rw [HN.out.2.1] at h8; rw [HN.out.2.1]; exact h8) y.A y.c y.b (by rw [← HN.out.2.2.2.2.2]; rfl) HB2.out HN.out.2.2.2.2.1 Hbs.out ?_); intro A7 c7 w7 hown7 hb7)
        obtain ⟨ln7, hln7⟩ : ∃ m, m = G.length + y.b.length := ⟨_, rfl⟩
        rw [← hln7] at hown7 ⊢
        have HE := Lib.hid (show OwnB w7 w2.heap.size (.slice A7 ln7 c7) (du ++ pcs (d.P.take (k + 1)) n) ∧ ln7 = (du ++ pcs (d.P.take (k + 1)) n).length ∧ Below w2.heap.size w2 w7 from ⟨by rw [HN.out.2.2.2.1]; exact hown7, by rw [HN.out.2.2.2.1, List.length_append]; exact hln7, HN.out.2.2.1.trans hb7⟩)
        clear hown7 hb7 hln7 HN HB2 Hbs C c0 c1
        go_wp2_with fail
        go_roundw
        case measure => simp [intOf]; omega
        case rel => exact ⟨k + 1, ln7, A7, c7, by omega, rfl, by go_num, HE⟩
      · have e1 : (y.nm == n) = false := beq_eq_false_iff_ne.2 hyn
        have hps : pcs (d.P.take (k + 1)) n = pcs (d.P.take k) n := by rw [hps, if_neg hyn, List.append_nil]
        have HN := Lib.hid (And.intro r1 (And.intro r2 (And.intro r3 hps)))
        clear hs hy hr hc r1 r2 r3 hps hle hbl hyn HR
        go_wp2_with fail
        go_roundw
        case measure => simp [intOf]; omega
        case rel => exact ⟨k + 1, ln, A, c, by omega, rfl, by go_num, Lib.hid ⟨by rw [HN.out.2.2.2]; exact HN.out.1, by rw [HN.out.2.2.2]; exact HN.out.2.1, HN.out.2.2.1⟩⟩
    · obtain rfl : k = mP := by omega
      have hkk : ¬ ((k : Int) < (k : Int)) := by omega
      rw [List.take_of_length_le (by rw [← nb_len HX.out.2.1, ← HX.out.2.2.2.2.2.2.1]; exact Nat.le_refl _), ← HX.out.2.2.2.2.1] at r1 r2
      obtain rfl : ln = bl := by rw [r2, ← HX.out.2.2.2.2.2.2.2]
      have HE := Lib.hid (show OwnB wr w.heap.size (.slice A ln c) b ∧ Below w.heap.size w wr from ⟨r1.mono HS2.out.2.size, HS2.out.2.trans (r3.mono HS2.out.2.size)⟩)
      clear r1 r2 r3 hs HR
      go_wp2_with fail
      go_ret2
      exact ⟨A, c, rfl, HE⟩

end Go.Proofs.YtiogckgchlnldaaGreat

/- Layer 8, the document: Files, Used. -/
set_option linter.unusedSimpArgs false
set_option linter.unusedVariables false
namespace Go.Proofs.YtiogckgchlnldaaGreat
open Go.RowKit
set_option maxRecDepth 100000

abbrev Ge2 (w : World) (R : Value) (L : List Fe) : Prop := Gl (·.b) vaE w 77 encE 2 R L

set_option maxHeartbeats 8000000 in
theorem rfiles_any {B q room : Nat} {w0 w : World} {ts : List Kt} {d : Fd} (h : RfI B w0 w q room ts d) (hd : Db d) :
    Calls Tryz.prog 40 #[.pointer (some ⟨q, 0, none⟩)] w fun e w' => ∃ R c L, e = .returned (.slice R d.F.length c) ∧ Hid ((thE (.slice R d.F.length c) L).P w' ∧ L.map nbE = nbD d ∧ Below w.heap.size w w' ∧ ∀ k, (thE (.slice R d.F.length c) L).F k → w.heap.size ≤ k) := by
  have hI := h
  obtain ⟨VF, VP, LF, LP, lv, hs, h1, h2, h3⟩ := h
  obtain ⟨AF, cF, hVF, -, -⟩ := OwnR.row Tryz.eltE2 hs.rF
  subst hVF
  obtain ⟨n, hn⟩ : ∃ m, m = LF.length := ⟨_, rfl⟩
  rw [← hn] at hs
  have hn8 : n ≤ 8 := by rw [hn, nb_len h1]; exact hd.fl
  rw [show d.F.length = n by rw [hn, nb_len h1]]
  have HX := Lib.hid (And.intro hs (And.intro h1 (And.intro hd (And.intro hI hn))))
  clear hs h1 h2 h3 hd hI hn
  go_enter Tryz.func40, Tryz.ntmps40
  go_wp2_with fail
  go_loopw [3, 4] (fun s3 s4 wr => ∃ k : Nat, ∃ (R : Option Addr) (c : Nat), k ≤ n ∧ s3 = .slice R k c ∧ s4 = .int .i64 k ∧ Hid (∃ L, L.map nbE = (nbD d).take k ∧ OwnR wr w.heap.size 77 encE 2 (.slice R k c) L ∧ Ge2 wr (.slice R k c) L ∧ Below w.heap.size w wr ∧ ∀ j, footG vaE (.slice R k c) L j → w.heap.size ≤ j))
    (fun _ s _ => n - (intOf s).toNat)
  case atStart => exact ⟨0, none, 0, Nat.zero_le _, rfl, rfl, Lib.hid ⟨[], rfl, OwnR.nil _ _ _ _ _, Gl.nil _ _ _ _ _ _, Below.refl _ _, fun j hj => by rcases hj with hj | ⟨t, ht, _⟩ <;> simp_all [Value.ownBlock]⟩⟩
  case round =>
    obtain ⟨k, R, c, hkn, rfl, rfl, HR⟩ := hrel
    obtain ⟨L, l1, l2, l3, l4, l5⟩ := HR.out
    have hs := HX.out.1.go l4
    have hI := HX.out.2.2.2.1.go l4
    have C := fbsays hs.bx
    simp only [cellsSay, rfc, Nat.reduceAdd, and_true] at C
    by_cases hlt : k < n
    · obtain ⟨x, hx⟩ : ∃ x, LF[k]? = some x := ⟨_, List.getElem?_eq_getElem (by rw [← HX.out.2.2.2.2]; exact hlt)⟩
      obtain ⟨A', c', hv, -, hr⟩ := OwnR.row Tryz.eltE2 hs.rF
      injection hv with e1 e2 e3
      subst e1
      clear e2 e3
      obtain ⟨p, f, rfl, hc⟩ := hr k x hx
      have c0 := hc 0 _ rfl
      simp only [Nat.add_zero] at c0
      have hF := nb_get HX.out.2.1 hx
      have hd := HX.out.2.2.1
      have hfm := List.mem_of_getElem? hF
      have hxn : x.nm.length ≤ maxLen := by
        have : x.nm.length ≤ 16 := hd.fn _ hfm
        unfold maxLen
        omega
      have hrd : rdD d x.nm = some (x.b ++ pcs d.P x.nm) := by
        unfold rdD
        rw [(atF_some hd.up).2 hfm]
        rfl
      have hnk : (nbD d)[k]? = some (x.nm, x.b ++ pcs d.P x.nm) := by
        unfold nbD
        rw [List.getElem?_map, hF]
        rfl
      obtain ⟨b8, hb8⟩ : ∃ b, b = x.b ++ pcs d.P x.nm := ⟨_, rfl⟩
      rw [← hb8] at hrd hnk
      have HC := Lib.hid (rread_some x.nm hxn hI hd b8 hrd)
      obtain ⟨bl, hbl⟩ : ∃ m, m = b8.length := ⟨_, rfl⟩
      rw [← hbl] at HC
      have hkl : (k : Int) < (n : Int) := by omega
      have hk0 : (0 : Int) ≤ (k : Int) := by omega
      have HL := Lib.hid (And.intro l1 (And.intro l2 (And.intro l3 (And.intro l4 (And.intro l5 (And.intro hnk (And.intro hbl (And.intro hs (hc 0 _ rfl)))))))))
      clear l1 l2 l3 l4 l5 HR hx hr hc hF hd hfm hxn hrd hnk hb8 hbl hI hs
      go_wp2_with fail
      refine HC.out.mono ?_
      rintro e w8 ⟨A8, c8, rfl, h8⟩
      obtain ⟨l1, l2, l3, l4, l5, hnk, hbl, hs, hc0⟩ := HL.out
      have hLl : L.length = k := by
        have := congrArg List.length l1
        rw [List.length_map, List.length_take, nbD_len, ← nb_len HX.out.2.1, ← HX.out.2.2.2.2] at this
        omega
      obtain ⟨o8, b8'⟩ := h8.out
      have C := fbsays (hs.go b8').bx
      simp only [cellsSay, rfc, Nat.reduceAdd, and_true] at C
      have c0 : w8.cell? ⟨p, f + k * 2, none⟩ = some (.string ⟨x.nm.toArray⟩) := (b8'.cell (cell_lt hc0)).trans hc0
      have hR := (l2.below b8').alloc (.cells #[.string ⟨x.nm.toArray⟩, .slice A8 bl c8] 77)
      have hb10 : Below wr.heap.size wr (w8.alloc (.cells #[.string ⟨x.nm.toArray⟩, .slice A8 bl c8] 77)) := b8'.alloc b8'.size _
      have henc : (#[.string ⟨x.nm.toArray⟩, .slice A8 bl c8] : Array Value) = (encE ⟨x.nm, b8, A8, c8⟩).toArray := by rw [hbl]; rfl
      have HL2 := Lib.hid (And.intro l1 (And.intro l3 (And.intro l4 (And.intro l5 (And.intro hnk (And.intro hbl (And.intro o8 (And.intro hb10 henc))))))))
      have HR2 := Lib.hid hR
      have h5n : L.length + 1 ≤ maxLen := by unfold maxLen; omega
      have h6n : (L.length + 1) * 40 ≤ 140737488355328 := by omega
      have hbase : w.heap.size ≤ (w8.alloc (.cells #[.string ⟨x.nm.toArray⟩, .slice A8 bl c8] 77)).heap.size := Nat.le_trans l4.size hb10.size
      have Hbs := Lib.hid hbase
      clear HL HC h8 o8 b8' hR hb10 l1 l2 l3 l4 l5 hnk hbl hs hc0 henc hbase
      go_upto_region 4 with (at_builtin; go_must (refine appR1L Tryz.eltE2 _ rfl (.tmp 29) (.tmp 40) rfl w.heap.size (.slice R k c) L rfl HR2.out w8.heap.size 1 ⟨x.nm, b8, A8, c8⟩ _ _ rfl (Blk.new w8 _ _) HL2.out.2.2.2.2.2.2.2.2 h5n h6n Hbs.out ?_); intro g2 c2 w9 hown2 hgr2 hor2 hlt2)
      obtain ⟨l1, l3, l4, l5, hnk, hbl, o8, hb10, henc⟩ := HL2.out
      have hl8 : ∀ j, (Value.slice (some ⟨g2, 0, none⟩) (k + 1) c2).ownBlock = some j → (Value.slice R k c).ownBlock = some j ∨ (w8.alloc (.cells #[.string ⟨x.nm.toArray⟩, .slice A8 bl c8] 77)).heap.size ≤ j := fun j e => by
        have e2 : g2 = j := by simpa [Value.ownBlock] using e
        subst e2
        rcases hor2 with h9 | h9
        · exact .inl h9
        · exact .inr (Nat.le_of_eq h9.symm)
      have hv8 : vaE (⟨x.nm, b8, A8, c8⟩ : Fe) = .slice A8 bl c8 := by unfold vaE; rw [hbl]
      have hx8 : ∀ j, (vaE (⟨x.nm, b8, A8, c8⟩ : Fe)).ownBlock = some j → wr.heap.size ≤ j := fun j e => by rw [hv8] at e; exact (World.ownsRow.lt o8 j e).1
      rw [hLl] at hown2
      have G2 : Ge2 w9 (.slice (some ⟨g2, 0, none⟩) (k + 1) c2) (L ++ [(⟨x.nm, b8, A8, c8⟩ : Fe)]) := l3.snoc (x := (⟨x.nm, b8, A8, c8⟩ : Fe)) hb10 (hown2.mono (Nat.zero_le _)) hgr2 hl8 (by rw [hv8]; exact (o8.mono (Nat.zero_le _)).below (below_alloc _ _)) hx8
      have b2 : Below w.heap.size w w9 := Below.grown (on1 l4 hb10) hgr2 (on1 l4 hb10).size (fun j e => l5 j (.inl e))
      have f2 : ∀ j, footG vaE (.slice (some ⟨g2, 0, none⟩) (k + 1) c2) (L ++ [(⟨x.nm, b8, A8, c8⟩ : Fe)]) j → w.heap.size ≤ j := fun j hj => by
        rcases footG_snoc (x := (⟨x.nm, b8, A8, c8⟩ : Fe)) (V := .slice R k c) (V2 := .slice (some ⟨g2, 0, none⟩) (k + 1) c2) (B := wr.heap.size) (fun k e => (hl8 k e).imp id (fun h => Nat.le_trans hb10.size h)) hx8 j hj with h9 | h9
        · exact l5 j h9
        · exact Nat.le_trans l4.size h9
      have m2 : (L ++ [(⟨x.nm, b8, A8, c8⟩ : Fe)]).map nbE = (nbD d).take (k + 1) := by
        rw [List.take_add_one, hnk, List.map_append, l1]
        rfl
      have HE := Lib.hid (show ∃ L, L.map nbE = (nbD d).take (k + 1) ∧ OwnR w9 w.heap.size 77 encE 2 (.slice (some ⟨g2, 0, none⟩) (k + 1) c2) L ∧ Ge2 w9 (.slice (some ⟨g2, 0, none⟩) (k + 1) c2) L ∧ Below w.heap.size w w9 ∧ ∀ j, footG vaE (.slice (some ⟨g2, 0, none⟩) (k + 1) c2) L j → w.heap.size ≤ j from ⟨_, m2, hown2, G2, b2, f2⟩)
      clear l1 l3 l4 l5 hnk hbl o8 hb10 henc hl8 hv8 hx8 G2 b2 f2 m2 hown2 hgr2 hor2 hlt2 hLl HL2 HR2 Hbs
      go_wp2_with fail
      go_roundw
      case measure => simp [intOf]; omega
      case rel => exact ⟨k + 1, some ⟨g2, 0, none⟩, c2, by omega, rfl, by go_num, HE⟩
    · obtain rfl : k = n := by omega
      have hkk : ¬ ((k : Int) < (k : Int)) := by omega
      rw [List.take_of_length_le (by rw [nbD_len, ← nb_len HX.out.2.1, ← HX.out.2.2.2.2]; exact Nat.le_refl _)] at l1
      have HEND := Lib.hid (show (thE (.slice R k c) L).P wr ∧ L.map nbE = nbD d ∧ Below w.heap.size w wr ∧ ∀ j, (thE (.slice R k c) L).F j → w.heap.size ≤ j from ⟨⟨l3.row, fun x hx => l3.el x hx⟩, l1, l4, l5⟩)
      clear l1 l2 l3 l4 l5 HR hs hI
      go_wp2_with fail
      go_ret
      exact ⟨R, c, rfl, L, HEND⟩

set_option maxHeartbeats 4000000 in
theorem rused_any {B q room : Nat} {w0 w : World} {ts : List Kt} {d : Fd} (h : RfI B w0 w q room ts d) (hd : Db d) :
    Calls Tryz.prog 26 #[.pointer (some ⟨q, 0, none⟩)] w fun e w' => e = .returned (.int .i64 (usedD d : Nat)) ∧ Below w.heap.size w w' := by
  have HC := Lib.hid (rfiles_any h hd)
  obtain ⟨n, hn⟩ : ∃ m, m = d.F.length := ⟨_, rfl⟩
  have hn8 : n ≤ 8 := by rw [hn]; exact hd.fl
  obtain ⟨u, hu⟩ : ∃ u, u = usedD d := ⟨_, rfl⟩
  have hu6 : u ≤ 200000 := by rw [hu]; exact hd.us
  rw [← hn] at HC
  rw [← hu]
  have Hn := Lib.hid (And.intro hn hu)
  clear h hd hn hu
  go_enter Tryz.func26, Tryz.ntmps26
  go_wp2_with fail
  refine HC.out.mono ?_
  rintro e w1 ⟨R, c, L, rfl, h1⟩
  obtain ⟨p1, m1, b1, f1⟩ := h1.out
  have hus : u = (L.map fun x => x.b.length).sum := by
    rw [Hn.out.2]
    have : L.map (fun x => x.b.length) = (L.map nbE).map (fun p => p.2.length) := by rw [List.map_map]; rfl
    rw [this, m1]
    unfold usedD nbD
    rw [List.map_map]
    rfl
  have hLl : L.length = n := by rw [Hn.out.1, ← nbD_len, ← m1, List.length_map]
  have H1 := Lib.hid (And.intro p1 (And.intro b1 (And.intro hus hLl)))
  clear p1 m1 b1 f1 hus hLl h1 HC
  go_wp2_with fail
  go_loopw [3, 5] (fun s3 s5 wr => ∃ k t : Nat, k ≤ n ∧ t ≤ u ∧ s3 = .int .i64 t ∧ s5 = .int .i64 k ∧ Hid (wr = w1 ∧ t = ((L.take k).map fun x => x.b.length).sum)) (fun _ s _ => n - (intOf s).toNat)
  case atStart => exact ⟨0, 0, Nat.zero_le _, Nat.zero_le _, rfl, rfl, Lib.hid ⟨rfl, rfl⟩⟩
  case round =>
    obtain ⟨k, t, hk, ht, rfl, rfl, HR⟩ := hrel
    by_cases hlt : k < n
    · obtain ⟨x, hx⟩ : ∃ x, L[k]? = some x := ⟨_, List.getElem?_eq_getElem (by rw [H1.out.2.2.2]; exact hlt)⟩
      obtain ⟨p, f, rfl, hc⟩ := (es_thE H1.out.1).row k x hx
      have c1 := hc 1 _ rfl
      rw [← HR.out.1] at c1
      simp only [vaE] at c1
      obtain ⟨xl, hxl⟩ : ∃ m, m = x.b.length := ⟨_, rfl⟩
      rw [← hxl] at c1
      have hkl : (k : Int) < (n : Int) := by omega
      have hk0 : (0 : Int) ≤ (k : Int) := by omega
      have hts : t + xl = ((L.take (k + 1)).map fun x => x.b.length).sum := by
        rw [List.take_add_one, hx, List.map_append, List.sum_append, ← HR.out.2, hxl]
        simp
      have htu : t + xl ≤ u := by
        rw [hts, H1.out.2.2.1]
        conv => rhs; rw [← List.take_append_drop (k + 1) L, List.map_append, List.sum_append]
        omega
      have HN := Lib.hid (And.intro HR.out.1 hts)
      clear hc hx hxl hts HR
      go_wp2_with fail
      go_roundw
      case measure => simp [intOf]; omega
      case rel => exact ⟨k + 1, t + xl, by omega, htu, by go_num, by go_num, HN⟩
    · obtain rfl : k = n := by omega
      have hkk : ¬ ((k : Int) < (k : Int)) := by omega
      have hte : t = u := by rw [HR.out.2, H1.out.2.2.1, List.take_of_length_le (Nat.le_of_eq H1.out.2.2.2)]
      have HB : Hid (Below w.heap.size w wr) := Lib.hid (by rw [HR.out.1]; exact H1.out.2.1)
      subst hte
      clear HR
      go_wp2_with fail
      go_ret
      exact ⟨rfl, HB.out⟩

end Go.Proofs.YtiogckgchlnldaaGreat

/- Layer 8, the document: Create, Remove. -/
set_option linter.unusedSimpArgs false
set_option linter.unusedVariables false
namespace Go.Proofs.YtiogckgchlnldaaGreat
open Go.RowKit
set_option maxRecDepth 100000

set_option maxHeartbeats 4000000 in
theorem rremove_any {B q room : Nat} {w0 w : World} {ts : List Kt} {d : Fd} (n : Nm) (hn : n.length ≤ maxLen) (h : RfI B w0 w q room ts d) (hd : Db d) (hl : d.lf ≤ 1000000) :
    Calls Tryz.prog 51 #[.pointer (some ⟨q, 0, none⟩), .string ⟨n.toArray⟩] w fun e w' => e = .returned (.int .i64 ((removeD d n).1 : Nat)) ∧ RfI B w0 w' q room ts (removeD d n).2 := by
  have HC := Lib.hid (rfind_any n hn h hd.df)
  obtain ⟨pp, hpp⟩ : ∃ p, p = posF d.F n := ⟨_, rfl⟩
  rw [← hpp] at HC
  have H := Lib.hid (And.intro h (And.intro hd hl))
  clear h hpp hn hl
  cases hat : atF d.F n with
  | none =>
    rw [hat] at HC
    rw [show removeD d n = (80, d) by unfold removeD; rw [if_pos (by rw [hat]; rfl)]]
    clear hat hd
    go_enter Tryz.func51, Tryz.ntmps51
    go_wp2_with fail
    refine HC.out.mono ?_
    rintro e w2 ⟨rfl, b2⟩
    have HB := Lib.hid b2
    clear b2 HC
    go_wp2_with fail
    go_ret
    exact ⟨rfl, H.out.1.go HB.out⟩
  | some b =>
    rw [hat] at HC
    obtain ⟨r, hr⟩ : ∃ r, r = runsD d := ⟨_, rfl⟩
    have hk := runs_keeps d
    rw [show removeD d n = (0, if r.1 = true then { r.2 with F := dropN n r.2.F, P := dropN n r.2.P } else r.2) by unfold removeD; rw [if_neg (by rw [hat]; simp), hr]]
    rw [← hr] at hk
    have Hr := Lib.hid (And.intro hr hk)
    clear hr hk hat hd
    obtain ⟨rb, rd⟩ := r
    show Calls _ _ _ _ fun e w' => e = .returned (.int .i64 ((0 : Nat) : Int)) ∧ RfI B w0 w' q room ts (if rb = true then { rd with F := dropN n rd.F, P := dropN n rd.P } else rd)
    go_enter Tryz.func51, Tryz.ntmps51
    go_wp2_with fail
    refine HC.out.mono ?_
    rintro e w2 ⟨rfl, b2⟩
    have HC2 := Lib.hid (rstop_any (H.out.1.go b2) H.out.2.2)
    rw [← Hr.out.1] at HC2
    clear b2 HC
    go_wp2_with fail
    refine HC2.out.mono ?_
    rintro e w3 ⟨rfl, h3⟩
    have H3 := Lib.hid h3
    clear h3 HC2
    cases rb with
    | false =>
      go_wp2_with fail
      go_ret
      exact ⟨rfl, H3.out⟩
    | true =>
      have hF8 : rd.F.length ≤ 1000 := by have := H.out.2.1.fl; have e : rd.F = d.F := Hr.out.2.1; rw [e]; omega
      have hP8 : rd.P.length ≤ 1000000 := by have := H.out.2.1.pl; have e : rd.P = d.P := Hr.out.2.2; rw [e]; exact this
      have HC3 := Lib.hid (rdrop_any8 n H3.out hF8 hP8)
      clear hF8 hP8
      go_wp2_with fail
      refine HC3.out.mono ?_
      rintro e w4 ⟨rfl, h4⟩
      have H4 := Lib.hid h4
      clear h4 HC3
      go_wp2_with fail
      go_ret
      exact ⟨rfl, H4.out⟩

set_option maxHeartbeats 4000000 in
theorem rcreate_any {B q room : Nat} {w0 w : World} {ts : List Kt} {d : Fd} (n : Nm) (hn : n.length ≤ maxLen) (h : RfI B w0 w q room ts d) (hd : Db d) (hl : d.lf ≤ 1000000) :
    Calls Tryz.prog 10 #[.pointer (some ⟨q, 0, none⟩), .string ⟨n.toArray⟩] w fun e w' => e = .returned (.int .i64 ((createD d n).1 : Nat)) ∧ RfI B w0 w' q room ts (createD d n).2 := by
  have HC := Lib.hid (rfind_any n hn h hd.df)
  have HN := Lib.hid (fun w => rnamed_any n w hn)
  obtain ⟨pp, hpp⟩ : ∃ p, p = posF d.F n := ⟨_, rfl⟩
  rw [← hpp] at HC
  have H := Lib.hid (And.intro h (And.intro hd (And.intro hl hn)))
  clear h hpp hn hl
  obtain ⟨th, hth⟩ : ∃ t, t = (atF d.F n).isSome := ⟨_, rfl⟩
  rw [← hth] at HC
  have Hth := Lib.hid hth
  clear hth hd
  cases hok : okN n with
  | false =>
    rw [hok] at HN
    rw [show createD d n = (1, d) by unfold createD; rw [if_pos hok]]
    clear hok
    go_enter Tryz.func10, Tryz.ntmps10
    go_wp2_with fail
    refine HC.out.mono ?_
    rintro e w2 ⟨rfl, b2⟩
    have HB := Lib.hid b2
    clear b2 HC
    go_wp2_with fail
    refine (HN.out w2).mono ?_
    rintro e w3 ⟨rfl, hw3⟩
    rw [hw3]
    clear hw3
    go_wp2_with fail
    go_ret
    exact ⟨rfl, H.out.1.go HB.out⟩
  | true =>
    rw [hok] at HN
    cases th with
    | true =>
      rw [show createD d n = (81, d) by unfold createD; rw [if_neg (by rw [hok]; simp), if_pos Hth.out.symm]]
      clear hok
      go_enter Tryz.func10, Tryz.ntmps10
      go_wp2_with fail
      refine HC.out.mono ?_
      rintro e w2 ⟨rfl, b2⟩
      have HB := Lib.hid b2
      clear b2 HC
      go_wp2_with fail
      refine (HN.out w2).mono ?_
      rintro e w3 ⟨rfl, hw3⟩
      rw [hw3]
      clear hw3
      go_wp2_with fail
      go_ret
      exact ⟨rfl, H.out.1.go HB.out⟩
    | false =>
      have hI := H.out.1
      obtain ⟨VF, VP, LF, LP, lv, hs, h1, h2, h3⟩ := hI
      obtain ⟨AF, cF, hVF, -, -⟩ := OwnR.row Tryz.eltE2 hs.rF
      subst hVF
      obtain ⟨m, hm⟩ : ∃ m, m = LF.length := ⟨_, rfl⟩
      have hml : m = d.F.length := by rw [hm, nb_len h1]
      rw [← hm] at hs
      have HS := Lib.hid hs
      clear hs h1 h2 h3 hm
      by_cases h8 : 8 ≤ m
      · have d8 : decide ((8 : Int) ≤ (m : Int)) = true := decide_eq_true (by omega)
        have d8p : (8 : Int) ≤ (m : Int) := by omega
        rw [show createD d n = (3, d) by unfold createD; rw [if_neg (by rw [hok]; simp), if_neg (by rw [← Hth.out]; simp), if_pos (by rw [← hml]; exact h8)]]
        clear hok hml h8
        go_enter Tryz.func10, Tryz.ntmps10
        go_wp2_with fail
        refine HC.out.mono ?_
        rintro e w2 ⟨rfl, b2⟩
        have HB := Lib.hid b2
        have C := fbsays (HS.out.go b2).bx
        simp only [cellsSay, rfc, Nat.reduceAdd, and_true] at C
        clear b2 HC
        go_wp2_with fail
        refine (HN.out w2).mono ?_
        rintro e w3 ⟨rfl, hw3⟩
        rw [hw3]
        clear hw3
        go_wp2_with fail
        go_ret
        exact ⟨rfl, H.out.1.go HB.out⟩
      · have d8 : decide ((8 : Int) ≤ (m : Int)) = false := decide_eq_false (by omega)
        have d8p : ¬ (8 : Int) ≤ (m : Int) := by omega
        obtain ⟨r, hr⟩ : ∃ r, r = runsD d := ⟨_, rfl⟩
        have hk := runs_keeps d
        rw [show createD d n = (0, if r.1 = true then { r.2 with F := insF (n, []) r.2.F } else r.2) by unfold createD; rw [if_neg (by rw [hok]; simp), if_neg (by rw [← Hth.out]; simp), if_neg (by rw [← hml]; exact h8), hr]]
        rw [← hr] at hk
        have Hr := Lib.hid (And.intro hr hk)
        clear hr hk hok hml h8
        obtain ⟨rb, rd⟩ := r
        show Calls _ _ _ _ fun e w' => e = .returned (.int .i64 ((0 : Nat) : Int)) ∧ RfI B w0 w' q room ts (if rb = true then { rd with F := insF (n, []) rd.F } else rd)
        go_enter Tryz.func10, Tryz.ntmps10
        go_wp2_with fail
        refine HC.out.mono ?_
        rintro e w2 ⟨rfl, b2⟩
        have C := fbsays (HS.out.go b2).bx
        simp only [cellsSay, rfc, Nat.reduceAdd, and_true] at C
        have HC2 := Lib.hid (rstop_any (H.out.1.go b2) H.out.2.2.1)
        rw [← Hr.out.1] at HC2
        clear b2 HC
        go_wp2_with fail
        refine (HN.out w2).mono ?_
        rintro e w3 ⟨rfl, hw3⟩
        rw [hw3]
        clear hw3
        go_wp2_with fail
        refine HC2.out.mono ?_
        rintro e w4 ⟨rfl, h4⟩
        have H4 := Lib.hid h4
        clear h4 HC2 C
        cases rb with
        | false =>
          go_wp2_with fail
          go_ret
          exact ⟨rfl, H4.out⟩
        | true =>
          have hF : Df rd.F := by have e : rd.F = d.F := Hr.out.2.1; rw [e]; exact H.out.2.1.df
          have HC3 := Lib.hid (rinsert_any ⟨n, [], none, 0⟩ H.out.2.2.2 (H4.out.cons (t := thb ⟨n, [], none, 0⟩) (Below.refl _ _) (OwnB.nil _ _) (fun k e => by
            have e : (Value.slice none 0 0).ownBlock = some k := e
            simp [Value.ownBlock] at e)) hF)
          clear hF
          go_wp2_with fail
          refine HC3.out.mono ?_
          rintro e w5 ⟨rfl, h5⟩
          have H5 := Lib.hid h5
          clear h5 HC3
          go_wp2_with fail
          go_ret
          exact ⟨rfl, H5.out⟩

end Go.Proofs.YtiogckgchlnldaaGreat

/- Layer 8, the document: Append. -/
set_option linter.unusedSimpArgs false
set_option linter.unusedVariables false
namespace Go.Proofs.YtiogckgchlnldaaGreat
open Go.RowKit
set_option maxRecDepth 100000

/-- a piece more -/
theorem RfS.addP {B q room : Nat} {w0 w1 w2 w3 : World} {ts : List Kt} {VF VP V : Value} {LF LP : List Fe} {st dd : Bool} {lv : Nat} {y : Fe}
    (h : RfS B w0 w1 q room (thb y :: ts) VF VP LF LP st lv dd) (hb : Below w1.heap.size w1 w2) {w2' : World} (hg : w2.grownBy w2' VP.ownBlock) (hr : OwnR w2' 0 78 encE 2 V (LP ++ [y])) (hn : ∀ k, V.ownBlock = some k → VP.ownBlock = some k ∨ w1.heap.size ≤ k) (hW : w2'.setCell ⟨q, 2, none⟩ V = w3) :
    RfS B w0 w3 q room ts VF V LF (LP ++ [y]) st lv dd := by
  have t1 : Tou (thRP VP LP).F w1 w2' := (Tou.of_below hb : Tou (thRP VP LP).F _ _).trans (Tou.of_grown (F := (thRP VP LP).F) hg (fun k e => e)) (fun j _ h => h)
  have S := Sep.call h (t := thRP VP LP) (t' := thRP V (LP ++ [y])) 2 rfl t1 hr hn
  have S2 := Sep.put S 0 q [(2, V)] (rfc room VF V st lv dd) hW
  show Sep _ _ _ _
  rw [List.map_append, List.append_assoc]
  exact S2

set_option maxHeartbeats 8000000 in
theorem rappend_any {B q room : Nat} {w0 w : World} {ts : List Kt} {d : Fd} (n : Nm) (hn : n.length ≤ maxLen) (A : Option Addr) (c : Nat) (b : List UInt8) (h : RfI B w0 w q room ts d) (hd : Db d) (hb6 : b.length ≤ 1000000) (hr : room ≤ 1048576) (hA : ∀ W d', RfI B w0 W q room ts d' → Bs W A b) (hl : d.lf ≤ 1000000) (hpl : d.P.length < 1000000) (hur : usedD d ≤ room) :
    Calls Tryz.prog 11 #[.pointer (some ⟨q, 0, none⟩), .string ⟨n.toArray⟩, .slice A b.length c] w fun e w' => e = .returned (.int .i64 ((appendD room d n b).1 : Nat)) ∧ RfI B w0 w' q room ts (appendD room d n b).2 := by
  have hmx : Tryz.prog.follows .mixedOrders = true := by kernel_rfl
  have HC := Lib.hid (rfind_any n hn h hd.df)
  obtain ⟨pp, hpp⟩ : ∃ p, p = posF d.F n := ⟨_, rfl⟩
  rw [← hpp] at HC
  clear hpp
  obtain ⟨nb, hnb⟩ : ∃ nb, nb = b.length := ⟨_, rfl⟩
  rw [← hnb] at hb6 ⊢
  cases hat : atF d.F n with
  | none =>
    rw [hat] at HC
    rw [show appendD room d n b = (80, d) by unfold appendD; rw [if_pos (by rw [hat]; rfl)]]
    have H := Lib.hid h
    clear h hat hd hA hur hn hnb
    go_enter Tryz.func11, Tryz.ntmps11
    go_wp2_with fail
    refine HC.out.mono ?_
    rintro e w2 ⟨rfl, b2⟩
    have HB := Lib.hid b2
    clear b2 HC
    go_wp2_with fail
    go_ret
    exact ⟨rfl, H.out.go HB.out⟩
  | some x =>
    rw [hat] at HC
    by_cases hb0 : nb = 0
    · have d0 : ((nb : Int) == 0) = true := beq_iff_eq.2 (by omega)
      have hbe : b = [] := List.eq_nil_of_length_eq_zero (by omega)
      rw [show appendD room d n b = (0, d) by unfold appendD; rw [if_neg (by rw [hat]; simp), if_neg (by rw [hbe]; simp only [List.length_nil]; omega), if_pos hbe]]
      subst hb0
      have d0 : ((0 : Int) == 0) = true := rfl
      have H := Lib.hid h
      clear h hat hd hA hur hn hnb hbe
      go_enter Tryz.func11, Tryz.ntmps11
      go_wp2_with fail
      refine HC.out.mono ?_
      rintro e w2 ⟨rfl, b2⟩
      have HB := Lib.hid b2
      clear b2 HC
      go_wp2_with fail
      go_ret
      exact ⟨rfl, H.out.go HB.out⟩
    · have d0 : ((nb : Int) == 0) = false := beq_eq_false_iff_ne.2 (by omega)
      have hbe : b ≠ [] := fun e => hb0 (by rw [hnb, e]; rfl)
      obtain ⟨u, hue⟩ : ∃ u, u = usedD d := ⟨_, rfl⟩
      rw [← hue] at hur
      have hw : wrap64 ((room : Int) - (u : Int)) = (room : Int) - (u : Int) := by unfold wrap64; omega
      have H := Lib.hid (And.intro h (And.intro hd (And.intro hl (And.intro hA (And.intro hnb (And.intro hue (And.intro hbe hat)))))))
      clear h hd hl hA hue hat hn hbe hnb
      go_enter Tryz.func11, Tryz.ntmps11
      go_wp2_with fail
      refine HC.out.mono ?_
      rintro e w ⟨rfl, b2⟩
      have h2 := H.out.1.go b2
      have H2 := Lib.hid h2
      obtain ⟨VF, VP, LF, LP, lv, hs, h1, h3, h4⟩ := h2
      have hc0 : w.cell? ⟨q, 0, none⟩ = some (.int .i64 (room : Nat)) := hs.bx.cell 0
      have hq := hs.bx.lt
      clear hs h1 h3 h4 HC b2
      go_upto_region 6 with fail
      obtain ⟨I, hI⟩ : ∃ I : Rec → World → Prop, ∀ E W, I E W ↔ Below w.heap.size w W := ⟨fun _ W => Below w.heap.size w W, fun _ _ => Iff.rfl⟩
      have hI0 : I (fun _ => none) w.drew := (hI _ _).2 (Below.refl w.heap.size w).drew
      haveI : Nonempty (InvW I) := ⟨⟨_, _, hI0⟩⟩
      have e0 : ∀ x : InvW I, x.W.cell? ⟨q, 0, none⟩ = some (.int .i64 (room : Nat)) := fun x => (((hI _ _).1 x.h).cell hq).trans hc0
      have HI := Lib.hid hI
      clear hI hc0 hq
      refine wp_region_inv I [] [3, 7] (fun k v => if k = 3 then v = .pointer (some ⟨q, 0, none⟩) else v = .int .i64 (u : Nat)) hmx (by kernel_rfl) hI0 ?_
      iterate 3 (refine walkJ_one rfl (by kernel_rfl) ?_; go_big_quiet_step (fail); refine wpQuiet_nil ?_)
      refine walkJ_turn rfl rfl ⟨_, rfl⟩ (fun s W1 hs h7 _ => ?_) ?_
      · exact inv_val (W' := W1) (v := .pointer (some ⟨q, 0, none⟩)) (by simp [execOp, go_sem]) ⟨rfl, (HI.out _ _).2 ((HI.out _ _).1 hs)⟩
      rintro v rfl
      conv => arg 11; simp [Act.put]
      iterate 3 (refine walkJ_one rfl (by kernel_rfl) ?_; go_big_quiet_step (fail); refine wpQuiet_nil ?_)
      refine walkJ_turn rfl rfl ⟨_, rfl⟩ (fun s W1 hs h7 _ => ?_) ?_
      · have hb := (HI.out _ _).1 hs
        have HU := rused_any (H2.out.go hb) H.out.2.1
        rw [← H.out.2.2.2.2.2.1] at HU
        refine inv_call (by simp [execOp, go_sem]) (HU.mono ?_)
        rintro e w1 ⟨rfl, k⟩
        exact ⟨_, rfl, rfl, (HI.out _ _).2 (on1 hb k)⟩
      rintro v rfl
      conv => arg 11; simp [Act.put]
      iterate 2 (refine walkJ_one rfl (by kernel_rfl) ?_; go_big_quiet_step (fail); refine wpQuiet_nil ?_)
      refine walkJ_end ?_
      intro W4 hW4
      have H4 := Lib.hid (H2.out.go ((HI.out _ _).1 hW4))
      clear e0 hI0 hW4 HI this
      by_cases hfull : (room : Int) < (u : Int) + (nb : Int)
      · have df : decide ((room : Int) - (u : Int) < (nb : Int)) = true := decide_eq_true (by omega)
        have dfp : (room : Int) - (u : Int) < (nb : Int) := by omega
        have HE := Lib.hid (show appendD room d n b = (82, d) by
          unfold appendD
          rw [H.out.2.2.2.2.2.2.2, if_neg (by simp), if_pos (by rw [← H.out.2.2.2.2.1, ← H.out.2.2.2.2.2.1]; exact hfull)])
        go_wp2_with fail
        go_ret
        rw [HE.out]
        exact ⟨rfl, H4.out⟩
      · have df : decide ((room : Int) - (u : Int) < (nb : Int)) = false := decide_eq_false (by omega)
        have dfp : ¬ (room : Int) - (u : Int) < (nb : Int) := by omega
        obtain ⟨r, hr9⟩ : ∃ r, r = runsD d := ⟨_, rfl⟩
        have hk := runs_keeps d
        have HE := Lib.hid (show appendD room d n b = (0, if r.1 = true then { r.2 with P := r.2.P ++ [(n, b)] } else r.2) by
          unfold appendD
          rw [H.out.2.2.2.2.2.2.2, if_neg (by simp), if_neg (by rw [← H.out.2.2.2.2.1, ← H.out.2.2.2.2.2.1]; exact hfull), if_neg H.out.2.2.2.2.2.2.1, hr9])
        rw [← hr9] at hk
        have HC2 := Lib.hid (rstop_any H4.out H.out.2.2.1)
        rw [← hr9] at HC2
        have Hk := Lib.hid hk
        clear hk hr9 hfull
        obtain ⟨rb, rd⟩ := r
        go_wp2_with fail
        refine HC2.out.mono ?_
        rintro e w5 ⟨rfl, h5⟩
        have H5 := Lib.hid h5
        clear h5 HC2 H4 H2
        cases rb with
        | false =>
          go_wp2_with fail
          go_ret
          rw [HE.out]
          exact ⟨rfl, H5.out⟩
        | true =>
          have HBs := Lib.hid (H.out.2.2.2.1 w5 rd H5.out)
          have Hnb := Lib.hid H.out.2.2.2.2.1
          go_upto_region 12 with (at_builtin; go_must (refine appAll _ rfl (.tmp 36) (.tmp 37) rfl w5.heap.size _ [] rfl (OwnB.nil _ _) A c b (by rw [← Hnb.out]; rfl) HBs.out (by rw [← Hnb.out]; simp only [List.length_nil]; omega) (Nat.le_refl _) ?_); intro A3 c3 w6 hown3 hb3)
          have o6 : OwnB w6 w5.heap.size (.slice A3 nb c3) b := by have h8 := hown3; rw [← Hnb.out] at h8; simpa using h8
          rw [← Hnb.out]
          have h6 : RfI B w0 w6 q room (thb ⟨n, b, A3, c3⟩ :: ts) rd := H5.out.cons (t := thb ⟨n, b, A3, c3⟩) hb3 (by
            show OwnB w6 0 (.slice A3 b.length c3) b
            rw [← Hnb.out]
            exact o6.mono (Nat.zero_le _)) (fun k e => by
            have e : (Value.slice A3 b.length c3).ownBlock = some k := e
            exact (World.ownsRow.lt o6 k (by rw [Hnb.out]; exact e)).1)
          obtain ⟨VF, VP, LF, LP, lv, hs, k1, k2, k3⟩ := h6
          obtain ⟨AP, cP, hVP, -, -⟩ := OwnR.row Tryz.eltP2 hs.rP
          subst hVP
          obtain ⟨mP, hmP⟩ : ∃ m, m = LP.length := ⟨_, rfl⟩
          have hmP6 : mP < 1000000 := by rw [hmP, nb_len k2]; have e : rd.P = d.P := Hk.out.2; rw [e]; exact hpl
          rw [← hmP] at hs
          have C := fbsays hs.bx
          simp only [cellsSay, rfc, Nat.reduceAdd, and_true] at C
          have hbd : Below w6.heap.size w6 (w6.alloc (.cells #[.string ⟨n.toArray⟩, .slice A3 nb c3] 78)) := below_alloc _ _
          have henc : (#[.string ⟨n.toArray⟩, .slice A3 nb c3] : Array Value) = (encE ⟨n, b, A3, c3⟩).toArray := by rw [Hnb.out]; rfl
          have hrow := OwnR.below hs.rP hbd
          have hvq : (Value.slice AP mP cP).ownBlock ≠ some q := fun e => Sep.apart hs (i := 0) (j := 2) rfl rfl (by decide) q rfl e
          have hqb : Blk (w6.alloc (.cells #[.string ⟨n.toArray⟩, .slice A3 nb c3] 78)) q 59 (rfc room VF (.slice AP mP cP) rd.st lv rd.dd) := (hs.go hbd).bx
          have HS := Lib.hid (And.intro hs (And.intro k1 (And.intro k2 (And.intro k3 (And.intro hmP (And.intro hbd (And.intro henc (And.intro hrow (And.intro hvq hqb)))))))))
          have hLPl : LP.length = mP := hmP.symm
          have h1n : LP.length + 1 ≤ maxLen := by unfold maxLen; omega
          have h1b : (LP.length + 1) * 40 ≤ 140737488355328 := by omega
          clear hown3 hb3 o6 hs k1 k2 k3 hmP hbd henc hrow HBs hvq hqb
          go_wp2_with (at_builtin; go_must (refine appR1L Tryz.eltP2 _ rfl (.tmp 43) (.tmp 47) rfl 0 (.slice AP mP cP) LP rfl HS.out.2.2.2.2.2.2.2.1 w6.heap.size 1 ⟨n, b, A3, c3⟩ _ _ rfl (Blk.new w6 _ _) HS.out.2.2.2.2.2.2.1 h1n h1b (Nat.zero_le _) ?_); intro g7 c7 w7 hown7 hg7 hor7 hlt7; have C7 := fbsays (show Blk w7 q 59 (rfc room VF (.slice AP mP cP) rd.st lv rd.dd) from (hg7.block q HS.out.2.2.2.2.2.2.2.2.2.lt (fun e => HS.out.2.2.2.2.2.2.2.2.1 e.symm)).trans HS.out.2.2.2.2.2.2.2.2.2); simp only [cellsSay, rfc, Nat.reduceAdd, and_true] at C7)
          generalize hW : World.setCell _ _ _ = W8
          clear C C7
          obtain ⟨hs, k1, k2, k3, hmP, hbd, henc, hrow, hvq, hqb⟩ := HS.out
          have h9 : OwnR w7 0 78 encE 2 (.slice (some ⟨g7, 0, none⟩) (mP + 1) c7) (LP ++ [⟨n, b, A3, c3⟩]) := by rw [hLPl] at hown7; exact hown7
          have S8 := RfS.addP hs hbd hg7 h9 (fun k e => by
            have e2 : g7 = k := by simpa [Value.ownBlock] using e
            subst e2
            rcases hor7 with h8 | h8
            · exact .inl h8
            · exact .inr (by rw [h8]; simp)) hW
          have H8 := Lib.hid (show RfI B w0 W8 q room ts { rd with P := rd.P ++ [(n, b)] } from ⟨_, _, _, _, lv, S8, k1, by rw [List.map_append, k2]; rfl, k3⟩)
          clear S8 h9 hs k1 k2 k3 hmP hbd henc hrow hvq hqb hown7 hg7 hor7 hlt7 hW HS
          go_wp2_with fail
          go_ret
          rw [HE.out]
          exact ⟨rfl, H8.out⟩

end Go.Proofs.YtiogckgchlnldaaGreat

/- Layer 8, the document: an element's bytes are replaced. -/
set_option linter.unusedSimpArgs false
set_option linter.unusedVariables false
namespace Go.Proofs.YtiogckgchlnldaaGreat
open Go.RowKit
set_option maxRecDepth 100000

theorem flat_setB : ∀ (L : List Fe) (i : Nat) (x y : Fe), L[i]? = some x → y.nm = x.nm → (L.flatMap encE).set (i * 2 + 1) (vaE y) = (L.set i y).flatMap encE
  | [], _, _, _, h, _ => by simp at h
  | a :: L, 0, x, y, h, hn => by
    have e : a = x := by simpa using h
    subst e
    rw [List.set_cons_zero, List.flatMap_cons, List.flatMap_cons]
    unfold encE
    rw [hn]
    rfl
  | a :: L, i + 1, x, y, h, hn => by
    rw [List.set_cons_succ, List.flatMap_cons, List.flatMap_cons, ← flat_setB L i x y (by simpa using h) hn]
    have hl : (encE a).length = 2 := rfl
    rw [List.set_append_right _ _ (by rw [hl]; omega), hl]
    congr 2
    omega
theorem own_front {w : World} {base n c : Nat} {A : Option Addr} {l : List UInt8} (h : OwnB w base (.slice A n c) l) (k : Nat) (hk : k ≤ l.length) : OwnB w base (.slice A k c) (l.take k) := by
  have hl : (l.take k).length = k := by rw [List.length_take]; omega
  refine ⟨by rw [List.length_map, Nat.mul_one], ?_⟩
  rcases h.2 with ⟨hv, h0⟩ | ⟨g, cap, cur, hv, h1, h2, h3, h4, h5, h6⟩
  · injection hv with e1 e2 e3
    subst e1 e3
    left
    have hk0 : k = 0 := by omega
    subst hk0
    exact ⟨rfl, by simp⟩
  · injection hv with e1 e2 e3
    subst e1 e3
    refine .inr ⟨g, c, cur, by rw [hl], h1, h2, by rw [hl]; omega, h4, h5, ?_⟩
    rw [hl, List.map_take, ← h6, List.take_take, Nat.mul_one, Nat.mul_one, Nat.min_eq_left hk]
theorem set_perm {α : Type} {L : List α} {i : Nat} {x y : α} (h : L[i]? = some x) : (y :: L).Perm (x :: L.set i y) := by
  obtain ⟨hi, rfl⟩ := List.getElem?_eq_some_iff.1 h
  have e1 : L = L.take i ++ L[i] :: L.drop (i + 1) := by rw [← List.drop_eq_getElem_cons hi, List.take_append_drop]
  have e2 : L.set i y = L.take i ++ y :: L.drop (i + 1) := by rw [List.set_eq_take_append_cons_drop, if_pos hi]
  rw [e2]
  obtain ⟨L1, h1⟩ : ∃ l, l = L.take i := ⟨_, rfl⟩
  obtain ⟨L2, h2⟩ : ∃ l, l = L.drop (i + 1) := ⟨_, rfl⟩
  obtain ⟨z, hz⟩ : ∃ z, z = L[i] := ⟨_, rfl⟩
  rw [← h1, ← h2, ← hz] at e1
  rw [← h1, ← h2, ← hz, e1]
  exact ((List.perm_middle (l₁ := L1) (a := z) (l₂ := L2)).cons y).trans ((List.Perm.swap z y (L1 ++ L2)).trans ((List.perm_middle (l₁ := L1) (a := y) (l₂ := L2)).symm.cons z))
/-- a file's bytes replaced -/
theorem RfS.setB {B q room : Nat} {w0 w w' : World} {ts : List Kt} {VP : Value} {LF LP : List Fe} {st dd : Bool} {lv g m c i : Nat} {x y : Fe}
    (h : RfS B w0 w q room (thb y :: ts) (.slice (some ⟨g, 0, none⟩) m c) VP LF LP st lv dd) (hx : LF[i]? = some x) (hn : y.nm = x.nm) (hW : w.setCell ⟨g, i * 2 + 1, none⟩ (vaE y) = w') :
    RfS B w0 w' q room ts (.slice (some ⟨g, 0, none⟩) m c) VP (LF.set i y) LP st lv dd := by
  have hr : OwnR w 0 77 encE 2 (.slice (some ⟨g, 0, none⟩) m c) LF := h.rF
  have hm : m = LF.length := by
    obtain ⟨A, c', hv, _, _⟩ := OwnR.row Tryz.eltE2 hr
    injection hv with _ e _
  subst hm
  have h1 := (World.ownsRow.stored hr (i * 2 + 1) (vaE y)).1
  rw [flat_setB LF i x y hx hn] at h1
  have h2 : OwnR w' 0 77 encE 2 (.slice (some ⟨g, 0, none⟩) LF.length c) (LF.set i y) := by
    unfold OwnR
    rw [List.length_set, ← hW]
    exact h1
  have S := Sep.call h (t := thRF (.slice (some ⟨g, 0, none⟩) LF.length c) LF) (t' := thRF (.slice (some ⟨g, 0, none⟩) LF.length c) (LF.set i y)) 1 rfl (by rw [← hW]; exact Tou.set g _ _ rfl) h2 (fun k hk => .inl hk)
  have hp : (LF.map thb ++ (LP.map thb ++ thb y :: ts)).Perm (((LF.set i y).map thb ++ (LP.map thb ++ ts)) ++ [thb x]) := by
    have p1 : ((thb y :: LF.map thb)).Perm (thb x :: (LF.set i y).map thb) := (set_perm hx).map thb
    have p2 : (LF.map thb ++ (LP.map thb ++ thb y :: ts)).Perm (thb y :: (LF.map thb ++ (LP.map thb ++ ts))) := by
      have := List.perm_middle (l₁ := LF.map thb ++ LP.map thb) (a := thb y) (l₂ := ts)
      rw [List.append_assoc, List.append_assoc] at this
      exact this
    refine p2.trans (((p1.append_right (LP.map thb ++ ts))).trans ?_)
    exact (List.perm_append_comm (l₁ := [thb x]) (l₂ := (LF.set i y).map thb ++ (LP.map thb ++ ts)))
  have S2 := Sep.perm S (((hp.cons (thRP VP LP)).cons _).cons _)
  exact Sep.left (us := [thb x]) S2
theorem row_at0 {w : World} {V : Value} {L : List Fe} {ty : TypeId} (h : OwnR w 0 ty encE 2 V L) (hL : 0 < L.length) : ∃ g m c, V = .slice (some ⟨g, 0, none⟩) m c := by
  rcases h.2 with ⟨h9, h0⟩ | ⟨g9, cap9, cur, h9, _⟩
  · omega
  · exact ⟨_, _, _, h9⟩
theorem setF_nb {L : List Fe} {F : List (Nm × List UInt8)} (hu : upN F) (h : L.map nbE = F) {i : Nat} {x : Fe} (hx : L[i]? = some x) {n : Nm} (hn : x.nm = n) (b : List UInt8) (A : Option Addr) (c : Nat) : (L.set i ⟨n, b, A, c⟩).map nbE = setF n b F := by
  have hF := nb_get h hx
  rw [hn] at hF
  unfold setF
  apply List.ext_getElem?
  intro k
  rw [List.getElem?_map, List.getElem?_set, List.getElem?_map]
  have hil := (List.getElem?_eq_some_iff.1 hx).1
  by_cases hk : i = k
  · subst hk
    rw [if_pos rfl, if_pos hil, hF]
    simp [nbE]
  · rw [if_neg hk, ← h, List.getElem?_map]
    cases hy : L[k]? with
    | none => rfl
    | some y =>
      have hFk := nb_get h hy
      have hne : y.nm ≠ n := fun e => hk (by
        have hkl := (List.getElem?_eq_some_iff.1 hFk).1
        have hil' := (List.getElem?_eq_some_iff.1 hF).1
        have u := List.pairwise_iff_getElem.1 hu.uniq
        rcases Nat.lt_trichotomy i k with h9 | h9 | h9
        · have := u i k hil' hkl h9
          rw [(List.getElem?_eq_some_iff.1 hF).2, (List.getElem?_eq_some_iff.1 hFk).2] at this
          exact absurd e.symm this
        · exact h9
        · have := u k i hkl hil' h9
          rw [(List.getElem?_eq_some_iff.1 hF).2, (List.getElem?_eq_some_iff.1 hFk).2] at this
          exact absurd e this)
      simp [nbE, hne]

set_option maxHeartbeats 8000000 in
theorem rsync_any {B q room : Nat} {w0 w : World} {ts : List Kt} {d : Fd} (n : Nm) (hn : n.length ≤ maxLen) (h : RfI B w0 w q room ts d) (hd : Db d) (hl : d.lf ≤ 1000000) :
    Calls Tryz.prog 56 #[.pointer (some ⟨q, 0, none⟩), .string ⟨n.toArray⟩] w fun e w' => e = .returned (.int .i64 ((syncD d n).1 : Nat)) ∧ RfI B w0 w' q room ts (syncD d n).2 := by
  have HC := Lib.hid (rfind_any n hn h hd.df)
  obtain ⟨pp, hpp⟩ : ∃ p, p = posF d.F n := ⟨_, rfl⟩
  rw [← hpp] at HC
  cases hat : atF d.F n with
  | none =>
    rw [hat] at HC
    rw [show syncD d n = (80, d) by unfold syncD rdD; rw [hat]; rfl]
    have H := Lib.hid h
    clear h hat hd hn hpp hl
    go_enter Tryz.func56, Tryz.ntmps56
    go_wp2_with fail
    refine HC.out.mono ?_
    rintro e w2 ⟨rfl, b2⟩
    have HB := Lib.hid b2
    clear b2 HC
    go_wp2_with fail
    go_ret
    exact ⟨rfl, H.out.go HB.out⟩
  | some du =>
    rw [hat] at HC
    have hpos := posF_there hd.up hat
    rw [← hpp] at hpos
    obtain ⟨b, hb⟩ : ∃ b, b = du ++ pcs d.P n := ⟨_, rfl⟩
    have hrd : rdD d n = some b := by unfold rdD; rw [hat, hb]; rfl
    have hbl : b.length ≤ 200000 := by rw [hb]; exact hd.fb (n, du) ((atF_some hd.up).1 hat)
    obtain ⟨bl, hbl2⟩ : ∃ m, m = b.length := ⟨_, rfl⟩
    obtain ⟨r, hr9⟩ : ∃ r, r = runsD d := ⟨_, rfl⟩
    have hk := runs_keeps d
    have hE : syncD d n = (0, if r.1 = true then { r.2 with F := setF n b r.2.F, P := dropN n r.2.P } else r.2) := by unfold syncD; rw [hrd, hr9]
    rw [hE]
    rw [← hr9] at hk
    have H := Lib.hid (And.intro h (And.intro hd (And.intro hl (And.intro hr9 (And.intro hk (And.intro hrd (And.intro hbl2 (And.intro hpos (And.intro hn hbl)))))))))
    clear h hd hl hr9 hk hrd hpos hn hb hbl hat hpp hE hbl2
    obtain ⟨rb, rd⟩ := r
    show Calls _ _ _ _ fun e w' => e = .returned (.int .i64 ((0 : Nat) : Int)) ∧ RfI B w0 w' q room ts (if rb = true then { rd with F := setF n b rd.F, P := dropN n rd.P } else rd)
    go_enter Tryz.func56, Tryz.ntmps56
    go_wp2_with fail
    refine HC.out.mono ?_
    rintro e w2 ⟨rfl, b2⟩
    have HC2 := Lib.hid (rstop_any (H.out.1.go b2) H.out.2.2.1)
    rw [← H.out.2.2.2.1] at HC2
    clear b2 HC
    go_wp2_with fail
    refine HC2.out.mono ?_
    rintro e w3 ⟨rfl, h3⟩
    have H3 := Lib.hid h3
    clear h3 HC2
    cases rb with
    | false =>
      go_wp2_with fail
      go_ret
      exact ⟨rfl, H3.out⟩
    | true =>
      obtain ⟨hI, hd, hl, hr9, ⟨hkF, hkP⟩, hrd, hbl2, hpos, hn, hbl⟩ := H.out
      have hkF : rd.F = d.F := hkF
      have hkP : rd.P = d.P := hkP
      have hdr : Db rd := ⟨by rw [hkF]; exact hd.up, by rw [hkF]; exact hd.fl, by rw [hkP]; exact hd.pl, by unfold usedD; rw [hkF, hkP]; exact hd.us, by rw [hkF]; exact hd.fn, by rw [hkF, hkP]; exact hd.pn⟩
      have HC := Lib.hid (rread_some n hn H3.out hdr b (by unfold rdD at hrd ⊢; rw [hkF, hkP]; exact hrd))
      rw [← hbl2] at HC
      have Hd := Lib.hid (And.intro hdr (And.intro hkF (And.intro hkP (And.intro hpos hbl2))))
      clear hI hd hl hr9 hkF hkP hrd hbl2 hpos hn hbl hdr
      go_wp2_with fail
      refine HC.out.mono ?_
      rintro e w4 ⟨A4, c4, rfl, h4⟩
      obtain ⟨o4, b4⟩ := h4.out
      have h4' : RfI B w0 w4 q room (thb ⟨n, b, A4, c4⟩ :: ts) rd := H3.out.cons (t := thb ⟨n, b, A4, c4⟩) b4 (by
        show OwnB w4 0 (.slice A4 b.length c4) b
        rw [← Hd.out.2.2.2.2]
        exact o4.mono (Nat.zero_le _)) (fun k e => by
        have e : (Value.slice A4 b.length c4).ownBlock = some k := e
        exact (World.ownsRow.lt o4 k (by rw [Hd.out.2.2.2.2]; exact e)).1)
      obtain ⟨VF, VP, LF, LP, lv, hs, k1, k2, k3⟩ := h4'
      have hpos' := Hd.out.2.2.2.1
      rw [← Hd.out.2.1] at hpos'
      obtain ⟨x, hx, hxn⟩ : ∃ x, LF[pp]? = some x ∧ x.nm = n := by
        have hl := (List.getElem?_eq_some_iff.1 hpos').1
        rw [← nb_len k1] at hl
        refine ⟨LF[pp], List.getElem?_eq_getElem hl, ?_⟩
        have := nb_get k1 (List.getElem?_eq_getElem hl)
        rw [hpos'] at this
        injection this with this
        injection this with e1 _
        exact e1.symm
      obtain ⟨g, mF, cF, hVF⟩ := row_at0 hs.rF (Nat.lt_of_le_of_lt (Nat.zero_le _) (List.getElem?_eq_some_iff.1 hx).1)
      subst hVF
      obtain ⟨A', c', hv, -, hr⟩ := OwnR.row Tryz.eltE2 hs.rF
      injection hv with e1 e2 e3
      subst e1
      have hmF : mF = LF.length := e2
      clear e2 e3
      obtain ⟨p, f, hpf, hc⟩ := hr pp x hx
      injection hpf with hpf
      injection hpf with e1 e2 _
      subst e1 e2
      have c1 := hc 1 _ rfl
      have hrr := hs.rF
      rw [hmF] at hrr
      have fz := World.ownsRow.frozenAt hrr (pp * 2 + 1)
      clear hrr
      have hpm : pp < mF := by rw [hmF]; exact (List.getElem?_eq_some_iff.1 hx).1
      have hmF8 : mF ≤ 8 := by rw [hmF, nb_len k1]; exact Hd.out.1.fl
      have hpl : (pp : Int) < (mF : Int) := by omega
      have hp0 : (0 : Int) ≤ (pp : Int) := by omega
      have C := fbsays hs.bx
      simp only [cellsSay, rfc, Nat.reduceAdd, and_true] at C
      simp only [Nat.zero_add] at c1
      have HS := Lib.hid (And.intro hs (And.intro k1 (And.intro k2 (And.intro k3 (And.intro hx hxn)))))
      clear hs k1 k2 k3 hx hxn hr hc hpos' o4 b4 h4 HC H3 hmF
      go_upto_region 9 with fail
      generalize hW : World.setCell _ _ _ = W5
      clear C c1 fz hpl hp0
      have S5 := HS.out.1.setB (w' := W5) HS.out.2.2.2.2.1 (y := ⟨n, b, A4, c4⟩) HS.out.2.2.2.2.2.symm (by
        rw [show vaE ⟨n, b, A4, c4⟩ = .slice A4 bl c4 from by unfold vaE; rw [Hd.out.2.2.2.2]]
        exact hW)
      obtain ⟨AP, cP, hVP, -, -⟩ := OwnR.row Tryz.eltP2 S5.rP
      subst hVP
      obtain ⟨mP, hmP⟩ : ∃ m, m = LP.length := ⟨_, rfl⟩
      rw [← hmP] at S5
      have hP8' : mP ≤ 1000000 := by rw [hmP, nb_len HS.out.2.2.1]; exact Hd.out.1.pl
      have HSP := Lib.hid (And.intro S5 hmP)
      have HL1 := Lib.hid (setF_nb Hd.out.1.up HS.out.2.1 HS.out.2.2.2.2.1 HS.out.2.2.2.2.2 b A4 c4)
      have HX := Lib.hid (And.intro HS.out.2.2.1 HS.out.2.2.2.1)
      obtain ⟨LF1, hLF1⟩ : ∃ l, l = LF.set pp ⟨n, b, A4, c4⟩ := ⟨_, rfl⟩
      rw [← hLF1] at HSP HL1
      have C := fbsays HSP.out.1.bx
      simp only [cellsSay, rfc, Nat.reduceAdd, and_true] at C
      clear S5 hW hLF1 HS hmP
      go_wp2_with fail
      go_loopw [10, 11] (fun sl si wr => ∃ (k m : Nat) (A : Option Addr) (c : Nat), k ≤ mP ∧ m ≤ k ∧ sl = .slice A m c ∧ si = .int .i64 k ∧ Hid (OwnR wr W5.heap.size 78 encE 2 (.slice A m c) ((LP.take k).filter fun x => !(x.nm == n)) ∧ m = ((LP.take k).filter fun x => !(x.nm == n)).length ∧ Below W5.heap.size W5 wr)) (fun _ si _ => mP - (intOf si).toNat)
      case atStart => exact ⟨0, 0, none, 0, Nat.zero_le _, Nat.le_refl _, rfl, rfl, Lib.hid ⟨OwnR.nil _ _ _ _ _, rfl, Below.refl _ _⟩⟩
      case round =>
        obtain ⟨k, m, A, c, hk, hmk, rfl, rfl, HR⟩ := hrel
        have hs := HSP.out.1.go HR.out.2.2
        have C := fbsays hs.bx
        simp only [cellsSay, rfc, Nat.reduceAdd, and_true] at C
        by_cases hlt : k < mP
        · obtain ⟨x, hx⟩ : ∃ x, LP[k]? = some x := ⟨_, List.getElem?_eq_getElem (by rw [← HSP.out.2]; exact hlt)⟩
          obtain ⟨A', c', hv, -, hr⟩ := OwnR.row Tryz.eltP2 hs.rP
          injection hv with e1 _ _
          subst e1
          obtain ⟨p, f, rfl, hc⟩ := hr k x hx
          have c0 := hc 0 _ rfl
          have c1 := hc 1 _ rfl
          simp only [vaE, Nat.add_zero] at c0 c1
          have hkl : (k : Int) < (mP : Int) := by omega
          have hk0 : (0 : Int) ≤ (k : Int) := by omega
          have htk : LP.take (k + 1) = LP.take k ++ [x] := by rw [List.take_add_one, hx]; rfl
          obtain ⟨r1, r2, r3⟩ := HR.out
          obtain ⟨M, hM⟩ : ∃ M, M = (LP.take k).filter fun x => !(x.nm == n) := ⟨_, rfl⟩
          rw [← hM] at r1 r2
          by_cases hxn : x.nm = n
          · have e1 : (x.nm == n) = true := beq_iff_eq.2 hxn
            have e1' : (x.nm != n) = false := by unfold bne; rw [e1]; rfl
            have hN : (LP.take (k + 1)).filter (fun x => !(x.nm == n)) = M := by rw [htk, List.filter_append, hM, List.filter_cons, e1]; simp
            have HN := Lib.hid (And.intro hN (And.intro r1 (And.intro r2 r3)))
            clear hs hx hr hc htk r1 r2 r3 hM hxn hN HR
            go_wp2_with fail
            go_roundw
            case measure => simp [intOf]; omega
            case rel => exact ⟨k + 1, m, A, c, by omega, by omega, rfl, by go_num, Lib.hid ⟨by rw [HN.out.1]; exact HN.out.2.1, by rw [HN.out.1]; exact HN.out.2.2.1, HN.out.2.2.2⟩⟩
          · have e1 : (x.nm == n) = false := beq_eq_false_iff_ne.2 hxn
            have e1' : (x.nm != n) = true := by unfold bne; rw [e1]; rfl
            have hN : (LP.take (k + 1)).filter (fun x => !(x.nm == n)) = M ++ [x] := by rw [htk, List.filter_append, hM, List.filter_cons, e1]; simp
            have hbd : Below wr.heap.size wr (wr.alloc (.cells #[.string ⟨x.nm.toArray⟩, .slice x.A x.b.length x.c] 78)) := below_alloc _ _
            have HR1 := Lib.hid (OwnR.below r1 hbd)
            have HN := Lib.hid (And.intro hN (And.intro r2 (And.intro r3 hbd)))
            have hMl : M.length = m := r2.symm
            have h5n : M.length + 1 ≤ maxLen := by unfold maxLen; omega
            have h6n : (M.length + 1) * 40 ≤ 140737488355328 := by omega
            have hsz := r3.size
            have hbs : W5.heap.size ≤ (wr.alloc (.cells #[.string ⟨x.nm.toArray⟩, .slice x.A x.b.length x.c] 78)).heap.size := by simp; omega
            have Hbs := Lib.hid hbs
            clear hs hx hr hc htk r1 r2 r3 hM hxn hN HR hbd hbs hsz
            go_upto_region 12 with (at_builtin; go_must (refine appR1 Tryz.eltP2 _ rfl (.tmp 56) (.tmp 64) rfl W5.heap.size (.slice A m c) M rfl HR1.out wr.heap.size 1 x _ _ rfl (Blk.new wr _ _) rfl h5n h6n Hbs.out ?_); intro g2 c2 w9 hown2 hb2 hg2)
            obtain ⟨hN, r2, r3, hbd⟩ := HN.out
            have HE := Lib.hid (show OwnR w9 W5.heap.size 78 encE 2 (.slice (some ⟨g2, 0, none⟩) (m + 1) c2) ((LP.take (k + 1)).filter fun x => !(x.nm == n)) ∧ m + 1 = ((LP.take (k + 1)).filter fun x => !(x.nm == n)).length ∧ Below W5.heap.size W5 w9 from by
              refine ⟨by rw [hN, ← hMl]; exact hown2, by rw [hN, List.length_append, hMl]; rfl, ?_⟩
              exact (on1 r3 hbd).trans hb2)
            clear hown2 hb2 hg2 hN r2 r3 hbd HR1 HN Hbs C c0 c1
            go_wp2_with fail
            go_roundw
            case measure => simp [intOf]; omega
            case rel => exact ⟨k + 1, m + 1, some ⟨g2, 0, none⟩, c2, by omega, by omega, by first | rfl | (rw [hMl]), by go_num, HE⟩
        · obtain rfl : k = mP := by omega
          have hkk : ¬ ((k : Int) < (k : Int)) := by omega
          obtain ⟨r1, r2, r3⟩ := HR.out
          rw [List.take_of_length_le (Nat.le_of_eq HSP.out.2.symm)] at r1 r2
          have HR2 := Lib.hid r2
          clear hlt HR r2
          clear hs
          go_wp2_with fail
          generalize hW : World.setCell _ _ _ = W2
          clear C
          have S := HSP.out.1.setP (us := ts) (M := (LP.filter (fun x => !(fun x : Fe => !(x.nm == n)) x)).map thb) r3 r1 hW (by
            rw [List.append_assoc]
            exact (filt_perm (fun x => !(x.nm == n)) LP ts).append_left _)
          have HE := Lib.hid (show RfI B w0 W2 q room ts { rd with F := setF n b rd.F, P := dropN n rd.P } from ⟨_, _, _, _, lv, S, HL1.out, by rw [filt_nb, HX.out.1], HX.out.2⟩)
          clear S r1 r3 hW
          go_wp2_with fail
          go_ret
          first | exact ⟨rfl, HE.out⟩ | (have HE9 := HE.out; rw [Hd.out.2.1, Hd.out.2.2.1] at HE9; exact ⟨rfl, HE9⟩)

end Go.Proofs.YtiogckgchlnldaaGreat
