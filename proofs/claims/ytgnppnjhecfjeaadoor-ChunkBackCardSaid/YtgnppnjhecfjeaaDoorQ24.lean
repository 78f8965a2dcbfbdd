/- Joined: Chk9, Chk10, Chk11, Chk12, MathN, Chk13, Chk14, Chk15. -/
import Derived.Test.YtgnppnjhecfjeaaDoorQ22
import Derived.Test.YtgnppnjhecfjeaaDoorQ6
import Derived.Test.YtgnppnjhecfjeaaDoorQ14
import Derived.Test.YtgnppnjhecfjeaaDoorQ2
import Derived.Deep.RegionHeld3
import Derived.Test.YtgnppnjhecfjeaaDoorQ7
import Derived.Test.YtgnppnjhecfjeaaDoorQ20
set_option linter.unusedSimpArgs false
set_option linter.unusedVariables false
/- Layer 6: the program's Of. -/
namespace Go.Proofs.YtgnppnjhecfjeaaDoor
open Go.RowKit
set_option maxRecDepth 100000

/-- bits as an element: where, how many bytes, room, how many bits -/
abbrev BE := Option Addr × Nat × Nat × Int
def encBE (x : BE) : List Value := [.slice x.1 x.2.1 x.2.2.1, .int .i64 x.2.2.2]
theorem Tryd.infoBE : (Tryd.prog.info? 24).map (fun i => (i.zero, i.size, i.bytes)) = some (some (.agg #[.slice none 0 0, .int .i64 0]), 2, 32) := by kernel_rfl
theorem Tryd.underBE : Tryd.prog.underlying 95 = some (.slice 24) := by kernel_rfl
theorem Tryd.eltBE : Elt Tryd.prog 95 24 encBE 2 32 := ⟨Tryd.underBE, ⟨_, Tryd.infoBE, rfl⟩, by decide, fun _ => rfl, fun x v h => by
  simp [encBE] at h; rcases h with rfl | rfl <;> rfl⟩

/-- each sample's bits -/
def codeL (e : EC) : List (Int × Nat) → List (List Bool)
  | [] => []
  | s :: l => (encC e s.1 s.2).1 :: codeL (encC e s.1 s.2).2 l
theorem codeL_length (l : List (Int × Nat)) : ∀ e, (codeL e l).length = l.length := by
  induction l with
  | nil => intro e; rfl
  | cons s l ih => intro e; simp [codeL, ih]
theorem codeL_snoc (l : List (Int × Nat)) (s : Int × Nat) : ∀ e : EC, codeL e (l ++ [s]) = codeL e l ++ [(encC (lastC e l) s.1 s.2).1] := by
  induction l with
  | nil => intro e; simp [codeL, lastC]
  | cons u l ih => intro e; simp only [List.cons_append, codeL, ih]; rfl
theorem codeL_cat (l : List (Int × Nat)) : ∀ e : EC, catE ((codeL e l).map fun M => (pack M, (M.length : Int))) = codesC e l := by
  induction l with
  | nil => intro e; rfl
  | cons s l ih =>
    intro e
    simp only [codeL, List.map_cons, codesC]
    rw [← ih]
    unfold catE
    rw [List.flatMap_cons, Int.toNat_natCast, bits_pack]
theorem codeL_sound (cs : List (List Bool)) : soundE (cs.map fun M => (pack M, (M.length : Int))) = true := by
  unfold soundE
  rw [List.all_map, List.all_eq_true]
  intro M _
  exact sound_pack M

/-- the first elements are these bits, in blocks from base on, below hi -/
def CodesOk (w : World) (base hi : Nat) (CL : List BE) (cs : List (List Bool)) : Prop :=
  ∀ (j : Nat) (M : List Bool), cs[j]? = some M → M.length ≤ 146 ∧ ∃ A c, CL[j]? = some (A, (pack M).length, c, (M.length : Int)) ∧ OwnB w base (.slice A (pack M).length c) (pack M) ∧ ∀ k, (Value.slice A (pack M).length c).ownBlock = some k → k < hi
def qC (base hi : Nat) (CL : List BE) (cs : List (List Bool)) : Kq := ⟨fun w => CodesOk w base hi CL cs ∧ hi ≤ w.heap.size, fun k => k < base ∨ hi ≤ k, fun _ => True,
  fun w w' r h hg ha => ⟨fun j M hj => by
    obtain ⟨h1, A, c, h2, h3, h4⟩ := h.1 j M hj
    refine ⟨h1, A, c, h2, World.ownsRow.kept h3 hg ?_, h4⟩
    rcases hv : (Value.slice A (pack M).length c).ownBlock with _ | k
    · exact .inl rfl
    · refine .inr fun e => ?_
      have h5 := h4 k hv
      have h6 := (World.ownsRow.lt h3 k hv).1
      have h7 := ha k e.symm
      omega, Nat.le_trans h.2 hg.size⟩, fun _ _ => trivial⟩
theorem CodesOk.step {w : World} {base hi : Nat} {CL : List BE} {cs : List (List Bool)} (h : CodesOk w base hi CL cs) (hhi : hi ≤ w.heap.size) {M : List Bool} {A : Option Addr} {c : Nat} (ho : OwnB w base (.slice A (pack M).length c) (pack M)) (hM : M.length ≤ 146) (hk : cs.length < CL.length) :
    CodesOk w base w.heap.size (CL.set cs.length (A, (pack M).length, c, (M.length : Int))) (cs ++ [M]) := fun j N hj => by
  rcases Nat.lt_or_ge j cs.length with hlt | hge
  · rw [List.getElem?_append_left hlt] at hj
    obtain ⟨h1, B, d, h2, h3, h4⟩ := h j N hj
    exact ⟨h1, B, d, by rw [List.getElem?_set_ne (by omega)]; exact h2, h3, fun k hk => Nat.lt_of_lt_of_le (h4 k hk) hhi⟩
  · rw [List.getElem?_append_right hge] at hj
    have hj0 : j - cs.length = 0 := by
      rcases Nat.eq_zero_or_pos (j - cs.length) with h0 | h0
      · exact h0
      · rw [List.getElem?_eq_none (by simp; omega)] at hj; cases hj
    rw [hj0] at hj
    simp at hj
    subst hj
    obtain rfl : j = cs.length := by omega
    exact ⟨hM, A, c, by rw [List.getElem?_set_self hk], ho, fun k hk => (World.ownsRow.lt ho k hk).2⟩
theorem CodesOk.bsl {w : World} {base base' hi g n cap : Nat} {CL : List BE} {cs : List (List Bool)} (h : CodesOk w base hi CL cs) (hr : OwnR w base' 24 encBE 2 (.slice (some ⟨g, 0, none⟩) n cap) CL) : BsL w (some ⟨g, 0, none⟩) (cs.map fun M => (pack M, (M.length : Int))) := fun i e hi => by
  rw [List.getElem?_map, Option.map_eq_some_iff] at hi
  obtain ⟨M, hM, rfl⟩ := hi
  obtain ⟨h1, A, c, h2, h3, -⟩ := h i M hM
  obtain ⟨V, d, hv, -, hw⟩ := OwnR.row Tryd.eltBE hr
  injection hv with e1 _ _
  obtain ⟨p, o, hA, hc⟩ := hw i _ h2
  rw [← e1] at hA
  injection hA with e2
  injection e2 with e2 e3 _
  subst e2; subst e3
  exact ⟨g, 0, A, c, rfl, hc 0 _ rfl, hc 1 _ rfl, h3.bs, by simp only; omega⟩

/-- what is known, as cells -/
abbrev EC.cells (e : EC) : Array Value := #[.int .i64 e.n, .int .i64 e.last, .int .i64 e.delta, .bool e.val.has, .int .u64 e.val.prev, .int .u8 e.val.lead, .int .u8 e.val.width]
theorem OkC.small {n la de : Int} {h : Bool} {p L X : Nat} (k : OkC ⟨n, la, de, ⟨h, p, L, X⟩⟩) : L < 256 ∧ X < 256 := by
  have := k.val
  unfold soundX at this
  cases h <;> simp at this <;> omega

theorem fin27t {W W' : World} {ks : List Kq} {g1 g2 : Nat} {t1 t2 : TypeId} {a1 a2 b1 b2 b3 b4 b5 b6 b7 : Value} (a b c1 c2 c3 c4 c5 c6 c7 : Value)
    (h : Qs W (qB g1 t1 #[a1, a2] :: qB g2 t2 #[b1, b2, b3, b4, b5, b6, b7] :: ks)) (h1 : apAll g1 ks) (h2 : apAll g2 ks) (hne : g1 ≠ g2)
    (hW : sets (sets W g1 [(0, a), (1, b)]) g2 [(0, c1), (1, c2), (2, c3), (3, c4), (4, c5), (5, c6), (6, c7)] = W') : Qs W' (qB g1 t1 #[a, b] :: qB g2 t2 #[c1, c2, c3, c4, c5, c6, c7] :: ks) :=
  (h.put 0 g1 _ #[a, b] ⟨Ne.symm hne, h1⟩).putTo 1 g2 _ #[c1, c2, c3, c4, c5, c6, c7] hW ⟨hne, h2⟩

set_option maxHeartbeats 4000000 in
theorem cof_any (V : Option Addr) (c : Nat) (l : List (Int × Nat)) (w : World) (hV : Ss w V l) (hl : l.length ≤ 1000) (hi : InC l) (hT : Tab w) :
    Calls Tryd.prog 24 #[.slice V l.length c] w fun e w' => OutC (ofC ec0 l) .u16 w.heap.size e w' ∧ Below w.heap.size w w' := by
  obtain ⟨R, hR⟩ : ∃ R, R = ofC ec0 l := ⟨_, rfl⟩
  rw [← hR]
  have HR := Lib.hid hR
  have HT := Lib.hid hT
  have HV := Lib.hid hV
  have HI := Lib.hid hi
  clear hR hT hV hi
  have hlm : l.length ≤ maxLen := by unfold maxLen; omega
  have K0 := ((Qs.zero w).box #[.slice none 0 0, .int .i64 0] 24).box #[.int .i64 0, .int .i64 0, .int .i64 0, .bool false, .int .u64 0, .int .u8 0, .int .u8 0] 48
  simp only [World.size_alloc] at K0
  go_enter Tryd.func24, Tryd.ntmps24
  go_wp2_with (at_make; go_must (refine mkR Tryd.eltBE (.agg #[.slice none 0 0, .int .i64 0]) (none, 0, 0, 0) Tryd.infoBE rfl _ rfl (.tmp 15) (.tmp 15) rfl (w.heap.size + 2) l.length rfl rfl hlm (by omega) (by simp) ?_); intro w3 hown3 hb3)
  have HK := Lib.hid (((K0.go hb3).row_ hown3).box #[.int .i64 0, .int .i64 0, .int .i64 0, .bool false, .int .u64 0, .int .u8 0, .int .u8 0] 48)
  have z3 := hb3.size
  simp only [World.size_alloc] at z3 HK
  clear K0 hown3 hb3
  go_loopw [19] (fun i wr => ∃ (k hi : Nat) (CL : List BE), k ≤ l.length ∧ CL.length = l.length ∧ i = .int .i64 k ∧ Hid (RiseC ec0 (l.take k)) ∧ w3.heap.size + 1 ≤ hi ∧
      Hid (Qs wr [qC (w3.heap.size + 1) hi CL (codeL ec0 (l.take k)), qB w3.heap.size 48 (lastC ec0 (l.take k)).cells, qR (w.heap.size + 2) w3.heap.size 24 encBE 2 (.slice (some ⟨w.heap.size + 1 + 1, 0, none⟩) l.length l.length) CL,
        qB (w.heap.size + 1) 48 #[.int .i64 0, .int .i64 0, .int .i64 0, .bool false, .int .u64 0, .int .u8 0, .int .u8 0], qB w.heap.size 24 #[.slice none 0 0, .int .i64 0], qW w w.heap.size (Nat.le_refl _)]))
    (fun i _ => l.length - (intOf i).toNat)
  case atStart =>
    refine ⟨0, w3.heap.size + 1, List.replicate l.length (none, 0, 0, 0), Nat.zero_le _, List.length_replicate .., rfl, Lib.hid trivial, Nat.le_refl _, Lib.hid ?_⟩
    refine ((((((Qs.nil _).cons (HK.out.get 4 rfl)).cons (HK.out.get 3 rfl)).cons (HK.out.get 2 rfl)).cons (HK.out.get 1 rfl)).cons (k := qB w3.heap.size 48 _) (HK.out.get 0 rfl)).cons (k := qC _ _ _ _) ⟨fun j M hj => by simp [codeL] at hj, by simp⟩
  case round =>
    obtain ⟨k, hi, CL, hk, hCL, rfl, HRi, hhi, HQ⟩ := hrel
    clear HK
    have HK := HQ
    clear HQ
    have zr := (HK.out.blk 1).lt
    have hkl : (l.take k).length = k := by rw [List.length_take]; omega
    have hrows := rows_ok (l.take k) ec0 ok0 (Int.le_refl _) (by show (0 : Int) + _ ≤ _; omega) (fun s hs => HI.out s (List.mem_of_mem_take hs))
    rw [hkl] at hrows
    have hcl : (codeL ec0 (l.take k)).length = k := by rw [codeL_length, hkl]
    have HCL := Lib.hid hCL
    clear hCL
    rcases Nat.lt_or_ge k l.length with hlt | hge
    · obtain ⟨t, v, hs⟩ : ∃ t v, l[k] = (t, v) := ⟨_, _, rfl⟩
      have hsi := HI.out l[k] (List.getElem_mem hlt)
      obtain ⟨p, o, rfl, q1, q2⟩ := (HV.out.below (HK.out.top 5)) k l[k] (List.getElem?_eq_getElem hlt)
      rw [hs] at hsi q1 q2
      dsimp only at hsi q1 q2
      have htake : l.take (k + 1) = l.take k ++ [(t, v)] := by rw [← hs, List.take_append_getElem hlt]
      obtain ⟨en, el, ed, ⟨eh, ep, eL, eX⟩, hE⟩ : ∃ n la de V, lastC ec0 (l.take k) = ⟨n, la, de, V⟩ := ⟨_, _, _, _, rfl⟩
      have hok := hrows.1
      have hn := hrows.2.1
      rw [hE] at hok hn HK
      simp only [EC.cells] at HK
      have hsm := OkC.small hok
      have hco : codeL ec0 (l.take (k + 1)) = codeL ec0 (l.take k) ++ [(encC ⟨en, el, ed, ⟨eh, ep, eL, eX⟩⟩ t v).1] := by rw [htake, codeL_snoc, hE]
      have hla : lastC ec0 (l.take (k + 1)) = (encC ⟨en, el, ed, ⟨eh, ep, eL, eX⟩⟩ t v).2 := by rw [htake, lastC_snoc, hE]
      have hri : mayC ⟨en, el, ed, ⟨eh, ep, eL, eX⟩⟩ t = 0 → RiseC ec0 (l.take (k + 1)) := fun hm => by
        rw [htake]
        exact HRi.out.snoc (by rw [hE]; exact (mayC_zero hok t).1 hm)
      have hnri : mayC ⟨en, el, ed, ⟨eh, ep, eL, eX⟩⟩ t ≠ 0 → ofC ec0 l = ([], ec0, mayC ⟨en, el, ed, ⟨eh, ep, eL, eX⟩⟩ t) := fun hm => by
        rw [(ofC_rise l ec0 ok0 (Int.le_refl _) (by show (0 : Int) + _ ≤ _; omega) HI.out).2 (fun hr => by
          have h1 := RiseC.take (k + 1) hr
          rw [htake] at h1
          have h2 := (RiseC.next h1).2
          rw [hE] at h2
          exact hm ((mayC_zero hok t).2 h2))]
        unfold mayC at hm ⊢
        rw [if_neg (by rw [hok.snd]; decide)] at hm ⊢
        split at hm
        · rename_i h3; rw [if_pos h3]
        · exact absurd rfl hm
      have henc := fun (W : World) (hW : Below w.heap.size w W) => cencode_any en el ed t eh ep eL eX v W hok.n hok.last hok.delta hsi.1 hok.prev hsm.1 hsm.2 hsi.2 (tabGo HT.out hW)
      have hml := (encC_length hok t hsi.2).2
      have HE := Lib.hid henc
      have Hco := Lib.hid hco
      have Hla := Lib.hid hla
      have Hri := Lib.hid hri
      have Hnri := Lib.hid hnri
      have Hcl := Lib.hid hcl
      have k0 : 0 ≤ (k : Int) := by omega
      have k1 : (k : Int) < l.length := by omega
      clear hs hrows htake hE hok hn hco hla hri hnri henc hcl hkl
      have C := HK.out.says
      simp only [sayAll, cellsSay, qB, qW, qO, qR, qC, qZ, Nat.reduceAdd, and_true, true_and] at C
      have hbx := HK.out.box #[.int .i64 t, .int .u64 v] 53
      have Hbx := Lib.hid hbx
      clear hbx
      go_wp2_with fail
      refine (HE.out _ (Hbx.out.top 6)).mono ?_
      clear HE C q1 q2
      rintro e w5 ⟨⟨A5, n5, c5, rfl, rfl, o5⟩, b5⟩
      by_cases hm : mayC ⟨en, el, ed, ⟨eh, ep, eL, eX⟩⟩ t = 0
      · have hone : oneC ⟨en, el, ed, ⟨eh, ep, eL, eX⟩⟩ t v = ((encC ⟨en, el, ed, ⟨eh, ep, eL, eX⟩⟩ t v).1, (encC ⟨en, el, ed, ⟨eh, ep, eL, eX⟩⟩ t v).2, 0) := by unfold oneC; rw [if_neg (by rw [hm]; simp)]
        rw [hone] at o5 ⊢
        obtain ⟨M, n1, t1, d1, ⟨th, tp, tl, tb⟩, hMT⟩ : ∃ M n1 t1 d1 T, encC ⟨en, el, ed, ⟨eh, ep, eL, eX⟩⟩ t v = (M, ⟨n1, t1, d1, T⟩) := ⟨_, _, _, _, _, rfl⟩
        have hco := Hco.out
        have hla := Hla.out
        have hri := Hri.out hm
        rw [hMT] at hco hla hml o5 ⊢
        simp only at hco hla hml o5 ⊢
        replace Hco := Lib.hid hco
        replace Hla := Lib.hid hla
        replace Hri := Lib.hid hri
        clear hone hMT hco hla hri Hnri hm
        have K5 := (((Hbx.out.go b5).own_ o5).box #[.slice A5 (pack M).length c5, .int .i64 M.length] 24).box #[.int .i64 n1, .int .i64 t1, .int .i64 d1, .bool th, .int .u64 tp, .int .u8 tl, .int .u8 tb] 48
        simp only [World.size_alloc] at K5 o5
        have z5 := b5.size
        simp only [World.size_alloc] at z5
        clear Hbx b5
        have HO5 := Lib.hid o5
        clear o5
        go_upto_region 9 with fail
        generalize hW5 : World.alloc _ _ = W5
        rw [hW5] at K5
        clear hW5
        have HK5 := Lib.hid K5
        clear K5
        obtain ⟨⟨x0, g0⟩, g1⟩ := OwnR.cells Tryd.eltBE (HK5.out.row 6) HCL.out.symm k 0 (by rw [HCL.out]; exact hlt) (by decide)
        obtain ⟨⟨x1, g2⟩, g3⟩ := OwnR.cells Tryd.eltBE (HK5.out.row 6) HCL.out.symm k 1 (by rw [HCL.out]; exact hlt) (by decide)
        replace g0 : W5.cell? ⟨w.heap.size + 1 + 1, k * 2, none⟩ = some x0 := g0
        replace g1 : W5.frozen? ⟨w.heap.size + 1 + 1, k * 2, none⟩ = false := g1
        have B0 := HK5.out.blk 0
        have B1 := HK5.out.blk 1
        have C := HK5.out.says
        simp only [sayAll, cellsSay, qB, qW, qO, qR, qC, qZ, Nat.reduceAdd, and_true, true_and] at C
        have dq : W5.cell? ⟨w5.heap.size, 0, none⟩ = some (.slice A5 (pack M).length c5) ∧ W5.cell? ⟨w5.heap.size, 1, none⟩ = some (.int .i64 M.length) ∧ W5.cell? ⟨w5.heap.size + 1, 0, none⟩ = some (.int .i64 n1) ∧ W5.cell? ⟨w5.heap.size + 1, 1, none⟩ = some (.int .i64 t1) ∧ W5.cell? ⟨w5.heap.size + 1, 2, none⟩ = some (.int .i64 d1) ∧ W5.cell? ⟨w5.heap.size + 1, 3, none⟩ = some (.bool th) ∧ W5.cell? ⟨w5.heap.size + 1, 4, none⟩ = some (.int .u64 tp) ∧ W5.cell? ⟨w5.heap.size + 1, 5, none⟩ = some (.int .u8 tl) ∧ W5.cell? ⟨w5.heap.size + 1, 6, none⟩ = some (.int .u8 tb) :=
          ⟨B1.cell 0, B1.cell 1, B0.cell 0, B0.cell 1, B0.cell 2, B0.cell 3, B0.cell 4, B0.cell 5, B0.cell 6⟩
        have hg3 : w.heap.size + 1 + 1 < w3.heap.size := (HK5.out.get 6 rfl).2.1 _ rfl
        have nf1 := fun (W : World) (i j : Nat) (u : Value) => World.cell?_setCell_far W ⟨w.heap.size + 1 + 1, i, none⟩ ⟨w5.heap.size, j, none⟩ u (by simp <;> omega)
        have nf2 := fun (W : World) (i j : Nat) (u : Value) => World.cell?_setCell_far W ⟨w.heap.size + 1 + 1, i, none⟩ ⟨w5.heap.size + 1, j, none⟩ u (by simp <;> omega)
        have nf3 := fun (W : World) (i j : Nat) (u : Value) => World.cell?_setCell_far W ⟨w3.heap.size, i, none⟩ ⟨w5.heap.size, j, none⟩ u (by simp <;> omega)
        have nf4 := fun (W : World) (i j : Nat) (u : Value) => World.cell?_setCell_far W ⟨w3.heap.size, i, none⟩ ⟨w5.heap.size + 1, j, none⟩ u (by simp <;> omega)
        have ndr : ∀ (W : World) (a : Addr), W.drew.cell? a = W.cell? a := fun _ _ => rfl
        clear B0 B1
        go_region_held3 (fun w' => w'.cell? ⟨w5.heap.size, 0, none⟩ = some (.slice A5 (pack M).length c5) ∧ w'.cell? ⟨w5.heap.size, 1, none⟩ = some (.int .i64 M.length) ∧ w'.cell? ⟨w5.heap.size + 1, 0, none⟩ = some (.int .i64 n1) ∧ w'.cell? ⟨w5.heap.size + 1, 1, none⟩ = some (.int .i64 t1) ∧ w'.cell? ⟨w5.heap.size + 1, 2, none⟩ = some (.int .i64 d1) ∧ w'.cell? ⟨w5.heap.size + 1, 3, none⟩ = some (.bool th) ∧ w'.cell? ⟨w5.heap.size + 1, 4, none⟩ = some (.int .u64 tp) ∧ w'.cell? ⟨w5.heap.size + 1, 5, none⟩ = some (.int .u8 tl) ∧ w'.cell? ⟨w5.heap.size + 1, 6, none⟩ = some (.int .u8 tb)) (first | (simp only [ndr]; with_reducible exact dq) | (simp only [ndr, nf1, nf2, nf3, nf4]; with_reducible exact dq)) (fail)
        go_wp2_with fail
        generalize hW : World.setCell _ _ _ = W6
        have hc4 := HK5.out.get 4 rfl
        have hst := CodesOk.step hc4.1 hc4.2 ((HK5.out.own 2).mono (show w3.heap.size + 1 ≤ wr.heap.size + 1 by omega)) hml (by rw [Hcl.out, HCL.out]; exact hlt)
        rw [Hcl.out, ← Hco.out] at hst
        have K6 := ((((((Qs.nil W5).cons (HK5.out.get 9 rfl)).cons (HK5.out.get 8 rfl)).cons (HK5.out.get 7 rfl)).cons (HK5.out.get 6 rfl)).cons (HK5.out.get 5 rfl)).cons (k := qC (w3.heap.size + 1) W5.heap.size _ _) ⟨hst, Nat.le_refl _⟩
        have hz5 : w3.heap.size + 1 ≤ W5.heap.size := (HK5.out.blk 5).lt
        have K7 := (K6.putRow Tryd.eltBE 2 (w.heap.size + 1 + 1) k (A5, (pack M).length, c5, (M.length : Int)) HCL.out.symm (by rw [HCL.out]; exact hlt) rfl (by simp only [apBut, apAll, qB, qW, qO, qR, qC, qZ, and_true]; omega)).putTo 1 w3.heap.size [(0, .int .i64 n1), (1, .int .i64 t1), (2, .int .i64 d1), (3, .bool th), (4, .int .u64 tp), (5, .int .u8 tl), (6, .int .u8 tb)] #[.int .i64 n1, .int .i64 t1, .int .i64 d1, .bool th, .int .u64 tp, .int .u8 tl, .int .u8 tb] hW (by simp only [List.set, apBut, apAll, qB, qW, qO, qR, qC, qZ, and_true]; omega)
        have HK7 := Lib.hid K7.drew
        clear C dq nf1 nf2 nf3 nf4 hW hst K6 K7 hc4 x0 x1 g0 g1 g2 g3
        go_roundw
        case measure => simp [intOf]; omega
        case rel =>
          refine ⟨k + 1, W5.heap.size, CL.set k (A5, (pack M).length, c5, (M.length : Int)), hlt, by rw [List.length_set]; exact HCL.out, by go_num, Hri, hz5, ?_⟩
          rw [Hla.out]
          exact HK7
      · have hone : oneC ⟨en, el, ed, ⟨eh, ep, eL, eX⟩⟩ t v = ([], ec0, mayC ⟨en, el, ed, ⟨eh, ep, eL, eX⟩⟩ t) := by unfold oneC; rw [if_pos hm]
        rw [hone] at o5 ⊢
        have hR := Hnri.out hm
        obtain ⟨ec, hec⟩ : ∃ ec, ec = mayC ⟨en, el, ed, ⟨eh, ep, eL, eX⟩⟩ t := ⟨_, rfl⟩
        rw [← HR.out, ← hec] at hR
        rw [← hec] at hm ⊢
        have HR2 := Lib.hid hR
        have K5 := ((Hbx.out.go b5).box #[.slice A5 (pack []).length c5, .int .i64 0] 24).box #[.int .i64 0, .int .i64 0, .int .i64 0, .bool false, .int .u64 0, .int .u8 0, .int .u8 0] 48
        have HK5 := Lib.hid K5
        have k2 : ((ec : Int) == 0) = false := beq_eq_false_iff_ne.2 (by omega)
        have k3 : ((ec : Int) != 0) = true := by simpa using hm
        have z8 := (HK.out.blk 3).lt
        have z5 := b5.size
        simp only [World.size_alloc] at z5
        clear K5 o5 b5 hone hec hR Hbx HR Hnri Hri Hla Hco hm
        have C := HK5.out.says
        simp only [sayAll, cellsSay, qB, qW, qO, qR, qC, qZ, Nat.reduceAdd, and_true, true_and] at C
        simp only [ec0, xv0]
        go_wp2_with fail
        generalize hW : World.setCell _ _ _ = W6
        have HK2 := Lib.hid (fin27 (.slice none 0 0) (.int .i64 0) (.int .i64 0) (.int .i64 0) (.int .i64 0) (.bool false) (.int .u64 0) (.int .u8 0) (.int .u8 0) ((((Qs.nil _).cons (HK5.out.get 8 rfl)).cons (HK5.out.get 6 rfl)).cons (HK5.out.get 7 rfl)) (by omega) (by omega) (by omega) hW)
        clear hW C
        have C := HK2.out.says
        simp only [sayAll, cellsSay, qB, qW, qO, qZ, List.set, Nat.reduceAdd, and_true] at C
        rw [HR2.out]
        refine bodyPost_ret (v := .tuple #[.agg #[.slice none 0 0, .int .i64 0], .agg #[.int .i64 0, .int .i64 0, .int .i64 0, .bool false, .int .u64 0, .int .u8 0, .int .u8 0], .int .u16 ec]) (by simp [results, Tryd.results24, go_sem, C]) rfl ⟨?_, HK2.out.top 2⟩
        refine ⟨none, 0, 0, (show 0 = (pack []).length from rfl), rfl, ?_⟩
        show OwnB _ _ _ (pack [])
        rw [packN0]
        exact OwnB.nil _ _
    · obtain rfl : k = l.length := by omega
      have htk : l.take l.length = l := List.take_length
      have hR := (ofC_rise l ec0 ok0 (Int.le_refl _) (by show (0 : Int) + _ ≤ _; omega) HI.out).1 (by have := HRi.out; rwa [htk] at this)
      rw [← HR.out] at hR
      obtain ⟨en, el, ed, ⟨eh, ep, eL, eX⟩, hE⟩ : ∃ n la de V, lastC ec0 l = ⟨n, la, de, V⟩ := ⟨_, _, _, _, rfl⟩
      have hHK := HK.out
      rw [htk, hE] at hHK
      simp only [EC.cells] at hHK
      have hbs := CodesOk.bsl (hHK.get 0 rfl).1 (hHK.row 2)
      obtain ⟨E, hEe⟩ : ∃ E, E = (codeL ec0 l).map fun M => (pack M, (M.length : Int)) := ⟨_, rfl⟩
      have hEl : E.length = l.length := by rw [hEe, List.length_map, codeL_length]
      have hEs : soundE E = true := by rw [hEe]; exact codeL_sound _
      obtain ⟨BS, hBS⟩ : ∃ BS, BS = codesC ec0 l := ⟨_, rfl⟩
      have hEc : catE E = BS := by rw [hEe, codeL_cat, hBS]
      have hok0 := (hHK.get 0 rfl).1
      have hE9 : ∀ e ∈ E, e.1.length ≤ 1073741824 := by
        intro e he
        rw [hEe, List.mem_map] at he
        obtain ⟨M, hM, rfl⟩ := he
        obtain ⟨j, hj⟩ := List.getElem?_of_mem hM
        have := (hok0 j M hj).1
        rw [pack_length]
        unfold Go.Proofs.YtgnppnjhecfjeaaDoor.nb
        omega
      rw [← hEe] at hbs
      have hJ := join_ok (some ⟨w.heap.size + 1 + 1, 0, none⟩) l.length E wr hbs hEs (by omega) hE9
      rw [hEl, hEc] at hJ
      have hR2 : R = (BS, ⟨en, el, ed, ⟨eh, ep, eL, eX⟩⟩, 0) := by rw [hR, ← hBS, hE]
      have HR2 := Lib.hid hR2
      have HJ := Lib.hid hJ
      replace HK := Lib.hid hHK
      clear hR hR2 hE hHK hbs hEe hEl hEs hBS hEc hok0 hE9 hJ hrows hcl hkl htk HRi HR
      have C := HK.out.says
      simp only [sayAll, cellsSay, qB, qW, qO, qR, qC, qZ, Nat.reduceAdd, and_true, true_and] at C
      go_wp2_with fail
      refine HJ.out.mono ?_
      clear HJ
      rintro e w5 ⟨A5, c5, rfl, o5, b5⟩
      have K5 := ((HK.out.go b5).own_ o5).box #[.slice A5 (pack BS).length c5, .int .i64 BS.length] 24
      have z5 := b5.size
      have z8 := (HK.out.blk 3).lt
      clear C b5 o5
      go_upto_region 14 with fail
      generalize hW5 : World.alloc _ _ = W5
      rw [hW5] at K5
      clear hW5
      have HK5 := Lib.hid K5
      clear K5
      have C := HK5.out.says
      simp only [sayAll, cellsSay, qB, qW, qO, qR, qC, qZ, Nat.reduceAdd, and_true, true_and] at C
      have B0 := HK5.out.blk 0
      have B1 := HK5.out.blk 3
      have dq : W5.cell? ⟨w5.heap.size, 0, none⟩ = some (.slice A5 (pack BS).length c5) ∧ W5.cell? ⟨w5.heap.size, 1, none⟩ = some (.int .i64 BS.length) ∧ W5.cell? ⟨w3.heap.size, 0, none⟩ = some (.int .i64 en) ∧ W5.cell? ⟨w3.heap.size, 1, none⟩ = some (.int .i64 el) ∧ W5.cell? ⟨w3.heap.size, 2, none⟩ = some (.int .i64 ed) ∧ W5.cell? ⟨w3.heap.size, 3, none⟩ = some (.bool eh) ∧ W5.cell? ⟨w3.heap.size, 4, none⟩ = some (.int .u64 ep) ∧ W5.cell? ⟨w3.heap.size, 5, none⟩ = some (.int .u8 eL) ∧ W5.cell? ⟨w3.heap.size, 6, none⟩ = some (.int .u8 eX) :=
        ⟨B0.cell 0, B0.cell 1, B1.cell 0, B1.cell 1, B1.cell 2, B1.cell 3, B1.cell 4, B1.cell 5, B1.cell 6⟩
      have hg3 : w.heap.size + 1 + 1 < w3.heap.size := (HK5.out.get 4 rfl).2.1 _ rfl
      have nf1 := fun (W : World) (i j : Nat) (u : Value) => World.cell?_setCell_far W ⟨w.heap.size, i, none⟩ ⟨w5.heap.size, j, none⟩ u (by simp <;> omega)
      have nf2 := fun (W : World) (i j : Nat) (u : Value) => World.cell?_setCell_far W ⟨w.heap.size, i, none⟩ ⟨w3.heap.size, j, none⟩ u (by simp <;> omega)
      have nf3 := fun (W : World) (i j : Nat) (u : Value) => World.cell?_setCell_far W ⟨w.heap.size + 1, i, none⟩ ⟨w5.heap.size, j, none⟩ u (by simp <;> omega)
      have nf4 := fun (W : World) (i j : Nat) (u : Value) => World.cell?_setCell_far W ⟨w.heap.size + 1, i, none⟩ ⟨w3.heap.size, j, none⟩ u (by simp <;> omega)
      have ndr : ∀ (W : World) (a : Addr), W.drew.cell? a = W.cell? a := fun _ _ => rfl
      clear B0 B1
      go_region_held3 (fun w' => w'.cell? ⟨w5.heap.size, 0, none⟩ = some (.slice A5 (pack BS).length c5) ∧ w'.cell? ⟨w5.heap.size, 1, none⟩ = some (.int .i64 BS.length) ∧ w'.cell? ⟨w3.heap.size, 0, none⟩ = some (.int .i64 en) ∧ w'.cell? ⟨w3.heap.size, 1, none⟩ = some (.int .i64 el) ∧ w'.cell? ⟨w3.heap.size, 2, none⟩ = some (.int .i64 ed) ∧ w'.cell? ⟨w3.heap.size, 3, none⟩ = some (.bool eh) ∧ w'.cell? ⟨w3.heap.size, 4, none⟩ = some (.int .u64 ep) ∧ w'.cell? ⟨w3.heap.size, 5, none⟩ = some (.int .u8 eL) ∧ w'.cell? ⟨w3.heap.size, 6, none⟩ = some (.int .u8 eX)) (first | (simp only [ndr]; with_reducible exact dq) | (simp only [ndr, nf1, nf2, nf3, nf4]; with_reducible exact dq)) (fail)
      go_wp2_with fail
      generalize hW : World.setCell _ _ _ = W6
      have HK2 := Lib.hid (fin27t (.slice A5 (pack BS).length c5) (.int .i64 BS.length) (.int .i64 en) (.int .i64 el) (.int .i64 ed) (.bool eh) (.int .u64 ep) (.int .u8 eL) (.int .u8 eX) (((((Qs.nil W5).cons (HK5.out.get 1 rfl)).cons (HK5.out.get 7 rfl)).cons (HK5.out.get 5 rfl)).cons (HK5.out.get 6 rfl)) (by simp only [apAll, qO, qW, and_true]; omega) (by simp only [apAll, qO, qW, and_true]; omega) (by omega) hW)
      clear hW C dq nf1 nf2 nf3 nf4
      have C := HK2.out.says
      simp only [sayAll, cellsSay, qB, qW, qO, qZ, List.set, Nat.reduceAdd, and_true] at C
      rw [HR2.out]
      refine bodyPost_ret (v := .tuple #[.agg #[.slice A5 (pack BS).length c5, .int .i64 BS.length], .agg #[.int .i64 en, .int .i64 el, .int .i64 ed, .bool eh, .int .u64 ep, .int .u8 eL, .int .u8 eX], .int .u16 0]) (by simp [results, Tryd.results24, go_sem, C]) rfl ⟨?_, (HK2.out.top 2).drew⟩
      exact ⟨A5, _, c5, rfl, rfl, ((HK2.out.own 3).mono (by omega)).drew⟩

end Go.Proofs.YtgnppnjhecfjeaaDoor

/- Layer 6: the document's Of. -/
namespace Go.Proofs.YtgnppnjhecfjeaaDoor
open Go.RowKit
set_option maxRecDepth 100000

theorem codesC_le (l : List (Int × Nat)) (k : Nat) (hl : l.length ≤ 1000) (hi : InC l) : (codesC ec0 (l.take k)).length ≤ 146000 := by
  have h := rows_ok (l.take k) ec0 ok0 (Int.le_refl _) (by rw [List.length_take]; show (0 : Int) + _ ≤ _; omega) (fun s hs => hi s (List.mem_of_mem_take hs))
  have := h.2.2.1
  rw [List.length_take] at this
  omega

set_option maxHeartbeats 4000000 in
theorem rcof_any (V : Option Addr) (c : Nat) (l : List (Int × Nat)) (w : World) (hV : Ss w V l) (hl : l.length ≤ 1000) (hi : InC l) :
    Calls Tryd.prog 35 #[.slice V l.length c] w fun e w' => OutC (ofC ec0 l) .i64 w.heap.size e w' ∧ Below w.heap.size w w' := by
  have hmx : Tryd.prog.follows .mixedOrders = true := by kernel_rfl
  obtain ⟨R, hR⟩ : ∃ R, R = ofC ec0 l := ⟨_, rfl⟩
  rw [← hR]
  have HR := Lib.hid hR
  have HV := Lib.hid hV
  have HI := Lib.hid hi
  clear hR hV hi
  have K0 := ((((Qs.zero w).box #[.slice none 0 0, .int .i64 0] 24).box #[.int .i64 0, .int .i64 0, .int .i64 0, .bool false, .int .u64 0, .int .u8 0, .int .u8 0] 48).box #[.slice none 0 0, .int .i64 0] 24).box #[.int .i64 0, .int .i64 0, .int .i64 0, .bool false, .int .u64 0, .int .u8 0, .int .u8 0] 48
  simp only [World.size_alloc] at K0
  go_enter Tryd.func35, Tryd.ntmps35
  go_wp2_with fail
  generalize hW0 : World.alloc _ _ = W0
  rw [hW0] at K0
  have HK0 := Lib.hid K0
  clear K0 hW0
  go_loopw [7] (fun i wr => ∃ (k hi : Nat) (A : Option Addr) (c1 : Nat), k ≤ l.length ∧ i = .int .i64 k ∧ Hid (RiseC ec0 (l.take k)) ∧
      Hid (Qs wr [qO (w.heap.size + 4) hi (.slice A (pack (codesC ec0 (l.take k))).length c1) (pack (codesC ec0 (l.take k))), qB (w.heap.size + 1 + 1 + 1) 48 (lastC ec0 (l.take k)).cells, qB (w.heap.size + 1 + 1) 24 #[.slice A (pack (codesC ec0 (l.take k))).length c1, .int .i64 (codesC ec0 (l.take k)).length],
        qB (w.heap.size + 1) 48 #[.int .i64 0, .int .i64 0, .int .i64 0, .bool false, .int .u64 0, .int .u8 0, .int .u8 0], qB w.heap.size 24 #[.slice none 0 0, .int .i64 0], qW w w.heap.size (Nat.le_refl _)]))
    (fun i _ => l.length - (intOf i).toNat)
  case atStart =>
    refine ⟨0, W0.heap.size, none, 0, Nat.zero_le _, rfl, Lib.hid trivial, Lib.hid ?_⟩
    have ho : OwnB W0 (w.heap.size + 4) (.slice none (pack []).length 0) (pack []) := by
      rw [packN0]
      exact OwnB.nil _ _
    have e0 : codesC ec0 (l.take 0) = [] := by rw [List.take_zero]; rfl
    have e1 : lastC ec0 (l.take 0) = ec0 := by rw [List.take_zero]; rfl
    have e2 : (pack []).length = 0 := rfl
    rw [e0, e1, e2]
    rw [e2] at ho
    exact HK0.out.own_ ho
  case round =>
    obtain ⟨k, hi, A, c1, hk, rfl, HRi, HK⟩ := hrel
    clear HK0
    have zr := (HK.out.blk 1).lt
    have hkl : (l.take k).length = k := by rw [List.length_take]; omega
    have hrows := rows_ok (l.take k) ec0 ok0 (Int.le_refl _) (by show (0 : Int) + _ ≤ _; omega) (fun s hs => HI.out s (List.mem_of_mem_take hs))
    rw [hkl] at hrows
    have hMl := codesC_le l k hl HI.out
    obtain ⟨M, hM⟩ : ∃ M, M = codesC ec0 (l.take k) := ⟨_, rfl⟩
    rw [← hM] at hMl HK
    rcases Nat.lt_or_ge k l.length with hlt | hge
    · obtain ⟨t, v, hs⟩ : ∃ t v, l[k] = (t, v) := ⟨_, _, rfl⟩
      have hsi := HI.out l[k] (List.getElem_mem hlt)
      obtain ⟨p, o, rfl, q1, q2⟩ := (HV.out.below (HK.out.top 5)) k l[k] (List.getElem?_eq_getElem hlt)
      rw [hs] at hsi q1 q2
      dsimp only at hsi q1 q2
      have htake : l.take (k + 1) = l.take k ++ [(t, v)] := by rw [← hs, List.take_append_getElem hlt]
      obtain ⟨en, el, ed, ⟨eh, ep, eL, eX⟩, hE⟩ : ∃ n la de V, lastC ec0 (l.take k) = ⟨n, la, de, V⟩ := ⟨_, _, _, _, rfl⟩
      have hok := hrows.1
      rw [hE] at hok HK
      simp only [EC.cells] at HK
      have hsm := OkC.small hok
      have hco : codesC ec0 (l.take (k + 1)) = M ++ (encC ⟨en, el, ed, ⟨eh, ep, eL, eX⟩⟩ t v).1 := by rw [htake, codesC_snoc, hE, hM]
      have hla : lastC ec0 (l.take (k + 1)) = (encC ⟨en, el, ed, ⟨eh, ep, eL, eX⟩⟩ t v).2 := by rw [htake, lastC_snoc, hE]
      have hri : mayC ⟨en, el, ed, ⟨eh, ep, eL, eX⟩⟩ t = 0 → RiseC ec0 (l.take (k + 1)) := fun hm => by
        rw [htake]
        exact HRi.out.snoc (by rw [hE]; exact (mayC_zero hok t).1 hm)
      have hnri : mayC ⟨en, el, ed, ⟨eh, ep, eL, eX⟩⟩ t ≠ 0 → ofC ec0 l = ([], ec0, mayC ⟨en, el, ed, ⟨eh, ep, eL, eX⟩⟩ t) := fun hm => by
        rw [(ofC_rise l ec0 ok0 (Int.le_refl _) (by show (0 : Int) + _ ≤ _; omega) HI.out).2 (fun hr => by
          have h1 := RiseC.take (k + 1) hr
          rw [htake] at h1
          have h2 := (RiseC.next h1).2
          rw [hE] at h2
          exact hm ((mayC_zero hok t).2 h2))]
        unfold mayC at hm ⊢
        rw [if_neg (by rw [hok.snd]; decide)] at hm ⊢
        split at hm
        · rename_i h3; rw [if_pos h3]
        · exact absurd rfl hm
      have hpl : (pack M).length ≤ 90000 := by rw [pack_length]; unfold Go.Proofs.YtgnppnjhecfjeaaDoor.nb; omega
      have hput : ∃ B e1 f, putC (pack M) (M.length : Int) ⟨en, el, ed, ⟨eh, ep, eL, eX⟩⟩ t v = (B, e1, f) ∧ ((f = 0 ∧ B = codesC ec0 (l.take (k + 1)) ∧ e1 = lastC ec0 (l.take (k + 1)) ∧ RiseC ec0 (l.take (k + 1))) ∨ (f ≠ 0 ∧ R = ([], ec0, f))) := by
        unfold putC
        rw [if_neg (by rw [sound_pack]; decide), Int.toNat_natCast, bits_pack]
        by_cases hm : mayC ⟨en, el, ed, ⟨eh, ep, eL, eX⟩⟩ t = 0
        · rw [if_neg (by rw [hm]; simp)]
          exact ⟨_, _, _, rfl, Or.inl ⟨rfl, hco.symm, hla.symm, hri hm⟩⟩
        · rw [if_pos hm]
          exact ⟨_, _, _, rfl, Or.inr ⟨hm, by rw [HR.out]; exact hnri hm⟩⟩
      obtain ⟨B, ⟨n1, t1, d1, ⟨th, tp, tl, tb⟩⟩, f, hPe, hPc⟩ := hput
      have hP := fun (W : World) (hW : Below wr.heap.size wr W) => rcput_any A c1 (pack M) (M.length : Int) en el ed t eh ep eL eX v W ((HK.out.own 0).below hW).bs (by omega) hpl hok.n hok.last hok.delta hsi.1 hok.prev hsm.1 hsm.2 hsi.2
      simp only [hPe] at hP
      have HP := Lib.hid hP
      have HPc := Lib.hid hPc
      have k0 : 0 ≤ (k : Int) := by omega
      have k1 : (k : Int) < l.length := by omega
      clear hs hrows htake hE hok hco hla hri hnri hkl hM hP hPe hPc hpl
      have C := HK.out.says
      simp only [sayAll, cellsSay, qB, qW, qO, qR, qZ, Nat.reduceAdd, and_true, true_and] at C
      have kp := plus_cell wr
      go_wp2_with fail
      refine wp_region_frw [none, none, none, none, none, none, none, none, none, none, none, none, none, some 11, some 12] [6, 11, 12] [13, 14] (fun k lo v z => if k = 6 then ∃ (A3 : Option Addr) (c3 : Nat), v = .tuple #[.agg #[.slice A3 (pack B).length c3, .int .i64 (B.length : Nat)], .agg #[.int .i64 n1, .int .i64 t1, .int .i64 d1, .bool th, .int .u64 tp, .int .u8 tl, .int .u8 tb], .int .i64 f] ∧ OwnB z lo (.slice A3 (pack B).length c3) (pack B)
        else if k = 11 then v = .pointer (some ⟨lo, 0, none⟩) ∧ z.heap.size = lo + 1 ∧ Blk z lo 24 #[.slice none 0 0, .int .i64 0]
        else v = .pointer (some ⟨lo, 0, none⟩) ∧ z.heap.size = lo + 1 ∧ Blk z lo 48 #[.int .i64 0, .int .i64 0, .int .i64 0, .bool false, .int .u64 0, .int .u8 0, .int .u8 0]) hmx (by kernel_rfl) ?_
      iterate 6 (refine walkH_one rfl rfl (by kernel_rfl) ?_; go_big_quiet_step (fail); refine wpQuiet_nil ?_)
      refine walkH_make rfl rfl (by kernel_rfl) (fun x => ?_) ?_
      · refine grow_call ?_ ((HP.out _ (plus_below wr x)).mono ?_)
        · simp [execOp, go_sem]
        · rintro e w4 ⟨⟨A3, n3, c3, rfl, rfl, o3⟩, b4⟩
          exact ⟨_, rfl, b4, A3, c3, rfl, o3⟩
      rintro V6 lo6 z6 ⟨A3, c3, rfl, o3⟩ hlo6 hz6 hb6
      conv => arg 12; simp [Act.put]
      iterate 4 (refine walkH_one rfl rfl (by kernel_rfl) ?_; go_big_quiet_step (fail); refine wpQuiet_nil ?_)
      refine walkH_make rfl rfl (by kernel_rfl) (fun x => ?_) ?_
      · exact grow_alloc (by simp [execOp, go_sem]) ⟨rfl, by simp, Blk.new _ _ _⟩
      rintro V11 lo11 z11 ⟨rfl, hs11, hb11⟩ hlo11 hz11 hbw11
      conv => arg 12; simp [Act.put]
      refine walkH_make rfl rfl (by kernel_rfl) (fun x => ?_) ?_
      · exact grow_alloc (by simp [execOp, go_sem]) ⟨rfl, by simp, Blk.new _ _ _⟩
      rintro V12 lo12 z12 ⟨rfl, hs12, hb12⟩ hlo12 hz12 hbw12
      conv => arg 12; simp [Act.put]
      refine walkH_store rfl rfl (j := 11) rfl (by kernel_rfl) (fun W hW hA => ?_)
      have hB : Blk W lo11 24 #[.slice none 0 0, .int .i64 0] := Agr.blk (s := ⟨z11, lo11, z11.heap.size⟩) hA hb11 (Nat.le_refl _) (by rw [hs11]; exact Nat.lt_succ_self _)
      obtain ⟨⟨x0, x1⟩, x2, x3⟩ := hB.duo
      refine ⟨(W.setCell ⟨lo11, 0, none⟩ (.slice A3 (pack B).length c3)).setCell ⟨lo11, 1, none⟩ (.int .i64 (B.length : Nat)), by simp [execOp, go_sem, x0, x1, x2, x3], ((storeUpon.same W _).cell _ _ (Nat.le_refl _) (show lo11 < z11.heap.size by omega)).cell _ _ (Nat.le_refl _) (show lo11 < z11.heap.size by omega), fun hbz13 => ?_⟩
      have hb13 := hB.set2 (.slice A3 (pack B).length c3) (.int .i64 (B.length : Nat))
      generalize (W.setCell ⟨lo11, 0, none⟩ (.slice A3 (pack B).length c3)).setCell ⟨lo11, 1, none⟩ (.int .i64 (B.length : Nat)) = z13 at *
      clear hA hB x0 x1 x2 x3 hW
      conv => arg 12; simp [Act.put]
      refine walkH_store rfl rfl (j := 12) rfl (by kernel_rfl) (fun W hW hA => ?_)
      have hB : Blk W lo12 48 #[.int .i64 0, .int .i64 0, .int .i64 0, .bool false, .int .u64 0, .int .u8 0, .int .u8 0] := Agr.blk (s := ⟨z12, lo12, z12.heap.size⟩) hA hb12 (Nat.le_refl _) (by rw [hs12]; exact Nat.lt_succ_self _)
      obtain ⟨⟨x0, x1, x2, x3, x4, x5, x6⟩, y0, y1, y2, y3, y4, y5, y6⟩ := hB.sept
      refine ⟨sets W lo12 [(0, .int .i64 n1), (1, .int .i64 t1), (2, .int .i64 d1), (3, .bool th), (4, .int .u64 tp), (5, .int .u8 tl), (6, .int .u8 tb)], by simp [execOp, go_sem, sets, x0, x1, x2, x3, x4, x5, x6, y0, y1, y2, y3, y4, y5, y6],
        (((((((storeUpon.same W _).cell _ _ (Nat.le_refl _) (show lo12 < z12.heap.size by omega)).cell _ _ (Nat.le_refl _) (show lo12 < z12.heap.size by omega)).cell _ _ (Nat.le_refl _) (show lo12 < z12.heap.size by omega)).cell _ _ (Nat.le_refl _) (show lo12 < z12.heap.size by omega)).cell _ _ (Nat.le_refl _) (show lo12 < z12.heap.size by omega)).cell _ _ (Nat.le_refl _) (show lo12 < z12.heap.size by omega)).cell _ _ (Nat.le_refl _) (show lo12 < z12.heap.size by omega), fun hbz14 => ?_⟩
      have hb14 : Blk (sets W lo12 [(0, .int .i64 n1), (1, .int .i64 t1), (2, .int .i64 d1), (3, .bool th), (4, .int .u64 tp), (5, .int .u8 tl), (6, .int .u8 tb)]) lo12 48 #[.int .i64 n1, .int .i64 t1, .int .i64 d1, .bool th, .int .u64 tp, .int .u8 tl, .int .u8 tb] := Blk.sets _ hB
      generalize sets W lo12 [(0, .int .i64 n1), (1, .int .i64 t1), (2, .int .i64 d1), (3, .bool th), (4, .int .u64 tp), (5, .int .u8 tl), (6, .int .u8 tb)] = z14 at *
      clear hA hB x0 x1 x2 x3 x4 x5 x6 y0 y1 y2 y3 y4 y5 y6 hW
      conv => arg 12; simp [Act.put]
      refine walkH_one rfl rfl (by kernel_rfl) ?_; go_big_quiet_step (fail); refine wpQuiet_nil ?_
      refine walkH_end ?_
      intro W hR
      have k6 : OwnB W lo6 (.slice A3 (pack B).length c3) (pack B) := Agr.own (s := ⟨z6, lo6, z6.heap.size⟩) (hR.agr 6) o3 rfl
      have k11 : Blk W lo11 24 #[.slice A3 (pack B).length c3, .int .i64 (B.length : Nat)] := Agr.blk (s := ⟨z13, lo11, z11.heap.size⟩) (hR.agr 11) hb13 (Nat.le_refl _) (by rw [hs11]; exact Nat.lt_succ_self _)
      have k12 : Blk W lo12 48 #[.int .i64 n1, .int .i64 t1, .int .i64 d1, .bool th, .int .u64 tp, .int .u8 tl, .int .u8 tb] := Agr.blk (s := ⟨z14, lo12, z12.heap.size⟩) (hR.agr 12) hb14 (Nat.le_refl _) (by rw [hs12]; exact Nat.lt_succ_self _)
      have kb := hR.base
      have K6 := (((HK.out.go kb).own_ k6).cons (k := qB _ _ _) k11).cons (k := qB _ _ _) k12
      have z0 := kb.size
      have HK6 := Lib.hid K6
      clear hR hb13 hb14 hb12 hb11 hbz13 hbz14 hbw11 hbw12 hb6 o3 hz6 hz11 hz12 hs11 hs12 kp C K6 k6 k11 k12 kb HP q1 q2
      have C := HK6.out.says
      simp only [sayAll, cellsSay, qB, qW, qO, qR, qZ, Nat.reduceAdd, and_true, true_and] at C
      by_cases hf : f = 0
      · obtain ⟨-, hBe, hee, hri⟩ := HPc.out.resolve_right (fun h => h.1 hf)
        have HBe := Lib.hid hBe
        have Hee := Lib.hid hee
        have HRi2 := Lib.hid hri
        subst hf
        clear hBe hee hri HPc
        go_upto_region 10 with fail
        generalize hW7 : World.setCell _ _ _ = W7
        have K7 := HK6.out.putTo 5 (w.heap.size + 1 + 1) [(0, .slice A3 (pack B).length c3), (1, .int .i64 (B.length : Nat))] #[.slice A3 (pack B).length c3, .int .i64 (B.length : Nat)] hW7 (by simp only [apBut, apAll, qB, qW, qO, qR, qZ, and_true]; omega)
        simp only [List.set] at K7
        have HK7 := Lib.hid K7
        clear hW7 C K7
        have C := HK7.out.says
        simp only [sayAll, cellsSay, qB, qW, qO, qR, qZ, Nat.reduceAdd, and_true, true_and] at C
        go_wp2_with fail
        generalize hW8 : World.setCell _ _ _ = W8
        have K8 := HK7.out.putTo 4 (w.heap.size + 1 + 1 + 1) [(0, .int .i64 n1), (1, .int .i64 t1), (2, .int .i64 d1), (3, .bool th), (4, .int .u64 tp), (5, .int .u8 tl), (6, .int .u8 tb)] #[.int .i64 n1, .int .i64 t1, .int .i64 d1, .bool th, .int .u64 tp, .int .u8 tl, .int .u8 tb] hW8 (by simp only [apBut, apAll, qB, qW, qO, qR, qZ, and_true]; omega)
        simp only [List.set] at K8
        have HK8 := Lib.hid K8
        clear hW8 C K8
        have hO := HK8.out.get 2 rfl
        have hO2 : (qO (w.heap.size + 4) W.heap.size (.slice A3 (pack B).length c3) (pack B)).P W8 := ⟨hO.1.mono (by omega), hO.2⟩
        have K9 := Lib.hid ((((((Qs.nil W8).cons (HK8.out.get 8 rfl)).cons (HK8.out.get 7 rfl)).cons (HK8.out.get 6 rfl)).cons (HK8.out.get 5 rfl)).cons (HK8.out.get 4 rfl) |>.cons hO2)
        clear hO hO2
        go_roundw
        case measure => simp [intOf]; omega
        case rel =>
          refine ⟨k + 1, W.heap.size, A3, c3, hlt, by go_num, HRi2, ?_⟩
          rw [← HBe.out, ← Hee.out]
          exact K9
      · obtain ⟨-, hR2⟩ := HPc.out.resolve_left (fun h => hf h.1)
        have HR2 := Lib.hid hR2
        have k2 : ((f : Int) == 0) = false := beq_eq_false_iff_ne.2 (by omega)
        have k3 : ((f : Int) != 0) = true := by simpa using hf
        clear hR2 HPc hf
        go_wp2_with fail
        generalize hW : World.setCell _ _ _ = W7
        have HK2 := Lib.hid (fin27 (.slice none 0 0) (.int .i64 0) (.int .i64 0) (.int .i64 0) (.int .i64 0) (.bool false) (.int .u64 0) (.int .u8 0) (.int .u8 0) ((((Qs.nil _).cons (HK6.out.get 8 rfl)).cons (HK6.out.get 6 rfl)).cons (HK6.out.get 7 rfl)) (by omega) (by omega) (by omega) hW)
        clear hW C
        have C := HK2.out.says
        simp only [sayAll, cellsSay, qB, qW, qO, qZ, List.set, Nat.reduceAdd, and_true] at C
        rw [HR2.out]
        refine bodyPost_ret (v := .tuple #[.agg #[.slice none 0 0, .int .i64 0], .agg #[.int .i64 0, .int .i64 0, .int .i64 0, .bool false, .int .u64 0, .int .u8 0, .int .u8 0], .int .i64 f]) (by simp [results, Tryd.results35, go_sem, C]) rfl ⟨?_, HK2.out.top 2⟩
        refine ⟨none, 0, 0, (show 0 = (pack []).length from rfl), rfl, ?_⟩
        show OwnB _ _ _ (pack [])
        rw [packN0]
        exact OwnB.nil _ _
    · obtain rfl : k = l.length := by omega
      have htk : l.take l.length = l := List.take_length
      have hR := (ofC_rise l ec0 ok0 (Int.le_refl _) (by show (0 : Int) + _ ≤ _; omega) HI.out).1 (by have := HRi.out; rwa [htk] at this)
      rw [← HR.out] at hR
      obtain ⟨en, el, ed, ⟨eh, ep, eL, eX⟩, hE⟩ : ∃ n la de V, lastC ec0 l = ⟨n, la, de, V⟩ := ⟨_, _, _, _, rfl⟩
      have hHK := HK.out
      rw [htk] at hM
      rw [htk, hE] at hHK
      simp only [EC.cells] at hHK
      have hR2 : R = (M, ⟨en, el, ed, ⟨eh, ep, eL, eX⟩⟩, 0) := by rw [hR, ← hM, hE]
      have HR2 := Lib.hid hR2
      replace HK := Lib.hid hHK
      clear hR hR2 hE hHK hrows hkl htk HRi HR hM
      have C := HK.out.says
      simp only [sayAll, cellsSay, qB, qW, qO, qR, qZ, Nat.reduceAdd, and_true, true_and] at C
      have B0 := HK.out.blk 2
      have B1 := HK.out.blk 1
      generalize wr = W5 at *
      have dq : W5.cell? ⟨w.heap.size + 1 + 1, 0, none⟩ = some (.slice A (pack M).length c1) ∧ W5.cell? ⟨w.heap.size + 1 + 1, 1, none⟩ = some (.int .i64 M.length) ∧ W5.cell? ⟨w.heap.size + 1 + 1 + 1, 0, none⟩ = some (.int .i64 en) ∧ W5.cell? ⟨w.heap.size + 1 + 1 + 1, 1, none⟩ = some (.int .i64 el) ∧ W5.cell? ⟨w.heap.size + 1 + 1 + 1, 2, none⟩ = some (.int .i64 ed) ∧ W5.cell? ⟨w.heap.size + 1 + 1 + 1, 3, none⟩ = some (.bool eh) ∧ W5.cell? ⟨w.heap.size + 1 + 1 + 1, 4, none⟩ = some (.int .u64 ep) ∧ W5.cell? ⟨w.heap.size + 1 + 1 + 1, 5, none⟩ = some (.int .u8 eL) ∧ W5.cell? ⟨w.heap.size + 1 + 1 + 1, 6, none⟩ = some (.int .u8 eX) :=
        ⟨B0.cell 0, B0.cell 1, B1.cell 0, B1.cell 1, B1.cell 2, B1.cell 3, B1.cell 4, B1.cell 5, B1.cell 6⟩
      have nf1 := fun (W : World) (i j : Nat) (u : Value) => World.cell?_setCell_far W ⟨w.heap.size, i, none⟩ ⟨w.heap.size + 1 + 1, j, none⟩ u (by simp <;> omega)
      have nf2 := fun (W : World) (i j : Nat) (u : Value) => World.cell?_setCell_far W ⟨w.heap.size, i, none⟩ ⟨w.heap.size + 1 + 1 + 1, j, none⟩ u (by simp <;> omega)
      have nf3 := fun (W : World) (i j : Nat) (u : Value) => World.cell?_setCell_far W ⟨w.heap.size + 1, i, none⟩ ⟨w.heap.size + 1 + 1, j, none⟩ u (by simp <;> omega)
      have nf4 := fun (W : World) (i j : Nat) (u : Value) => World.cell?_setCell_far W ⟨w.heap.size + 1, i, none⟩ ⟨w.heap.size + 1 + 1 + 1, j, none⟩ u (by simp <;> omega)
      have ndr : ∀ (W : World) (a : Addr), W.drew.cell? a = W.cell? a := fun _ _ => rfl
      clear B0 B1
      go_wp2_with fail
      go_region_held3 (fun w' => w'.cell? ⟨w.heap.size + 1 + 1, 0, none⟩ = some (.slice A (pack M).length c1) ∧ w'.cell? ⟨w.heap.size + 1 + 1, 1, none⟩ = some (.int .i64 M.length) ∧ w'.cell? ⟨w.heap.size + 1 + 1 + 1, 0, none⟩ = some (.int .i64 en) ∧ w'.cell? ⟨w.heap.size + 1 + 1 + 1, 1, none⟩ = some (.int .i64 el) ∧ w'.cell? ⟨w.heap.size + 1 + 1 + 1, 2, none⟩ = some (.int .i64 ed) ∧ w'.cell? ⟨w.heap.size + 1 + 1 + 1, 3, none⟩ = some (.bool eh) ∧ w'.cell? ⟨w.heap.size + 1 + 1 + 1, 4, none⟩ = some (.int .u64 ep) ∧ w'.cell? ⟨w.heap.size + 1 + 1 + 1, 5, none⟩ = some (.int .u8 eL) ∧ w'.cell? ⟨w.heap.size + 1 + 1 + 1, 6, none⟩ = some (.int .u8 eX)) (first | (simp only [ndr]; with_reducible exact dq) | (simp only [ndr, nf1, nf2, nf3, nf4]; with_reducible exact dq)) (fail)
      go_wp2_with fail
      generalize hW : World.setCell _ _ _ = W6
      have HK2 := Lib.hid (fin27t (.slice A (pack M).length c1) (.int .i64 M.length) (.int .i64 en) (.int .i64 el) (.int .i64 ed) (.bool eh) (.int .u64 ep) (.int .u8 eL) (.int .u8 eX) (((((Qs.nil W5).cons (HK.out.get 0 rfl)).cons (HK.out.get 5 rfl)).cons (HK.out.get 3 rfl)).cons (HK.out.get 4 rfl)) (by simp only [apAll, qO, qW, and_true]; omega) (by simp only [apAll, qO, qW, and_true]; omega) (by omega) hW)
      clear hW C dq nf1 nf2 nf3 nf4
      have C := HK2.out.says
      simp only [sayAll, cellsSay, qB, qW, qO, qZ, List.set, Nat.reduceAdd, and_true] at C
      rw [HR2.out]
      refine bodyPost_ret (v := .tuple #[.agg #[.slice A (pack M).length c1, .int .i64 M.length], .agg #[.int .i64 en, .int .i64 el, .int .i64 ed, .bool eh, .int .u64 ep, .int .u8 eL, .int .u8 eX], .int .i64 0]) (by simp [results, Tryd.results35, go_sem, C]) rfl ⟨?_, (HK2.out.top 2).drew⟩
      exact ⟨A, _, c1, rfl, rfl, ((HK2.out.own 3).mono (by omega)).drew⟩

end Go.Proofs.YtgnppnjhecfjeaaDoor

/- Layer 6: known; ChunkPuts, ChunkGets, ChunkLays. -/
namespace Go.Proofs.YtgnppnjhecfjeaaDoor
open Go.RowKit
set_option maxRecDepth 100000

def l2k : List (Int × Nat) := [(10, 1), (20, 1)]
theorem l2k_in : InC l2k := by
  intro s hs
  simp only [l2k, List.mem_cons, List.not_mem_nil, or_false] at hs
  unfold in64
  rcases hs with rfl | rfl <;> decide
theorem l2k_of : ofC ec0 l2k = (codesC ec0 l2k, ⟨2, 20, 10, ⟨true, 1, 0, 0⟩⟩, 0) := by
  rw [(ofC_rise l2k ec0 ok0 (Int.le_refl _) (by decide) l2k_in).1 ⟨fun h => absurd rfl h, fun _ => by decide, trivial⟩]
  have : lastC ec0 l2k = ⟨2, 20, 10, ⟨true, 1, 0, 0⟩⟩ := by kernel_rfl
  rw [this]
theorem l2k_len : (codesC ec0 l2k).length = 138 := by kernel_rfl
theorem k2_put (M : List Bool) (hM : M.length = 138) : ∃ N, putC (pack M) 138 ⟨2, 20, 10, ⟨true, 1, 0, 0⟩⟩ 30 1 = (N, (encC ⟨2, 20, 10, ⟨true, 1, 0, 0⟩⟩ 30 1).2, 0) ∧ N.length = 140 := by
  refine ⟨M ++ (encC ⟨2, 20, 10, ⟨true, 1, 0, 0⟩⟩ 30 1).1, ?_, ?_⟩
  · have h1 := sound_pack M
    rw [hM] at h1
    unfold putC
    rw [if_neg (by rw [show ((138 : Int)) = ((138 : Nat) : Int) from rfl, h1]; decide), if_neg (by decide)]
    have h2 := bits_pack M
    rw [hM] at h2
    rw [show ((138 : Int)).toNat = 138 from rfl, h2]
  · rw [List.length_append, hM, show (encC ⟨2, 20, 10, ⟨true, 1, 0, 0⟩⟩ 30 1).1.length = 2 by kernel_rfl]
theorem k2_bad (M : List Bool) (hM : M.length = 138) : putC (pack M) 138 ⟨2, 20, 10, ⟨true, 1, 0, 0⟩⟩ 20 1 = ([], ec0, 60) := by
  have h1 := sound_pack M
  rw [hM] at h1
  unfold putC
  rw [if_neg (by rw [show ((138 : Int)) = ((138 : Nat) : Int) from rfl, h1]; decide), if_pos (by decide)]
  rfl

set_option maxHeartbeats 2000000 in
theorem cknown_any (w : World) (hT : Tab w) : Calls Tryd.prog 22 #[] w fun e w' => e = .returned (.bool true) ∧ Below w.heap.size w w' := by
  have HT := Lib.hid hT
  clear hT
  obtain ⟨L, hL⟩ : ∃ L, L = l2k := ⟨_, rfl⟩
  have hLl : L.length = 2 := by rw [hL]; rfl
  have K0 := (Qs.zero w).box #[.int .i64 10, .int .u64 1, .int .i64 20, .int .u64 1] 53
  have hS : Ss (w.alloc (.cells #[.int .i64 10, .int .u64 1, .int .i64 20, .int .u64 1] 53)) (some ⟨w.heap.size, 0, none⟩) L := by
    rw [hL]
    intro i s hi
    match i, hi with
    | 0, hi => simp [l2k] at hi; subst hi; exact ⟨_, 0, rfl, (K0.blk 0).cell 0, (K0.blk 0).cell 1⟩
    | 1, hi => simp [l2k] at hi; subst hi; exact ⟨_, 0, rfl, (K0.blk 0).cell 2, (K0.blk 0).cell 3⟩
    | i + 2, hi => simp [l2k] at hi
  have hO := cof_any (some ⟨w.heap.size, 0, none⟩) 2 L _ hS (by rw [hLl]; decide) (by rw [hL]; exact l2k_in) (tabGo HT.out (K0.top 1))
  rw [hLl, hL, l2k_of] at hO
  have hlen := l2k_len
  obtain ⟨M1, hM1⟩ : ∃ M, M = codesC ec0 l2k := ⟨_, rfl⟩
  rw [← hM1] at hO hlen
  have HO := Lib.hid hO
  have HK0 := Lib.hid K0
  have Hlen := Lib.hid hlen
  clear hL hLl hS hO hM1 K0 hlen
  go_enter Tryd.func22, Tryd.ntmps22
  go_wp2_with fail
  refine HO.out.mono ?_
  clear HO
  rintro e w1 ⟨⟨A1, n1, c1, rfl, rfl, o1⟩, b1⟩
  dsimp only at o1 ⊢
  have hz1 : ((M1.length : Nat) : Int) = 138 := by rw [Hlen.out]; rfl
  have K1 := (((HK0.out.go b1).own_ o1).box #[.slice A1 (pack M1).length c1, .int .i64 138] 24).box #[.int .i64 2, .int .i64 20, .int .i64 10, .bool true, .int .u64 1, .int .u8 0, .int .u8 0] 48
  simp only [World.size_alloc] at K1
  rw [hz1]
  clear hz1 o1 b1 HK0
  have HK1 := Lib.hid K1
  clear K1
  have C := HK1.out.says
  simp only [sayAll, cellsSay, qB, qW, qO, qR, qZ, Nat.reduceAdd, and_true, true_and] at C
  obtain ⟨N, hN, hNl⟩ := k2_put M1 Hlen.out
  have hpl : (pack M1).length ≤ 100000 := by rw [pack_length, Hlen.out]; decide
  have hP := fun (W : World) (hW : Below ((w1.alloc (.cells #[.slice A1 (pack M1).length c1, .int .i64 138] 24)).alloc (.cells #[.int .i64 2, .int .i64 20, .int .i64 10, .bool true, .int .u64 1, .int .u8 0, .int .u8 0] 48)).heap.size ((w1.alloc (.cells #[.slice A1 (pack M1).length c1, .int .i64 138] 24)).alloc (.cells #[.int .i64 2, .int .i64 20, .int .i64 10, .bool true, .int .u64 1, .int .u8 0, .int .u8 0] 48)) W) =>
    cput_any A1 c1 (pack M1) 138 2 20 10 30 true 1 0 0 1 W ((HK1.out.own 2).below hW).bs (by omega) hpl (by unfold in64; omega) (by unfold in64; omega) (by unfold in64; omega) (by unfold in64; omega) (by decide) (by decide) (by decide) (by decide) (tabGo HT.out (on1 (HK1.out.top 4) hW))
  have hQ := fun (W : World) (hW : Below ((w1.alloc (.cells #[.slice A1 (pack M1).length c1, .int .i64 138] 24)).alloc (.cells #[.int .i64 2, .int .i64 20, .int .i64 10, .bool true, .int .u64 1, .int .u8 0, .int .u8 0] 48)).heap.size ((w1.alloc (.cells #[.slice A1 (pack M1).length c1, .int .i64 138] 24)).alloc (.cells #[.int .i64 2, .int .i64 20, .int .i64 10, .bool true, .int .u64 1, .int .u8 0, .int .u8 0] 48)) W) =>
    cput_any A1 c1 (pack M1) 138 2 20 10 20 true 1 0 0 1 W ((HK1.out.own 2).below hW).bs (by omega) hpl (by unfold in64; omega) (by unfold in64; omega) (by unfold in64; omega) (by unfold in64; omega) (by decide) (by decide) (by decide) (by decide) (tabGo HT.out (on1 (HK1.out.top 4) hW))
  rw [hN] at hP
  rw [k2_bad M1 Hlen.out] at hQ
  obtain ⟨n2, t2, d2, ⟨h2, p2, e2, x2⟩, hE2⟩ : ∃ n t d V, (encC ⟨2, 20, 10, ⟨true, 1, 0, 0⟩⟩ 30 1).2 = ⟨n, t, d, V⟩ := ⟨_, _, _, _, rfl⟩
  rw [hE2] at hP
  have HP := Lib.hid hP
  have HQ := Lib.hid hQ
  have HNl := Lib.hid hNl
  clear hN hNl hpl hP hQ hE2
  go_wp2_with fail
  refine (HP.out _ (Below.refl _ _)).mono ?_
  clear HP
  rintro e w2 ⟨⟨A2, m2, c2, rfl, rfl, o2⟩, b2⟩
  dsimp only at o2 ⊢
  have K2 := ((HK1.out.go b2).box #[.slice A2 (pack N).length c2, .int .i64 140] 24).box #[.int .i64 n2, .int .i64 t2, .int .i64 d2, .bool h2, .int .u64 p2, .int .u8 e2, .int .u8 x2] 48
  simp only [World.size_alloc] at K2
  have hz2 : ((N.length : Nat) : Int) = 140 := by rw [HNl.out]; rfl
  rw [hz2]
  have hb2 := Lib.hid (b2.trans ((below_alloc2 w2 (.cells #[.slice A2 (pack N).length c2, .int .i64 140] 24) (.cells #[.int .i64 n2, .int .i64 t2, .int .i64 d2, .bool h2, .int .u64 p2, .int .u8 e2, .int .u8 x2] 48)).mono b2.size))
  have HK2 := Lib.hid K2
  clear K2 hz2 o2 C b2
  have C := HK2.out.says
  simp only [sayAll, cellsSay, qB, qW, qO, qR, qZ, Nat.reduceAdd, and_true, true_and] at C
  go_wp2_with fail
  refine (HQ.out _ hb2.out).mono ?_
  clear HQ
  rintro e w3 ⟨⟨A3, m3, c3, rfl, rfl, o3⟩, b3⟩
  dsimp only [ec0, xv0] at o3 ⊢
  have K3 := ((HK2.out.go b3).box #[.slice A3 (pack []).length c3, .int .i64 0] 24).box #[.int .i64 0, .int .i64 0, .int .i64 0, .bool false, .int .u64 0, .int .u8 0, .int .u8 0] 48
  simp only [World.size_alloc] at K3
  have HK3 := Lib.hid K3
  clear K3 o3 C b3
  have C := HK3.out.says
  simp only [sayAll, cellsSay, qB, qW, qO, qR, qZ, Nat.reduceAdd, and_true, true_and] at C
  go_wp2_with fail
  go_ret
  exact ⟨rfl, HK3.out.top 8⟩

end Go.Proofs.YtgnppnjhecfjeaaDoor

/- Layer 6: the walks of ChunkPuts, ChunkGets, ChunkLays. -/
namespace Go.Proofs.YtgnppnjhecfjeaaDoor
open Go.RowKit
set_option maxRecDepth 100000

theorem putC_code (l : List UInt8) (nb : Int) (e : EC) (t : Int) (v : Nat) : (putC l nb e t v).2.2 ≤ 61 := by
  unfold putC
  split
  · simp
  · split
    · exact mayC_le e t
    · simp
theorem getC_code (l : List UInt8) (nb : Int) (e : EC) (a : Int) : (getC l nb e a).c ≤ 61 := by
  unfold getC
  split
  · simp [rc0]
  · split
    · simp [rc0]
    · unfold gotC
      split
      · simp [rc0]
      · split <;> simp [rc0]
theorem ofC_code (l : List (Int × Nat)) (hl : l.length ≤ 1000) (hi : InC l) : (ofC ec0 l).2.2 ≤ 61 := by
  have h := ofC_rise l ec0 ok0 (Int.le_refl _) (by show (0 : Int) + _ ≤ _; omega) hi
  by_cases hr : RiseC ec0 l
  · rw [h.1 hr]; simp
  · rw [h.2 hr]; simp

set_option maxHeartbeats 2000000 in
theorem chunkPuts_walk (A : Option Addr) (c : Nat) (l : List UInt8) (nb n la de t : Int) (h : Bool) (p L X v : Nat) (w : World) (hb : Bs w A l) (hnb : in64 nb) (hl : l.length ≤ maxLen)
    (hn : in64 n) (hla : in64 la) (hde : in64 de) (ht : in64 t) (hp : p < 18446744073709551616) (hL : L < 256) (hX : X < 256) (hv : v < 18446744073709551616) (hT : Tab w) :
    Calls Tryd.prog 7 #[.agg #[.slice A l.length c, .int .i64 nb], .agg #[.int .i64 n, .int .i64 la, .int .i64 de, .bool h, .int .u64 p, .int .u8 L, .int .u8 X], .agg #[.int .i64 t, .int .u64 v]] w fun e w' => e = .returned (.bool true) ∧ Below w.heap.size w w' := by
  have HT := Lib.hid hT
  have HB := Lib.hid hb
  clear hT hb
  unfold maxLen at hl
  have K := (((Qs.zero w).box #[.slice A l.length c, .int .i64 nb] 24).box #[.int .i64 n, .int .i64 la, .int .i64 de, .bool h, .int .u64 p, .int .u8 L, .int .u8 X] 48).box #[.int .i64 t, .int .u64 v] 53
  simp only [World.size_alloc] at K
  by_cases hlen : 600 < l.length
  · have hI : (600 : Int) < l.length := by omega
    have HK := Lib.hid K
    clear K
    go_enter Tryd.func7, Tryd.ntmps7
    go_wp2_with fail
    refine (cknown_any _ (tabGo HT.out (HK.out.top 3))).mono ?_
    rintro e w1 ⟨rfl, b1⟩
    go_wp2_with fail
    go_ret
    exact ⟨rfl, on1 (HK.out.top 3) b1⟩
  · have hI : ¬ (600 : Int) < l.length := by omega
    go_enter Tryd.func7, Tryd.ntmps7
    have HK := Lib.hid K
    clear K
    go_wp2_with fail
    refine (cknown_any _ (tabGo HT.out (HK.out.top 3))).mono ?_
    rintro e w1 ⟨rfl, b1⟩
    replace HK := Lib.hid (HK.out.go b1)
    clear b1
    have C := HK.out.says
    simp only [sayAll, cellsSay, qB, qW, qO, qR, qZ, Nat.reduceAdd, and_true, true_and] at C
    obtain ⟨B, ⟨n1, t1, d1, ⟨th, tp, tl, tb⟩⟩, ec, hPe⟩ : ∃ B e1 ec, putC l nb ⟨n, la, de, ⟨h, p, L, X⟩⟩ t v = (B, e1, ec) := ⟨_, _, _, rfl⟩
    have hec := putC_code l nb ⟨n, la, de, ⟨h, p, L, X⟩⟩ t v
    rw [hPe] at hec
    replace hec : ec ≤ 61 := hec
    have hwr : IntKind.i64.wrap (ec : Int) = (ec : Int) := by rw [IntKind.wrap_i64]; omega
    have hP := cput_any A c l nb n la de t h p L X v w1 (HB.out.below (HK.out.top 3)) (by unfold in64 at hnb; omega) (by omega) hn hla hde ht hp hL hX hv (tabGo HT.out (HK.out.top 3))
    have hQ := fun (W : World) (hW : Below w.heap.size w W) => rcput_any A c l nb n la de t h p L X v W (HB.out.below hW) (by unfold in64 at hnb; omega) (by omega) hn hla hde ht hp hL hX hv
    simp only [hPe] at hP hQ
    have HP := Lib.hid hP
    have HQ := Lib.hid hQ
    clear hPe hP hQ hec
    go_wp2_with fail
    refine HP.out.mono ?_
    clear HP C
    rintro e w2 ⟨⟨A2, n2, c2, rfl, rfl, o2⟩, b2⟩
    dsimp only at o2 ⊢
    have K2 := (((HK.out.go b2).own_ o2).box #[.slice A2 (pack B).length c2, .int .i64 B.length] 24).box #[.int .i64 n1, .int .i64 t1, .int .i64 d1, .bool th, .int .u64 tp, .int .u8 tl, .int .u8 tb] 48
    simp only [World.size_alloc] at K2
    replace HK := Lib.hid K2
    clear K2 o2 b2
    have C := HK.out.says
    simp only [sayAll, cellsSay, qB, qW, qO, qR, qZ, Nat.reduceAdd, and_true, true_and] at C
    go_wp2_with fail
    refine (HQ.out _ (HK.out.top 6)).mono ?_
    clear HQ C
    rintro e w3 ⟨⟨A3, n3, c3, rfl, rfl, o3⟩, b3⟩
    dsimp only at o3 ⊢
    have K3 := (((HK.out.go b3).own_ o3).box #[.slice A3 (pack B).length c3, .int .i64 B.length] 24).box #[.int .i64 n1, .int .i64 t1, .int .i64 d1, .bool th, .int .u64 tp, .int .u8 tl, .int .u8 tb] 48
    simp only [World.size_alloc] at K3
    replace HK := Lib.hid K3
    clear K3 o3 b3
    have C := HK.out.says
    simp only [sayAll, cellsSay, qB, qW, qO, qR, qZ, Nat.reduceAdd, and_true, true_and] at C
    go_wp2_with fail
    refine (refSame_any A2 A3 c2 c3 (pack B) (pack B) _ _ _ (HK.out.own 5).bs (HK.out.own 2).bs).mono ?_
    rintro e w4 ⟨rfl, b4⟩
    go_wp2_with fail
    go_ret
    exact ⟨by simp, on1 (HK.out.top 9) b4⟩

set_option maxHeartbeats 2000000 in
theorem chunkGets_walk (A : Option Addr) (c : Nat) (l : List UInt8) (nb at_ n la de : Int) (h : Bool) (p L X : Nat) (w : World) (hb : Bs w A l) (hnb : in64 nb) (hl : l.length ≤ maxLen) (ha : in64 at_)
    (hn : in64 n) (hla : in64 la) (hde : in64 de) (hp : p < 18446744073709551616) (hL : L < 256) (hX : X < 256) (hT : Tab w) :
    Calls Tryd.prog 8 #[.agg #[.slice A l.length c, .int .i64 nb], .int .i64 at_, .agg #[.int .i64 n, .int .i64 la, .int .i64 de, .bool h, .int .u64 p, .int .u8 L, .int .u8 X]] w fun e w' => e = .returned (.bool true) ∧ Below w.heap.size w w' := by
  have HT := Lib.hid hT
  have HB := Lib.hid hb
  clear hT hb
  unfold maxLen at hl
  have K := ((Qs.zero w).box #[.slice A l.length c, .int .i64 nb] 24).box #[.int .i64 n, .int .i64 la, .int .i64 de, .bool h, .int .u64 p, .int .u8 L, .int .u8 X] 48
  simp only [World.size_alloc] at K
  by_cases hlen : 600 < l.length
  · have hI : (600 : Int) < l.length := by omega
    have HK := Lib.hid K
    clear K
    go_enter Tryd.func8, Tryd.ntmps8
    go_wp2_with fail
    refine (cknown_any _ (tabGo HT.out (HK.out.top 2))).mono ?_
    rintro e w1 ⟨rfl, b1⟩
    go_wp2_with fail
    go_ret
    exact ⟨rfl, on1 (HK.out.top 2) b1⟩
  · have hI : ¬ (600 : Int) < l.length := by omega
    go_enter Tryd.func8, Tryd.ntmps8
    have HK := Lib.hid K
    clear K
    go_wp2_with fail
    refine (cknown_any _ (tabGo HT.out (HK.out.top 2))).mono ?_
    rintro e w1 ⟨rfl, b1⟩
    replace HK := Lib.hid (HK.out.go b1)
    clear b1
    have C := HK.out.says
    simp only [sayAll, cellsSay, qB, qW, qO, qR, qZ, Nat.reduceAdd, and_true, true_and] at C
    obtain ⟨⟨rt, rv, rn, ⟨n1, t1, d1, ⟨th, tp, tl, tb⟩⟩, ec⟩, hPe⟩ : ∃ R, getC l nb ⟨n, la, de, ⟨h, p, L, X⟩⟩ at_ = R := ⟨_, rfl⟩
    have hec := getC_code l nb ⟨n, la, de, ⟨h, p, L, X⟩⟩ at_
    rw [hPe] at hec
    replace hec : ec ≤ 61 := hec
    have hwr : IntKind.i64.wrap (ec : Int) = (ec : Int) := by rw [IntKind.wrap_i64]; omega
    have hP := cget_any A c l nb at_ n la de h p L X w1 (HB.out.below (HK.out.top 2)) hnb (by omega) ha hn hla hde hp hL hX (tabGo HT.out (HK.out.top 2))
    have hQ := fun (W : World) (hW : Below w.heap.size w W) => rcget_any A c l nb at_ n la de h p L X W (HB.out.below hW) hnb (by omega) ha hn hla hde hp hL hX
    simp only [hPe, RC.tup] at hP hQ
    have HP := Lib.hid hP
    have HQ := Lib.hid hQ
    clear hPe hP hQ hec
    go_wp2_with fail
    refine HP.out.mono ?_
    clear HP C
    rintro e w2 ⟨rfl, b2⟩
    have K2 := ((HK.out.go b2).box #[.int .i64 rt, .int .u64 rv] 53).box #[.int .i64 n1, .int .i64 t1, .int .i64 d1, .bool th, .int .u64 tp, .int .u8 tl, .int .u8 tb] 48
    simp only [World.size_alloc] at K2
    replace HK := Lib.hid K2
    clear K2 b2
    have C := HK.out.says
    simp only [sayAll, cellsSay, qB, qW, qO, qR, qZ, Nat.reduceAdd, and_true, true_and] at C
    go_wp2_with fail
    refine (HQ.out _ (HK.out.top 4)).mono ?_
    clear HQ C
    rintro e w3 ⟨rfl, b3⟩
    have K3 := ((HK.out.go b3).box #[.int .i64 rt, .int .u64 rv] 53).box #[.int .i64 n1, .int .i64 t1, .int .i64 d1, .bool th, .int .u64 tp, .int .u8 tl, .int .u8 tb] 48
    simp only [World.size_alloc] at K3
    replace HK := Lib.hid K3
    clear K3 b3
    have C := HK.out.says
    simp only [sayAll, cellsSay, qB, qW, qO, qR, qZ, Nat.reduceAdd, and_true, true_and] at C
    go_wp2_with fail
    go_ret
    exact ⟨by simp, HK.out.top 6⟩

set_option maxHeartbeats 2000000 in
theorem chunkLays_walk (V : Option Addr) (c : Nat) (l : List (Int × Nat)) (w : World) (hV : Ss w V l) (hl : l.length ≤ maxLen) (hi : InC l) (hT : Tab w) :
    Calls Tryd.prog 10 #[.slice V l.length c] w fun e w' => e = .returned (.bool true) ∧ Below w.heap.size w w' := by
  have HT := Lib.hid hT
  have HV := Lib.hid hV
  have HI := Lib.hid hi
  clear hT hV hi
  unfold maxLen at hl
  by_cases hlen : 40 < l.length
  · have hI : (40 : Int) < l.length := by omega
    go_enter Tryd.func10, Tryd.ntmps10
    go_wp2_with fail
    refine (cknown_any _ HT.out).mono ?_
    rintro e w1 ⟨rfl, b1⟩
    go_wp2_with fail
    go_ret
    exact ⟨rfl, b1⟩
  · have hI : ¬ (40 : Int) < l.length := by omega
    have HK := Lib.hid (Qs.zero w)
    go_enter Tryd.func10, Tryd.ntmps10
    go_wp2_with fail
    refine (cknown_any _ HT.out).mono ?_
    rintro e w1 ⟨rfl, b1⟩
    replace HK := Lib.hid (HK.out.go b1)
    clear b1
    obtain ⟨B, ⟨n1, t1, d1, ⟨th, tp, tl, tb⟩⟩, ec, hPe⟩ : ∃ B e1 ec, ofC ec0 l = (B, e1, ec) := ⟨_, _, _, rfl⟩
    have hec := ofC_code l (by omega) HI.out
    rw [hPe] at hec
    replace hec : ec ≤ 61 := hec
    have hwr : IntKind.i64.wrap (ec : Int) = (ec : Int) := by rw [IntKind.wrap_i64]; omega
    have hP := cof_any V c l w1 (HV.out.below (HK.out.top 0)) (by omega) HI.out (tabGo HT.out (HK.out.top 0))
    have hQ := fun (W : World) (hW : Below w.heap.size w W) => rcof_any V c l W (HV.out.below hW) (by omega) HI.out
    simp only [hPe] at hP hQ
    have HP := Lib.hid hP
    have HQ := Lib.hid hQ
    clear hPe hP hQ hec
    go_wp2_with fail
    refine HP.out.mono ?_
    clear HP
    rintro e w2 ⟨⟨A2, n2, c2, rfl, rfl, o2⟩, b2⟩
    dsimp only at o2 ⊢
    have K2 := (((HK.out.go b2).own_ o2).box #[.slice A2 (pack B).length c2, .int .i64 B.length] 24).box #[.int .i64 n1, .int .i64 t1, .int .i64 d1, .bool th, .int .u64 tp, .int .u8 tl, .int .u8 tb] 48
    simp only [World.size_alloc] at K2
    replace HK := Lib.hid K2
    clear K2 o2 b2
    have C := HK.out.says
    simp only [sayAll, cellsSay, qB, qW, qO, qR, qZ, Nat.reduceAdd, and_true, true_and] at C
    go_wp2_with fail
    refine (HQ.out _ (HK.out.top 3)).mono ?_
    clear HQ C
    rintro e w3 ⟨⟨A3, n3, c3, rfl, rfl, o3⟩, b3⟩
    dsimp only at o3 ⊢
    have K3 := (((HK.out.go b3).own_ o3).box #[.slice A3 (pack B).length c3, .int .i64 B.length] 24).box #[.int .i64 n1, .int .i64 t1, .int .i64 d1, .bool th, .int .u64 tp, .int .u8 tl, .int .u8 tb] 48
    simp only [World.size_alloc] at K3
    replace HK := Lib.hid K3
    clear K3 o3 b3
    have C := HK.out.says
    simp only [sayAll, cellsSay, qB, qW, qO, qR, qZ, Nat.reduceAdd, and_true, true_and] at C
    go_wp2_with fail
    refine (refSame_any A2 A3 c2 c3 (pack B) (pack B) _ _ _ (HK.out.own 5).bs (HK.out.own 2).bs).mono ?_
    rintro e w4 ⟨rfl, b4⟩
    replace HK := Lib.hid (HK.out.go b4)
    clear C b4
    have C := HK.out.says
    simp only [sayAll, cellsSay, qB, qW, qO, qR, qZ, Nat.reduceAdd, and_true, true_and] at C
    go_wp2_with fail
    go_ret
    exact ⟨by simp, HK.out.top 6⟩

end Go.Proofs.YtgnppnjhecfjeaaDoor

/- Plain mathematics: layer 6, those of a list whose times rise. -/
namespace Go.Proofs.YtgnppnjhecfjeaaDoor

def rsS (out : List (Int × Nat)) (s : Int × Nat) : List (Int × Nat) := if h : out = [] then [s] else if (out.getLast h).1 < s.1 then out ++ [s] else out
def rsL (l : List (Int × Nat)) : List (Int × Nat) := l.foldl rsS []
theorem rsL_snoc (l : List (Int × Nat)) (k : Nat) (h : k < l.length) : rsL (l.take (k + 1)) = rsS (rsL (l.take k)) l[k] := by
  unfold rsL
  rw [List.take_succ_eq_append_getElem h, List.foldl_append]
  rfl
theorem rsL_len (l : List (Int × Nat)) (k : Nat) (h : k ≤ l.length) : (rsL (l.take k)).length ≤ k := by
  induction k with
  | zero => simp [rsL]
  | succ k ih =>
    rw [rsL_snoc l k (by omega)]
    have := ih (by omega)
    unfold rsS
    split
    · simp
    · split
      · simp; omega
      · omega
theorem rsL_length (l : List (Int × Nat)) : (rsL l).length ≤ l.length := by
  have := rsL_len l l.length (Nat.le_refl _)
  rwa [List.take_length] at this
theorem rsL_ok (l : List (Int × Nat)) (hi : InC l) : RiseC ec0 (rsL l) ∧ InC (rsL l) := by
  have key : ∀ k, k ≤ l.length → RiseC ec0 (rsL (l.take k)) ∧ InC (rsL (l.take k)) := by
    intro k
    induction k with
    | zero => intro _; exact ⟨trivial, fun s hs => by simp [rsL] at hs⟩
    | succ k ih =>
      intro hk
      obtain ⟨h1, h2⟩ := ih (by omega)
      rw [rsL_snoc l k (by omega)]
      have hs := hi l[k] (List.getElem_mem _)
      unfold rsS
      split
      · exact ⟨⟨fun h => absurd rfl h, trivial⟩, fun s h => by simp at h; subst h; exact hs⟩
      · rename_i hne
        split
        · rename_i hlt
          refine ⟨RiseC.snoc h1 fun _ => ?_, fun s h => ?_⟩
          · have e : rsL (l.take k) = (rsL (l.take k)).dropLast ++ [(rsL (l.take k)).getLast hne] := (List.dropLast_concat_getLast hne).symm
            rw [e, lastC_last]
            exact hlt
          · rcases List.mem_append.1 h with h | h
            · exact h2 s h
            · simp at h; subst h; exact hs
        · exact ⟨h1, h2⟩
  have := key l.length (Nat.le_refl _)
  rwa [List.take_length] at this

end Go.Proofs.YtgnppnjhecfjeaaDoor

/- Layer 6: the statements' helpers: rising, Same. -/
namespace Go.Proofs.YtgnppnjhecfjeaaDoor
open Go.RowKit
set_option maxRecDepth 100000

theorem OwnS.form {w : World} {base : Nat} {v : Value} {l : List (Int × Nat)} (h : OwnS w base v l) (hl : l ≠ []) :
    ∃ g cap, v = .slice (some ⟨g, 0, none⟩) l.length cap ∧ base ≤ g ∧ Ss w (some ⟨g, 0, none⟩) l := by
  obtain ⟨A, c, rfl, _, hs⟩ := OwnS.ss h
  rcases h.2 with ⟨_, h0⟩ | ⟨g, cap, cur, hv, hb, _⟩
  · exact absurd (List.eq_nil_of_length_eq_zero h0) hl
  · injection hv with e1 e2 e3
    subst e1
    exact ⟨g, c, rfl, hb, hs⟩

set_option maxHeartbeats 1000000 in
theorem crising_any (V : Option Addr) (c : Nat) (l : List (Int × Nat)) (w : World) (hV : Ss w V l) (hs : InC l) (hl : l.length ≤ 4096) :
    Calls Tryd.prog 23 #[.slice V l.length c] w fun e w' => ∃ A c', e = .returned (.slice A (rsL l).length c') ∧ Ss w' A (rsL l) ∧ (rsL l).length ≤ c' ∧ Below w.heap.size w w' := by
  have HS := Lib.hid hs
  clear hs
  go_enter Tryd.func23, Tryd.ntmps23
  go_wp2_with fail
  go_loopw [3, 4] (fun out i wr => ∃ (k : Nat) (L : List (Int × Nat)) (A : Option Addr) (m : Nat), k ≤ l.length ∧ i = .int .i64 k ∧ out = .slice A L.length m ∧ Hid (rsL (l.take k) = L) ∧ OwnS wr w.heap.size (.slice A L.length m) L ∧ Below w.heap.size w wr)
    (fun _ i _ => l.length - (intOf i).toNat)
  case atStart => exact ⟨0, [], none, 0, Nat.zero_le _, rfl, rfl, Lib.hid rfl, OwnR.nil _ _ _ _ _, Below.refl _ _⟩
  case round =>
    obtain ⟨k, L, A, m, hk, rfl, rfl, HL, HO, hbel⟩ := hrel
    by_cases hlt : k < l.length
    · obtain ⟨p, o, rfl, h1, h2⟩ := hV k l[k] (List.getElem?_eq_getElem hlt)
      have g1 : wr.cell? ⟨p, o + k * 2, none⟩ = some (.int .i64 l[k].1) := (hbel.cell (cell_lt h1)).trans h1
      have g2 : wr.cell? ⟨p, o + k * 2 + 1, none⟩ = some (.int .u64 l[k].2) := (hbel.cell (cell_lt h2)).trans h2
      have hsk := HS.out l[k] (List.getElem_mem hlt)
      have hstep := rsL_snoc l k hlt
      have hlen := rsL_len l k hk
      rw [HL.out] at hstep hlen
      obtain ⟨s, hs⟩ : ∃ s, s = l[k] := ⟨_, rfl⟩
      rw [← hs] at g1 g2 hsk hstep
      obtain ⟨t, v⟩ := s
      dsimp only at g1 g2 hsk
      clear h1 h2 hs
      have hsz := hbel.size
      by_cases hnil : L = []
      · subst hnil
        have Hst : Hid (rsL (l.take (k + 1)) = [(t, v)]) := Lib.hid (by rw [hstep]; rfl)
        clear hstep
        have kA := keepA
        have HO0 : OwnS wr w.heap.size (.slice A 0 m) [] := HO
        simp only [List.length_nil] at hlen ⊢
        go_wp2_with fail
        go_quiet (fail)
        go_wp2_with (at_builtin; go_must (refine appR1 Tryd.eltS _ rfl (.tmp 29) (.tmp 34) rfl w.heap.size _ [] rfl (OwnR.alloc (w := World.drewN wr nq) HO0 _) wr.heap.size 1 (t, v) 53 _ rfl (Blk.new (World.drewN wr nq) _ _) rfl (by simp [maxLen]) (by simp) (by simp; omega) ?_); intro g2 c2 w2 hown2 hb2 hg2)
        go_roundw
        case measure => simp [intOf]; omega
        case rel => exact ⟨k + 1, [(t, v)], some ⟨g2, 0, none⟩, c2, by omega, by go_num, rfl, Hst, hown2, ((below_drewN hbel nq).alloc (by simpa using hsz) _).trans hb2⟩
      · obtain ⟨g, m', hv, hgb, hSs⟩ := HO.form hnil
        injection hv with e1 e2 e3
        subst e1; subst e3
        obtain ⟨n, hn⟩ : ∃ n, L.length = n + 1 := ⟨L.length - 1, by have := List.length_pos_iff.2 hnil; omega⟩
        obtain ⟨y, hy⟩ : ∃ y, y = L.getLast hnil := ⟨_, rfl⟩
        have hyg : L[n]? = some y := by rw [hy, List.getLast_eq_getElem, List.getElem?_eq_getElem (by omega)]; congr 1; congr 1; omega
        obtain ⟨p', o', hV', q1, _⟩ := hSs n y hyg
        injection hV' with e1
        injection e1 with e1 e2 _
        subst e1; subst e2
        rw [Nat.zero_add] at q1
        have hstep2 : rsS L (t, v) = if y.1 < t then L ++ [(t, v)] else L := by unfold rsS; rw [dif_neg hnil, hy]
        rw [hstep2] at hstep
        have hz : ((n : Int) + 1 == 0) = false := by simp; omega
        have hw : IntKind.i64.wrap (n : Int) = n := by rw [IntKind.wrap_i64]; omega
        have HO1 : OwnS wr w.heap.size (.slice (some ⟨g, 0, none⟩) (n + 1) m) L := by rw [← hn]; exact HO
        have Hn := Lib.hid hn
        rw [hn] at hlen ⊢
        clear hn hy hyg hstep2 HO
        have kA := keepA
        by_cases hgt : y.1 < t
        · have Hst : Hid (rsL (l.take (k + 1)) = L ++ [(t, v)]) := Lib.hid (by rw [hstep, if_pos hgt])
          clear hstep
          have hd : decide (y.1 < t) = true := decide_eq_true hgt
          go_wp2_with fail
          go_quiet (fail)
          go_wp2_with (at_builtin; go_must (refine appR1 Tryd.eltS _ rfl (.tmp 29) (.tmp 34) rfl w.heap.size _ L rfl (OwnR.alloc (w := World.drewN wr nq) HO1 _) wr.heap.size 1 (t, v) 53 _ rfl (Blk.new (World.drewN wr nq) _ _) rfl (by rw [Hn.out]; simp [maxLen]; omega) (by rw [Hn.out]; omega) (by simp; omega) ?_); intro g2 c2 w2 hown2 hb2 hg2)
          go_roundw
          case measure => simp [intOf]; omega
          case rel => exact ⟨k + 1, L ++ [(t, v)], some ⟨g2, 0, none⟩, c2, by omega, by go_num, by simp, Hst, by simpa using hown2, ((below_drewN hbel nq).alloc (by simpa using hsz) _).trans hb2⟩
        · have Hst : Hid (rsL (l.take (k + 1)) = L) := Lib.hid (by rw [hstep, if_neg hgt])
          clear hstep
          have hd : decide (y.1 < t) = false := decide_eq_false hgt
          go_wp2_with fail
          go_quiet (fail)
          go_wp2_with fail
          go_roundw
          case measure => simp [intOf]; omega
          case rel => exact ⟨k + 1, L, some ⟨g, 0, none⟩, m, by omega, by go_num, by rw [Hn.out], Hst, by rw [Hn.out]; exact HO1, below_drewN hbel nq⟩
    · obtain rfl : k = l.length := by omega
      rw [List.take_length] at HL
      go_wp2_with fail
      refine bodyPost_ret (v := .slice A L.length m) (by simp [results, Tryd.results23, go_sem]) rfl ?_
      obtain ⟨A', c', hv, hc, hS⟩ := OwnS.ss HO
      injection hv with e1 e2 e3
      subst e1; subst e3
      rw [HL.out]
      exact ⟨A, m, rfl, hS, hc, hbel⟩


theorem pair_eq {a b : Int × Nat} : a = b ↔ a.1 = b.1 ∧ a.2 = b.2 := by
  cases a; cases b; simp

set_option maxHeartbeats 1000000 in
theorem csame_any (V U : Option Addr) (c d : Nat) (a b : List (Int × Nat)) (w : World) (hV : Ss w V a) (hU : Ss w U b) (hal : a.length ≤ 4096) (hbl : b.length ≤ 4096) :
    Calls Tryd.prog 25 #[.slice V a.length c, .slice U b.length d] w fun e w' => e = .returned (.bool (decide (a = b))) ∧ Below w.heap.size w w' := by
  obtain ⟨r, hr⟩ : ∃ r, r = decide (a = b) := ⟨_, rfl⟩
  rw [← hr]
  have HR := Lib.hid hr
  clear hr
  by_cases hlen : a.length = b.length
  · have HL := Lib.hid hlen
    have HV := Lib.hid hV
    have HU := Lib.hid hU
    rw [← hlen]
    clear hlen hV hU hbl
    go_enter Tryd.func25, Tryd.ntmps25
    go_wp2_with fail
    go_loopw [5] (fun i wr => ∃ k : Nat, k ≤ a.length ∧ i = .int .i64 k ∧ Hid (a.take k = b.take k) ∧ Below w.heap.size w wr)
      (fun i _ => a.length - (intOf i).toNat)
    case atStart => exact ⟨0, Nat.zero_le _, rfl, Lib.hid rfl, Below.refl _ _⟩
    case round =>
      obtain ⟨k, hk, rfl, HE, hbel⟩ := hrel
      rcases Nat.lt_or_ge k a.length with hlt | hge
      · have hltb : k < b.length := by have := HL.out; omega
        obtain ⟨p, o, rfl, h1, h2⟩ := (HV.out.below hbel) k a[k] (List.getElem?_eq_getElem hlt)
        obtain ⟨p', o', rfl, h3, h4⟩ := (HU.out.below hbel) k b[k] (List.getElem?_eq_getElem hltb)
        obtain ⟨t, v, hs⟩ : ∃ t v, a[k] = (t, v) := ⟨_, _, rfl⟩
        obtain ⟨t', v', hs'⟩ : ∃ t v, b[k] = (t, v) := ⟨_, _, rfl⟩
        rw [hs] at h1 h2
        rw [hs'] at h3 h4
        dsimp only at h1 h2 h3 h4
        have k0 : 0 ≤ (k : Int) := by omega
        have k1 : (k : Int) < a.length := by omega
        by_cases he : t = t' ∧ v = v'
        · obtain ⟨rfl, rfl⟩ := he
          have hE2 : a.take (k + 1) = b.take (k + 1) := by
            rw [List.take_succ_eq_append_getElem hlt, List.take_succ_eq_append_getElem hltb, HE.out, hs, hs']
          have HE2 := Lib.hid hE2
          clear hE2 hs hs'
          go_wp2_with fail
          go_quiet (fail)
          go_wp2_with fail
          go_roundw
          case measure => simp [intOf]; omega
          case rel => exact ⟨k + 1, hlt, by go_num, HE2, below_drewN hbel nq⟩
        · have hne : a ≠ b := by
            intro e
            subst e
            rw [hs] at hs'
            simp only [Prod.mk.injEq] at hs'
            exact he hs'
          have Hd := Lib.hid (show r = false by rw [HR.out]; simpa using hne)
          clear hs hs' hne
          by_cases ht : t = t'
          · subst ht
            have kv : ((v : Int) == (v' : Int)) = false := beq_eq_false_iff_ne.2 (fun e => he ⟨rfl, by omega⟩)
            clear he
            go_wp2_with fail
            go_quiet (fail)
            go_wp2_with fail
            go_ret
            exact ⟨by rw [Hd.out]; rfl, below_drewN hbel nq⟩
          · have kt : (t == t') = false := beq_eq_false_iff_ne.2 ht
            clear he
            go_wp2_with fail
            go_quiet (fail)
            go_wp2_with fail
            go_ret
            exact ⟨by rw [Hd.out]; rfl, below_drewN hbel nq⟩
      · obtain rfl : k = a.length := by omega
        have hab : a = b := by
          have h1 := HE.out
          rw [List.take_length, HL.out, List.take_length] at h1
          exact h1
        have Hd := Lib.hid (show r = true by rw [HR.out]; simpa using hab)
        clear hab
        go_wp2_with fail
        go_ret
        exact ⟨by rw [Hd.out]; rfl, hbel⟩
  · have Hd := Lib.hid (show r = false by rw [HR.out]; simp; exact fun e => hlen (by rw [e]))
    have kl : ((a.length : Int) == (b.length : Int)) = false := beq_eq_false_iff_ne.2 (by omega)
    have kl2 : ((a.length : Int) != (b.length : Int)) = true := by simp; omega
    go_enter Tryd.func25, Tryd.ntmps25
    go_wp2_with fail
    go_ret
    exact ⟨by rw [Hd.out]; rfl, Below.refl _ _⟩

end Go.Proofs.YtgnppnjhecfjeaaDoor

/- Layer 6: the walk of ChunkApart. -/
namespace Go.Proofs.YtgnppnjhecfjeaaDoor
open Go.RowKit
set_option maxRecDepth 100000

theorem same_codes {a b : List (Int × Nat)} (ha : RiseC ec0 a) (hb : RiseC ec0 b) (hia : InC a) (hib : InC b) (hal : a.length ≤ 1000) (hbl : b.length ≤ 1000) :
    (decide (((codesC ec0 a).length : Int) = ((codesC ec0 b).length : Int)) && decide (pack (codesC ec0 a) = pack (codesC ec0 b))) = decide (a = b) := by
  by_cases h : a = b
  · subst h; simp
  · have hne : ¬ (codesC ec0 a).length = (codesC ec0 b).length ∨ ¬ pack (codesC ec0 a) = pack (codesC ec0 b) := by
      by_cases h1 : (codesC ec0 a).length = (codesC ec0 b).length
      · right
        intro h2
        exact h (codesC_inj ok0 (Int.le_refl _) (by show (0 : Int) + _ ≤ _; omega) (by show (0 : Int) + _ ≤ _; omega) hia hib ha hb (pack_inj h1 h2))
      · exact Or.inl h1
    have hd : decide (a = b) = false := by simpa using h
    rw [hd]
    rcases hne with h1 | h1
    · have : decide (((codesC ec0 a).length : Int) = ((codesC ec0 b).length : Int)) = false := by simp; omega
      rw [this]; rfl
    · have : decide (pack (codesC ec0 a) = pack (codesC ec0 b)) = false := by simpa using h1
      rw [this, Bool.and_false]

set_option maxHeartbeats 2000000 in
theorem chunkApart_walk (V U : Option Addr) (c d : Nat) (a b : List (Int × Nat)) (w : World) (hV : Ss w V a) (hU : Ss w U b) (hal : a.length ≤ maxLen) (hbl : b.length ≤ maxLen) (hia : InC a) (hib : InC b) (hT : Tab w) :
    Calls Tryd.prog 6 #[.slice V a.length c, .slice U b.length d] w fun e w' => e = .returned (.bool true) ∧ Below w.heap.size w w' := by
  have HT := Lib.hid hT
  have HV := Lib.hid hV
  have HU := Lib.hid hU
  have HIa := Lib.hid hia
  have HIb := Lib.hid hib
  clear hT hV hU hia hib
  unfold maxLen at hal hbl
  have hcs : (30 < a.length) ∨ (¬ 30 < a.length ∧ 30 < b.length) ∨ (¬ 30 < a.length ∧ ¬ 30 < b.length) := by omega
  rcases hcs with h1 | ⟨h1, h2⟩ | ⟨h1, h2⟩
  · have hI : (30 : Int) < a.length := by omega
    go_enter Tryd.func6, Tryd.ntmps6
    go_wp2_with fail
    refine (cknown_any _ HT.out).mono ?_
    rintro e w1 ⟨rfl, b1⟩
    go_wp2_with fail
    go_ret
    exact ⟨rfl, b1⟩
  · have hI : ¬ (30 : Int) < a.length := by omega
    have hJ : (30 : Int) < b.length := by omega
    go_enter Tryd.func6, Tryd.ntmps6
    go_wp2_with fail
    refine (cknown_any _ HT.out).mono ?_
    rintro e w1 ⟨rfl, b1⟩
    go_wp2_with fail
    go_ret
    exact ⟨rfl, b1⟩
  · have hI : ¬ (30 : Int) < a.length := by omega
    have hJ : ¬ (30 : Int) < b.length := by omega
    have HK := Lib.hid (Qs.zero w)
    go_enter Tryd.func6, Tryd.ntmps6
    go_wp2_with fail
    refine (cknown_any _ HT.out).mono ?_
    rintro e w1 ⟨rfl, b1⟩
    replace HK := Lib.hid (HK.out.go b1)
    clear b1
    go_wp2_with fail
    refine (crising_any V c a w1 (HV.out.below (HK.out.top 0)) HIa.out (by omega)).mono ?_
    rintro e w2 ⟨A1, c1, rfl, S1, -, b2⟩
    have HS1 := Lib.hid S1
    replace HK := Lib.hid (HK.out.go b2).siz_
    have hr1 := rsL_ok a HIa.out
    have hl1 := rsL_length a
    obtain ⟨s, hs⟩ : ∃ s, s = rsL a := ⟨_, rfl⟩
    rw [← hs] at hr1 hl1 HS1 ⊢
    clear b2 S1 hs
    go_wp2_with fail
    refine (crising_any U d b w2 (HU.out.below (HK.out.top 1)) HIb.out (by omega)).mono ?_
    rintro e w3 ⟨A2, c2, rfl, S2, -, b3⟩
    replace HS1 := Lib.hid (HS1.out.below b3)
    have HS2 := Lib.hid S2
    replace HK := Lib.hid (HK.out.go b3)
    have hr2 := rsL_ok b HIb.out
    have hl2 := rsL_length b
    obtain ⟨t, ht⟩ : ∃ t, t = rsL b := ⟨_, rfl⟩
    rw [← ht] at hr2 hl2 HS2 ⊢
    have e1 := (ofC_rise s ec0 ok0 (Int.le_refl _) (by show (0 : Int) + _ ≤ _; omega) hr1.2).1 hr1.1
    have e2 := (ofC_rise t ec0 ok0 (Int.le_refl _) (by show (0 : Int) + _ ≤ _; omega) hr2.2).1 hr2.1
    have hsm := same_codes hr1.1 hr2.1 hr1.2 hr2.2 (by omega) (by omega)
    obtain ⟨M, hM⟩ : ∃ M, M = codesC ec0 s := ⟨_, rfl⟩
    obtain ⟨N, hN⟩ : ∃ M, M = codesC ec0 t := ⟨_, rfl⟩
    rw [← hM, ← hN] at hsm
    rw [← hM] at e1
    rw [← hN] at e2
    obtain ⟨en, el, ed, ⟨eh, ep, eL, eX⟩, hE⟩ : ∃ n la de V, lastC ec0 s = ⟨n, la, de, V⟩ := ⟨_, _, _, _, rfl⟩
    obtain ⟨fn, fl, fd, ⟨fh, fp, fL, fX⟩, hF⟩ : ∃ n la de V, lastC ec0 t = ⟨n, la, de, V⟩ := ⟨_, _, _, _, rfl⟩
    rw [hE] at e1
    rw [hF] at e2
    have hO := fun (W : World) (h3 : Below w3.heap.size w3 W) => cof_any A1 c1 s W (HS1.out.below h3) (by omega) hr1.2 (tabGo HT.out (on1 (HK.out.top 1) h3))
    have hP := fun (W : World) (h3 : Below w3.heap.size w3 W) => cof_any A2 c2 t W (HS2.out.below h3) (by omega) hr2.2 (tabGo HT.out (on1 (HK.out.top 1) h3))
    have hQ := fun (W : World) (h3 : Below w3.heap.size w3 W) => csame_any A1 A2 c1 c2 s t W (HS1.out.below h3) (HS2.out.below h3) (by omega) (by omega)
    simp only [e1] at hO
    simp only [e2] at hP
    have HO := Lib.hid hO
    have HP := Lib.hid hP
    have HQ := Lib.hid hQ
    have Hsm := Lib.hid hsm
    have HK3 := Lib.hid (Qs.zero w3)
    have HK9 := Lib.hid (HK.out.top 1)
    clear b3 S2 ht hr1 hr2 e1 e2 hsm hM hN hE hF hO hP hQ HK
    go_wp2_with fail
    refine (HO.out _ (HK3.out.top 0)).mono ?_
    clear HO
    rintro e w4 ⟨⟨B1, n4, d4, rfl, rfl, o4⟩, b4⟩
    dsimp only at o4 ⊢
    have K4 := (((HK3.out.go b4).own_ o4).box #[.slice B1 (pack M).length d4, .int .i64 M.length] 24).box #[.int .i64 en, .int .i64 el, .int .i64 ed, .bool eh, .int .u64 ep, .int .u8 eL, .int .u8 eX] 48
    simp only [World.size_alloc] at K4
    replace HK3 := Lib.hid K4
    clear K4 o4 b4
    go_wp2_with fail
    refine (HP.out _ (HK3.out.top 3)).mono ?_
    clear HP
    rintro e w5 ⟨⟨B2, n5, d5, rfl, rfl, o5⟩, b5⟩
    dsimp only at o5 ⊢
    have K5 := (((HK3.out.go b5).own_ o5).box #[.slice B2 (pack N).length d5, .int .i64 N.length] 24).box #[.int .i64 fn, .int .i64 fl, .int .i64 fd, .bool fh, .int .u64 fp, .int .u8 fL, .int .u8 fX] 48
    simp only [World.size_alloc] at K5
    replace HK3 := Lib.hid K5
    clear K5 o5 b5
    have C := HK3.out.says
    simp only [sayAll, cellsSay, qB, qW, qO, qR, qZ, Nat.reduceAdd, and_true, true_and] at C
    go_wp2_with fail
    refine (refSame_any B1 B2 d4 d5 (pack M) (pack N) _ _ _ (HK3.out.own 5).bs (HK3.out.own 2).bs).mono ?_
    rintro e w6 ⟨rfl, b6⟩
    rw [Hsm.out]
    replace HK3 := Lib.hid (HK3.out.go b6)
    clear C b6
    go_wp2_with fail
    refine (HQ.out _ (HK3.out.top 6)).mono ?_
    rintro e w7 ⟨rfl, b7⟩
    obtain ⟨r, hr⟩ : ∃ r, r = decide (s = t) := ⟨_, rfl⟩
    rw [← hr]
    clear hr Hsm
    have hrr : (r == r) = true := by simp
    go_wp2_with fail
    go_ret
    exact ⟨by simp, HK9.out.trans ((on1 (HK3.out.top 6) b7).mono HK9.out.size)⟩

end Go.Proofs.YtgnppnjhecfjeaaDoor

/- Layer 6: the walk of ChunkGoes. -/
namespace Go.Proofs.YtgnppnjhecfjeaaDoor
open Go.RowKit
set_option maxRecDepth 100000

/-- what lies at a place of laid bits is read -/
theorem getC_at {C N r : List Bool} {e e' : EC} {t : Int} {v : Nat} (he : OkC e) (ht : in64 t) (hv : v < 18446744073709551616) (hr : e.n ≠ 0 → e.last < t) (hN : encC e t v = (N, e')) :
    getC (pack (C ++ (N ++ r))) ((C ++ (N ++ r)).length : Int) e (C.length : Int) = ⟨t, v, ((C.length + N.length : Nat) : Int), e', 0⟩ := by
  unfold getC
  rw [if_neg (by rw [sound_pack]; decide), if_neg (by rw [he.snd]; decide), Int.toNat_natCast]
  unfold gotC
  have h1 : ¬ ((C.length : Int) < 0 ∨ ((C ++ (N ++ r)).length : Int) < (C.length : Int)) := by
    rw [List.length_append]; omega
  rw [if_neg h1, Int.toNat_natCast, bits_pack, List.drop_left]
  have hd := decC_enc he ht hv hr r
  rw [hN] at hd
  dsimp only at hd
  rw [hd]
  dsimp only
  congr 1
theorem codes_split (S : List (Int × Nat)) (j : Nat) (h : j < S.length) : codesC ec0 S = codesC ec0 (S.take j) ++ ((encC (lastC ec0 (S.take j)) S[j].1 S[j].2).1 ++ codesC (encC (lastC ec0 (S.take j)) S[j].1 S[j].2).2 (S.drop (j + 1))) := by
  have h1 := codesC_app (S.take j) (S.drop j) ec0
  rw [List.take_append_drop, List.drop_eq_getElem_cons h] at h1
  rw [h1]
  rfl

set_option maxHeartbeats 8000000 in
theorem chunkGoes_walk (V : Option Addr) (c : Nat) (l : List (Int × Nat)) (kk : Int) (w : World) (hV : Ss w V l) (hl : l.length ≤ maxLen) (hi : InC l) (hkk : in64 kk) (hT : Tab w) :
    Calls Tryd.prog 12 #[.slice V l.length c, .int .i64 kk] w fun e w' => e = .returned (.bool true) ∧ Below w.heap.size w w' := by
  have hmx : Tryd.prog.follows .mixedOrders = true := by kernel_rfl
  have HT := Lib.hid hT
  have HV := Lib.hid hV
  have HI := Lib.hid hi
  clear hT hV hi
  unfold maxLen at hl
  unfold in64 at hkk
  by_cases hlen : 40 < l.length
  · have hI : (40 : Int) < l.length := by omega
    go_enter Tryd.func12, Tryd.ntmps12
    go_wp2_with fail
    refine (cknown_any _ HT.out).mono ?_
    rintro e w1 ⟨rfl, b1⟩
    go_wp2_with fail
    go_ret
    exact ⟨rfl, b1⟩
  · have hI : ¬ (40 : Int) < l.length := by omega
    have HK0 := Lib.hid (Qs.zero w)
    go_enter Tryd.func12, Tryd.ntmps12
    go_wp2_with fail
    refine (cknown_any _ HT.out).mono ?_
    rintro e w1 ⟨rfl, b1⟩
    replace HK0 := Lib.hid (HK0.out.go b1)
    clear b1
    go_wp2_with fail
    refine (crising_any V c l w1 (HV.out.below (HK0.out.top 0)) HI.out (by omega)).mono ?_
    rintro e w4 ⟨A1, c1, rfl, S1, hc1, b2⟩
    replace HK0 := Lib.hid (HK0.out.go b2)
    have HT4 := Lib.hid (tabGo HT.out (HK0.out.top 0))
    have hr := rsL_ok l HI.out
    have hl1 := rsL_length l
    obtain ⟨S, hS⟩ : ∃ S, S = rsL l := ⟨_, rfl⟩
    rw [← hS] at S1 hc1 hr hl1 ⊢
    have HS := Lib.hid S1
    have HR := Lib.hid hr.1
    have HIS := Lib.hid hr.2
    clear hS S1 b2 hr HT HI HV
    go_upto_region 4 with fail
    go_cut [6] (fun s wx => ∃ n : Nat, s = .int .i64 n ∧ n ≤ S.length ∧ wx = w4)
    case first =>
      have hz : ((S.length : Int) + 1 == 0) = false := by simp; omega
      by_cases hi0 : kk < 0
      · go_wp2_with fail
        go_meet
        exact ⟨0, by rw [show max kk 0 = 0 by omega]; simp, Nat.zero_le _, rfl⟩
      · have h1 := Int.emod_nonneg kk (show ((S.length : Int) + 1) ≠ 0 by omega)
        have h2 := Int.emod_lt_of_pos kk (show 0 < ((S.length : Int) + 1) by omega)
        obtain ⟨a, ha⟩ := Int.eq_ofNat_of_zero_le h1
        have HA := Lib.hid ha
        have ha2 : a ≤ S.length := by omega
        clear ha h1 h2
        go_wp2_with fail
        go_meet
        exact ⟨a, by rw [show max kk 0 = kk by omega, HA.out], ha2, rfl⟩
    case rest =>
      obtain ⟨n, rfl, hn, rfl⟩ := hcut
      generalize wc = w4 at *
      have hlt : (S.take n).length = n := by rw [List.length_take]; omega
      have HK := Lib.hid (Qs.zero w4)
      have e1 := (ofC_rise (S.take n) ec0 ok0 (Int.le_refl _) (by rw [hlt]; show (0 : Int) + _ ≤ _; omega) (fun s hs => HIS.out s (List.mem_of_mem_take hs))).1 (RiseC.take n HR.out)
      have e2 := (ofC_rise S ec0 ok0 (Int.le_refl _) (by show (0 : Int) + _ ≤ _; omega) HIS.out).1 HR.out
      obtain ⟨ALL, hALL⟩ : ∃ M, M = codesC ec0 S := ⟨_, rfl⟩
      rw [← hALL] at e2
      have hO := fun (W : World) (h3 : Below w4.heap.size w4 W) => cof_any A1 c1 (S.take n) W ((HS.out.below h3).take n) (by omega) (fun s hs => HIS.out s (List.mem_of_mem_take hs)) (tabGo HT4.out h3)
      have hP := fun (W : World) (h3 : Below w4.heap.size w4 W) => cof_any A1 c1 S W (HS.out.below h3) (by omega) HIS.out (tabGo HT4.out h3)
      simp only [e1, hlt] at hO
      simp only [e2] at hP
      have HO := Lib.hid hO
      have HP := Lib.hid hP
      have HALL := Lib.hid hALL
      clear e1 e2 hO hP hALL hlt
      go_wp2_with fail
      refine (HO.out _ (HK.out.top 0)).mono ?_
      clear HO
      rintro e w5 ⟨⟨B1, n4, d4, rfl, rfl, o4⟩, b4⟩
      dsimp only at o4 ⊢
      rw [show ((0 : Nat) : Int) = 0 from rfl]
      have K4 := (((HK.out.go b4).own_ o4).box #[.slice B1 (pack (codesC ec0 (S.take n))).length d4, .int .i64 (codesC ec0 (S.take n)).length] 24).box (lastC ec0 (S.take n)).cells 48
      simp only [World.size_alloc] at K4
      replace HK := Lib.hid K4
      have z4 := b4.size
      clear K4 o4 b4
      go_wp2_with fail
      refine (HP.out _ (HK.out.top 3)).mono ?_
      clear HP
      rintro e w6 ⟨⟨B2, n5, d5, rfl, rfl, o5⟩, b5⟩
      dsimp only at o5 ⊢
      rw [show ((0 : Nat) : Int) = 0 from rfl]
      have K5 := (((HK.out.go b5).own_ o5).box #[.slice B2 (pack ALL).length d5, .int .i64 ALL.length] 24).box (lastC ec0 S).cells 48
      simp only [World.size_alloc] at K5 o5
      have z5 := b5.size
      simp only [World.size_alloc] at z5
      replace HK := Lib.hid K5
      clear K5 o5 b5
      have C := HK.out.says
      simp only [sayAll, cellsSay, qB, qW, qO, qR, qZ, EC.cells, Nat.reduceAdd, and_true, true_and] at C
      have K6 := HK.out.box (lastC ec0 (S.take n)).cells 48
      simp only [World.size_alloc] at K6
      have HK6 := Lib.hid K6
      clear K6 HK
      go_wp2_with fail
      clear C
      go_loopw [13, 15] (fun at_ i wr => ∃ (j bs hi : Nat) (A : Option Addr) (cx : Nat), j ≤ S.length ∧ at_ = .int .i64 (codesC ec0 (S.take j)).length ∧ i = .int .i64 j ∧ (hi ≤ w5.heap.size ∨ w6.heap.size + 3 ≤ bs) ∧ w4.heap.size ≤ bs ∧
          Hid (Qs wr [qO bs hi (.slice A (pack (codesC ec0 (S.take j))).length cx) (pack (codesC ec0 (S.take j))), qB (w6.heap.size + 1 + 1) 48 (lastC ec0 (S.take j)).cells, qB w6.heap.size 24 #[.slice B2 (pack ALL).length d5, .int .i64 ALL.length],
            qO (w5.heap.size + 1 + 1) w6.heap.size (.slice B2 (pack ALL).length d5) (pack ALL), qB (w5.heap.size + 1) 48 (lastC ec0 (S.take j)).cells, qB w5.heap.size 24 #[.slice A (pack (codesC ec0 (S.take j))).length cx, .int .i64 (codesC ec0 (S.take j)).length], qW w4 w4.heap.size (Nat.le_refl _)]))
        (fun _ i _ => S.length - (intOf i).toNat)
      case atStart =>
        refine ⟨n, w4.heap.size, w5.heap.size, B1, d4, hn, rfl, rfl, Or.inl (Nat.le_refl _), Nat.le_refl _, Lib.hid ?_⟩
        exact (((((((Qs.nil _).cons (HK6.out.get 7 rfl)).cons (HK6.out.get 5 rfl)).cons (HK6.out.get 4 rfl)).cons (HK6.out.get 3 rfl)).cons (HK6.out.get 2 rfl)).cons (HK6.out.get 0 rfl)).cons (HK6.out.get 6 rfl)
      case round =>
        obtain ⟨j, bs, hi, A, cx, hj, rfl, rfl, hbs, hbs4, HK⟩ := hrel
        clear HK6
        have zr := (HK.out.blk 1).lt
        have hMl := codesC_le S j (by omega) HIS.out
        obtain ⟨M, hM⟩ : ∃ M, M = codesC ec0 (S.take j) := ⟨_, rfl⟩
        rw [← hM] at hMl HK ⊢
        have hAl : ALL.length ≤ 146000 := by
          have := codesC_le S S.length (by omega) HIS.out
          rw [List.take_length] at this
          rw [HALL.out]; exact this
        rcases Nat.lt_or_ge j S.length with hlt | hge
        · have hrows := rows_ok (S.take j) ec0 ok0 (Int.le_refl _) (by rw [List.length_take]; show (0 : Int) + _ ≤ _; omega) (fun s hs => HIS.out s (List.mem_of_mem_take hs))
          obtain ⟨t, v, hs⟩ : ∃ t v, S[j] = (t, v) := ⟨_, _, rfl⟩
          have hsi := HIS.out S[j] (List.getElem_mem hlt)
          obtain ⟨p, o, rfl, q1, q2⟩ := (HS.out.below (HK.out.top 6)) j S[j] (List.getElem?_eq_getElem hlt)
          have hspl := codes_split S j hlt
          rw [hs] at hsi q1 q2 hspl
          dsimp only at hsi q1 q2 hspl
          have htake : S.take (j + 1) = S.take j ++ [(t, v)] := by rw [← hs, List.take_append_getElem hlt]
          obtain ⟨en, el, ed, ⟨eh, ep, eL, eX⟩, hE⟩ : ∃ n la de V, lastC ec0 (S.take j) = ⟨n, la, de, V⟩ := ⟨_, _, _, _, rfl⟩
          have hok := hrows.1
          rw [hE] at hok HK hspl
          simp only [EC.cells] at HK
          have hsm := OkC.small hok
          obtain ⟨N, ⟨n1, t1, d1, ⟨th, tp, tl, tb⟩⟩, hN⟩ : ∃ N e1, encC ⟨en, el, ed, ⟨eh, ep, eL, eX⟩⟩ t v = (N, e1) := ⟨_, _, rfl⟩
          have hco : codesC ec0 (S.take (j + 1)) = M ++ N := by rw [htake, codesC_snoc, hE, hM, hN]
          have hla : lastC ec0 (S.take (j + 1)) = ⟨n1, t1, d1, ⟨th, tp, tl, tb⟩⟩ := by rw [htake, lastC_snoc, hE, hN]
          have hri := RiseC.take (j + 1) HR.out
          rw [htake] at hri
          have hrise := (RiseC.next hri).2
          rw [hE] at hrise
          rw [← hM, ← HALL.out, hN] at hspl
          dsimp only at hspl
          have hpl : (pack M).length ≤ 90000 := by rw [pack_length]; unfold Go.Proofs.YtgnppnjhecfjeaaDoor.nb; omega
          have hpa : (pack ALL).length ≤ 90000 := by rw [pack_length]; unfold Go.Proofs.YtgnppnjhecfjeaaDoor.nb; omega
          obtain ⟨B, hB⟩ : ∃ B, B = M ++ N := ⟨_, rfl⟩
          have hPe : putC (pack M) (M.length : Int) ⟨en, el, ed, ⟨eh, ep, eL, eX⟩⟩ t v = (B, ⟨n1, t1, d1, ⟨th, tp, tl, tb⟩⟩, 0) := by
            unfold putC
            rw [if_neg (by rw [sound_pack]; decide), if_neg (by rw [(mayC_zero hok t).2 hrise]; simp), Int.toNat_natCast, bits_pack, hN, hB]
          have hGe := getC_at (C := M) (N := N) (r := codesC ⟨n1, t1, d1, ⟨th, tp, tl, tb⟩⟩ (S.drop (j + 1))) hok hsi.1 hsi.2 hrise hN
          rw [← hspl] at hGe
          have hBl : M.length + N.length = B.length := by rw [hB, List.length_append]
          rw [hBl] at hGe
          rw [← hB] at hco
          have hP := fun (W : World) (hW : Below wr.heap.size wr W) => cput_any A cx (pack M) (M.length : Int) en el ed t eh ep eL eX v W ((HK.out.own 0).below hW).bs (by omega) (by omega) hok.n hok.last hok.delta hsi.1 hok.prev hsm.1 hsm.2 hsi.2 (tabGo HT4.out (on1 (HK.out.top 6) hW))
          simp only [hPe] at hP
          have hG := fun (W : World) (hW : Below wr.heap.size wr W) => cget_any B2 d5 (pack ALL) (ALL.length : Int) (M.length : Int) en el ed eh ep eL eX W ((HK.out.own 3).below hW).bs (by unfold in64; omega) (by omega) (by unfold in64; omega) hok.n hok.last hok.delta hok.prev hsm.1 hsm.2 (tabGo HT4.out (on1 (HK.out.top 6) hW))
          simp only [hGe, RC.tup] at hG
          have HP := Lib.hid hP
          have HG := Lib.hid hG
          have Hco := Lib.hid hco
          have Hla := Lib.hid hla
          have k0 : 0 ≤ (j : Int) := by omega
          have k1 : (j : Int) < S.length := by omega
          clear hs hrows htake hE hok hco hla hri hrise hspl hN hM hP hG hPe hGe hpl hpa hB hBl
          have C := HK.out.says
          simp only [sayAll, cellsSay, qB, qW, qO, qR, qZ, Nat.reduceAdd, and_true, true_and] at C
          have kp := plus_cell wr
          go_wp2_with fail
          refine wp_region_frw [none, none, none, none, none, none, none, none, none, none, none, none, none, some 11, some 12] [6, 11, 12] [13, 14] (fun k lo v z => if k = 6 then ∃ (A3 : Option Addr) (c3 : Nat), v = .tuple #[.agg #[.slice A3 (pack B).length c3, .int .i64 (B.length : Nat)], .agg #[.int .i64 n1, .int .i64 t1, .int .i64 d1, .bool th, .int .u64 tp, .int .u8 tl, .int .u8 tb], .int .u16 0] ∧ OwnB z lo (.slice A3 (pack B).length c3) (pack B)
            else if k = 11 then v = .pointer (some ⟨lo, 0, none⟩) ∧ z.heap.size = lo + 1 ∧ Blk z lo 24 #[.slice none 0 0, .int .i64 0]
            else v = .pointer (some ⟨lo, 0, none⟩) ∧ z.heap.size = lo + 1 ∧ Blk z lo 48 #[.int .i64 0, .int .i64 0, .int .i64 0, .bool false, .int .u64 0, .int .u8 0, .int .u8 0]) hmx (by kernel_rfl) ?_
          iterate 6 (refine walkH_one rfl rfl (by kernel_rfl) ?_; go_big_quiet_step (fail); refine wpQuiet_nil ?_)
          refine walkH_make rfl rfl (by kernel_rfl) (fun x => ?_) ?_
          · refine grow_call ?_ ((HP.out _ (plus_below wr x)).mono ?_)
            · simp [execOp, go_sem]
            · rintro e w4 ⟨⟨A3, n3, c3, rfl, rfl, o3⟩, b4⟩
              exact ⟨_, rfl, b4, A3, c3, rfl, o3⟩
          rintro V6 lo6 z6 ⟨A3, c3, rfl, o3⟩ hlo6 hz6 hb6
          conv => arg 12; simp [Act.put]
          iterate 4 (refine walkH_one rfl rfl (by kernel_rfl) ?_; go_big_quiet_step (fail); refine wpQuiet_nil ?_)
          refine walkH_make rfl rfl (by kernel_rfl) (fun x => ?_) ?_
          · exact grow_alloc (by simp [execOp, go_sem]) ⟨rfl, by simp, Blk.new _ _ _⟩
          rintro V11 lo11 z11 ⟨rfl, hs11, hb11⟩ hlo11 hz11 hbw11
          conv => arg 12; simp [Act.put]
          refine walkH_make rfl rfl (by kernel_rfl) (fun x => ?_) ?_
          · exact grow_alloc (by simp [execOp, go_sem]) ⟨rfl, by simp, Blk.new _ _ _⟩
          rintro V12 lo12 z12 ⟨rfl, hs12, hb12⟩ hlo12 hz12 hbw12
          conv => arg 12; simp [Act.put]
          refine walkH_store rfl rfl (j := 11) rfl (by kernel_rfl) (fun W hW hA => ?_)
          have hB : Blk W lo11 24 #[.slice none 0 0, .int .i64 0] := Agr.blk (s := ⟨z11, lo11, z11.heap.size⟩) hA hb11 (Nat.le_refl _) (by rw [hs11]; exact Nat.lt_succ_self _)
          obtain ⟨⟨x0, x1⟩, x2, x3⟩ := hB.duo
          refine ⟨(W.setCell ⟨lo11, 0, none⟩ (.slice A3 (pack B).length c3)).setCell ⟨lo11, 1, none⟩ (.int .i64 (B.length : Nat)), by simp [execOp, go_sem, x0, x1, x2, x3], ((storeUpon.same W _).cell _ _ (Nat.le_refl _) (show lo11 < z11.heap.size by omega)).cell _ _ (Nat.le_refl _) (show lo11 < z11.heap.size by omega), fun hbz13 => ?_⟩
          have hb13 := hB.set2 (.slice A3 (pack B).length c3) (.int .i64 (B.length : Nat))
          generalize (W.setCell ⟨lo11, 0, none⟩ (.slice A3 (pack B).length c3)).setCell ⟨lo11, 1, none⟩ (.int .i64 (B.length : Nat)) = z13 at *
          clear hA hB x0 x1 x2 x3 hW
          conv => arg 12; simp [Act.put]
          refine walkH_store rfl rfl (j := 12) rfl (by kernel_rfl) (fun W hW hA => ?_)
          have hB : Blk W lo12 48 #[.int .i64 0, .int .i64 0, .int .i64 0, .bool false, .int .u64 0, .int .u8 0, .int .u8 0] := Agr.blk (s := ⟨z12, lo12, z12.heap.size⟩) hA hb12 (Nat.le_refl _) (by rw [hs12]; exact Nat.lt_succ_self _)
          obtain ⟨⟨x0, x1, x2, x3, x4, x5, x6⟩, y0, y1, y2, y3, y4, y5, y6⟩ := hB.sept
          refine ⟨sets W lo12 [(0, .int .i64 n1), (1, .int .i64 t1), (2, .int .i64 d1), (3, .bool th), (4, .int .u64 tp), (5, .int .u8 tl), (6, .int .u8 tb)], by simp [execOp, go_sem, sets, x0, x1, x2, x3, x4, x5, x6, y0, y1, y2, y3, y4, y5, y6],
            (((((((storeUpon.same W _).cell _ _ (Nat.le_refl _) (show lo12 < z12.heap.size by omega)).cell _ _ (Nat.le_refl _) (show lo12 < z12.heap.size by omega)).cell _ _ (Nat.le_refl _) (show lo12 < z12.heap.size by omega)).cell _ _ (Nat.le_refl _) (show lo12 < z12.heap.size by omega)).cell _ _ (Nat.le_refl _) (show lo12 < z12.heap.size by omega)).cell _ _ (Nat.le_refl _) (show lo12 < z12.heap.size by omega)).cell _ _ (Nat.le_refl _) (show lo12 < z12.heap.size by omega), fun hbz14 => ?_⟩
          have hb14 : Blk (sets W lo12 [(0, .int .i64 n1), (1, .int .i64 t1), (2, .int .i64 d1), (3, .bool th), (4, .int .u64 tp), (5, .int .u8 tl), (6, .int .u8 tb)]) lo12 48 #[.int .i64 n1, .int .i64 t1, .int .i64 d1, .bool th, .int .u64 tp, .int .u8 tl, .int .u8 tb] := Blk.sets _ hB
          generalize sets W lo12 [(0, .int .i64 n1), (1, .int .i64 t1), (2, .int .i64 d1), (3, .bool th), (4, .int .u64 tp), (5, .int .u8 tl), (6, .int .u8 tb)] = z14 at *
          clear hA hB x0 x1 x2 x3 x4 x5 x6 y0 y1 y2 y3 y4 y5 y6 hW
          conv => arg 12; simp [Act.put]
          refine walkH_one rfl rfl (by kernel_rfl) ?_; go_big_quiet_step (fail); refine wpQuiet_nil ?_
          refine walkH_end ?_
          intro W hR
          have k6 : OwnB W lo6 (.slice A3 (pack B).length c3) (pack B) := Agr.own (s := ⟨z6, lo6, z6.heap.size⟩) (hR.agr 6) o3 rfl
          have k11 : Blk W lo11 24 #[.slice A3 (pack B).length c3, .int .i64 (B.length : Nat)] := Agr.blk (s := ⟨z13, lo11, z11.heap.size⟩) (hR.agr 11) hb13 (Nat.le_refl _) (by rw [hs11]; exact Nat.lt_succ_self _)
          have k12 : Blk W lo12 48 #[.int .i64 n1, .int .i64 t1, .int .i64 d1, .bool th, .int .u64 tp, .int .u8 tl, .int .u8 tb] := Agr.blk (s := ⟨z14, lo12, z12.heap.size⟩) (hR.agr 12) hb14 (Nat.le_refl _) (by rw [hs12]; exact Nat.lt_succ_self _)
          have kb := hR.base
          have HS2 := Lib.hid (And.intro ((kb.cell (cell_lt q1)).trans q1) ((kb.cell (cell_lt q2)).trans q2))
          have K6 := (((HK.out.go kb).own_ k6).cons (k := qB _ _ _) k11).cons (k := qB _ _ _) k12
          have z0 := kb.size
          have Hkb := Lib.hid kb
          have HK6 := Lib.hid K6
          clear hR hb13 hb14 hb12 hb11 hbz13 hbz14 hbw11 hbw12 hb6 o3 hz6 hz11 hz12 hs11 hs12 kp C K6 k6 k11 k12 kb HP q1 q2 HK
          have C := HK6.out.says
          simp only [sayAll, cellsSay, qB, qW, qO, qR, qZ, Nat.reduceAdd, and_true, true_and] at C
          go_wp2_with fail
          refine (HG.out _ Hkb.out).mono ?_
          clear HG C
          rintro e w7 ⟨rfl, b7⟩
          have K7 := ((HK6.out.go b7).box #[.int .i64 t, .int .u64 v] 53).box #[.int .i64 n1, .int .i64 t1, .int .i64 d1, .bool th, .int .u64 tp, .int .u8 tl, .int .u8 tb] 48
          simp only [World.size_alloc] at K7
          have q1 := (b7.cell (cell_lt HS2.out.1)).trans HS2.out.1
          have q2 := (b7.cell (cell_lt HS2.out.2)).trans HS2.out.2
          have r1 : ((w7.alloc (.cells #[.int .i64 t, .int .u64 v] 53)).alloc (.cells #[.int .i64 n1, .int .i64 t1, .int .i64 d1, .bool th, .int .u64 tp, .int .u8 tl, .int .u8 tb] 48)).cell? ⟨p, o + j * 2, none⟩ = some (.int .i64 t) := (below_alloc2 w7 _ _).cell (cell_lt q1) |>.trans q1
          have r2 : ((w7.alloc (.cells #[.int .i64 t, .int .u64 v] 53)).alloc (.cells #[.int .i64 n1, .int .i64 t1, .int .i64 d1, .bool th, .int .u64 tp, .int .u8 tl, .int .u8 tb] 48)).cell? ⟨p, o + j * 2 + 1, none⟩ = some (.int .u64 v) := (below_alloc2 w7 _ _).cell (cell_lt q2) |>.trans q2
          have z7 := b7.size
          clear q1 q2 HS2 HK6 b7
          go_upto_region 16 with fail
          generalize hW7 : World.alloc _ _ = W7
          rw [hW7] at K7 r1 r2
          clear hW7
          have HK7 := Lib.hid K7
          clear K7
          have C := HK7.out.says
          simp only [sayAll, cellsSay, qB, qW, qO, qR, qZ, Nat.reduceAdd, and_true, true_and] at C
          go_quiet (fail)
          have hq7 : Below W7.heap.size W7 (W7.drewN nq) := below_drewN (Below.refl _ _) nq
          have HK8 := Lib.hid (HK7.out.go hq7)
          clear C r1 r2 HK7 hq7
          have C := HK8.out.says
          simp only [sayAll, cellsSay, qB, qW, qO, qR, qZ, Nat.reduceAdd, and_true, true_and] at C
          generalize W7.drewN nq = W8 at *
          go_upto_region 19 with fail
          generalize hW9 : World.setCell _ _ _ = W9
          have K9 := HK8.out.putTo 10 w5.heap.size [(0, .slice A3 (pack B).length c3), (1, .int .i64 (B.length : Nat))] #[.slice A3 (pack B).length c3, .int .i64 (B.length : Nat)] hW9 (by simp only [apBut, apAll, qB, qW, qO, qR, qZ, and_true]; omega)
          simp only [List.set] at K9
          have HK9 := Lib.hid K9
          clear hW9 C K9 HK8
          have C := HK9.out.says
          simp only [sayAll, cellsSay, qB, qW, qO, qR, qZ, Nat.reduceAdd, and_true, true_and] at C
          go_upto_region 20 with fail
          generalize hW10 : World.setCell _ _ _ = W10
          have K10 := HK9.out.putTo 9 (w5.heap.size + 1) [(0, .int .i64 n1), (1, .int .i64 t1), (2, .int .i64 d1), (3, .bool th), (4, .int .u64 tp), (5, .int .u8 tl), (6, .int .u8 tb)] #[.int .i64 n1, .int .i64 t1, .int .i64 d1, .bool th, .int .u64 tp, .int .u8 tl, .int .u8 tb] hW10 (by simp only [apBut, apAll, qB, qW, qO, qR, qZ, and_true]; omega)
          simp only [List.set] at K10
          have HK10 := Lib.hid K10
          clear hW10 C K10 HK9
          have C := HK10.out.says
          simp only [sayAll, cellsSay, qB, qW, qO, qR, qZ, Nat.reduceAdd, and_true, true_and] at C
          go_wp2_with fail
          generalize hW11 : World.setCell _ _ _ = W11
          have K11 := HK10.out.putTo 6 (w6.heap.size + 1 + 1) [(0, .int .i64 n1), (1, .int .i64 t1), (2, .int .i64 d1), (3, .bool th), (4, .int .u64 tp), (5, .int .u8 tl), (6, .int .u8 tb)] #[.int .i64 n1, .int .i64 t1, .int .i64 d1, .bool th, .int .u64 tp, .int .u8 tl, .int .u8 tb] hW11 (by simp only [apBut, apAll, qB, qW, qO, qR, qZ, and_true]; omega)
          simp only [List.set] at K11
          have K12 := Lib.hid (((((((Qs.nil W11).cons (K11.get 11 rfl)).cons (K11.get 10 rfl)).cons (K11.get 9 rfl)).cons (K11.get 8 rfl)).cons (K11.get 7 rfl)).cons (K11.get 6 rfl) |>.cons (K11.get 4 rfl))
          clear hW11 C K11 HK10
          go_roundw
          case measure => simp [intOf]; omega
          case rel =>
            refine ⟨j + 1, lo6, W.heap.size, A3, c3, hlt, by rw [Hco.out], by go_num, Or.inr (by omega), by omega, ?_⟩
            rw [Hco.out, Hla.out]
            exact K12
        · obtain rfl : j = S.length := by omega
          rw [List.take_length, ← HALL.out] at hM
          subst hM
          have C := HK.out.says
          simp only [sayAll, cellsSay, qB, qW, qO, qR, qZ, EC.cells, Nat.reduceAdd, and_true, true_and] at C
          go_wp2_with fail
          refine (refSame_any A B2 cx d5 (pack M) (pack M) _ _ _ (HK.out.own 0).bs (HK.out.own 3).bs).mono ?_
          rintro e w9 ⟨rfl, b9⟩
          replace HK := Lib.hid (HK.out.go b9)
          clear C b9
          have C := HK.out.says
          simp only [sayAll, cellsSay, qB, qW, qO, qR, qZ, EC.cells, Nat.reduceAdd, and_true, true_and] at C
          go_wp2_with fail
          go_ret
          exact ⟨by simp, (HK0.out.top 0).trans ((HK.out.top 6).mono (HK0.out.top 0).size)⟩

end Go.Proofs.YtgnppnjhecfjeaaDoor
