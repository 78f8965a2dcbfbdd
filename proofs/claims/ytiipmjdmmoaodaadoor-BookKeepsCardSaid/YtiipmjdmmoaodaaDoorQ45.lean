/- Joined: Bk33. -/
import Derived.Test.YtiipmjdmmoaodaaDoorQ42
import Derived.Test.YtiipmjdmmoaodaaDoorQ43
set_option linter.unusedSimpArgs false
set_option linter.unusedVariables false
/- Layer 12: Chunks: all chunks of a series that have samples. -/
set_option linter.unusedSimpArgs false
set_option linter.unusedVariables false
namespace Go.Proofs.YtiipmjdmmoaodaaDoor
open Go.RowKit
set_option maxRecDepth 100000

/-- a frame, and where its bits lie -/
structure FrE where
  f : FrD
  A : Option Addr
  c : Nat
def encFrE (x : FrE) : List Value := (frC x.f x.A x.c).toList
theorem Tryd.eltFrE : Elt Tryd.prog 57 45 encFrE 11 72 := ⟨Tryd.underlying57, ⟨.agg zFc, by kernel_rfl, rfl⟩, by decide, fun _ => rfl, fun x v h => by
  unfold encFrE frC at h
  simp only [List.mem_cons, List.not_mem_nil, or_false] at h
  rcases h with rfl | rfl | rfl | rfl | rfl | rfl | rfl | rfl | rfl | rfl | rfl <;> rfl⟩
theorem cutGo_all (L : List Sm) (a : Nat) (most : Int) (hb : (((bitsL L).length : Nat) : Int) ≤ most) : ∀ f c, c ≤ L.length → L.length ≤ c + f → cutGo L a most f c = L.length
  | 0, c, h1, h2 => by unfold cutGo; omega
  | f + 1, c, h1, h2 => by
    unfold cutGo
    by_cases h : c < L.length
    · have := endN_le L (c + 1)
      rw [if_pos ⟨h, by omega⟩]
      exact cutGo_all L a most hb f (c + 1) (by omega) (by omega)
    · rw [if_neg (fun e => h e.1)]; omega
theorem cutTo_all {L : List Sm} (hne : L ≠ []) {most : Int} (hb : (((bitsL L).length : Nat) : Int) ≤ most) : cutTo L 0 most = L.length := by
  have := List.length_pos_iff.2 hne
  exact cutGo_all L 0 most hb _ _ (by omega) (by omega)
/-- a chunk whole, as a frame -/
structure ChF (C : CsT) (k : Nat) (f : FrD) : Prop where
  fc : f.fc = k
  cl : f.cl = decide (k + 1 < C.length)
  cn : ∃ L, C[k]? = some L ∧ f.cn = L.length ∧ L ≠ []
theorem chunk_cut {x : Nat} {C : CsT} (oc : OkC1 C) {k : Nat} {L : List Sm} (hL : C[k]? = some L) (hne : L ≠ []) : (cutF x C k 0 0 9223372036854775807).2.2 = 0 ∧ ChF C k (cutF x C k 0 0 9223372036854775807).1 := by
  have hm := List.mem_of_getElem? hL
  have hb := bits_small (oc.lenL hm) (oc.incL hm)
  have hp := List.length_pos_iff.2 hne
  have hh : hasC C k 0 0 = true := by
    unfold hasC
    rw [hL]
    have : endN L 0 = 0 := rfl
    simp only [this, decide_true, Bool.and_true, decide_eq_true_eq]
    split <;> omega
  have he : (k, 0, 0) ≠ endC C := fun e => by
    unfold endC at e
    injection e with e1 e2
    injection e2 with e3 e4
    rw [e1] at hL
    have h1 : C[C.length - 1]? = some (lastL C) := by
      unfold lastL
      rw [← List.getLast?_eq_getElem?]
      cases hg : C.getLast? with
      | none => exact absurd (List.getLast?_eq_none_iff.1 hg) oc.ne
      | some y => rfl
    rw [hL] at h1
    injection h1 with h1
    rw [← h1] at e4
    omega
  have hc := cutTo_all hne (most := 9223372036854775807) (by omega)
  unfold cutF
  rw [if_neg (by rw [hh]; decide), if_neg he, hL]
  refine ⟨rfl, rfl, ?_, L, hL, hc, hne⟩
  show clB C k (cutTo L 0 9223372036854775807) = _
  rw [hc]
  unfold clB
  rw [hL]
  simp
/-- the chunks that have samples: all, or all but the last one -/
def chN (C : CsT) : Nat := if lastL C = [] then C.length - 1 else C.length
def ChT (C : CsT) (T : List FrE) : Prop := T.length = chN C ∧ ∀ j x, T[j]? = some x → ChF C j x.f
theorem last_at {C : CsT} {k : Nat} {L : List Sm} (h : C[k]? = some L) (hk : k + 1 = C.length) : lastL C = L := by
  have h1 : C.getLast? = some L := by rw [List.getLast?_eq_getElem?, show C.length - 1 = k by omega]; exact h
  unfold lastL
  rw [h1]
  rfl
set_option maxHeartbeats 8000000 in
theorem bChunks_any {w : World} {X : Bl} (h : RdK w X) (ok : OkB X) (x : Nat) (hx : x < 4294967296) : Calls Tryd.prog 18 #[prB X, .int .u32 (x : Nat)] w fun e w' => ∃ U n T, e = .returned (.slice U T.length n) ∧ OwnR w' w.heap.size 45 encFrE 11 (.slice U T.length n) T ∧ ChT (X.D.at_ x) T ∧ Below w.heap.size w w' := by
  have hmx : Tryd.prog.follows .mixedOrders = true := by kernel_rfl
  have HN := Lib.hid (bser_any h ok x hx)
  have hoc := ok.D.at_ x
  obtain ⟨C, hC⟩ : ∃ C, C = X.D.at_ x := ⟨_, rfl⟩
  have HCt := fun (W : World) (hb : Below w.heap.size w W) (k : Nat) (hk : k < 4294967296) => bCut_any (h.below hb) ok x hx k 0 0 9223372036854775807 hk (by decide) (by decide) (by unfold in64; omega)
  rw [← hC] at HN hoc HCt ⊢
  replace HCt := Lib.hid HCt
  obtain ⟨n, hn⟩ : ∃ n, n = C.length := ⟨_, rfl⟩
  have hn1 : n ≤ 1001 := by rw [hn]; exact hoc.few
  have HC := Lib.hid (And.intro hoc hn)
  clear h ok hC hoc hn
  go_enter Tryd.func18, Tryd.ntmps18
  go_upto_region 1 with fail
  go_wp2_with (go_at_call 22; refine HN.out.mono ?_; rintro e w2 ⟨s, rfl, hR, b2⟩; obtain ⟨gp, hgp, C0⟩ := hR.head; rw [← HC.out.2] at C0)
  have HR := Lib.hid (And.intro hR (And.intro hgp b2))
  have hsz2 := b2.size
  clear hR hgp b2 HN C0
  go_loopw [6, 7, 8, 9, 10, 11, 20] (fun s6 s7 s8 s9 s10 s11 s20 wr => ∃ (k m cc : Nat) (U : Option Addr) (T : List FrE), s20 = .int .i64 (k : Nat) ∧ k ≤ n ∧ s6 = .slice U m cc ∧ Hid (m = T.length ∧ OwnR wr w2.heap.size 45 encFrE 11 (.slice U m cc) T ∧ Below w2.heap.size w2 wr ∧ (∀ j x, T[j]? = some x → ChF C j x.f) ∧ m = if k = n then chN C else k))
    (fun _ _ _ _ _ _ s20 _ => n - (intOf s20).toNat)
  case atStart =>
    have hpos : 0 < C.length := List.length_pos_iff.2 HC.out.1.ne
    exact ⟨0, 0, 0, none, [], by go_num, Nat.zero_le _, rfl, Lib.hid ⟨rfl, OwnR.nil _ _ _ _ _, Below.refl _ _, fun j x hj => by simp at hj, by rw [if_neg (by rw [HC.out.2]; omega)]⟩⟩
  case round =>
    obtain ⟨k, m, cc, U, T, rfl, hk, rfl, HI⟩ := hrel
    by_cases hkn : k < n
    · have hkn2 : (k : Int) < (n : Int) := by omega
      obtain ⟨L, hL⟩ : ∃ L, C[k]? = some L := ⟨_, List.getElem?_eq_getElem (by rw [← HC.out.2]; exact hkn)⟩
      have hR9 := HR.out.1.below HI.out.2.2.1
      obtain ⟨p, hp, hpL⟩ := hR9.get hL
      subst hpL
      obtain ⟨gp', e1, c1, c2, c3, c4⟩ := hR9.rd.part hp
      rw [HR.out.2.1] at e1
      injection e1 with e1
      injection e1 with e1
      subst e1
      obtain ⟨wi, hwi⟩ : ∃ wi, wi = wr := ⟨_, rfl⟩
      rw [← hwi] at HI c1 c2 c3 c4 ⊢
      obtain ⟨bn, hbn⟩ : ∃ b, b = (bitsL p.L).length := ⟨_, rfl⟩
      obtain ⟨pn, hpn⟩ : ∃ b, b = (pack (bitsL p.L)).length := ⟨_, rfl⟩
      obtain ⟨ln, hln⟩ : ∃ b, b = p.L.length := ⟨_, rfl⟩
      rw [← hbn] at c2
      rw [← hpn] at c1
      rw [← hln] at c3
      have HP := Lib.hid (And.intro hL hln)
      have HS4 := Lib.hid (bstart_any wi (prS s) k (by omega))
      have bI : Below w.heap.size w wi := HR.out.2.2.trans (HI.out.2.2.1.mono hsz2)
      have HbI := Lib.hid bI
      clear hR9 hp hL hwi hbn hpn hln bI
      go_upto_region 6 with fail
      have hb8 := Blk.new wi 75 #[.slice p.A pn p.c, .int .i64 (bn : Nat), .slice p.E ln p.ec, .int .i64 ((p.ah : Nat) : Int)]
      have b4 : Below wi.heap.size wi (wi.alloc (.cells #[.slice p.A pn p.c, .int .i64 (bn : Nat), .slice p.E ln p.ec, .int .i64 ((p.ah : Nat) : Int)] 75)) := below_alloc _ _
      generalize hV4 : World.alloc _ _ = V4 at hb8 b4 ⊢
      obtain ⟨g8, hg8⟩ : ∃ g, g = wi.heap.size := ⟨_, rfl⟩
      rw [← hg8] at hb8 ⊢
      have D1 := cells_say hb8 _ 0 rfl
      simp only [cellsSay, List.drop_zero, Nat.reduceAdd, and_true] at D1
      have H4 := Lib.hid (And.intro (HI.out.2.1.below b4) (And.intro (HI.out.2.2.1.trans (b4.mono HI.out.2.2.1.size)) (HbI.out.trans (b4.mono HbI.out.size))))
      have HM := Lib.hid (And.intro HI.out.1 HI.out.2.2.2)
      clear c1 c2 c3 c4 hV4 hg8 hb8 b4 HI HbI
      by_cases hl0 : 0 < ln
      · have hl1 : (0 : Int) < (ln : Int) := by omega
        have HS5 := Lib.hid (bstart_any V4 (prS s) k (by omega))
        have hcc := chunk_cut (x := x) HC.out.1 HP.out.1 (fun e => by have h1 := HP.out.2; rw [e] at h1; simp at h1; omega)
        have hCt := fun (W : World) (hb : Below w.heap.size w W) => HCt.out W hb k (by omega)
        obtain ⟨R, hR1⟩ : ∃ R, R = cutF x C k 0 0 9223372036854775807 := ⟨_, rfl⟩
        rw [← hR1] at hcc hCt
        clear hR1
        obtain ⟨⟨kd, ep, se, fc, fb, fn, cn, cl, sm, fl, nn⟩, ⟨t1, t2, t3⟩, er⟩ := R
        obtain ⟨er0, hcF⟩ := hcc
        replace er0 : er = 0 := er0
        subst er0
        have HCut := Lib.hid hCt
        have HCF := Lib.hid hcF
        clear hcF hCt
        go_upto_region 8 with (first | (go_at_call 29; refine HS5.out.mono ?_; rintro e w5 ⟨rfl, b5⟩) | (go_at_call 12; refine (HCut.out _ (H4.out.2.2.trans (b5.mono H4.out.2.2.size))).mono ?_; rintro e w6 ⟨⟨A3, c3, rfl, ho⟩, b6⟩; simp only [frC]))
        have b56 := b5.trans (b6.mono b5.size)
        have bV := below_alloc2 w6 (.cells #[.int .u8 ((kd : Nat) : Int), .int .u32 ((ep : Nat) : Int), .int .u32 ((se : Nat) : Int), .int .u32 ((fc : Nat) : Int), .int .u32 ((fb : Nat) : Int), .int .u32 ((fn : Nat) : Int), .int .u32 ((cn : Nat) : Int), .bool cl, .int .u64 ((sm : Nat) : Int), .slice A3 fl.length c3, .int .i64 nn] 45) (.cells #[.int .u32 ((t1 : Nat) : Int), .int .u32 ((t2 : Nat) : Int), .int .u32 ((t3 : Nat) : Int)] 35)
        have hb9 := (Blk.new w6 45 #[.int .u8 ((kd : Nat) : Int), .int .u32 ((ep : Nat) : Int), .int .u32 ((se : Nat) : Int), .int .u32 ((fc : Nat) : Int), .int .u32 ((fb : Nat) : Int), .int .u32 ((fn : Nat) : Int), .int .u32 ((cn : Nat) : Int), .bool cl, .int .u64 ((sm : Nat) : Int), .slice A3 fl.length c3, .int .i64 nn]).below (below_alloc (w6.alloc (.cells #[.int .u8 ((kd : Nat) : Int), .int .u32 ((ep : Nat) : Int), .int .u32 ((se : Nat) : Int), .int .u32 ((fc : Nat) : Int), .int .u32 ((fb : Nat) : Int), .int .u32 ((fn : Nat) : Int), .int .u32 ((cn : Nat) : Int), .bool cl, .int .u64 ((sm : Nat) : Int), .slice A3 fl.length c3, .int .i64 nn] 45)) (.cells #[.int .u32 ((t1 : Nat) : Int), .int .u32 ((t2 : Nat) : Int), .int .u32 ((t3 : Nat) : Int)] 35)) (Blk.new w6 45 #[.int .u8 ((kd : Nat) : Int), .int .u32 ((ep : Nat) : Int), .int .u32 ((se : Nat) : Int), .int .u32 ((fc : Nat) : Int), .int .u32 ((fb : Nat) : Int), .int .u32 ((fn : Nat) : Int), .int .u32 ((cn : Nat) : Int), .bool cl, .int .u64 ((sm : Nat) : Int), .slice A3 fl.length c3, .int .i64 nn]).lt
        have h6 := H4.out.1.below b56
        have h6b := H4.out.2.1.trans (b56.mono H4.out.2.1.size)
        obtain ⟨g10, hg10⟩ : ∃ g, g = w6.heap.size + 1 := ⟨_, rfl⟩
        obtain ⟨g9, hg9⟩ : ∃ g, g = w6.heap.size := ⟨_, rfl⟩
        rw [← hg9] at hb9
        rw [← hg10, ← hg9]
        generalize hV7 : World.alloc (World.alloc _ _) _ = V7 at hb9 bV ⊢
        have D7 := cells_say hb9 _ 0 rfl
        simp only [cellsSay, List.drop_zero, Nat.reduceAdd, and_true] at D7
        have H7 := Lib.hid (And.intro (h6.below bV) (h6b.trans (bV.mono h6b.size)))
        have hz7 := H7.out.2.size
        have hm1 : m ≤ 1001 := by
          have h1 := HM.out.2.2
          rw [if_neg (by omega)] at h1
          omega
        clear b5 b6 b56 bV hb9 h6 h6b hg9 hg10 hV7 ho D1 H4 HS4 HS5 HCut
        go_upto_region 9 with (at_builtin; go_must (refine appR1 Tryd.eltFrE _ rfl (.tmp 39) (.tmp 41) rfl w2.heap.size (.slice U m cc) T (by simp [Act.eval, Act.put]) (H7.out.1.alloc _) V7.heap.size 1 ⟨⟨kd, ep, se, fc, fb, fn, cn, cl, sm, fl, nn⟩, A3, c3⟩ 45 #[.int .u8 ((kd : Nat) : Int), .int .u32 ((ep : Nat) : Int), .int .u32 ((se : Nat) : Int), .int .u32 ((fc : Nat) : Int), .int .u32 ((fb : Nat) : Int), .int .u32 ((fn : Nat) : Int), .int .u32 ((cn : Nat) : Int), .bool cl, .int .u64 ((sm : Nat) : Int), .slice A3 fl.length c3, .int .i64 nn] rfl (Blk.new V7 _ _) rfl (by unfold maxLen; rw [← HM.out.1]; omega) (by rw [← HM.out.1]; omega) (by rw [World.size_alloc]; omega) ?_); intro g11 c11 w11 hown11 hb11 hg11; rw [← HM.out.1] at hown11 ⊢)
        have HE := Lib.hid (And.intro hown11 ((H7.out.2.trans ((below_alloc _ _).mono H7.out.2.size)).trans hb11))
        clear hown11 hb11 hg11 D7
        go_wp2_with fail
        go_roundw
        case measure => simp [intOf]; omega
        case rel =>
          refine ⟨k + 1, m + 1, c11, some ⟨g11, 0, none⟩, T ++ [⟨⟨kd, ep, se, fc, fb, fn, cn, cl, sm, fl, nn⟩, A3, c3⟩], by go_num, by omega, rfl, Lib.hid ⟨by rw [List.length_append, List.length_singleton, HM.out.1], HE.out.1, HE.out.2, fun j x hj => ?_, ?_⟩⟩
          · have hmk : T.length = k := by
              have h1 := HM.out.2.2
              rw [if_neg (by omega), HM.out.1] at h1
              exact h1
            rw [List.getElem?_append] at hj
            split at hj
            · exact HM.out.2.1 j x hj
            · rename_i hjl
              have hj2 := (List.getElem?_eq_some_iff.1 hj).1
              rw [List.length_singleton] at hj2
              rw [show j = k by omega] at hj ⊢
              rw [show k - T.length = 0 by omega] at hj
              injection hj with hj
              rw [← hj]
              exact HCF.out
          · have h1 := HM.out.2.2
            rw [if_neg (by omega)] at h1
            split
            · rename_i hk1
              have h2 : lastL C = p.L := last_at HP.out.1 (by rw [← HC.out.2]; omega)
              unfold chN
              rw [if_neg (by rw [h2]; intro e; have h3 := HP.out.2; rw [e] at h3; simp at h3; omega), ← HC.out.2]
              omega
            · omega
      · have hl1 : ¬ (0 : Int) < (ln : Int) := by omega
        go_wp2_with fail
        go_roundw
        case measure => simp [intOf]; omega
        case rel =>
          have hLe : p.L = [] := List.length_eq_zero_iff.1 (by rw [← HP.out.2]; omega)
          have hk1 : k + 1 = n := by
            have h3 : ¬ k < C.length - 1 := fun h => by
              have h4 : C.dropLast[k]? = some p.L := by rw [List.getElem?_dropLast, if_pos h]; exact HP.out.1
              exact HC.out.1.full _ (List.mem_of_getElem? h4) hLe
            have := HC.out.2
            omega
          have h1 := HM.out.2.2
          rw [if_neg (by omega)] at h1
          refine ⟨k + 1, m, cc, U, T, by go_num, by omega, rfl, Lib.hid ⟨HM.out.1, H4.out.1, H4.out.2.1, HM.out.2.1, ?_⟩⟩
          have h2 : lastL C = p.L := last_at HP.out.1 (by rw [← HC.out.2]; omega)
          rw [if_pos hk1]
          unfold chN
          rw [if_pos (by rw [h2, hLe]), ← HC.out.2]
          omega
    · have hkn2 : ¬ (k : Int) < (n : Int) := by omega
      have hkk : k = n := by omega
      have HF := Lib.hid hkk
      clear hkk
      go_wp2_with fail
      have hI := HI.out
      rw [if_pos HF.out] at hI
      go_ret
      exact ⟨U, cc, T, by rw [← hI.1]; rfl, by rw [← hI.1]; exact hI.2.1.mono hsz2, ⟨by rw [← hI.1]; exact hI.2.2.2.2, hI.2.2.2.1⟩, HR.out.2.2.trans (hI.2.2.1.mono hsz2)⟩
end Go.Proofs.YtiipmjdmmoaodaaDoor
