/- Joined: Bk48. -/
import Derived.Test.YtiliineopplinaaDoorQ44
import Derived.Test.YtiliineopplinaaDoorQ45
set_option linter.unusedSimpArgs false
set_option linter.unusedVariables false
/- Layer 12: Chunks, each frame whole, its bits as a thing. -/
set_option linter.unusedSimpArgs false
set_option linter.unusedVariables false
namespace Go.Proofs.YtiliineopplinaaDoor
open Go.RowKit
set_option maxRecDepth 100000

theorem Sep.rebase {w w2 W : World} {us : List Kt} (h : Sep w2.heap.size w2 W us) (b : Below w.heap.size w w2) : Sep w.heap.size w W us :=
  ⟨b.trans (h.b.mono b.size), Nat.le_trans b.size h.sz, fun t ht => ⟨(h.all t ht).1, fun k hk => Nat.le_trans b.size ((h.all t ht).2 k hk)⟩, h.ap⟩
/-- a chunk whole, as a frame -/
def chFr (x : Nat) (C : CsT) (k : Nat) : FrD := (cutF x C k 0 0 9223372036854775807).1
def frB (y : FrE) : Kt := thO (.slice y.A y.f.l.length y.c) y.f.l
/-- a list of frames, and each one's bits -/
def chT (v : Value) (T : List FrE) : List Kt := thR 59 encFrE 11 v T :: T.map frB
def ChO (w : World) (x : Nat) (C : CsT) (e : Ending) (w' : World) : Prop := ∃ U n T, e = .returned (.slice U T.length n) ∧ Sep w.heap.size w w' (chT (.slice U T.length n) T) ∧ T.length = chN C ∧ ∀ j y, T[j]? = some y → y.f = chFr x C j ∧ ChF C j y.f
set_option maxHeartbeats 8000000 in
theorem bChunks_sep {w : World} {X : Bl} (h : RdK w X) (ok : OkB X) (x : Nat) (hx : x < 4294967296) : Calls Tryd.prog 12 #[prB X, .int .u32 (x : Nat)] w (ChO w x (X.D.at_ x)) := by
  have hmx : Tryd.prog.follows .mixedOrders = true := by kernel_rfl
  have HN := Lib.hid (bser_any h ok x hx)
  have hoc := ok.D.at_ x
  obtain ⟨C, hC⟩ : ∃ C, C = X.D.at_ x := ⟨_, rfl⟩
  have HCt := fun (W : World) (hb : Below w.heap.size w W) (k : Nat) (hk : k < 4294967296) => bCut_any (h.below hb) ok x hx k 0 0 9223372036854775807 hk (by decide) (by decide) (by unfold in64; omega)
  rw [← hC] at HN hoc HCt ⊢
  replace HCt := Lib.hid HCt
  obtain ⟨n, hn⟩ : ∃ n, n = C.length := ⟨_, rfl⟩
  have hn1 : n ≤ 1001 := by rw [hn]; exact hoc.few
  have HC := Lib.hid (And.intro hoc hn)
  clear h ok hC hoc hn
  go_enter Tryd.func12, Tryd.ntmps12
  go_upto_region 1 with fail
  go_wp2_with (go_at_call 24; refine HN.out.mono ?_; rintro e w2 ⟨s, rfl, hR, b2⟩; obtain ⟨gp, hgp, C0⟩ := hR.head; rw [← HC.out.2] at C0)
  have HR := Lib.hid (And.intro hR (And.intro hgp b2))
  have hsz2 := b2.size
  clear hR hgp b2 HN C0
  go_loopw [6, 7, 8, 9, 10, 11, 20] (fun s6 s7 s8 s9 s10 s11 s20 wr => ∃ (k m cc : Nat) (U : Option Addr) (T : List FrE), s20 = .int .i64 (k : Nat) ∧ k ≤ n ∧ s6 = .slice U m cc ∧ Hid (m = T.length ∧ Sep w2.heap.size w2 wr (chT (.slice U m cc) T) ∧ (∀ j y, T[j]? = some y → y.f = chFr x C j ∧ ChF C j y.f) ∧ m = if k = n then chN C else k))
    (fun _ _ _ _ _ _ s20 _ => n - (intOf s20).toNat)
  case atStart =>
    have hpos : 0 < C.length := List.length_pos_iff.2 HC.out.1.ne
    exact ⟨0, 0, 0, none, [], by go_num, Nat.zero_le _, rfl, Lib.hid ⟨rfl, (Sep.nil (Below.refl w2.heap.size w2) (Nat.le_refl _)).addNilR 59 encFrE 11, fun j x hj => by simp at hj, by rw [if_neg (by rw [HC.out.2]; omega)]⟩⟩
  case round =>
    obtain ⟨k, m, cc, U, T, rfl, hk, rfl, HI⟩ := hrel
    by_cases hkn : k < n
    · have hkn2 : (k : Int) < (n : Int) := by omega
      obtain ⟨L, hL⟩ : ∃ L, C[k]? = some L := ⟨_, List.getElem?_eq_getElem (by rw [← HC.out.2]; exact hkn)⟩
      have hR9 := HR.out.1.below HI.out.2.1.b
      obtain ⟨p, hp, hpL⟩ := hR9.get hL
      subst hpL
      obtain ⟨gp', e1, c1, c2, c3, c4⟩ := hR9.rd.part hp
      rw [HR.out.2.1] at e1
      injection e1 with e1
      injection e1 with e1
      subst e1
      obtain ⟨wi, hwi⟩ : ∃ wi, wi = wr := ⟨_, rfl⟩
      rw [← hwi] at HI c1 c2 c3 c4 ⊢
      obtain ⟨bn, hbn⟩ : ∃ b, b = (bitsL p.L).length := ⟨_, rfl⟩
      obtain ⟨pn, hpn⟩ : ∃ b, b = (pack (bitsL p.L)).length := ⟨_, rfl⟩
      obtain ⟨ln, hln⟩ : ∃ b, b = p.L.length := ⟨_, rfl⟩
      rw [← hbn] at c2
      rw [← hpn] at c1
      rw [← hln] at c3
      have HP := Lib.hid (And.intro hL hln)
      have HS4 := Lib.hid (bstart_any wi (prS s) k (by omega))
      have bI : Below w.heap.size w wi := HR.out.2.2.trans (HI.out.2.1.b.mono hsz2)
      have HbI := Lib.hid bI
      clear hR9 hp hL hwi hbn hpn hln bI
      go_upto_region 6 with fail
      have hb8 := Blk.new wi 92 #[.slice p.A pn p.c, .int .i64 (bn : Nat), .slice p.E ln p.ec, .int .i64 ((p.ah : Nat) : Int)]
      have b4 : Below wi.heap.size wi (wi.alloc (.cells #[.slice p.A pn p.c, .int .i64 (bn : Nat), .slice p.E ln p.ec, .int .i64 ((p.ah : Nat) : Int)] 92)) := below_alloc _ _
      generalize hV4 : World.alloc _ _ = V4 at hb8 b4 ⊢
      obtain ⟨g8, hg8⟩ : ∃ g, g = wi.heap.size := ⟨_, rfl⟩
      rw [← hg8] at hb8 ⊢
      have D1 := cells_say hb8 _ 0 rfl
      simp only [cellsSay, List.drop_zero, Nat.reduceAdd, and_true] at D1
      have H4 := Lib.hid (And.intro (HI.out.2.1.go b4) (HbI.out.trans (b4.mono HbI.out.size)))
      have HM := Lib.hid (And.intro HI.out.1 HI.out.2.2)
      clear c1 c2 c3 c4 hV4 hg8 hb8 b4 HI HbI
      by_cases hl0 : 0 < ln
      · have hl1 : (0 : Int) < (ln : Int) := by omega
        have HS5 := Lib.hid (bstart_any V4 (prS s) k (by omega))
        have hcc0 := chunk_cut (x := x) HC.out.1 HP.out.1 (fun e => by have h1 := HP.out.2; rw [e] at h1; simp at h1; omega)
        have hcc := And.intro hcc0 (show (cutF x C k 0 0 9223372036854775807).1 = chFr x C k from rfl)
        have hCt := fun (W : World) (hb : Below w.heap.size w W) => HCt.out W hb k (by omega)
        obtain ⟨CF, hCF⟩ : ∃ F, F = chFr x C k := ⟨_, rfl⟩
        rw [← hCF] at hcc
        clear hcc0
        obtain ⟨R, hR1⟩ : ∃ R, R = cutF x C k 0 0 9223372036854775807 := ⟨_, rfl⟩
        rw [← hR1] at hcc hCt
        clear hR1
        obtain ⟨⟨kd, ep, se, fc, fb, fn, cn, cl, sm, fl, nn⟩, ⟨t1, t2, t3⟩, er⟩ := R
        obtain ⟨⟨er0, hcF0⟩, hcF1⟩ := hcc
        have hcF := And.intro (hcF1.trans hCF) hcF0
        clear hcF0 hcF1 hCF
        replace er0 : er = 0 := er0
        subst er0
        have HCut := Lib.hid hCt
        have HCF := Lib.hid hcF
        clear hcF hCt
        go_upto_region 8 with (first | (go_at_call 26; refine HS5.out.mono ?_; rintro e w5 ⟨rfl, b5⟩) | (go_at_call 25; refine (HCut.out _ (H4.out.2.trans (b5.mono H4.out.2.size))).mono ?_; rintro e w6 ⟨⟨A3, c3, rfl, ho⟩, b6⟩; simp only [frC]))
        have b56 := b5.trans (b6.mono b5.size)
        have bV := below_alloc2 w6 (.cells #[.int .u8 ((kd : Nat) : Int), .int .u32 ((ep : Nat) : Int), .int .u32 ((se : Nat) : Int), .int .u32 ((fc : Nat) : Int), .int .u32 ((fb : Nat) : Int), .int .u32 ((fn : Nat) : Int), .int .u32 ((cn : Nat) : Int), .bool cl, .int .u64 ((sm : Nat) : Int), .slice A3 fl.length c3, .int .i64 nn] 59) (.cells #[.int .u32 ((t1 : Nat) : Int), .int .u32 ((t2 : Nat) : Int), .int .u32 ((t3 : Nat) : Int)] 54)
        have hb9 := (Blk.new w6 59 #[.int .u8 ((kd : Nat) : Int), .int .u32 ((ep : Nat) : Int), .int .u32 ((se : Nat) : Int), .int .u32 ((fc : Nat) : Int), .int .u32 ((fb : Nat) : Int), .int .u32 ((fn : Nat) : Int), .int .u32 ((cn : Nat) : Int), .bool cl, .int .u64 ((sm : Nat) : Int), .slice A3 fl.length c3, .int .i64 nn]).below (below_alloc (w6.alloc (.cells #[.int .u8 ((kd : Nat) : Int), .int .u32 ((ep : Nat) : Int), .int .u32 ((se : Nat) : Int), .int .u32 ((fc : Nat) : Int), .int .u32 ((fb : Nat) : Int), .int .u32 ((fn : Nat) : Int), .int .u32 ((cn : Nat) : Int), .bool cl, .int .u64 ((sm : Nat) : Int), .slice A3 fl.length c3, .int .i64 nn] 59)) (.cells #[.int .u32 ((t1 : Nat) : Int), .int .u32 ((t2 : Nat) : Int), .int .u32 ((t3 : Nat) : Int)] 54)) (Blk.new w6 59 #[.int .u8 ((kd : Nat) : Int), .int .u32 ((ep : Nat) : Int), .int .u32 ((se : Nat) : Int), .int .u32 ((fc : Nat) : Int), .int .u32 ((fb : Nat) : Int), .int .u32 ((fn : Nat) : Int), .int .u32 ((cn : Nat) : Int), .bool cl, .int .u64 ((sm : Nat) : Int), .slice A3 fl.length c3, .int .i64 nn]).lt
        have h6 := ((H4.out.1.go b5).cons (t := thO (.slice A3 fl.length c3) fl) b6 (ho.mono (Nat.zero_le _)) (fun k hk => (World.ownsRow.lt ho k hk).1))
        obtain ⟨g10, hg10⟩ : ∃ g, g = w6.heap.size + 1 := ⟨_, rfl⟩
        obtain ⟨g9, hg9⟩ : ∃ g, g = w6.heap.size := ⟨_, rfl⟩
        rw [← hg9] at hb9
        rw [← hg10, ← hg9]
        generalize hV7 : World.alloc (World.alloc _ _) _ = V7 at hb9 bV ⊢
        have D7 := cells_say hb9 _ 0 rfl
        simp only [cellsSay, List.drop_zero, Nat.reduceAdd, and_true] at D7
        have H7 := Lib.hid ((h6.go bV).box #[.int .u8 ((kd : Nat) : Int), .int .u32 ((ep : Nat) : Int), .int .u32 ((se : Nat) : Int), .int .u32 ((fc : Nat) : Int), .int .u32 ((fb : Nat) : Int), .int .u32 ((fn : Nat) : Int), .int .u32 ((cn : Nat) : Int), .bool cl, .int .u64 ((sm : Nat) : Int), .slice A3 fl.length c3, .int .i64 nn] 59)
        have hm1 : m ≤ 1001 := by
          have h1 := HM.out.2.2
          rw [if_neg (by omega)] at h1
          omega
        clear b5 b6 b56 bV hb9 h6 hg9 hg10 hV7 ho D1 H4 HS4 HS5 HCut
        go_upto_region 9 with (at_builtin; go_must (refine sep_app1 Tryd.eltFrE rfl (.tmp 39) (.tmp 41) rfl 2 (.slice U m cc) T (by simp [Act.eval, Act.put]) H7.out rfl V7.heap.size 1 ⟨⟨kd, ep, se, fc, fb, fn, cn, cl, sm, fl, nn⟩, A3, c3⟩ 59 #[.int .u8 ((kd : Nat) : Int), .int .u32 ((ep : Nat) : Int), .int .u32 ((se : Nat) : Int), .int .u32 ((fc : Nat) : Int), .int .u32 ((fb : Nat) : Int), .int .u32 ((fn : Nat) : Int), .int .u32 ((cn : Nat) : Int), .bool cl, .int .u64 ((sm : Nat) : Int), .slice A3 fl.length c3, .int .i64 nn] rfl (H7.out.blk 0) rfl (by unfold maxLen; rw [← HM.out.1]; omega) (by rw [← HM.out.1]; omega) ?_); intro g11 c11 w11 hS11; rw [← HM.out.1] at hS11 ⊢)
        have hS12 := hS11.tail
        simp only [List.set_cons_succ, List.set_cons_zero, List.tail_cons] at hS12
        have HE := Lib.hid hS12
        clear hS11 hS12 D7
        go_wp2_with fail
        go_roundw
        case measure => simp [intOf]; omega
        case rel =>
          refine ⟨k + 1, m + 1, c11, some ⟨g11, 0, none⟩, T ++ [⟨⟨kd, ep, se, fc, fb, fn, cn, cl, sm, fl, nn⟩, A3, c3⟩], by go_num, by omega, rfl, Lib.hid ⟨by rw [List.length_append, List.length_singleton, HM.out.1], ?_, fun j x hj => ?_, ?_⟩⟩
          · refine HE.out.permB ?_
            unfold chT
            rw [List.map_append]
            exact (List.perm_append_singleton (frB ⟨⟨kd, ep, se, fc, fb, fn, cn, cl, sm, fl, nn⟩, A3, c3⟩) (thR 59 encFrE 11 (.slice (some ⟨g11, 0, none⟩) (m + 1) c11) (T ++ [⟨⟨kd, ep, se, fc, fb, fn, cn, cl, sm, fl, nn⟩, A3, c3⟩]) :: T.map frB)).symm
          · have hmk : T.length = k := by
              have h1 := HM.out.2.2
              rw [if_neg (by omega), HM.out.1] at h1
              exact h1
            rw [List.getElem?_append] at hj
            split at hj
            · exact HM.out.2.1 j x hj
            · rename_i hjl
              have hj2 := (List.getElem?_eq_some_iff.1 hj).1
              rw [List.length_singleton] at hj2
              rw [show j = k by omega] at hj ⊢
              rw [show k - T.length = 0 by omega] at hj
              injection hj with hj
              rw [← hj]
              exact HCF.out
          · have h1 := HM.out.2.2
            rw [if_neg (by omega)] at h1
            split
            · rename_i hk1
              have h2 : lastL C = p.L := last_at HP.out.1 (by rw [← HC.out.2]; omega)
              unfold chN
              rw [if_neg (by rw [h2]; intro e; have h3 := HP.out.2; rw [e] at h3; simp at h3; omega), ← HC.out.2]
              omega
            · omega
      · have hl1 : ¬ (0 : Int) < (ln : Int) := by omega
        go_wp2_with fail
        go_roundw
        case measure => simp [intOf]; omega
        case rel =>
          have hLe : p.L = [] := List.length_eq_zero_iff.1 (by rw [← HP.out.2]; omega)
          have hk1 : k + 1 = n := by
            have h3 : ¬ k < C.length - 1 := fun h => by
              have h4 : C.dropLast[k]? = some p.L := by rw [List.getElem?_dropLast, if_pos h]; exact HP.out.1
              exact HC.out.1.full _ (List.mem_of_getElem? h4) hLe
            have := HC.out.2
            omega
          have h1 := HM.out.2.2
          rw [if_neg (by omega)] at h1
          refine ⟨k + 1, m, cc, U, T, by go_num, by omega, rfl, Lib.hid ⟨HM.out.1, H4.out.1, HM.out.2.1, ?_⟩⟩
          have h2 : lastL C = p.L := last_at HP.out.1 (by rw [← HC.out.2]; omega)
          rw [if_pos hk1]
          unfold chN
          rw [if_pos (by rw [h2, hLe]), ← HC.out.2]
          omega
    · have hkn2 : ¬ (k : Int) < (n : Int) := by omega
      have hkk : k = n := by omega
      have HF := Lib.hid hkk
      clear hkk
      go_wp2_with fail
      have hI := HI.out
      rw [if_pos HF.out] at hI
      go_ret
      exact ⟨U, cc, T, by rw [← hI.1]; rfl, by rw [← hI.1]; exact hI.2.1.rebase HR.out.2.2, by rw [← hI.1]; exact hI.2.2.2, hI.2.2.1⟩
/-- what lies new beside what was there -/
theorem Bk.consL {B : Nat} {w0 w w' : World} {q : Nat} {D : BD} {ts us : List Kt} (h : Bk B w0 w q D ts) (hs : Sep w.heap.size w w' us) : Bk B w0 w' q D (us ++ ts) := by
  obtain ⟨X, h1, h2, ok, hS⟩ := h
  refine ⟨X, h1, h2, ok, (hS.consL (us := us) hs.b (fun t ht => hs.all t ht) hs.ap).permB ?_⟩
  exact List.perm_middle
theorem bk_chunksS {B : Nat} {w0 w : World} {q : Nat} {D : BD} {ts : List Kt} (h : Bk B w0 w q D ts) (x : Nat) (hx : x < 4294967296) : Calls Tryd.prog 12 #[ptB q, .int .u32 (x : Nat)] w (ChO w x (D.at_ x)) := by
  obtain ⟨X, rfl, rfl, ok, hS⟩ := h
  exact bChunks_sep (RdK.of (hS.at_ 0 rfl)) ok x hx
end Go.Proofs.YtiliineopplinaaDoor
