/- Joined: Bk37, Bk45, Bk47. -/
import Derived.Test.YtiipmjdmmoaodaaGreatDoorQ45
import Derived.Test.YtiipmjdmmoaodaaGreatDoorQ43
import Derived.Test.YtiipmjdmmoaodaaGreatDoorQ44
import Derived.Test.YtiipmjdmmoaodaaGreatDoorQ50
import Derived.Test.YtiipmjdmmoaodaaGreatDoorQ47
set_option linter.unusedSimpArgs false
set_option linter.unusedVariables false
/- Layer 12: walk of BookKeeps. -/
set_option linter.unusedSimpArgs false
set_option linter.unusedVariables false
namespace Go.Proofs.YtiipmjdmmoaodaaGreatDoor
open Go.RowKit
set_option maxRecDepth 100000

section
variable {B : Nat} {w0 w w' : World} {q : Nat} {D : BD} {ts us : List Kt}
theorem bk_samples (h : Bk B w0 w q D ts) (hT : Tab w) (x : Nat) (hx : x < 4294967296) : Calls Tryz.prog 12 #[ptB q, .int .u32 (x : Nat)] w fun e w' => ∃ U n, e = .returned (.slice U (D.at_ x).flatten.length n) ∧ OwnR w' w.heap.size 33 smp 2 (.slice U (D.at_ x).flatten.length n) (D.at_ x).flatten ∧ Below w.heap.size w w' := by
  obtain ⟨X, rfl, rfl, ok, hS⟩ := h
  exact bSamples_any (RdK.of (hS.at_ 0 rfl)) ok hT x hx
theorem bk_series (h : Bk B w0 w q D ts) : Calls Tryz.prog 14 #[ptB q] w (SrtO w (D.M.map Prod.fst)) := by
  obtain ⟨X, rfl, rfl, ok, hS⟩ := h
  exact bSeries_any (RdK.of (hS.at_ 0 rfl)) ok
theorem bk_seriesN (h : Bk B w0 w q D ts) : Calls Tryz.prog 14 #[ptB q] w fun e w' => ∃ U c, e = .returned (.slice U D.M.length c) ∧ Below w.heap.size w w' := by
  refine (bk_series h).mono ?_
  rintro e w' ⟨U, c, xs, rfl, h1, h2, h3, h4⟩
  have hl := h1.length_eq
  rw [List.length_map] at hl
  rw [hl]
  exact ⟨U, c, rfl, h4⟩
end
theorem csame_eq (V U : Option Addr) (n c d : Nat) (a : List (Int × Nat)) (w : World) (hn : n = a.length) (hV : Rw w smp 2 V a) (hU : Rw w smp 2 U a) (hal : a.length ≤ 4096) :
    Calls Tryz.prog 11 #[.slice V n c, .slice U n d] w fun e w' => e = .returned (.bool true) ∧ Below w.heap.size w w' := by
  have := csame_any V U c d a a w hV.ss hU.ss hal hal
  rw [decide_eq_true rfl] at this
  rw [hn]
  exact this
end Go.Proofs.YtiipmjdmmoaodaaGreatDoor

/- Layer 12: two books by their data, beside other things. -/
set_option linter.unusedSimpArgs false
set_option linter.unusedVariables false
namespace Go.Proofs.YtiipmjdmmoaodaaGreatDoor
open Go.RowKit
set_option maxRecDepth 100000

/-- two books by their data -/
def Bk2 (B : Nat) (w0 w : World) (q : Nat) (D : BD) (p : Nat) (E : BD) (ts : List Kt) : Prop := ∃ Y : Bl, Y.q = p ∧ Y.D = E ∧ OkB Y ∧ Bk B w0 w q D (thBk Y :: ts)
section
variable {B : Nat} {w0 w w' : World} {q p : Nat} {D E : BD} {ts us : List Kt}
theorem Bk2.swap (h : Bk2 B w0 w q D p E ts) : Bk2 B w0 w p E q D ts := by
  obtain ⟨Y, h1, h2, h3, X, h4, h5, h6, h7⟩ := h
  exact ⟨X, h4, h5, h6, Y, h1, h2, h3, h7.permB (List.Perm.swap _ _ _)⟩
theorem Bk2.fst (h : Bk2 B w0 w q D p E ts) : ∃ us, Bk B w0 w q D us := by
  obtain ⟨Y, h1, h2, h3, h4⟩ := h
  exact ⟨_, h4⟩
theorem Bk2.snd (h : Bk2 B w0 w q D p E ts) : ∃ us, Bk B w0 w p E us := h.swap.fst
theorem Bk2.go (h : Bk2 B w0 w q D p E ts) (b : Below w.heap.size w w') : Bk2 B w0 w' q D p E ts := by
  obtain ⟨Y, h1, h2, h3, h4⟩ := h
  exact ⟨Y, h1, h2, h3, h4.go b⟩
theorem Bk2.sep (h : Bk2 B w0 w q D p E ts) : Sep B w0 w ts := by
  obtain ⟨Y, h1, h2, h3, h4⟩ := h
  exact h4.sep.tail
theorem Bk2.b (h : Bk2 B w0 w q D p E ts) : Below B w0 w := h.sep.b
theorem Bk2.box (h : Bk2 B w0 w q D p E ts) (cs : Array Value) (t : TypeId) : Bk2 B w0 (w.alloc (.cells cs t)) q D p E (thB w.heap.size t cs :: ts) := by
  obtain ⟨Y, h1, h2, h3, h4⟩ := h
  exact ⟨Y, h1, h2, h3, (h4.box cs t).perm (List.Perm.swap _ _ _)⟩
theorem Bk2.tail {t : Kt} (h : Bk2 B w0 w q D p E (t :: ts)) : Bk2 B w0 w q D p E ts := by
  obtain ⟨Y, h1, h2, h3, h4⟩ := h
  exact ⟨Y, h1, h2, h3, (h4.perm (List.Perm.swap _ _ _)).tail⟩
theorem Bk2.perm (h : Bk2 B w0 w q D p E ts) (hp : ts.Perm us) : Bk2 B w0 w q D p E us := by
  obtain ⟨Y, h1, h2, h3, h4⟩ := h
  exact ⟨Y, h1, h2, h3, h4.perm (List.Perm.cons _ hp)⟩
theorem bk2_take (h : Bk2 B w0 w q D p E ts) (hT : Tab w) (f : FrD) (hf : f.ok) (A : Option Addr) (c : Nat) (hb : Bs w A f.l) (hl : f.l.length ≤ 1000) (hn : (E.at_ f.se).flatten.length + 24 ≤ 1000) :
    Calls Tryz.prog 8 #[ptB p, .agg (frC f A c)] w fun e w' => e = .returned (.int .u16 ((fitD E f).1 : Nat)) ∧ Bk2 B w0 w' q D p (takeD E f) ts := by
  obtain ⟨X, e1, e2, e3, hS⟩ := h.swap
  refine (bk_take hS hT f hf A c hb hl hn).mono ?_
  rintro e w' ⟨rfl, hB⟩
  exact ⟨rfl, Bk2.swap ⟨X, e1, e2, e3, hB⟩⟩
end
end Go.Proofs.YtiipmjdmmoaodaaGreatDoor

/- Layer 12: Fits; walk of BookRefuses. -/
set_option linter.unusedSimpArgs false
set_option linter.unusedVariables false
namespace Go.Proofs.YtiipmjdmmoaodaaGreatDoor
open Go.RowKit
set_option maxRecDepth 100000

set_option maxHeartbeats 16000000 in
theorem bk_fits {B : Nat} {w0 w : World} {q : Nat} {D : BD} {ts : List Kt} (h : Bk B w0 w q D ts) (hT : Tab w) (f : FrD) (hf : f.ok) (A : Option Addr) (c : Nat) (hb : Bs w A f.l) (hl : f.l.length ≤ 1000) :
    Calls Tryz.prog 7 #[ptB q, .agg (frC f A c)] w fun e w' => e = .returned (.int .u16 ((fitD D f).1 : Nat)) ∧ Below w.heap.size w w' := by
  have hmx : Tryz.prog.follows .mixedOrders = true := by kernel_rfl
  obtain ⟨X, rfl, rfl, ok, hS0⟩ := h
  obtain ⟨W, hW⟩ : ∃ W, W = w.alloc (.cells (frC f A c) 31) := ⟨_, rfl⟩
  obtain ⟨g3, hg3⟩ : ∃ g, g = w.heap.size := ⟨_, rfl⟩
  have bW : Below w.heap.size w W := by rw [hW]; exact below_alloc w _
  have cg : Blk W g3 31 (frC f A c) := by rw [hW, hg3]; exact Blk.new _ _ _
  have HFt := Lib.hid (bfitted_any (RdK.of ((hS0.go bW).at_ 0 rfl)) ok (tabGo hT bW) f hf A c (hb.below bW) hl)
  have HS := Lib.hid ((Sep.nil (Below.refl w.heap.size w) (Nat.le_refl _)).go bW)
  obtain ⟨⟨cd, S⟩, hr⟩ : ∃ r, r = fitD X.D f := ⟨_, rfl⟩
  rw [← hr] at HFt ⊢
  obtain ⟨a, ha⟩ : ∃ a, a = totC (X.D.at_ f.se).dropLast := ⟨_, rfl⟩
  rw [← ha] at HFt
  obtain ⟨kd, ep, se, fc, fb, fn, cn, cl, sm, fl, nn⟩ := f
  have C0 := cells_say cg _ 0 rfl
  simp only [cellsSay, frC, List.drop_zero, Nat.reduceAdd, and_true] at C0
  clear ok hS0 hT hf hb hl bW cg hr ha
  simp only [frC] at hW HFt ⊢
  by_cases h0 : cd = 0
  · subst h0
    go_enter Tryz.func7, Tryz.ntmps7
    go_upto_region 1 with fail
    rw [← hW, ← hg3]
    clear hW hg3
    go_wp2_with (go_at_call 17; refine HFt.out.mono ?_; rintro e w2 ⟨b2, -, he⟩; obtain ⟨A2, c2, E2, ec2, hh, rfl, hh1, ho2, hlt2, hr2⟩ := he rfl; obtain ⟨⟨en, el, ed, ⟨eh, ev, eL, eX⟩⟩, hE0⟩ : ∃ E, E = lastC ec0 S := ⟨_, rfl⟩; simp only [← hE0]; clear hE0)
    go_ret
    exact ⟨rfl, ((HS.out.go b2).go (below_alloc2 w2 _ _)).b⟩
  · have hne : (cd, S).1 ≠ 0 := h0
    go_enter Tryz.func7, Tryz.ntmps7
    go_upto_region 1 with fail
    rw [← hW, ← hg3]
    clear hW hg3
    go_wp2_with (go_at_call 17; refine HFt.out.mono ?_; rintro e w2 ⟨b2, he, -⟩; obtain rfl := he hne)
    go_ret
    exact ⟨rfl, ((HS.out.go b2).go (below_alloc2 w2 _ _)).b⟩
section
variable {B : Nat} {w0 w w' : World} {q p : Nat} {D E : BD} {ts us : List Kt}
theorem Bk2.sub (h : Bk2 B w0 w q D p E ts) (hs : us.Sublist ts) : Bk2 B w0 w q D p E us := by
  obtain ⟨Y, h1, h2, h3, X, h4, h5, h6, h7⟩ := h
  exact ⟨Y, h1, h2, h3, X, h4, h5, h6, h7.sub (List.Sublist.cons_cons _ (List.Sublist.cons_cons _ hs))⟩
theorem bk2_put (h : Bk2 B w0 w q D p E ts) (hT : Tab w) (x : Nat) (hx : x < 4294967296) (t : Int) (v : Nat) (hz : in64 t ∧ v < 18446744073709551616) (hn : (E.at_ x).flatten.length < 1000) :
    Calls Tryz.prog 10 #[ptB p, .int .u32 (x : Nat), .agg #[.int .i64 t, .int .u64 (v : Nat)]] w fun e w' => e = .returned (.int .u16 (mayD E x t : Nat)) ∧ Bk2 B w0 w' q D p (putD E x (t, v)) ts := by
  obtain ⟨X, e1, e2, e3, hS⟩ := h.swap
  refine (bk_put hS hT x hx t v hz hn).mono ?_
  rintro e w' ⟨rfl, hB⟩
  exact ⟨rfl, Bk2.swap ⟨X, e1, e2, e3, hB⟩⟩
end
theorem perm_lay {α : Type _} (L2 L1 : List α) (x a b : α) : (L2 ++ (x :: (L1 ++ [a, b]))).Perm (x :: a :: b :: (L1 ++ L2)) := by
  refine List.perm_middle.trans (List.Perm.cons _ ?_)
  refine List.perm_append_comm.trans ?_
  rw [List.append_assoc]
  show (L1 ++ (a :: (b :: L2))).Perm _
  exact List.perm_middle.trans (List.Perm.cons _ List.perm_middle)
set_option maxHeartbeats 32000000 in
theorem bookRefuses_walk (size : Int) (V : Option Addr) (c : Nat) (l : List OB) (f : FrD) (fA : Option Addr) (fcap : Nat) (xt : Int) (xv : Nat) (w : World) (hsz : in64 size) (hV : Rw w encOB 17 V l) (hok : ∀ o ∈ l, OkOB o) (hf : f.ok) (hb : Bs w fA f.l) (hx : in64 xt ∧ xv < 18446744073709551616) (hT : Tab w) :
    Calls Tryz.prog 3 #[.int .i64 size, .slice V l.length c, .agg (frC f fA fcap), .agg #[.int .i64 xt, .int .u64 (xv : Nat)]] w fun e w' => e = .returned (.bool true) ∧ Below w.heap.size w w' := by
  have hmx : Tryz.prog.follows .mixedOrders = true := by kernel_rfl
  obtain ⟨W, hW⟩ : ∃ W, W = (w.alloc (.cells (frC f fA fcap) 31)).alloc (.cells #[.int .i64 xt, .int .u64 (xv : Nat)] 33) := ⟨_, rfl⟩
  obtain ⟨g6, hg6⟩ : ∃ g, g = w.heap.size := ⟨_, rfl⟩
  obtain ⟨g7, hg7⟩ : ∃ g, g = w.heap.size + 1 := ⟨_, rfl⟩
  have hS0 : Sep w.heap.size w W [thB g7 33 #[.int .i64 xt, .int .u64 (xv : Nat)], thB g6 31 (frC f fA fcap)] := by
    have h := (((Sep.nil (Below.refl w.heap.size w) (Nat.le_refl _)).box (frC f fA fcap) 31).box #[.int .i64 xt, .int .u64 (xv : Nat)] 33)
    simp only [World.size_alloc] at h
    rw [hW, hg6, hg7]
    exact h
  have HH := Lib.hid (heavyB_any V c l W (hV.below hS0.b (Nat.le_refl _)))
  have HKn := Lib.hid (bknown_any W (tabGo hT hS0.b))
  obtain ⟨kd, ep, se, fc, fb, fn, cn, cl, sm, fl, nn⟩ := f
  have HV := Lib.hid (And.intro hsz (And.intro hV (And.intro hok (And.intro hT (And.intro hf (And.intro hb hx))))))
  obtain ⟨n, hn⟩ : ∃ n, n = l.length := ⟨_, rfl⟩
  have HN := Lib.hid hn
  rw [← hn] at HH ⊢
  obtain ⟨fll, hfll⟩ : ∃ n, n = fl.length := ⟨_, rfl⟩
  simp only [frC] at hS0 hW ⊢
  rw [← hfll] at hS0 hW ⊢
  have C0 := cells_say (hS0.blk 1) _ 0 rfl
  simp only [cellsSay, List.drop_zero, Nat.reduceAdd, and_true] at C0
  have HS0 := Lib.hid hS0
  have HF := Lib.hid hfll
  clear hsz hV hok hT hn hf hb hx hS0 hfll
  go_enter Tryz.func3, Tryz.ntmps3
  go_upto_region 1 with fail
  rw [← hW, ← hg7, ← hg6]
  clear hW hg6 hg7
  by_cases h600 : fll ≤ 600
  rotate_left
  · have h6 : (600 : Int) < (fll : Int) := by omega
    go_wp2_with (first | (go_at_call 4; refine HH.out.mono ?_; rintro e w1 ⟨r, rfl, rfl, hr⟩; cases r) | (go_at_call 5; refine HKn.out.mono ?_; rintro e w2 ⟨rfl, b2⟩))
    all_goals first | (go_ret; exact ⟨rfl, (HS0.out.go b2).b⟩) | skip
  have h6 : ¬ (600 : Int) < (fll : Int) := by omega
  go_upto_if 30 with (first | (go_at_call 4; refine HH.out.mono ?_; rintro e w1 ⟨r, rfl, rfl, hr⟩; cases r) | (go_at_call 5; refine HKn.out.mono ?_; rintro e w2 ⟨rfl, b2⟩))
  rotate_left
  · go_wp2_with (go_at_call 5; refine HKn.out.mono ?_; rintro e w2 ⟨rfl, b2⟩)
    go_ret
    exact ⟨rfl, (HS0.out.go b2).b⟩
  have h60 := hr trivial
  have HS2 := Lib.hid (HS0.out.go b2)
  have HLy := Lib.hid (bLay_any HS2.out HV.out.2.2.2.1 (Nat.le_refl _) size HV.out.1 V c l HV.out.2.1 HV.out.2.2.1 h60)
  rw [← HN.out] at HLy
  clear hr b2 HKn HH C0
  go_upto_region 4 with (go_at_call 6; refine HLy.out.mono ?_; rintro e w3 ⟨p, T, A, cc, rfl, hTD, hB⟩)
  obtain ⟨D, hD⟩ : ∃ D, D = laD (laSz size) l := ⟨_, rfl⟩
  have hLa : LaI (laSz size) l.length D := by
    have h1 : 1 ≤ laSz size ∧ laSz size ≤ 24 := by unfold laSz; omega
    have := laD_ok h1.1 h1.2 l HV.out.2.2.1 l.length (Nat.le_refl _) (by omega)
    rw [List.take_length, ← hD] at this
    exact this
  rw [← hD] at hTD hB
  obtain ⟨X, hXq, hXD, hXok, hSX⟩ := hB
  have hLy := bLay_any hSX HV.out.2.2.2.1 (Nat.le_refl _) size HV.out.1 V c l HV.out.2.1 HV.out.2.2.1 h60
  rw [← HN.out, ← hD] at hLy
  have HLy2 := Lib.hid hLy
  obtain ⟨tn, htn⟩ : ∃ n, n = T.length := ⟨_, rfl⟩
  rw [← htn] at HLy2 ⊢
  have HL := Lib.hid (And.intro hLa (And.intro hTD htn))
  have htn64 : tn ≤ 64 := by
    have h1 := hLa.ok.few
    have h2 := hLa.ok.mo2
    have h3 := congrArg List.length hTD
    rw [List.length_map, allD_len] at h3
    omega
  have H60 := Lib.hid h60
  have HX := Lib.hid (And.intro hXq (And.intro hXD hXok))
  clear h60 hD hLa hTD htn hXq hXD hXok hSX HLy hLy
  have h60b : n ≤ 60 := by rw [HN.out]; exact H60.out
  go_upto_region 7 with (go_at_call 6; refine HLy2.out.mono ?_; rintro e w4 ⟨q, T2, A2, cc2, rfl, hTD2, hB2⟩)
  have hK0 : Bk2 w.heap.size w w4 q D p D (thB g7 33 #[.int .i64 xt, .int .u64 (xv : Nat)] :: thB g6 31 #[.int .u8 ((kd : Nat) : Int), .int .u32 ((ep : Nat) : Int), .int .u32 ((se : Nat) : Int), .int .u32 ((fc : Nat) : Int), .int .u32 ((fb : Nat) : Int), .int .u32 ((fn : Nat) : Int), .int .u32 ((cn : Nat) : Int), .bool cl, .int .u64 ((sm : Nat) : Int), .slice fA fll fcap, .int .i64 nn] :: laT (.slice A tn cc) T) :=
    Bk2.sub (us := thB g7 33 #[.int .i64 xt, .int .u64 (xv : Nat)] :: thB g6 31 #[.int .u8 ((kd : Nat) : Int), .int .u32 ((ep : Nat) : Int), .int .u32 ((se : Nat) : Int), .int .u32 ((fc : Nat) : Int), .int .u32 ((fb : Nat) : Int), .int .u32 ((fn : Nat) : Int), .int .u32 ((cn : Nat) : Int), .bool cl, .int .u64 ((sm : Nat) : Int), .slice fA fll fcap, .int .i64 nn] :: laT (.slice A tn cc) T) (ts := thB g7 33 #[.int .i64 xt, .int .u64 (xv : Nat)] :: thB g6 31 #[.int .u8 ((kd : Nat) : Int), .int .u32 ((ep : Nat) : Int), .int .u32 ((se : Nat) : Int), .int .u32 ((fc : Nat) : Int), .int .u32 ((fb : Nat) : Int), .int .u32 ((fn : Nat) : Int), .int .u32 ((cn : Nat) : Int), .bool cl, .int .u64 ((sm : Nat) : Int), .slice fA fll fcap, .int .i64 nn] :: (laT (.slice A tn cc) T ++ laT (.slice A2 T2.length cc2) T2)) ⟨X, HX.out.1, HX.out.2.1, HX.out.2.2, hB2.perm (perm_lay _ _ _ _ _)⟩ (List.Sublist.cons_cons _ (List.Sublist.cons_cons _ (List.sublist_append_left _ _)))
  have hll : fl.length ≤ 1000 := by rw [← HF.out]; omega
  have hfit := bk_fits hK0.snd.choose_spec (tabGo HV.out.2.2.2.1 hK0.b) ⟨kd, ep, se, fc, fb, fn, cn, cl, sm, fl, nn⟩ HV.out.2.2.2.2.1 fA fcap (hK0.sep.bs (Nat.le_refl _) HV.out.2.2.2.2.2.1) hll
  simp only [frC] at hfit
  rw [← HF.out] at hfit
  obtain ⟨cd, hcd⟩ : ∃ r, r = (fitD D ⟨kd, ep, se, fc, fb, fn, cn, cl, sm, fl, nn⟩).1 := ⟨_, rfl⟩
  rw [← hcd] at hfit
  have HFt := Lib.hid hfit
  have HCd := Lib.hid hcd
  have C6 := cells_say (hK0.sep.blk 1) _ 0 rfl
  simp only [cellsSay, List.drop_zero, Nat.reduceAdd, and_true] at C6
  have HK0 := Lib.hid hK0
  have HLl := Lib.hid hll
  clear hfit hcd hK0 hll hTD2 hB2 HLy2 HX
  go_upto_region 8 with (go_at_call 7; refine HFt.out.mono ?_; rintro e w5 ⟨rfl, b5⟩)
  have hK5 := HK0.out.go b5
  have hns : ∀ x, (D.at_ x).flatten.length ≤ 60 := fun x => by have h1 := HL.out.1.len x; have h2 := H60.out; omega
  have htk := bk2_take hK5 (tabGo HV.out.2.2.2.1 hK5.b) ⟨kd, ep, se, fc, fb, fn, cn, cl, sm, fl, nn⟩ HV.out.2.2.2.2.1 fA fcap (hK5.sep.bs (Nat.le_refl _) HV.out.2.2.2.2.2.1) HLl.out (by have := hns se; show (D.at_ se).flatten.length + 24 ≤ 1000; omega)
  simp only [frC] at htk
  rw [← HF.out, ← HCd.out] at htk
  have HTk := Lib.hid htk
  clear C6
  have C6 := cells_say (hK5.sep.blk 1) _ 0 rfl
  simp only [cellsSay, List.drop_zero, Nat.reduceAdd, and_true] at C6
  have HNs := Lib.hid hns
  clear b5 hK5 hns htk HK0 HFt
  by_cases h0 : cd = 0
  · subst h0
    go_wp2_with (go_at_call 8; refine HTk.out.mono ?_; rintro e w6 ⟨rfl, hK6⟩)
    go_ret
    exact ⟨rfl, hK6.b⟩
  have hcd1 : (((cd : Nat) : Int) != 0) = true := by simpa using h0
  have hcd2 : (((cd : Nat) : Int) == 0) = false := beq_eq_false_iff_ne.2 (by omega)
  have hcd3 : ¬ ((cd : Nat) : Int) = 0 := by omega
  have htD : takeD D ⟨kd, ep, se, fc, fb, fn, cn, cl, sm, fl, nn⟩ = D := by unfold takeD; rw [if_neg (by rw [← HCd.out]; exact h0)]
  have htk := HTk.out
  rw [htD] at htk
  have HTk2 := Lib.hid htk
  clear htD htk HTk h0
  go_upto_region 11 with (go_at_call 8; refine HTk2.out.mono ?_; rintro e w6 ⟨rfl, hK6⟩)
  have hse : se < 4294967296 := HV.out.2.2.2.2.1.2.2.1
  have hmy := bk_may hK6.snd.choose_spec se hse xt xv
  obtain ⟨me, hme⟩ : ∃ m, m = mayD D se xt := ⟨_, rfl⟩
  rw [← hme] at hmy
  have HMy := Lib.hid hmy
  have HMe := Lib.hid hme
  clear C6
  have C6 := cells_say (hK6.sep.blk 1) _ 0 rfl
  simp only [cellsSay, List.drop_zero, Nat.reduceAdd, and_true] at C6
  have C7 := cells_say (hK6.sep.blk 0) _ 0 rfl
  simp only [cellsSay, List.drop_zero, Nat.reduceAdd, and_true] at C7
  have HK6 := Lib.hid hK6
  clear hmy hme hK6 HTk2
  go_upto_region 12 with (go_at_call 9; refine HMy.out.mono ?_; rintro e w7 ⟨rfl, b7⟩)
  have hK7 := HK6.out.go b7
  have hpt := bk2_put hK7 (tabGo HV.out.2.2.2.1 hK7.b) se hse xt xv HV.out.2.2.2.2.2.2 (by have := HNs.out se; omega)
  rw [← HMe.out] at hpt
  have HPt := Lib.hid hpt
  clear C6 C7
  have C6 := cells_say (hK7.sep.blk 1) _ 0 rfl
  simp only [cellsSay, List.drop_zero, Nat.reduceAdd, and_true] at C6
  have C7 := cells_say (hK7.sep.blk 0) _ 0 rfl
  simp only [cellsSay, List.drop_zero, Nat.reduceAdd, and_true] at C7
  clear hpt hK7 b7 HMy HK6
  by_cases hm0 : me = 0
  · subst hm0
    go_wp2_with (go_at_call 10; refine HPt.out.mono ?_; rintro e w8 ⟨rfl, hK8⟩)
    go_ret
    exact ⟨rfl, hK8.b⟩
  have hm2 : (((me : Nat) : Int) == 0) = false := beq_eq_false_iff_ne.2 (by omega)
  have hm3 : ¬ ((me : Nat) : Int) = 0 := by omega
  have hpD : putD D se (xt, xv) = D := by unfold putD; rw [if_neg (by show ¬ mayD D se xt = 0; rw [← HMe.out]; exact hm0)]
  have hpt := HPt.out
  rw [hpD] at hpt
  have HPt2 := Lib.hid hpt
  clear hpD hpt HPt hm0
  go_wp2_with (go_at_call 10; refine HPt2.out.mono ?_; rintro e w8 ⟨rfl, hK8⟩)
  have HK8 := Lib.hid hK8
  clear hK8 HPt2 C6 C7
  go_loopw [17] (fun s17 wr => ∃ i : Nat, s17 = .int .i64 (i : Nat) ∧ i ≤ tn ∧ Hid (Bk2 w.heap.size w wr q D p D (thB g7 33 #[.int .i64 xt, .int .u64 (xv : Nat)] :: thB g6 31 #[.int .u8 ((kd : Nat) : Int), .int .u32 ((ep : Nat) : Int), .int .u32 ((se : Nat) : Int), .int .u32 ((fc : Nat) : Int), .int .u32 ((fb : Nat) : Int), .int .u32 ((fn : Nat) : Int), .int .u32 ((cn : Nat) : Int), .bool cl, .int .u64 ((sm : Nat) : Int), .slice fA fll fcap, .int .i64 nn] :: laT (.slice A tn cc) T)))
    (fun s17 _ => tn - (intOf s17).toNat)
  case atStart => exact ⟨0, by go_num, Nat.zero_le _, HK8⟩
  case round =>
    obtain ⟨i, rfl, hi, HBr⟩ := hrel
    obtain ⟨wo, hwo⟩ : ∃ wo, wo = wr := ⟨_, rfl⟩
    rw [← hwo] at HBr ⊢
    clear hwo
    by_cases hit : i < tn
    rotate_left
    · have hit2 : ¬ (i : Int) < (tn : Int) := by omega
      have hMl : D.M.length = tn := by
        have h3 := congrArg List.length HL.out.2.1
        rw [List.length_map, allD_len] at h3
        rw [HL.out.2.2, h3]
      have hSe := bk_seriesN HBr.out.snd.choose_spec
      rw [hMl] at hSe
      have HSe := Lib.hid hSe
      clear hMl hSe
      go_wp2_with (go_at_call 14; refine HSe.out.mono ?_; rintro e w9 ⟨U9, c9, rfl, b9⟩)
      go_ret
      exact ⟨by simp, (HBr.out.go b9).b⟩
    · obtain ⟨y0, hy0⟩ : ∃ y, T[i]? = some y := ⟨_, List.getElem?_eq_getElem (by rw [← HL.out.2.2]; exact hit)⟩
      obtain ⟨gr, hgr, -, -⟩ := row_at Tryz.eltSe (HBr.out.sep.at_ (t := thR 48 encSe 2 (.slice A tn cc) T) 2 rfl) hy0
      subst hgr
      have hk0 := la_key HL.out.1 HL.out.2.1 hy0
      obtain ⟨id, hid⟩ : ∃ x, x = y0.id := ⟨_, rfl⟩
      rw [← hid] at hk0
      have hid64 : id < 64 := hk0.1
      obtain ⟨S, hS⟩ : ∃ S, S = (D.at_ id).flatten := ⟨_, rfl⟩
      have hS60 : S.length ≤ 60 := by rw [hS]; exact HNs.out id
      obtain ⟨sl, hsl⟩ : ∃ s, s = S.length := ⟨_, rfl⟩
      obtain ⟨⟨e1, e2, e3⟩, hee⟩ : ∃ E, E = endC (D.at_ id) := ⟨_, rfl⟩
      have cells : ∀ (W : World), Bk2 w.heap.size w W q D p D (thB g7 33 #[.int .i64 xt, .int .u64 (xv : Nat)] :: thB g6 31 #[.int .u8 ((kd : Nat) : Int), .int .u32 ((ep : Nat) : Int), .int .u32 ((se : Nat) : Int), .int .u32 ((fc : Nat) : Int), .int .u32 ((fb : Nat) : Int), .int .u32 ((fn : Nat) : Int), .int .u32 ((cn : Nat) : Int), .bool cl, .int .u64 ((sm : Nat) : Int), .slice fA fll fcap, .int .i64 nn] :: laT (.slice (some ⟨gr, 0, none⟩) tn cc) T) → W.cell? ⟨gr, i * 2, none⟩ = some (.int .u32 (id : Nat)) := fun W hW => by
        rw [hid]
        exact row_cellE Tryz.eltSe (hW.sep.at_ (t := thR 48 encSe 2 (.slice (some ⟨gr, 0, none⟩) tn cc) T) 2 rfl) hy0 0 _ rfl
      have HCe := Lib.hid cells
      have HC := Lib.hid (And.intro hS (And.intro hsl (And.intro hee hS60)))
      have hit2 : (i : Int) < (tn : Int) := by omega
      have hQ2 : ∀ w, (binOp .neq 25 (.agg #[.int .u32 (e1 : Nat), .int .u32 (e2 : Nat), .int .u32 (e3 : Nat)]) (.agg #[.int .u32 (e1 : Nat), .int .u32 (e2 : Nat), .int .u32 (e3 : Nat)])).run Tryz.prog w = .ok (.bool false) w := fun w => by rw [nePlB_run, decide_eq_true rfl]; rfl
      clear hy0 hid hk0 hS hsl hee cells hS60
      go_upto_region 22 with fail
      obtain ⟨I, hI⟩ : ∃ I : Rec → World → Prop, ∀ E' W, I E' W ↔ (Bk2 w.heap.size w W q D p D (thB g7 33 #[.int .i64 xt, .int .u64 (xv : Nat)] :: thB g6 31 #[.int .u8 ((kd : Nat) : Int), .int .u32 ((ep : Nat) : Int), .int .u32 ((se : Nat) : Int), .int .u32 ((fc : Nat) : Int), .int .u32 ((fb : Nat) : Int), .int .u32 ((fn : Nat) : Int), .int .u32 ((cn : Nat) : Int), .bool cl, .int .u64 ((sm : Nat) : Int), .slice fA fll fcap, .int .i64 nn] :: laT (.slice (some ⟨gr, 0, none⟩) tn cc) T) ∧ (∀ u, E' 6 = some u → ∃ U n, u = .slice U sl n ∧ Rw W smp 2 U S) ∧ (∀ u, E' 13 = some u → ∃ U n, u = .slice U sl n ∧ Rw W smp 2 U S)) := ⟨_, fun _ _ => Iff.rfl⟩
      have hI0 : I (fun _ => none) wo.drew := (hI _ _).2 ⟨HBr.out.go (Below.refl _ _).drew, (fun u h => by cases h), (fun u h => by cases h)⟩
      haveI : Nonempty (InvW I) := ⟨⟨_, _, hI0⟩⟩
      have ce := fun (y : InvW I) => HCe.out y.W ((hI _ _).1 y.h).1
      have HI2 := Lib.hid hI
      clear hI
      refine wp_region_inv I [[], [], [], [], [], [], [], [], [], [], [], [], [], [], [6, 13]] [3, 6, 10, 13, 14, 20, 23, 27, 30] (fun k2 v => if k2 = 14 then v = .bool true else if k2 = 6 ∨ k2 = 13 then ∃ U n, v = .slice U sl n else if k2 = 23 ∨ k2 = 30 then v = .agg #[.int .u32 (e1 : Nat), .int .u32 (e2 : Nat), .int .u32 (e3 : Nat)] else v = .pointer (some ⟨gr, i * 2, none⟩)) hmx (by kernel_rfl) hI0 ?_
      iterate 3 (refine walkJ_one rfl (by kernel_rfl) ?_; go_big_quiet_step (fail); refine wpQuiet_nil ?_)
      refine walkJ_turn rfl rfl ⟨_, rfl⟩ (fun s W1 hs h7 _ => ?_) ?_
      · obtain ⟨h, h2, h3⟩ := (HI2.out _ _).1 hs
        exact inv_val (W' := W1) (v := .pointer (some ⟨gr, i * 2, none⟩)) (by simp [execOp, go_sem, hit2]) ⟨rfl, (HI2.out _ _).2 ⟨h, (fun u hu => h2 u (by rw [recSet_ne (by decide)] at hu; exact hu)), (fun u hu => h3 u (by rw [recSet_ne (by decide)] at hu; exact hu))⟩⟩
      rintro v rfl
      conv => arg 11; simp [Act.put]
      iterate 2 (refine walkJ_one rfl (by kernel_rfl) ?_; go_big_quiet_step (fail); refine wpQuiet_nil ?_)
      refine walkJ_turn rfl rfl ⟨_, none, 0, rfl⟩ (fun s W1 hs h7 _ => ?_) ?_
      · obtain ⟨h, h2, h3⟩ := (HI2.out _ _).1 hs
        have hsm := bk_samples h.snd.choose_spec (tabGo HV.out.2.2.2.1 h.b) id (by omega)
        rw [← HC.out.1, ← HC.out.2.1] at hsm
        refine inv_call (by simp [execOp, go_sem]) (hsm.mono ?_)
        rintro e w5 ⟨U, n5, rfl, ho, b5⟩
        refine ⟨_, rfl, ⟨U, n5, rfl⟩, (HI2.out _ _).2 ⟨h.go b5, (fun u hu => ?_), (fun u hu => by rw [recSet_ne (by decide)] at hu; obtain ⟨U3, n3, q1, q2⟩ := h3 u hu; exact ⟨U3, n3, q1, q2.below b5 (Nat.le_refl _)⟩)⟩⟩
        rw [recSet_same] at hu
        injection hu with hu
        obtain ⟨U2, n2, e3, -, h3⟩ := OwnR.row Tryz.eltS ho
        injection e3 with e4 _ _
        exact ⟨U, n5, hu.symm, by rw [e4]; exact h3⟩
      rintro v ⟨U5, n5, rfl⟩
      conv => arg 11; simp [Act.put]
      iterate 3 (refine walkJ_one rfl (by kernel_rfl) ?_; go_big_quiet_step (fail); refine wpQuiet_nil ?_)
      refine walkJ_turn rfl rfl ⟨_, rfl⟩ (fun s W1 hs h7 _ => ?_) ?_
      · obtain ⟨h, h2, h3⟩ := (HI2.out _ _).1 hs
        exact inv_val (W' := W1) (v := .pointer (some ⟨gr, i * 2, none⟩)) (by simp [execOp, go_sem, hit2]) ⟨rfl, (HI2.out _ _).2 ⟨h, (fun u hu => h2 u (by rw [recSet_ne (by decide)] at hu; exact hu)), (fun u hu => h3 u (by rw [recSet_ne (by decide)] at hu; exact hu))⟩⟩
      rintro v rfl
      conv => arg 11; simp [Act.put]
      iterate 2 (refine walkJ_one rfl (by kernel_rfl) ?_; go_big_quiet_step (fail); refine wpQuiet_nil ?_)
      refine walkJ_turn rfl rfl ⟨_, none, 0, rfl⟩ (fun s W1 hs h7 _ => ?_) ?_
      · obtain ⟨h, h2, h3⟩ := (HI2.out _ _).1 hs
        have hsm := bk_samples h.fst.choose_spec (tabGo HV.out.2.2.2.1 h.b) id (by omega)
        rw [← HC.out.1, ← HC.out.2.1] at hsm
        refine inv_call (by simp [execOp, go_sem]) (hsm.mono ?_)
        rintro e w5 ⟨U, n5, rfl, ho, b5⟩
        refine ⟨_, rfl, ⟨U, n5, rfl⟩, (HI2.out _ _).2 ⟨h.go b5, (fun u hu => by rw [recSet_ne (by decide)] at hu; obtain ⟨U3, n3, q1, q2⟩ := h2 u hu; exact ⟨U3, n3, q1, q2.below b5 (Nat.le_refl _)⟩), (fun u hu => ?_)⟩⟩
        rw [recSet_same] at hu
        injection hu with hu
        obtain ⟨U2, n2, e3, -, h3⟩ := OwnR.row Tryz.eltS ho
        injection e3 with e4 _ _
        exact ⟨U, n5, hu.symm, by rw [e4]; exact h3⟩
      rintro v ⟨V5, m5, rfl⟩
      conv => arg 11; simp [Act.put]
      refine walkJ_turn rfl rfl ⟨_, rfl⟩ (fun s W1 hs h7 hch => ?_) ?_
      · obtain ⟨h, h2, h3⟩ := (HI2.out _ _).1 hs
        obtain ⟨U6, n6, e6, hU6⟩ := h2 _ ((hch 6 (by simp)).trans rfl)
        obtain ⟨U7, n7, e7, hU7⟩ := h3 _ ((hch 13 (by simp)).trans rfl)
        injection e6 with e8 _ _
        injection e7 with e9 _ _
        rw [← e8] at hU6
        rw [← e9] at hU7
        refine inv_call (by simp [execOp, go_sem]) ((csame_eq U5 V5 sl n5 m5 S W1 HC.out.2.1 hU6 hU7 (by have := HC.out.2.2.2; omega)).mono ?_)
        rintro e w6 ⟨rfl, b6⟩
        exact ⟨_, rfl, rfl, (HI2.out _ _).2 ⟨h.go b6, (fun u hu => by rw [recSet_ne (by decide)] at hu; obtain ⟨U3, n3, q1, q2⟩ := h2 u hu; exact ⟨U3, n3, q1, q2.below b6 (Nat.le_refl _)⟩), (fun u hu => by rw [recSet_ne (by decide)] at hu; obtain ⟨U3, n3, q1, q2⟩ := h3 u hu; exact ⟨U3, n3, q1, q2.below b6 (Nat.le_refl _)⟩)⟩⟩
      rintro v rfl
      conv => arg 11; simp [Act.put]
      iterate 5 (refine walkJ_one rfl (by kernel_rfl) ?_; go_big_quiet_step (fail); refine wpQuiet_nil ?_)
      refine walkJ_turn rfl rfl ⟨_, rfl⟩ (fun s W1 hs h7 _ => ?_) ?_
      · obtain ⟨h, h2, h3⟩ := (HI2.out _ _).1 hs
        exact inv_val (W' := W1) (v := .pointer (some ⟨gr, i * 2, none⟩)) (by simp [execOp, go_sem, hit2]) ⟨rfl, (HI2.out _ _).2 ⟨h, (fun u hu => h2 u (by rw [recSet_ne (by decide)] at hu; exact hu)), (fun u hu => h3 u (by rw [recSet_ne (by decide)] at hu; exact hu))⟩⟩
      rintro v rfl
      conv => arg 11; simp [Act.put]
      iterate 2 (refine walkJ_one rfl (by kernel_rfl) ?_; go_big_quiet_step (fail); refine wpQuiet_nil ?_)
      refine walkJ_turn rfl rfl ⟨_, rfl⟩ (fun s W1 hs h7 _ => ?_) ?_
      · obtain ⟨h, h2, h3⟩ := (HI2.out _ _).1 hs
        have hen := bk_end h.snd.choose_spec id (by omega)
        rw [← HC.out.2.2.1] at hen
        refine inv_call (by simp [execOp, go_sem]) (hen.mono ?_)
        rintro e w6 ⟨rfl, b6⟩
        exact ⟨_, rfl, rfl, (HI2.out _ _).2 ⟨h.go b6, (fun u hu => by rw [recSet_ne (by decide)] at hu; obtain ⟨U3, n3, q1, q2⟩ := h2 u hu; exact ⟨U3, n3, q1, q2.below b6 (Nat.le_refl _)⟩), (fun u hu => by rw [recSet_ne (by decide)] at hu; obtain ⟨U3, n3, q1, q2⟩ := h3 u hu; exact ⟨U3, n3, q1, q2.below b6 (Nat.le_refl _)⟩)⟩⟩
      rintro v rfl
      conv => arg 11; simp [Act.put]
      iterate 3 (refine walkJ_one rfl (by kernel_rfl) ?_; go_big_quiet_step (fail); refine wpQuiet_nil ?_)
      refine walkJ_turn rfl rfl ⟨_, rfl⟩ (fun s W1 hs h7 _ => ?_) ?_
      · obtain ⟨h, h2, h3⟩ := (HI2.out _ _).1 hs
        exact inv_val (W' := W1) (v := .pointer (some ⟨gr, i * 2, none⟩)) (by simp [execOp, go_sem, hit2]) ⟨rfl, (HI2.out _ _).2 ⟨h, (fun u hu => h2 u (by rw [recSet_ne (by decide)] at hu; exact hu)), (fun u hu => h3 u (by rw [recSet_ne (by decide)] at hu; exact hu))⟩⟩
      rintro v rfl
      conv => arg 11; simp [Act.put]
      iterate 2 (refine walkJ_one rfl (by kernel_rfl) ?_; go_big_quiet_step (fail); refine wpQuiet_nil ?_)
      refine walkJ_turn rfl rfl ⟨_, rfl⟩ (fun s W1 hs h7 _ => ?_) ?_
      · obtain ⟨h, h2, h3⟩ := (HI2.out _ _).1 hs
        have hen := bk_end h.fst.choose_spec id (by omega)
        rw [← HC.out.2.2.1] at hen
        refine inv_call (by simp [execOp, go_sem]) (hen.mono ?_)
        rintro e w6 ⟨rfl, b6⟩
        exact ⟨_, rfl, rfl, (HI2.out _ _).2 ⟨h.go b6, (fun u hu => by rw [recSet_ne (by decide)] at hu; obtain ⟨U3, n3, q1, q2⟩ := h2 u hu; exact ⟨U3, n3, q1, q2.below b6 (Nat.le_refl _)⟩), (fun u hu => by rw [recSet_ne (by decide)] at hu; obtain ⟨U3, n3, q1, q2⟩ := h3 u hu; exact ⟨U3, n3, q1, q2.below b6 (Nat.le_refl _)⟩)⟩⟩
      rintro v rfl
      conv => arg 11; simp [Act.put]
      iterate 2 (refine walkJ_one rfl (by kernel_rfl) ?_; go_big_quiet_step (fail); refine wpQuiet_nil ?_)
      refine walkJ_end ?_
      intro wp hW'
      have HBp := Lib.hid ((HI2.out _ _).1 hW').1
      clear ce hW' HI2 hI0 hQ2
      go_wp2_with fail
      go_roundw
      case measure => simp [intOf]; omega
      case rel => exact ⟨i + 1, by go_num, by omega, HBp⟩
end Go.Proofs.YtiipmjdmmoaodaaGreatDoor
