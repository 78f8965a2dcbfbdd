/- Joined: Bk37, Dg1, Dg3, Dg2, Bk45, Bk47. -/
import Derived.Test.YtiliineopplinaaGreatDoorQ45
import Derived.Test.YtiliineopplinaaGreatDoorQ46
import Derived.Test.YtiliineopplinaaGreatDoorQ51
import Derived.Test.YtiliineopplinaaGreatDoorQ48
import Derived.Test.YtiliineopplinaaGreatDoorQ1
import Derived.Test.YtiliineopplinaaGreatDoorQ13
import Derived.Test.YtiliineopplinaaGreatDoorQ11
set_option linter.unusedSimpArgs false
set_option linter.unusedVariables false
set_option linter.unusedSimpArgs false
set_option linter.unusedVariables false
namespace Go.Proofs.YtiliineopplinaaGreatDoor
open Go.RowKit
set_option maxRecDepth 100000
section
variable {B : Nat} {w0 w w' : World} {q : Nat} {D : BD} {ts us : List Kt}
theorem bk_samples (h : Bk B w0 w q D ts) (hT : Tab w) (x : Nat) (hx : x < 4294967296) : Calls Tryz.prog 10 #[ptB q, .int .u32 (x : Nat)] w fun e w' => ∃ U n, e = .returned (.slice U (D.at_ x).flatten.length n) ∧ OwnR w' w.heap.size 55 smp 2 (.slice U (D.at_ x).flatten.length n) (D.at_ x).flatten ∧ Below w.heap.size w w' := by
 obtain ⟨X, rfl, rfl, ok, hS⟩ := h
 exact bSamples_any (RdK.of (hS.at_ 0 rfl)) ok hT x hx
theorem bk_series (h : Bk B w0 w q D ts) : Calls Tryz.prog 15 #[ptB q] w (SrtO w (D.M.map Prod.fst)) := by
 obtain ⟨X, rfl, rfl, ok, hS⟩ := h
 exact bSeries_any (RdK.of (hS.at_ 0 rfl)) ok
end
theorem csame_eq (V U : Option Addr) (n c d : Nat) (a : List (Int × Nat)) (w : World) (hn : n = a.length) (hV : Rw w smp 2 V a) (hU : Rw w smp 2 U a) (hal : a.length ≤ 4096) :
  Calls Tryz.prog 9 #[.slice V n c, .slice U n d] w fun e w' => e = .returned (.bool true) ∧ Below w.heap.size w w' := by
 have := csame_any V U c d a a w hV.ss hU.ss hal hal
 rw [decide_eq_true rfl] at this
 rw [hn]
 exact this
theorem ch_flat {C : CsT} (hC : C ≠ []) : (C.take (chN C)).flatten = C.flatten := by
 unfold chN
 split
 ·rename_i h
  rw [← List.dropLast_eq_take]
  rw [cs_flat hC, h, List.append_nil]
 ·rw [List.take_length]
end Go.Proofs.YtiliineopplinaaGreatDoor
set_option linter.unusedSimpArgs false
set_option linter.unusedVariables false
namespace Go.Proofs.YtiliineopplinaaGreatDoor
open Go.RowKit
set_option maxRecDepth 100000
theorem rise_uniq : ∀ {xs ys : List Nat}, xs.Perm ys → xs.Pairwise (· ≤ ·) → ys.Pairwise (· ≤ ·) → xs = ys
 | [], ys, hp, _, _ => hp.nil_eq
 | x :: xs, [], hp, _, _ => absurd hp.eq_nil (by simp)
 | x :: xs, y :: ys, hp, hx, hy => by
  have e : x = y := by
   have h1 : x ∈ y :: ys := hp.subset List.mem_cons_self
   have h2 : y ∈ x :: xs := hp.symm.subset List.mem_cons_self
   have a1 : ∀ z ∈ xs, x ≤ z := fun z hz => List.rel_of_pairwise_cons hx hz
   have a2 : ∀ z ∈ ys, y ≤ z := fun z hz => List.rel_of_pairwise_cons hy hz
   rcases List.mem_cons.1 h1 with h1 | h1
   ·exact h1
   ·rcases List.mem_cons.1 h2 with h2 | h2
    ·exact h2.symm
    ·exact Nat.le_antisymm (a1 _ h2) (a2 _ h1)
  subst e
  rw [rise_uniq (List.Perm.cons_inv hp) hx.tail hy.tail]
def ksD (D : BD) : List Nat := (D.M.map Prod.fst).mergeSort (fun a b => decide (a ≤ b))
theorem ksD_perm (D : BD) : (ksD D).Perm (D.M.map Prod.fst) := List.mergeSort_perm _ _
theorem ksD_rise (D : BD) : (ksD D).Pairwise (· ≤ ·) := by
 have h := List.pairwise_mergeSort (le := fun a b : Nat => decide (a ≤ b)) (fun a b c h1 h2 => by simp only [decide_eq_true_eq] at *; omega) (fun a b => by simp only [Bool.or_eq_true, decide_eq_true_eq]; omega) (D.M.map Prod.fst)
 exact h.imp fun h => of_decide_eq_true h
theorem ksD_of {D : BD} {xs : List Nat} (hp : xs.Perm (D.M.map Prod.fst)) (hr : xs.Pairwise (· ≤ ·)) : xs = ksD D := rise_uniq (hp.trans (ksD_perm D).symm) hr (ksD_rise D)
theorem ksD_len (D : BD) : (ksD D).length = D.M.length := by rw [(ksD_perm D).length_eq, List.length_map]
theorem ksD_mem {D : BD} {x : Nat} : x ∈ ksD D ↔ ∃ p ∈ D.M, p.1 = x := by rw [(ksD_perm D).mem_iff, List.mem_map]
def leafC (x : Nat) (C : CsT) (k : Nat) : LfD := (x, k, ((C[k]?).getD []).length, moreR 0 (bitsL ((C[k]?).getD [])))
def leavesC (x : Nat) (C : CsT) : List LfD := (List.range (chN C)).map (leafC x C)
theorem leavesC_len (x : Nat) (C : CsT) : (leavesC x C).length = chN C := by unfold leavesC; simp
def leavesX (D : BD) (xs : List Nat) : List LfD := xs.flatMap fun x => leavesC x (D.at_ x)
def leavesD (D : BD) : List LfD := leavesX D (ksD D)
theorem leavesX_snoc (D : BD) (xs : List Nat) (x : Nat) : leavesX D (xs ++ [x]) = leavesX D xs ++ leavesC x (D.at_ x) := by unfold leavesX; simp
def encLf (x : LfD) : List Value := [.int .u32 ((x.1 : Nat) : Int), .int .u32 ((x.2.1 : Nat) : Int), .int .u32 ((x.2.2.1 : Nat) : Int), .int .u64 ((x.2.2.2 : Nat) : Int)]
theorem Tryz.eltLf : Elt Tryz.prog 30 57 encLf 4 24 := ⟨Tryz.underlying30, ⟨.agg #[.int .u32 0, .int .u32 0, .int .u32 0, .int .u64 0], by kernel_rfl, rfl⟩, by decide, fun _ => rfl, fun x v h => by
 unfold encLf at h
 simp only [List.mem_cons, List.not_mem_nil, or_false] at h
 rcases h with rfl | rfl | rfl | rfl <;> rfl⟩
theorem chFr_eq {x : Nat} {C : CsT} (oc : OkC1 C) {k : Nat} {L : List Sm} (hL : C[k]? = some L) (hne : L ≠ []) : chFr x C k = ⟨0, 0, x, k, 0, 0, L.length, decide (k + 1 < C.length), 0, pack (bitsL L), ((bitsL L).length : Nat)⟩ := by
 have hm := List.mem_of_getElem? hL
 have hb := bits_small (oc.lenL hm) (oc.incL hm)
 have hp := List.length_pos_iff.2 hne
 have hh : hasC C k 0 0 = true := by
  unfold hasC
  rw [hL]
  have : endN L 0 = 0 := rfl
  simp only [this, decide_true, Bool.and_true, decide_eq_true_eq]
  split <;> omega
 have he : (k, 0, 0) ≠ endC C := fun e => by
  unfold endC at e
  injection e with e1 e2
  injection e2 with e3 e4
  have h1 : lastL C = L := by
   have hk := (List.getElem?_eq_some_iff.1 hL).1
   exact last_at hL (by omega)
  rw [h1] at e4
  omega
 have hc := cutTo_all hne (most := 9223372036854775807) (by omega)
 have h2 : cutB L 0 L.length = bitsL L := by
  unfold cutB
  rw [endN_all, List.take_length]
  rfl
 unfold chFr cutF
 rw [if_neg (by rw [hh]; decide), if_neg he, hL, Option.getD_some, hc, h2]
 have h3 : clB C k L.length = decide (k + 1 < C.length) := by
  unfold clB
  rw [hL]
  simp
 have h4 : sumC C k 0 = 0 := by
  unfold sumC
  rw [List.take_zero]
  exact moreR_nil 0 (by decide)
 rw [h3, h4]
theorem chN_get {C : CsT} (oc : OkC1 C) {k : Nat} (hk : k < chN C) : ∃ L, C[k]? = some L ∧ L ≠ [] := by
 have hkl : k < C.length := by unfold chN at hk; split at hk <;> omega
 refine ⟨C[k], List.getElem?_eq_getElem hkl, fun e => ?_⟩
 rcases Nat.lt_or_ge (k + 1) C.length with h | h
 ·refine oc.full C[k] ?_ e
  have h2 : C.dropLast[k]? = some C[k] := by rw [List.getElem?_dropLast, if_pos (by omega)]; exact List.getElem?_eq_getElem hkl
  exact List.mem_of_getElem? h2
 ·have h2 : lastL C = C[k] := last_at (List.getElem?_eq_getElem hkl) (by omega)
  unfold chN at hk
  rw [h2, if_pos e] at hk
  omega
set_option maxHeartbeats 4000000 in
theorem leafOf_any (kd ep se fc fb fn cn : Nat) (cl : Bool) (sm : Nat) (A : Option Addr) (c : Nat) (M : List Bool) (w : World) (hb : Bs w A (pack M)) (hL : M.length ≤ 146000) :
  Calls Tryz.prog 19 #[.agg #[.int .u8 (kd : Nat), .int .u32 (ep : Nat), .int .u32 (se : Nat), .int .u32 (fc : Nat), .int .u32 (fb : Nat), .int .u32 (fn : Nat), .int .u32 (cn : Nat), .bool cl, .int .u64 (sm : Nat), .slice A (pack M).length c, .int .i64 (M.length : Nat)]] w fun e w' => e = .returned (.agg #[.int .u32 (se : Nat), .int .u32 (fc : Nat), .int .u32 (cn : Nat), .int .u64 ((moreR 0 M : Nat) : Int)]) ∧ Below w.heap.size w w' := by
 have hmx : Tryz.prog.follows .mixedOrders = true := by kernel_rfl
 obtain ⟨pl, hpl⟩ : ∃ n, n = (pack M).length := ⟨_, rfl⟩
 obtain ⟨ml, hml⟩ : ∃ n, n = M.length := ⟨_, rfl⟩
 obtain ⟨Z, hZ⟩ : ∃ Z, Z = moreR 0 M := ⟨_, rfl⟩
 rw [← hpl, ← hml, ← hZ]
 have hS := ((Sep.nil (Below.refl w.heap.size w) (Nat.le_refl _)).box #[.int .u8 (kd : Nat), .int .u32 (ep : Nat), .int .u32 (se : Nat), .int .u32 (fc : Nat), .int .u32 (fb : Nat), .int .u32 (fn : Nat), .int .u32 (cn : Nat), .bool cl, .int .u64 (sm : Nat), .slice A pl c, .int .i64 (ml : Nat)] 43).box #[.int .u32 0, .int .u32 0, .int .u32 0, .int .u64 0] 57
 rw [World.size_alloc] at hS
 have HB := Lib.hid hb
 have HL := Lib.hid (And.intro hL (And.intro hpl (And.intro hml hZ)))
 clear hb hL hpl hml hZ
 go_enter Tryz.func19, Tryz.ntmps19
 go_upto_region 1 with fail
 generalize hV : World.alloc (World.alloc _ _) _ = V at hS ⊢
 obtain ⟨g1, hg1⟩ : ∃ g, g = w.heap.size := ⟨_, rfl⟩
 obtain ⟨g2, hg2⟩ : ∃ g, g = w.heap.size + 1 := ⟨_, rfl⟩
 rw [← hg2] at hS ⊢
 have hO := ofB A c M V (HB.out.below hS.b) (by have := HL.out.1; omega)
 rw [← HL.out.2.1, ← HL.out.2.2.1, ← HL.out.2.2.2] at hO
 have HO := Lib.hid hO
 have hS1 : Sep w.heap.size w V [thB g2 57 #[.int .u32 0, .int .u32 0, .int .u32 0, .int .u64 0], thB g1 43 #[.int .u8 (kd : Nat), .int .u32 (ep : Nat), .int .u32 (se : Nat), .int .u32 (fc : Nat), .int .u32 (fb : Nat), .int .u32 (fn : Nat), .int .u32 (cn : Nat), .bool cl, .int .u64 (sm : Nat), .slice A pl c, .int .i64 (ml : Nat)]] := by rw [hg1]; exact hS
 rw [← hg1]
 have C1 := cells_say (hS1.blk 1) _ 0 rfl
 simp only [cellsSay, List.drop_zero, Nat.reduceAdd, and_true] at C1
 have HS := Lib.hid hS1
 clear hS hS1 hO hV hg1 hg2
 go_upto_region 2 with (go_at_call 35; refine HO.out.mono ?_; rintro e w2 ⟨rfl, b2⟩)
 have hS2 := HS.out.go b2
 clear C1
 have C1 := cells_say (hS2.blk 1) _ 0 rfl
 have C2 := cells_say (hS2.blk 0) _ 0 rfl
 simp only [cellsSay, List.drop_zero, Nat.reduceAdd, and_true] at C1 C2
 have HS2 := Lib.hid hS2
 clear hS2 b2 HS HO HB HL
 go_wp2_with fail
 generalize hW9 : World.setCell _ _ _ = W9
 have hS9 := HS2.out.put 0 g2 [(0, .int .u32 ((se : Nat) : Int)), (1, .int .u32 ((fc : Nat) : Int)), (2, .int .u32 ((cn : Nat) : Int)), (3, .int .u64 ((Z : Nat) : Int))] #[.int .u32 ((se : Nat) : Int), .int .u32 ((fc : Nat) : Int), .int .u32 ((cn : Nat) : Int), .int .u64 ((Z : Nat) : Int)] hW9
 exact bodyPost_ret (results_cell_row Tryz.results19 _ _ g2 57 #[.int .u32 ((se : Nat) : Int), .int .u32 ((fc : Nat) : Int), .int .u32 ((cn : Nat) : Int), .int .u64 ((Z : Nat) : Int)] (0, 0) _ rfl (hS9.blk 0) Tryz.underlying57 rfl (by kernel_rfl)) rfl ⟨rfl, hS9.b⟩
end Go.Proofs.YtiliineopplinaaGreatDoor
set_option linter.unusedSimpArgs false
set_option linter.unusedVariables false
namespace Go.Proofs.YtiliineopplinaaGreatDoor
open Go.RowKit
set_option maxRecDepth 100000
theorem moreB (A : Option Addr) (c : Nat) (M : List Bool) (s : Nat) (w : World) (hs : s < 18446744073709551616) (hb : Bs w A (pack M)) (hL : M.length ≤ 1073741824) :
  Calls Tryz.prog 29 #[.int .u64 s, .agg #[.slice A (pack M).length c, .int .i64 M.length]] w fun e w' => e = .returned (.tuple #[.int .u64 ((moreR s M : Nat) : Int), .int .u16 0]) ∧ Below w.heap.size w w' := by
 have hp := pack_le M hL
 refine (more_any A c (pack M) M.length s w hb (by omega) (by omega) hs).mono fun e w' ⟨he, hbel⟩ => ⟨?_, hbel⟩
 rw [he]
 unfold moreSpec
 rw [if_pos (sound_pack M), Int.toNat_natCast, bits_pack]
 rfl
def lf3 (x : LfD) (k : Nat) : Nat := if k = 0 then x.1 else if k = 1 then x.2.1 else x.2.2.1
def lfP (x : LfD) : Nat → List Bool
 | 0 => []
 | k + 1 => lfP x k ++ valB (lf3 x k) 32
theorem lfP_len (x : LfD) : ∀ k, (lfP x k).length = 32 * k
 | 0 => rfl
 | k + 1 => by
  show (lfP x k ++ valB (lf3 x k) 32).length = _
  rw [List.length_append, lfP_len x k, valB_length]
  omega
theorem lfP_all (x : LfD) : lfP x 3 ++ valB x.2.2.2 64 = lfBits x := rfl
def LfOk (x : LfD) : Prop := x.1 < 4294967296 ∧ x.2.1 < 4294967296 ∧ x.2.2.1 < 4294967296 ∧ x.2.2.2 < 18446744073709551616
set_option maxHeartbeats 16000000 in
theorem root_any (V : Option Addr) (c : Nat) (l : List LfD) (w : World) (hV : Rw w encLf 4 V l) (hok : ∀ x ∈ l, LfOk x) (hl : l.length ≤ 1000000) :
  Calls Tryz.prog 12 #[.slice V l.length c] w fun e w' => e = .returned (.int .u64 ((rootG 0 l : Nat) : Int)) ∧ Below w.heap.size w w' := by
 have hmx : Tryz.prog.follows .mixedOrders = true := by kernel_rfl
 obtain ⟨n, hn⟩ : ∃ n, n = l.length := ⟨_, rfl⟩
 have hn6 : n ≤ 1000000 := by rw [hn]; exact hl
 obtain ⟨RG, hRG⟩ : ∃ R, R = rootG 0 l := ⟨_, rfl⟩
 rw [← hn, ← hRG]
 have HV := Lib.hid (And.intro hV (And.intro hok (And.intro hn hRG)))
 clear hV hok hl hn hRG
 go_enter Tryz.func12, Tryz.ntmps12
 go_wp2_with fail
 go_loopw [3, 5, 6, 8, 11] (fun s3 s5 s6 s8 s11 wr => ∃ (i r : Nat), s11 = .int .i64 (i : Nat) ∧ i ≤ n ∧ s3 = .int .u64 (r : Nat) ∧ Hid (r = rootG 0 (l.take i) ∧ Below w.heap.size w wr))
  (fun _ _ _ _ s11 _ => n - (intOf s11).toNat)
 case atStart => exact ⟨0, 0, by go_num, Nat.zero_le _, by go_num, Lib.hid ⟨rfl, Below.refl _ _⟩⟩
 case round =>
  obtain ⟨i, r, rfl, hi, rfl, HI⟩ := hrel
  obtain ⟨wi, hwi⟩ : ∃ wi, wi = wr := ⟨_, rfl⟩
  rw [← hwi] at HI ⊢
  clear hwi
  by_cases hit : i < n
  ·obtain ⟨x, hx⟩ : ∃ x, l[i]? = some x := ⟨_, List.getElem?_eq_getElem (by rw [← HV.out.2.2.1]; exact hit)⟩
   obtain ⟨p, o, hp, hc⟩ := HV.out.1 i x hx
   subst hp
   have hxo := HV.out.2.1 x (List.mem_of_getElem? hx)
   obtain ⟨xa, xb, xc, xs⟩ := x
   obtain ⟨xa9, xb9, xc9, xs9⟩ := hxo
   replace xa9 : xa < 4294967296 := xa9
   replace xb9 : xb < 4294967296 := xb9
   replace xc9 : xc < 4294967296 := xc9
   replace xs9 : xs < 18446744073709551616 := xs9
   have old : ∀ j v, (encLf (xa, xb, xc, xs))[j]? = some v → wi.cell? ⟨p, o + i * 4 + j, none⟩ = some v := fun j v hj => (HI.out.2.cell (cell_lt (hc j v hj))).trans (hc j v hj)
   have f0 : wi.cell? ⟨p, o + i * 4, none⟩ = some (.int .u32 (xa : Nat)) := old 0 _ rfl
   have f1 : wi.cell? ⟨p, o + i * 4 + 1, none⟩ = some (.int .u32 (xb : Nat)) := old 1 _ rfl
   have f2 : wi.cell? ⟨p, o + i * 4 + 2, none⟩ = some (.int .u32 (xc : Nat)) := old 2 _ rfl
   have f3 : wi.cell? ⟨p, o + i * 4 + 3, none⟩ = some (.int .u64 (xs : Nat)) := old 3 _ rfl
   have hr : r < 18446744073709551616 := by
    have := rootG_lt (r := 0) (by decide) (l.take i)
    rw [← HI.out.1] at this
    omega
   have hit2 : (i : Int) < (n : Int) := by omega
   have HX := Lib.hid (And.intro hx (And.intro HI.out.1 hr))
   have hS0 := Sep.nil (HI.out.2) HI.out.2.size
   clear hx hc old hr HI
   go_upto_region 6 with fail
   have hS1 := (hS0.box #[.int .u32 (xa : Nat), .int .u32 (xb : Nat), .int .u32 (xc : Nat), .int .u64 (xs : Nat)] 57).box #[.slice none 0 0, .int .i64 0] 41
   rw [World.size_alloc] at hS1
   generalize hV2 : World.alloc (World.alloc _ _) _ = V2 at hS1 ⊢
   obtain ⟨g5, hg5⟩ : ∃ g, g = wi.heap.size := ⟨_, rfl⟩
   obtain ⟨g6, hg6⟩ : ∃ g, g = wi.heap.size + 1 := ⟨_, rfl⟩
   rw [← hg6, ← hg5] at hS1 ⊢
   have C5 := cells_say (hS1.blk 1) _ 0 rfl
   simp only [cellsSay, List.drop_zero, Nat.reduceAdd, and_true] at C5
   have HS1 := Lib.hid hS1
   clear f0 f1 f2 f3 hS0 hV2 hg5 hg6 hS1
   go_wp2_with fail
   have hS2 := HS1.out.box #[.int .u32 (xa : Nat), .int .u32 (xb : Nat), .int .u32 (xc : Nat)] 35
   generalize hV3 : World.alloc _ _ = V3 at hS2 ⊢
   obtain ⟨g21, hg21⟩ : ∃ g, g = V2.heap.size := ⟨_, rfl⟩
   rw [← hg21] at hS2 ⊢
   have HS2 := Lib.hid hS2
   clear C5 HS1 hV3 hg21 hS2
   go_loopw [8, 23] (fun s8 s23 wj => ∃ (k pl c2 ml : Nat) (A : Option Addr), s23 = .int .i64 (k : Nat) ∧ k ≤ 3 ∧ Hid (pl = (pack (lfP (xa, xb, xc, xs) k)).length ∧ ml = (lfP (xa, xb, xc, xs) k).length ∧ Sep w.heap.size w wj [thO (.slice A pl c2) (pack (lfP (xa, xb, xc, xs) k)), thB g21 35 #[.int .u32 (xa : Nat), .int .u32 (xb : Nat), .int .u32 (xc : Nat)], thB g6 41 #[.slice A pl c2, .int .i64 (ml : Nat)], thB g5 57 #[.int .u32 (xa : Nat), .int .u32 (xb : Nat), .int .u32 (xc : Nat), .int .u64 (xs : Nat)]]))
    (fun _ s23 _ => 3 - (intOf s23).toNat)
   case atStart =>
    have hp0 : pack (lfP (xa, xb, xc, xs) 0) = [] := List.length_eq_zero_iff.1 (by rw [pack_length, lfP_len]; rfl)
    exact ⟨0, 0, 0, 0, none, by go_num, Nat.zero_le _, Lib.hid ⟨by rw [hp0]; rfl, rfl, by rw [hp0]; exact HS2.out.cons (t := thO (.slice none 0 0) []) (Below.refl _ _) (World.ownsRow_nil _ _ _ _) (fun k hk => by cases hk)⟩⟩
   case round =>
    obtain ⟨k, pl, c2, ml, A, rfl, hk, HJ⟩ := hrel
    obtain ⟨wj, hwj⟩ : ∃ wj, wj = wr := ⟨_, rfl⟩
    rw [← hwj] at HJ ⊢
    clear hwj
    obtain ⟨M, hM⟩ : ∃ M, M = lfP (xa, xb, xc, xs) k := ⟨_, rfl⟩
    have C6 := cells_say (HJ.out.2.2.blk 2) _ 0 rfl
    simp only [cellsSay, List.drop_zero, Nat.reduceAdd, and_true] at C6
    have hml : ml = 32 * k := by rw [HJ.out.2.1, lfP_len]
    by_cases hk3 : k < 3
    ·have hk4 : (k : Int) < 3 := by omega
     obtain ⟨v, hv⟩ : ∃ v, v = lf3 (xa, xb, xc, xs) k := ⟨_, rfl⟩
     have hv9 : v < 4294967296 := by rw [hv]; unfold lf3; split <;> first | exact xa9 | (split <;> first | exact xb9 | exact xc9)
     have Cv : wj.cell? ⟨g21, k, none⟩ = some (.int .u32 (v : Nat)) := by
      have h1 := HJ.out.2.2.blk 1
      rw [hv]
      rcases (show k = 0 ∨ k = 1 ∨ k = 2 by omega) with rfl | rfl | rfl
      ·exact h1.cell 0
      ·exact h1.cell 1
      ·exact h1.cell 2
     have hPt := put_M A c2 M (v : Int) 32 (M ++ valB v 32) wj (by simp) (by rw [hM]; exact OwnB.bs (HJ.out.2.2.own 0)) ⟨by omega, by omega⟩ ⟨by decide, by decide⟩ (by rw [hM, ← HJ.out.2.1, hml]; omega)
     have e1 : (pack M).length = pl := by rw [hM]; exact HJ.out.1.symm
     have e2 : M.length = ml := by rw [hM]; exact HJ.out.2.1.symm
     rw [e1, e2] at hPt
     have hM2 : M ++ valB v 32 = lfP (xa, xb, xc, xs) (k + 1) := by rw [hM, hv]; rfl
     rw [hM2] at hPt
     obtain ⟨pl2, hpl2⟩ : ∃ n, n = (pack (lfP (xa, xb, xc, xs) (k + 1))).length := ⟨_, rfl⟩
     obtain ⟨ml2, hml2⟩ : ∃ n, n = (lfP (xa, xb, xc, xs) (k + 1)).length := ⟨_, rfl⟩
     rw [← hpl2, ← hml2] at hPt
     have HPt := Lib.hid hPt
     have HP2 := Lib.hid (And.intro hpl2 hml2)
     clear hM hml hPt e1 e2 hM2 hpl2 hml2 hv
     go_upto_region 10 with (go_at_call 28; refine HPt.out.mono ?_; rintro e w2 ⟨A2, c3, rfl, ho, b2⟩; have D6 := cells_say ((HJ.out.2.2.go b2).blk 2) _ 0 rfl; simp only [cellsSay, List.drop_zero, Nat.reduceAdd, and_true] at D6)
     generalize hW9 : World.setCell _ _ _ = W9
     have hS9 := (HJ.out.2.2.cons (t := thO (.slice A2 pl2 c3) (pack (lfP (xa, xb, xc, xs) (k + 1)))) b2 (ho.mono (Nat.zero_le _)) (fun q hq => (World.ownsRow.lt ho q hq).1)).put 3 g6 [(0, .slice A2 pl2 c3), (1, .int .i64 (ml2 : Nat))] #[.slice A2 pl2 c3, .int .i64 (ml2 : Nat)] hW9
     have HS9 := Lib.hid (hS9.sub (us := [thO (.slice A2 pl2 c3) (pack (lfP (xa, xb, xc, xs) (k + 1))), thB g21 35 #[.int .u32 (xa : Nat), .int .u32 (xb : Nat), .int .u32 (xc : Nat)], thB g6 41 #[.slice A2 pl2 c3, .int .i64 (ml2 : Nat)], thB g5 57 #[.int .u32 (xa : Nat), .int .u32 (xb : Nat), .int .u32 (xc : Nat), .int .u64 (xs : Nat)]]) (List.Sublist.cons_cons _ (List.Sublist.cons _ (List.Sublist.refl _))))
     clear C6 D6 Cv HPt ho b2 hW9 hS9
     go_wp2_with fail
     go_roundw
     case measure => simp [intOf]; omega
     case rel => exact ⟨k + 1, pl2, c3, ml2, A2, by go_num, by omega, Lib.hid ⟨HP2.out.1, HP2.out.2, HS9.out⟩⟩
    ·have hk4 : ¬ (k : Int) < 3 := by omega
     obtain rfl : k = 3 := by omega
     obtain ⟨N, hN⟩ : ∃ N, N = lfBits (xa, xb, xc, xs) := ⟨_, rfl⟩
     have hPt := put_M A c2 M (xs : Int) 64 N wj (by rw [hN, hM]; simp [← lfP_all]) (by rw [hM]; exact OwnB.bs (HJ.out.2.2.own 0)) ⟨by omega, by omega⟩ ⟨by decide, by decide⟩ (by rw [hM, ← HJ.out.2.1, hml]; omega)
     have e1 : (pack M).length = pl := by rw [hM]; exact HJ.out.1.symm
     have e2 : M.length = ml := by rw [hM]; exact HJ.out.2.1.symm
     have hN160 : N.length = 160 := by rw [hN]; exact lfBits_len _
     rw [e1, e2] at hPt
     obtain ⟨pl2, hpl2⟩ : ∃ n, n = (pack N).length := ⟨_, rfl⟩
     rw [← hpl2, hN160] at hPt
     have C5 := cells_say (HJ.out.2.2.blk 3) _ 0 rfl
     simp only [cellsSay, List.drop_zero, Nat.reduceAdd, and_true] at C5
     have HPt := Lib.hid hPt
     have HP2 := Lib.hid (And.intro hpl2 (And.intro hN hN160))
     clear hM hml hPt e1 e2 hpl2 hN hN160
     go_upto_region 12 with (go_at_call 28; refine HPt.out.mono ?_; rintro e w2 ⟨A2, c3, rfl, ho, b2⟩; have D6 := cells_say ((HJ.out.2.2.go b2).blk 2) _ 0 rfl; simp only [cellsSay, List.drop_zero, Nat.reduceAdd, and_true] at D6)
     generalize hW9 : World.setCell _ _ _ = W9
     have hS9 := (HJ.out.2.2.cons (t := thO (.slice A2 pl2 c3) (pack N)) b2 (ho.mono (Nat.zero_le _)) (fun q hq => (World.ownsRow.lt ho q hq).1)).put 3 g6 [(0, .slice A2 pl2 c3), (1, .int .i64 160)] #[.slice A2 pl2 c3, .int .i64 160] hW9
     have hMo := moreB A2 c3 N r W9 HX.out.2.2 (OwnB.bs (hS9.own 0)) (by rw [HP2.out.2.2]; decide)
     rw [← HP2.out.1, HP2.out.2.2] at hMo
     obtain ⟨r2, hr2⟩ : ∃ r2, r2 = moreR r N := ⟨_, rfl⟩
     rw [← hr2] at hMo
     have HMo := Lib.hid hMo
     have HR2 := Lib.hid hr2
     clear D6
     have D6 := cells_say (hS9.blk 3) _ 0 rfl
     simp only [cellsSay, List.drop_zero, Nat.reduceAdd, and_true] at D6
     have HS9 := Lib.hid hS9
     clear C5 C6 HPt ho b2 hW9 hS9 hMo hr2
     go_wp2_with (go_at_call 29; refine HMo.out.mono ?_; rintro e w3 ⟨rfl, b3⟩)
     go_roundw
     case measure => simp [intOf]; omega
     case rel =>
      refine ⟨i + 1, r2, by go_num, by omega, rfl, Lib.hid ⟨?_, (HS9.out.go b3).b⟩⟩
      have hil : i < l.length := by rw [← HV.out.2.2.1]; exact hit
      rw [List.take_succ_eq_append_getElem hil, rootG_snoc, show l[i] = (xa, xb, xc, xs) from (List.getElem?_eq_some_iff.1 HX.out.1).2, ← HX.out.2.1, ← HP2.out.2.1]
      exact HR2.out
  ·have hit2 : ¬ (i : Int) < (n : Int) := by omega
   have hi2 : i = n := by omega
   have hrr : r = RG := by
    have h1 := HI.out.1
    rw [hi2, HV.out.2.2.1, List.take_length] at h1
    rw [HV.out.2.2.2]
    exact h1
   subst hrr
   clear hi2
   go_wp2_with fail
   go_ret
   exact ⟨rfl, HI.out.2⟩
end Go.Proofs.YtiliineopplinaaGreatDoor
set_option linter.unusedSimpArgs false
set_option linter.unusedVariables false
namespace Go.Proofs.YtiliineopplinaaGreatDoor
open Go.RowKit
set_option maxRecDepth 100000
theorem leavesX_len {D : BD} (hD : OkD D) : ∀ xs : List Nat, (leavesX D xs).length ≤ 1001 * xs.length
 | [] => Nat.zero_le _
 | x :: xs => by
  have h1 := leavesX_len hD xs
  have h2 : chN (D.at_ x) ≤ 1001 := by have := (hD.at_ x).few; unfold chN; split <;> omega
  show (leavesC x (D.at_ x) ++ leavesX D xs).length ≤ _
  rw [List.length_append, leavesC_len, List.length_cons]
  omega
set_option maxHeartbeats 16000000 in
theorem leaves_any {B : Nat} {w0 w : World} {q : Nat} {D : BD} {ts : List Kt} (h : Bk B w0 w q D ts) :
  Calls Tryz.prog 7 #[ptB q] w fun e w' => ∃ U c, e = .returned (.slice U (leavesD D).length c) ∧ Sep w.heap.size w w' [thR 57 encLf 4 (.slice U (leavesD D).length c) (leavesD D)] := by
 have hmx : Tryz.prog.follows .mixedOrders = true := by kernel_rfl
 have HSe := Lib.hid (bk_series h)
 have hk64 : (ksD D).length ≤ 64 := by rw [ksD_len]; have h1 := h.okD.few; have h2 := h.okD.mo2; omega
 obtain ⟨LD, hLD⟩ : ∃ L, L = leavesD D := ⟨_, rfl⟩
 rw [← hLD]
 have HB := Lib.hid (And.intro h hLD)
 clear h hLD
 go_enter Tryz.func7, Tryz.ntmps7
 go_upto_region 3 with (go_at_call 15; refine HSe.out.mono ?_; rintro e w1 ⟨U1, c1, xs, rfl, h1, h2, h3, b1⟩)
 have hxs := ksD_of h1 h2
 rw [← hxs] at hk64
 obtain ⟨n, hn⟩ : ∃ n, n = xs.length := ⟨_, rfl⟩
 rw [← hn] at h3 hk64 ⊢
 have hxk : ∀ x ∈ xs, x < 4294967296 := fun x hx => by
  obtain ⟨p, hp, rfl⟩ := List.mem_map.1 (h1.subset hx)
  exact HB.out.1.okD.key p hp
 have HX := Lib.hid (And.intro hxs (And.intro hn (And.intro h3 (And.intro b1 hxk))))
 clear h1 h2 hxs hn h3 b1 hxk HSe
 go_loopw [3, 5, 7, 11] (fun s3 s5 s7 s11 wr => ∃ (i m cc : Nat) (U : Option Addr), s11 = .int .i64 (i : Nat) ∧ i ≤ n ∧ s3 = .slice U m cc ∧ Hid (m = (leavesX D (xs.take i)).length ∧ Sep w1.heap.size w1 wr [thR 57 encLf 4 (.slice U m cc) (leavesX D (xs.take i))]))
  (fun _ _ _ s11 _ => n - (intOf s11).toNat)
 case atStart => exact ⟨0, 0, 0, none, by go_num, Nat.zero_le _, rfl, Lib.hid ⟨rfl, (Sep.nil (Below.refl w1.heap.size w1) (Nat.le_refl _)).addNilR 57 encLf 4⟩⟩
 case round =>
  obtain ⟨i, m, cc, U, rfl, hi, rfl, HI⟩ := hrel
  obtain ⟨wi, hwi⟩ : ∃ wi, wi = wr := ⟨_, rfl⟩
  rw [← hwi] at HI ⊢
  clear hwi
  by_cases hit : i < n
  ·obtain ⟨x, hx⟩ : ∃ x, xs[i]? = some x := ⟨_, List.getElem?_eq_getElem (by rw [← HX.out.2.1]; exact hit)⟩
   obtain ⟨gs, hgs, -, hcs⟩ := row_at Tryz.eltU (HX.out.2.2.1.mono (Nat.zero_le _)) hx
   subst hgs
   have hx32 := HX.out.2.2.2.2 x (List.mem_of_getElem? hx)
   have C1 : wi.cell? ⟨gs, i, none⟩ = some (.int .u32 (x : Nat)) := by
    have h1 := hcs 0 _ rfl
    rw [Nat.mul_one, Nat.add_zero] at h1
    exact HI.out.2.old (Nat.le_refl _) h1
   have hbw : Below w.heap.size w wi := HX.out.2.2.2.1.trans (HI.out.2.b.mono HX.out.2.2.2.1.size)
   obtain ⟨C, hC⟩ : ∃ C, C = D.at_ x := ⟨_, rfl⟩
   have hoc : OkC1 C := by rw [hC]; exact HB.out.1.okD.at_ x
   have hCh := bk_chunksS (HB.out.1.go hbw) x hx32
   rw [← hC] at hCh
   have HCh := Lib.hid hCh
   have hit2 : (i : Int) < (n : Int) := by omega
   have HC := Lib.hid (And.intro hx (And.intro hC hoc))
   clear hx hcs hbw hC hoc hCh
   go_upto_region 6 with (go_at_call 16; refine HCh.out.mono ?_; rintro e wc ⟨Uc, nc, T, rfl, hSc, hTl, hTf⟩; obtain ⟨tl, htl⟩ : ∃ n, n = T.length := ⟨_, rfl⟩; rw [← htl] at hSc hTl ⊢; have HTl := Lib.hid (And.intro htl hTl); clear htl hTl)
   have hS0 : Sep w1.heap.size w1 wc (thR 57 encLf 4 (.slice U m cc) (leavesX D (xs.take i)) :: chT (.slice Uc tl nc) T) := (HI.out.2.consL (us := chT (.slice Uc tl nc) T) hSc.b (fun t ht => hSc.all t ht) hSc.ap).permB (List.perm_append_singleton _ _)
   have htl1 : tl ≤ 1001 := by have := HC.out.2.2.few; rw [HTl.out.2]; unfold chN; split <;> omega
   have hm64 : m ≤ 64064 := by
    have h1 := leavesX_len HB.out.1.okD (xs.take i)
    rw [List.length_take] at h1
    rw [HI.out.1]
    omega
   have HT := Lib.hid (And.intro HTl.out.1 (And.intro HTl.out.2 hTf))
   have HS0 := Lib.hid hS0
   have HM := Lib.hid HI.out.1
   clear hSc hTf HTl hS0 C1 HCh HI
   go_loopw [3, 7, 19] (fun s3 s7 s19 wj => ∃ (j m2 cc2 : Nat) (U2 : Option Addr), s19 = .int .i64 (j : Nat) ∧ j ≤ tl ∧ s3 = .slice U2 m2 cc2 ∧ m2 ≤ m + j ∧ Hid (m2 = (leavesX D (xs.take i) ++ (leavesC x C).take j).length ∧ Sep w1.heap.size w1 wj (thR 57 encLf 4 (.slice U2 m2 cc2) (leavesX D (xs.take i) ++ (leavesC x C).take j) :: chT (.slice Uc tl nc) T)))
    (fun _ _ s19 _ => tl - (intOf s19).toNat)
   case atStart => exact ⟨0, m, cc, U, by go_num, Nat.zero_le _, rfl, Nat.le_refl _, Lib.hid ⟨by rw [List.take_zero, List.append_nil]; exact HM.out, by rw [List.take_zero, List.append_nil]; exact HS0.out⟩⟩
   case round =>
    obtain ⟨j, m2, cc2, U2, rfl, hj, rfl, hm2, HJ⟩ := hrel
    obtain ⟨wj, hwj⟩ : ∃ wj, wj = wr := ⟨_, rfl⟩
    rw [← hwj] at HJ ⊢
    clear hwj
    by_cases hjt : j < tl
    ·obtain ⟨L, hL, hLn⟩ := chN_get HC.out.2.2 (k := j) (by rw [← HT.out.2.1]; exact hjt)
     obtain ⟨y, hy⟩ : ∃ y, T[j]? = some y := ⟨_, List.getElem?_eq_getElem (by rw [← HT.out.1]; exact hjt)⟩
     obtain ⟨gf, hgf, -, hc⟩ := row_at Tryz.eltFrE (HJ.out.2.at_ (t := thR 43 encFrE 11 (.slice Uc tl nc) T) 1 rfl) hy
     have hbits := HJ.out.2.get (t := frB y) (List.mem_cons_of_mem _ (List.mem_cons_of_mem _ (List.mem_map.2 ⟨y, List.mem_of_getElem? hy, rfl⟩)))
     subst hgf
     have hyf := (HT.out.2.2 j y hy).1
     rw [chFr_eq HC.out.2.2 hL hLn] at hyf
     obtain ⟨yf, A3, c3⟩ := y
     replace hyf : yf = ⟨0, 0, x, j, 0, 0, L.length, decide (j + 1 < C.length), 0, pack (bitsL L), ((bitsL L).length : Nat)⟩ := hyf
     subst hyf
     have hb : Bs wj A3 (pack (bitsL L)) := OwnB.bs hbits
     have hLm := List.mem_of_getElem? hL
     have hbl := bits_small (HC.out.2.2.lenL hLm) (HC.out.2.2.incL hLm)
     obtain ⟨pl, hpl⟩ : ∃ n, n = (pack (bitsL L)).length := ⟨_, rfl⟩
     obtain ⟨bl, hbl2⟩ : ∃ n, n = (bitsL L).length := ⟨_, rfl⟩
     obtain ⟨ln, hln⟩ : ∃ n, n = L.length := ⟨_, rfl⟩
     obtain ⟨cb, hcb⟩ : ∃ b, b = decide (j + 1 < C.length) := ⟨_, rfl⟩
     obtain ⟨Z, hZ⟩ : ∃ Z, Z = moreR 0 (bitsL L) := ⟨_, rfl⟩
     have f0 : wj.cell? ⟨gf, j * 11, none⟩ = some (.int .u8 0) := hc 0 _ rfl
     have f1 : wj.cell? ⟨gf, j * 11 + 1, none⟩ = some (.int .u32 0) := hc 1 _ rfl
     have f2 : wj.cell? ⟨gf, j * 11 + 2, none⟩ = some (.int .u32 (x : Nat)) := hc 2 _ rfl
     have f3 : wj.cell? ⟨gf, j * 11 + 3, none⟩ = some (.int .u32 (j : Nat)) := hc 3 _ rfl
     have f4 : wj.cell? ⟨gf, j * 11 + 4, none⟩ = some (.int .u32 0) := hc 4 _ rfl
     have f5 : wj.cell? ⟨gf, j * 11 + 5, none⟩ = some (.int .u32 0) := hc 5 _ rfl
     have f6 : wj.cell? ⟨gf, j * 11 + 6, none⟩ = some (.int .u32 (ln : Nat)) := by rw [hln]; exact hc 6 _ rfl
     have f7 : wj.cell? ⟨gf, j * 11 + 7, none⟩ = some (.bool cb) := by rw [hcb]; exact hc 7 _ rfl
     have f8 : wj.cell? ⟨gf, j * 11 + 8, none⟩ = some (.int .u64 0) := hc 8 _ rfl
     have f9 : wj.cell? ⟨gf, j * 11 + 9, none⟩ = some (.slice A3 pl c3) := by rw [hpl]; exact hc 9 _ rfl
     have f10 : wj.cell? ⟨gf, j * 11 + 10, none⟩ = some (.int .i64 (bl : Nat)) := by rw [hbl2]; exact hc 10 _ rfl
     have hjt2 : (j : Int) < (tl : Int) := by omega
     have HL := Lib.hid (And.intro hL (And.intro hln (And.intro hZ (And.intro hpl (And.intro hbl2 (And.intro hb hbl))))))
     have hj11 : j < 4294967296 := by omega
     clear hL hLn hy hc hbits hb hLm hbl hpl hbl2 hln hcb hZ
     go_upto_region 8 with fail
     have hS1 := HJ.out.2.box #[.int .u8 0, .int .u32 0, .int .u32 (x : Nat), .int .u32 (j : Nat), .int .u32 0, .int .u32 0, .int .u32 (ln : Nat), .bool cb, .int .u64 0, .slice A3 pl c3, .int .i64 (bl : Nat)] 43
     have bV := below_alloc wj (.cells #[.int .u8 0, .int .u32 0, .int .u32 (x : Nat), .int .u32 (j : Nat), .int .u32 0, .int .u32 0, .int .u32 (ln : Nat), .bool cb, .int .u64 0, .slice A3 pl c3, .int .i64 (bl : Nat)] 43)
     generalize hV : World.alloc _ _ = V at hS1 bV ⊢
     obtain ⟨g7, hg7⟩ : ∃ g, g = wj.heap.size := ⟨_, rfl⟩
     rw [← hg7] at hS1 ⊢
     have D1 := cells_say (hS1.blk 0) _ 0 rfl
     simp only [cellsSay, List.drop_zero, Nat.reduceAdd, and_true] at D1
     have hLf := leafOf_any 0 0 x j 0 0 ln cb 0 A3 c3 (bitsL L) V (HL.out.2.2.2.2.2.1.below bV) HL.out.2.2.2.2.2.2
     rw [← HL.out.2.2.2.1, ← HL.out.2.2.2.2.1, ← HL.out.2.2.1] at hLf
     have HLf := Lib.hid hLf
     have HF := Lib.hid (fun (W : World) (hW : Below V.heap.size V W) => (hS1.go hW).box #[.int .u32 (x : Nat), .int .u32 (j : Nat), .int .u32 (ln : Nat), .int .u64 ((Z : Nat) : Int)] 57)
     clear f0 f1 f2 f3 f4 f5 f6 f7 f8 f9 f10 hS1 bV hV hg7 hLf
     go_upto_region 9 with (first
      | (go_at_call 19; refine HLf.out.mono ?_; rintro e w6 ⟨rfl, b6⟩)
      | (at_builtin; go_must (refine sep_app1 Tryz.eltLf rfl (.tmp 23) (.tmp 26) rfl 2 (.slice U2 m2 cc2) (leavesX D (xs.take i) ++ (leavesC x C).take j) (by simp [Act.eval, Act.put]) (HF.out _ b6) rfl w6.heap.size 1 (x, j, ln, Z) 57 #[.int .u32 (x : Nat), .int .u32 (j : Nat), .int .u32 (ln : Nat), .int .u64 ((Z : Nat) : Int)] rfl ((HF.out _ b6).blk 0) rfl (by unfold maxLen; rw [← HJ.out.1]; omega) (by rw [← HJ.out.1]; omega) ?_); intro g8 c8 w8 hS8; rw [← HJ.out.1] at hS8 ⊢))
     have hS9 := hS8.tail.tail
     simp only [List.set_cons_succ, List.set_cons_zero, List.tail_cons] at hS9
     have hsn : leavesX D (xs.take i) ++ (leavesC x C).take (j + 1) = leavesX D (xs.take i) ++ (leavesC x C).take j ++ [(x, j, ln, Z)] := by
      rw [List.append_assoc]
      congr 1
      have hg : (leavesC x C)[j]? = some (x, j, ln, Z) := by
       have hjc : j < chN C := by rw [← HT.out.2.1]; exact hjt
       unfold leavesC
       rw [List.getElem?_map, List.getElem?_range hjc, Option.map_some]
       unfold leafC
       rw [HL.out.1, Option.getD_some, HL.out.2.1, HL.out.2.2.1]
      rw [List.take_add_one, hg]
      rfl
     rw [← hsn] at hS9
     have HE := Lib.hid (And.intro hsn hS9)
     clear D1 HLf HF b6 hS8 hS9 hsn
     go_wp2_with fail
     go_roundw
     case measure => simp [intOf]; omega
     case rel => exact ⟨j + 1, m2 + 1, c8, some ⟨g8, 0, none⟩, by go_num, by omega, rfl, by omega, Lib.hid ⟨by rw [HE.out.1, List.length_append, ← HJ.out.1]; rfl, HE.out.2⟩⟩
    ·have hjt2 : ¬ (j : Int) < (tl : Int) := by omega
     have hjj : j = tl := by omega
     have hsn : leavesX D (xs.take i) ++ (leavesC x C).take j = leavesX D (xs.take (i + 1)) := by
      have hil : i < xs.length := by rw [← HX.out.2.1]; exact hit
      rw [List.take_of_length_le (l := leavesC x C) (by rw [leavesC_len, ← HT.out.2.1]; omega), List.take_succ_eq_append_getElem hil, leavesX_snoc, show xs[i] = x from (List.getElem?_eq_some_iff.1 HC.out.1).2, HC.out.2.1]
     have HE := Lib.hid (show m2 = (leavesX D (xs.take (i + 1))).length ∧ Sep w1.heap.size w1 wj [thR 57 encLf 4 (.slice U2 m2 cc2) (leavesX D (xs.take (i + 1)))] by
      rw [← hsn]
      exact ⟨HJ.out.1, HJ.out.2.sub (List.Sublist.cons_cons _ (List.nil_sublist _))⟩)
     clear hsn hjj HJ
     go_wp2_with fail
     go_roundw
     case measure => simp [intOf]; omega
     case rel => exact ⟨i + 1, m2, cc2, U2, by go_num, by omega, rfl, HE⟩
  ·have hit2 : ¬ (i : Int) < (n : Int) := by omega
   have hi2 : i = n := by omega
   have HE := Lib.hid (show m = LD.length ∧ Sep w1.heap.size w1 wi [thR 57 encLf 4 (.slice U m cc) LD] by
    have h1 := HI.out
    rw [hi2, HX.out.2.1, List.take_length, HX.out.1] at h1
    rw [HB.out.2]
    exact h1)
   clear HI hi2
   go_wp2_with fail
   go_ret
   exact ⟨U, cc, by rw [← HE.out.1]; rfl, by rw [← HE.out.1]; exact HE.out.2.rebase HX.out.2.2.2.1⟩
end Go.Proofs.YtiliineopplinaaGreatDoor
set_option linter.unusedSimpArgs false
set_option linter.unusedVariables false
namespace Go.Proofs.YtiliineopplinaaGreatDoor
open Go.RowKit
set_option maxRecDepth 100000
def Bk2 (B : Nat) (w0 w : World) (q : Nat) (D : BD) (p : Nat) (E : BD) (ts : List Kt) : Prop := ∃ Y : Bl, Y.q = p ∧ Y.D = E ∧ OkB Y ∧ Bk B w0 w q D (thBk Y :: ts)
section
variable {B : Nat} {w0 w w' : World} {q p : Nat} {D E : BD} {ts us : List Kt}
theorem Bk2.swap (h : Bk2 B w0 w q D p E ts) : Bk2 B w0 w p E q D ts := by
 obtain ⟨Y, h1, h2, h3, X, h4, h5, h6, h7⟩ := h
 exact ⟨X, h4, h5, h6, Y, h1, h2, h3, h7.permB (List.Perm.swap _ _ _)⟩
theorem Bk2.fst (h : Bk2 B w0 w q D p E ts) : ∃ us, Bk B w0 w q D us := by
 obtain ⟨Y, h1, h2, h3, h4⟩ := h
 exact ⟨_, h4⟩
theorem Bk2.snd (h : Bk2 B w0 w q D p E ts) : ∃ us, Bk B w0 w p E us := h.swap.fst
theorem Bk2.go (h : Bk2 B w0 w q D p E ts) (b : Below w.heap.size w w') : Bk2 B w0 w' q D p E ts := by
 obtain ⟨Y, h1, h2, h3, h4⟩ := h
 exact ⟨Y, h1, h2, h3, h4.go b⟩
theorem Bk2.sep (h : Bk2 B w0 w q D p E ts) : Sep B w0 w ts := by
 obtain ⟨Y, h1, h2, h3, h4⟩ := h
 exact h4.sep.tail
theorem Bk2.b (h : Bk2 B w0 w q D p E ts) : Below B w0 w := h.sep.b
theorem Bk2.okD (h : Bk2 B w0 w q D p E ts) : OkD D ∧ OkD E := by
 obtain ⟨Y, rfl, rfl, h3, h4⟩ := h
 exact ⟨h4.okD, h3.D⟩
theorem bk2_new (h : Bk B w0 w q D ts) (m c : Nat) (h1 : 1 ≤ m) (h2 : m ≤ 64) (h3 : 1 ≤ c) (h4 : c ≤ 24) : Calls Tryz.prog 13 #[.int .i64 (m : Nat), .int .i64 (c : Nat)] w fun e w' => ∃ p, e = .returned (ptB p) ∧ Bk2 B w0 w' q D p ⟨m, c, []⟩ ts := by
 obtain ⟨X, e1, e2, e3, hS⟩ := h
 refine (bk_new hS m c h1 h2 h3 h4).mono ?_
 rintro e w' ⟨p, rfl, hB⟩
 exact ⟨p, rfl, Bk2.swap ⟨X, e1, e2, e3, hB⟩⟩
theorem bk2_take (h : Bk2 B w0 w q D p E ts) (hT : Tab w) (f : FrD) (hf : f.ok) (A : Option Addr) (c : Nat) (hb : Bs w A f.l) (hl : f.l.length ≤ 1000) (hn : (E.at_ f.se).flatten.length + 24 ≤ 1000) :
  Calls Tryz.prog 8 #[ptB p, .agg (frC f A c)] w fun e w' => e = .returned (.int .u16 ((fitD E f).1 : Nat)) ∧ Bk2 B w0 w' q D p (takeD E f) ts := by
 obtain ⟨X, e1, e2, e3, hS⟩ := h.swap
 refine (bk_take hS hT f hf A c hb hl hn).mono ?_
 rintro e w' ⟨rfl, hB⟩
 exact ⟨rfl, Bk2.swap ⟨X, e1, e2, e3, hB⟩⟩
end
end Go.Proofs.YtiliineopplinaaGreatDoor
set_option linter.unusedSimpArgs false
set_option linter.unusedVariables false
namespace Go.Proofs.YtiliineopplinaaGreatDoor
open Go.RowKit
set_option maxRecDepth 100000
section
variable {B : Nat} {w0 w w' : World} {q p : Nat} {D E : BD} {ts us : List Kt}
theorem Bk2.sub (h : Bk2 B w0 w q D p E ts) (hs : us.Sublist ts) : Bk2 B w0 w q D p E us := by
 obtain ⟨Y, h1, h2, h3, X, h4, h5, h6, h7⟩ := h
 exact ⟨Y, h1, h2, h3, X, h4, h5, h6, h7.sub (List.Sublist.cons_cons _ (List.Sublist.cons_cons _ hs))⟩
end
end Go.Proofs.YtiliineopplinaaGreatDoor
