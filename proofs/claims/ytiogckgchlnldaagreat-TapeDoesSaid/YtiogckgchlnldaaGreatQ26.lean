/- Joined: Tp8, Tp9, Tp10, Tp11, Tp2, Tp3, Tp4. -/
import Derived.Test.YtiogckgchlnldaaGreatQ23
import Derived.Test.YtiogckgchlnldaaGreatQ7
import Derived.Test.YtiogckgchlnldaaGreatQ21
import Derived.Test.YtiogckgchlnldaaGreatQ16
import Derived.Test.YtiogckgchlnldaaGreatQ19
import Derived.Test.YtiogckgchlnldaaGreatQ24
set_option linter.unusedSimpArgs false
set_option linter.unusedVariables false
/- Layer 10: the program's journal: other, Append, Sync. -/
set_option linter.unusedSimpArgs false
set_option linter.unusedVariables false
namespace Go.Proofs.YtiogckgchlnldaaGreat
open Go.RowKit
set_option maxRecDepth 100000

/-- a journal's cells; the other file's name -/
def tpc (q : Nat) (n : Nm) : Array Value := #[.pointer (some ⟨q, 0, none⟩), .string ⟨n.toArray⟩]
def oth (n : Nm) : Nm := n ++ [126]
abbrev thT (tp q : Nat) (n : Nm) : Kt := thB tp 92 (tpc q n)
theorem oth_str (n : Nm) : (⟨n.toArray⟩ : ByteArray) ++ (⟨#[126]⟩ : ByteArray) = ⟨(oth n).toArray⟩ := by
  apply ByteArray.ext
  rw [ByteArray.data_append]
  unfold oth
  simp

theorem FsI.memT {B q room : Nat} {w0 w : World} {ts : List Kt} {d : Fd} {t : Kt} (h : FsI B w0 w q room ts d) (e : t ∈ ts) : t.P w := by
  obtain ⟨i, hi, e⟩ := List.mem_iff_getElem.1 e
  exact h.get i (by rw [List.getElem?_eq_getElem hi, e])
theorem other_any (tp q : Nat) (n : Nm) (w : World) (h : Blk w tp 92 (tpc q n)) (hn : n.length ≤ 100) :
    Calls Tryz.prog 44 #[.pointer (some ⟨tp, 0, none⟩)] w fun e w' => e = .returned (.string ⟨(oth n).toArray⟩) ∧ w' = w := by
  have C := fbsays h
  simp only [cellsSay, tpc, Nat.reduceAdd, and_true] at C
  have hs := oth_str n
  have hsz : (⟨n.toArray⟩ : ByteArray).size ≤ 100 := by simpa [ByteArray.size] using hn
  clear h
  go_enter Tryz.func44, Tryz.ntmps44
  go_wp2_with fail
  go_ret
  exact ⟨rfl, rfl⟩

def tappendD (room : Int) (d : Fd) (n : Nm) (l : List UInt8) : Nat × Fd := if 600 < l.length then (1, d) else appendD room d n (wrapL l)
theorem wrapL_600 {l : List UInt8} (h : l.length ≤ 600) : (wrapL l).length ≤ 610 := by
  have := encL_length _ l (Nat.le_refl _)
  unfold wrapL
  rw [List.length_append]
  simp
  omega

set_option maxHeartbeats 8000000 in
theorem tappend_any {B q room : Nat} {w0 w : World} {ts : List Kt} {d : Fd} (tp : Nat) (n : Nm) (A : Option Addr) (c : Nat) (l : List UInt8) (h : FsI B w0 w q room ts d) (hT : thT tp q n ∈ ts) (hn : n.length ≤ 100) (hl : Bs w A l) (hc : l.length ≤ c) (hll : l.length ≤ 200000)
    (hlf : d.lf ≤ 1000000) (hr : room ≤ 1048576) (hu : usedD d + 610 ≤ 200000) (hpl : d.P.length < 1000000) :
    Calls Tryz.prog 16 #[.pointer (some ⟨tp, 0, none⟩), .slice A l.length c] w fun e w' => e = .returned (.int .u16 ((tappendD room d n l).1 : Nat)) ∧ FsI B w0 w' q room ts (tappendD room d n l).2 := by
  unfold tappendD
  by_cases h6 : 600 < l.length
  · rw [if_pos h6]
    obtain ⟨m, hm⟩ : ∃ m, m = l.length := ⟨_, rfl⟩
    rw [← hm] at hc hll h6 ⊢
    have d6 : decide ((600 : Int) < (m : Int)) = true := decide_eq_true (by omega)
    have d7 : (600 : Int) < (m : Int) := by omega
    have HE := Lib.hid h
    clear h hT hl hm hc hu hpl hlf hr
    go_enter Tryz.func16, Tryz.ntmps16
    go_wp2_with fail
    go_ret
    exact ⟨rfl, HE.out⟩
  · rw [if_neg h6]
    have hmx : Tryz.prog.follows .mixedOrders = true := by kernel_rfl
    have bT : Blk w tp 92 (tpc q n) := h.memT hT
    have C := fbsays bT
    simp only [cellsSay, tpc, Nat.reduceAdd, and_true] at C
    have hwl := wrapL_600 (l := l) (by omega)
    have HW := Lib.hid (fun (x : More) => wrap_any A c l (plus w x) (hl.below (plus_below w x)) hc hll)
    have HP := Lib.hid (fun (W : World) (A1 : Option Addr) (c1 : Nat) (hs : FsI B w0 W q room (thO (.slice A1 (wrapL l).length c1) (wrapL l) :: ts) d) => append_any n (by unfold maxLen; omega) A1 c1 (wrapL l) hs (by omega) hr (fun W' d' hs => OwnB.bs (show OwnB W' 0 (.slice A1 (wrapL l).length c1) (wrapL l) from hs.get 0 rfl)) hlf (by omega) hpl)
    obtain ⟨m, hm⟩ : ∃ m, m = l.length := ⟨_, rfl⟩
    obtain ⟨k, hk⟩ : ∃ k, k = (wrapL l).length := ⟨_, rfl⟩
    obtain ⟨r, hr9⟩ : ∃ r, r = appendD room d n (wrapL l) := ⟨_, rfl⟩
    rw [← hk, ← hr9] at HP
    rw [← hm] at HW h6 hc hll ⊢
    rw [← hr9]
    have d6 : decide ((600 : Int) < (m : Int)) = false := decide_eq_false (by omega)
    have d7 : ¬ (600 : Int) < (m : Int) := by omega
    have HE := Lib.hid (And.intro h hk)
    have hpl2 := plus_cell w
    clear h hT hl hm hc hu hpl hlf hr hwl hk hr9 bT h6
    go_enter Tryz.func16, Tryz.ntmps16
    go_wp2_with fail
    refine wp_region_fresh_tail 10 [] [1, 5, 9, 10] (fun k2 V z => if k2 = 9 then ∃ A1 c1, V = .slice A1 k c1 ∧ OwnB z w.heap.size (.slice A1 k c1) (wrapL l) else V = .pointer (some ⟨tp, 0, none⟩)) hmx (by kernel_rfl) (by kernel_rfl) ?_
    simp only [List.take_succ_cons, List.take_zero, List.drop_succ_cons, List.drop_zero]
    refine walkF_one none w rfl (by kernel_rfl) ?_; go_big_quiet_step (fail); refine wpQuiet_nil ?_
    refine walkF_make none w rfl rfl rfl (by kernel_rfl) (fun y => ?_) ?_
    · refine grow_val (v := .pointer (some ⟨tp, 0, none⟩)) (w' := plus w y) ?_ (Below.refl _ _) ?_
      · simp [execOp, go_sem]
      · exact rfl
    intro V1 z1 hV1 g1
    obtain rfl : V1 = .pointer (some ⟨tp, 0, none⟩) := hV1
    conv => arg 11; simp [Act.put]
    iterate 3 (refine walkF_one none w rfl (by kernel_rfl) ?_; go_big_quiet_step (fail); refine wpQuiet_nil ?_)
    refine walkF_make none w rfl rfl rfl (by kernel_rfl) (fun y => ?_) ?_
    · refine grow_val (v := .pointer (some ⟨tp, 0, none⟩)) (w' := plus w y) ?_ (Below.refl _ _) ?_
      · simp [execOp, go_sem]
      · exact rfl
    intro V5 z5 hV5 g5
    obtain rfl : V5 = .pointer (some ⟨tp, 0, none⟩) := hV5
    conv => arg 11; simp [Act.put]
    iterate 3 (refine walkF_one none w rfl (by kernel_rfl) ?_; go_big_quiet_step (fail); refine wpQuiet_nil ?_)
    refine walkF_make none w rfl rfl rfl (by kernel_rfl) (fun y => ?_) ?_
    · refine grow_call ?_ ((HW.out y).mono ?_)
      · simp [execOp, go_sem]
      · rintro e w4 ⟨A4, n4, c4, rfl, rfl, h4, h5⟩
        exact ⟨_, rfl, h5, A4, c4, by rw [HE.out.2], by rw [HE.out.2]; exact h4.mono (plus_below w y).size⟩
    intro V9 z9 hV9 g9
    obtain ⟨A1, c1, rfl, o9⟩ : ∃ A1 c1, V9 = .slice A1 k c1 ∧ OwnB z9 w.heap.size (.slice A1 k c1) (wrapL l) := hV9
    conv => arg 11; simp [Act.put]
    refine walkF_end ?_
    intro w4 h0 hE
    have k9 : Below z9.heap.size z9 w4 := hE 9
    have h5 : FsI B w0 w4 q room (thO (.slice A1 k c1) (wrapL l) :: ts) d := HE.out.1.cons h0 ((o9.below k9).mono (Nat.zero_le _)) (fun j hj => (World.ownsRow.lt o9 j hj).1)
    have HF := Lib.hid (HP.out _ _ _ h5)
    clear hE k9 o9 h0 g9 g5 g1 h5 hpl2 HP HW C
    go_wp2_with fail
    refine HF.out.mono ?_
    rintro e w5 ⟨rfl, h6⟩
    have H6 := Lib.hid h6.tail
    clear h6
    go_wp2_with fail
    go_ret
    exact ⟨rfl, H6.out⟩

end Go.Proofs.YtiogckgchlnldaaGreat

/- Layer 10: the program's journal: Sync; the other file is written. -/
set_option linter.unusedSimpArgs false
set_option linter.unusedVariables false
namespace Go.Proofs.YtiogckgchlnldaaGreat
open Go.RowKit
set_option maxRecDepth 100000

set_option maxHeartbeats 4000000 in
theorem tsync_any {B q room : Nat} {w0 w : World} {ts : List Kt} {d : Fd} (tp : Nat) (n : Nm) (h : FsI B w0 w q room ts d) (hT : thT tp q n ∈ ts) (hn : n.length ≤ 100) (hlf : d.lf ≤ 1000000) :
    Calls Tryz.prog 29 #[.pointer (some ⟨tp, 0, none⟩)] w fun e w' => e = .returned (.int .u16 ((syncD d n).1 : Nat)) ∧ FsI B w0 w' q room ts (syncD d n).2 := by
  have hmx : Tryz.prog.follows .mixedOrders = true := by kernel_rfl
  have bT : Blk w tp 92 (tpc q n) := h.memT hT
  have C := fbsays bT
  simp only [cellsSay, tpc, Nat.reduceAdd, and_true] at C
  have HP := Lib.hid (fun (x : More) => sync_any n (by unfold maxLen; omega) (h.go (plus_below w x)) hlf)
  have hp := plus_cell w
  clear h hT bT hn hlf
  go_enter Tryz.func29, Tryz.ntmps29
  go_wp2_with fail
  refine wp_region_tail_ext 8 (by kernel_rfl) (by kernel_rfl) ?_
  simp only [List.take_succ_cons, List.take_zero, List.drop_succ_cons, List.drop_zero]
  repeat (go_big_quiet_step (fail))
  refine wpQuiet_nil ?_
  rintro w2 ⟨x, rfl⟩
  have HF := Lib.hid (HP.out x)
  clear HP hp C
  go_wp2_with fail
  refine HF.out.mono ?_
  rintro e w3 ⟨rfl, h3⟩
  have H3 := Lib.hid h3
  clear h3
  go_wp2_with fail
  go_ret
  exact ⟨rfl, H3.out⟩

theorem create_k (d : Fd) (n : Nm) : (createD d n).1 ≤ 1000 := by unfold createD; (repeat' split) <;> simp
theorem sync_k (d : Fd) (n : Nm) : (syncD d n).1 ≤ 1000 := by unfold syncD; (repeat' split) <;> simp
theorem cut_k (d : Fd) (n : Nm) (k : Int) : (cutD d n k).1 ≤ 1000 := by unfold cutD; (repeat' split) <;> simp
theorem rename_k (d : Fd) (n m : Nm) : (renameD d n m).1 ≤ 1000 := by unfold renameD; (repeat' split) <;> simp
theorem remove_k (d : Fd) (n : Nm) : (removeD d n).1 ≤ 1000 := by unfold removeD; (repeat' split) <;> simp
theorem append_k (room : Int) (d : Fd) (n : Nm) (b : List UInt8) : (appendD room d n b).1 ≤ 1000 := by unfold appendD; (repeat' split) <;> simp
/-- notes are written into a file -/
def appsD (room : Int) (o : Nm) : List (List UInt8) → Fd → Nat × Fd
  | [], d => (0, d)
  | x :: xs, d => if (appendD room d o (wrapL x)).1 ≠ 0 then appendD room d o (wrapL x) else appsD room o xs (appendD room d o (wrapL x)).2
/-- the other file is written, and gets the name -/
def rewriteD (room : Int) (d : Fd) (n : Nm) (L : List (List UInt8)) : Nat × Fd :=
  if (createD d (oth n)).1 ≠ 0 then createD d (oth n) else
  if (appsD room (oth n) L (createD d (oth n)).2).1 ≠ 0 then appsD room (oth n) L (createD d (oth n)).2 else
  if (syncD (appsD room (oth n) L (createD d (oth n)).2).2 (oth n)).1 ≠ 0 then syncD (appsD room (oth n) L (createD d (oth n)).2).2 (oth n) else
  renameD (syncD (appsD room (oth n) L (createD d (oth n)).2).2 (oth n)).2 (oth n) n
def swapD (room : Int) (d : Fd) (n : Nm) (L : List (List UInt8)) : Nat × Fd :=
  if L.any (fun l => decide (600 < l.length)) = true then (1, d) else
  ((rewriteD room (removeD d (oth n)).2 n L).1, if (rewriteD room (removeD d (oth n)).2 n L).1 ≠ 0 then (removeD (rewriteD room (removeD d (oth n)).2 n L).2 (oth n)).2 else (rewriteD room (removeD d (oth n)).2 n L).2)

end Go.Proofs.YtiogckgchlnldaaGreat

/- Layer 10: the program's journal: the other file is written. -/
set_option linter.unusedSimpArgs false
set_option linter.unusedVariables false
namespace Go.Proofs.YtiogckgchlnldaaGreat
open Go.RowKit
set_option maxRecDepth 100000

theorem apps_cons0 {room : Int} {o : Nm} {x : List UInt8} {xs : List (List UInt8)} {d : Fd} (h : (appendD room d o (wrapL x)).1 = 0) : appsD room o (x :: xs) d = appsD room o xs (appendD room d o (wrapL x)).2 := by
  show (if (appendD room d o (wrapL x)).1 ≠ 0 then _ else _) = _
  rw [if_neg (by rw [h]; decide)]
theorem apps_cons1 {room : Int} {o : Nm} {x : List UInt8} {xs : List (List UInt8)} {d : Fd} (h : (appendD room d o (wrapL x)).1 ≠ 0) : appsD room o (x :: xs) d = appendD room d o (wrapL x) := by
  show (if (appendD room d o (wrapL x)).1 ≠ 0 then _ else _) = _
  rw [if_pos h]

set_option maxHeartbeats 16000000 in
theorem rewrite_any {B q room : Nat} {w0 w : World} {ts : List Kt} {d : Fd} (tp : Nat) (n : Nm) (A : Option Addr) (c : Nat) (L : List Bx) (h : FsI B w0 w q room ts d) (hT : thT tp q n ∈ ts) (hn : n.length ≤ 99) (hN : ∀ W d', FsI B w0 W q room ts d' → Ns W A L) (hc : ∀ x ∈ L, x.b.length ≤ x.c) (hL6 : ∀ x ∈ L, x.b.length ≤ 600)
    (hlf : d.lf ≤ 1000000) (hr : room ≤ 1048576) (hu : usedD d + 610 * L.length ≤ 200000) (hpl : d.P.length + L.length < 1000000) :
    Calls Tryz.prog 57 #[.pointer (some ⟨tp, 0, none⟩), .slice A L.length c] w fun e w' => e = .returned (.int .u16 ((rewriteD room d n (L.map Bx.b)).1 : Nat)) ∧ FsI B w0 w' q room ts (rewriteD room d n (L.map Bx.b)).2 := by
  have hmx : Tryz.prog.follows .mixedOrders = true := by kernel_rfl
  have hon : (oth n).length ≤ maxLen := by unfold oth maxLen; simp; omega
  have hnn : n.length ≤ maxLen := by unfold maxLen; omega
  obtain ⟨D1, hD1⟩ : ∃ D1, D1 = createD d (oth n) := ⟨_, rfl⟩
  obtain ⟨D4, hD4⟩ : ∃ D4, D4 = rewriteD room d n (L.map Bx.b) := ⟨_, rfl⟩
  have hp := plus_cell w
  have bT : Blk w tp 92 (tpc q n) := h.memT hT
  have C := fbsays bT
  simp only [cellsSay, tpc, Nat.reduceAdd, and_true] at C
  have HO := Lib.hid (fun (W : World) (d' : Fd) (hs : FsI B w0 W q room ts d') => other_any tp q n W (hs.memT hT) (by omega))
  have HOx := Lib.hid (fun (x : More) => ext_of (v := .string ⟨(oth n).toArray⟩) ((HO.out _ _ (h.go (plus_below w x))).mono (fun e w' he => ⟨he.1, by rw [he.2]; exact Below.refl _ _⟩)))
  have HC := Lib.hid (fun (x : More) => create_any (oth n) hon (h.go (plus_below w x)) hlf)
  have hl1 := lp_create d (oth n)
  have hu1 : usedD (createD d (oth n)).2 ≤ usedD d := by
    obtain ⟨T, hi⟩ := h.fi
    exact used_create hi (oth n)
  have hk1 := create_k d (oth n)
  rw [← hD1] at HC hl1 hu1 hk1
  rw [← hD4]
  obtain ⟨m, hm⟩ : ∃ m, m = L.length := ⟨_, rfl⟩
  have hm9 : m ≤ 1000 := by omega
  rw [← hm] at hu hpl ⊢
  have HF := Lib.hid (And.intro hD1 (And.intro hD4 (And.intro hm (And.intro hN (And.intro hc (And.intro hL6 (And.intro hu (And.intro hpl (And.intro hl1 (And.intro hu1 (And.intro hT (And.intro hlf hr))))))))))))
  clear hD1 hD4 hm hN hc hL6 hu hpl hl1 hu1 h hT bT hlf hr
  go_enter Tryz.func57, Tryz.ntmps57
  go_wp2_with fail
  refine wp_region_tail_ext 6 (by kernel_rfl) (by kernel_rfl) ?_
  simp only [List.take_succ_cons, List.take_zero, List.drop_succ_cons, List.drop_zero]
  repeat (go_big_quiet_step ((go_at_call 44; exact HOx.out _)))
  refine wpQuiet_nil ?_
  rintro w2 ⟨x, rfl⟩
  have HC1 := Lib.hid (HC.out x)
  clear HC HOx hp C
  go_wp2_with fail
  refine HC1.out.mono ?_
  rintro e w1 ⟨rfl, h1⟩
  have H1 := Lib.hid h1
  clear h1 HC1
  by_cases hz : D1.1 = 0
  · have kc : ((D1.1 : Int) == 0) = true := beq_iff_eq.2 (by omega)
    have kd : ((D1.1 : Int) != 0) = false := by unfold bne; rw [kc]; rfl
    have HD4 : Hid (D4 = if (appsD room (oth n) (L.map Bx.b) D1.2).1 ≠ 0 then appsD room (oth n) (L.map Bx.b) D1.2 else if (syncD (appsD room (oth n) (L.map Bx.b) D1.2).2 (oth n)).1 ≠ 0 then syncD (appsD room (oth n) (L.map Bx.b) D1.2).2 (oth n) else renameD (syncD (appsD room (oth n) (L.map Bx.b) D1.2).2 (oth n)).2 (oth n) n) := Lib.hid (by rw [HF.out.2.1, rewriteD, ← HF.out.1, if_neg (by rw [hz]; decide)])
    clear hz
    go_wp2_with fail
    clear kc kd
    go_loopw [22] (fun s wr => ∃ k : Nat, k ≤ m ∧ s = .int .i64 k ∧ Hid (∃ dk, FsI B w0 wr q room ts dk ∧ appsD room (oth n) (L.map Bx.b) D1.2 = appsD room (oth n) ((L.map Bx.b).drop k) dk ∧ usedD dk + 610 * (m - k) ≤ 200000 ∧ dk.P.length + (m - k) < 1000000 ∧ dk.lf ≤ 1000000)) (fun s _ => m - (intOf s).toNat)
    case atStart =>
      obtain ⟨-, -, hm, -, -, -, hu, hpl, hl1, hu1, -, hlf, -⟩ := HF.out
      have e1 := hl1.1
      have e2 := hl1.2
      exact ⟨0, Nat.zero_le _, rfl, Lib.hid ⟨D1.2, H1.out, by rw [List.drop_zero], by omega, by omega, by omega⟩⟩
    case round =>
      obtain ⟨k, hk, rfl, HR⟩ := hrel
      obtain ⟨dk, r1, r2, r3, r4, r5⟩ := HR.out
      by_cases hlt : k < m
      · obtain ⟨x, hx⟩ : ∃ x, L[k]? = some x := ⟨_, List.getElem?_eq_getElem (by rw [← HF.out.2.2.1]; exact hlt)⟩
        have hxm := List.mem_of_getElem? hx
        have hNs := HF.out.2.2.2.1 wr dk r1
        obtain ⟨p, f, hAe, hce⟩ := hNs.row k x hx
        have c0 := hce 0 _ rfl
        simp only [Nat.add_zero, Nat.mul_one] at c0
        subst hAe
        have hx6 := HF.out.2.2.2.2.2.1 x hxm
        have hwl := wrapL_600 hx6
        have HW := Lib.hid (fun (y : More) => wrap_any x.A x.c x.b (plus wr y) ((hNs.by_ x hxm).below (plus_below wr y)) (HF.out.2.2.2.2.1 x hxm) (by omega))
        have bT := r1.memT HF.out.2.2.2.2.2.2.2.2.2.2.1
        have C := fbsays (show Blk wr tp 92 (tpc q n) from bT)
        simp only [cellsSay, tpc, Nat.reduceAdd, and_true] at C
        have HOx := Lib.hid (fun (y : More) => HO.out _ _ (r1.go (plus_below wr y)))
        obtain ⟨kk, hkk⟩ : ∃ kk, kk = (wrapL x.b).length := ⟨_, rfl⟩
        obtain ⟨rr, hrr⟩ : ∃ rr, rr = appendD room dk (oth n) (wrapL x.b) := ⟨_, rfl⟩
        have HP := Lib.hid (fun (W : World) (A1 : Option Addr) (c1 : Nat) (hs : FsI B w0 W q room (thO (.slice A1 (wrapL x.b).length c1) (wrapL x.b) :: ts) dk) => append_any (oth n) hon A1 c1 (wrapL x.b) hs (by omega) HF.out.2.2.2.2.2.2.2.2.2.2.2.2 (fun W' d' hs => OwnB.bs (show OwnB W' 0 (.slice A1 (wrapL x.b).length c1) (wrapL x.b) from hs.get 0 rfl)) r5 (by omega) (by omega))
        have hlA := lp_append room dk (oth n) (wrapL x.b)
        have huA : usedD (appendD room dk (oth n) (wrapL x.b)).2 ≤ usedD dk + (wrapL x.b).length := by
          obtain ⟨T, hi⟩ := r1.fi
          exact used_append hi room (oth n) (wrapL x.b) (by omega) (by omega)
        have hkA := append_k room dk (oth n) (wrapL x.b)
        have hdr : (L.map Bx.b).drop k = x.b :: (L.map Bx.b).drop (k + 1) := by
          rw [List.drop_eq_getElem_cons (by rw [List.length_map, ← HF.out.2.2.1]; exact hlt)]
          congr 1
          rw [List.getElem_map]
          have := (List.getElem?_eq_some_iff.1 hx).2
          rw [this]
        have hA0 := fun h => apps_cons0 (room := room) (o := oth n) (x := x.b) (xs := (L.map Bx.b).drop (k + 1)) (d := dk) h
        have hA1 := fun h => apps_cons1 (room := room) (o := oth n) (x := x.b) (xs := (L.map Bx.b).drop (k + 1)) (d := dk) h
        rw [hdr] at r2
        rw [← hrr] at HP hlA huA hkA hA0 hA1
        rw [← hkk] at HP hwl huA
        obtain ⟨xn, hxn⟩ : ∃ xn, xn = x.b.length := ⟨_, rfl⟩
        rw [← hxn] at c0 HW
        have HG := Lib.hid (And.intro r1 (And.intro r2 (And.intro r3 (And.intro r4 (And.intro r5 (And.intro hkk (And.intro hlA (And.intro huA (And.intro hwl (And.intro hA0 hA1))))))))))
        have hkl : (k : Int) < (m : Int) := by omega
        have hk0 : (0 : Int) ≤ (k : Int) := by omega
        have hpl2 := plus_cell wr
        clear r1 r2 r3 r4 r5 HR hx hxm hNs hce hx6 hwl bT hkk hrr hlA huA hdr hA0 hA1 hxn
        go_wp2_with fail
        refine wp_region_fresh_tail 8 [] [1, 5, 7, 8] (fun k2 V z => if k2 = 7 then ∃ A1 c1, V = .slice A1 kk c1 ∧ OwnB z wr.heap.size (.slice A1 kk c1) (wrapL x.b) else if k2 = 5 then V = .string ⟨(oth n).toArray⟩ else V = .pointer (some ⟨tp, 0, none⟩)) hmx (by kernel_rfl) (by kernel_rfl) ?_
        simp only [List.take_succ_cons, List.take_zero, List.drop_succ_cons, List.drop_zero]
        refine walkF_one none wr rfl (by kernel_rfl) ?_; go_big_quiet_step (fail); refine wpQuiet_nil ?_
        refine walkF_make none wr rfl rfl rfl (by kernel_rfl) (fun y => ?_) ?_
        · refine grow_val (v := .pointer (some ⟨tp, 0, none⟩)) (w' := plus wr y) ?_ (Below.refl _ _) ?_
          · simp [execOp, go_sem]
          · exact rfl
        intro V1 z1 hV1 g1
        obtain rfl : V1 = .pointer (some ⟨tp, 0, none⟩) := hV1
        conv => arg 11; simp [Act.put]
        iterate 3 (refine walkF_one none wr rfl (by kernel_rfl) ?_; go_big_quiet_step (fail); refine wpQuiet_nil ?_)
        refine walkF_make none wr rfl rfl rfl (by kernel_rfl) (fun y => ?_) ?_
        · refine grow_call ?_ ((HOx.out y).mono ?_)
          · simp [execOp, go_sem]
          · rintro e w4 ⟨rfl, rfl⟩
            exact ⟨_, rfl, Below.refl _ _, rfl⟩
        intro V5 z5 hV5 g5
        obtain rfl : V5 = .string ⟨(oth n).toArray⟩ := hV5
        conv => arg 11; simp [Act.put]
        refine walkF_one none wr rfl (by kernel_rfl) ?_; go_big_quiet_step (fail); refine wpQuiet_nil ?_
        refine walkF_make none wr rfl rfl rfl (by kernel_rfl) (fun y => ?_) ?_
        · refine grow_call ?_ ((HW.out y).mono ?_)
          · simp [execOp, go_sem]
          · rintro e w4 ⟨A4, n4, c4, rfl, rfl, h4, h5⟩
            exact ⟨_, rfl, h5, A4, c4, by rw [HG.out.2.2.2.2.2.1], by rw [HG.out.2.2.2.2.2.1]; exact h4.mono (plus_below wr y).size⟩
        intro V9 z9 hV9 g9
        obtain ⟨A1, c1, rfl, o9⟩ : ∃ A1 c1, V9 = .slice A1 kk c1 ∧ OwnB z9 wr.heap.size (.slice A1 kk c1) (wrapL x.b) := hV9
        conv => arg 11; simp [Act.put]
        refine walkF_end ?_
        intro w4 h0 hE
        have k9 : Below z9.heap.size z9 w4 := hE 7
        have h5 : FsI B w0 w4 q room (thO (.slice A1 kk c1) (wrapL x.b) :: ts) dk := HG.out.1.cons h0 ((o9.below k9).mono (Nat.zero_le _)) (fun j hj => (World.ownsRow.lt o9 j hj).1)
        have HQ := Lib.hid (HP.out _ _ _ h5)
        clear hE k9 o9 h0 g9 g5 g1 h5 hpl2 HP HW C c0 HOx
        go_wp2_with fail
        refine HQ.out.mono ?_
        rintro e w5 ⟨rfl, h6⟩
        have H6 := Lib.hid h6.tail
        clear h6 HQ
        by_cases hz : rr.1 = 0
        · have kc : ((rr.1 : Int) == 0) = true := beq_iff_eq.2 (by omega)
          have kd : ((rr.1 : Int) != 0) = false := by unfold bne; rw [kc]; rfl
          obtain ⟨r1, r2, r3, r4, r5, hkk, hlA, huA, hwl, hA0, hA1⟩ := HG.out
          rw [hA0 hz] at r2
          have e1 := hlA.1
          have e2 := hlA.2
          have HE := Lib.hid (show ∃ dk, FsI B w0 w5 q room ts dk ∧ appsD room (oth n) (L.map Bx.b) D1.2 = appsD room (oth n) ((L.map Bx.b).drop (k + 1)) dk ∧ usedD dk + 610 * (m - (k + 1)) ≤ 200000 ∧ dk.P.length + (m - (k + 1)) < 1000000 ∧ dk.lf ≤ 1000000 from ⟨rr.2, H6.out, r2, by omega, by omega, by omega⟩)
          clear r1 r2 r3 r4 r5 hkk hlA huA hwl hA0 hA1 e1 e2 hz H6 HG
          go_wp2_with fail
          go_roundw
          case measure => simp [intOf]; omega
          case rel => exact ⟨k + 1, by omega, by go_num, HE⟩
        · have kc : ((rr.1 : Int) == 0) = false := beq_eq_false_iff_ne.2 (by omega)
          have kd : ((rr.1 : Int) != 0) = true := by simpa using hz
          have HE : Hid (D4 = rr) := Lib.hid (by
            rw [HD4.out, HG.out.2.1, HG.out.2.2.2.2.2.2.2.2.2.2 hz, if_pos hz])
          clear hz HG
          go_wp2_with fail
          go_ret
          rw [HE.out]
          exact ⟨rfl, H6.out⟩
      · obtain rfl : k = m := by omega
        have hkk : ¬ ((k : Int) < (k : Int)) := by omega
        have hdr : (L.map Bx.b).drop k = [] := List.drop_of_length_le (by rw [List.length_map, ← HF.out.2.2.1]; exact Nat.le_refl _)
        rw [hdr, show appsD room (oth n) [] dk = (0, dk) from rfl] at r2
        rw [r2] at HD4
        simp only [ne_eq, not_true_eq_false, if_false] at HD4
        obtain ⟨D5, hD5⟩ : ∃ D5, D5 = syncD dk (oth n) := ⟨_, rfl⟩
        rw [← hD5] at HD4
        have hp := plus_cell wr
        have bT := r1.memT HF.out.2.2.2.2.2.2.2.2.2.2.1
        have C := fbsays (show Blk wr tp 92 (tpc q n) from bT)
        simp only [cellsSay, tpc, Nat.reduceAdd, and_true] at C
        have HOx := Lib.hid (fun (x : More) => ext_of (v := .string ⟨(oth n).toArray⟩) ((HO.out _ _ (r1.go (plus_below wr x))).mono (fun e w' he => ⟨he.1, by rw [he.2]; exact Below.refl _ _⟩)))
        have HS := Lib.hid (fun (x : More) => sync_any (oth n) hon (r1.go (plus_below wr x)) r5)
        have hk5 := sync_k dk (oth n)
        have hl5 := lp_sync dk (oth n)
        rw [← hD5] at HS hk5 hl5
        have HL5 : Hid (D5.2.lf ≤ 1000000) := Lib.hid (by have := hl5.1; omega)
        clear r1 r2 r3 r4 r5 HR hdr hD5 bT hl5
        go_wp2_with fail
        refine wp_region_tail_ext 6 (by kernel_rfl) (by kernel_rfl) ?_
        simp only [List.take_succ_cons, List.take_zero, List.drop_succ_cons, List.drop_zero]
        repeat (go_big_quiet_step ((go_at_call 44; exact HOx.out _)))
        refine wpQuiet_nil ?_
        rintro w2 ⟨x, rfl⟩
        have HC1 := Lib.hid (HS.out x)
        clear HS HOx hp C
        go_wp2_with fail
        refine HC1.out.mono ?_
        rintro e w6 ⟨rfl, h6⟩
        have H6 := Lib.hid h6
        clear h6 HC1
        by_cases hz : D5.1 = 0
        · have kc : ((D5.1 : Int) == 0) = true := beq_iff_eq.2 (by omega)
          have kd : ((D5.1 : Int) != 0) = false := by unfold bne; rw [kc]; rfl
          have HE : Hid (D4 = renameD D5.2 (oth n) n) := Lib.hid (by rw [HD4.out, hz]; simp)
          have hp := plus_cell w6
          have bT := H6.out.memT HF.out.2.2.2.2.2.2.2.2.2.2.1
          have C := fbsays (show Blk w6 tp 92 (tpc q n) from bT)
          simp only [cellsSay, tpc, Nat.reduceAdd, and_true] at C
          have HOx := Lib.hid (fun (x : More) => ext_of (v := .string ⟨(oth n).toArray⟩) ((HO.out _ _ (H6.out.go (plus_below w6 x))).mono (fun e w' he => ⟨he.1, by rw [he.2]; exact Below.refl _ _⟩)))
          have HS := Lib.hid (fun (x : More) => rename_any (oth n) n hon hnn (H6.out.go (plus_below w6 x)) HL5.out)
          rw [← HE.out] at HS
          clear hz bT
          go_wp2_with fail
          refine wp_region_tail_ext 10 (by kernel_rfl) (by kernel_rfl) ?_
          simp only [List.take_succ_cons, List.take_zero, List.drop_succ_cons, List.drop_zero]
          repeat (go_big_quiet_step ((go_at_call 44; exact HOx.out _)))
          refine wpQuiet_nil ?_
          rintro w2 ⟨x, rfl⟩
          have HC1 := Lib.hid (HS.out x)
          clear HS HOx hp C
          go_wp2_with fail
          refine HC1.out.mono ?_
          rintro e w7 ⟨rfl, h7⟩
          have H7 := Lib.hid h7
          clear h7 HC1
          go_wp2_with fail
          go_ret
          exact ⟨rfl, H7.out⟩
        · have kc : ((D5.1 : Int) == 0) = false := beq_eq_false_iff_ne.2 (by omega)
          have kd : ((D5.1 : Int) != 0) = true := by simpa using hz
          have HE : Hid (D4 = D5) := Lib.hid (by rw [HD4.out]; simp [hz])
          clear hz
          go_wp2_with fail
          go_ret
          rw [HE.out]
          exact ⟨rfl, H6.out⟩
  · have kc : ((D1.1 : Int) == 0) = false := beq_eq_false_iff_ne.2 (by omega)
    have kd : ((D1.1 : Int) != 0) = true := by simpa using hz
    have HE : Hid (D4 = D1) := Lib.hid (by rw [HF.out.2.1, rewriteD, ← HF.out.1, if_pos hz])
    clear hz
    go_wp2_with fail
    go_ret
    rw [HE.out]
    exact ⟨rfl, H1.out⟩

end Go.Proofs.YtiogckgchlnldaaGreat

/- Layer 10: the program's journal: Swap. -/
set_option linter.unusedSimpArgs false
set_option linter.unusedVariables false
namespace Go.Proofs.YtiogckgchlnldaaGreat
open Go.RowKit
set_option maxRecDepth 100000

theorem big_any {L : List Bx} {k : Nat} {x : Bx} (h : L[k]? = some x) (hb : 600 < x.b.length) : (L.map Bx.b).any (fun l => decide (600 < l.length)) = true := by
  rw [List.any_eq_true]
  exact ⟨x.b, List.mem_map.2 ⟨x, List.mem_of_getElem? h, rfl⟩, decide_eq_true hb⟩
theorem big_none {L : List Bx} (h : ∀ x ∈ L, x.b.length ≤ 600) : (L.map Bx.b).any (fun l => decide (600 < l.length)) = false := by
  rw [List.any_eq_false]
  intro l hl
  obtain ⟨x, hx, rfl⟩ := List.mem_map.1 hl
  have := h x hx
  simp
  omega

set_option maxHeartbeats 16000000 in
theorem swap_any {B q room : Nat} {w0 w : World} {ts : List Kt} {d : Fd} (tp : Nat) (n : Nm) (A : Option Addr) (c : Nat) (L : List Bx) (h : FsI B w0 w q room ts d) (hT : thT tp q n ∈ ts) (hn : n.length ≤ 99) (hN : ∀ W d', FsI B w0 W q room ts d' → Ns W A L) (hc : ∀ x ∈ L, x.b.length ≤ x.c) (hb : ∀ x ∈ L, x.b.length ≤ 200000)
    (hlf : d.lf ≤ 1000000) (hr : room ≤ 1048576) (hu : usedD d + 610 * L.length ≤ 200000) (hpl : d.P.length + L.length < 1000000) :
    Calls Tryz.prog 31 #[.pointer (some ⟨tp, 0, none⟩), .slice A L.length c] w fun e w' => e = .returned (.int .u16 ((swapD room d n (L.map Bx.b)).1 : Nat)) ∧ FsI B w0 w' q room ts (swapD room d n (L.map Bx.b)).2 := by
  have hmx : Tryz.prog.follows .mixedOrders = true := by kernel_rfl
  have hon : (oth n).length ≤ maxLen := by unfold oth maxLen; simp; omega
  obtain ⟨D4, hD4⟩ : ∃ D4, D4 = swapD room d n (L.map Bx.b) := ⟨_, rfl⟩
  have hNw := hN w d h
  have HO := Lib.hid (fun (W : World) (d' : Fd) (hs : FsI B w0 W q room ts d') => other_any tp q n W (hs.memT hT) (by omega))
  rw [← hD4]
  obtain ⟨m, hm⟩ : ∃ m, m = L.length := ⟨_, rfl⟩
  have hm9 : m ≤ 1000 := by omega
  have HF := Lib.hid (And.intro hD4 (And.intro hm (And.intro hN (And.intro hc (And.intro hb (And.intro hu (And.intro hpl (And.intro hT (And.intro hlf (And.intro hr (And.intro hNw h)))))))))))
  rw [← hm]
  clear hD4 hm hN hc hb hu hpl hT hlf hr hNw h
  go_enter Tryz.func31, Tryz.ntmps31
  go_wp2_with fail
  go_loop [10] (fun s => ∃ k : Nat, k ≤ m ∧ s = .int .i64 k ∧ Hid (∀ j x, j < k → L[j]? = some x → x.b.length ≤ 600)) (fun s => m - (intOf s).toNat)
  case atStart => exact ⟨0, Nat.zero_le _, rfl, Lib.hid (fun j x hj => by omega)⟩
  case round =>
    obtain ⟨k, hk, rfl, HR⟩ := hrel
    by_cases hlt : k < m
    · obtain ⟨x, hx⟩ : ∃ x, L[k]? = some x := ⟨_, List.getElem?_eq_getElem (by rw [← HF.out.2.1]; exact hlt)⟩
      obtain ⟨p, f, hAe, hce⟩ := HF.out.2.2.2.2.2.2.2.2.2.2.1.row k x hx
      have c0 := hce 0 _ rfl
      simp only [Nat.add_zero, Nat.mul_one] at c0
      subst hAe
      obtain ⟨xn, hxn⟩ : ∃ xn, xn = x.b.length := ⟨_, rfl⟩
      rw [← hxn] at c0
      have hkl : (k : Int) < (m : Int) := by omega
      have hk0 : (0 : Int) ≤ (k : Int) := by omega
      have HX := Lib.hid (And.intro hx hxn)
      clear hx hxn hce
      by_cases h6 : 600 < xn
      · have d6 : decide ((600 : Int) < (xn : Int)) = true := decide_eq_true (by omega)
        have d7 : (600 : Int) < (xn : Int) := by omega
        have HE : Hid (D4 = (1, d)) := Lib.hid (by rw [HF.out.1, swapD, if_pos (big_any HX.out.1 (by rw [← HX.out.2]; exact h6))])
        go_wp2_with fail
        go_ret
        rw [HE.out]
        exact ⟨rfl, HF.out.2.2.2.2.2.2.2.2.2.2.2⟩
      · have d6 : decide ((600 : Int) < (xn : Int)) = false := decide_eq_false (by omega)
        have d7 : ¬ (600 : Int) < (xn : Int) := by omega
        go_wp2_with fail
        go_round
        case measure => simp [intOf]; omega
        case rel => exact ⟨k + 1, by omega, by go_num, Lib.hid (fun j y hj hy => by
          rcases Nat.lt_or_ge j k with h | h
          · exact HR.out j y h hy
          · obtain rfl : j = k := by omega
            rw [HX.out.1] at hy
            injection hy with hy
            subst hy
            rw [← HX.out.2]
            omega)⟩
    · obtain rfl : k = m := by omega
      have hkk : ¬ ((k : Int) < (k : Int)) := by omega
      obtain ⟨hD4, hm, hN, hc, hb, hu, hpl, hT, hlf, hr, hNw, h⟩ := HF.out
      have hL6 : ∀ x ∈ L, x.b.length ≤ 600 := fun x hx => by
        obtain ⟨j, hj⟩ := List.getElem?_of_mem hx
        exact HR.out j x (by rw [hm]; exact (List.getElem?_eq_some_iff.1 hj).1) hj
      have hsw : D4 = ((rewriteD room (removeD d (oth n)).2 n (L.map Bx.b)).1, if (rewriteD room (removeD d (oth n)).2 n (L.map Bx.b)).1 ≠ 0 then (removeD (rewriteD room (removeD d (oth n)).2 n (L.map Bx.b)).2 (oth n)).2 else (rewriteD room (removeD d (oth n)).2 n (L.map Bx.b)).2) := by
        rw [hD4, swapD, if_neg (by rw [big_none hL6]; decide)]
      have hp := plus_cell w
      have bT := h.memT hT
      have C := fbsays (show Blk w tp 92 (tpc q n) from bT)
      simp only [cellsSay, tpc, Nat.reduceAdd, and_true] at C
      have HOx := Lib.hid (fun (x : More) => ext_of (v := .string ⟨(oth n).toArray⟩) ((HO.out _ _ (h.go (plus_below w x))).mono (fun e w' he => ⟨he.1, by rw [he.2]; exact Below.refl _ _⟩)))
      have HS := Lib.hid (fun (x : More) => remove_any (oth n) hon (h.go (plus_below w x)) hlf)
      have hlA := lp_remove d (oth n)
      have huA : usedD (removeD d (oth n)).2 ≤ usedD d := by
        obtain ⟨T, hi⟩ := h.fi
        exact used_remove hi (oth n)
      have e1 := hlA.1
      have e2 := hlA.2
      obtain ⟨D1, hD1⟩ : ∃ D1, D1 = removeD d (oth n) := ⟨_, rfl⟩
      rw [← hD1] at HS hsw e1 e2 huA
      have HW := Lib.hid (fun (W : World) (hs : FsI B w0 W q room ts D1.2) => rewrite_any tp n A c L hs hT hn hN hc hL6 (by omega) hr (by omega) (by omega))
      obtain ⟨D2, hD2⟩ : ∃ D2, D2 = rewriteD room D1.2 n (L.map Bx.b) := ⟨_, rfl⟩
      rw [← hD2, ← hm] at HW
      rw [← hD2] at hsw
      have hk2 : D2.1 ≤ 1000 := by
        rw [hD2]
        unfold rewriteD
        split
        · exact create_k _ _
        · split
          · have : ∀ (L : List (List UInt8)) (d : Fd), (appsD room (oth n) L d).1 ≤ 1000 := fun L => by
              induction L with
              | nil => intro d; exact Nat.zero_le _
              | cons x xs ih =>
                intro d
                unfold appsD
                split
                · exact append_k _ _ _ _
                · exact ih _
            exact this _ _
          · split
            · exact sync_k _ _
            · exact rename_k _ _ _
      have hl2 : D2.2.lf ≤ 1000000 := by
        have hz : ∀ (L : List (List UInt8)) (d : Fd), (appsD room (oth n) L d).2.lf ≤ d.lf := fun L => by
          induction L with
          | nil => intro d; exact Nat.le_refl _
          | cons x xs ih =>
            intro d
            have h1 := (lp_append room d (oth n) (wrapL x)).1
            unfold appsD
            split
            · exact h1
            · exact Nat.le_trans (ih _) h1
        have g1 := (lp_create D1.2 (oth n)).1
        have g2 := hz (L.map Bx.b) (createD D1.2 (oth n)).2
        have g3 := (lp_sync (appsD room (oth n) (L.map Bx.b) (createD D1.2 (oth n)).2).2 (oth n)).1
        have g4 := (lp_rename (syncD (appsD room (oth n) (L.map Bx.b) (createD D1.2 (oth n)).2).2 (oth n)).2 (oth n) n).1
        rw [hD2]
        unfold rewriteD
        split
        · omega
        · split
          · omega
          · split
            · omega
            · omega
      have HG := Lib.hid (And.intro hsw (And.intro hT hl2))
      clear hD4 hm hN hc hb hu hpl hT hlf hr hNw h hL6 hsw bT hlA huA e1 e2 hD1 hD2 HF HR hl2
      go_wp2_with fail
      refine wp_region_tail_ext 6 (by kernel_rfl) (by kernel_rfl) ?_
      simp only [List.take_succ_cons, List.take_zero, List.drop_succ_cons, List.drop_zero]
      repeat (go_big_quiet_step ((go_at_call 44; exact HOx.out _)))
      refine wpQuiet_nil ?_
      rintro w2 ⟨x, rfl⟩
      have HC1 := Lib.hid (HS.out x)
      clear HS HOx hp C
      go_wp2_with fail
      refine HC1.out.mono ?_
      rintro e w1 ⟨rfl, h1⟩
      have HC2 := Lib.hid (HW.out _ h1)
      clear h1 HC1 HW
      go_wp2_with fail
      refine HC2.out.mono ?_
      rintro e w3 ⟨rfl, h3⟩
      have H3 := Lib.hid h3
      clear h3 HC2
      by_cases hz : D2.1 = 0
      · have kc : ((D2.1 : Int) == 0) = true := beq_iff_eq.2 (by omega)
        have kd : ((D2.1 : Int) != 0) = false := by unfold bne; rw [kc]; rfl
        have HE : Hid (D4 = D2) := Lib.hid (by rw [HG.out.1, if_neg (by rw [hz]; decide)])
        clear hz
        go_wp2_with fail
        go_ret
        rw [HE.out]
        exact ⟨rfl, H3.out⟩
      · have kc : ((D2.1 : Int) == 0) = false := beq_eq_false_iff_ne.2 (by omega)
        have kd : ((D2.1 : Int) != 0) = true := by simpa using hz
        have HE : Hid (D4 = (D2.1, (removeD D2.2 (oth n)).2)) := Lib.hid (by rw [HG.out.1, if_pos hz])
        have hp := plus_cell w3
        have bT := H3.out.memT HG.out.2.1
        have C := fbsays (show Blk w3 tp 92 (tpc q n) from bT)
        simp only [cellsSay, tpc, Nat.reduceAdd, and_true] at C
        have HOx := Lib.hid (fun (x : More) => ext_of (v := .string ⟨(oth n).toArray⟩) ((HO.out _ _ (H3.out.go (plus_below w3 x))).mono (fun e w' he => ⟨he.1, by rw [he.2]; exact Below.refl _ _⟩)))
        have HS := Lib.hid (fun (x : More) => remove_any (oth n) hon (H3.out.go (plus_below w3 x)) HG.out.2.2)
        clear hz bT
        go_wp2_with fail
        refine wp_region_tail_ext 6 (by kernel_rfl) (by kernel_rfl) ?_
        simp only [List.take_succ_cons, List.take_zero, List.drop_succ_cons, List.drop_zero]
        repeat (go_big_quiet_step ((go_at_call 44; exact HOx.out _)))
        refine wpQuiet_nil ?_
        rintro w2 ⟨x, rfl⟩
        have HC1 := Lib.hid (HS.out x)
        clear HS HOx hp C
        go_wp2_with fail
        refine HC1.out.mono ?_
        rintro e w7 ⟨rfl, h7⟩
        have H7 := Lib.hid h7
        clear h7 HC1
        go_wp2_with fail
        go_ret
        rw [HE.out]
        exact ⟨rfl, H7.out⟩

end Go.Proofs.YtiogckgchlnldaaGreat

/- Layer 10: what a reading of notes is. -/
set_option linter.unusedSimpArgs false
set_option linter.unusedVariables false
namespace Go.Proofs.YtiogckgchlnldaaGreat
open Go.RowKit
set_option maxRecDepth 100000

/-- the notes at the front of l, and how many bytes they take -/
inductive Rd10 : List UInt8 → List (List UInt8) → Nat → Prop
  | stop {l : List UInt8} : (∀ o r, l = encL o ++ 0 :: r → 600 < o.length) → Rd10 l [] 0
  | next {l o r : List UInt8} {L : List (List UInt8)} {n : Nat} : l = encL o ++ 0 :: r → o.length ≤ 600 → Rd10 r L n → Rd10 l (o :: L) ((wrapL o).length + n)
theorem enc_one {o o' r r' : List UInt8} (h : encL o ++ 0 :: r = encL o' ++ 0 :: r') : o = o' ∧ r = r' := by
  obtain ⟨h1, h2⟩ := first_zero (encL_noZ o) (encL_noZ o') h
  exact ⟨encL_inj h1, h2⟩
theorem Rd10.one {l : List UInt8} {L : List (List UInt8)} {n : Nat} (h : Rd10 l L n) : ∀ {L' : List (List UInt8)} {n' : Nat}, Rd10 l L' n' → L = L' ∧ n = n' := by
  induction h with
  | stop h =>
    intro L' n' h'
    cases h' with
    | stop _ => exact ⟨rfl, rfl⟩
    | next h1 h2 _ => exact absurd (h _ _ h1) (by omega)
  | next h1 h2 _ ih =>
    intro L' n' h'
    cases h' with
    | stop h => exact absurd (h _ _ h1) (by omega)
    | next h3 h4 h5 =>
      obtain ⟨rfl, rfl⟩ := enc_one (h1.symm.trans h3)
      obtain ⟨rfl, rfl⟩ := ih h5
      exact ⟨rfl, rfl⟩
theorem drop_wrap {l o r : List UInt8} (h : l = encL o ++ 0 :: r) : l.drop (wrapL o).length = r := by
  rw [h, show encL o ++ 0 :: r = wrapL o ++ r by unfold wrapL; rw [List.append_assoc]; rfl]
  exact List.drop_left
theorem wrap_le {l o r : List UInt8} (h : l = encL o ++ 0 :: r) : (wrapL o).length ≤ l.length := by
  rw [h, show encL o ++ 0 :: r = wrapL o ++ r by unfold wrapL; rw [List.append_assoc]; rfl, List.length_append]
  omega
/-- there is always a reading -/
theorem Rd10.ex : ∀ (k : Nat) (l : List UInt8), l.length ≤ k → ∃ L n, Rd10 l L n ∧ n ≤ l.length
  | 0, l, h => by
    refine ⟨[], 0, .stop (fun o r e => ?_), Nat.zero_le _⟩
    have := congrArg List.length e
    rw [List.length_append, List.length_cons] at this
    omega
  | k + 1, l, h => by
    by_cases hx : ∃ o r, l = encL o ++ 0 :: r ∧ o.length ≤ 600
    · obtain ⟨o, r, h1, h2⟩ := hx
      have hl := congrArg List.length h1
      rw [List.length_append, List.length_cons] at hl
      have hw : (wrapL o).length = (encL o).length + 1 := by unfold wrapL; simp
      obtain ⟨L, n, h3, h4⟩ := Rd10.ex k r (by omega)
      exact ⟨_, _, .next h1 h2 h3, by omega⟩
    · refine ⟨[], 0, .stop (fun o r e => ?_), Nat.zero_le _⟩
      rcases Nat.lt_or_ge 600 o.length with h9 | h9
      · exact h9
      · exact absurd ⟨o, r, e, h9⟩ hx
/-- behind what was read -/
def Rs10 (l : List UInt8) (L : List (List UInt8)) (at_ : Nat) : Prop := at_ ≤ l.length ∧ ∀ L' n, Rd10 (l.drop at_) L' n → Rd10 l (L ++ L') (at_ + n)
theorem Rs10.start (l : List UInt8) : Rs10 l [] 0 := ⟨Nat.zero_le _, fun L' n h => by rw [List.drop_zero] at h; rw [List.nil_append, Nat.zero_add]; exact h⟩
theorem Rs10.stop {l : List UInt8} {L : List (List UInt8)} {at_ : Nat} (h : Rs10 l L at_) (hs : ∀ o r, l.drop at_ = encL o ++ 0 :: r → 600 < o.length) : Rd10 l L at_ := by
  have := h.2 [] 0 (.stop hs)
  rwa [List.append_nil, Nat.add_zero] at this
theorem Rs10.next {l o r : List UInt8} {L : List (List UInt8)} {at_ : Nat} (h : Rs10 l L at_) (he : l.drop at_ = encL o ++ 0 :: r) (ho : o.length ≤ 600) : Rs10 l (L ++ [o]) (at_ + (wrapL o).length) := by
  have h1 := wrap_le he
  rw [List.length_drop] at h1
  refine ⟨by have := h.1; omega, fun L' n h2 => ?_⟩
  rw [← List.drop_drop, drop_wrap he] at h2
  rw [List.append_assoc, Nat.add_assoc]
  exact h.2 _ _ (.next he ho h2)

end Go.Proofs.YtiogckgchlnldaaGreat

/- Layer 10: the document's Read. -/
set_option linter.unusedSimpArgs false
set_option linter.unusedVariables false
namespace Go.Proofs.YtiogckgchlnldaaGreat
open Go.RowKit
set_option maxRecDepth 100000

def clB (A : Option Addr) (i c : Nat) : Option Addr := if c = i then A else A.map fun a => a.add (i * 1)
theorem run_restB (A : Option Addr) (n c k : Nat) (hk : k ≤ n) (w : World) : (Instr.slice 22 (.slice A n c) (some (.int .i64 k)) none none).run Tryz.prog w = .ok (.slice (clB A k c) (n - k) (c - k)) w := by
  have hi : (Tryz.prog.info? 5).map (fun i => i.size) = some 1 := by kernel_rfl
  rw [run_slice_l w 22 A n c Tryz.underlying22 .i64 (k : Nat) (by omega) (by omega)]
  have hs : (sizeOf (Tryz.prog.elem 22)).run Tryz.prog w = .ok 1 w := by
    have e : Tryz.prog.elem 22 = 5 := by kernel_rfl
    rw [e]
    obtain ⟨i, h1, h2⟩ := Option.map_eq_some_iff.1 hi
    simp [sizeOf, typeInfo, h1, h2]
  rw [hs]
  rfl
theorem bs_clB {w : World} {A : Option Addr} {c k : Nat} {l : List UInt8} (h : Bs w A l) (hA : Fm A c) (hc : l.length ≤ c) (hk : k ≤ l.length) : Bs w (clB A k c) (l.drop k) ∧ Fm (clB A k c) (c - k) := by
  by_cases hck : c = k
  · have : l.drop k = [] := List.drop_of_length_le (by omega)
    rw [this]
    exact ⟨fun i b hi => by simp at hi, .inl (by omega)⟩
  · rcases hA with h0 | ⟨p, f, rfl⟩
    · omega
    · have e : clB (some ⟨p, f, none⟩) k c = some ⟨p, f + k, none⟩ := by
        unfold clB
        rw [if_neg hck]
        simp only [Option.map_some]
        rw [addR, Nat.mul_one]
      rw [e]
      have h1 := h.cutAt k hc
      rw [if_neg hck] at h1
      exact ⟨h1, .inr ⟨p, f + k, rfl⟩⟩
def vaN (x : Bx) : Value := .slice x.A x.b.length x.c
theorem Tryz.eltN : Elt Tryz.prog 42 22 encBx 1 24 := ⟨Tryz.underlying42, ⟨.slice none 0 0, by kernel_rfl, rfl⟩, by decide, fun _ => rfl, fun x v h => by
  simp [encBx] at h; rw [h]; rfl⟩
abbrev Gn (w : World) (R : Value) (L : List Bx) : Prop := Gl (·.b) vaN w 22 encBx 1 R L
theorem ns_of {w : World} {R : Option Addr} {n c : Nat} {L : List Bx} (h : Gn w (.slice R n c) L) : Ns w R L := by
  obtain ⟨A, c', hv, _, hr⟩ := OwnR.row Tryz.eltN h.row
  injection hv with e1 _ _
  subst e1
  exact ⟨hr, fun x hx => OwnB.bs (h.el x hx)⟩

set_option maxHeartbeats 8000000 in
theorem rread10_any (A : Option Addr) (c : Nat) (l : List UInt8) (w : World) (hl : Bs w A l) (hA : Fm A c) (hc : l.length ≤ c) (hn : l.length ≤ 200000) :
    Calls Tryz.prog 53 #[.slice A l.length c] w fun e w' => ∃ R n cr at_ L, e = .returned (.tuple #[.slice R n cr, .int .i64 (at_ : Nat)]) ∧ Hid (L.length = n ∧ Rd10 l (L.map Bx.b) at_ ∧ Gn w' (.slice R n cr) L ∧ Below w.heap.size w w' ∧ ∀ k, footG vaN (.slice R n cr) L k → w.heap.size ≤ k) := by
  obtain ⟨n, hln⟩ : ∃ n, n = l.length := ⟨_, rfl⟩
  rw [← hln] at hc hn ⊢
  have H := Lib.hid (And.intro hl (And.intro hA (And.intro hc hln)))
  clear hl hA hln
  go_enter Tryz.func53, Tryz.ntmps53
  go_wp2_with fail
  go_loopw [4, 5] (fun s4 s5 wr => ∃ (R : Option Addr) (k cr at_ : Nat), at_ ≤ n ∧ s4 = .slice R k cr ∧ s5 = .int .i64 at_ ∧ Hid (∃ L, L.length = k ∧ 2 * k ≤ at_ ∧ Rs10 l (L.map Bx.b) at_ ∧ OwnR wr w.heap.size 22 encBx 1 (.slice R k cr) L ∧ Gn wr (.slice R k cr) L ∧ Below w.heap.size w wr ∧ ∀ j, footG vaN (.slice R k cr) L j → w.heap.size ≤ j)) (fun _ s _ => n - (intOf s).toNat)
  case atStart => exact ⟨none, 0, 0, 0, Nat.zero_le _, rfl, rfl, Lib.hid ⟨[], rfl, Nat.le_refl _, Rs10.start l, OwnR.nil _ _ _ _ _, Gl.nil _ _ _ _ _ _, Below.refl _ _, (fun j hj => by rcases hj with hj | ⟨y, hy, _⟩ <;> simp [Value.ownBlock] at *)⟩⟩
  case round =>
    obtain ⟨R, k, cr, at_, hat, rfl, rfl, HR⟩ := hrel
    obtain ⟨L, l1, l2, l3, l4, l5, l6, l7⟩ := HR.out
    have HF7 := Lib.hid l7
    clear l7
    have hrun := run_restB A n c at_ hat wr
    obtain ⟨q1, q2⟩ := bs_clB (H.out.1.below l6) H.out.2.1 (by rw [← H.out.2.2.2]; exact hc) (show at_ ≤ l.length by rw [← H.out.2.2.2]; exact hat)
    have HC := Lib.hid (refOpen_any (clB A at_ c) (c - at_) (l.drop at_) wr q1 q2 (by rw [List.length_drop, ← H.out.2.2.2]; omega) (by rw [List.length_drop, ← H.out.2.2.2]; omega))
    rw [List.length_drop, ← H.out.2.2.2] at HC
    obtain ⟨A2, hA2⟩ : ∃ A2, A2 = clB A at_ c := ⟨_, rfl⟩
    obtain ⟨n2, hn2⟩ : ∃ n2, n2 = n - at_ := ⟨_, rfl⟩
    obtain ⟨c2, hc2⟩ : ∃ c2, c2 = c - at_ := ⟨_, rfl⟩
    rw [← hA2, ← hn2, ← hc2] at HC hrun
    have HL := Lib.hid (And.intro l1 (And.intro l2 (And.intro l3 (And.intro l4 (And.intro l5 l6)))))
    clear l1 l2 l3 l4 l5 l6 HR q1 q2 hA2 hn2 hc2
    go_wp2_with fail
    refine HC.out.mono ?_
    rintro e w2 ⟨h2, b2⟩
    obtain ⟨l1, l2, l3, l4, l5, l6⟩ := HL.out
    rcases h2 with ⟨hno, rfl⟩ | ⟨o, r, A3, n3, c3, ho, rfl, hn3, hO⟩
    · have HE := Lib.hid (show L.length = k ∧ Rd10 l (L.map Bx.b) at_ ∧ Gn w2 (.slice R k cr) L ∧ Below w.heap.size w w2 ∧ ∀ j, footG vaN (.slice R k cr) L j → w.heap.size ≤ j from ⟨l1, l3.stop (fun o r e => absurd e (hno o r)), l5.below b2, on1 l6 b2, HF7.out⟩)
      clear l1 l2 l3 l4 l5 l6 HL hno b2 hrun HC
      go_wp2_with fail
      go_ret2
      exact ⟨R, k, cr, at_, _, rfl, HE⟩
    · by_cases h6 : 600 < n3
      · have d6 : decide ((600 : Int) < (n3 : Int)) = true := decide_eq_true (by omega)
        have HE := Lib.hid (show L.length = k ∧ Rd10 l (L.map Bx.b) at_ ∧ Gn w2 (.slice R k cr) L ∧ Below w.heap.size w w2 ∧ ∀ j, footG vaN (.slice R k cr) L j → w.heap.size ≤ j from ⟨l1, l3.stop (fun o' r' e => by
          obtain ⟨rfl, rfl⟩ := enc_one (ho.symm.trans e)
          omega), l5.below b2, on1 l6 b2, HF7.out⟩)
        clear l1 l2 l3 l4 l5 l6 HL ho hO b2 hrun HC hn3
        go_wp2_with fail
        go_ret2
        exact ⟨R, k, cr, at_, _, rfl, HE⟩
      · have d6 : decide ((600 : Int) < (n3 : Int)) = false := decide_eq_false (by omega)
        have hw2 := wrap_le ho
        rw [List.length_drop, ← H.out.2.2.2] at hw2
        have hw3 := wrapL_two o
        have l3' := l3.next ho (by omega)
        obtain ⟨m, hm⟩ : ∃ m, m = (wrapL o).length := ⟨_, rfl⟩
        rw [← hm] at hw2 hw3 l3' ⊢
        have HR1 := Lib.hid ((l4.below b2).alloc (.cells #[.slice A3 n3 c3] 22))
        have hb3 : Below wr.heap.size wr (w2.alloc (.cells #[.slice A3 n3 c3] 22)) := b2.alloc b2.size _
        have HL2 := Lib.hid (And.intro l1 (And.intro l2 (And.intro l3' (And.intro l5 (And.intro l6 (And.intro hO (And.intro hb3 (And.intro hn3 b2))))))))
        have h5n : L.length + 1 ≤ maxLen := by unfold maxLen; omega
        have h6n : (L.length + 1) * 24 ≤ 140737488355328 := by omega
        have hbs : w.heap.size ≤ (w2.alloc (.cells #[.slice A3 n3 c3] 22)).heap.size := Nat.le_trans l6.size hb3.size
        clear l1 l2 l3 l3' l4 l5 l6 HL ho hO hb3 hrun HC hm b2
        subst hn3
        go_upto_region 7 with (at_builtin; go_must (refine appR1L Tryz.eltN _ rfl (.tmp 26) (.tmp 28) rfl w.heap.size (.slice R k cr) L rfl HR1.out w2.heap.size 1 ⟨A3, c3, o⟩ _ _ rfl (Blk.new w2 _ _) rfl h5n h6n hbs ?_); intro g8 c8 w8 hown8 hgr8 hor8 hlt8)
        obtain ⟨l1, l2, l3, l5, l6, hO, hb3, -, b2⟩ := HL2.out
        rw [l1] at hown8 ⊢
        have hl8 : ∀ j, (Value.slice (some ⟨g8, 0, none⟩) (k + 1) c8).ownBlock = some j → (Value.slice R k cr).ownBlock = some j ∨ (w2.alloc (.cells #[.slice A3 o.length c3] 22)).heap.size ≤ j := fun j e => by
          have e2 : g8 = j := by simpa [Value.ownBlock] using e
          subst e2
          rcases hor8 with h9 | h9
          · exact .inl h9
          · exact .inr (Nat.le_of_eq h9.symm)
        have G8 : Gn w8 (.slice (some ⟨g8, 0, none⟩) (k + 1) c8) (L ++ [(⟨A3, c3, o⟩ : Bx)]) := l5.snoc (x := (⟨A3, c3, o⟩ : Bx)) hb3 (hown8.mono (Nat.zero_le _)) hgr8 hl8 ((hO.mono (Nat.zero_le _)).below (below_alloc _ _)) (fun j e => (World.ownsRow.lt hO j e).1)
        have B8 : Below w.heap.size w w8 := Below.grown (on1 l6 hb3) hgr8 (on1 l6 hb3).size (fun j e => (World.ownsRow.lt HR1.out j e).1)
        have HE := Lib.hid (show ∃ L, L.length = k + 1 ∧ 2 * (k + 1) ≤ at_ + m ∧ Rs10 l (L.map Bx.b) (at_ + m) ∧ OwnR w8 w.heap.size 22 encBx 1 (.slice (some ⟨g8, 0, none⟩) (k + 1) c8) L ∧ Gn w8 (.slice (some ⟨g8, 0, none⟩) (k + 1) c8) L ∧ Below w.heap.size w w8 ∧ ∀ j, footG vaN (.slice (some ⟨g8, 0, none⟩) (k + 1) c8) L j → w.heap.size ≤ j from ⟨L ++ [⟨A3, c3, o⟩], by rw [List.length_append, l1]; rfl, by omega, by rw [List.map_append]; exact l3, hown8, G8, B8, fun j hj => by
          rcases hj with hj | ⟨y, hy, hj⟩
          · exact (World.ownsRow.lt hown8 j hj).1
          · rw [List.mem_append, List.mem_singleton] at hy
            rcases hy with hy | rfl
            · exact HF7.out j (.inr ⟨y, hy, hj⟩)
            · exact Nat.le_trans l6.size (World.ownsRow.lt hO j hj).1⟩)
        clear l1 l2 l3 l5 l6 hO hb3 b2 hl8 G8 B8 hown8 hgr8 hor8 hlt8 HL2 HR1
        go_wp2_with fail
        go_roundw
        case measure => simp [intOf]; omega
        case rel => exact ⟨some ⟨g8, 0, none⟩, k + 1, c8, at_ + m, by omega, rfl, by go_num, HE⟩

end Go.Proofs.YtiogckgchlnldaaGreat

/- Layer 10: the program's notes (its iterator is made). -/
set_option linter.unusedSimpArgs false
set_option linter.unusedVariables false
namespace Go.Proofs.YtiogckgchlnldaaGreat
open Go.RowKit
set_option maxRecDepth 100000

theorem tnotes_any (A : Option Addr) (k c : Nat) (w : World) :
    Calls Tryz.prog 64 #[.slice A k c] w fun e w' => e = .returned (.func (.func 75) #[] #[.pointer (some ⟨w.heap.size, 0, none⟩)]) ∧ w' = w.alloc (.cells #[.slice A k c] 22) := by
  go_enter Tryz.func64, Tryz.ntmps64
  go_wp2
  go_ret
  exact ⟨rfl, rfl⟩
/-- what the iterator hands out: each note and how many bytes it takes -/
def ntN (L : List (List UInt8)) : List (List UInt8 × Nat) := L.map fun o => (o, (wrapL o).length)
theorem Rd10.sum {l : List UInt8} {L : List (List UInt8)} {n : Nat} (h : Rd10 l L n) : n = ((ntN L).map (·.2)).sum := by
  induction h with
  | stop _ => rfl
  | next _ _ _ ih =>
    unfold ntN at ih ⊢
    rw [List.map_cons, List.map_cons, List.sum_cons, ← ih]
theorem Rd10.le {l : List UInt8} {L : List (List UInt8)} {n : Nat} (h : Rd10 l L n) : n ≤ l.length ∧ 2 * L.length ≤ n ∧ ∀ o ∈ L, o.length ≤ 600 := by
  induction h with
  | stop _ => exact ⟨Nat.zero_le _, Nat.le_refl _, fun o h => by simp at h⟩
  | @next l o r L n h1 h2 h3 ih =>
    have hw := wrapL_two o
    have hd := congrArg List.length (drop_wrap h1)
    have hl := wrap_le h1
    rw [List.length_drop] at hd
    refine ⟨by omega, by rw [List.length_cons]; omega, fun x hx => ?_⟩
    rcases List.mem_cons.1 hx with rfl | hx
    · exact h2
    · exact ih.2.2 x hx

/-- nothing reads where nothing stands, or a nought -/
theorem Rd10.nil : Rd10 [] [] 0 := .stop (fun o r e => by
  have := congrArg List.length e
  rw [List.length_append, List.length_cons] at this
  simp at this)
theorem Rd10.zero (t : List UInt8) : Rd10 (0 :: t) [] 0 := .stop (fun o r e => by
  obtain ⟨h1, _⟩ := first_zero (a := []) (b := encL o) (r := t) (s := r) (fun x hx => by simp at hx) (encL_noZ o) (by simpa using e)
  exact absurd h1.symm (encL_ne o))
/-- notes that stand one behind the other -/
theorem Rd10.rows {t : List UInt8} (ht : Rd10 t [] 0) : ∀ L : List (List UInt8), (∀ o ∈ L, o.length ≤ 600) → Rd10 (L.flatMap wrapL ++ t) L ((L.map fun o => (wrapL o).length).sum)
  | [], _ => by simpa using ht
  | o :: L, h => by
    have h1 := Rd10.rows ht L (fun x hx => h x (List.mem_cons_of_mem _ hx))
    rw [List.flatMap_cons, List.map_cons, List.sum_cons]
    refine .next (r := L.flatMap wrapL ++ t) ?_ (h o List.mem_cons_self) h1
    unfold wrapL
    simp

end Go.Proofs.YtiogckgchlnldaaGreat
