/- Joined: Fd4, Fd6, Fd7, Fo1, Fo2, Fo3, Fo4, Fo5, Fo6, Fo7, Fo8. -/
import Derived.Test.YtiogckgchlnldaaQ20
import Derived.Test.YtiogckgchlnldaaQ7
import Derived.StillTailTactics
set_option linter.unusedSimpArgs false
set_option linter.unusedVariables false
/- Layer 8: a call on both file systems: Append. -/
set_option linter.unusedSimpArgs false
set_option linter.unusedVariables false
namespace Go.Proofs.Ytiogckgchlnldaa
open Go.RowKit
set_option maxRecDepth 100000

theorem below_none {w w' : World} (h : w.grownBy w' none) : Below w.heap.size w w' := Below.grown (Below.refl _ _) h (Nat.le_refl _) (fun k e => by cases e)
theorem Bd.byte {B qs qr room : Nat} {w0 w : World} {ts : List Kt} {da db : Fd} (h : Bd B w0 w qs qr room ts da db) (i : Nat) {g n c : Nat} {l : List UInt8} (j : Nat) (x : UInt8) (e : ts[i]? = some (thO (.slice (some ⟨g, 0, none⟩) n c) l) := by rfl) : Bd B w0 (w.setCell ⟨g, j, none⟩ (bv x)) qs qr room (ts.set i (thO (.slice (some ⟨g, 0, none⟩) n c) (l.set j x))) da db :=
  h.turn i e (Tou.set g j _ rfl) ((show OwnB w 0 (.slice (some ⟨g, 0, none⟩) n c) l from h.get i e).set j x) (fun k hk => .inl hk)

set_option maxHeartbeats 8000000 in
theorem fdoes_append {B qs qr room : Nat} {w0 w : World} {ts : List Kt} {d : Fd} (o : Op8) (h : Bd B w0 w qs qr room ts d d) (hn : o.nm.length ≤ maxLen) (hB : w0.heap.size ≤ B) (hA : Bs w0 o.A o.b) (hl : d.lf ≤ 1000000) (hr : room ≤ 1048576) (hu : usedD d + o.b.length ≤ 100000) (hpl : d.P.length < 1000000) (hur : usedD d ≤ room) (hk : o.kd % 14 ≠ 0 ∧ o.kd % 14 < 6) :
    Calls Try.prog 25 #[.pointer (some ⟨qs, 0, none⟩), .pointer (some ⟨qr, 0, none⟩), .agg #[.int .u8 (o.kd : Nat), .string ⟨o.nm.toArray⟩, .string ⟨o.ot.toArray⟩, .slice o.A o.b.length o.c, .int .i64 o.n, .slice o.KA o.kp.length o.kc, .int .i64 o.to_]] w fun e w' => e = .returned (.bool true) ∧ Bd B w0 w' qs qr room ts ((appendD room d o.nm o.b).2) ((appendD room d o.nm o.b).2) := by
  have hd := h.dbs
  obtain ⟨kd, nm, ot, A, c, b, n, KA, kc, kp, to_⟩ := o
  dsimp only at *
  obtain ⟨m, hm⟩ : ∃ m : Nat, m = kd % 14 := ⟨_, rfl⟩
  have f0 : (kd : Int) % 14 = (m : Int) := by rw [hm]; omega
  rw [← hm] at hk
  have g0 : ((m : Int) == 0) = false := beq_eq_false_iff_ne.2 (by omega)
  have g6 : ((m : Int) == 6) = false := beq_eq_false_iff_ne.2 (by omega)
  have g7 : ((m : Int) == 7) = false := beq_eq_false_iff_ne.2 (by omega)
  have g8 : ((m : Int) == 8) = false := beq_eq_false_iff_ne.2 (by omega)
  have g9 : ((m : Int) == 9) = false := beq_eq_false_iff_ne.2 (by omega)
  have g10 : ((m : Int) == 10) = false := beq_eq_false_iff_ne.2 (by omega)
  have g11 : ((m : Int) == 11) = false := beq_eq_false_iff_ne.2 (by omega)
  have g12 : ((m : Int) == 12) = false := beq_eq_false_iff_ne.2 (by omega)
  have g13 : ((m : Int) == 13) = false := beq_eq_false_iff_ne.2 (by omega)
  obtain ⟨bl, hbl⟩ : ∃ bl, bl = b.length := ⟨_, rfl⟩
  obtain ⟨kl, hkl⟩ : ∃ kl, kl = kp.length := ⟨_, rfl⟩
  rw [← hbl, ← hkl]
  obtain ⟨W, hW⟩ : ∃ W, W = w.alloc (.cells #[.int .u8 (kd : Nat), .string ⟨nm.toArray⟩, .string ⟨ot.toArray⟩, .slice A bl c, .int .i64 n, .slice KA kl kc, .int .i64 to_] 47) := ⟨_, rfl⟩
  obtain ⟨gq, hgq⟩ : ∃ g, g = w.heap.size := ⟨_, rfl⟩
  have HG := Lib.hid (h.box #[.int .u8 (kd : Nat), .string ⟨nm.toArray⟩, .string ⟨ot.toArray⟩, .slice A bl c, .int .i64 n, .slice KA kl kc, .int .i64 to_] 47)
  rw [← hW, ← hgq] at HG
  have C := fbsays (HG.out.blk 0)
  simp only [cellsSay, Nat.reduceAdd, and_true] at C
  have HF := Lib.hid (And.intro hbl (And.intro (show b.length ≤ 100000 by omega) (And.intro (HG.out.bs hB hA) (And.intro hB hA))))
  have HP := Lib.hid (fun (W : World) (A1 : Option Addr) (c1 : Nat) (ts : List Kt) (db : Fd) (h : Bd B w0 W qs qr room (thO (.slice A1 bl c1) b :: ts) d db) => h.lift (fun us hsub hu9 => append_any nm hn A1 c1 b hu9 (by omega) hr (fun W' d' hs => OwnB.bs (show OwnB W' 0 (.slice A1 bl c1) b from hs.mem (hsub _ (List.mem_cons_self ..)))) hl hu hpl))
  have HR := Lib.hid (fun (W : World) (ts : List Kt) (da : Fd) (h : Bd B w0 W qs qr room ts da d) => h.lift2 (fun us _ hu => rappend_any nm hn A c b hu hd (by omega) hr (fun W' d' hs => hs.bs hB hA) hl hpl hur))
  have hcc := append_c room d nm b
  obtain ⟨rr, hrr⟩ : ∃ r, r = (appendD room d nm b).1 := ⟨_, rfl⟩
  obtain ⟨d', hd'⟩ : ∃ d', d' = (appendD room d nm b).2 := ⟨_, rfl⟩
  rw [← hrr] at HP HR hcc
  rw [← hd'] at HP HR ⊢
  rw [← hbl] at HP HR
  have hwr := wrap_c hcc
  have hn6 : bl ≤ 100000 := by rw [HF.out.1]; exact HF.out.2.1
  clear h hd hk hn hB hA hl hr hu hpl hur hbl hkl hm hrr hd' hcc
  go_enter Try.func25, Try.ntmps25
  go_upto_region 1 with fail
  rw [← hW, ← hgq]
  clear hW hgq
  go_upto_region 27 with (at_builtin; go_must (refine appAllL _ rfl (.tmp 135) (.tmp 137) rfl W.heap.size (.slice none 0 0) [] rfl (OwnB.nil _ _) A c b (by rw [← HF.out.1]; rfl) HF.out.2.2.1 (by simp; have := HF.out.2.1; omega) (Nat.le_refl _) ?_); intro A1 c1 w1 hown1 hg1 hl1)
  have b1 := below_none hg1
  simp only [List.length_nil, Nat.zero_add, List.nil_append] at hown1
  have hg2 := HG.out.cons (t := thO (.slice A1 b.length c1) b) b1 (hown1.mono (Nat.zero_le _)) (fun k e => (World.ownsRow.lt hown1 k e).1)
  rw [← HF.out.1] at hg2 ⊢
  have H2 := Lib.hid hg2
  replace C := fbsays (H2.out.blk 1)
  simp only [cellsSay, Nat.reduceAdd, and_true] at C
  clear hg2 hown1 hg1 hl1 b1 HG
  go_wp2_with fail
  refine (HP.out _ _ _ _ _ H2.out).mono ?_
  rintro e w2 ⟨rfl, h3⟩
  have H3 := Lib.hid h3
  clear h3 HP C H2
  go_wp2_with fail
  go_loopw [13] (fun s wr => ∃ k : Nat, k ≤ bl ∧ s = .int .i64 k ∧ Hid (∃ l : List UInt8, l.length = bl ∧ Bd B w0 wr qs qr room (thO (.slice A1 bl c1) l :: thB gq 47 #[.int .u8 (kd : Nat), .string ⟨nm.toArray⟩, .string ⟨ot.toArray⟩, .slice A bl c, .int .i64 n, .slice KA kl kc, .int .i64 to_] :: ts) d' d)) (fun s _ => bl - (intOf s).toNat)
  case atStart => exact ⟨0, Nat.zero_le _, rfl, Lib.hid ⟨b, HF.out.1.symm, H3.out⟩⟩
  case round =>
    obtain ⟨k, hk, rfl, HR9⟩ := hrel
    obtain ⟨l, hl, D⟩ := HR9.out
    by_cases hlt : k < bl
    · have hO : OwnB wr 0 (.slice A1 bl c1) l := D.get 0 rfl
      obtain ⟨gA, rfl⟩ : ∃ gA, A1 = some ⟨gA, 0, none⟩ := by
        obtain ⟨g', cp, h9, -⟩ := OwnB.form hO (by omega)
        injection h9 with h9 _ _
        exact ⟨g', h9⟩
      obtain ⟨x, hx⟩ : ∃ x, x = l[k]'(by omega) := ⟨_, rfl⟩
      have cb : wr.cell? ⟨gA, k, none⟩ = some (.int .u8 (x.toNat : Nat)) := by rw [hO.cell k (by omega), hx]
      have fb := hO.frozen k
      obtain ⟨p, hp⟩ : ∃ p, p = x.toNat := ⟨_, rfl⟩
      rw [← hp] at cb
      obtain ⟨r, hr⟩ : ∃ r, r = (x ^^^ (255 : UInt8)).toNat := ⟨_, rfl⟩
      have fx : bits .xor .u8 (p : Int) 255 = (r : Int) := by
        have h9 := u8_xor_nat p 255 (by rw [hp]; exact UInt8.toNat_lt _) (by omega)
        rw [show ((255 : Nat) : Int) = 255 from rfl] at h9
        rw [h9, hr, hp, UInt8.toNat_xor]; rfl
      have hkl : (k : Int) < (bl : Int) := by omega
      have hk0 : (0 : Int) ≤ (k : Int) := by omega
      have HD2 := Lib.hid (And.intro D (And.intro hl hr))
      clear hO hx hp hr D hl HR9 H3
      go_wp2_with fail
      go_roundw
      case measure => simp [intOf]; omega
      case rel =>
        refine ⟨k + 1, by omega, by go_num, Lib.hid ⟨l.set k (x ^^^ 255), by rw [List.length_set]; exact HD2.out.2.1, ?_⟩⟩
        rw [show (Value.int .u8 (r : Int)) = bv (x ^^^ (255 : UInt8)) by rw [HD2.out.2.2]]
        exact HD2.out.1.byte 0 k (x ^^^ 255)
    · obtain rfl : k = bl := by omega
      have hkk2 : ¬ ((k : Int) < (k : Int)) := by omega
      have C := fbsays (D.blk 1)
      simp only [cellsSay, Nat.reduceAdd, and_true] at C
      have HD := Lib.hid D
      clear HR9 D hl
      go_wp2_with fail
      refine (HR.out _ _ _ HD.out).mono ?_
      rintro e w5 ⟨rfl, h5⟩
      have H5 := Lib.hid h5
      clear h5 HR C
      go_wp2_with fail
      go_ret
      exact ⟨rfl, H5.out.tail.tail⟩

end Go.Proofs.Ytiogckgchlnldaa

/- Layer 8: a call on both, whichever; the document's New. -/
set_option linter.unusedSimpArgs false
set_option linter.unusedVariables false
namespace Go.Proofs.Ytiogckgchlnldaa
open Go.RowKit
set_option maxRecDepth 100000

def fstep (room : Int) (d : Fd) (o : Op8) : Fd :=
  if o.kd % 14 = 11 then crashD d (kpt o.kp) o.to_ else if o.kd % 14 = 12 then haltD d (o.n.tmod 20) else if o.kd % 14 = 13 then d else (playD room d o).2
theorem fstep_play {room : Int} {d : Fd} {o : Op8} (h : o.kd % 14 ≤ 10) : fstep room d o = (playD room d o).2 := by
  unfold fstep
  rw [if_neg (by omega), if_neg (by omega), if_neg (by omega)]

theorem fdoes_any {B qs qr room : Nat} {w0 w : World} {ts : List Kt} {d : Fd} (o : Op8) (h : Bd B w0 w qs qr room ts d d) (hn : o.nm.length ≤ maxLen) (hot : o.ot.length ≤ maxLen) (hB : w0.heap.size ≤ B) (hA : Bs w0 o.A o.b) (hK : Bo w0 o.KA o.kp) (hkp : o.kp.length ≤ 1000000) (hl : d.lf ≤ 1000000) (hr : room ≤ 1048576) (hu : usedD d + o.b.length ≤ 100000) (hpl : d.P.length < 1000000) (hur : usedD d ≤ room) :
    Calls Try.prog 25 #[.pointer (some ⟨qs, 0, none⟩), .pointer (some ⟨qr, 0, none⟩), .agg #[.int .u8 (o.kd : Nat), .string ⟨o.nm.toArray⟩, .string ⟨o.ot.toArray⟩, .slice o.A o.b.length o.c, .int .i64 o.n, .slice o.KA o.kp.length o.kc, .int .i64 o.to_]] w fun e w' => e = .returned (.bool true) ∧ Bd B w0 w' qs qr room ts (fstep room d o) (fstep room d o) := by
  by_cases k11 : o.kd % 14 = 11
  · rw [show fstep room d o = crashD d (kpt o.kp) o.to_ by unfold fstep; rw [if_pos k11]]
    exact fdoes_crash o h hB hK hkp k11
  by_cases k12 : o.kd % 14 = 12
  · rw [show fstep room d o = haltD d (o.n.tmod 20) by unfold fstep; rw [if_neg k11, if_pos k12]]
    exact fdoes_halt o h k12
  by_cases k13 : o.kd % 14 = 13
  · rw [show fstep room d o = d by unfold fstep; rw [if_neg k11, if_neg k12, if_pos k13]]
    cases hrd : rdD d o.nm with
    | some bb => exact fdoes_read o h hn bb hrd k13
    | none => exact fdoes_noread o h hn (by
        unfold rdD at hrd
        cases ha : atF d.F o.nm with
        | none => rfl
        | some x => rw [ha] at hrd; cases hrd) k13
  rw [fstep_play (show o.kd % 14 ≤ 10 by omega)]
  by_cases k0 : o.kd % 14 = 0
  · rw [show playD room d o = createD d o.nm by unfold playD; rw [if_pos k0]]
    exact fdoes_0 o h hn hot hl k0
  by_cases k6 : o.kd % 14 = 6
  · rw [show playD room d o = syncD d o.nm by unfold playD; rw [if_neg k0, if_pos (.inl k6)]]
    exact fdoes_6 o h hn hot hl k6
  by_cases k7 : o.kd % 14 = 7
  · rw [show playD room d o = syncD d o.nm by unfold playD; rw [if_neg k0, if_pos (.inr k7)]]
    exact fdoes_7 o h hn hot hl k7
  by_cases k8 : o.kd % 14 = 8
  · rw [show playD room d o = cutD d o.nm o.n by unfold playD; rw [if_neg k0, if_neg (by omega), if_pos k8]]
    exact fdoes_8 o h hn hot hl k8
  by_cases k9 : o.kd % 14 = 9
  · rw [show playD room d o = renameD d o.nm o.ot by unfold playD; rw [if_neg k0, if_neg (by omega), if_neg k8, if_pos k9]]
    exact fdoes_9 o h hn hot hl k9
  by_cases k10 : o.kd % 14 = 10
  · rw [show playD room d o = removeD d o.nm by unfold playD; rw [if_neg k0, if_neg (by omega), if_neg k8, if_neg k9, if_pos k10]]
    exact fdoes_10 o h hn hot hl k10
  rw [show playD room d o = appendD room d o.nm o.b by unfold playD; rw [if_neg k0, if_neg (by omega), if_neg k8, if_neg k9, if_neg k10]]
  exact fdoes_append o h hn hB hA hl hr hu hpl hur ⟨k0, by omega⟩

theorem tmod_lt (n : Int) : (n.tmod 20).toNat ≤ 20 := by
  have := Int.tmod_lt_of_pos n (show (0 : Int) < 20 by omega)
  omega
/-- a call's bounds -/
theorem fstep_keeps {room : Nat} {d : Fd} {o : Op8} {T : List Ft} (h : Fi d T) (hu : usedD d + o.b.length ≤ 100000) (hl : d.P.length < 1000000) (hr : usedD d ≤ room) (hf : d.lf ≤ 20) :
    usedD (fstep room d o) ≤ room ∧ usedD (fstep room d o) ≤ usedD d + o.b.length ∧ (fstep room d o).P.length ≤ d.P.length + 1 ∧ (fstep room d o).lf ≤ 20 := by
  unfold fstep
  by_cases k11 : o.kd % 14 = 11
  · rw [if_pos k11]
    have h1 := used_crash h (kpt o.kp) o.to_
    have h2 := lp_crash d (kpt o.kp) o.to_
    exact ⟨by omega, by omega, by have := h2.2; omega, by have := h2.1; omega⟩
  by_cases k12 : o.kd % 14 = 12
  · rw [if_neg k11, if_pos k12]
    have e1 : usedD (haltD d (o.n.tmod 20)) = usedD d := rfl
    have e2 : (haltD d (o.n.tmod 20)).P = d.P := rfl
    exact ⟨by omega, by omega, by rw [e2]; omega, tmod_lt o.n⟩
  by_cases k13 : o.kd % 14 = 13
  · rw [if_neg k11, if_neg k12, if_pos k13]
    exact ⟨hr, by omega, by omega, hf⟩
  · rw [if_neg k11, if_neg k12, if_neg k13]
    have h1 := play_room (o := o) (room := (room : Int)) h hu hl (by omega)
    have h2 := play_used (o := o) (room := (room : Int)) h hu hl
    have h3 := lp_play (room : Int) d o
    exact ⟨by omega, h2, h3.2, by have := h3.1; omega⟩

theorem rnew_bad (room : Int) (w : World) (hr : room < 0 ∨ 1048576 < room) :
    Calls Try.prog 24 #[.int .i64 room] w fun e w' => e = .returned (.pointer none) ∧ w' = w := by
  by_cases h0 : room < 0
  · have d0 : decide (room < 0) = true := decide_eq_true h0
    clear hr
    go_enter Try.func24, Try.ntmps24
    go_wp2_with fail
    go_ret
    exact ⟨rfl, rfl⟩
  · have d0 : decide (room < 0) = false := decide_eq_false h0
    have d1 : decide (1048576 < room) = true := decide_eq_true (by omega)
    have n1 : 1048576 < room := by omega
    clear hr
    go_enter Try.func24, Try.ntmps24
    go_wp2_with fail
    go_ret
    exact ⟨rfl, rfl⟩
theorem rnew_any (room : Nat) (hr : room ≤ 1048576) {B qs : Nat} {w0 w : World} (h : FsI B w0 w qs room [] fd0) :
    Calls Try.prog 24 #[.int .i64 (room : Nat)] w fun e w' => ∃ qr, e = .returned (.pointer (some ⟨qr, 0, none⟩)) ∧ Bd B w0 w' qs qr room [] fd0 fd0 := by
  have d0 : decide ((room : Int) < 0) = false := decide_eq_false (by omega)
  have d1 : decide ((1048576 : Int) < (room : Int)) = false := decide_eq_false (by omega)
  have n0 : ¬ (room : Int) < 0 := by omega
  have n1 : ¬ (1048576 : Int) < (room : Int) := by omega
  have hno : ∀ k, (Value.slice none 0 0).ownBlock = some k → w.heap.size ≤ k := fun k e => by simp [Value.ownBlock] at e
  have s1 := h.cons (t := thRP (.slice none 0 0) []) (Below.refl _ _) (OwnR.nil _ _ _ _ _) hno
  have s2 := s1.cons (t := thRF (.slice none 0 0) []) (Below.refl _ _) (OwnR.nil _ _ _ _ _) hno
  have s3 := s2.cons (t := thB w.heap.size 96 (rfc room (.slice none 0 0) (.slice none 0 0) false 0 false)) (below_alloc _ _) (Blk.new _ _ _) (fun k e => by
    have e : k = w.heap.size := e
    omega)
  have HE := Lib.hid (show Bd B w0 (w.alloc (.cells (rfc room (.slice none 0 0) (.slice none 0 0) false 0 false) 96)) qs w.heap.size room [] fd0 fd0 from ⟨.slice none 0 0, .slice none 0 0, [], [], 0, s3, rfl, rfl, fun h => by cases h⟩)
  clear s1 s2 s3 h hr hno
  unfold rfc at HE
  obtain ⟨W, hW⟩ : ∃ W, W = w.alloc (.cells #[.int .i64 (room : Nat), .slice none 0 0, .slice none 0 0, .bool false, .int .i64 ((0 : Nat) : Int), .bool false] 96) := ⟨_, rfl⟩
  rw [← hW] at HE
  go_enter Try.func24, Try.ntmps24
  go_wp2_with fail
  go_ret
  exact ⟨_, rfl, by first | exact HE.out | (rw [hW] at HE; exact HE.out)⟩

end Go.Proofs.Ytiogckgchlnldaa

/- Layer 8: walk of FsDoes. -/
set_option linter.unusedSimpArgs false
set_option linter.unusedVariables false
namespace Go.Proofs.Ytiogckgchlnldaa
open Go.RowKit
set_option maxRecDepth 100000

theorem Bd.fi {B qs qr room : Nat} {w0 w : World} {ts : List Kt} {da db : Fd} (h : Bd B w0 w qs qr room ts da db) : ∃ T, Fi da T := by
  obtain ⟨us, h⟩ := h.prog
  exact h.fi

set_option maxHeartbeats 8000000 in
theorem fsDoes_walk (room : Int) (V : Option Addr) (cv : Nat) (l : List Op8) (w : World) (hV : Rw w encOp8 7 V l) (hl : l.length ≤ maxLen) (ho : ∀ o ∈ l, o.ok w) :
    Calls Try.prog 4 #[.int .i64 room, .slice V l.length cv] w fun e w' => e = .returned (.bool true) ∧ Below w.heap.size w w' := by
  have HK := Lib.hid (fun w => fknown8_any w)
  have HH := Lib.hid (heavy8_any V cv l w hV hl)
  obtain ⟨n, hn⟩ : ∃ n, n = l.length := ⟨_, rfl⟩
  rw [← hn] at HH ⊢
  cases hh : heavyL l with
  | true =>
    rw [hh] at HH
    clear hV hl ho hn hh
    go_enter Try.func4, Try.ntmps4
    go_wp2_with fail
    refine HH.out.mono ?_
    rintro e w1 ⟨rfl, h1⟩
    have H1 := Lib.hid h1
    clear h1 HH
    go_wp2_with fail
    refine (HK.out w1).mono ?_
    rintro e w2 ⟨rfl, h2⟩
    have H2 := Lib.hid h2
    clear h2 HK
    go_wp2_with fail
    go_ret
    exact ⟨rfl, on1 H1.out H2.out⟩
  | false =>
    rw [hh] at HH
    obtain ⟨hn50, hbg⟩ := heavyL_no hh
    have HI := Lib.hid (And.intro hV (And.intro hn (And.intro hn50 (And.intro hbg ho))))
    clear hV hl ho hn hh hn50 hbg
    by_cases hr : room < 0 ∨ 1048576 < room
    · have HN := Lib.hid (fun w => new_bad room w hr)
      have HR := Lib.hid (fun w => rnew_bad room w hr)
      clear hr
      go_enter Try.func4, Try.ntmps4
      go_wp2_with fail
      refine HH.out.mono ?_
      rintro e w1 ⟨rfl, h1⟩
      have H1 := Lib.hid h1
      clear h1 HH
      go_wp2_with fail
      refine (HK.out w1).mono ?_
      rintro e w2 ⟨rfl, h2⟩
      have H2 := Lib.hid (on1 H1.out h2)
      clear h2 HK H1
      go_wp2_with fail
      refine (HN.out w2).mono ?_
      rintro e w3 ⟨rfl, hw⟩
      rw [hw]
      clear hw HN
      go_wp2_with fail
      refine (HR.out w2).mono ?_
      rintro e w3 ⟨rfl, hw⟩
      rw [hw]
      clear hw HR
      go_wp2_with fail
      go_ret
      exact ⟨rfl, H2.out⟩
    · obtain ⟨room, rfl⟩ := Int.eq_ofNat_of_zero_le (show 0 ≤ room by omega)
      have hr : room ≤ 1048576 := by omega
      have Hr := Lib.hid hr
      go_enter Try.func4, Try.ntmps4
      go_wp2_with fail
      refine HH.out.mono ?_
      rintro e w1 ⟨rfl, h1⟩
      have H1 := Lib.hid h1
      clear h1 HH
      go_wp2_with fail
      refine (HK.out w1).mono ?_
      rintro e w2 ⟨rfl, h2⟩
      have H2 := Lib.hid (on1 H1.out h2)
      have HC := Lib.hid (new_any (Sep.nil H2.out H2.out.size) room Hr.out)
      clear h2 HK H1
      go_wp2_with fail
      refine HC.out.mono ?_
      rintro e w3 ⟨q, rfl, h3⟩
      have HR := Lib.hid (rnew_any room Hr.out h3)
      clear h3 HC H2
      go_wp2_with fail
      refine HR.out.mono ?_
      rintro e w4 ⟨qr, rfl, h4⟩
      have H4 := Lib.hid h4
      clear h4 HR
      go_wp2_with fail
      go_loopw [7] (fun s wr => ∃ k : Nat, k ≤ n ∧ s = .int .i64 k ∧ Hid (∃ d, Bd w.heap.size w wr q qr room [] d d ∧ usedD d ≤ room ∧ usedD d ≤ 300 * k ∧ d.P.length ≤ k ∧ d.lf ≤ 20)) (fun s _ => n - (intOf s).toNat)
      case atStart => exact ⟨0, Nat.zero_le _, rfl, Lib.hid ⟨fd0, H4.out, Nat.zero_le _, Nat.zero_le _, Nat.zero_le _, Nat.zero_le _⟩⟩
      case round =>
        obtain ⟨k, hkn, rfl, HR⟩ := hrel
        clear H4
        have hn50 := HI.out.2.2.1
        rw [← HI.out.2.1] at hn50
        by_cases hlt : k < n
        · obtain ⟨o, hx⟩ : ∃ x, l[k]? = some x := ⟨_, List.getElem?_eq_getElem (by rw [← HI.out.2.1]; exact hlt)⟩
          obtain ⟨d, r1, r2, r3, r4, r5⟩ := HR.out
          obtain ⟨p, f, rfl, hc⟩ := HI.out.1 k o hx
          have hom := List.mem_of_getElem? hx
          obtain ⟨g1, g2, g3, g4⟩ := bigO_no (HI.out.2.2.2.1 o hom)
          obtain ⟨ok1, ok2, ok3, ok4, ok5, ok6, ok7, ok8, ok9⟩ := HI.out.2.2.2.2 o hom
          have hkl : (k : Int) < (n : Int) := by omega
          have hk0 : (0 : Int) ≤ (k : Int) := by omega
          obtain ⟨T, hT⟩ := r1.fi
          have hk2 := fstep_keeps (o := o) (room := room) hT (by omega) (by omega) r2 r5
          have HC := Lib.hid (fdoes_any o r1 ok2 ok3 (Nat.le_refl _) ok4 ok7 (by omega) (by omega) Hr.out (by omega) (by omega) r2)
          obtain ⟨d', hd'⟩ : ∃ d', d' = fstep room d o := ⟨_, rfl⟩
          rw [← hd'] at HC hk2
          have e1 : wr.cell? ⟨p, f + k * 7, none⟩ = some (.int .u8 (o.kd : Nat)) := r1.old (Nat.le_refl _) (hc 0 _ rfl)
          have e2 : wr.cell? ⟨p, f + k * 7 + 1, none⟩ = some (.string ⟨o.nm.toArray⟩) := r1.old (Nat.le_refl _) (hc 1 _ rfl)
          have e3 : wr.cell? ⟨p, f + k * 7 + 2, none⟩ = some (.string ⟨o.ot.toArray⟩) := r1.old (Nat.le_refl _) (hc 2 _ rfl)
          have e4 : wr.cell? ⟨p, f + k * 7 + 3, none⟩ = some (.slice o.A o.b.length o.c) := r1.old (Nat.le_refl _) (hc 3 _ rfl)
          have e5 : wr.cell? ⟨p, f + k * 7 + 4, none⟩ = some (.int .i64 o.n) := r1.old (Nat.le_refl _) (hc 4 _ rfl)
          have e6 : wr.cell? ⟨p, f + k * 7 + 5, none⟩ = some (.slice o.KA o.kp.length o.kc) := r1.old (Nat.le_refl _) (hc 5 _ rfl)
          have e7 : wr.cell? ⟨p, f + k * 7 + 6, none⟩ = some (.int .i64 o.to_) := r1.old (Nat.le_refl _) (hc 6 _ rfl)
          have HN := Lib.hid (show usedD d' ≤ room ∧ usedD d' ≤ 300 * (k + 1) ∧ d'.P.length ≤ k + 1 ∧ d'.lf ≤ 20 from ⟨hk2.1, by have := hk2.2.1; omega, by have := hk2.2.2.1; omega, hk2.2.2.2⟩)
          clear r1 r2 r3 r4 r5 HR hc hx hom hk2 hd' hT T g1 g2 g3 g4 ok1 ok2 ok3 ok4 ok5 ok6 ok7 ok8 ok9
          go_wp2_with fail
          refine HC.out.mono ?_
          rintro e w5 ⟨rfl, h5⟩
          have H5 := Lib.hid h5
          have HS := Lib.hid (fsame_any h5)
          clear h5 HC e1 e2 e3 e4 e5 e6 e7
          go_wp2_with fail
          refine HS.out.mono ?_
          rintro e w6 ⟨rfl, h6⟩
          have H6 := Lib.hid (H5.out.go h6)
          clear h6 HS H5
          go_wp2_with fail
          go_roundw
          case measure => simp [intOf]; omega
          case rel => exact ⟨k + 1, by omega, by go_num, Lib.hid ⟨d', H6.out, HN.out⟩⟩
        · obtain rfl : k = n := by omega
          have hkk : ¬ ((k : Int) < (k : Int)) := by omega
          obtain ⟨d, r1, r2⟩ := HR.out
          have HS := Lib.hid (fsame_any r1)
          have HB := Lib.hid r1.b
          clear r1 r2 HR
          go_wp2_with fail
          refine HS.out.mono ?_
          rintro e w6 ⟨rfl, h6⟩
          have H6 := Lib.hid (on1 HB.out h6)
          clear h6 HS HB
          go_wp2_with fail
          go_ret
          exact ⟨rfl, H6.out⟩

end Go.Proofs.Ytiogckgchlnldaa

/- Layer 8: what Open of files is; the document's Open. -/
set_option linter.unusedSimpArgs false
set_option linter.unusedVariables false
namespace Go.Proofs.Ytiogckgchlnldaa
open Go.RowKit
set_option maxRecDepth 100000

def fdF (F : List (Nm × List UInt8)) : Fd := ⟨F, [], false, 0, false⟩
def opensF : List (Nm × List UInt8) → List (Nm × List UInt8) → Option (List (Nm × List UInt8))
  | [], F => some F
  | x :: xs, F => if okN x.1 = false ∨ (atF F x.1).isSome = true then none else opensF xs (insF x F)
theorem opensF_cons (x : Nm × List UInt8) (xs F : List (Nm × List UInt8)) : opensF (x :: xs) F = if okN x.1 = false ∨ (atF F x.1).isSome = true then none else opensF xs (insF x F) := rfl
theorem opensF_nil (F : List (Nm × List UInt8)) : opensF [] F = some F := rfl
/-- the data behind Open of files, if they may be opened -/
def openD (room : Int) (M : List (Nm × List UInt8)) : Option Fd :=
  if room < 0 ∨ 1048576 < room ∨ 8 < M.length then none else match opensF M [] with
    | none => none
    | some F => if room < (usedD (fdF F) : Int) then none else some (fdF F)
theorem insF_perm (x : Nm × List UInt8) : ∀ F : List (Nm × List UInt8), (insF x F).Perm (x :: F)
  | [] => List.Perm.refl _
  | y :: ys => by
    unfold insF
    split
    · exact ((insF_perm x ys).cons y).trans (List.Perm.swap _ _ _)
    · exact List.Perm.refl _
theorem used_fdF (F : List (Nm × List UInt8)) : usedD (fdF F) = (F.map fun f => f.2.length).sum := by
  unfold usedD fdF
  congr 1
  apply List.map_congr_left
  intro f _
  rw [pcs_nil, List.append_nil]
theorem used_ins (x : Nm × List UInt8) (F : List (Nm × List UInt8)) : usedD (fdF (insF x F)) = usedD (fdF F) + x.2.length := by
  rw [used_fdF, used_fdF, ((insF_perm x F).map _).sum_nat, List.map_cons, List.sum_cons]
  omega
theorem len_ins (x : Nm × List UInt8) (F : List (Nm × List UInt8)) : (insF x F).length = F.length + 1 := by rw [(insF_perm x F).length_eq, List.length_cons]
theorem df_nil : Df [] := ⟨by unfold upN; exact List.Pairwise.nil, by simp, fun f h => by simp at h⟩
theorem df_ins {x : Nm × List UInt8} {F : List (Nm × List UInt8)} (h : Df F) (ho : okN x.1 = true) (ha : (atF F x.1).isSome = false) (hl : F.length < 8) : Df (insF x F) := by
  refine ⟨insF_up h.up (atF_none.1 (by simpa using ha)), by rw [len_ins]; omega, fun f hf => ?_⟩
  rcases List.mem_cons.1 ((insF_perm x F).mem_iff.1 hf) with rfl | hf
  · exact (of_decide_eq_true ho).2
  · exact h.fn f hf
theorem db_fdF {F : List (Nm × List UInt8)} (h : Df F) (hu : usedD (fdF F) ≤ 100000) : Db (fdF F) := ⟨h.up, h.fl, by simp [fdF], hu, h.fn, fun p hp => by simp [fdF] at hp⟩
section
variable {B q room : Nat} {w0 w w' : World} {ts : List Kt} {d : Fd}
theorem RfI.sep (h : RfI B w0 w q room ts d) : Sep B w0 w ts := by
  obtain ⟨VF, VP, LF, LP, lv, hs, h1⟩ := h
  exact Sep.sub hs (((((List.sublist_append_right _ _).trans (List.sublist_append_right _ _)).cons _).cons _).cons _)
theorem FsI.sep (h : FsI B w0 w q room ts d) : Sep B w0 w ts := by
  obtain ⟨bm, VW, T, hs, h1⟩ := h
  exact Sep.sub hs ((((List.sublist_append_right _ _).cons _).cons _).cons _)
end
theorem rnewS_any {B : Nat} {w0 w : World} {ts : List Kt} (room : Nat) (hr : room ≤ 1048576) (h : Sep B w0 w ts) :
    Calls Try.prog 24 #[.int .i64 (room : Nat)] w fun e w' => ∃ qr, e = .returned (.pointer (some ⟨qr, 0, none⟩)) ∧ RfI B w0 w' qr room ts (fdF []) := by
  have d0 : decide ((room : Int) < 0) = false := decide_eq_false (by omega)
  have d1 : decide ((1048576 : Int) < (room : Int)) = false := decide_eq_false (by omega)
  have n0 : ¬ (room : Int) < 0 := by omega
  have n1 : ¬ (1048576 : Int) < (room : Int) := by omega
  have hno : ∀ k, (Value.slice none 0 0).ownBlock = some k → w.heap.size ≤ k := fun k e => by simp [Value.ownBlock] at e
  have s1 := h.cons (t := thRP (.slice none 0 0) []) (Below.refl _ _) (OwnR.nil _ _ _ _ _) hno
  have s2 := s1.cons (t := thRF (.slice none 0 0) []) (Below.refl _ _) (OwnR.nil _ _ _ _ _) hno
  have s3 := s2.cons (t := thB w.heap.size 96 (rfc room (.slice none 0 0) (.slice none 0 0) false 0 false)) (below_alloc _ _) (Blk.new _ _ _) (fun k e => by
    have e : k = w.heap.size := e
    omega)
  have HE := Lib.hid (show RfI B w0 (w.alloc (.cells (rfc room (.slice none 0 0) (.slice none 0 0) false 0 false) 96)) w.heap.size room ts (fdF []) from ⟨.slice none 0 0, .slice none 0 0, [], [], 0, s3, rfl, rfl, fun h => by cases h⟩)
  clear s1 s2 s3 h hr hno
  unfold rfc at HE
  obtain ⟨W, hW⟩ : ∃ W, W = w.alloc (.cells #[.int .i64 (room : Nat), .slice none 0 0, .slice none 0 0, .bool false, .int .i64 ((0 : Nat) : Int), .bool false] 96) := ⟨_, rfl⟩
  rw [← hW] at HE
  go_enter Try.func24, Try.ntmps24
  go_wp2_with fail
  go_ret
  exact ⟨_, rfl, by first | exact HE.out | (rw [hW] at HE; exact HE.out)⟩

/-- what the document's Open answers -/
def Rr (B : Nat) (w0 w : World) (ts : List Kt) (room : Int) (v : Value) : Option Fd → Prop
  | none => v = .pointer none ∧ Sep B w0 w ts
  | some d => ∃ (q rm : Nat), v = .pointer (some ⟨q, 0, none⟩) ∧ room = (rm : Nat) ∧ RfI B w0 w q rm ts d

theorem ropen_bad {B : Nat} {w0 w : World} {ts : List Kt} (room : Int) (V : Value) (h : Sep B w0 w ts) (hr : room < 0 ∨ 1048576 < room) :
    Calls Try.prog 28 #[.int .i64 room, V] w fun e w' => e = .returned (.pointer none) ∧ Sep B w0 w' ts := by
  have HN := Lib.hid (rnew_bad room w hr)
  have HS := Lib.hid h
  clear h hr
  go_enter Try.func28, Try.ntmps28
  go_wp2_with fail
  refine HN.out.mono ?_
  rintro e w1 ⟨rfl, hw⟩
  rw [hw]
  clear hw HN
  go_wp2_with fail
  go_ret
  exact ⟨rfl, HS.out⟩
theorem ropen_many {B : Nat} {w0 w : World} {ts : List Kt} (room : Nat) (hr : room ≤ 1048576) (A : Option Addr) (n c : Nat) (hn : 8 < n) (h : Sep B w0 w ts) :
    Calls Try.prog 28 #[.int .i64 (room : Nat), .slice A n c] w fun e w' => e = .returned (.pointer none) ∧ Sep B w0 w' ts := by
  have HN := Lib.hid (rnewS_any room hr h)
  have d8 : decide ((8 : Int) < (n : Int)) = true := decide_eq_true (by omega)
  clear h hr hn
  go_enter Try.func28, Try.ntmps28
  go_wp2_with fail
  refine HN.out.mono ?_
  rintro e w1 ⟨qr, rfl, h1⟩
  have HS := Lib.hid h1.sep
  clear h1 HN
  go_wp2_with fail
  go_ret
  exact ⟨rfl, HS.out⟩

set_option maxHeartbeats 8000000 in
theorem ropen_main {B : Nat} {w0 w : World} {ts : List Kt} (room : Nat) (hr : room ≤ 1048576) (A : Option Addr) (c : Nat) (L : List Fe) (h : Sep B w0 w ts) (hE : ∀ W, Sep B w0 W ts → Es W A L) (hL : L.length ≤ 8) (hn : ∀ x ∈ L, x.nm.length ≤ maxLen) (hb : ∀ x ∈ L, x.b.length ≤ 300) :
    Calls Try.prog 28 #[.int .i64 (room : Nat), .slice A L.length c] w fun e w' => ∃ v, e = .returned v ∧ Hid (Rr B w0 w' ts (room : Nat) v (openD (room : Nat) (L.map nbE))) := by
  have HN := Lib.hid (rnewS_any room hr h)
  obtain ⟨n, hln⟩ : ∃ n, n = L.length := ⟨_, rfl⟩
  rw [← hln] at hL ⊢
  have d8 : decide ((8 : Int) < (n : Int)) = false := decide_eq_false (by omega)
  obtain ⟨M, hM⟩ : ∃ M, M = L.map nbE := ⟨_, rfl⟩
  have hML : M.length = n := by rw [hM, List.length_map, hln]
  have hD : openD (room : Nat) M = (match opensF M [] with | none => none | some F => if (room : Int) < (usedD (fdF F) : Int) then none else some (fdF F)) := by
    unfold openD
    rw [if_neg (by rw [hML]; omega)]
  obtain ⟨D, hDD⟩ : ∃ D, D = openD (room : Nat) M := ⟨_, rfl⟩
  rw [← hM, ← hDD]
  rw [← hDD] at hD
  have HX := Lib.hid (And.intro hE (And.intro hn (And.intro hb (And.intro hln (And.intro hM (And.intro hML hD))))))
  clear h hr hE hn hb hln hM hML hD hDD
  go_enter Try.func28, Try.ntmps28
  go_wp2_with fail
  refine HN.out.mono ?_
  rintro e w1 ⟨q, rfl, h1⟩
  have H1 := Lib.hid h1
  clear h1 HN
  go_wp2_with fail
  go_loopw [6] (fun s wr => ∃ k : Nat, k ≤ n ∧ s = .int .i64 k ∧ Hid (∃ F, RfI B w0 wr q room ts (fdF F) ∧ opensF M [] = opensF (M.drop k) F ∧ Df F ∧ F.length = k ∧ usedD (fdF F) ≤ 300 * k)) (fun s _ => n - (intOf s).toNat)
  case atStart => exact ⟨0, Nat.zero_le _, rfl, Lib.hid ⟨[], H1.out, rfl, df_nil, rfl, Nat.le_refl _⟩⟩
  case round =>
    obtain ⟨k, hkn, rfl, HR⟩ := hrel
    clear H1
    by_cases hlt : k < n
    · obtain ⟨x, hx⟩ : ∃ x, L[k]? = some x := ⟨_, List.getElem?_eq_getElem (by rw [← HX.out.2.2.2.1]; exact hlt)⟩
      obtain ⟨F, r1, r2, r3, r4, r5⟩ := HR.out
      have hMk : M.drop k = (x.nm, x.b) :: M.drop (k + 1) := by
        rw [List.drop_eq_getElem_cons (by rw [HX.out.2.2.2.2.2.1]; exact hlt)]
        congr 1
        have : M[k]? = some (x.nm, x.b) := by rw [HX.out.2.2.2.2.1, List.getElem?_map, hx]; rfl
        rw [List.getElem?_eq_getElem (by rw [HX.out.2.2.2.2.2.1]; exact hlt)] at this
        injection this
      rw [hMk, opensF_cons] at r2
      have hxn := HX.out.2.1 x (List.mem_of_getElem? hx)
      have hxb := HX.out.2.2.1 x (List.mem_of_getElem? hx)
      have hkl : (k : Int) < (n : Int) := by omega
      have hk0 : (0 : Int) ≤ (k : Int) := by omega
      obtain ⟨p, f, rfl, hc⟩ := (HX.out.1 wr r1.sep).row k x hx
      have c0 : wr.cell? ⟨p, f + k * 2, none⟩ = some (.string ⟨x.nm.toArray⟩) := hc 0 _ rfl
      have HC := Lib.hid (rfind_any x.nm hxn r1 r3)
      obtain ⟨pp, hpp⟩ : ∃ pp, pp = posF F x.nm := ⟨_, rfl⟩
      obtain ⟨th, hth⟩ : ∃ th, th = (atF F x.nm).isSome := ⟨_, rfl⟩
      rw [← hth] at r2
      have HC : Hid (Calls Try.prog 63 #[.pointer (some ⟨q, 0, none⟩), .string ⟨x.nm.toArray⟩] wr fun e w' => e = .returned (.tuple #[.int .i64 (pp : Nat), .bool th]) ∧ Below wr.heap.size wr w') := by rw [hpp, hth]; exact HC
      have HF := Lib.hid (And.intro r1 (And.intro r2 (And.intro r3 (And.intro r4 (And.intro r5 (And.intro hxn (And.intro hxb (And.intro hx hth))))))))
      clear r1 r2 r3 r4 r5 HR hMk hxn hxb hx hc hpp hth
      go_wp2_with fail
      refine HC.out.mono ?_
      rintro e w2 ⟨rfl, b2⟩
      have h2 := HF.out.1.go b2
      obtain ⟨p2, f2, he2, hc⟩ := (HX.out.1 w2 h2.sep).row k x HF.out.2.2.2.2.2.2.2.1
      injection he2 with he2
      injection he2 with e1 e2 _
      subst e1 e2
      have c0 : w2.cell? ⟨p, f + k * 2, none⟩ = some (.string ⟨x.nm.toArray⟩) := hc 0 _ rfl
      have c1 : w2.cell? ⟨p, f + k * 2 + 1, none⟩ = some (.slice x.A x.b.length x.c) := hc 1 _ rfl
      have hbx := (HX.out.1 w2 h2.sep).by_ x (List.mem_of_getElem? HF.out.2.2.2.2.2.2.2.1)
      have H2 := Lib.hid (And.intro h2 hbx)
      clear HC b2 h2 hc hbx
      cases th with
      | true =>
        have HE := Lib.hid (show Rr B w0 w2 ts (room : Nat) (.pointer none) D from by
          rw [HX.out.2.2.2.2.2.2, HF.out.2.1, if_pos (.inr rfl)]
          exact ⟨rfl, H2.out.1.sep⟩)
        clear c0 c1 HF H2
        go_wp2_with fail
        go_ret
        exact ⟨_, rfl, HE⟩
      | false =>
        have HM := Lib.hid (rnamed_any x.nm w2 HF.out.2.2.2.2.2.1)
        obtain ⟨ok, hok⟩ : ∃ ok, ok = okN x.nm := ⟨_, rfl⟩
        rw [← hok] at HM
        have Hok := Lib.hid hok
        clear hok
        cases ok with
        | false =>
          have HE := Lib.hid (show Rr B w0 w2 ts (room : Nat) (.pointer none) D from by
            rw [HX.out.2.2.2.2.2.2, HF.out.2.1, if_pos (.inl Hok.out.symm)]
            exact ⟨rfl, H2.out.1.sep⟩)
          go_wp2_with fail
          refine HM.out.mono ?_
          rintro e w3 ⟨rfl, hw⟩
          rw [hw]
          clear hw HM c0 c1 HF H2
          go_wp2_with fail
          go_ret
          exact ⟨_, rfl, HE⟩
        | true =>
          obtain ⟨bl, hbl⟩ : ∃ bl, bl = x.b.length := ⟨_, rfl⟩
          rw [← hbl] at c1
          have Hbl := Lib.hid (And.intro hbl (show bl ≤ 300 by rw [hbl]; exact HF.out.2.2.2.2.2.2.1))
          clear hbl
          go_wp2_with fail
          refine HM.out.mono ?_
          rintro e w3 ⟨rfl, hw⟩
          rw [hw]
          clear hw HM
          go_upto_region 12 with (at_builtin; go_must (refine appAllL _ rfl (.tmp 45) (.tmp 50) rfl w2.heap.size (.slice none 0 0) [] rfl (OwnB.nil _ _) x.A x.c x.b (by rw [← Hbl.out.1]; rfl) H2.out.2 (by simp; have := Hbl.out.1; have := Hbl.out.2; omega) (Nat.le_refl _) ?_); intro A4 c4 w4 hown4 hg4 hl4)
          have b4 := below_none hg4
          simp only [List.length_nil, Nat.zero_add, List.nil_append] at hown4
          have h4 := H2.out.1.cons (t := thb ⟨x.nm, x.b, A4, c4⟩) b4 (hown4.mono (Nat.zero_le _)) (fun k e => (World.ownsRow.lt hown4 k e).1)
          obtain ⟨p2, f2, he2, hc⟩ := (HX.out.1 w4 (h4.sub (List.sublist_cons_self _ _)).sep).row k x HF.out.2.2.2.2.2.2.2.1
          injection he2 with he2
          injection he2 with e1 e2 _
          subst e1 e2
          have c0 : w4.cell? ⟨p, f + k * 2, none⟩ = some (.string ⟨x.nm.toArray⟩) := hc 0 _ rfl
          have HI := Lib.hid (rinsert_any ⟨x.nm, x.b, A4, c4⟩ HF.out.2.2.2.2.2.1 h4 HF.out.2.2.1)
          have HI : Hid (Calls Try.prog 65 #[.pointer (some ⟨q, 0, none⟩), .agg #[.string ⟨x.nm.toArray⟩, .slice A4 x.b.length c4]] w4 fun e w' => e = .returned (.tuple #[]) ∧ RfI B w0 w' q room ts (fdF (insF (x.nm, x.b) F))) := HI
          rw [← Hbl.out.1] at HI ⊢
          clear hc h4 b4 hown4 hg4 hl4 c1 H2
          go_wp2_with fail
          refine HI.out.mono ?_
          rintro e w5 ⟨rfl, h5⟩
          have H5 := Lib.hid h5
          clear h5 HI c0
          go_wp2_with fail
          go_roundw
          case measure => simp [intOf]; omega
          case rel =>
            obtain ⟨r1, r2, r3, r4, r5, -, hxb, -, hth⟩ := HF.out
            refine ⟨k + 1, by omega, by go_num, Lib.hid ⟨_, H5.out, ?_, df_ins r3 Hok.out.symm hth.symm (by omega), by rw [len_ins, r4], by rw [used_ins]; show _ + x.b.length ≤ _; omega⟩⟩
            rw [r2, if_neg]
            rintro (h | h)
            · rw [← Hok.out] at h; cases h
            · cases h
    · obtain rfl : k = n := by omega
      have hkk : ¬ ((k : Int) < (k : Int)) := by omega
      obtain ⟨F, r1, r2, r3, r4, r5⟩ := HR.out
      rw [List.drop_of_length_le (by rw [HX.out.2.2.2.2.2.1]; omega)] at r2
      have HC := Lib.hid (rused_any r1 (db_fdF r3 (by omega)))
      obtain ⟨un, hun⟩ : ∃ un, un = usedD (fdF F) := ⟨_, rfl⟩
      rw [← hun] at HC
      have hDD := HX.out.2.2.2.2.2.2
      rw [r2, opensF_nil] at hDD
      dsimp only at hDD
      rw [← hun] at hDD
      have HF := Lib.hid (And.intro r1 hDD)
      clear r1 r2 r3 r4 r5 HR hun hDD
      by_cases hru : room < un
      · have dU : decide ((room : Int) < (un : Int)) = true := decide_eq_true (by omega)
        go_wp2_with fail
        refine HC.out.mono ?_
        rintro e w2 ⟨rfl, h2⟩
        have HE := Lib.hid (show Rr B w0 w2 ts (room : Nat) (.pointer none) D from by
          rw [HF.out.2, if_pos (by omega)]
          exact ⟨rfl, (HF.out.1.go h2).sep⟩)
        clear h2 HC HF
        go_wp2_with fail
        go_ret
        exact ⟨_, rfl, HE⟩
      · have dU : decide ((room : Int) < (un : Int)) = false := decide_eq_false (by omega)
        go_wp2_with fail
        refine HC.out.mono ?_
        rintro e w2 ⟨rfl, h2⟩
        have HE := Lib.hid (show Rr B w0 w2 ts (room : Nat) (.pointer (some ⟨q, 0, none⟩)) D from by
          rw [HF.out.2, if_neg (by omega)]
          exact ⟨q, room, rfl, rfl, HF.out.1.go h2⟩)
        clear h2 HC HF
        go_wp2_with fail
        go_ret
        exact ⟨_, rfl, HE⟩

end Go.Proofs.Ytiogckgchlnldaa

/- Layer 8: the program's Open of files: its data. -/
set_option linter.unusedSimpArgs false
set_option linter.unusedVariables false
namespace Go.Proofs.Ytiogckgchlnldaa
open Go.RowKit Go.Maps Go.ChangeMaps Go.MapKept Go.WideMaps
set_option maxRecDepth 100000

/-- a new file with bytes -/
theorem Fi.insB {F : List (Nm × List UInt8)} {T : List Ft} (h : Fi (fdF F) T) {t : Ft} (ht : ∀ x ∈ T, x.nm ≠ t.nm) (hs : t.su = t.b.length) (hn : t.nm.length ≤ 16) (hl : T.length < 8) (hu : usedD (fdF F) + t.b.length ≤ 100000) : Fi (fdF (insF (t.nm, t.b) F)) (insT t T) := by
  refine ⟨?_, ?_, fun x hx => ?_, fun p hp => by simp [fdF] at hp, by simp [fdF], ?_, ?_⟩
  · rw [insT_map, h.F, hs, List.take_length]
    rfl
  · refine insF_up (F := F) h.up (fun x hx => ?_)
    have hx : x ∈ (fdF F).F := hx
    rw [← h.F] at hx
    obtain ⟨y, hy, rfl⟩ := List.mem_map.1 hx
    exact ht y hy
  · rcases List.mem_cons.1 ((insT_perm t T).mem_iff.1 hx) with rfl | hx
    · refine ⟨by omega, ?_, hn⟩
      show x.b = x.b.take x.su ++ pcs [] x.nm
      rw [pcs_nil, List.append_nil, hs, List.take_length]
    · exact h.ok x hx
  · rw [used_ins]
    exact hu
  · rw [(insT_perm t T).length_eq, List.length_cons]
    omega
theorem FsI.createdB {B q room bm g : Nat} {w0 w w1 w2 : World} {ts : List Kt} {F : List (Nm × List UInt8)} {VW : Value} {T : List Ft} {n : Nm} {A : Option Addr} {c : Nat} {b : List UInt8}
    (hs : FsS B w0 w q room ts (fdF F) bm VW T) (hF : Fi (fdF F) T) (hw : Below w.heap.size w w1) (hB : Blk w1 g 89 #[.slice A b.length c, .int .i64 (b.length : Nat)]) (hO : OwnB w1 0 (.slice A b.length c) b) (hgw : w.heap.size ≤ g) (hOw : ∀ k, (Value.slice A b.length c).ownBlock = some k → w.heap.size ≤ k ∧ k ≠ g)
    (hmp : Mp w2 bm (putM n g T)) (hg : w1.grownBy w2 (some bm)) (hn : atF F n = none) (hok : okN n = true) (h8 : F.length < 8) (hu : usedD (fdF F) + b.length ≤ 100000) : FsI B w0 w2 q room ts (fdF (insF (n, b) F)) := by
  obtain ⟨t, ht⟩ : ∃ t : Ft, t = ⟨n, b, b.length, g, A, c⟩ := ⟨_, rfl⟩
  have hun := uniq_of (hF.gone (n := n) hn)
  have hu' : ∀ x ∈ T, x.nm ≠ t.nm := by rw [ht]; exact hun
  have hf := insT_find t hu'
  have s1 := Sep.cons hs (t := thF t) hw (by
    rw [ht]
    exact ⟨hB, OwnF.of hO, fun e => (hOw _ e).2 rfl⟩) (fun j hj => by
    rw [ht] at hj
    rcases hj with rfl | hj
    · exact hgw
    · exact (hOw _ hj).1)
  have hmp2 : Mp w2 bm (nmG (insT t T)) := by
    obtain ⟨D, h1, m2, m3, m4, m5⟩ := hmp
    have hfm : ∀ s, findM (nmG (insT t T)) s = findM (putM n g T) s := fun s => by
      rw [putM_find, findM_T, hf s, findM_T]
      rw [show t.nm = n by rw [ht]]
      split
      · rw [ht]; rfl
      · rfl
    have hlen : (nmG (insT t T)).length = (putM n g T).length := by
      rw [putM_len hF.names, nmG_len, nmG_len, (insT_perm t T).length_eq, findM_T, hF.gone (n := n) hn]
      rfl
    exact ⟨D, by rw [hlen]; exact h1, fun s => by rw [hfm]; exact m2 s, m3, fun s g hg => m4 s g (by rw [← hfm]; exact hg), by rw [hlen]; exact m5⟩
  have s2 := s1.call (t' := thM bm (nmG (insT t T))) 2 rfl (Tou.of_grown hg (fun j e => by injection e with e; exact e.symm)) hmp2 (fun j hj => .inl hj)
  have e8 : T.length < 8 := by have h9 := hF.len; have h9 : T.length = F.length := h9.symm; omega
  have hFi := hF.insB hu' (by rw [ht]) (by
    rw [ht]
    exact (of_decide_eq_true hok).2) e8 (by rw [ht]; exact hu)
  rw [show t.nm = n by rw [ht], show t.b = b by rw [ht]] at hFi
  refine ⟨bm, VW, insT t T, s2.perm ?_, hFi⟩
  show (thF t :: thB q 87 (fsc room bm VW (fdF F)) :: thM bm (nmG (insT t T)) :: thP VW (pcL T []) :: (T.map thF ++ ts)).Perm (thB q 87 (fsc room bm VW (fdF F)) :: thM bm (nmG (insT t T)) :: thP VW (pcL (insT t T) []) :: ((insT t T).map thF ++ ts))
  refine (List.perm_middle (l₁ := [thB q 87 (fsc room bm VW (fdF F)), thM bm (nmG (insT t T)), thP VW (pcL T [])]) (a := thF t) (l₂ := T.map thF ++ ts)).symm.trans ?_
  refine ((List.Perm.append_right ts ((insT_perm t T).map thF).symm).cons _).cons _ |>.cons _

end Go.Proofs.Ytiogckgchlnldaa

/- Layer 8: the program's Open of files. -/
set_option linter.unusedSimpArgs false
set_option linter.unusedVariables false
namespace Go.Proofs.Ytiogckgchlnldaa
open Go.RowKit Go.Maps Go.ChangeMaps Go.MapKept Go.WideMaps
set_option maxRecDepth 100000

theorem opensF_used : ∀ (M F F' : List (Nm × List UInt8)), opensF M F = some F' → usedD (fdF F) ≤ usedD (fdF F')
  | [], F, F', h => by
    rw [opensF_nil] at h
    injection h with h
    rw [h]
    exact Nat.le_refl _
  | x :: xs, F, F', h => by
    rw [opensF_cons] at h
    split at h
    · cases h
    · have h1 := opensF_used xs _ F' h
      rw [used_ins] at h1
      omega
/-- what the program's Open answers -/
def Rp (B : Nat) (w0 w : World) (ts : List Kt) (room : Int) (v : Value) : Option Fd → Prop
  | none => v = .pointer none ∧ Sep B w0 w ts
  | some d => ∃ (q rm : Nat), v = .pointer (some ⟨q, 0, none⟩) ∧ room = (rm : Nat) ∧ FsI B w0 w q rm ts d

theorem popen_bad (room : Int) (A : Option Addr) (n c : Nat) (w : World) (hr : room < 0 ∨ 1048576 < room ∨ 8 < n) :
    Calls Try.prog 27 #[.int .i64 room, .slice A n c] w fun e w' => e = .returned (.pointer none) ∧ w' = w := by
  by_cases h0 : room < 0
  · have d0 : decide (room < 0) = true := decide_eq_true h0
    clear hr
    go_enter Try.func27, Try.ntmps27
    go_wp2_with fail
    go_ret
    exact ⟨rfl, rfl⟩
  · have d0 : decide (room < 0) = false := decide_eq_false h0
    by_cases h1 : 1048576 < room
    · have d1 : decide (1048576 < room) = true := decide_eq_true h1
      clear hr
      go_enter Try.func27, Try.ntmps27
      go_wp2_with fail
      go_ret
      exact ⟨rfl, rfl⟩
    · have d1 : decide (1048576 < room) = false := decide_eq_false h1
      have d8 : decide ((8 : Int) < (n : Int)) = true := decide_eq_true (by omega)
      clear hr
      go_enter Try.func27, Try.ntmps27
      go_wp2_with fail
      go_ret
      exact ⟨rfl, rfl⟩

set_option maxHeartbeats 8000000 in
theorem popen_main {B : Nat} {w0 w : World} {ts : List Kt} (room : Nat) (hr : room ≤ 1048576) (A : Option Addr) (c : Nat) (L : List Fe) (h : Sep B w0 w ts) (hE : ∀ W, Sep B w0 W ts → Rw W encE 2 A L ∧ ∀ x ∈ L, OwnB W 0 (vaE x) x.b) (hL : L.length ≤ 8) (hn : ∀ x ∈ L, x.nm.length ≤ maxLen) (hb : ∀ x ∈ L, x.b.length ≤ 300) :
    Calls Try.prog 27 #[.int .i64 (room : Nat), .slice A L.length c] w fun e w' => ∃ v, e = .returned v ∧ Hid (Rp B w0 w' ts (room : Nat) v (openD (room : Nat) (L.map nbE))) := by
  have hmx : Try.prog.follows .mixedOrders = true := by kernel_rfl
  obtain ⟨n, hln⟩ : ∃ n, n = L.length := ⟨_, rfl⟩
  rw [← hln] at hL ⊢
  have d0 : decide ((room : Int) < 0) = false := decide_eq_false (by omega)
  have d1 : decide ((1048576 : Int) < (room : Int)) = false := decide_eq_false (by omega)
  have n0 : ¬ (room : Int) < 0 := by omega
  have n1 : ¬ (1048576 : Int) < (room : Int) := by omega
  have d8 : decide ((8 : Int) < (n : Int)) = false := decide_eq_false (by omega)
  obtain ⟨M, hM⟩ : ∃ M, M = L.map nbE := ⟨_, rfl⟩
  have hML : M.length = n := by rw [hM, List.length_map, hln]
  have hD : openD (room : Nat) M = (match opensF M [] with | none => none | some F => if (room : Int) < (usedD (fdF F) : Int) then none else some (fdF F)) := by
    unfold openD
    rw [if_neg (by rw [hML]; omega)]
    all_goals rfl
  obtain ⟨D, hDD⟩ : ∃ D, D = openD (room : Nat) M := ⟨_, rfl⟩
  rw [← hM, ← hDD]
  rw [← hDD] at hD
  have hmm := @run_makeMap Try.prog
  have s1 := h.cons (t := thM w.heap.size (nmG [])) (w' := w.alloc (.map #[] 0)) (below_alloc _ _) (Mp.made w) (fun k e => by subst e; exact Nat.le_refl _)
  have s2 := s1.cons (t := thP (.slice none 0 0) []) (Below.refl _ _) (OwnR.nil _ _ _ _ _) (fun k e => by
    have e : (Value.slice none 0 0).ownBlock = some k := e
    simp [Value.ownBlock] at e)
  have s3 := s2.box (fsc room w.heap.size (.slice none 0 0) (fdF [])) 87
  have hsz : (w.alloc (.map #[] 0)).heap.size = w.heap.size + 1 := by simp
  rw [hsz] at s3
  obtain ⟨q, hq⟩ : ∃ q, q = w.heap.size + 1 := ⟨_, rfl⟩
  obtain ⟨W, hW⟩ : ∃ W, W = (w.alloc (.map #[] 0)).alloc (.cells (fsc room w.heap.size (.slice none 0 0) (fdF [])) 87) := ⟨_, rfl⟩
  rw [← hW, ← hq] at s3
  have H0 : Hid (FsI B w0 W q room ts (fdF [])) := Lib.hid ⟨w.heap.size, .slice none 0 0, [], s3.perm ((List.Perm.swap _ _ _).cons _), ⟨rfl, List.Pairwise.nil, fun t ht => by simp at ht, fun p hp => by simp [fdF] at hp, by simp [fdF], by simp [fdF, usedD], by simp⟩⟩
  have HX := Lib.hid (And.intro hE (And.intro hn (And.intro hb (And.intro hln (And.intro hM (And.intro hML (And.intro hD hr)))))))
  clear s1 s2 s3 h hr hE hn hb hln hM hML hD hDD
  go_enter Try.func27, Try.ntmps27
  go_wp2_with fail
  rw [← hq, show (w.alloc (.map #[] 0)).alloc (.cells #[.int .i64 (room : Nat), .map (some w.heap.size), .slice none 0 0, .bool false, .int .i64 0, .bool false] 87) = W from hW.symm]
  clear hW hq hsz hmm
  go_loopw [25] (fun s wr => ∃ k : Nat, k ≤ n ∧ s = .int .i64 k ∧ Hid (∃ F, FsI B w0 wr q room ts (fdF F) ∧ opensF M [] = opensF (M.drop k) F ∧ Df F ∧ F.length = k ∧ usedD (fdF F) ≤ 300 * k ∧ usedD (fdF F) ≤ room)) (fun s _ => n - (intOf s).toNat)
  case atStart => exact ⟨0, Nat.zero_le _, rfl, Lib.hid ⟨[], H0.out, rfl, df_nil, rfl, Nat.le_refl _, Nat.zero_le _⟩⟩
  case round =>
    obtain ⟨k, hkn, rfl, HR⟩ := hrel
    clear H0
    by_cases hlt : k < n
    · obtain ⟨x, hx⟩ : ∃ x, L[k]? = some x := ⟨_, List.getElem?_eq_getElem (by rw [← HX.out.2.2.2.1]; exact hlt)⟩
      obtain ⟨F, r1, r2, r3, r4, r5, r6⟩ := HR.out
      have hMk : M.drop k = (x.nm, x.b) :: M.drop (k + 1) := by
        rw [List.drop_eq_getElem_cons (by rw [HX.out.2.2.2.2.2.1]; exact hlt)]
        congr 1
        have : M[k]? = some (x.nm, x.b) := by rw [HX.out.2.2.2.2.1, List.getElem?_map, hx]; rfl
        rw [List.getElem?_eq_getElem (by rw [HX.out.2.2.2.2.2.1]; exact hlt)] at this
        injection this
      rw [hMk, opensF_cons] at r2
      have hxn := HX.out.2.1 x (List.mem_of_getElem? hx)
      have hxb := HX.out.2.2.1 x (List.mem_of_getElem? hx)
      have hkl : (k : Int) < (n : Int) := by omega
      have hk0 : (0 : Int) ≤ (k : Int) := by omega
      obtain ⟨p, f, rfl, hc⟩ := (HX.out.1 wr r1.sep).1 k x hx
      have c0 : wr.cell? ⟨p, f + k * 2, none⟩ = some (.string ⟨x.nm.toArray⟩) := hc 0 _ rfl
      have c1 : wr.cell? ⟨p, f + k * 2 + 1, none⟩ = some (.slice x.A x.b.length x.c) := hc 1 _ rfl
      obtain ⟨bl, hbl⟩ : ∃ bl, bl = x.b.length := ⟨_, rfl⟩
      rw [← hbl] at c1
      have HF := Lib.hid (And.intro r1 (And.intro r2 (And.intro r3 (And.intro r4 (And.intro r5 (And.intro r6 (And.intro hxn (And.intro hxb (And.intro hx hbl)))))))))
      clear r1 r2 r3 r4 r5 r6 HR hMk hxn hxb hx hc hbl
      go_upto_region 7 with fail
      obtain ⟨W2, hW2⟩ : ∃ W2, W2 = wr.alloc (.cells #[.string ⟨x.nm.toArray⟩, .slice x.A bl x.c] 52) := ⟨_, rfl⟩
      obtain ⟨g7, hg7⟩ : ∃ g, g = wr.heap.size := ⟨_, rfl⟩
      rw [← hW2, ← hg7]
      have H2 := Lib.hid (show FsI B w0 W2 q room (thB g7 52 #[.string ⟨x.nm.toArray⟩, .slice x.A bl x.c] :: ts) (fdF F) from by
        rw [hW2, hg7]
        exact HF.out.1.cons (below_alloc _ _) (Blk.new _ _ _) (fun k e => by
          have e : k = wr.heap.size := e
          omega))
      clear hW2 hg7 c0 c1
      obtain ⟨bm, VW, T, hs2, hi2⟩ := H2.out
      have HS2 := Lib.hid (And.intro hs2 hi2)
      clear hs2 hi2
      obtain ⟨ok, hok⟩ : ∃ ok, ok = okN x.nm := ⟨_, rfl⟩
      have Hok := Lib.hid hok
      obtain ⟨un, hun⟩ : ∃ un, un = usedD (fdF F) := ⟨_, rfl⟩
      have Hun := Lib.hid hun
      have HXN := Lib.hid HF.out.2.2.2.2.2.2.1
      obtain ⟨fo, hfo⟩ : ∃ o : Option Nat, o = findM (nmG T) x.nm := ⟨_, rfl⟩
      have Hfo := Lib.hid hfo
      clear hok hun hfo
      obtain ⟨I, hI⟩ : ∃ I : Rec → World → Prop, ∀ E W, I E W ↔ Below W2.heap.size W2 W := ⟨_, fun _ _ => Iff.rfl⟩
      have hI0 : I (fun _ => none) W2.drew := (hI _ _).2 (Below.refl W2.heap.size W2).drew
      haveI : Nonempty (InvW I) := ⟨⟨_, _, hI0⟩⟩
      have eq : ∀ y : InvW I, y.W.cell? ⟨q, 1, none⟩ = some (.map (some bm)) := fun y => (((hI _ _).1 y.h).cell (cell_lt ((FsS.bx HS2.out.1).cell 1))).trans ((FsS.bx HS2.out.1).cell 1)
      have e0 : ∀ y : InvW I, y.W.cell? ⟨g7, 0, none⟩ = some (.string ⟨x.nm.toArray⟩) := fun y => (H2.out.go ((hI _ _).1 y.h)).get (t := thB g7 52 #[.string ⟨x.nm.toArray⟩, .slice x.A bl x.c]) 0 rfl |>.cell 0
      have e1 : ∀ y : InvW I, y.W.cell? ⟨g7, 1, none⟩ = some (.slice x.A bl x.c) := fun y => (H2.out.go ((hI _ _).1 y.h)).get (t := thB g7 52 #[.string ⟨x.nm.toArray⟩, .slice x.A bl x.c]) 0 rfl |>.cell 1
      have look : ∀ y : InvW I, (Instr.lookup 82 (.map (some bm)) (.string ⟨x.nm.toArray⟩) false).run Try.prog y.W = .ok (ptrV fo) y.W := fun y => by
        rw [Hfo.out]
        exact (FsS.map (Sep.go HS2.out.1 ((hI _ _).1 y.h))).look x.nm HXN.out
      have HI := Lib.hid hI
      clear hI
      by_cases hno : ok = false ∨ fo.isSome = true
      · have HE := Lib.hid (show ∀ W3, Below W2.heap.size W2 W3 → Rp B w0 W3 ts (room : Nat) (.pointer none) D from fun W3 hb => by
          rw [HX.out.2.2.2.2.2.2.1, HF.out.2.1, if_pos (by
            rcases hno with h | h
            · exact .inl (by rw [← Hok.out]; exact h)
            · right
              cases ha : atF F x.nm with
              | some _ => rfl
              | none =>
                rw [Hfo.out, findM_T, HS2.out.2.gone (n := x.nm) ha] at h
                exact h)]
          exact ⟨rfl, (H2.out.go hb).tail.sep⟩)
        cases ok with
        | false =>
          refine wp_region_inv I [] [2, 6, 20] (fun k v => if k = 2 then v = .bool false else if k = 6 then v = .pointer (some ⟨q, 0, none⟩) else v = .int .i64 (un : Nat)) hmx (by kernel_rfl) hI0 ?_
          iterate 2 (refine walkJ_one rfl (by kernel_rfl) ?_; go_big_quiet_step (fail); refine wpQuiet_nil ?_)
          refine walkJ_turn rfl rfl ⟨_, rfl⟩ (fun s W1 hs h7 _ => ?_) ?_
          · have h := (HI.out _ _).1 hs
            refine inv_call (by simp [execOp, go_sem]) ((named_any x.nm W1 HXN.out).mono ?_)
            rintro e w1 ⟨rfl, rfl⟩
            exact ⟨_, by rw [← Hok.out], rfl, (HI.out _ _).2 h⟩
          rintro v rfl
          conv => arg 11; simp [Act.put]
          iterate 2 (refine walkJ_one rfl (by kernel_rfl) ?_; go_big_quiet_step (fail); refine wpQuiet_nil ?_)
          iterate 8 (refine walkJ_off rfl ?_; conv => arg 11; simp [Act.put])
          iterate 2 (refine walkJ_one rfl (by kernel_rfl) ?_; go_big_quiet_step (fail); refine wpQuiet_nil ?_)
          iterate 8 (refine walkJ_off rfl ?_; conv => arg 11; simp [Act.put])
          iterate 1 (refine walkJ_one rfl (by kernel_rfl) ?_; go_big_quiet_step (fail); refine wpQuiet_nil ?_)
          refine walkJ_end ?_
          intro W3 hW3
          have HB3 := Lib.hid ((HI.out _ _).1 hW3)
          clear eq e0 e1 look
          go_wp2_with fail
          go_ret
          exact ⟨_, rfl, Lib.hid (HE.out W3 HB3.out)⟩
        | true =>
          obtain ⟨gg, rfl⟩ : ∃ gg, fo = some gg := by
            rcases hno with h | h
            · cases h
            · exact Option.isSome_iff_exists.1 h
          simp only [ptrV] at look
          refine wp_region_inv I [] [2, 6, 20] (fun k v => if k = 2 then v = .bool true else if k = 6 then v = .pointer (some ⟨q, 0, none⟩) else v = .int .i64 (un : Nat)) hmx (by kernel_rfl) hI0 ?_
          iterate 2 (refine walkJ_one rfl (by kernel_rfl) ?_; go_big_quiet_step (fail); refine wpQuiet_nil ?_)
          refine walkJ_turn rfl rfl ⟨_, rfl⟩ (fun s W1 hs h7 _ => ?_) ?_
          · have h := (HI.out _ _).1 hs
            refine inv_call (by simp [execOp, go_sem]) ((named_any x.nm W1 HXN.out).mono ?_)
            rintro e w1 ⟨rfl, rfl⟩
            exact ⟨_, by rw [← Hok.out], rfl, (HI.out _ _).2 h⟩
          rintro v rfl
          conv => arg 11; simp [Act.put]
          iterate 3 (refine walkJ_one rfl (by kernel_rfl) ?_; go_big_quiet_step (fail); refine wpQuiet_nil ?_)
          refine walkJ_turn rfl rfl ⟨_, rfl⟩ (fun s W1 hs h7 _ => ?_) ?_
          · have h := (HI.out _ _).1 hs
            exact inv_val (W' := W1) (v := .pointer (some ⟨q, 0, none⟩)) (by simp [execOp, go_sem]) ⟨rfl, (HI.out _ _).2 h⟩
          rintro v rfl
          conv => arg 11; simp [Act.put]
          iterate 8 (refine walkJ_one rfl (by kernel_rfl) ?_; go_big_quiet_step (fail); refine wpQuiet_nil ?_)
          iterate 8 (refine walkJ_off rfl ?_; conv => arg 11; simp [Act.put])
          iterate 1 (refine walkJ_one rfl (by kernel_rfl) ?_; go_big_quiet_step (fail); refine wpQuiet_nil ?_)
          refine walkJ_end ?_
          intro W3 hW3
          have HB3 := Lib.hid ((HI.out _ _).1 hW3)
          clear eq e0 e1 look
          go_wp2_with fail
          go_ret
          exact ⟨_, rfl, Lib.hid (HE.out W3 HB3.out)⟩
      · obtain rfl : ok = true := by cases ok with | true => rfl | false => exact absurd (.inl rfl) hno
        obtain rfl : fo = none := by cases fo with | none => rfl | some _ => exact absurd (.inr rfl) hno
        simp only [ptrV] at look
        have hul : un ≤ room := by rw [Hun.out]; exact HF.out.2.2.2.2.2.1
        have hro := HX.out.2.2.2.2.2.2.2
        have hw1 : wrap64 ((room : Int) - (un : Int)) = (room : Int) - (un : Int) := by unfold wrap64; omega
        have hw2 : IntKind.i64.wrap ((room : Int) - (un : Int)) = (room : Int) - (un : Int) := by rw [IntKind.wrap_i64]; omega
        have hat : atF F x.nm = none := by
          cases ha : atF F x.nm with
          | none => rfl
          | some v =>
            obtain ⟨i, t, hi, hf, -, -⟩ := HS2.out.2.there (n := x.nm) ha
            have := Hfo.out
            rw [findM_T, hf] at this
            cases this
        have hop : opensF M [] = opensF (M.drop (k + 1)) (insF (x.nm, x.b) F) := by
          rw [HF.out.2.1, if_neg]
          rintro (h | h)
          · rw [← Hok.out] at h; cases h
          · rw [hat] at h; cases h
        have Hop := Lib.hid (And.intro hat hop)
        clear hno hat hop
        by_cases hbig : (room : Int) - (un : Int) < (bl : Int)
        · have dU : decide ((room : Int) - (un : Int) < (bl : Int)) = true := decide_eq_true hbig
          refine wp_region_inv I [] [2, 6, 20] (fun k v => if k = 2 then v = .bool true else if k = 6 then v = .pointer (some ⟨q, 0, none⟩) else v = .int .i64 (un : Nat)) hmx (by kernel_rfl) hI0 ?_
          iterate 2 (refine walkJ_one rfl (by kernel_rfl) ?_; go_big_quiet_step (fail); refine wpQuiet_nil ?_)
          refine walkJ_turn rfl rfl ⟨_, rfl⟩ (fun s W1 hs h7 _ => ?_) ?_
          · have h := (HI.out _ _).1 hs
            refine inv_call (by simp [execOp, go_sem]) ((named_any x.nm W1 HXN.out).mono ?_)
            rintro e w1 ⟨rfl, rfl⟩
            exact ⟨_, by rw [← Hok.out], rfl, (HI.out _ _).2 h⟩
          rintro v rfl
          conv => arg 11; simp [Act.put]
          iterate 3 (refine walkJ_one rfl (by kernel_rfl) ?_; go_big_quiet_step (fail); refine wpQuiet_nil ?_)
          refine walkJ_turn rfl rfl ⟨_, rfl⟩ (fun s W1 hs h7 _ => ?_) ?_
          · have h := (HI.out _ _).1 hs
            exact inv_val (W' := W1) (v := .pointer (some ⟨q, 0, none⟩)) (by simp [execOp, go_sem]) ⟨rfl, (HI.out _ _).2 h⟩
          rintro v rfl
          conv => arg 11; simp [Act.put]
          iterate 8 (refine walkJ_one rfl (by kernel_rfl) ?_; go_big_quiet_step (fail); refine wpQuiet_nil ?_)
          iterate 5 (refine walkJ_one rfl (by kernel_rfl) ?_; go_big_quiet_step (fail); refine wpQuiet_nil ?_)
          refine walkJ_turn rfl rfl ⟨_, rfl⟩ (fun s W1 hs h7 _ => ?_) ?_
          · have h := (HI.out _ _).1 hs
            refine inv_call (by simp [execOp, go_sem]) ((used_any (H2.out.go h)).mono ?_)
            rintro e w1 ⟨rfl, h9⟩
            exact ⟨_, by rw [← Hun.out], rfl, (HI.out _ _).2 (on1 h h9)⟩
          rintro v rfl
          conv => arg 11; simp [Act.put]
          iterate 3 (refine walkJ_one rfl (by kernel_rfl) ?_; go_big_quiet_step (fail); refine wpQuiet_nil ?_)
          refine walkJ_end ?_
          intro W3 hW3
          have HB3 := Lib.hid ((HI.out _ _).1 hW3)
          have HE := Lib.hid (show Rp B w0 W3 ts (room : Nat) (.pointer none) D from by
            have hD := HX.out.2.2.2.2.2.2.1
            rw [Hop.out.2] at hD
            have hle := fun F' => opensF_used (M.drop (k + 1)) (insF (x.nm, x.b) F) F'
            rw [used_ins, ← Hun.out] at hle
            have hbl := HF.out.2.2.2.2.2.2.2.2.2
            have hle2 : ∀ F', opensF (M.drop (k + 1)) (insF (x.nm, x.b) F) = some F' → un + bl ≤ usedD (fdF F') := fun F' h => by rw [hbl]; exact hle F' h
            cases ho : opensF (M.drop (k + 1)) (insF (x.nm, x.b) F) with
            | none => rw [ho] at hD; rw [hD]; exact ⟨rfl, (H2.out.go HB3.out).tail.sep⟩
            | some F' =>
              rw [ho] at hD
              have h9 := hle2 F' ho
              dsimp only at hD
              rw [if_pos (by omega)] at hD
              rw [hD]
              exact ⟨rfl, (H2.out.go HB3.out).tail.sep⟩)
          clear eq e0 e1 look dU hw1 hw2
          go_wp2_with fail
          go_ret
          exact ⟨_, rfl, HE⟩
        · have dU : decide ((room : Int) - (un : Int) < (bl : Int)) = false := decide_eq_false hbig
          refine wp_region_inv I [] [2, 6, 20] (fun k v => if k = 2 then v = .bool true else if k = 6 then v = .pointer (some ⟨q, 0, none⟩) else v = .int .i64 (un : Nat)) hmx (by kernel_rfl) hI0 ?_
          iterate 2 (refine walkJ_one rfl (by kernel_rfl) ?_; go_big_quiet_step (fail); refine wpQuiet_nil ?_)
          refine walkJ_turn rfl rfl ⟨_, rfl⟩ (fun s W1 hs h7 _ => ?_) ?_
          · have h := (HI.out _ _).1 hs
            refine inv_call (by simp [execOp, go_sem]) ((named_any x.nm W1 HXN.out).mono ?_)
            rintro e w1 ⟨rfl, rfl⟩
            exact ⟨_, by rw [← Hok.out], rfl, (HI.out _ _).2 h⟩
          rintro v rfl
          conv => arg 11; simp [Act.put]
          iterate 3 (refine walkJ_one rfl (by kernel_rfl) ?_; go_big_quiet_step (fail); refine wpQuiet_nil ?_)
          refine walkJ_turn rfl rfl ⟨_, rfl⟩ (fun s W1 hs h7 _ => ?_) ?_
          · have h := (HI.out _ _).1 hs
            exact inv_val (W' := W1) (v := .pointer (some ⟨q, 0, none⟩)) (by simp [execOp, go_sem]) ⟨rfl, (HI.out _ _).2 h⟩
          rintro v rfl
          conv => arg 11; simp [Act.put]
          iterate 8 (refine walkJ_one rfl (by kernel_rfl) ?_; go_big_quiet_step (fail); refine wpQuiet_nil ?_)
          iterate 5 (refine walkJ_one rfl (by kernel_rfl) ?_; go_big_quiet_step (fail); refine wpQuiet_nil ?_)
          refine walkJ_turn rfl rfl ⟨_, rfl⟩ (fun s W1 hs h7 _ => ?_) ?_
          · have h := (HI.out _ _).1 hs
            refine inv_call (by simp [execOp, go_sem]) ((used_any (H2.out.go h)).mono ?_)
            rintro e w1 ⟨rfl, h9⟩
            exact ⟨_, by rw [← Hun.out], rfl, (HI.out _ _).2 (on1 h h9)⟩
          rintro v rfl
          conv => arg 11; simp [Act.put]
          iterate 3 (refine walkJ_one rfl (by kernel_rfl) ?_; go_big_quiet_step (fail); refine wpQuiet_nil ?_)
          refine walkJ_end ?_
          intro W3 hW3
          have HB3 := Lib.hid ((HI.out _ _).1 hW3)
          have hxm := HF.out.2.2.2.2.2.2.2.2.1
          have S3 : FsS B w0 W3 q room (thB g7 52 #[.string ⟨x.nm.toArray⟩, .slice x.A bl x.c] :: ts) (fdF F) bm VW T := Sep.go HS2.out.1 HB3.out
          have B7 : Blk W3 g7 52 #[.string ⟨x.nm.toArray⟩, .slice x.A bl x.c] := (H2.out.go HB3.out).get (t := thB g7 52 #[.string ⟨x.nm.toArray⟩, .slice x.A bl x.c]) 0 rfl
          have hI3 := (H2.out.go HB3.out).tail.sep
          have HCl := Lib.hid (fun y => clone_F (OwnF.of ((HX.out.1 (plus W3 y) (hI3.go (plus_below W3 y))).2 x (List.mem_of_getElem? hxm))) (by have := HF.out.2.2.2.2.2.2.2.1; omega))
          rw [← HF.out.2.2.2.2.2.2.2.2.2] at HCl
          have HS3 := Lib.hid (And.intro S3 B7)
          have hbl3 : bl ≤ 300 := by rw [HF.out.2.2.2.2.2.2.2.2.2]; exact HF.out.2.2.2.2.2.2.2.1
          clear eq e0 e1 look dU hw1 hw2 hI0 this S3 B7 hI3 hxm
          have eq : ∀ y : More, (plus W3 y).cell? ⟨q, 1, none⟩ = some (.map (some bm)) := fun y => ((plus_below W3 y).cell (cell_lt ((FsS.bx HS3.out.1).cell 1))).trans ((FsS.bx HS3.out.1).cell 1)
          have e0 : ∀ y : More, (plus W3 y).cell? ⟨g7, 0, none⟩ = some (.string ⟨x.nm.toArray⟩) := fun y => ((plus_below W3 y).cell (cell_lt (HS3.out.2.cell 0))).trans (HS3.out.2.cell 0)
          have e1 : ∀ y : More, (plus W3 y).cell? ⟨g7, 1, none⟩ = some (.slice x.A bl x.c) := fun y => ((plus_below W3 y).cell (cell_lt (HS3.out.2.cell 1))).trans (HS3.out.2.cell 1)
          have hpl := plus_cell W3
          go_upto_region 9 with fail
          refine wp_region_fresh_tail 14 [none, none, none, none, none, none, none, none, none, none, none, none, none, some 8] [1, 8, 13] (fun k V z => if k = 1 then V = .pointer (some ⟨q, 0, none⟩) else if k = 8 then ∃ A1 c1, V = .slice A1 bl c1 ∧ OwnB z W3.heap.size (.slice A1 bl c1) x.b else ∃ g A1 c1, V = .pointer (some ⟨g, 0, none⟩) ∧ Blk z g 89 #[.slice A1 bl c1, .int .i64 (bl : Nat)] ∧ OwnB z W3.heap.size (.slice A1 bl c1) x.b ∧ W3.heap.size ≤ g ∧ ∀ k, (Value.slice A1 bl c1).ownBlock = some k → k ≠ g) hmx (by kernel_rfl) (by kernel_rfl) ?_
          simp only [List.take_succ_cons, List.take_zero, List.drop_succ_cons, List.drop_zero]
          refine walkF_one none W3 rfl (by kernel_rfl) ?_; go_big_quiet_step (fail); refine wpQuiet_nil ?_
          refine walkF_make none W3 rfl rfl rfl (by kernel_rfl) (fun y => ?_) ?_
          · refine grow_val (v := .pointer (some ⟨q, 0, none⟩)) (w' := plus W3 y) ?_ (Below.refl _ _) ?_
            · simp [execOp, go_sem]
            · exact rfl
          intro V1 z1 hV1 g1
          obtain rfl : V1 = .pointer (some ⟨q, 0, none⟩) := hV1
          conv => arg 11; simp [Act.put]
          iterate 6 (refine walkF_one none W3 rfl (by kernel_rfl) ?_; go_big_quiet_step (fail); refine wpQuiet_nil ?_)
          refine walkF_make none W3 rfl rfl rfl (by kernel_rfl) (fun y => ?_) ?_
          · refine grow_call ?_ ((HCl.out y).mono ?_)
            · simp [execOp, go_sem]
            · rintro e w4 ⟨A4, c4, rfl, h4⟩
              exact ⟨_, rfl, h4.out.2, A4, c4, rfl, h4.out.1.mono (plus_below W3 y).size⟩
          intro V8 z8 hV8 g8
          obtain ⟨A1, c1, rfl, o8⟩ : ∃ A1 c1, V8 = .slice A1 bl c1 ∧ OwnB z8 W3.heap.size (.slice A1 bl c1) x.b := hV8
          conv => arg 11; simp [Act.put]
          iterate 4 (refine walkF_one none W3 rfl (by kernel_rfl) ?_; go_big_quiet_step (fail); refine wpQuiet_nil ?_)
          refine walkF_make (some 8) z8 rfl rfl rfl (by kernel_rfl) (fun y => ?_) ?_
          · refine grow_val (v := .pointer (some ⟨(plus z8 y).heap.size, 0, none⟩)) (w' := (plus z8 y).alloc (.cells #[.slice A1 bl c1, .int .i64 (bl : Nat)] 89)) ?_ (below_alloc _ _) ?_
            · simp [execOp, go_sem]
            · have o9 := o8.below (plus_below z8 y)
              exact ⟨_, A1, c1, rfl, Blk.new _ _ _, o9.below (below_alloc _ _), Nat.le_trans (Below.size g8) (plus_below z8 y).size, fun k e he => by
                have := (World.ownsRow.lt o9 k e).2
                omega⟩
          intro V13 z13 hV13 g13
          obtain ⟨g, A5, c5, rfl, bG, oG, hgw, hne⟩ : ∃ g A1 c1, V13 = .pointer (some ⟨g, 0, none⟩) ∧ Blk z13 g 89 #[.slice A1 bl c1, .int .i64 (bl : Nat)] ∧ OwnB z13 W3.heap.size (.slice A1 bl c1) x.b ∧ W3.heap.size ≤ g ∧ ∀ k, (Value.slice A1 bl c1).ownBlock = some k → k ≠ g := hV13
          conv => arg 11; simp [Act.put]
          refine walkF_end ?_
          intro w4 h0 hE
          have k13 : Below z13.heap.size z13 w4 := hE 13
          have hMp4 : Mp w4 bm (nmG T) := FsS.map (Sep.go HS3.out.1 h0)
          have hTl : (nmG T).length < maxLen := by
            have := HS2.out.2.fl
            rw [nmG_len]
            unfold maxLen
            omega
          have HG := Lib.hid (And.intro h0 (And.intro (Blk.below bG k13 bG.lt) (And.intro (oG.below k13) (And.intro hgw hne))))
          clear hE k13 bG oG hgw hne h0 g13 g8 g1 eq e0 e1 hpl o8
          go_wp2_with (at_mapUpdate; go_must (refine step_putM _ rfl _ _ _ rfl bm (nmG T) rfl hMp4 hTl x.nm HXN.out rfl g rfl (putM x.nm g T) (putM_find x.nm g T) (putM_len HS2.out.2.names) ?_); intro w5 hMp5 hg5)
          have h5 : FsI B w0 w5 q room (thB g7 52 #[.string ⟨x.nm.toArray⟩, .slice x.A bl x.c] :: ts) (fdF (insF (x.nm, x.b) F)) := by
            obtain ⟨b1, b2, b3, b4, b5⟩ := HG.out
            rw [HF.out.2.2.2.2.2.2.2.2.2] at b2 b3 b5
            exact FsI.createdB (show FsS B w0 W3 q room _ (fdF F) bm VW T from HS3.out.1) HS2.out.2 b1 b2 (b3.mono (Nat.zero_le _)) b4 (fun k e => ⟨(World.ownsRow.lt b3 k e).1, b5 k e⟩) hMp5 hg5 Hop.out.1 Hok.out.symm (by have := HF.out.2.2.2.1; omega) (by have := HF.out.2.2.2.2.1; have := HF.out.2.2.2.2.2.2.2.1; omega)
          have H5 := Lib.hid h5.tail
          clear h5 hMp5 hg5 hMp4
          go_roundw
          case measure => simp [intOf]; omega
          case rel =>
            obtain ⟨r1, r2, r3, r4, r5, r6, -, hxb, -, hbl⟩ := HF.out
            refine ⟨k + 1, by omega, by go_num, Lib.hid ⟨_, H5.out, Hop.out.2, df_ins r3 Hok.out.symm (by rw [Hop.out.1]; rfl) (by omega), by rw [len_ins, r4], by rw [used_ins]; show _ + x.b.length ≤ _; omega, by rw [used_ins]; show _ + x.b.length ≤ _; have := Hun.out; omega⟩⟩
    · obtain rfl : k = n := by omega
      have hkk : ¬ ((k : Int) < (k : Int)) := by omega
      obtain ⟨F, r1, r2, r3, r4, r5, r6⟩ := HR.out
      rw [List.drop_of_length_le (by rw [HX.out.2.2.2.2.2.1]; omega), opensF_nil] at r2
      have HE := Lib.hid (show Rp B w0 wr ts (room : Nat) (.pointer (some ⟨q, 0, none⟩)) D from by
        have hDD := HX.out.2.2.2.2.2.2.1
        rw [r2] at hDD
        dsimp only at hDD
        rw [if_neg (by omega)] at hDD
        rw [hDD]
        exact ⟨q, room, rfl, rfl, r1⟩)
      clear r1 r2 r3 r4 r5 r6 HR
      go_wp2_with fail
      go_ret
      exact ⟨_, rfl, HE⟩

end Go.Proofs.Ytiogckgchlnldaa

/- Layer 8: both Opens; what stands behind them. -/
set_option linter.unusedSimpArgs false
set_option linter.unusedVariables false
namespace Go.Proofs.Ytiogckgchlnldaa
open Go.RowKit
set_option maxRecDepth 100000

theorem openD_bad {room : Int} {M : List (Nm × List UInt8)} (h : room < 0 ∨ 1048576 < room ∨ 8 < M.length) : openD room M = none := by
  unfold openD
  rw [if_pos h]
theorem popen_any {B : Nat} {w0 w : World} {ts : List Kt} (room : Int) (A : Option Addr) (c : Nat) (L : List Fe) (h : Sep B w0 w ts) (hE : ∀ W, Sep B w0 W ts → Rw W encE 2 A L ∧ ∀ x ∈ L, OwnB W 0 (vaE x) x.b) (hn : ∀ x ∈ L, x.nm.length ≤ maxLen) (hb : ∀ x ∈ L, x.b.length ≤ 300) :
    Calls Try.prog 27 #[.int .i64 room, .slice A L.length c] w fun e w' => ∃ v, e = .returned v ∧ Hid (Rp B w0 w' ts room v (openD room (L.map nbE))) := by
  by_cases hbad : room < 0 ∨ 1048576 < room ∨ 8 < L.length
  · rw [openD_bad (by rw [List.length_map]; exact hbad)]
    refine (popen_bad room A L.length c w hbad).mono ?_
    rintro e w' ⟨rfl, rfl⟩
    exact ⟨_, rfl, Lib.hid ⟨rfl, h⟩⟩
  · obtain ⟨rm, rfl⟩ := Int.eq_ofNat_of_zero_le (show 0 ≤ room by omega)
    exact popen_main rm (by omega) A c L h hE (by omega) hn hb
theorem ropen_any {B : Nat} {w0 w : World} {ts : List Kt} (room : Int) (A : Option Addr) (c : Nat) (L : List Fe) (h : Sep B w0 w ts) (hE : ∀ W, Sep B w0 W ts → Es W A L) (hn : ∀ x ∈ L, x.nm.length ≤ maxLen) (hb : ∀ x ∈ L, x.b.length ≤ 300) :
    Calls Try.prog 28 #[.int .i64 room, .slice A L.length c] w fun e w' => ∃ v, e = .returned v ∧ Hid (Rr B w0 w' ts room v (openD room (L.map nbE))) := by
  by_cases hbad : room < 0 ∨ 1048576 < room
  · rw [openD_bad (hbad.elim .inl (fun h => .inr (.inl h)))]
    refine (ropen_bad room _ h hbad).mono ?_
    rintro e w' ⟨rfl, h1⟩
    exact ⟨_, rfl, Lib.hid ⟨rfl, h1⟩⟩
  · obtain ⟨rm, rfl⟩ := Int.eq_ofNat_of_zero_le (show 0 ≤ room by omega)
    by_cases h8 : 8 < L.length
    · rw [openD_bad (.inr (.inr (by rw [List.length_map]; exact h8)))]
      refine (ropen_many rm (by omega) A L.length c h8 h).mono ?_
      rintro e w' ⟨rfl, h1⟩
      exact ⟨_, rfl, Lib.hid ⟨rfl, h1⟩⟩
    · exact ropen_main rm (by omega) A c L h hE (by omega) hn hb

/-- what both answer -/
def Po (B : Nat) (w0 w : World) (ts : List Kt) (vs vr : Value) : Option Fd → Prop
  | none => vs = .pointer none ∧ vr = .pointer none ∧ Sep B w0 w ts
  | some d => ∃ (qs qr rm : Nat), vs = .pointer (some ⟨qs, 0, none⟩) ∧ vr = .pointer (some ⟨qr, 0, none⟩) ∧ Bd B w0 w qs qr rm ts d d
section
variable {B : Nat} {w0 w w' : World} {ts : List Kt} {t t' : Kt} {vs vr : Value} {D : Option Fd}
theorem Bd.sep {qs qr room : Nat} {da db : Fd} (h : Bd B w0 w qs qr room ts da db) : Sep B w0 w ts := by
  obtain ⟨VF, VP, LF, LP, lv, hs, h1⟩ := h
  exact Sep.sub hs.sep (List.sublist_append_right _ _)
theorem Po.sep (h : Po B w0 w ts vs vr D) : Sep B w0 w ts := by
  cases D with
  | none => exact h.2.2
  | some d =>
    obtain ⟨qs, qr, rm, h1, h2, h3⟩ := h
    exact h3.sep
theorem Po.go (h : Po B w0 w ts vs vr D) (b : Below w.heap.size w w') : Po B w0 w' ts vs vr D := by
  cases D with
  | none => exact ⟨h.1, h.2.1, h.2.2.go b⟩
  | some d =>
    obtain ⟨qs, qr, rm, h1, h2, h3⟩ := h
    exact ⟨qs, qr, rm, h1, h2, h3.go b⟩
theorem Po.turn (h : Po B w0 w ts vs vr D) (i : Nat) (e : ts[i]? = some t) (hT : Tou t.F w w') (hP : t'.P w') (hN : ∀ k, t'.F k → t.F k ∨ w.heap.size ≤ k) : Po B w0 w' (ts.set i t') vs vr D := by
  cases D with
  | none => exact ⟨h.1, h.2.1, h.2.2.call i e hT hP hN⟩
  | some d =>
    obtain ⟨qs, qr, rm, h1, h2, h3⟩ := h
    exact ⟨qs, qr, rm, h1, h2, h3.turn i e hT hP hN⟩
/-- the document's Open behind the program's -/
theorem popen_then (room : Int) (A : Option Addr) (c : Nat) (L : List Fe) (h : Rp B w0 w ts room vs D) (hE : ∀ W ts', (∀ t ∈ ts, t ∈ ts') → Sep B w0 W ts' → Es W A L) (hn : ∀ x ∈ L, x.nm.length ≤ maxLen) (hb : ∀ x ∈ L, x.b.length ≤ 300) (hD : D = openD room (L.map nbE)) :
    Calls Try.prog 28 #[.int .i64 room, .slice A L.length c] w fun e w' => ∃ v, e = .returned v ∧ Hid (Po B w0 w' ts vs v D) := by
  cases D with
  | none =>
    refine (ropen_any room A c L h.2 (fun W hs => hE W ts (fun t h => h) hs) hn hb).mono ?_
    rintro e w' ⟨v, rfl, h1⟩
    have h1 := h1.out
    rw [← hD] at h1
    exact ⟨v, rfl, Lib.hid ⟨h.1, h1.1, h1.2⟩⟩
  | some d =>
    obtain ⟨q, rm, e1, e2, bm, VW, T, hs, hi⟩ := h
    have hs : Sep B w0 w (Xs q rm bm VW T d ++ ts) := hs
    refine (ropen_any room A c L hs (fun W hs => hE W _ (fun t h => List.mem_append_right _ h) hs) hn hb).mono ?_
    rintro e w' ⟨v, rfl, h1⟩
    have h1 := h1.out
    rw [← hD] at h1
    obtain ⟨q2, rm2, e3, e4, VF, VP, LF, LP, lv, hS, hr⟩ := h1
    obtain rfl : rm2 = rm := by omega
    exact ⟨v, rfl, Lib.hid ⟨q, q2, rm2, e1, e3, VF, VP, LF, LP, lv, ⟨bm, VW, T, (ys_of hS).perm (List.perm_append_comm_assoc _ _ _), hi⟩, hr⟩⟩
end
theorem set_same {α : Type} {l : List α} {i : Nat} {a : α} (h : l[i]? = some a) : l.set i a = l := by
  apply List.ext_getElem?
  intro j
  rw [List.getElem?_set]
  split
  · rename_i e
    subst e
    rw [h]
    have := (List.getElem?_eq_some_iff.1 h).1
    simp [this]
  · rfl
/-- the same slices, other bytes -/
def Sh (L L' : List Fe) : Prop := L'.map vaE = L.map vaE
theorem Sh.get {L L' : List Fe} (h : Sh L L') {i : Nat} {x : Fe} (hx : L[i]? = some x) : ∃ y, L'[i]? = some y ∧ vaE y = vaE x := by
  have h1 := congrArg (fun l => l[i]?) h
  simp only [List.getElem?_map, hx, Option.map_some] at h1
  obtain ⟨y, hy, e⟩ := Option.map_eq_some_iff.1 h1
  exact ⟨y, hy, e⟩
theorem Sh.set {L L' : List Fe} (h : Sh L L') {i : Nat} {y : Fe} (hy : L'[i]? = some y) (b : List UInt8) (hb : b.length = y.b.length) : Sh L (L'.set i { y with b := b }) := by
  unfold Sh at h ⊢
  rw [List.map_set, ← h]
  refine set_same ?_
  rw [List.getElem?_map, hy]
  show some (vaE y) = some (vaE _)
  unfold vaE
  rw [hb]
abbrev thRa (V : Value) (L : List Fe) : Kt := thR 52 encE 2 V L
def nbO (o : Op8) : Nm × List UInt8 := (o.nm, o.b)
def feO (o : Op8) : Fe := ⟨o.nm, o.b, o.A, o.c⟩
theorem feO_nb (l : List Op8) : (l.map feO).map nbE = l.map nbO := by rw [List.map_map]; rfl

end Go.Proofs.Ytiogckgchlnldaa

/- Layer 8: walk of FsOpens. -/
set_option linter.unusedSimpArgs false
set_option linter.unusedVariables false
namespace Go.Proofs.Ytiogckgchlnldaa
open Go.RowKit
set_option maxRecDepth 100000

theorem perm_in (t a b : Kt) (M : List Kt) : (t :: a :: b :: M).Perm (a :: b :: (M ++ [t])) :=
  (List.Perm.swap a t _).trans (((List.Perm.swap b t _).trans ((List.perm_append_singleton t M).symm.cons b)).cons a)
theorem rw_ofR {w : World} {A : Option Addr} {n c : Nat} {L : List Fe} {t e : TypeId} {by_ : Nat} (E : Elt Try.prog t e encE 2 by_) (h : OwnR w 0 e encE 2 (.slice A n c) L) : Rw w encE 2 A L := by
  obtain ⟨A', c', hv, -, hr⟩ := OwnR.row E h
  injection hv with e1 _ _
  subst e1
  exact hr
/-- what the loop has built -/
def Bo2 (w wr : World) (l : List Op8) (k : Nat) (VA VB : Value) : Prop := ∃ LA, Sep w.heap.size w wr (thRa VA LA :: thRF VB ((l.take k).map feO) :: LA.map thb) ∧ LA.map nbE = (l.take k).map nbO

set_option maxHeartbeats 4000000 in
theorem fsOpens_known (room : Int) (V : Option Addr) (cv : Nat) (l : List Op8) (w : World) (hV : Rw w encOp8 7 V l) (hl : l.length ≤ maxLen) (hh : heavyL l = true) :
    Calls Try.prog 5 #[.int .i64 room, .slice V l.length cv] w fun e w' => e = .returned (.bool true) ∧ Below w.heap.size w w' := by
  have HK := Lib.hid (fun w => fknown8_any w)
  have HH := Lib.hid (heavy8_any V cv l w hV hl)
  obtain ⟨n, hn⟩ : ∃ n, n = l.length := ⟨_, rfl⟩
  rw [← hn] at HH ⊢
  rw [hh] at HH
  clear hV hl hn hh
  go_enter Try.func5, Try.ntmps5
  go_wp2_with fail
  refine HH.out.mono ?_
  rintro e w1 ⟨rfl, h1⟩
  have H1 := Lib.hid h1
  clear h1 HH
  go_wp2_with fail
  refine (HK.out w1).mono ?_
  rintro e w2 ⟨rfl, h2⟩
  have H2 := Lib.hid h2
  clear h2 HK
  go_wp2_with fail
  go_ret
  exact ⟨rfl, on1 H1.out H2.out⟩

end Go.Proofs.Ytiogckgchlnldaa

/- Layer 8: walk of FsOpens: few calls. -/
set_option linter.unusedSimpArgs false
set_option linter.unusedVariables false
namespace Go.Proofs.Ytiogckgchlnldaa
open Go.RowKit
set_option maxRecDepth 100000

set_option maxHeartbeats 16000000 in
theorem fsOpens_s (room : Int) (V : Option Addr) (cv : Nat) (l : List Op8) (w : World) (hV : Rw w encOp8 7 V l) (hl : l.length ≤ maxLen) (ho : ∀ o ∈ l, o.ok w) (hh : heavyL l = false) (hm : l.length ≤ 12) :
    Calls Try.prog 5 #[.int .i64 room, .slice V l.length cv] w fun e w' => e = .returned (.bool true) ∧ Below w.heap.size w w' := by
  have HK := Lib.hid (fun w => fknown8_any w)
  have HH := Lib.hid (heavy8_any V cv l w hV hl)
  obtain ⟨n, hn⟩ : ∃ n, n = l.length := ⟨_, rfl⟩
  rw [← hn] at HH hm ⊢
  rw [hh] at HH
  obtain ⟨hn50, hbg⟩ := heavyL_no hh
  have HI := Lib.hid (And.intro hV (And.intro hn (And.intro hn50 (And.intro hbg ho))))
  clear hV hl ho hn hh hn50 hbg
  go_enter Try.func5, Try.ntmps5
  go_wp2_with fail
  refine HH.out.mono ?_
  rintro e w1 ⟨rfl, h1⟩
  have H1 := Lib.hid h1
  clear h1 HH
  go_wp2_with fail
  refine (HK.out w1).mono ?_
  rintro e w2 ⟨rfl, h2⟩
  have H2 := Lib.hid (on1 H1.out h2)
  have S2 : Sep w.heap.size w w2 [] := Sep.nil H2.out H2.out.size
  have hno : ∀ k, (Value.slice none 0 0).ownBlock = some k → w2.heap.size ≤ k := fun k e => by simp [Value.ownBlock] at e
  have s1 := S2.cons (t := thRF (.slice none 0 0) []) (Below.refl _ _) (OwnR.nil _ _ _ _ _) hno
  have s2 := s1.cons (t := thRa (.slice none 0 0) []) (Below.refl _ _) (OwnR.nil _ _ _ _ _) hno
  have H3 := Lib.hid (show Bo2 w w2 l 0 (.slice none 0 0) (.slice none 0 0) from ⟨[], s2, rfl⟩)
  clear h2 HK H1 S2 s1 s2 hno
  go_wp2_with fail
  go_loopw [5, 6, 7] (fun s5 s6 s7 wr => ∃ (k : Nat) (A1 B1 : Option Addr) (c1 c2 : Nat), k ≤ n ∧ s5 = .slice A1 k c1 ∧ s6 = .slice B1 k c2 ∧ s7 = .int .i64 k ∧ Hid (Bo2 w wr l k (.slice A1 k c1) (.slice B1 k c2))) (fun _ _ s _ => n - (intOf s).toNat)
  case atStart => exact ⟨0, none, none, 0, 0, Nat.zero_le _, rfl, rfl, rfl, H3⟩
  case round =>
    obtain ⟨k, A1, B1, c1, c2, hkn, rfl, rfl, rfl, HR⟩ := hrel
    clear H3
    by_cases hlt : k < n
    · have hkn2 : k < n := by omega
      obtain ⟨o, hx⟩ : ∃ x, l[k]? = some x := ⟨_, List.getElem?_eq_getElem (by rw [← HI.out.2.1]; exact hkn2)⟩
      obtain ⟨LA, S, hLA⟩ := HR.out
      obtain ⟨p, f, rfl, hc⟩ := HI.out.1 k o hx
      have hom := List.mem_of_getElem? hx
      obtain ⟨g1, g2, g3, g4⟩ := bigO_no (HI.out.2.2.2.1 o hom)
      obtain ⟨ok1, ok2, ok3, ok4, ok5, -⟩ := HI.out.2.2.2.2 o hom
      have hkl : (k : Int) < (n : Int) := by omega
      have hk12 : (k : Int) < 12 := by omega
      have hk0 : (0 : Int) ≤ (k : Int) := by omega
      have e1 : wr.cell? ⟨p, f + k * 7 + 1, none⟩ = some (.string ⟨o.nm.toArray⟩) := S.old (Nat.le_refl _) (hc 1 _ rfl)
      have e3 : wr.cell? ⟨p, f + k * 7 + 3, none⟩ = some (.slice o.A o.b.length o.c) := S.old (Nat.le_refl _) (hc 3 _ rfl)
      have HB := Lib.hid (S.bs (Nat.le_refl _) ok4)
      have hLl : LA.length = k := by
        have h9 := congrArg List.length hLA
        rw [List.length_map, List.length_map, List.length_take, ← HI.out.2.1] at h9
        omega
      have hTk : l.take (k + 1) = l.take k ++ [o] := by rw [List.take_add_one, hx]; rfl
      have hkm2 : ((l.take k).map feO).length = k := by rw [List.length_map, List.length_take, ← HI.out.2.1]; omega
      have HS := Lib.hid (And.intro S (And.intro hLA (And.intro hLl (And.intro hTk (And.intro hkm2 (And.intro g1 hc))))))
      clear S hLA hLl hTk hkm2 HR hx hc hom g1 g2 g3 g4 ok1 ok2 ok3 ok4 ok5 H2
      go_upto_region 10 with (at_builtin; go_must (refine appAllL _ rfl (.tmp 30) (.tmp 35) rfl wr.heap.size (.slice none 0 0) [] rfl (OwnB.nil _ _) o.A o.c o.b rfl HB.out (by simp; have := HS.out.2.2.2.2.2.1; omega) (Nat.le_refl _) ?_); intro A4 c4 w4 hown4 hg4 hl4)
      have b4 := below_none hg4
      simp only [List.length_nil, Nat.zero_add, List.nil_append] at hown4 ⊢
      have S4 := HS.out.1.cons (t := thb ⟨o.nm, o.b, A4, c4⟩) b4 (hown4.mono (Nat.zero_le _)) (fun k e => (World.ownsRow.lt hown4 k e).1)
      have e1 : w4.cell? ⟨p, f + k * 7 + 1, none⟩ = some (.string ⟨o.nm.toArray⟩) := S4.old (Nat.le_refl _) (HS.out.2.2.2.2.2.2 1 _ rfl)
      have S5 := S4.go (below_alloc w4 (.cells #[.string ⟨o.nm.toArray⟩, .slice A4 o.b.length c4] 52))
      have HRa := Lib.hid (show OwnR (w4.alloc (.cells #[.string ⟨o.nm.toArray⟩, .slice A4 o.b.length c4] 52)) 0 52 encE 2 (.slice A1 k c1) LA from S5.at_ (t := thRa (.slice A1 k c1) LA) 1 rfl)
      have HS5 := Lib.hid S5
      have h5n : LA.length + 1 ≤ maxLen := by rw [HS.out.2.2.1]; unfold maxLen; omega
      have h6n : (LA.length + 1) * 40 ≤ 140737488355328 := by rw [HS.out.2.2.1]; omega
      clear S4 S5 b4 hown4 hg4 hl4 HB e3
      go_upto_region 11 with (at_builtin; go_must (refine appR1L Try.eltE _ rfl (.tmp 37) (.tmp 45) rfl 0 (.slice A1 k c1) LA rfl HRa.out w4.heap.size 1 ⟨o.nm, o.b, A4, c4⟩ _ _ rfl (Blk.new w4 _ _) rfl h5n h6n (Nat.zero_le _) ?_); intro g6 c6 w6 hown6 hgr6 hor6 hlt6)
      rw [HS.out.2.2.1] at hown6 ⊢
      have S6 := HS5.out.call (t' := thRa (.slice (some ⟨g6, 0, none⟩) (k + 1) c6) (LA ++ [(⟨o.nm, o.b, A4, c4⟩ : Fe)])) 1 rfl (Tou.of_grown hgr6 (fun j e => e)) hown6 (fun j e => by
        have e2 : g6 = j := by
          have e : (Value.slice (some ⟨g6, 0, none⟩) (k + 1) c6).ownBlock = some j := e
          simpa [Value.ownBlock] using e
        subst e2
        rcases hor6 with h9 | h9
        · exact .inl h9
        · exact .inr (Nat.le_of_eq h9.symm))
      have e1 : w6.cell? ⟨p, f + k * 7 + 1, none⟩ = some (.string ⟨o.nm.toArray⟩) := S6.old (Nat.le_refl _) (HS.out.2.2.2.2.2.2 1 _ rfl)
      have e3 : w6.cell? ⟨p, f + k * 7 + 3, none⟩ = some (.slice o.A o.b.length o.c) := S6.old (Nat.le_refl _) (HS.out.2.2.2.2.2.2 3 _ rfl)
      have hbd : Below w6.heap.size w6 (w6.alloc (.cells #[.string ⟨o.nm.toArray⟩, .slice o.A o.b.length o.c] 53)) := below_alloc _ _
      have S7 := S6.go hbd
      have HRb := Lib.hid (show OwnR (w6.alloc (.cells #[.string ⟨o.nm.toArray⟩, .slice o.A o.b.length o.c] 53)) 0 53 encE 2 (.slice B1 k c2) ((l.take k).map feO) from S7.at_ (t := thRF (.slice B1 k c2) ((l.take k).map feO)) 2 rfl)
      have HS6 := Lib.hid S6
      obtain ⟨LB, hLB⟩ : ∃ LB, LB = (l.take k).map feO := ⟨_, rfl⟩
      have HLB := Lib.hid (And.intro hLB (show LB.length = k by rw [hLB]; exact HS.out.2.2.2.2.1))
      rw [← hLB] at HRb HS6
      have h5n : LB.length + 1 ≤ maxLen := by rw [HLB.out.2]; unfold maxLen; omega
      have h6n : (LB.length + 1) * 40 ≤ 140737488355328 := by rw [HLB.out.2]; omega
      have kA := fun W => keepA W
      clear S6 S7 hown6 hgr6 hor6 hlt6 HRa HS5 hLB hbd
      go_region_law (refine step_appR1L Try.eltE2 _ rfl (.tmp 47) (.tmp 59) rfl 0 (.slice B1 k c2) LB (by simp [Act.eval, Act.put]) HRb.out w6.heap.size 1 ⟨o.nm, o.b, o.A, o.c⟩ 53 #[.string ⟨o.nm.toArray⟩, .slice o.A o.b.length o.c] (by simp [Act.eval, Act.put]) (Blk.new w6 _ _) rfl h5n h6n (Nat.zero_le _) (w6.heap.size + 1) (by simp) ?_; intro g8 c8 w8 hown8 hgr8 hor8 hlt8)
      all_goals
        clear kA e1 e3
        rw [HLB.out.2] at hown8 ⊢
        have S7 := (HS6.out.go (below_alloc w6 (.cells #[.string ⟨o.nm.toArray⟩, .slice o.A o.b.length o.c] 53))).go (Below.refl _ _).drew
        have S8 := S7.call (t' := thRF (.slice (some ⟨g8, 0, none⟩) (k + 1) c8) (LB ++ [(⟨o.nm, o.b, o.A, o.c⟩ : Fe)])) 2 rfl (Tou.of_grown hgr8 (fun j e => e)) hown8 (fun j e => by
          have e2 : g8 = j := by
            have e : (Value.slice (some ⟨g8, 0, none⟩) (k + 1) c8).ownBlock = some j := e
            simpa [Value.ownBlock] using e
          subst e2
          rcases hor8 with h9 | h9
          · exact .inl h9
          · exact .inr (by rw [h9]; simp))
        have HE := Lib.hid (show Bo2 w w8 l (k + 1) (.slice (some ⟨g6, 0, none⟩) (k + 1) c6) (.slice (some ⟨g8, 0, none⟩) (k + 1) c8) from by
          refine ⟨LA ++ [(⟨o.nm, o.b, A4, c4⟩ : Fe)], ?_, ?_⟩
          · have hq : (l.take (k + 1)).map feO = LB ++ [(⟨o.nm, o.b, o.A, o.c⟩ : Fe)] := by rw [HS.out.2.2.2.1, List.map_append, HLB.out.1]; rfl
            rw [hq, List.map_append]
            exact S8.perm (perm_in _ _ _ _)
          · rw [HS.out.2.2.2.1, List.map_append, List.map_append, HS.out.2.1]; rfl)
        clear S7 S8 hown8 hgr8 hor8 hlt8 HS HS6 HRb HLB h5n h6n
        go_wp2_with fail
        go_roundw
        case measure => simp [intOf]; omega
        case rel => exact ⟨k + 1, some ⟨g6, 0, none⟩, some ⟨g8, 0, none⟩, c6, c8, by omega, rfl, rfl, by go_num, HE⟩
    · obtain rfl : k = n := by omega
      have hkk : ¬ ((k : Int) < (k : Int)) := by omega
      obtain ⟨LA, S, hLA⟩ := HR.out
      have hkl9 : k ≤ l.length := by rw [← HI.out.2.1]; omega
      have hLl : LA.length = k := by
        have h9 := congrArg List.length hLA
        rw [List.length_map, List.length_map, List.length_take] at h9
        omega
      obtain ⟨LB, hLB⟩ : ∃ LB, LB = (l.take k).map feO := ⟨_, rfl⟩
      have hBl : LB.length = k := by rw [hLB, List.length_map, List.length_take]; omega
      rw [← hLB] at S
      have hbo : ∀ o ∈ l.take k, o.nm.length ≤ maxLen ∧ o.b.length ≤ 300 ∧ Bs w o.A o.b := fun o h => by
        have hm := List.mem_of_mem_take h
        exact ⟨(HI.out.2.2.2.2 o hm).2.1, (bigO_no (HI.out.2.2.2.1 o hm)).1, (HI.out.2.2.2.2 o hm).2.2.2.1⟩
      have hxa : ∀ x ∈ LA, x.nm.length ≤ maxLen ∧ x.b.length ≤ 300 := fun x h => by
        have h1 : nbE x ∈ (l.take k).map nbO := by rw [← hLA]; exact List.mem_map.2 ⟨x, h, rfl⟩
        obtain ⟨o, h2, h3⟩ := List.mem_map.1 h1
        injection h3 with h3 h4
        rw [← h3, ← h4]
        exact ⟨(hbo o h2).1, (hbo o h2).2.1⟩
      have hxb : ∀ x ∈ LB, x.nm.length ≤ maxLen ∧ x.b.length ≤ 300 ∧ Bs w x.A x.b := fun x h => by
        rw [hLB] at h
        obtain ⟨o, h2, rfl⟩ := List.mem_map.1 h
        exact hbo o h2
      have hD2 : LA.map nbE = LB.map nbE := by rw [hLA, hLB, feO_nb]
      have HP := Lib.hid (popen_any room A1 c1 LA S (fun W hs => ⟨rw_ofR Try.eltE (hs.at_ (t := thRa (.slice A1 k c1) LA) 0 rfl), fun x hx => hs.get (t := thb x) (by
        simp only [List.mem_cons, List.mem_map]
        exact .inr (.inr ⟨x, hx, rfl⟩))⟩) (fun x h => (hxa x h).1) (fun x h => (hxa x h).2))
      obtain ⟨D, hD⟩ : ∃ D, D = openD room (LA.map nbE) := ⟨_, rfl⟩
      rw [← hD, hLl] at HP
      rw [hD2] at hD
      have HX := Lib.hid (And.intro hLl (And.intro hBl (And.intro hxb (And.intro hD hxa))))
      clear S hLA hkl9 hLl hLB hBl hbo hxa hxb hD2 hD HR H2
      go_wp2_with fail
      refine HP.out.mono ?_
      rintro e w5 ⟨vs, rfl, h5⟩
      have HQ := Lib.hid (popen_then room B1 c2 LB h5.out (fun W ts' hsub hs => ⟨rw_ofR Try.eltE2 (hs.get (t := thRF (.slice B1 k c2) LB) (hsub _ (by simp))), fun x hx => hs.bs (Nat.le_refl _) (HX.out.2.2.1 x hx).2.2⟩) (fun x h => (HX.out.2.2.1 x h).1) (fun x h => (HX.out.2.2.1 x h).2.1) HX.out.2.2.2.1)
      rw [HX.out.2.1] at HQ
      clear h5 HP
      go_wp2_with fail
      refine HQ.out.mono ?_
      rintro e w6 ⟨vr, rfl, h6⟩
      have H6 := Lib.hid h6.out
      clear h6 HQ
      go_wp2_with fail
      go_loopw [11] (fun s wr => ∃ i : Nat, i ≤ k ∧ s = .int .i64 i ∧ Hid (∃ LA', Sh LA LA' ∧ Po w.heap.size w wr (thRa (.slice A1 k c1) LA :: thRF (.slice B1 k c2) LB :: LA'.map thb) vs vr D)) (fun s _ => k - (intOf s).toNat)
      case atStart => exact ⟨0, Nat.zero_le _, rfl, Lib.hid ⟨LA, rfl, H6.out⟩⟩
      case round =>
        obtain ⟨i, hik, rfl, HJ⟩ := hrel
        clear H6
        by_cases hil : i < k
        · obtain ⟨x, hx⟩ : ∃ x, LA[i]? = some x := ⟨_, List.getElem?_eq_getElem (by rw [HX.out.1]; exact hil)⟩
          obtain ⟨XA, bl, XC, hva⟩ : ∃ XA bl XC, vaE x = .slice XA bl XC := ⟨_, _, _, rfl⟩
          have Hva := Lib.hid (And.intro hx hva)
          have hbl6 : bl ≤ 300 := by
            have h9 := (HX.out.2.2.2.2 x (List.mem_of_getElem? hx)).2
            unfold vaE at hva
            injection hva with _ h8 _
            omega
          clear hx hva
          have hil2 : (i : Int) < (k : Int) := by omega
          have hi0 : (0 : Int) ≤ (i : Int) := by omega
          go_upto_region 18 with fail
          go_loopw [12] (fun s wq => ∃ j : Nat, j ≤ bl ∧ s = .int .i64 j ∧ Hid (∃ LA', Sh LA LA' ∧ Po w.heap.size w wq (thRa (.slice A1 k c1) LA :: thRF (.slice B1 k c2) LB :: LA'.map thb) vs vr D)) (fun s _ => bl - (intOf s).toNat)
          case atStart => exact ⟨0, Nat.zero_le _, rfl, HJ⟩
          case round =>
            obtain ⟨j, hjb, rfl, HJ2⟩ := hrel
            clear HJ
            obtain ⟨LA', j1, j2⟩ := HJ2.out
            obtain ⟨p, f, hA1, hc⟩ := rw_ofR Try.eltE (show OwnR wr 0 52 encE 2 (.slice A1 k c1) LA from j2.sep.at_ (t := thRa (.slice A1 k c1) LA) 0 rfl) i x Hva.out.1
            have cc := hc 1 _ rfl
            rw [Hva.out.2] at cc
            subst hA1
            by_cases hjl : j < bl
            · obtain ⟨y, hy, hye⟩ := j1.get Hva.out.1
              have hO : OwnB wr 0 (vaE y) y.b := j2.sep.at_ (t := thb y) (i + 2) (by simp [hy])
              have hyl : y.b.length = bl := by
                rw [Hva.out.2] at hye
                unfold vaE at hye
                injection hye
              rw [hye, Hva.out.2] at hO
              obtain ⟨gA, rfl⟩ : ∃ gA, XA = some ⟨gA, 0, none⟩ := by
                obtain ⟨g', cp, h9, -⟩ := OwnB.form hO (by omega)
                injection h9 with h9 _ _
                exact ⟨g', h9⟩
              obtain ⟨z, hz⟩ : ∃ z, z = y.b[j]'(by omega) := ⟨_, rfl⟩
              have cb : wr.cell? ⟨gA, j, none⟩ = some (.int .u8 (z.toNat : Nat)) := by rw [hO.cell j (by omega), hz]
              have fb := hO.frozen j
              have hO2 := hO.below (Below.refl wr.heap.size wr).drew
              have cb2 : wr.drew.cell? ⟨gA, j, none⟩ = some (.int .u8 (z.toNat : Nat)) := by rw [hO2.cell j (by omega), hz]
              have fb2 := hO2.frozen j
              obtain ⟨p9, hp⟩ : ∃ p, p = z.toNat := ⟨_, rfl⟩
              rw [← hp] at cb cb2
              obtain ⟨r, hr⟩ : ∃ r, r = (z ^^^ (255 : UInt8)).toNat := ⟨_, rfl⟩
              have fx : bits .xor .u8 (p9 : Int) 255 = (r : Int) := by
                have h9 := u8_xor_nat p9 255 (by rw [hp]; exact UInt8.toNat_lt _) (by omega)
                rw [show ((255 : Nat) : Int) = 255 from rfl] at h9
                rw [h9, hr, hp, UInt8.toNat_xor]; rfl
              have hjl2 : (j : Int) < (bl : Int) := by omega
              have hj0 : (0 : Int) ≤ (j : Int) := by omega
              have HD2 := Lib.hid (And.intro (j2.go (Below.refl wr.heap.size wr).drew) (And.intro j1 (And.intro hy (And.intro hye (And.intro hyl hr)))))
              clear hO hO2 hz hp hr j1 j2 HJ2 hc hy hye hyl
              go_upto_region 20 with fail
              go_still_tail 16, (by kernel_rfl)
              change wpList _ _ _ _ _ wr.drew
              obtain ⟨wd, hwd⟩ : ∃ wd, wd = wr.drew := ⟨_, rfl⟩
              rw [← hwd] at HD2 cb2 fb2 ⊢
              clear hwd cb fb cc
              all_goals
                go_wp2_with fail
                go_roundw
                case measure => simp [intOf]; omega
                case rel =>
                  obtain ⟨k1, k2, k3, k4, k5, k6⟩ := HD2.out
                  refine ⟨j + 1, by omega, by go_num, Lib.hid ⟨LA'.set i { y with b := y.b.set j (z ^^^ 255) }, k2.set k3 _ (by rw [List.length_set]), ?_⟩⟩
                  rw [show (Value.int .u8 (r : Int)) = bv (z ^^^ (255 : UInt8)) by rw [k6]]
                  have hO : OwnB wd 0 (vaE y) y.b := k1.sep.at_ (t := thb y) (i + 2) (by simp [k3])
                  have hv9 : vaE y = .slice (some ⟨gA, 0, none⟩) bl XC := k4.trans Hva.out.2
                  have h9 := k1.turn (w' := wd.setCell ⟨gA, j, none⟩ (bv (z ^^^ (255 : UInt8)))) (t := thb y) (t' := thb { y with b := y.b.set j (z ^^^ 255) }) (i + 2) (by simp [k3]) (Tou.set gA j _ (by show (vaE y).ownBlock = some gA; rw [hv9]; rfl)) (by
                    show OwnB _ 0 (vaE { y with b := y.b.set j (z ^^^ 255) }) (y.b.set j (z ^^^ 255))
                    rw [show vaE { y with b := y.b.set j (z ^^^ 255) } = vaE y by unfold vaE; rw [List.length_set], hv9]
                    rw [hv9] at hO
                    exact hO.set j _) (fun q hq => .inl (by
                    have hq : (vaE { y with b := y.b.set j (z ^^^ 255) }).ownBlock = some q := hq
                    rw [show vaE { y with b := y.b.set j (z ^^^ 255) } = vaE y by unfold vaE; rw [List.length_set]] at hq
                    exact hq))
                  rw [List.set_cons_succ, List.set_cons_succ, ← List.map_set] at h9
                  exact h9
            · obtain rfl : j = bl := by omega
              have hjj : ¬ ((j : Int) < (j : Int)) := by omega
              clear j1 j2 hc
              go_wp2_with fail
              go_roundw
              case measure => simp [intOf]; omega
              case rel => exact ⟨i + 1, by omega, by go_num, HJ2⟩
        · obtain rfl : i = k := by omega
          have hii : ¬ ((i : Int) < (i : Int)) := by omega
          obtain ⟨LA', j1, j2⟩ := HJ.out
          have HB := Lib.hid j2.sep.b
          cases D with
          | none =>
            obtain ⟨rfl, rfl, j3⟩ := j2
            clear j1 j3 HJ
            go_wp2_with fail
            go_ret
            exact ⟨rfl, HB.out⟩
          | some d =>
            obtain ⟨qs, qr, rm, rfl, rfl, j3⟩ := j2
            have HS := Lib.hid (fsame_any j3)
            clear j1 j3 HJ
            go_wp2_with fail
            refine HS.out.mono ?_
            rintro e w8 ⟨rfl, h8⟩
            have H8 := Lib.hid (on1 HB.out h8)
            clear h8 HS
            go_wp2_with fail
            go_ret
            exact ⟨rfl, H8.out⟩

end Go.Proofs.Ytiogckgchlnldaa

/- Layer 8: walk of FsOpens: many calls. -/
set_option linter.unusedSimpArgs false
set_option linter.unusedVariables false
namespace Go.Proofs.Ytiogckgchlnldaa
open Go.RowKit
set_option maxRecDepth 100000

set_option maxHeartbeats 16000000 in
theorem fsOpens_b (room : Int) (V : Option Addr) (cv : Nat) (l : List Op8) (w : World) (hV : Rw w encOp8 7 V l) (hl : l.length ≤ maxLen) (ho : ∀ o ∈ l, o.ok w) (hh : heavyL l = false) (hm : 12 < l.length) :
    Calls Try.prog 5 #[.int .i64 room, .slice V l.length cv] w fun e w' => e = .returned (.bool true) ∧ Below w.heap.size w w' := by
  have HK := Lib.hid (fun w => fknown8_any w)
  have HH := Lib.hid (heavy8_any V cv l w hV hl)
  obtain ⟨n, hn⟩ : ∃ n, n = l.length := ⟨_, rfl⟩
  rw [← hn] at HH hm ⊢
  rw [hh] at HH
  obtain ⟨hn50, hbg⟩ := heavyL_no hh
  have HI := Lib.hid (And.intro hV (And.intro hn (And.intro hn50 (And.intro hbg ho))))
  clear hV hl ho hn hh hn50 hbg
  go_enter Try.func5, Try.ntmps5
  go_wp2_with fail
  refine HH.out.mono ?_
  rintro e w1 ⟨rfl, h1⟩
  have H1 := Lib.hid h1
  clear h1 HH
  go_wp2_with fail
  refine (HK.out w1).mono ?_
  rintro e w2 ⟨rfl, h2⟩
  have H2 := Lib.hid (on1 H1.out h2)
  have S2 : Sep w.heap.size w w2 [] := Sep.nil H2.out H2.out.size
  have hno : ∀ k, (Value.slice none 0 0).ownBlock = some k → w2.heap.size ≤ k := fun k e => by simp [Value.ownBlock] at e
  have s1 := S2.cons (t := thRF (.slice none 0 0) []) (Below.refl _ _) (OwnR.nil _ _ _ _ _) hno
  have s2 := s1.cons (t := thRa (.slice none 0 0) []) (Below.refl _ _) (OwnR.nil _ _ _ _ _) hno
  have H3 := Lib.hid (show Bo2 w w2 l 0 (.slice none 0 0) (.slice none 0 0) from ⟨[], s2, rfl⟩)
  clear h2 HK H1 S2 s1 s2 hno
  go_wp2_with fail
  go_loopw [5, 6, 7] (fun s5 s6 s7 wr => ∃ (k : Nat) (A1 B1 : Option Addr) (c1 c2 : Nat), k ≤ 12 ∧ s5 = .slice A1 k c1 ∧ s6 = .slice B1 k c2 ∧ s7 = .int .i64 k ∧ Hid (Bo2 w wr l k (.slice A1 k c1) (.slice B1 k c2))) (fun _ _ s _ => 12 - (intOf s).toNat)
  case atStart => exact ⟨0, none, none, 0, 0, Nat.zero_le _, rfl, rfl, rfl, H3⟩
  case round =>
    obtain ⟨k, A1, B1, c1, c2, hkn, rfl, rfl, rfl, HR⟩ := hrel
    clear H3
    by_cases hlt : k < 12
    · have hkn2 : k < n := by omega
      obtain ⟨o, hx⟩ : ∃ x, l[k]? = some x := ⟨_, List.getElem?_eq_getElem (by rw [← HI.out.2.1]; exact hkn2)⟩
      obtain ⟨LA, S, hLA⟩ := HR.out
      obtain ⟨p, f, rfl, hc⟩ := HI.out.1 k o hx
      have hom := List.mem_of_getElem? hx
      obtain ⟨g1, g2, g3, g4⟩ := bigO_no (HI.out.2.2.2.1 o hom)
      obtain ⟨ok1, ok2, ok3, ok4, ok5, -⟩ := HI.out.2.2.2.2 o hom
      have hkl : (k : Int) < (n : Int) := by omega
      have hk12 : (k : Int) < 12 := by omega
      have hk0 : (0 : Int) ≤ (k : Int) := by omega
      have e1 : wr.cell? ⟨p, f + k * 7 + 1, none⟩ = some (.string ⟨o.nm.toArray⟩) := S.old (Nat.le_refl _) (hc 1 _ rfl)
      have e3 : wr.cell? ⟨p, f + k * 7 + 3, none⟩ = some (.slice o.A o.b.length o.c) := S.old (Nat.le_refl _) (hc 3 _ rfl)
      have HB := Lib.hid (S.bs (Nat.le_refl _) ok4)
      have hLl : LA.length = k := by
        have h9 := congrArg List.length hLA
        rw [List.length_map, List.length_map, List.length_take, ← HI.out.2.1] at h9
        omega
      have hTk : l.take (k + 1) = l.take k ++ [o] := by rw [List.take_add_one, hx]; rfl
      have hkm2 : ((l.take k).map feO).length = k := by rw [List.length_map, List.length_take, ← HI.out.2.1]; omega
      have HS := Lib.hid (And.intro S (And.intro hLA (And.intro hLl (And.intro hTk (And.intro hkm2 (And.intro g1 hc))))))
      clear S hLA hLl hTk hkm2 HR hx hc hom g1 g2 g3 g4 ok1 ok2 ok3 ok4 ok5 H2
      go_upto_region 10 with (at_builtin; go_must (refine appAllL _ rfl (.tmp 30) (.tmp 35) rfl wr.heap.size (.slice none 0 0) [] rfl (OwnB.nil _ _) o.A o.c o.b rfl HB.out (by simp; have := HS.out.2.2.2.2.2.1; omega) (Nat.le_refl _) ?_); intro A4 c4 w4 hown4 hg4 hl4)
      have b4 := below_none hg4
      simp only [List.length_nil, Nat.zero_add, List.nil_append] at hown4 ⊢
      have S4 := HS.out.1.cons (t := thb ⟨o.nm, o.b, A4, c4⟩) b4 (hown4.mono (Nat.zero_le _)) (fun k e => (World.ownsRow.lt hown4 k e).1)
      have e1 : w4.cell? ⟨p, f + k * 7 + 1, none⟩ = some (.string ⟨o.nm.toArray⟩) := S4.old (Nat.le_refl _) (HS.out.2.2.2.2.2.2 1 _ rfl)
      have S5 := S4.go (below_alloc w4 (.cells #[.string ⟨o.nm.toArray⟩, .slice A4 o.b.length c4] 52))
      have HRa := Lib.hid (show OwnR (w4.alloc (.cells #[.string ⟨o.nm.toArray⟩, .slice A4 o.b.length c4] 52)) 0 52 encE 2 (.slice A1 k c1) LA from S5.at_ (t := thRa (.slice A1 k c1) LA) 1 rfl)
      have HS5 := Lib.hid S5
      have h5n : LA.length + 1 ≤ maxLen := by rw [HS.out.2.2.1]; unfold maxLen; omega
      have h6n : (LA.length + 1) * 40 ≤ 140737488355328 := by rw [HS.out.2.2.1]; omega
      clear S4 S5 b4 hown4 hg4 hl4 HB e3
      go_upto_region 11 with (at_builtin; go_must (refine appR1L Try.eltE _ rfl (.tmp 37) (.tmp 45) rfl 0 (.slice A1 k c1) LA rfl HRa.out w4.heap.size 1 ⟨o.nm, o.b, A4, c4⟩ _ _ rfl (Blk.new w4 _ _) rfl h5n h6n (Nat.zero_le _) ?_); intro g6 c6 w6 hown6 hgr6 hor6 hlt6)
      rw [HS.out.2.2.1] at hown6 ⊢
      have S6 := HS5.out.call (t' := thRa (.slice (some ⟨g6, 0, none⟩) (k + 1) c6) (LA ++ [(⟨o.nm, o.b, A4, c4⟩ : Fe)])) 1 rfl (Tou.of_grown hgr6 (fun j e => e)) hown6 (fun j e => by
        have e2 : g6 = j := by
          have e : (Value.slice (some ⟨g6, 0, none⟩) (k + 1) c6).ownBlock = some j := e
          simpa [Value.ownBlock] using e
        subst e2
        rcases hor6 with h9 | h9
        · exact .inl h9
        · exact .inr (Nat.le_of_eq h9.symm))
      have e1 : w6.cell? ⟨p, f + k * 7 + 1, none⟩ = some (.string ⟨o.nm.toArray⟩) := S6.old (Nat.le_refl _) (HS.out.2.2.2.2.2.2 1 _ rfl)
      have e3 : w6.cell? ⟨p, f + k * 7 + 3, none⟩ = some (.slice o.A o.b.length o.c) := S6.old (Nat.le_refl _) (HS.out.2.2.2.2.2.2 3 _ rfl)
      have hbd : Below w6.heap.size w6 (w6.alloc (.cells #[.string ⟨o.nm.toArray⟩, .slice o.A o.b.length o.c] 53)) := below_alloc _ _
      have S7 := S6.go hbd
      have HRb := Lib.hid (show OwnR (w6.alloc (.cells #[.string ⟨o.nm.toArray⟩, .slice o.A o.b.length o.c] 53)) 0 53 encE 2 (.slice B1 k c2) ((l.take k).map feO) from S7.at_ (t := thRF (.slice B1 k c2) ((l.take k).map feO)) 2 rfl)
      have HS6 := Lib.hid S6
      obtain ⟨LB, hLB⟩ : ∃ LB, LB = (l.take k).map feO := ⟨_, rfl⟩
      have HLB := Lib.hid (And.intro hLB (show LB.length = k by rw [hLB]; exact HS.out.2.2.2.2.1))
      rw [← hLB] at HRb HS6
      have h5n : LB.length + 1 ≤ maxLen := by rw [HLB.out.2]; unfold maxLen; omega
      have h6n : (LB.length + 1) * 40 ≤ 140737488355328 := by rw [HLB.out.2]; omega
      have kA := fun W => keepA W
      clear S6 S7 hown6 hgr6 hor6 hlt6 HRa HS5 hLB hbd
      go_region_law (refine step_appR1L Try.eltE2 _ rfl (.tmp 47) (.tmp 59) rfl 0 (.slice B1 k c2) LB (by simp [Act.eval, Act.put]) HRb.out w6.heap.size 1 ⟨o.nm, o.b, o.A, o.c⟩ 53 #[.string ⟨o.nm.toArray⟩, .slice o.A o.b.length o.c] (by simp [Act.eval, Act.put]) (Blk.new w6 _ _) rfl h5n h6n (Nat.zero_le _) (w6.heap.size + 1) (by simp) ?_; intro g8 c8 w8 hown8 hgr8 hor8 hlt8)
      all_goals
        clear kA e1 e3
        rw [HLB.out.2] at hown8 ⊢
        have S7 := (HS6.out.go (below_alloc w6 (.cells #[.string ⟨o.nm.toArray⟩, .slice o.A o.b.length o.c] 53))).go (Below.refl _ _).drew
        have S8 := S7.call (t' := thRF (.slice (some ⟨g8, 0, none⟩) (k + 1) c8) (LB ++ [(⟨o.nm, o.b, o.A, o.c⟩ : Fe)])) 2 rfl (Tou.of_grown hgr8 (fun j e => e)) hown8 (fun j e => by
          have e2 : g8 = j := by
            have e : (Value.slice (some ⟨g8, 0, none⟩) (k + 1) c8).ownBlock = some j := e
            simpa [Value.ownBlock] using e
          subst e2
          rcases hor8 with h9 | h9
          · exact .inl h9
          · exact .inr (by rw [h9]; simp))
        have HE := Lib.hid (show Bo2 w w8 l (k + 1) (.slice (some ⟨g6, 0, none⟩) (k + 1) c6) (.slice (some ⟨g8, 0, none⟩) (k + 1) c8) from by
          refine ⟨LA ++ [(⟨o.nm, o.b, A4, c4⟩ : Fe)], ?_, ?_⟩
          · have hq : (l.take (k + 1)).map feO = LB ++ [(⟨o.nm, o.b, o.A, o.c⟩ : Fe)] := by rw [HS.out.2.2.2.1, List.map_append, HLB.out.1]; rfl
            rw [hq, List.map_append]
            exact S8.perm (perm_in _ _ _ _)
          · rw [HS.out.2.2.2.1, List.map_append, List.map_append, HS.out.2.1]; rfl)
        clear S7 S8 hown8 hgr8 hor8 hlt8 HS HS6 HRb HLB h5n h6n
        go_wp2_with fail
        go_roundw
        case measure => simp [intOf]; omega
        case rel => exact ⟨k + 1, some ⟨g6, 0, none⟩, some ⟨g8, 0, none⟩, c6, c8, by omega, rfl, rfl, by go_num, HE⟩
    · have hkn9 : k ≤ n := by omega
      have hkl : (k : Int) < (n : Int) := by omega
      have hkk : ¬ ((k : Int) < 12) := by omega
      clear hlt
      obtain ⟨LA, S, hLA⟩ := HR.out
      have hkl9 : k ≤ l.length := by rw [← HI.out.2.1]; omega
      have hLl : LA.length = k := by
        have h9 := congrArg List.length hLA
        rw [List.length_map, List.length_map, List.length_take] at h9
        omega
      obtain ⟨LB, hLB⟩ : ∃ LB, LB = (l.take k).map feO := ⟨_, rfl⟩
      have hBl : LB.length = k := by rw [hLB, List.length_map, List.length_take]; omega
      rw [← hLB] at S
      have hbo : ∀ o ∈ l.take k, o.nm.length ≤ maxLen ∧ o.b.length ≤ 300 ∧ Bs w o.A o.b := fun o h => by
        have hm := List.mem_of_mem_take h
        exact ⟨(HI.out.2.2.2.2 o hm).2.1, (bigO_no (HI.out.2.2.2.1 o hm)).1, (HI.out.2.2.2.2 o hm).2.2.2.1⟩
      have hxa : ∀ x ∈ LA, x.nm.length ≤ maxLen ∧ x.b.length ≤ 300 := fun x h => by
        have h1 : nbE x ∈ (l.take k).map nbO := by rw [← hLA]; exact List.mem_map.2 ⟨x, h, rfl⟩
        obtain ⟨o, h2, h3⟩ := List.mem_map.1 h1
        injection h3 with h3 h4
        rw [← h3, ← h4]
        exact ⟨(hbo o h2).1, (hbo o h2).2.1⟩
      have hxb : ∀ x ∈ LB, x.nm.length ≤ maxLen ∧ x.b.length ≤ 300 ∧ Bs w x.A x.b := fun x h => by
        rw [hLB] at h
        obtain ⟨o, h2, rfl⟩ := List.mem_map.1 h
        exact hbo o h2
      have hD2 : LA.map nbE = LB.map nbE := by rw [hLA, hLB, feO_nb]
      have HP := Lib.hid (popen_any room A1 c1 LA S (fun W hs => ⟨rw_ofR Try.eltE (hs.at_ (t := thRa (.slice A1 k c1) LA) 0 rfl), fun x hx => hs.get (t := thb x) (by
        simp only [List.mem_cons, List.mem_map]
        exact .inr (.inr ⟨x, hx, rfl⟩))⟩) (fun x h => (hxa x h).1) (fun x h => (hxa x h).2))
      obtain ⟨D, hD⟩ : ∃ D, D = openD room (LA.map nbE) := ⟨_, rfl⟩
      rw [← hD, hLl] at HP
      rw [hD2] at hD
      have HX := Lib.hid (And.intro hLl (And.intro hBl (And.intro hxb (And.intro hD hxa))))
      clear S hLA hkl9 hLl hLB hBl hbo hxa hxb hD2 hD HR H2
      go_wp2_with fail
      refine HP.out.mono ?_
      rintro e w5 ⟨vs, rfl, h5⟩
      have HQ := Lib.hid (popen_then room B1 c2 LB h5.out (fun W ts' hsub hs => ⟨rw_ofR Try.eltE2 (hs.get (t := thRF (.slice B1 k c2) LB) (hsub _ (by simp))), fun x hx => hs.bs (Nat.le_refl _) (HX.out.2.2.1 x hx).2.2⟩) (fun x h => (HX.out.2.2.1 x h).1) (fun x h => (HX.out.2.2.1 x h).2.1) HX.out.2.2.2.1)
      rw [HX.out.2.1] at HQ
      clear h5 HP
      go_wp2_with fail
      refine HQ.out.mono ?_
      rintro e w6 ⟨vr, rfl, h6⟩
      have H6 := Lib.hid h6.out
      clear h6 HQ
      go_wp2_with fail
      go_loopw [11] (fun s wr => ∃ i : Nat, i ≤ k ∧ s = .int .i64 i ∧ Hid (∃ LA', Sh LA LA' ∧ Po w.heap.size w wr (thRa (.slice A1 k c1) LA :: thRF (.slice B1 k c2) LB :: LA'.map thb) vs vr D)) (fun s _ => k - (intOf s).toNat)
      case atStart => exact ⟨0, Nat.zero_le _, rfl, Lib.hid ⟨LA, rfl, H6.out⟩⟩
      case round =>
        obtain ⟨i, hik, rfl, HJ⟩ := hrel
        clear H6
        by_cases hil : i < k
        · obtain ⟨x, hx⟩ : ∃ x, LA[i]? = some x := ⟨_, List.getElem?_eq_getElem (by rw [HX.out.1]; exact hil)⟩
          obtain ⟨XA, bl, XC, hva⟩ : ∃ XA bl XC, vaE x = .slice XA bl XC := ⟨_, _, _, rfl⟩
          have Hva := Lib.hid (And.intro hx hva)
          have hbl6 : bl ≤ 300 := by
            have h9 := (HX.out.2.2.2.2 x (List.mem_of_getElem? hx)).2
            unfold vaE at hva
            injection hva with _ h8 _
            omega
          clear hx hva
          have hil2 : (i : Int) < (k : Int) := by omega
          have hi0 : (0 : Int) ≤ (i : Int) := by omega
          go_upto_region 18 with fail
          go_loopw [12] (fun s wq => ∃ j : Nat, j ≤ bl ∧ s = .int .i64 j ∧ Hid (∃ LA', Sh LA LA' ∧ Po w.heap.size w wq (thRa (.slice A1 k c1) LA :: thRF (.slice B1 k c2) LB :: LA'.map thb) vs vr D)) (fun s _ => bl - (intOf s).toNat)
          case atStart => exact ⟨0, Nat.zero_le _, rfl, HJ⟩
          case round =>
            obtain ⟨j, hjb, rfl, HJ2⟩ := hrel
            clear HJ
            obtain ⟨LA', j1, j2⟩ := HJ2.out
            obtain ⟨p, f, hA1, hc⟩ := rw_ofR Try.eltE (show OwnR wr 0 52 encE 2 (.slice A1 k c1) LA from j2.sep.at_ (t := thRa (.slice A1 k c1) LA) 0 rfl) i x Hva.out.1
            have cc := hc 1 _ rfl
            rw [Hva.out.2] at cc
            subst hA1
            by_cases hjl : j < bl
            · obtain ⟨y, hy, hye⟩ := j1.get Hva.out.1
              have hO : OwnB wr 0 (vaE y) y.b := j2.sep.at_ (t := thb y) (i + 2) (by simp [hy])
              have hyl : y.b.length = bl := by
                rw [Hva.out.2] at hye
                unfold vaE at hye
                injection hye
              rw [hye, Hva.out.2] at hO
              obtain ⟨gA, rfl⟩ : ∃ gA, XA = some ⟨gA, 0, none⟩ := by
                obtain ⟨g', cp, h9, -⟩ := OwnB.form hO (by omega)
                injection h9 with h9 _ _
                exact ⟨g', h9⟩
              obtain ⟨z, hz⟩ : ∃ z, z = y.b[j]'(by omega) := ⟨_, rfl⟩
              have cb : wr.cell? ⟨gA, j, none⟩ = some (.int .u8 (z.toNat : Nat)) := by rw [hO.cell j (by omega), hz]
              have fb := hO.frozen j
              have hO2 := hO.below (Below.refl wr.heap.size wr).drew
              have cb2 : wr.drew.cell? ⟨gA, j, none⟩ = some (.int .u8 (z.toNat : Nat)) := by rw [hO2.cell j (by omega), hz]
              have fb2 := hO2.frozen j
              obtain ⟨p9, hp⟩ : ∃ p, p = z.toNat := ⟨_, rfl⟩
              rw [← hp] at cb cb2
              obtain ⟨r, hr⟩ : ∃ r, r = (z ^^^ (255 : UInt8)).toNat := ⟨_, rfl⟩
              have fx : bits .xor .u8 (p9 : Int) 255 = (r : Int) := by
                have h9 := u8_xor_nat p9 255 (by rw [hp]; exact UInt8.toNat_lt _) (by omega)
                rw [show ((255 : Nat) : Int) = 255 from rfl] at h9
                rw [h9, hr, hp, UInt8.toNat_xor]; rfl
              have hjl2 : (j : Int) < (bl : Int) := by omega
              have hj0 : (0 : Int) ≤ (j : Int) := by omega
              have HD2 := Lib.hid (And.intro (j2.go (Below.refl wr.heap.size wr).drew) (And.intro j1 (And.intro hy (And.intro hye (And.intro hyl hr)))))
              clear hO hO2 hz hp hr j1 j2 HJ2 hc hy hye hyl
              go_upto_region 20 with fail
              go_still_tail 16, (by kernel_rfl)
              change wpList _ _ _ _ _ wr.drew
              obtain ⟨wd, hwd⟩ : ∃ wd, wd = wr.drew := ⟨_, rfl⟩
              rw [← hwd] at HD2 cb2 fb2 ⊢
              clear hwd cb fb cc
              all_goals
                go_wp2_with fail
                go_roundw
                case measure => simp [intOf]; omega
                case rel =>
                  obtain ⟨k1, k2, k3, k4, k5, k6⟩ := HD2.out
                  refine ⟨j + 1, by omega, by go_num, Lib.hid ⟨LA'.set i { y with b := y.b.set j (z ^^^ 255) }, k2.set k3 _ (by rw [List.length_set]), ?_⟩⟩
                  rw [show (Value.int .u8 (r : Int)) = bv (z ^^^ (255 : UInt8)) by rw [k6]]
                  have hO : OwnB wd 0 (vaE y) y.b := k1.sep.at_ (t := thb y) (i + 2) (by simp [k3])
                  have hv9 : vaE y = .slice (some ⟨gA, 0, none⟩) bl XC := k4.trans Hva.out.2
                  have h9 := k1.turn (w' := wd.setCell ⟨gA, j, none⟩ (bv (z ^^^ (255 : UInt8)))) (t := thb y) (t' := thb { y with b := y.b.set j (z ^^^ 255) }) (i + 2) (by simp [k3]) (Tou.set gA j _ (by show (vaE y).ownBlock = some gA; rw [hv9]; rfl)) (by
                    show OwnB _ 0 (vaE { y with b := y.b.set j (z ^^^ 255) }) (y.b.set j (z ^^^ 255))
                    rw [show vaE { y with b := y.b.set j (z ^^^ 255) } = vaE y by unfold vaE; rw [List.length_set], hv9]
                    rw [hv9] at hO
                    exact hO.set j _) (fun q hq => .inl (by
                    have hq : (vaE { y with b := y.b.set j (z ^^^ 255) }).ownBlock = some q := hq
                    rw [show vaE { y with b := y.b.set j (z ^^^ 255) } = vaE y by unfold vaE; rw [List.length_set]] at hq
                    exact hq))
                  rw [List.set_cons_succ, List.set_cons_succ, ← List.map_set] at h9
                  exact h9
            · obtain rfl : j = bl := by omega
              have hjj : ¬ ((j : Int) < (j : Int)) := by omega
              clear j1 j2 hc
              go_wp2_with fail
              go_roundw
              case measure => simp [intOf]; omega
              case rel => exact ⟨i + 1, by omega, by go_num, HJ2⟩
        · obtain rfl : i = k := by omega
          have hii : ¬ ((i : Int) < (i : Int)) := by omega
          obtain ⟨LA', j1, j2⟩ := HJ.out
          have HB := Lib.hid j2.sep.b
          cases D with
          | none =>
            obtain ⟨rfl, rfl, j3⟩ := j2
            clear j1 j3 HJ
            go_wp2_with fail
            go_ret
            exact ⟨rfl, HB.out⟩
          | some d =>
            obtain ⟨qs, qr, rm, rfl, rfl, j3⟩ := j2
            have HS := Lib.hid (fsame_any j3)
            clear j1 j3 HJ
            go_wp2_with fail
            refine HS.out.mono ?_
            rintro e w8 ⟨rfl, h8⟩
            have H8 := Lib.hid (on1 HB.out h8)
            clear h8 HS
            go_wp2_with fail
            go_ret
            exact ⟨rfl, H8.out⟩

end Go.Proofs.Ytiogckgchlnldaa

/- Layer 8: walk of FsOpens. -/
set_option linter.unusedSimpArgs false
set_option linter.unusedVariables false
namespace Go.Proofs.Ytiogckgchlnldaa
open Go.RowKit
set_option maxRecDepth 100000

theorem fsOpens_walk (room : Int) (V : Option Addr) (cv : Nat) (l : List Op8) (w : World) (hV : Rw w encOp8 7 V l) (hl : l.length ≤ maxLen) (ho : ∀ o ∈ l, o.ok w) :
    Calls Try.prog 5 #[.int .i64 room, .slice V l.length cv] w fun e w' => e = .returned (.bool true) ∧ Below w.heap.size w w' := by
  cases hh : heavyL l with
  | true => exact fsOpens_known room V cv l w hV hl hh
  | false =>
    by_cases hm : l.length ≤ 12
    · exact fsOpens_s room V cv l w hV hl ho hh hm
    · exact fsOpens_b room V cv l w hV hl ho hh (by omega)

end Go.Proofs.Ytiogckgchlnldaa
