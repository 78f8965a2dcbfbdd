/- Joined: Fd4, Fd6, Fd7. -/
import Derived.Test.YtiogckgchlnldaaQ20
set_option linter.unusedSimpArgs false
set_option linter.unusedVariables false
/- Layer 8: a call on both file systems: Append. -/
set_option linter.unusedSimpArgs false
set_option linter.unusedVariables false
namespace Go.Proofs.Ytiogckgchlnldaa
open Go.RowKit
set_option maxRecDepth 100000

theorem below_none {w w' : World} (h : w.grownBy w' none) : Below w.heap.size w w' := Below.grown (Below.refl _ _) h (Nat.le_refl _) (fun k e => by cases e)
theorem Bd.byte {B qs qr room : Nat} {w0 w : World} {ts : List Kt} {da db : Fd} (h : Bd B w0 w qs qr room ts da db) (i : Nat) {g n c : Nat} {l : List UInt8} (j : Nat) (x : UInt8) (e : ts[i]? = some (thO (.slice (some ⟨g, 0, none⟩) n c) l) := by rfl) : Bd B w0 (w.setCell ⟨g, j, none⟩ (bv x)) qs qr room (ts.set i (thO (.slice (some ⟨g, 0, none⟩) n c) (l.set j x))) da db :=
  h.turn i e (Tou.set g j _ rfl) ((show OwnB w 0 (.slice (some ⟨g, 0, none⟩) n c) l from h.get i e).set j x) (fun k hk => .inl hk)

set_option maxHeartbeats 8000000 in
theorem fdoes_append {B qs qr room : Nat} {w0 w : World} {ts : List Kt} {d : Fd} (o : Op8) (h : Bd B w0 w qs qr room ts d d) (hn : o.nm.length ≤ maxLen) (hB : w0.heap.size ≤ B) (hA : Bs w0 o.A o.b) (hl : d.lf ≤ 1000000) (hr : room ≤ 1048576) (hu : usedD d + o.b.length ≤ 100000) (hpl : d.P.length < 1000000) (hur : usedD d ≤ room) (hk : o.kd % 14 ≠ 0 ∧ o.kd % 14 < 6) :
    Calls Try.prog 25 #[.pointer (some ⟨qs, 0, none⟩), .pointer (some ⟨qr, 0, none⟩), .agg #[.int .u8 (o.kd : Nat), .string ⟨o.nm.toArray⟩, .string ⟨o.ot.toArray⟩, .slice o.A o.b.length o.c, .int .i64 o.n, .slice o.KA o.kp.length o.kc, .int .i64 o.to_]] w fun e w' => e = .returned (.bool true) ∧ Bd B w0 w' qs qr room ts ((appendD room d o.nm o.b).2) ((appendD room d o.nm o.b).2) := by
  have hd := h.dbs
  obtain ⟨kd, nm, ot, A, c, b, n, KA, kc, kp, to_⟩ := o
  dsimp only at *
  obtain ⟨m, hm⟩ : ∃ m : Nat, m = kd % 14 := ⟨_, rfl⟩
  have f0 : (kd : Int) % 14 = (m : Int) := by rw [hm]; omega
  rw [← hm] at hk
  have g0 : ((m : Int) == 0) = false := beq_eq_false_iff_ne.2 (by omega)
  have g6 : ((m : Int) == 6) = false := beq_eq_false_iff_ne.2 (by omega)
  have g7 : ((m : Int) == 7) = false := beq_eq_false_iff_ne.2 (by omega)
  have g8 : ((m : Int) == 8) = false := beq_eq_false_iff_ne.2 (by omega)
  have g9 : ((m : Int) == 9) = false := beq_eq_false_iff_ne.2 (by omega)
  have g10 : ((m : Int) == 10) = false := beq_eq_false_iff_ne.2 (by omega)
  have g11 : ((m : Int) == 11) = false := beq_eq_false_iff_ne.2 (by omega)
  have g12 : ((m : Int) == 12) = false := beq_eq_false_iff_ne.2 (by omega)
  have g13 : ((m : Int) == 13) = false := beq_eq_false_iff_ne.2 (by omega)
  obtain ⟨bl, hbl⟩ : ∃ bl, bl = b.length := ⟨_, rfl⟩
  obtain ⟨kl, hkl⟩ : ∃ kl, kl = kp.length := ⟨_, rfl⟩
  rw [← hbl, ← hkl]
  obtain ⟨W, hW⟩ : ∃ W, W = w.alloc (.cells #[.int .u8 (kd : Nat), .string ⟨nm.toArray⟩, .string ⟨ot.toArray⟩, .slice A bl c, .int .i64 n, .slice KA kl kc, .int .i64 to_] 47) := ⟨_, rfl⟩
  obtain ⟨gq, hgq⟩ : ∃ g, g = w.heap.size := ⟨_, rfl⟩
  have HG := Lib.hid (h.box #[.int .u8 (kd : Nat), .string ⟨nm.toArray⟩, .string ⟨ot.toArray⟩, .slice A bl c, .int .i64 n, .slice KA kl kc, .int .i64 to_] 47)
  rw [← hW, ← hgq] at HG
  have C := fbsays (HG.out.blk 0)
  simp only [cellsSay, Nat.reduceAdd, and_true] at C
  have HF := Lib.hid (And.intro hbl (And.intro (show b.length ≤ 100000 by omega) (And.intro (HG.out.bs hB hA) (And.intro hB hA))))
  have HP := Lib.hid (fun (W : World) (A1 : Option Addr) (c1 : Nat) (ts : List Kt) (db : Fd) (h : Bd B w0 W qs qr room (thO (.slice A1 bl c1) b :: ts) d db) => h.lift (fun us hsub hu9 => append_any nm hn A1 c1 b hu9 (by omega) hr (fun W' d' hs => OwnB.bs (show OwnB W' 0 (.slice A1 bl c1) b from hs.mem (hsub _ (List.mem_cons_self ..)))) hl hu hpl))
  have HR := Lib.hid (fun (W : World) (ts : List Kt) (da : Fd) (h : Bd B w0 W qs qr room ts da d) => h.lift2 (fun us _ hu => rappend_any nm hn A c b hu hd (by omega) hr (fun W' d' hs => hs.bs hB hA) hl hpl hur))
  have hcc := append_c room d nm b
  obtain ⟨rr, hrr⟩ : ∃ r, r = (appendD room d nm b).1 := ⟨_, rfl⟩
  obtain ⟨d', hd'⟩ : ∃ d', d' = (appendD room d nm b).2 := ⟨_, rfl⟩
  rw [← hrr] at HP HR hcc
  rw [← hd'] at HP HR ⊢
  rw [← hbl] at HP HR
  have hwr := wrap_c hcc
  have hn6 : bl ≤ 100000 := by rw [HF.out.1]; exact HF.out.2.1
  clear h hd hk hn hB hA hl hr hu hpl hur hbl hkl hm hrr hd' hcc
  go_enter Try.func25, Try.ntmps25
  go_upto_region 1 with fail
  rw [← hW, ← hgq]
  clear hW hgq
  go_upto_region 27 with (at_builtin; go_must (refine appAllL _ rfl (.tmp 135) (.tmp 137) rfl W.heap.size (.slice none 0 0) [] rfl (OwnB.nil _ _) A c b (by rw [← HF.out.1]; rfl) HF.out.2.2.1 (by simp; have := HF.out.2.1; omega) (Nat.le_refl _) ?_); intro A1 c1 w1 hown1 hg1 hl1)
  have b1 := below_none hg1
  simp only [List.length_nil, Nat.zero_add, List.nil_append] at hown1
  have hg2 := HG.out.cons (t := thO (.slice A1 b.length c1) b) b1 (hown1.mono (Nat.zero_le _)) (fun k e => (World.ownsRow.lt hown1 k e).1)
  rw [← HF.out.1] at hg2 ⊢
  have H2 := Lib.hid hg2
  replace C := fbsays (H2.out.blk 1)
  simp only [cellsSay, Nat.reduceAdd, and_true] at C
  clear hg2 hown1 hg1 hl1 b1 HG
  go_wp2_with fail
  refine (HP.out _ _ _ _ _ H2.out).mono ?_
  rintro e w2 ⟨rfl, h3⟩
  have H3 := Lib.hid h3
  clear h3 HP C H2
  go_wp2_with fail
  go_loopw [13] (fun s wr => ∃ k : Nat, k ≤ bl ∧ s = .int .i64 k ∧ Hid (∃ l : List UInt8, l.length = bl ∧ Bd B w0 wr qs qr room (thO (.slice A1 bl c1) l :: thB gq 47 #[.int .u8 (kd : Nat), .string ⟨nm.toArray⟩, .string ⟨ot.toArray⟩, .slice A bl c, .int .i64 n, .slice KA kl kc, .int .i64 to_] :: ts) d' d)) (fun s _ => bl - (intOf s).toNat)
  case atStart => exact ⟨0, Nat.zero_le _, rfl, Lib.hid ⟨b, HF.out.1.symm, H3.out⟩⟩
  case round =>
    obtain ⟨k, hk, rfl, HR9⟩ := hrel
    obtain ⟨l, hl, D⟩ := HR9.out
    by_cases hlt : k < bl
    · have hO : OwnB wr 0 (.slice A1 bl c1) l := D.get 0 rfl
      obtain ⟨gA, rfl⟩ : ∃ gA, A1 = some ⟨gA, 0, none⟩ := by
        obtain ⟨g', cp, h9, -⟩ := OwnB.form hO (by omega)
        injection h9 with h9 _ _
        exact ⟨g', h9⟩
      obtain ⟨x, hx⟩ : ∃ x, x = l[k]'(by omega) := ⟨_, rfl⟩
      have cb : wr.cell? ⟨gA, k, none⟩ = some (.int .u8 (x.toNat : Nat)) := by rw [hO.cell k (by omega), hx]
      have fb := hO.frozen k
      obtain ⟨p, hp⟩ : ∃ p, p = x.toNat := ⟨_, rfl⟩
      rw [← hp] at cb
      obtain ⟨r, hr⟩ : ∃ r, r = (x ^^^ (255 : UInt8)).toNat := ⟨_, rfl⟩
      have fx : bits .xor .u8 (p : Int) 255 = (r : Int) := by
        have h9 := u8_xor_nat p 255 (by rw [hp]; exact UInt8.toNat_lt _) (by omega)
        rw [show ((255 : Nat) : Int) = 255 from rfl] at h9
        rw [h9, hr, hp, UInt8.toNat_xor]; rfl
      have hkl : (k : Int) < (bl : Int) := by omega
      have hk0 : (0 : Int) ≤ (k : Int) := by omega
      have HD2 := Lib.hid (And.intro D (And.intro hl hr))
      clear hO hx hp hr D hl HR9 H3
      go_wp2_with fail
      go_roundw
      case measure => simp [intOf]; omega
      case rel =>
        refine ⟨k + 1, by omega, by go_num, Lib.hid ⟨l.set k (x ^^^ 255), by rw [List.length_set]; exact HD2.out.2.1, ?_⟩⟩
        rw [show (Value.int .u8 (r : Int)) = bv (x ^^^ (255 : UInt8)) by rw [HD2.out.2.2]]
        exact HD2.out.1.byte 0 k (x ^^^ 255)
    · obtain rfl : k = bl := by omega
      have hkk2 : ¬ ((k : Int) < (k : Int)) := by omega
      have C := fbsays (D.blk 1)
      simp only [cellsSay, Nat.reduceAdd, and_true] at C
      have HD := Lib.hid D
      clear HR9 D hl
      go_wp2_with fail
      refine (HR.out _ _ _ HD.out).mono ?_
      rintro e w5 ⟨rfl, h5⟩
      have H5 := Lib.hid h5
      clear h5 HR C
      go_wp2_with fail
      go_ret
      exact ⟨rfl, H5.out.tail.tail⟩

end Go.Proofs.Ytiogckgchlnldaa

/- Layer 8: a call on both, whichever; the document's New. -/
set_option linter.unusedSimpArgs false
set_option linter.unusedVariables false
namespace Go.Proofs.Ytiogckgchlnldaa
open Go.RowKit
set_option maxRecDepth 100000

def fstep (room : Int) (d : Fd) (o : Op8) : Fd :=
  if o.kd % 14 = 11 then crashD d (kpt o.kp) o.to_ else if o.kd % 14 = 12 then haltD d (o.n.tmod 20) else if o.kd % 14 = 13 then d else (playD room d o).2
theorem fstep_play {room : Int} {d : Fd} {o : Op8} (h : o.kd % 14 ≤ 10) : fstep room d o = (playD room d o).2 := by
  unfold fstep
  rw [if_neg (by omega), if_neg (by omega), if_neg (by omega)]

theorem fdoes_any {B qs qr room : Nat} {w0 w : World} {ts : List Kt} {d : Fd} (o : Op8) (h : Bd B w0 w qs qr room ts d d) (hn : o.nm.length ≤ maxLen) (hot : o.ot.length ≤ maxLen) (hB : w0.heap.size ≤ B) (hA : Bs w0 o.A o.b) (hK : Bo w0 o.KA o.kp) (hkp : o.kp.length ≤ 1000000) (hl : d.lf ≤ 1000000) (hr : room ≤ 1048576) (hu : usedD d + o.b.length ≤ 100000) (hpl : d.P.length < 1000000) (hur : usedD d ≤ room) :
    Calls Try.prog 25 #[.pointer (some ⟨qs, 0, none⟩), .pointer (some ⟨qr, 0, none⟩), .agg #[.int .u8 (o.kd : Nat), .string ⟨o.nm.toArray⟩, .string ⟨o.ot.toArray⟩, .slice o.A o.b.length o.c, .int .i64 o.n, .slice o.KA o.kp.length o.kc, .int .i64 o.to_]] w fun e w' => e = .returned (.bool true) ∧ Bd B w0 w' qs qr room ts (fstep room d o) (fstep room d o) := by
  by_cases k11 : o.kd % 14 = 11
  · rw [show fstep room d o = crashD d (kpt o.kp) o.to_ by unfold fstep; rw [if_pos k11]]
    exact fdoes_crash o h hB hK hkp k11
  by_cases k12 : o.kd % 14 = 12
  · rw [show fstep room d o = haltD d (o.n.tmod 20) by unfold fstep; rw [if_neg k11, if_pos k12]]
    exact fdoes_halt o h k12
  by_cases k13 : o.kd % 14 = 13
  · rw [show fstep room d o = d by unfold fstep; rw [if_neg k11, if_neg k12, if_pos k13]]
    cases hrd : rdD d o.nm with
    | some bb => exact fdoes_read o h hn bb hrd k13
    | none => exact fdoes_noread o h hn (by
        unfold rdD at hrd
        cases ha : atF d.F o.nm with
        | none => rfl
        | some x => rw [ha] at hrd; cases hrd) k13
  rw [fstep_play (show o.kd % 14 ≤ 10 by omega)]
  by_cases k0 : o.kd % 14 = 0
  · rw [show playD room d o = createD d o.nm by unfold playD; rw [if_pos k0]]
    exact fdoes_0 o h hn hot hl k0
  by_cases k6 : o.kd % 14 = 6
  · rw [show playD room d o = syncD d o.nm by unfold playD; rw [if_neg k0, if_pos (.inl k6)]]
    exact fdoes_6 o h hn hot hl k6
  by_cases k7 : o.kd % 14 = 7
  · rw [show playD room d o = syncD d o.nm by unfold playD; rw [if_neg k0, if_pos (.inr k7)]]
    exact fdoes_7 o h hn hot hl k7
  by_cases k8 : o.kd % 14 = 8
  · rw [show playD room d o = cutD d o.nm o.n by unfold playD; rw [if_neg k0, if_neg (by omega), if_pos k8]]
    exact fdoes_8 o h hn hot hl k8
  by_cases k9 : o.kd % 14 = 9
  · rw [show playD room d o = renameD d o.nm o.ot by unfold playD; rw [if_neg k0, if_neg (by omega), if_neg k8, if_pos k9]]
    exact fdoes_9 o h hn hot hl k9
  by_cases k10 : o.kd % 14 = 10
  · rw [show playD room d o = removeD d o.nm by unfold playD; rw [if_neg k0, if_neg (by omega), if_neg k8, if_neg k9, if_pos k10]]
    exact fdoes_10 o h hn hot hl k10
  rw [show playD room d o = appendD room d o.nm o.b by unfold playD; rw [if_neg k0, if_neg (by omega), if_neg k8, if_neg k9, if_neg k10]]
  exact fdoes_append o h hn hB hA hl hr hu hpl hur ⟨k0, by omega⟩

theorem tmod_lt (n : Int) : (n.tmod 20).toNat ≤ 20 := by
  have := Int.tmod_lt_of_pos n (show (0 : Int) < 20 by omega)
  omega
/-- a call's bounds -/
theorem fstep_keeps {room : Nat} {d : Fd} {o : Op8} {T : List Ft} (h : Fi d T) (hu : usedD d + o.b.length ≤ 100000) (hl : d.P.length < 1000000) (hr : usedD d ≤ room) (hf : d.lf ≤ 20) :
    usedD (fstep room d o) ≤ room ∧ usedD (fstep room d o) ≤ usedD d + o.b.length ∧ (fstep room d o).P.length ≤ d.P.length + 1 ∧ (fstep room d o).lf ≤ 20 := by
  unfold fstep
  by_cases k11 : o.kd % 14 = 11
  · rw [if_pos k11]
    have h1 := used_crash h (kpt o.kp) o.to_
    have h2 := lp_crash d (kpt o.kp) o.to_
    exact ⟨by omega, by omega, by have := h2.2; omega, by have := h2.1; omega⟩
  by_cases k12 : o.kd % 14 = 12
  · rw [if_neg k11, if_pos k12]
    have e1 : usedD (haltD d (o.n.tmod 20)) = usedD d := rfl
    have e2 : (haltD d (o.n.tmod 20)).P = d.P := rfl
    exact ⟨by omega, by omega, by rw [e2]; omega, tmod_lt o.n⟩
  by_cases k13 : o.kd % 14 = 13
  · rw [if_neg k11, if_neg k12, if_pos k13]
    exact ⟨hr, by omega, by omega, hf⟩
  · rw [if_neg k11, if_neg k12, if_neg k13]
    have h1 := play_room (o := o) (room := (room : Int)) h hu hl (by omega)
    have h2 := play_used (o := o) (room := (room : Int)) h hu hl
    have h3 := lp_play (room : Int) d o
    exact ⟨by omega, h2, h3.2, by have := h3.1; omega⟩

theorem rnew_bad (room : Int) (w : World) (hr : room < 0 ∨ 1048576 < room) :
    Calls Try.prog 24 #[.int .i64 room] w fun e w' => e = .returned (.pointer none) ∧ w' = w := by
  by_cases h0 : room < 0
  · have d0 : decide (room < 0) = true := decide_eq_true h0
    clear hr
    go_enter Try.func24, Try.ntmps24
    go_wp2_with fail
    go_ret
    exact ⟨rfl, rfl⟩
  · have d0 : decide (room < 0) = false := decide_eq_false h0
    have d1 : decide (1048576 < room) = true := decide_eq_true (by omega)
    have n1 : 1048576 < room := by omega
    clear hr
    go_enter Try.func24, Try.ntmps24
    go_wp2_with fail
    go_ret
    exact ⟨rfl, rfl⟩
theorem rnew_any (room : Nat) (hr : room ≤ 1048576) {B qs : Nat} {w0 w : World} (h : FsI B w0 w qs room [] fd0) :
    Calls Try.prog 24 #[.int .i64 (room : Nat)] w fun e w' => ∃ qr, e = .returned (.pointer (some ⟨qr, 0, none⟩)) ∧ Bd B w0 w' qs qr room [] fd0 fd0 := by
  have d0 : decide ((room : Int) < 0) = false := decide_eq_false (by omega)
  have d1 : decide ((1048576 : Int) < (room : Int)) = false := decide_eq_false (by omega)
  have n0 : ¬ (room : Int) < 0 := by omega
  have n1 : ¬ (1048576 : Int) < (room : Int) := by omega
  have hno : ∀ k, (Value.slice none 0 0).ownBlock = some k → w.heap.size ≤ k := fun k e => by simp [Value.ownBlock] at e
  have s1 := h.cons (t := thRP (.slice none 0 0) []) (Below.refl _ _) (OwnR.nil _ _ _ _ _) hno
  have s2 := s1.cons (t := thRF (.slice none 0 0) []) (Below.refl _ _) (OwnR.nil _ _ _ _ _) hno
  have s3 := s2.cons (t := thB w.heap.size 96 (rfc room (.slice none 0 0) (.slice none 0 0) false 0 false)) (below_alloc _ _) (Blk.new _ _ _) (fun k e => by
    have e : k = w.heap.size := e
    omega)
  have HE := Lib.hid (show Bd B w0 (w.alloc (.cells (rfc room (.slice none 0 0) (.slice none 0 0) false 0 false) 96)) qs w.heap.size room [] fd0 fd0 from ⟨.slice none 0 0, .slice none 0 0, [], [], 0, s3, rfl, rfl, fun h => by cases h⟩)
  clear s1 s2 s3 h hr hno
  unfold rfc at HE
  obtain ⟨W, hW⟩ : ∃ W, W = w.alloc (.cells #[.int .i64 (room : Nat), .slice none 0 0, .slice none 0 0, .bool false, .int .i64 ((0 : Nat) : Int), .bool false] 96) := ⟨_, rfl⟩
  rw [← hW] at HE
  go_enter Try.func24, Try.ntmps24
  go_wp2_with fail
  go_ret
  exact ⟨_, rfl, by first | exact HE.out | (rw [hW] at HE; exact HE.out)⟩

end Go.Proofs.Ytiogckgchlnldaa

/- Layer 8: walk of FsDoes. -/
set_option linter.unusedSimpArgs false
set_option linter.unusedVariables false
namespace Go.Proofs.Ytiogckgchlnldaa
open Go.RowKit
set_option maxRecDepth 100000

theorem Bd.fi {B qs qr room : Nat} {w0 w : World} {ts : List Kt} {da db : Fd} (h : Bd B w0 w qs qr room ts da db) : ∃ T, Fi da T := by
  obtain ⟨us, h⟩ := h.prog
  exact h.fi

set_option maxHeartbeats 8000000 in
theorem fsDoes_walk (room : Int) (V : Option Addr) (cv : Nat) (l : List Op8) (w : World) (hV : Rw w encOp8 7 V l) (hl : l.length ≤ maxLen) (ho : ∀ o ∈ l, o.ok w) :
    Calls Try.prog 4 #[.int .i64 room, .slice V l.length cv] w fun e w' => e = .returned (.bool true) ∧ Below w.heap.size w w' := by
  have HK := Lib.hid (fun w => fknown8_any w)
  have HH := Lib.hid (heavy8_any V cv l w hV hl)
  obtain ⟨n, hn⟩ : ∃ n, n = l.length := ⟨_, rfl⟩
  rw [← hn] at HH ⊢
  cases hh : heavyL l with
  | true =>
    rw [hh] at HH
    clear hV hl ho hn hh
    go_enter Try.func4, Try.ntmps4
    go_wp2_with fail
    refine HH.out.mono ?_
    rintro e w1 ⟨rfl, h1⟩
    have H1 := Lib.hid h1
    clear h1 HH
    go_wp2_with fail
    refine (HK.out w1).mono ?_
    rintro e w2 ⟨rfl, h2⟩
    have H2 := Lib.hid h2
    clear h2 HK
    go_wp2_with fail
    go_ret
    exact ⟨rfl, on1 H1.out H2.out⟩
  | false =>
    rw [hh] at HH
    obtain ⟨hn50, hbg⟩ := heavyL_no hh
    have HI := Lib.hid (And.intro hV (And.intro hn (And.intro hn50 (And.intro hbg ho))))
    clear hV hl ho hn hh hn50 hbg
    by_cases hr : room < 0 ∨ 1048576 < room
    · have HN := Lib.hid (fun w => new_bad room w hr)
      have HR := Lib.hid (fun w => rnew_bad room w hr)
      clear hr
      go_enter Try.func4, Try.ntmps4
      go_wp2_with fail
      refine HH.out.mono ?_
      rintro e w1 ⟨rfl, h1⟩
      have H1 := Lib.hid h1
      clear h1 HH
      go_wp2_with fail
      refine (HK.out w1).mono ?_
      rintro e w2 ⟨rfl, h2⟩
      have H2 := Lib.hid (on1 H1.out h2)
      clear h2 HK H1
      go_wp2_with fail
      refine (HN.out w2).mono ?_
      rintro e w3 ⟨rfl, hw⟩
      rw [hw]
      clear hw HN
      go_wp2_with fail
      refine (HR.out w2).mono ?_
      rintro e w3 ⟨rfl, hw⟩
      rw [hw]
      clear hw HR
      go_wp2_with fail
      go_ret
      exact ⟨rfl, H2.out⟩
    · obtain ⟨room, rfl⟩ := Int.eq_ofNat_of_zero_le (show 0 ≤ room by omega)
      have hr : room ≤ 1048576 := by omega
      have Hr := Lib.hid hr
      go_enter Try.func4, Try.ntmps4
      go_wp2_with fail
      refine HH.out.mono ?_
      rintro e w1 ⟨rfl, h1⟩
      have H1 := Lib.hid h1
      clear h1 HH
      go_wp2_with fail
      refine (HK.out w1).mono ?_
      rintro e w2 ⟨rfl, h2⟩
      have H2 := Lib.hid (on1 H1.out h2)
      have HC := Lib.hid (new_any (Sep.nil H2.out H2.out.size) room Hr.out)
      clear h2 HK H1
      go_wp2_with fail
      refine HC.out.mono ?_
      rintro e w3 ⟨q, rfl, h3⟩
      have HR := Lib.hid (rnew_any room Hr.out h3)
      clear h3 HC H2
      go_wp2_with fail
      refine HR.out.mono ?_
      rintro e w4 ⟨qr, rfl, h4⟩
      have H4 := Lib.hid h4
      clear h4 HR
      go_wp2_with fail
      go_loopw [7] (fun s wr => ∃ k : Nat, k ≤ n ∧ s = .int .i64 k ∧ Hid (∃ d, Bd w.heap.size w wr q qr room [] d d ∧ usedD d ≤ room ∧ usedD d ≤ 300 * k ∧ d.P.length ≤ k ∧ d.lf ≤ 20)) (fun s _ => n - (intOf s).toNat)
      case atStart => exact ⟨0, Nat.zero_le _, rfl, Lib.hid ⟨fd0, H4.out, Nat.zero_le _, Nat.zero_le _, Nat.zero_le _, Nat.zero_le _⟩⟩
      case round =>
        obtain ⟨k, hkn, rfl, HR⟩ := hrel
        clear H4
        have hn50 := HI.out.2.2.1
        rw [← HI.out.2.1] at hn50
        by_cases hlt : k < n
        · obtain ⟨o, hx⟩ : ∃ x, l[k]? = some x := ⟨_, List.getElem?_eq_getElem (by rw [← HI.out.2.1]; exact hlt)⟩
          obtain ⟨d, r1, r2, r3, r4, r5⟩ := HR.out
          obtain ⟨p, f, rfl, hc⟩ := HI.out.1 k o hx
          have hom := List.mem_of_getElem? hx
          obtain ⟨g1, g2, g3, g4⟩ := bigO_no (HI.out.2.2.2.1 o hom)
          obtain ⟨ok1, ok2, ok3, ok4, ok5, ok6, ok7, ok8, ok9⟩ := HI.out.2.2.2.2 o hom
          have hkl : (k : Int) < (n : Int) := by omega
          have hk0 : (0 : Int) ≤ (k : Int) := by omega
          obtain ⟨T, hT⟩ := r1.fi
          have hk2 := fstep_keeps (o := o) (room := room) hT (by omega) (by omega) r2 r5
          have HC := Lib.hid (fdoes_any o r1 ok2 ok3 (Nat.le_refl _) ok4 ok7 (by omega) (by omega) Hr.out (by omega) (by omega) r2)
          obtain ⟨d', hd'⟩ : ∃ d', d' = fstep room d o := ⟨_, rfl⟩
          rw [← hd'] at HC hk2
          have e1 : wr.cell? ⟨p, f + k * 7, none⟩ = some (.int .u8 (o.kd : Nat)) := r1.old (Nat.le_refl _) (hc 0 _ rfl)
          have e2 : wr.cell? ⟨p, f + k * 7 + 1, none⟩ = some (.string ⟨o.nm.toArray⟩) := r1.old (Nat.le_refl _) (hc 1 _ rfl)
          have e3 : wr.cell? ⟨p, f + k * 7 + 2, none⟩ = some (.string ⟨o.ot.toArray⟩) := r1.old (Nat.le_refl _) (hc 2 _ rfl)
          have e4 : wr.cell? ⟨p, f + k * 7 + 3, none⟩ = some (.slice o.A o.b.length o.c) := r1.old (Nat.le_refl _) (hc 3 _ rfl)
          have e5 : wr.cell? ⟨p, f + k * 7 + 4, none⟩ = some (.int .i64 o.n) := r1.old (Nat.le_refl _) (hc 4 _ rfl)
          have e6 : wr.cell? ⟨p, f + k * 7 + 5, none⟩ = some (.slice o.KA o.kp.length o.kc) := r1.old (Nat.le_refl _) (hc 5 _ rfl)
          have e7 : wr.cell? ⟨p, f + k * 7 + 6, none⟩ = some (.int .i64 o.to_) := r1.old (Nat.le_refl _) (hc 6 _ rfl)
          have HN := Lib.hid (show usedD d' ≤ room ∧ usedD d' ≤ 300 * (k + 1) ∧ d'.P.length ≤ k + 1 ∧ d'.lf ≤ 20 from ⟨hk2.1, by have := hk2.2.1; omega, by have := hk2.2.2.1; omega, hk2.2.2.2⟩)
          clear r1 r2 r3 r4 r5 HR hc hx hom hk2 hd' hT T g1 g2 g3 g4 ok1 ok2 ok3 ok4 ok5 ok6 ok7 ok8 ok9
          go_wp2_with fail
          refine HC.out.mono ?_
          rintro e w5 ⟨rfl, h5⟩
          have H5 := Lib.hid h5
          have HS := Lib.hid (fsame_any h5)
          clear h5 HC e1 e2 e3 e4 e5 e6 e7
          go_wp2_with fail
          refine HS.out.mono ?_
          rintro e w6 ⟨rfl, h6⟩
          have H6 := Lib.hid (H5.out.go h6)
          clear h6 HS H5
          go_wp2_with fail
          go_roundw
          case measure => simp [intOf]; omega
          case rel => exact ⟨k + 1, by omega, by go_num, Lib.hid ⟨d', H6.out, HN.out⟩⟩
        · obtain rfl : k = n := by omega
          have hkk : ¬ ((k : Int) < (k : Int)) := by omega
          obtain ⟨d, r1, r2⟩ := HR.out
          have HS := Lib.hid (fsame_any r1)
          have HB := Lib.hid r1.b
          clear r1 r2 HR
          go_wp2_with fail
          refine HS.out.mono ?_
          rintro e w6 ⟨rfl, h6⟩
          have H6 := Lib.hid (on1 HB.out h6)
          clear h6 HS HB
          go_wp2_with fail
          go_ret
          exact ⟨rfl, H6.out⟩

end Go.Proofs.Ytiogckgchlnldaa
