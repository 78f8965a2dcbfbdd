/- Joined: Tm2. -/
import Derived.Test.YtnjcdihgaidlbaaGreatDoorQ29
import Derived.Test.YtnjcdihgaidlbaaGreatDoorQ16
import Derived.Test.YtnjcdihgaidlbaaGreatDoorQ34
import Derived.Deep.LoopGhost
set_option linter.unusedSimpArgs false
set_option linter.unusedVariables false
set_option linter.unusedSimpArgs false
set_option linter.unusedVariables false
namespace Go.Proofs.YtnjcdihgaidlbaaGreatDoor
open Go.RowKit
set_option maxRecDepth 100000
def dueC (tk now : Nat) (c : Nat × Nat) : Nat × Nat := if c.1 ≤ now then almD tk now (min (c.2 + 1) 4) else c
def OutU (M : List (Nat × Nat × Nat)) (now : Nat) (l : List Nat) : Prop := l.Pairwise (· < ·) ∧ ∀ k, k ∈ l ↔ ∃ c, lookM M k = some c ∧ c.1 ≤ now
theorem cnt_lt {ks : List Nat} {lf : Nat → Bool} {k : Nat} (hk : k ∈ ks) (hl : lf k = true) : (ks.filter fun j => lf j && !(j == k)).length < (ks.filter lf).length := by
 have hle : ∀ ks : List Nat, (ks.filter fun j => lf j && !(j == k)).length ≤ (ks.filter lf).length := fun ks => by
  induction ks with
  | nil => exact Nat.le_refl _
  | cons a ks ih =>
   rw [List.filter_cons, List.filter_cons]
   by_cases ha : lf a = true
   ·rw [if_pos ha]
    split
    ·simpa using ih
    ·simp only [List.length_cons]; omega
   ·rw [if_neg ha, if_neg (by simp [ha])]; exact ih
 induction ks with
 | nil => cases hk
 | cons a ks ih =>
  rw [List.filter_cons, List.filter_cons]
  by_cases ha : a = k
  ·subst ha
   rw [if_pos hl, if_neg (by simp)]
   have := hle ks
   simp only [List.length_cons]; omega
  ·have hk' : k ∈ ks := by rcases List.mem_cons.1 hk with h | h; exact absurd h.symm ha; exact h
   by_cases hla : lf a = true
   ·rw [if_pos hla, if_pos (by simp [hla, ha])]
    simpa using ih hk'
   ·rw [if_neg hla, if_neg (by simp [hla])]; exact ih hk'
structure DuI (M0 M : List (Nat × Nat × Nat)) (tk now : Nat) (lf : Nat → Bool) (l : List Nat) : Prop where
 keys : M.map Prod.fst = M0.map Prod.fst
 look : ∀ k, lookM M k = (lookM M0 k).map fun c => if lf k then c else dueC tk now c
 nd : l.Nodup
 mem : ∀ k, k ∈ l ↔ lf k = false ∧ ∃ c, lookM M0 k = some c ∧ c.1 ≤ now
 len : l.length + (M0.map Prod.fst |>.filter lf).length ≤ M0.length
theorem DuI.start (M0 : List (Nat × Nat × Nat)) (tk now : Nat) : DuI M0 M0 tk now (fun _ => true) [] := by
 refine ⟨rfl, fun k => ?_, List.nodup_nil, fun k => ⟨fun h => (by cases h), fun h => (by cases h.1)⟩, ?_⟩
 ·cases lookM M0 k <;> rfl
 ·have := List.length_filter_le (fun _ => true) (M0.map Prod.fst)
  rw [List.length_map] at this
  simpa using this
theorem DuI.next {M0 M : List (Nat × Nat × Nat)} {tk now : Nat} {lf : Nat → Bool} {l : List Nat} (h : DuI M0 M tk now lf l) (hn : (M.map Prod.fst).Nodup) {k : Nat} {c : Nat × Nat} (hm : (k, c) ∈ M) (hl : lf k = true) :
  lookM M0 k = some c ∧ lookM M k = some c ∧ (¬ c.1 ≤ now → DuI M0 M tk now (fun j => lf j && !(j == k)) l) ∧ (c.1 ≤ now → DuI M0 (putM M k (almD tk now (min (c.2 + 1) 4))) tk now (fun j => lf j && !(j == k)) (l ++ [k])) := by
 have hk : lookM M k = some c := lookM_of_mem hn hm
 have h0 : lookM M0 k = some c := by
  have := h.look k
  rw [hk, hl] at this
  cases h1 : lookM M0 k with
  | none => rw [h1] at this; cases this
  | some d => rw [h1] at this; simpa using this.symm
 have hcnt := cnt_lt (lf := lf) (k := k) (ks := M0.map Prod.fst) (by rw [← h.keys]; exact List.mem_map_of_mem (f := Prod.fst) hm) hl
 have hlen := h.len
 have hfk : ∀ j, j ≠ k → (lf j && !(j == k)) = lf j := fun j hj => by simp [hj]
 have hkk : (lf k && !(k == k)) = false := by simp
 refine ⟨h0, hk, fun hd => ⟨h.keys, fun j => ?_, h.nd, fun j => ?_, by omega⟩, fun hd => ⟨?_, fun j => ?_, ?_, fun j => ?_, ?_⟩⟩
 ·by_cases hj : j = k
  ·subst hj
   rw [hk, h0, Option.map_some, hkk]
   unfold dueC
   rw [if_neg hd]
   simp
  ·rw [hfk j hj]; exact h.look j
 ·by_cases hj : j = k
  ·subst hj
   rw [h.mem, hkk]
   constructor
   ·intro h1; rw [hl] at h1; cases h1.1
   ·rintro ⟨-, d, h1, h2⟩
    rw [h0] at h1
    injection h1 with h1
    subst h1
    exact absurd h2 hd
  ·rw [hfk j hj]; exact h.mem j
 ·rw [put_keys, if_pos (by rw [hk]; rfl)]; exact h.keys
 ·rw [look_put]
  by_cases hj : j = k
  ·subst hj
   rw [if_pos rfl, h0, Option.map_some, hkk]
   unfold dueC
   rw [if_pos hd]
   simp
  ·rw [if_neg hj, hfk j hj]; exact h.look j
 ·rw [List.nodup_append]
  refine ⟨h.nd, by simp, fun a ha b hb => ?_⟩
  rw [List.mem_singleton] at hb
  intro e
  rw [e, hb, h.mem, hl] at ha
  cases ha.1
 ·rw [List.mem_append, List.mem_singleton]
  by_cases hj : j = k
  ·subst hj
   rw [hkk]
   exact ⟨fun _ => ⟨rfl, c, h0, hd⟩, fun _ => .inr rfl⟩
  ·rw [hfk j hj, h.mem]
   exact ⟨fun h1 => h1.resolve_right hj, .inl⟩
 ·rw [List.length_append]
  simp only [List.length_singleton]
  omega
theorem DuI.done {M0 M : List (Nat × Nat × Nat)} {tk now : Nat} {lf : Nat → Bool} {l : List Nat} (h : DuI M0 M tk now lf l) (hf : ∀ p ∈ M, lf p.1 = false) {l' : List Nat} (hp : l'.Perm l) (hs : l'.Pairwise (· ≤ ·)) :
  OutU M0 now l' ∧ ∀ k, lookM M k = (lookM M0 k).map (dueC tk now) := by
 have hall : ∀ k c, lookM M0 k = some c → lf k = false := fun k c hc => by
  have : lookM M k = some (if lf k then c else dueC tk now c) := by rw [h.look, hc]; rfl
  exact hf _ (lookM_mem this)
 refine ⟨⟨?_, fun k => ?_⟩, fun k => ?_⟩
 ·have hn : l'.Nodup := (hp.nodup_iff).2 h.nd
  exact (hs.and hn).imp fun h1 => Nat.lt_of_le_of_ne h1.1 h1.2
 ·rw [hp.mem_iff, h.mem]
  exact ⟨fun h1 => h1.2, fun ⟨c, h1, h2⟩ => ⟨hall k c h1, c, h1, h2⟩⟩
 ·rw [h.look]
  cases hc : lookM M0 k with
  | none => rfl
  | some c => rw [Option.map_some, Option.map_some, hall k c hc]; rfl
set_option maxHeartbeats 8000000 in
theorem tdue_any {B : Nat} {w0 w : World} {ts : List Kt} {q tk : Nat} {M : List (Nat × Nat × Nat)} (h : Tm B w0 w q tk M ts) (now : Nat) (hnow : now < 18446744073709551616) (htk : tk ≤ 1000) (hM : M.length ≤ 1000000) (ht4 : ∀ k c, lookM M k = some c → c.2 ≤ 4) :
  Calls Tryz.prog 51 #[.pointer (some ⟨q, 0, none⟩), .int .u64 (now : Nat)] w fun e w' => ∃ (v : Value) (l : List Nat) (M' : List (Nat × Nat × Nat)), e = .returned v ∧ Tm B w0 w' q tk M' (thR 30 encU 1 v l :: ts) ∧ OutU M now l ∧ (∀ k, lookM M' k = (lookM M k).map (dueC tk now)) ∧ M'.map Prod.fst = M.map Prod.fst ∧ l.length ≤ M.length := by
 have hmx : Tryz.prog.follows .mixedOrders = true := by kernel_rfl
 obtain ⟨b, hs⟩ := h
 have C : cellsSay w q 0 [.int .u64 (tk : Nat), .map (some b)] := cells_say (hs.blk 0) _ 0 rfl
 simp only [cellsSay, Nat.reduceAdd, and_true] at C
 have hmu : Mu alV w b M := hs.at_ 1 rfl
 obtain ⟨r, hr⟩ : ∃ r, r = w.heap.size := ⟨_, rfl⟩
 have H0 := Lib.hid (And.intro hs hr)
 have HT := Lib.hid ht4
 clear hs ht4 hr
 go_enter Tryz.func51, Tryz.ntmps51
 go_wp2_with (at_range; go_must (refine step_rangeU rfl _ rfl tmU rfl hmu ?_); intro w1 hru hg1 hs1)
 go_frame
 have HL : Hid (∃ (l : List Nat) (M1 : List (Nat × Nat × Nat)) (lf : Nat → Bool), Sep B w0 w1 (thB q 135 #[.int .u64 (tk : Nat), .map (some b)] :: thRu alV b r M1 lf :: thR 30 encU 1 (.slice none 0 0) l :: ts) ∧ DuI M M1 tk now lf l ∧ (M.map Prod.fst |>.filter lf).length = (M.map Prod.fst |>.filter fun _ => true).length) := by
  have S1 : Sep B w0 w1 (thB q 135 #[.int .u64 (tk : Nat), .map (some b)] :: thRu alV b r M (fun _ => true) :: ts) :=
   H0.out.1.call (t' := thRu alV b r M (fun _ => true)) 1 rfl (Tou.of_grown hg1 (fun j e => by cases e)) (by rw [H0.out.2]; exact hru) (fun j hj => by
    rcases hj with hj | hj
    ·exact .inl hj
    ·exact .inr (by rw [hj, H0.out.2]; exact Nat.le_refl _))
  have S2 := S1.cons (t := thR 30 encU 1 (.slice none 0 0) ([] : List Nat)) (Below.refl _ _) (OwnR.nil _ _ _ _ _) (fun k e => by cases e)
  have S3 := srt_perm S2 ((List.Perm.swap _ _ _).trans ((List.Perm.swap _ _ _).cons _))
  exact Lib.hid ⟨[], M, _, S3, DuI.start M tk now, rfl⟩
 have Hr := Lib.hid H0.out.2
 rw [← H0.out.2]
 clear H0 hmu C hru hg1 hs1
 go_loopg [5] ((M.map Prod.fst |>.filter fun _ => true).length) (fun gh s5 wr => ∃ (v : Value) (l : List Nat) (M1 : List (Nat × Nat × Nat)) (lf : Nat → Bool), v = s5 ∧ Hid (Sep B w0 wr (thB q 135 #[.int .u64 (tk : Nat), .map (some b)] :: thRu alV b r M1 lf :: thR 30 encU 1 v l :: ts) ∧ DuI M M1 tk now lf l ∧ (M.map Prod.fst |>.filter lf).length = gh))
 case atStart => exact HL.out.elim fun l h => h.elim fun M1 h => h.elim fun lf h => ⟨_, l, M1, lf, rfl, Lib.hid h⟩
 case round =>
  obtain ⟨v, l, M1, lf, rfl, HR⟩ := hrel
  clear HL
  have hru : Ru alV wr b r M1 lf := HR.out.1.at_ 1 rfl
  go_wp2_with (at_next; go_must (refine step_nextU rfl _ rfl rfl hru ?_ ?_))
  ·intro hl0
   have HD : Hid (∀ p ∈ M1, lf p.1 = false) := Lib.hid fun p hp => hl0 p.1 p.2.1 p.2.2 hp
   clear hl0 hru
   have hrow : OwnR wr 0 30 encU 1 v l := HR.out.1.at_ 2 rfl
   have hll : l.length ≤ 1000000 := by have := HR.out.2.1.len; omega
   rcases row_cases hrow with ⟨rfl, hl0⟩ | ⟨g, n, c, rfl, hln⟩
   ·have HS := Lib.hid (sort_nil wr)
    have HZ := Lib.hid hl0
    clear hrow hl0
    go_wp2_with fail
    refine HS.out.mono ?_
    rintro e w3 ⟨rfl, hw3⟩
    rw [hw3]
    clear hw3 HS
    go_wp2_with fail
    go_ret
    have h9 := HR.out.2.1.done HD.out (List.Perm.refl l) (by rw [HZ.out]; exact List.Pairwise.nil)
    exact ⟨_, l, M1, rfl, ⟨b, srt_perm ((HR.out.1.call (t' := thMu alV b M1) 1 rfl (Tou.refl _ _) (Ru.mu (HR.out.1.at_ 1 rfl)) (fun j hj => .inl (.inl hj)))) (List.Perm.refl _)⟩, h9.1, h9.2, HR.out.2.1.keys, by have := HR.out.2.1.len; omega⟩
   ·have S1 := srt_perm HR.out.1 (((List.Perm.swap _ _ _).cons _).trans (List.Perm.swap _ _ _))
    have HS := Lib.hid (sort_u32 (show Sep B w0 wr (thS g n c l.toArray :: thB q 135 #[.int .u64 (tk : Nat), .map (some b)] :: thRu alV b r M1 lf :: ts) from S1) (by omega))
    clear hrow S1 hln
    go_wp2_with fail
    refine HS.out.mono ?_
    rintro e w3 ⟨rfl, d', h3, h4⟩
    have H3 := Lib.hid (And.intro h3 h4)
    clear h3 h4 HS
    go_wp2_with fail
    go_ret
    have h9 := HR.out.2.1.done HD.out (l' := d'.toList) H3.out.2.1 H3.out.2.2
    have S3 := srt_perm H3.out.1 ((List.Perm.swap _ _ _).trans ((List.Perm.swap _ _ _).cons _))
    exact ⟨_, d'.toList, M1, rfl, ⟨b, S3.call (t' := thMu alV b M1) 1 rfl (Tou.refl _ _) (Ru.mu (S3.at_ 1 rfl)) (fun j hj => .inl (.inl hj))⟩, h9.1, h9.2, HR.out.2.1.keys, by have h8 := HR.out.2.1.len; have h7 := H3.out.2.1.length_eq; simp only at h7; omega⟩
  ·intro k du tr w2 hm hlk hru2 hg2 hs2 hen
   have S2 : Sep B w0 w2 (thB q 135 #[.int .u64 (tk : Nat), .map (some b)] :: thRu alV b r M1 (fun j => lf j && !(j == k)) :: thR 30 encU 1 v l :: ts) :=
    HR.out.1.call (t' := thRu alV b r M1 (fun j => lf j && !(j == k))) 1 rfl (Tou.of_grown hg2 (fun j e => by injection e with e; exact .inr e.symm)) hru2 (fun j hj => .inl hj)
   obtain ⟨h0, hk1, hnd, hd⟩ := HR.out.2.1.next (Ru.mu hru).nodup hm hlk
   have htr : tr ≤ 4 := HT.out k (du, tr) h0
   have hkl : k < 4294967296 := (Ru.mu hru).keys _ hm
   have hll : l.length ≤ 1000000 := by have := HR.out.2.1.len; omega
   have hcn : Hid ((M.map Prod.fst |>.filter fun j => lf j && !(j == k)).length < gk) := Lib.hid (by
    rw [← HR.out.2.2]
    exact cnt_lt (by rw [← HR.out.2.1.keys]; exact List.mem_map_of_mem (f := Prod.fst) hm) hlk)
   obtain ⟨g7, hg7⟩ : ∃ g7, g7 = w2.heap.size := ⟨_, rfl⟩
   obtain ⟨W, hW⟩ : ∃ W, W = w2.alloc (.cells #[.int .u64 (du : Nat), .int .i64 (tr : Nat)] 141) := ⟨_, rfl⟩
   have S3 : Sep B w0 W (thB g7 141 #[.int .u64 (du : Nat), .int .i64 (tr : Nat)] :: thB q 135 #[.int .u64 (tk : Nat), .map (some b)] :: thRu alV b r M1 (fun j => lf j && !(j == k)) :: thR 30 encU 1 v l :: ts) := by
    rw [hW, hg7]; exact S2.box _ _
   have H3 := Lib.hid (And.intro S3 (And.intro hk1 (And.intro hnd hd)))
   clear hru hm hlk hru2 hg2 hs2 S2 h0 hk1 hnd hd HR S3
   go_upto_region 5 with fail
   rw [← hW, ← hg7]
   clear hW hg7 hen
   simp only [kuV, alV]
   have C7 : cellsSay W g7 0 [.int .u64 (du : Nat), .int .i64 (tr : Nat)] := cells_say (H3.out.1.blk 0) _ 0 rfl
   simp only [cellsSay, Nat.reduceAdd, and_true] at C7
   by_cases hdu : du ≤ now
   ·have hg : decide ((du : Int) ≤ (now : Int)) = true := decide_eq_true (by omega)
    have hg' : (du : Int) ≤ (now : Int) := by omega
    have HD := Lib.hid (H3.out.2.2.2 hdu)
    clear hdu
    go_upto_region 7 with (at_builtin; go_must (refine sep_app1 Tryz.eltU rfl (.tmp 22) (.tmp 24) rfl 3 v l rfl (H3.out.1.go (below_alloc W _)) rfl W.heap.size 1 k 30 #[.int .u32 ((k : Nat) : Int)] rfl (Blk.new W _ _) rfl (by unfold maxLen; omega) (by omega) ?_); intro g5 c5 w5 h5)
    obtain ⟨n5, hn5⟩ : ∃ n, n = l.length + 1 := ⟨_, rfl⟩
    have h6 : Sep B w0 w5 (thB g7 141 #[.int .u64 (du : Nat), .int .i64 (tr : Nat)] :: thB q 135 #[.int .u64 (tk : Nat), .map (some b)] :: thRu alV b r M1 (fun j => lf j && !(j == k)) :: thR 30 encU 1 (.slice (some ⟨g5, 0, none⟩) n5 c5) (l ++ [k]) :: ts) := by rw [hn5]; exact h5
    rw [← hn5]
    obtain ⟨kk, hkk⟩ : ∃ x, x = min (tr + 1) 4 := ⟨_, rfl⟩
    have hmn : min ((tr : Int) + 1) 4 = (kk : Int) := by omega
    have hkk4 : kk ≤ 4 := by omega
    rw [← hkk] at HD
    have Cq : ∀ y : More, (plus w5 y).cell? ⟨q, 1, none⟩ = some (.map (some b)) := fun y => ((h6.go (plus_below w5 y)).blk 1).cell 1
    have Ca : ∀ y : More, (plus w5 y).cell? ⟨g7, 1, none⟩ = some (.int .i64 (tr : Nat)) := fun y => ((h6.go (plus_below w5 y)).blk 0).cell 1
    have HA := Lib.hid (fun (y : More) => alarm_any (plus w5 y) q tk now kk _ ((h6.go (plus_below w5 y)).blk 1) htk hnow hkk4)
    obtain ⟨⟨xa, xb⟩, hxa⟩ : ∃ x, x = almD tk now kk := ⟨_, rfl⟩
    rw [← hxa] at HA HD
    have H6 := Lib.hid h6
    clear h5 h6 hn5 hkk hxa C7
    go_upto_region 7 with fail
    refine wp_region_tail_ext 12 (by kernel_rfl) (by kernel_rfl) ?_
    simp only [List.take_succ_cons, List.take_zero, List.drop_succ_cons, List.drop_zero]
    repeat (go_big_quiet_step ((go_at_call 70; exact ext_of (HA.out _))))
    refine wpQuiet_nil ?_
    rintro w6 ⟨y, rfl⟩
    have H7 := Lib.hid (H6.out.go (plus_below w5 y))
    have hru : Ru alV (plus w5 y) b r M1 (fun j => lf j && !(j == k)) := H7.out.at_ 2 rfl
    have hkc : lookM M1 k = some (du, tr) := H3.out.2.1
    clear Cq Ca HA
    go_wp2_with (at_mapUpdate; go_must (refine step_putRu rfl (.tmp 29) (.tmp 30) (.tmp 37) rfl tmU rfl hru k (du, tr) hkc rfl (xa, xb) rfl ?_); intro w7 hru7 hg7)
    have H8 := Lib.hid (H7.out.call (t' := thRu alV b r (putM M1 k (xa, xb)) (fun j => lf j && !(j == k))) 2 rfl (Tou.of_grown hg7 (fun j e => by injection e with e; exact .inl e.symm)) hru7 (fun j hj => .inl hj))
    clear hru hkc hru7 hg7
    go_roundg ((M.map Prod.fst |>.filter fun j => lf j && !(j == k)).length)
    case measure => exact hcn.out
    case rel => exact ⟨_, l ++ [k], _, _, rfl, Lib.hid ⟨H8.out.tail, HD.out, rfl⟩⟩
   ·have hg : decide ((du : Int) ≤ (now : Int)) = false := decide_eq_false (by omega)
    have hg' : ¬ (du : Int) ≤ (now : Int) := by omega
    have HD := Lib.hid (H3.out.2.2.1 hdu)
    clear hdu
    go_wp2_with fail
    go_roundg ((M.map Prod.fst |>.filter fun j => lf j && !(j == k)).length)
    case measure => exact hcn.out
    case rel => exact ⟨v, l, M1, _, rfl, Lib.hid ⟨H3.out.1.tail, HD.out, rfl⟩⟩
end Go.Proofs.YtnjcdihgaidlbaaGreatDoor
