/- Joined: Tm1. -/
import Derived.Test.YtnjcdihgaidlbaaGreatDoorQ18
import Derived.Test.YtnjcdihgaidlbaaGreatDoorQ10
import Derived.Deep.DeepCutAuto
import Derived.Carry
set_option linter.unusedSimpArgs false
set_option linter.unusedVariables false
set_option linter.unusedSimpArgs false
set_option linter.unusedVariables false
namespace Go.Proofs.YtnjcdihgaidlbaaGreatDoor
open Go.RowKit
set_option maxRecDepth 100000
abbrev alV (p : Nat × Nat) : Value := .agg #[.int .u64 ((p.1 : Nat) : Int), .int .i64 ((p.2 : Nat) : Int)]
def almD (tk now k : Nat) : Nat × Nat := ((now + tk * 2 ^ k) % 18446744073709551616, k)
abbrev TMT : TypeId := 133
theorem tmU : Tryz.prog.underlying TMT = some (.map KU 141) := Tryz.underlying133
theorem tmZ (w : World) : (zeroValue 141).run Tryz.prog w = .ok (alV (0, 0)) w := by kernel_rfl
def Tm (B : Nat) (w0 w : World) (q tk : Nat) (M : List (Nat × Nat × Nat)) (ts : List Kt) : Prop := ∃ b, Sep B w0 w (thB q 135 #[.int .u64 (tk : Nat), .map (some b)] :: thMu alV b M :: ts)
set_option maxHeartbeats 4000000 in
theorem alarm_any (w : World) (q tk now k : Nat) (m : Value) (hb : Blk w q 135 #[.int .u64 (tk : Nat), m]) (htk : tk ≤ 1000) (hnow : now < 18446744073709551616) (hk : k ≤ 4) :
  Calls Tryz.prog 70 #[.pointer (some ⟨q, 0, none⟩), .int .u64 (now : Nat), .int .i64 (k : Nat)] w fun e w' => e = .returned (alV (almD tk now k)) ∧ Below w.heap.size w w' := by
 obtain ⟨W, hW⟩ : ∃ W, W = w.alloc (.cells #[.int .u64 0, .int .i64 0] 141) := ⟨_, rfl⟩
 obtain ⟨g, hg⟩ : ∃ g, g = w.heap.size := ⟨_, rfl⟩
 have hbw : Below w.heap.size w W := by rw [hW]; exact below_alloc w _
 have c0 := (hb.below hbw hb.lt).cell 0
 have c0' : W.cell? ⟨q, 0, none⟩ = some (.int .u64 (tk : Nat)) := c0
 have cg : Blk W g 141 #[.int .u64 0, .int .i64 0] := by rw [hW, hg]; exact Blk.new _ _ _
 obtain ⟨P, hP⟩ : ∃ P : Nat, P = tk * 2 ^ k := ⟨_, rfl⟩
 have hP2 : P ≤ 16000 := by
  rw [hP]
  have h1 : 2 ^ k ≤ 16 := by
   have : 2 ^ k ≤ 2 ^ 4 := Nat.pow_le_pow_right (by omega) hk
   omega
  calc tk * 2 ^ k ≤ 1000 * 16 := Nat.mul_le_mul htk h1
   _ = 16000 := by decide
 have hv1 : IntKind.u64.wrap ((tk : Int) * (2 : Int) ^ k) = (P : Int) := by
  rw [show ((tk : Int) * (2 : Int) ^ k) = ((tk * 2 ^ k : Nat) : Int) by simp, ← hP, IntKind.wrap_u64]
  omega
 obtain ⟨S, hS⟩ : ∃ S : Nat, S = (now + P) % 18446744073709551616 := ⟨_, rfl⟩
 have hv2 : IntKind.u64.wrap ((now : Int) + (P : Int)) = (S : Int) := by rw [IntKind.wrap_u64, hS]; omega
 have hR : almD tk now k = (S, k) := by unfold almD; rw [hS, hP]
 have k0 : (0 : Int) ≤ (k : Int) := by omega
 have k64 : (k : Int) < 64 := by omega
 have HB := Lib.hid (And.intro cg (And.intro hbw (Nat.le_of_eq hg.symm)))
 rw [hR]
 clear hb c0 hP hS hR cg hbw
 go_enter Tryz.func70, Tryz.ntmps70
 go_upto_region 1 with fail
 rw [← hW, ← hg]
 clear hW hg
 have C : cellsSay W g 0 [.int .u64 0, .int .i64 0] := cells_say HB.out.1 _ 0 rfl
 simp only [cellsSay, Nat.reduceAdd, and_true] at C
 go_wp2_with fail
 exact bodyPost_ret (results_cell_row Tryz.results70 _ _ g 141 #[.int .u64 (S : Nat), .int .i64 (k : Nat)] (0, 0) _ rfl (HB.out.1.set2 _ _) Tryz.underlying141 rfl (by kernel_rfl)) rfl ⟨rfl, (HB.out.2.1.setCell HB.out.2.2 _).setCell HB.out.2.2 _⟩
theorem tnew_any (n : Nat) (h1 : 1 ≤ n) (h2 : n ≤ 1000) (w : World) : Calls Tryz.prog 31 #[.int .i64 (n : Nat)] w fun e w' => ∃ q, e = .returned (.pointer (some ⟨q, 0, none⟩)) ∧ q = w.heap.size + 1 ∧ w' = (w.alloc (.map #[] 0)).alloc (.cells #[.int .u64 (n : Nat), .map (some w.heap.size)] 135) := by
 have k1 : ¬ (n : Int) < 1 := by omega
 have k2 : ¬ (1000 : Int) < (n : Int) := by omega
 have hmm := @run_makeMap Tryz.prog
 have hw : IntKind.u64.wrap (n : Int) = (n : Int) := by rw [IntKind.wrap_u64]; omega
 go_enter Tryz.func31, Tryz.ntmps31
 go_wp2_with fail
 go_ret
 exact ⟨_, rfl, by first | rfl | simp, rfl⟩
def atD (M : List (Nat × Nat × Nat)) (x : Nat) : Nat × Nat := (lookM M x).getD (0, 0)
theorem look_val (M : List (Nat × Nat × Nat)) (x : Nat) : ((lookM M x).map alV).getD (alV (0, 0)) = alV (atD M x) := by
 unfold atD
 cases lookM M x <;> rfl
theorem tm_put {B : Nat} {w0 w w' : World} {ts : List Kt} {q tk b : Nat} {M M' : List (Nat × Nat × Nat)} (h : Sep B w0 w (thB q 135 #[.int .u64 (tk : Nat), .map (some b)] :: thMu alV b M :: ts)) (hm : Mu alV w' b M') (hg : w.grownBy w' (some b)) :
  Sep B w0 w' (thB q 135 #[.int .u64 (tk : Nat), .map (some b)] :: thMu alV b M' :: ts) :=
 h.call (t' := thMu alV b M') 1 rfl (Tou.of_grown hg (fun j e => by injection e with e; exact e.symm)) hm (fun j hj => .inl hj)
set_option maxHeartbeats 4000000 in
theorem tagain_any {B : Nat} {w0 w : World} {ts : List Kt} {q tk : Nat} {M : List (Nat × Nat × Nat)} (h : Tm B w0 w q tk M ts) (x now : Nat) (hx : x < 4294967296) (hnow : now < 18446744073709551616) (htk : tk ≤ 1000) (hM : M.length ≤ 1000000) :
  Calls Tryz.prog 60 #[.pointer (some ⟨q, 0, none⟩), .int .u32 (x : Nat), .int .u64 (now : Nat)] w fun e w' => e = .returned (.tuple #[]) ∧ Tm B w0 w' q tk (putM M x (almD tk now 0)) ts := by
 have hmx : Tryz.prog.follows .mixedOrders = true := by kernel_rfl
 obtain ⟨b, hs⟩ := h
 have C : ∀ y : More, cellsSay (plus w y) q 0 [.int .u64 (tk : Nat), .map (some b)] := fun y => cells_say ((hs.go (plus_below w y)).blk 0) _ 0 rfl
 simp only [cellsSay, Nat.reduceAdd, and_true] at C
 have C1 : ∀ y : More, (plus w y).cell? ⟨q, 1, none⟩ = some (.map (some b)) := fun y => (C y).2.2.1
 have HA := Lib.hid (fun (y : More) => alarm_any (plus w y) q tk now 0 _ ((hs.go (plus_below w y)).blk 0) htk hnow (by omega))
 obtain ⟨⟨du, tr⟩, hd⟩ : ∃ r, r = almD tk now 0 := ⟨_, rfl⟩
 rw [← hd] at HA ⊢
 have hl : M.length < maxLen := by unfold maxLen; omega
 have HS := Lib.hid (And.intro hs hl)
 clear hs hd C hl
 go_enter Tryz.func60, Tryz.ntmps60
 go_wp2_with fail
 refine wp_region_tail_ext 8 (by kernel_rfl) (by kernel_rfl) ?_
 simp only [List.take_succ_cons, List.take_zero, List.drop_succ_cons, List.drop_zero]
 repeat (go_big_quiet_step ((go_at_call 70; exact ext_of (HA.out _))))
 refine wpQuiet_nil ?_
 rintro w2 ⟨y, rfl⟩
 have hs2 := HS.out.1.go (plus_below w y)
 have HS2 := Lib.hid hs2
 have hm2 : Mu alV (plus w y) b M := hs2.at_ 1 rfl
 have hl := HS.out.2
 clear C1 HA hs2
 go_wp2_with (at_mapUpdate; go_must (refine step_putU rfl _ _ _ rfl tmU rfl hm2 hl x hx rfl (du, tr) rfl ?_); intro w3 hm3 hg3)
 go_end0
 exact ⟨rfl, b, tm_put HS2.out hm3 hg3⟩
set_option maxHeartbeats 4000000 in
theorem tstart_any {B : Nat} {w0 w : World} {ts : List Kt} {q tk : Nat} {M : List (Nat × Nat × Nat)} (h : Tm B w0 w q tk M ts) (x now : Nat) (hx : x < 4294967296) (hnow : now < 18446744073709551616) (htk : tk ≤ 1000) (hM : M.length ≤ 1000000) :
  Calls Tryz.prog 34 #[.pointer (some ⟨q, 0, none⟩), .int .u32 (x : Nat), .int .u64 (now : Nat)] w fun e w' => e = .returned (.bool (!(lookM M x).isSome)) ∧ Tm B w0 w' q tk (if (lookM M x).isSome then M else putM M x (almD tk now 0)) ts := by
 obtain ⟨b, hs⟩ := h
 have hl := Mu.look (show Mu alV w b M from hs.at_ 1 rfl) tmU (tmZ w) x hx
 rw [look_val] at hl
 have C : cellsSay w q 0 [.int .u64 (tk : Nat), .map (some b)] := cells_say (hs.blk 0) _ 0 rfl
 simp only [cellsSay, Nat.reduceAdd, and_true] at C
 obtain ⟨⟨du, tr⟩, hd⟩ : ∃ r, r = atD M x := ⟨_, rfl⟩
 obtain ⟨is, his⟩ : ∃ b, b = (lookM M x).isSome := ⟨_, rfl⟩
 rw [← his] at hl ⊢
 rw [← hd] at hl
 have hl2 : (Instr.lookup TMT (.map (some b)) (.int .u32 ((x : Nat) : Int)) true).run Tryz.prog w = .ok (.tuple #[.agg #[.int .u64 ((du : Nat) : Int), .int .i64 ((tr : Nat) : Int)], .bool is]) w := hl
 have HS := Lib.hid hs
 have HA := Lib.hid (fun (W : World) (hW : Below w.heap.size w W) => tagain_any (⟨b, hs.go hW⟩ : Tm B w0 W q tk M ts) x now hx hnow htk hM)
 clear hs hl his hd
 go_enter Tryz.func34, Tryz.ntmps34
 cases is
 ·go_wp2_with fail
  refine (HA.out _ (below_alloc w _)).mono ?_
  rintro e w2 ⟨rfl, h2⟩
  have H2 := Lib.hid h2
  clear h2 HA
  go_wp2_with fail
  go_ret
  exact ⟨rfl, H2.out⟩
 ·go_wp2_with fail
  go_ret
  exact ⟨rfl, b, HS.out.go (below_alloc w _)⟩
set_option maxHeartbeats 4000000 in
theorem tstop_any {B : Nat} {w0 w : World} {ts : List Kt} {q tk : Nat} {M : List (Nat × Nat × Nat)} (h : Tm B w0 w q tk M ts) (x : Nat) (hx : x < 4294967296) :
  Calls Tryz.prog 54 #[.pointer (some ⟨q, 0, none⟩), .int .u32 (x : Nat)] w fun e w' => e = .returned (.bool (lookM M x).isSome) ∧ Tm B w0 w' q tk (delM M x) ts := by
 obtain ⟨b, hs⟩ := h
 have hl := Mu.look (show Mu alV w b M from hs.at_ 1 rfl) tmU (tmZ w) x hx
 rw [look_val] at hl
 obtain ⟨⟨du, tr⟩, hd⟩ : ∃ r, r = atD M x := ⟨_, rfl⟩
 obtain ⟨is, his⟩ : ∃ b, b = (lookM M x).isSome := ⟨_, rfl⟩
 rw [← his] at hl ⊢
 rw [← hd] at hl
 have hl2 : (Instr.lookup TMT (.map (some b)) (.int .u32 ((x : Nat) : Int)) true).run Tryz.prog w = .ok (.tuple #[.agg #[.int .u64 ((du : Nat) : Int), .int .i64 ((tr : Nat) : Int)], .bool is]) w := hl
 have C : cellsSay w q 0 [.int .u64 (tk : Nat), .map (some b)] := cells_say (hs.blk 0) _ 0 rfl
 simp only [cellsSay, Nat.reduceAdd, and_true] at C
 obtain ⟨W, hW⟩ : ∃ W, W = w.alloc (.cells #[.int .u64 ((du : Nat) : Int), .int .i64 ((tr : Nat) : Int)] 141) := ⟨_, rfl⟩
 have hs2 : Sep B w0 W (thB q 135 #[.int .u64 (tk : Nat), .map (some b)] :: thMu alV b M :: ts) := by rw [hW]; exact hs.go (below_alloc w _)
 have C2 : cellsSay W q 0 [.int .u64 (tk : Nat), .map (some b)] := cells_say (hs2.blk 0) _ 0 rfl
 simp only [cellsSay, Nat.reduceAdd, and_true] at C2
 have hm2 : Mu alV W b M := hs2.at_ 1 rfl
 have HS := Lib.hid hs2
 clear hs hs2 hl his hd
 go_enter Tryz.func54, Tryz.ntmps54
 go_upto_region 2 with fail
 rw [← hW]
 clear hW C
 go_wp2_with (at_delete; go_must (refine step_delU rfl _ _ rfl tmU rfl hm2 x hx rfl ?_); intro w3 hm3 hg3)
 go_ret
 exact ⟨rfl, b, tm_put HS.out hm3 hg3⟩
end Go.Proofs.YtnjcdihgaidlbaaGreatDoor
