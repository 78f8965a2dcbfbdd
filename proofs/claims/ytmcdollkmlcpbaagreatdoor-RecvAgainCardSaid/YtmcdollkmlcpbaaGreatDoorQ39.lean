/- Joined: Bk1, Bk2, Bk3, Bk4, Bk6, Bk7, Bk8, Bk9, Bk12, FrSm. -/
import Derived.Test.YtmcdollkmlcpbaaGreatDoorQ8
import Derived.Test.YtmcdollkmlcpbaaGreatDoorQ17
import Derived.Test.YtmcdollkmlcpbaaGreatDoorQ15
import Derived.Test.YtmcdollkmlcpbaaGreatDoorQ2
import Derived.Test.YtmcdollkmlcpbaaGreatDoorQ37
import Derived.Test.YtmcdollkmlcpbaaGreatDoorQ6
import Derived.Deep.QuietTactic
import Derived.Test.YtmcdollkmlcpbaaGreatDoorQ7
import Derived.Test.YtmcdollkmlcpbaaGreatDoorQ26
import Derived.Test.YtmcdollkmlcpbaaGreatDoorQ4
import Derived.Deep.DeepCutAuto
set_option linter.unusedSimpArgs false
set_option linter.unusedVariables false
set_option linter.unusedSimpArgs false
set_option linter.unusedVariables false
namespace Go.Proofs.YtmcdollkmlcpbaaGreatDoor
open Go.RowKit
set_option maxRecDepth 100000
structure Pm where
 L : List Sm
 ah : Nat
 A : Option Addr
 c : Nat
 E : Option Addr
 ec : Nat
def encPm (p : Pm) : List Value := [.slice p.A (pack (bitsL p.L)).length p.c, .int .i64 ((bitsL p.L).length : Nat), .slice p.E p.L.length p.ec, .int .i64 ((p.ah : Nat) : Int)]
theorem Tryz.eltPm : Elt Tryz.prog 84 95 encPm 4 64 := ⟨Tryz.underlying84, ⟨.agg #[.slice none 0 0, .int .i64 0, .slice none 0 0, .int .i64 0], by kernel_rfl, rfl⟩, by decide, fun _ => rfl, fun x v h => by
 unfold encPm at h
 simp only [List.mem_cons, List.not_mem_nil, or_false] at h
 rcases h with rfl | rfl | rfl | rfl <;> rfl⟩
def pmT (p : Pm) : List Kt := [thO (.slice p.A (pack (bitsL p.L)).length p.c) (pack (bitsL p.L)), thR 3 encI 1 (.slice p.E p.L.length p.ec) (endsI p.L)]
structure Sl where
 g : Nat
 PA : Option Addr
 pn : Nat
 pc : Nat
 ps : List Pm
 e : EC
 fl : Int
def serC (s : Sl) : Array Value := #[.slice s.PA s.pn s.pc, .int .i64 s.e.n, .int .i64 s.e.last, .int .i64 s.e.delta, .bool s.e.val.has, .int .u64 ((s.e.val.prev : Nat) : Int), .int .u8 ((s.e.val.lead : Nat) : Int), .int .u8 ((s.e.val.width : Nat) : Int), .int .i64 s.fl]
def serT (s : Sl) : List Kt := thB s.g 90 (serC s) :: thR 95 encPm 4 (.slice s.PA s.pn s.pc) s.ps :: s.ps.flatMap pmT
def thSr (s : Sl) : Kt := thAll (serT s)
def Sl.Cs (s : Sl) : List (List Sm) := s.ps.map (·.L)
end Go.Proofs.YtmcdollkmlcpbaaGreatDoor
set_option linter.unusedSimpArgs false
set_option linter.unusedVariables false
namespace Go.Proofs.YtmcdollkmlcpbaaGreatDoor
open Go.RowKit
set_option maxRecDepth 100000
abbrev prS (s : Sl) : Value := .pointer (some ⟨s.g, 0, none⟩)
abbrev plV (c b n : Nat) : Value := .agg #[.int .u32 ((c : Nat) : Int), .int .u32 ((b : Nat) : Int), .int .u32 ((n : Nat) : Int)]
structure RdS (w : World) (s : Sl) : Prop where
 blk : Blk w s.g 90 (serC s)
 row : OwnR w 0 95 encPm 4 (.slice s.PA s.pn s.pc) s.ps
 bits : ∀ p ∈ s.ps, OwnB w 0 (.slice p.A (pack (bitsL p.L)).length p.c) (pack (bitsL p.L))
 ends : ∀ p ∈ s.ps, OwnR w 0 3 encI 1 (.slice p.E p.L.length p.ec) (endsI p.L)
theorem RdS.of {w : World} {s : Sl} (h : (thSr s).P w) : RdS w s := by
 have h1 := h.1
 refine ⟨h1 (thB s.g 90 (serC s)) List.mem_cons_self, h1 (thR 95 encPm 4 (.slice s.PA s.pn s.pc) s.ps) (List.mem_cons_of_mem _ List.mem_cons_self), fun p hp => ?_, fun p hp => ?_⟩
 ·exact h1 (thO (.slice p.A (pack (bitsL p.L)).length p.c) (pack (bitsL p.L))) (List.mem_cons_of_mem _ (List.mem_cons_of_mem _ (List.mem_flatMap.2 ⟨p, hp, List.mem_cons_self⟩)))
 ·exact h1 (thR 3 encI 1 (.slice p.E p.L.length p.ec) (endsI p.L)) (List.mem_cons_of_mem _ (List.mem_cons_of_mem _ (List.mem_flatMap.2 ⟨p, hp, List.mem_cons_of_mem _ List.mem_cons_self⟩)))
theorem RdS.below {w w' : World} {s : Sl} (h : RdS w s) (b : Below w.heap.size w w') : RdS w' s :=
 ⟨h.blk.below b h.blk.lt, (thR 95 encPm 4 (.slice s.PA s.pn s.pc) s.ps).below h.row b, fun p hp => (thO (.slice p.A (pack (bitsL p.L)).length p.c) (pack (bitsL p.L))).below (h.bits p hp) b, fun p hp => (thR 3 encI 1 (.slice p.E p.L.length p.ec) (endsI p.L)).below (h.ends p hp) b⟩
theorem RdS.part {w : World} {s : Sl} (h : RdS w s) {i : Nat} {p : Pm} (hp : s.ps[i]? = some p) : ∃ g, s.PA = some ⟨g, 0, none⟩ ∧ w.cell? ⟨g, i * 4, none⟩ = some (.slice p.A (pack (bitsL p.L)).length p.c) ∧ w.cell? ⟨g, i * 4 + 1, none⟩ = some (.int .i64 ((bitsL p.L).length : Nat)) ∧ w.cell? ⟨g, i * 4 + 2, none⟩ = some (.slice p.E p.L.length p.ec) ∧ w.cell? ⟨g, i * 4 + 3, none⟩ = some (.int .i64 ((p.ah : Nat) : Int)) := by
 obtain ⟨g, h1, _, h3⟩ := row_at Tryz.eltPm h.row hp
 exact ⟨g, h1, h3 0 _ rfl, h3 1 _ rfl, h3 2 _ rfl, h3 3 _ rfl⟩
theorem RdS.end_ {w : World} {s : Sl} (h : RdS w s) {p : Pm} (hp : p ∈ s.ps) {j : Nat} (hj : j < p.L.length) : ∃ g, p.E = some ⟨g, 0, none⟩ ∧ w.cell? ⟨g, j, none⟩ = some (.int .i64 ((endN p.L (j + 1) : Nat) : Int)) := by
 obtain ⟨g, h1, _, h3⟩ := row_at Tryz.eltI (h.ends p hp) (endsI_get hj)
 have := h3 0 _ rfl
 rw [Nat.mul_one] at this
 exact ⟨g, h1, this⟩
theorem endN_small {L : List Sm} (h1 : L.length ≤ 1000) (h2 : InC L) (j : Nat) : endN L j ≤ 146000 := codesC_le L j h1 h2
set_option maxHeartbeats 1000000 in
theorem bstart_any (w : World) (pv : Value) (i : Nat) (hi : i < 4294967296) : Calls Tryz.prog 44 #[pv, .int .i64 (i : Nat)] w fun e w' => e = .returned (plV i 0 0) ∧ Below w.heap.size w w' := by
 have hw : IntKind.u32.wrap (i : Int) = (i : Int) := by rw [IntKind.wrap_u32]; omega
 go_enter Tryz.func44, Tryz.ntmps44
 go_wp2_with fail
 exact bodyPost_ret (results_cell_row Tryz.results44 _ _ w.heap.size 36 #[.int .u32 (i : Nat), .int .u32 0, .int .u32 0] (0, 0) _ rfl (heap_alloc_new w (.cells #[.int .u32 (i : Nat), .int .u32 0, .int .u32 0] 36)) Tryz.underlying36 rfl (by kernel_rfl)) rfl ⟨rfl, below_alloc w _⟩
set_option maxHeartbeats 1000000 in
theorem blast_any {w : World} {s : Sl} (h : RdS w s) (hn : s.pn = s.ps.length) (h1 : s.ps ≠ []) (h2 : s.ps.length ≤ 1000000) : Calls Tryz.prog 43 #[prS s] w fun e w' => e = .returned (.int .i64 ((s.ps.length - 1 : Nat) : Int)) ∧ w' = w := by
 have hl : 0 < s.ps.length := List.length_pos_iff.2 h1
 have C : w.cell? ⟨s.g, 0, none⟩ = some (.slice s.PA s.pn s.pc) := h.blk.cell 0
 rw [hn] at C
 obtain ⟨n, hN⟩ : ∃ n, n = s.ps.length := ⟨_, rfl⟩
 rw [← hN] at C hl h2 ⊢
 obtain ⟨m, hm⟩ : ∃ m, m = n - 1 := ⟨_, rfl⟩
 have hv : (n : Int) - 1 = (m : Int) := by omega
 rw [← hm]
 clear h hn h1 hN hm
 go_enter Tryz.func43, Tryz.ntmps43
 go_wp2_with fail
 go_ret
 exact ⟨rfl, rfl⟩
set_option maxHeartbeats 4000000 in
theorem bplace_any {w : World} {s : Sl} (h : RdS w s) {i : Nat} {p : Pm} (hp : s.ps[i]? = some p) (hn : s.pn = s.ps.length) (h2 : s.ps.length ≤ 1000000) (h3 : p.L.length ≤ 1000) (h4 : InC p.L) (c : Nat) (hc : c ≤ p.L.length) :
  Calls Tryz.prog 41 #[prS s, .int .i64 (i : Nat), .int .i64 (c : Nat)] w fun e w' => e = .returned (plV i (endN p.L c) c) ∧ Below w.heap.size w w' := by
 have hi : i < s.ps.length := (List.getElem?_eq_some_iff.1 hp).1
 have hm : p ∈ s.ps := List.mem_of_getElem? hp
 obtain ⟨W, hW⟩ : ∃ W, W = w.alloc (.cells #[.int .u32 0, .int .u32 0, .int .u32 0] 36) := ⟨_, rfl⟩
 obtain ⟨g, hg⟩ : ∃ g, g = w.heap.size := ⟨_, rfl⟩
 have hbw : Below w.heap.size w W := by rw [hW]; exact below_alloc w _
 have cg : Blk W g 36 #[.int .u32 0, .int .u32 0, .int .u32 0] := by rw [hW, hg]; exact Blk.new _ _ _
 have HA := Lib.hid (bstart_any W (prS s) i (by omega))
 have HB := Lib.hid (And.intro (h.below hbw) (And.intro hbw (And.intro cg (Nat.le_of_eq hg.symm))))
 have hi3 : i < 4294967296 := by omega
 obtain ⟨b, hb⟩ : ∃ b, b = endN p.L c := ⟨_, rfl⟩
 rw [← hb]
 clear h hbw cg
 go_enter Tryz.func41, Tryz.ntmps41
 go_upto_region 1 with fail
 rw [← hW, ← hg]
 clear hW hg
 go_upto_region 2 with (go_at_call 44; refine HA.out.mono ?_; rintro e w5 ⟨rfl, b5⟩)
 obtain ⟨h, hbw, cg, hg⟩ := HB.out
 obtain ⟨k, hk⟩ : ∃ k, k = w5.heap.size := ⟨_, rfl⟩
 obtain ⟨V, hV⟩ : ∃ V, V = w5.alloc (.cells #[.int .u32 (i : Nat), .int .u32 0, .int .u32 0] 36) := ⟨_, rfl⟩
 have b6 : Below W.heap.size W V := by rw [hV]; exact b5.trans ((below_alloc w5 _).mono b5.size)
 have ck : Blk V k 36 #[.int .u32 (i : Nat), .int .u32 0, .int .u32 0] := by rw [hV, hk]; exact Blk.new _ _ _
 have hkg : g ≠ k := by have := cg.lt; have := b5.size; omega
 have hkw : w.heap.size ≤ k := by have := hbw.size; have := b5.size; omega
 have cg' := cg.below b6 cg.lt
 have h' := h.below b6
 have b7 : Below w.heap.size w V := hbw.trans (b6.mono hbw.size)
 rw [← hV, ← hk]
 clear hV hk b5 b6 h cg hbw HA HB
 by_cases hc0 : c = 0
 ·subst hc0
  rw [endN_zero] at hb
  subst hb
  have C1 : cellsSay V k 0 [.int .u32 (i : Nat), .int .u32 0, .int .u32 0] := cells_say ck _ 0 rfl
  have C2 : cellsSay V g 0 [.int .u32 0, .int .u32 0, .int .u32 0] := cells_say cg' _ 0 rfl
  simp only [cellsSay, Nat.reduceAdd, and_true] at C1 C2
  have HB := Lib.hid (And.intro cg' (And.intro hg b7))
  clear ck cg' hg b7 h'
  go_wp2_with fail
  exact bodyPost_ret (results_cell_row Tryz.results41 _ _ g 36 #[.int .u32 (i : Nat), .int .u32 0, .int .u32 0] (0, 0) _ rfl (HB.out.1.set3 _ _ _) Tryz.underlying36 rfl (by kernel_rfl)) rfl ⟨rfl, ((HB.out.2.2.setCell HB.out.2.1 _).setCell HB.out.2.1 _).setCell HB.out.2.1 _⟩
 ·obtain ⟨j, hj⟩ : ∃ j, c = j + 1 := ⟨c - 1, by omega⟩
  obtain ⟨gp, e1, -, -, C5, -⟩ := h'.part hp
  obtain ⟨ge, e2, C6⟩ := h'.end_ hm (j := j) (by omega)
  have C4 : V.cell? ⟨s.g, 0, none⟩ = some (.slice s.PA s.pn s.pc) := h'.blk.cell 0
  rw [e1] at C4
  rw [e2] at C5
  have hes := endN_small h3 h4 c
  rw [← hj, ← hb] at C6
  rw [← hb] at hes
  obtain ⟨n, hN⟩ : ∃ n, n = s.pn := ⟨_, rfl⟩
  obtain ⟨m, hM⟩ : ∃ m, m = p.L.length := ⟨_, rfl⟩
  rw [← hN] at C4
  rw [← hM] at C5
  have hi' : i < n := by omega
  have hj' : j < m := by omega
  have hjb : j ≤ 1000 := by omega
  have hjt : (j : Int).toNat = j := by omega
  have hw1 : IntKind.u32.wrap (b : Int) = (b : Int) := by rw [IntKind.wrap_u32]; omega
  have hw2 : IntKind.u32.wrap (c : Int) = (c : Int) := by rw [IntKind.wrap_u32]; omega
  have hcp : (0 : Int) < (c : Int) := by omega
  have hjv : (c : Int) - 1 = (j : Int) := by omega
  have C1 : cellsSay V k 0 [.int .u32 (i : Nat), .int .u32 0, .int .u32 0] := cells_say ck _ 0 rfl
  have C2 : cellsSay V g 0 [.int .u32 0, .int .u32 0, .int .u32 0] := cells_say cg' _ 0 rfl
  simp only [cellsSay, Nat.reduceAdd, and_true] at C1 C2
  have HB := Lib.hid (And.intro cg' (And.intro hg (And.intro b7 hkw)))
  clear ck cg' hg b7 h' e1 e2 hb hM hN hp hn h2 h3 h4 hi hm hc0 hc hj hkw hi3
  go_wp2_with fail
  obtain ⟨h1, h2, h3, h4⟩ := HB.out
  exact bodyPost_ret (results_cell_row Tryz.results41 _ _ g 36 #[.int .u32 (i : Nat), .int .u32 (b : Nat), .int .u32 (c : Nat)] (0, 0) _ rfl (((h1.far _ _ hkg).far _ _ hkg).set3 _ _ _) Tryz.underlying36 rfl (by kernel_rfl)) rfl ⟨rfl, ((((h3.setCell h4 _).setCell h4 _).setCell h2 _).setCell h2 _).setCell h2 _⟩
end Go.Proofs.YtmcdollkmlcpbaaGreatDoor
set_option linter.unusedSimpArgs false
set_option linter.unusedVariables false
namespace Go.Proofs.YtmcdollkmlcpbaaGreatDoor
open Go.RowKit
set_option maxRecDepth 100000
set_option maxHeartbeats 1000000 in
theorem bopens_any {w : World} {s : Sl} (h : RdS w s) (hn : s.pn = s.ps.length) (h1 : s.ps ≠ []) (h2 : s.ps.length ≤ 1000000) (t : Int) : Calls Tryz.prog 68 #[prS s, .int .i64 t] w fun e w' => e = .returned (.bool (decide (s.ps.length = 1 ∨ s.fl < t))) ∧ w' = w := by
 have hl : 0 < s.ps.length := List.length_pos_iff.2 h1
 have HL := Lib.hid (blast_any h hn h1 h2)
 have C2 : w.cell? ⟨s.g, 8, none⟩ = some (.int .i64 s.fl) := h.blk.cell 8
 have C3 := h.blk
 obtain ⟨m, hm⟩ : ∃ m, m = s.ps.length - 1 := ⟨_, rfl⟩
 rw [← hm] at HL
 by_cases h0 : s.ps.length = 1
 ·rw [decide_eq_true (Or.inl h0)]
  have hm0 : m = 0 := by omega
  subst hm0
  clear h hn h1 hm
  go_enter Tryz.func68, Tryz.ntmps68
  go_wp2_with (go_at_call 43; refine HL.out.mono ?_; rintro e w5 ⟨rfl, rfl⟩)
  go_ret
  exact ⟨rfl, rfl⟩
 ·have hm0 : ¬ (m : Int) = 0 := by omega
  rw [show decide (s.ps.length = 1 ∨ s.fl < t) = decide (s.fl < t) from by simp [h0]]
  clear h hn h1 hm
  go_enter Tryz.func68, Tryz.ntmps68
  go_wp2_with (go_at_call 43; refine HL.out.mono ?_; rintro e w5 ⟨rfl, rfl⟩)
  go_ret
  refine ⟨?_, rfl⟩
  show Ending.returned (.bool ((m : Int) == 0 || decide (s.fl < t))) = _
  rw [beq_eq_false_iff_ne.2 hm0, Bool.false_or]
set_option maxHeartbeats 1000000 in
theorem bbefore_any {w : World} {s : Sl} (h : RdS w s) (hn : s.pn = s.ps.length) (h1 : s.ps ≠ []) (h2 : s.ps.length ≤ 1000000) (t : Int) : Calls Tryz.prog 55 #[prS s, .int .i64 t] w fun e w' => e = .returned (.bool (decide (if 0 < s.e.n then s.e.last < t else s.ps.length = 1 ∨ s.fl < t))) ∧ w' = w := by
 have HL := Lib.hid (bopens_any h hn h1 h2 t)
 have C1 : w.cell? ⟨s.g, 1, none⟩ = some (.int .i64 s.e.n) := h.blk.cell 1
 have C2 : w.cell? ⟨s.g, 2, none⟩ = some (.int .i64 s.e.last) := h.blk.cell 2
 have C3 := h.blk
 clear h hn h1
 by_cases h0 : 0 < s.e.n
 ·rw [show decide (if 0 < s.e.n then s.e.last < t else s.ps.length = 1 ∨ s.fl < t) = decide (s.e.last < t) from by simp [h0]]
  go_enter Tryz.func55, Tryz.ntmps55
  go_wp2_with fail
  go_ret
  exact ⟨rfl, rfl⟩
 ·rw [show decide (if 0 < s.e.n then s.e.last < t else s.ps.length = 1 ∨ s.fl < t) = decide (s.ps.length = 1 ∨ s.fl < t) from by simp [h0]]
  go_enter Tryz.func55, Tryz.ntmps55
  go_wp2_with (go_at_call 68; refine HL.out.mono ?_; rintro e w5 ⟨rfl, rfl⟩)
  go_ret
  refine ⟨?_, rfl⟩
  show Ending.returned (.bool (decide (s.ps.length = 1) || decide (s.fl < t))) = _
  rw [Bool.decide_or]
set_option maxHeartbeats 4000000 in
theorem bend_any {w : World} {s : Sl} (h : RdS w s) {p : Pm} (hp : s.ps.getLast? = some p) (hn : s.pn = s.ps.length) (h2 : s.ps.length ≤ 1000000) (h3 : p.L.length ≤ 1000) (h4 : InC p.L) :
  Calls Tryz.prog 37 #[prS s] w fun e w' => e = .returned (plV (s.ps.length - 1) (endN p.L p.L.length) p.L.length) ∧ Below w.heap.size w w' := by
 have hmx : Tryz.prog.follows .mixedOrders = true := by kernel_rfl
 have h1 : s.ps ≠ [] := by intro e; rw [e] at hp; cases hp
 have hl : 0 < s.ps.length := List.length_pos_iff.2 h1
 have hp' : s.ps[s.ps.length - 1]? = some p := by rw [← List.getLast?_eq_getElem?]; exact hp
 obtain ⟨W, hW⟩ : ∃ W, W = w.alloc (.cells #[.int .u32 0, .int .u32 0, .int .u32 0] 36) := ⟨_, rfl⟩
 obtain ⟨g, hg⟩ : ∃ g, g = w.heap.size := ⟨_, rfl⟩
 have hbw : Below w.heap.size w W := by rw [hW]; exact below_alloc w _
 have cg : Blk W g 36 #[.int .u32 0, .int .u32 0, .int .u32 0] := by rw [hW, hg]; exact Blk.new _ _ _
 have hR : RdS W s := h.below hbw
 have HL := Lib.hid (fun (y : More) => (blast_any (hR.below (plus_below W y)) hn h1 h2).mono (fun e w' ⟨he, hw⟩ => (⟨he, ⟨y, hw⟩⟩ : e = _ ∧ ∃ x', w' = plus W x')))
 have HP := Lib.hid (fun (y : More) => ext_of (bplace_any (hR.below (plus_below W y)) hp' hn h2 h3 h4 p.L.length (Nat.le_refl _)))
 obtain ⟨gp, e1, -, -, -, -⟩ := hR.part hp'
 have C0 : ∀ y : More, (plus W y).cell? ⟨s.g, 0, none⟩ = some (.slice s.PA s.pn s.pc) := fun y => (hR.below (plus_below W y)).blk.cell 0
 have C1 : ∀ y : More, (plus W y).cell? ⟨gp, (s.ps.length - 1) * 4 + 2, none⟩ = some (.slice p.E p.L.length p.ec) := fun y => by
  obtain ⟨gp', e2, -, -, c, -⟩ := (hR.below (plus_below W y)).part hp'
  rw [e1] at e2
  injection e2 with e2
  injection e2 with e2
  subst e2
  exact c
 rw [e1, hn] at C0
 obtain ⟨n, hN⟩ : ∃ n, n = s.ps.length := ⟨_, rfl⟩
 obtain ⟨m, hM⟩ : ∃ m, m = n - 1 := ⟨_, rfl⟩
 obtain ⟨b, hb⟩ : ∃ b, b = endN p.L p.L.length := ⟨_, rfl⟩
 rw [← hb] at HP
 rw [← hb]
 rw [← hN, ← hM] at HL HP C1
 rw [← hN, ← hM]
 rw [← hN] at C0 hl h2
 have hmn : m < n := by omega
 have HB := Lib.hid (And.intro cg (And.intro hbw (Nat.le_of_eq hg.symm)))
 clear h hp hp' hn h1 e1 hN hM hb hR cg hbw h3 h4
 go_enter Tryz.func37, Tryz.ntmps37
 go_upto_region 1 with fail
 rw [← hW, ← hg]
 clear hW hg
 refine wp_region_tail_ext 14 (by kernel_rfl) (by kernel_rfl) ?_
 simp only [List.take_succ_cons, List.take_zero, List.drop_succ_cons, List.drop_zero]
 repeat (go_big_quiet_step ((first
  | (go_at_call 43; exact HL.out _)
  | (go_at_call 41; exact HP.out _))))
 refine wpQuiet_nil ?_
 rintro w2 ⟨y, rfl⟩
 obtain ⟨cg, hbw, hg⟩ := HB.out
 have cg' := cg.below (plus_below W y) cg.lt
 have b7 : Below w.heap.size w (plus W y) := hbw.trans ((plus_below W y).mono hbw.size)
 have C2 : cellsSay (plus W y) g 0 [.int .u32 0, .int .u32 0, .int .u32 0] := cells_say cg' _ 0 rfl
 simp only [cellsSay, Nat.reduceAdd, and_true] at C2
 have HF := Lib.hid (And.intro cg' (And.intro b7 hg))
 clear cg cg' hbw hg b7 C0 C1 HL HP HB
 go_wp2_with fail
 exact bodyPost_ret (results_cell_row Tryz.results37 _ _ g 36 #[.int .u32 (m : Nat), .int .u32 (b : Nat), .int .u32 (p.L.length : Nat)] (0, 0) _ rfl (HF.out.1.set3 _ _ _) Tryz.underlying36 rfl (by kernel_rfl)) rfl ⟨rfl, ((HF.out.2.1.setCell HF.out.2.2 _).setCell HF.out.2.2 _).setCell HF.out.2.2 _⟩
end Go.Proofs.YtmcdollkmlcpbaaGreatDoor
set_option linter.unusedSimpArgs false
set_option linter.unusedVariables false
namespace Go.Proofs.YtmcdollkmlcpbaaGreatDoor
open Go.RowKit
set_option maxRecDepth 100000
def hasB (s : Sl) (pc pb pn : Nat) : Bool := match s.ps[pc]? with
 | none => false
 | some p => decide (pn + (if pc + 1 < s.ps.length then 1 else 0) ≤ p.L.length) && decide (pb = endN p.L pn)
theorem eqInPlB_run (a b : Nat × Nat × Nat) (w : World) : (Op.equalIn 10000 36 (.agg #[.int .u32 (a.1 : Nat), .int .u32 (a.2.1 : Nat), .int .u32 (a.2.2 : Nat)]) (.agg #[.int .u32 (b.1 : Nat), .int .u32 (b.2.1 : Nat), .int .u32 (b.2.2 : Nat)])).run Tryz.prog w = .ok (decide (a = b)) w := by
 have u1 := Tryz.underlying34
 have hS : Tryz.prog.underlying 36 = some (.struct (Tryz.prog.fieldsOf 36)) := by kernel_rfl
 have hp : Tryz.prog.stoodInHeld 36 = false := by kernel_rfl
 obtain ⟨a1, a2, a3⟩ := a
 obtain ⟨b1, b2, b3⟩ := b
 rw [show (10000 : Nat) = 9999 + 1 from rfl, run_equalIn_agg w 9999 36 _ _ hS hp]
 simp only [Program.fieldsOf, Tryz.underlying36]
 go_simp
 by_cases h : a1 = b1
 rotate_left
 ·simp [h] <;> (intros; omega)
 subst h
 by_cases h : a2 = b2
 rotate_left
 ·simp [h] <;> (intros; omega)
 subst h
 by_cases h : a3 = b3 <;> simp [h] <;> (intros; omega)
theorem eqPlB_run (a1 a2 a3 b1 b2 b3 : Nat) (w : World) : (binOp .eql 36 (.agg #[.int .u32 (a1 : Nat), .int .u32 (a2 : Nat), .int .u32 (a3 : Nat)]) (.agg #[.int .u32 (b1 : Nat), .int .u32 (b2 : Nat), .int .u32 (b3 : Nat)])).run Tryz.prog w = .ok (.bool (decide ((a1, a2, a3) = (b1, b2, b3)))) w := by
 rw [run_eql_struct, eqInPlB_run (a1, a2, a3) (b1, b2, b3)]; rfl
theorem RdS.cells {V : World} {s : Sl} (h : RdS V s) (hn : s.pn = s.ps.length) {i : Nat} {p : Pm} (hp : s.ps[i]? = some p) : ∃ gp, ∀ y : More, (plus V y).cell? ⟨s.g, 0, none⟩ = some (.slice (some ⟨gp, 0, none⟩) s.ps.length s.pc) ∧ (plus V y).cell? ⟨gp, i * 4 + 2, none⟩ = some (.slice p.E p.L.length p.ec) := by
 obtain ⟨gp, e1, -, -, -, -⟩ := h.part hp
 refine ⟨gp, fun y => ⟨?_, ?_⟩⟩
 ·have := (h.below (plus_below V y)).blk.cell 0
  rw [← hn, ← e1]
  exact this
 ·obtain ⟨gp', e2, -, -, c, -⟩ := (h.below (plus_below V y)).part hp
  rw [e1] at e2
  injection e2 with e2
  injection e2 with e2
  subst e2
  exact c
theorem RdS.lastP {V : World} {s : Sl} (h : RdS V s) (hn : s.pn = s.ps.length) (h1 : s.ps ≠ []) (h2 : s.ps.length ≤ 1000000) (y : More) : Calls Tryz.prog 43 #[prS s] (plus V y) fun e w' => e = .returned (.int .i64 ((s.ps.length - 1 : Nat) : Int)) ∧ ∃ x', w' = plus V x' :=
 (blast_any (h.below (plus_below V y)) hn h1 h2).mono (fun e w' ⟨he, hw⟩ => ⟨he, ⟨y, hw⟩⟩)
set_option maxHeartbeats 4000000 in
theorem bhas_any {w : World} {s : Sl} (h : RdS w s) (hn : s.pn = s.ps.length) (h1 : s.ps ≠ []) (h2 : s.ps.length ≤ 1000000) (hL : ∀ p ∈ s.ps, p.L.length ≤ 1000 ∧ InC p.L) (pc pb pn : Nat) (hpc : pc < 4294967296) (hpb : pb < 4294967296) (hpn : pn < 4294967296) :
  Calls Tryz.prog 35 #[prS s, plV pc pb pn] w fun e w' => e = .returned (.bool (hasB s pc pb pn)) ∧ Below w.heap.size w w' := by
 have hmx : Tryz.prog.follows .mixedOrders = true := by kernel_rfl
 have hl : 0 < s.ps.length := List.length_pos_iff.2 h1
 obtain ⟨W, hW⟩ : ∃ W, W = w.alloc (.cells #[.int .u32 (pc : Nat), .int .u32 (pb : Nat), .int .u32 (pn : Nat)] 36) := ⟨_, rfl⟩
 obtain ⟨g, hg⟩ : ∃ g, g = w.heap.size := ⟨_, rfl⟩
 have hbw : Below w.heap.size w W := by rw [hW]; exact below_alloc w _
 have cg : Blk W g 36 #[.int .u32 (pc : Nat), .int .u32 (pb : Nat), .int .u32 (pn : Nat)] := by rw [hW, hg]; exact Blk.new _ _ _
 have hR : RdS W s := h.below hbw
 have HF := Lib.hid (fun (V : World) (hV : Below W.heap.size W V) => (And.intro (hR.below hV) (cg.below hV cg.lt) : RdS V s ∧ Blk V g 36 #[.int .u32 (pc : Nat), .int .u32 (pb : Nat), .int .u32 (pn : Nat)]))
 have HB := Lib.hid hbw
 have HH := Lib.hid (And.intro hn (And.intro h1 h2))
 have C0 : ∀ y : More, (plus W y).cell? ⟨g, 0, none⟩ = some (.int .u32 (pc : Nat)) := fun y => (cg.below (plus_below W y) cg.lt).cell 0
 have HL := Lib.hid (hR.lastP hn h1 h2)
 obtain ⟨m, hM⟩ : ∃ m, m = s.ps.length - 1 := ⟨_, rfl⟩
 rw [← hM] at HL
 have w64 : IntKind.i64.wrap (pc : Int) = (pc : Int) := by rw [IntKind.wrap_i64]; omega
 have w64' : IntKind.i64.wrap (pn : Int) = (pn : Int) := by rw [IntKind.wrap_i64]; omega
 have go1 : ∀ {C : Prop}, C → C := fun h => h
 clear h hR cg hbw h1 go1
 by_cases hq : m < pc
 ·have hv : hasB s pc pb pn = false := by
   unfold hasB
   rw [List.getElem?_eq_none (by omega)]
  rw [hv]
  have g1 : decide ((m : Int) < (pc : Int)) = true := decide_eq_true (by omega)
  clear hn hL hv
  go_enter Tryz.func35, Tryz.ntmps35
  go_upto_region 1 with fail
  rw [← hW, ← hg]
  clear hW hg
  refine wp_region_ext (by kernel_rfl) (by kernel_rfl) ?_
  repeat (go_big_quiet_step ((go_at_call 43; exact HL.out _)))
  refine wpQuiet_nil ?_
  rintro w7 ⟨y, rfl⟩
  go_wp2_with fail
  go_ret
  exact ⟨rfl, HB.out.trans ((plus_below W y).mono HB.out.size)⟩
 ·obtain ⟨p, hp⟩ : ∃ p, s.ps[pc]? = some p := ⟨_, List.getElem?_eq_getElem (by omega)⟩
  obtain ⟨hp1, hp2⟩ := hL p (List.mem_of_getElem? hp)
  have g1 : decide ((m : Int) < (pc : Int)) = false := decide_eq_false (by omega)
  have hpcn : pc < s.ps.length := by omega
  have hv : hasB s pc pb pn = (decide (pn + (if pc + 1 < s.ps.length then 1 else 0) ≤ p.L.length) && decide (pb = endN p.L pn)) := by
   unfold hasB
   rw [hp]
  rw [hv]
  obtain ⟨b, hb⟩ : ∃ b, b = endN p.L pn := ⟨_, rfl⟩
  obtain ⟨k, hk⟩ : ∃ k, k = p.L.length := ⟨_, rfl⟩
  rw [← hb, ← hk]
  have HP := Lib.hid (And.intro hp (And.intro hp2 (And.intro hb hk)))
  rw [← hk] at hp1
  obtain ⟨r, hr⟩ : ∃ r, r = (decide (pn + (if pc + 1 < s.ps.length then 1 else 0) ≤ k) && decide (pb = b)) := ⟨_, rfl⟩
  rw [← hr]
  have HV := Lib.hid hr
  clear hv hp hb hp2 hL hk hr
  rw [hM] at hq
  go_enter Tryz.func35, Tryz.ntmps35
  go_upto_region 1 with fail
  rw [← hW, ← hg]
  clear hW hg
  refine wp_region_ext (by kernel_rfl) (by kernel_rfl) ?_
  repeat (go_big_quiet_step ((go_at_call 43; exact HL.out _)))
  refine wpQuiet_nil ?_
  rintro w7 ⟨y, rfl⟩
  clear C0 HL
  go_upto_region 3 with fail
  obtain ⟨V, hV⟩ : ∃ V, V = plus W y := ⟨_, rfl⟩
  have bV : Below W.heap.size W V := by rw [hV]; exact plus_below W y
  rw [← hV]
  clear hV
  obtain ⟨hR, cg⟩ := HF.out V bV
  have C0 : ∀ y : More, (plus V y).cell? ⟨g, 0, none⟩ = some (.int .u32 (pc : Nat)) := fun y => (cg.below (plus_below V y) cg.lt).cell 0
  obtain ⟨gp, hC⟩ := hR.cells hn HP.out.1
  have C1 := fun y => (hC y).1
  have C2 := fun y => (hC y).2
  rw [← HP.out.2.2.2] at C2
  clear hC hR cg
  refine wp_region_ext (by kernel_rfl) (by kernel_rfl) ?_
  repeat (go_big_quiet_step (fail))
  refine wpQuiet_nil ?_
  rintro w7 ⟨y2, rfl⟩
  clear C0 C1 C2
  go_upto_region 4 with fail
  obtain ⟨V2, hV2⟩ : ∃ V2, V2 = plus V y2 := ⟨_, rfl⟩
  have bV2 : Below W.heap.size W V2 := by rw [hV2]; exact bV.trans ((plus_below V y2).mono bV.size)
  rw [← hV2]
  clear hV2 bV
  obtain ⟨hR, cg⟩ := HF.out V2 bV2
  have HL := Lib.hid (blast_any hR hn HH.out.2.1 HH.out.2.2)
  rw [← hM] at HL
  have C : ∀ y : More, cellsSay (plus V2 y) g 0 [.int .u32 (pc : Nat), .int .u32 (pb : Nat), .int .u32 (pn : Nat)] := fun y => cells_say (cg.below (plus_below V2 y) cg.lt) _ 0 rfl
  simp only [cellsSay, Nat.reduceAdd, and_true] at C
  have HP2 := Lib.hid (fun (y : More) (hc : pn ≤ p.L.length) => ext_of (bplace_any (hR.below (plus_below V2 y)) HP.out.1 hn HH.out.2.2 (by rw [← HP.out.2.2.2]; exact hp1) HP.out.2.1 pn hc))
  rw [← HP.out.2.2.1, ← HP.out.2.2.2] at HP2
  have HB2 := Lib.hid (HB.out.trans (bV2.mono HB.out.size))
  clear hR cg HF HB HP bV2
  by_cases ho : pc < m
  ·have g2 : decide ((pc : Int) < (m : Int)) = true := decide_eq_true (by omega)
   have hV := HV.out
   rw [if_pos (show pc + 1 < s.ps.length by omega)] at hV
   have HV2 := Lib.hid hV
   clear hV HV
   by_cases hc : pn + 1 ≤ k
   ·have g3 : decide ((pn : Int) ≤ (k : Int) - 1) = true := decide_eq_true (by omega)
    have hP := fun (y : More) => HP2.out y (by omega)
    clear HP2
    have HP := Lib.hid hP
    clear hP
    have hQ := fun w => eqPlB_run pc pb pn pc b pn w
    go_upto_region 6 with (go_at_call 43; refine HL.out.mono ?_; rintro e w5 ⟨rfl, rfl⟩)
    refine wp_region_ext (by kernel_rfl) (by kernel_rfl) ?_
    repeat (go_big_quiet_step ((go_at_call 41; exact HP.out _)))
    refine wpQuiet_nil ?_
    rintro w7 ⟨y, rfl⟩
    go_wp2_with fail
    go_ret
    rw [HV2.out, decide_eq_true hc, Bool.true_and]
    refine ⟨?_, HB2.out.trans ((plus_below w5 y).mono HB2.out.size)⟩
    rfl
   ·have g3 : decide ((pn : Int) ≤ (k : Int) - 1) = false := decide_eq_false (by omega)
    clear HP2
    go_upto_region 6 with (go_at_call 43; refine HL.out.mono ?_; rintro e w5 ⟨rfl, rfl⟩)
    refine wp_region_ext (by kernel_rfl) (by kernel_rfl) ?_
    repeat (go_big_quiet_step (fail))
    refine wpQuiet_nil ?_
    rintro w7 ⟨y, rfl⟩
    go_wp2_with fail
    go_ret
    rw [HV2.out, decide_eq_false hc, Bool.false_and]
    exact ⟨rfl, HB2.out.trans ((plus_below w5 y).mono HB2.out.size)⟩
  ·have g2 : decide ((pc : Int) < (m : Int)) = false := decide_eq_false (by omega)
   have hV := HV.out
   rw [if_neg (show ¬ pc + 1 < s.ps.length by omega), Nat.add_zero] at hV
   have HV2 := Lib.hid hV
   clear hV HV
   by_cases hc : pn ≤ k
   ·have g3 : decide ((pn : Int) ≤ (k : Int)) = true := decide_eq_true (by omega)
    have hP := fun (y : More) => HP2.out y (by omega)
    clear HP2
    have HP := Lib.hid hP
    clear hP
    have hQ := fun w => eqPlB_run pc pb pn pc b pn w
    go_upto_region 6 with (go_at_call 43; refine HL.out.mono ?_; rintro e w5 ⟨rfl, rfl⟩)
    refine wp_region_ext (by kernel_rfl) (by kernel_rfl) ?_
    repeat (go_big_quiet_step ((go_at_call 41; exact HP.out _)))
    refine wpQuiet_nil ?_
    rintro w7 ⟨y, rfl⟩
    go_wp2_with fail
    go_ret
    rw [HV2.out, decide_eq_true hc, Bool.true_and]
    refine ⟨?_, HB2.out.trans ((plus_below w5 y).mono HB2.out.size)⟩
    rfl
   ·have g3 : decide ((pn : Int) ≤ (k : Int)) = false := decide_eq_false (by omega)
    clear HP2
    go_upto_region 6 with (go_at_call 43; refine HL.out.mono ?_; rintro e w5 ⟨rfl, rfl⟩)
    refine wp_region_ext (by kernel_rfl) (by kernel_rfl) ?_
    repeat (go_big_quiet_step (fail))
    refine wpQuiet_nil ?_
    rintro w7 ⟨y, rfl⟩
    go_wp2_with fail
    go_ret
    rw [HV2.out, decide_eq_false hc, Bool.false_and]
    exact ⟨rfl, HB2.out.trans ((plus_below w5 y).mono HB2.out.size)⟩
end Go.Proofs.YtmcdollkmlcpbaaGreatDoor
set_option linter.unusedSimpArgs false
set_option linter.unusedVariables false
namespace Go.Proofs.YtmcdollkmlcpbaaGreatDoor
open Go.RowKit
set_option maxRecDepth 100000
set_option maxHeartbeats 1000000 in
theorem bnew_any (m c : Nat) (h1 : 1 ≤ m) (h2 : m ≤ 64) (h3 : 1 ≤ c) (h4 : c ≤ 24) (w : World) : Calls Tryz.prog 16 #[.int .i64 (m : Nat), .int .i64 (c : Nat)] w fun e w' => ∃ q, e = .returned (.pointer (some ⟨q, 0, none⟩)) ∧ q = w.heap.size + 1 ∧ w' = (w.alloc (.map #[] 0)).alloc (.cells #[.int .i64 (m : Nat), .int .i64 (c : Nat), .map (some w.heap.size)] 104) := by
 have k1 : ¬ (m : Int) < 1 := by omega
 have k2 : ¬ (64 : Int) < (m : Int) := by omega
 have k3 : ¬ (c : Int) < 1 := by omega
 have k4 : ¬ (24 : Int) < (c : Int) := by omega
 have hmm := @run_makeMap Tryz.prog
 go_enter Tryz.func16, Tryz.ntmps16
 go_wp2_with fail
 go_ret
 exact ⟨_, rfl, by first | rfl | simp, rfl⟩
def emptyPm : Pm := ⟨[], 0, none, 0, none, 0⟩
def emptySl (b g : Nat) : Sl := ⟨g, some ⟨b, 0, none⟩, 1, 1, [emptyPm], ec0, 0⟩
theorem empty_enc : encPm emptyPm = [.slice none 0 0, .int .i64 0, .slice none 0 0, .int .i64 0] := rfl
theorem empty_P {w : World} {b g : Nat} (hg : Blk w g 90 (serC (emptySl b g))) (hb : OwnR w 0 95 encPm 4 (.slice (some ⟨b, 0, none⟩) 1 1) [emptyPm]) (hne : b ≠ g) : (thSr (emptySl b g)).P w := by
 refine ⟨fun t ht => ?_, ?_⟩
 ·rcases List.mem_cons.1 ht with rfl | ht
  ·exact hg
  rcases List.mem_cons.1 ht with rfl | ht
  ·exact hb
  rcases List.mem_cons.1 ht with rfl | ht
  ·exact OwnB.nil w 0
  rcases List.mem_cons.1 ht with rfl | ht
  ·exact OwnR.nil w 0 _ _ _
  ·cases ht
 ·have h1 : ∀ k, ¬ (thO (.slice none 0 0) []).F k := fun k h => by cases h
  have h2 : ∀ k, ¬ (thR 3 encI 1 (.slice none 0 0) []).F k := fun k h => by cases h
  refine List.pairwise_cons.2 ⟨fun t ht k hk hk' => ?_, List.pairwise_cons.2 ⟨fun t ht k hk hk' => ?_, List.pairwise_cons.2 ⟨fun t ht k hk hk' => h1 k hk, List.pairwise_cons.2 ⟨fun t ht => (by cases ht), .nil⟩⟩⟩⟩
  ·rcases List.mem_cons.1 ht with rfl | ht
   ·cases hk'
    exact hne hk.symm.symm
   rcases List.mem_cons.1 ht with rfl | ht
   ·exact h1 k hk'
   rcases List.mem_cons.1 ht with rfl | ht
   ·exact h2 k hk'
   ·cases ht
  ·rcases List.mem_cons.1 ht with rfl | ht
   ·exact h1 k hk'
   rcases List.mem_cons.1 ht with rfl | ht
   ·exact h2 k hk'
   ·cases ht
set_option maxHeartbeats 1000000 in
theorem bempty_any (w : World) : Calls Tryz.prog 47 #[] w fun e w' => ∃ b g, e = .returned (.pointer (some ⟨g, 0, none⟩)) ∧ w.heap.size ≤ b ∧ w.heap.size ≤ g ∧ b ≠ g ∧ (thSr (emptySl b g)).P w' ∧ Below w.heap.size w w' := by
 go_enter Tryz.func47, Tryz.ntmps47
 go_wp2_with (at_make; go_must (refine mkR Tryz.eltPm (.agg #[.slice none 0 0, .int .i64 0, .slice none 0 0, .int .i64 0]) emptyPm (by kernel_rfl) empty_enc.symm _ rfl (.const (.int .i64 1)) (.const (.int .i64 1)) rfl w.heap.size 1 rfl rfl (by decide) (by omega) (Nat.le_refl _) ?_); intro w3 hown3 hb3)
 go_ret
 have hl : w.heap.size < w3.heap.size := (hown3.home (k := w.heap.size) rfl).2.elim fun cs h => h.lt
 refine ⟨w.heap.size, w3.heap.size, rfl, Nat.le_refl _, hb3.size, by omega, empty_P (Blk.new _ _ _) ?_ (by omega), hb3.trans ((below_alloc w3 _).mono hb3.size)⟩
 have h0 : OwnR w3 0 95 encPm 4 (.slice (some ⟨w.heap.size, 0, none⟩) 1 1) [emptyPm] := OwnR.mono hown3 (Nat.zero_le _)
 exact (thR 95 encPm 4 (.slice (some ⟨w.heap.size, 0, none⟩) 1 1) [emptyPm]).below h0 (below_alloc w3 _)
end Go.Proofs.YtmcdollkmlcpbaaGreatDoor
set_option linter.unusedSimpArgs false
set_option linter.unusedVariables false
namespace Go.Proofs.YtmcdollkmlcpbaaGreatDoor
open Go.RowKit
set_option maxRecDepth 100000
abbrev BMT : TypeId := 102
theorem bmU : Tryz.prog.underlying BMT = some (.map KU 91) := Tryz.underlying102
theorem bmZ (w : World) : (zeroValue 91).run Tryz.prog w = .ok (.pointer none) w := by kernel_rfl
set_option maxHeartbeats 1000000 in
theorem bseries_some {w : World} {q b : Nat} {mo ch : Value} {M : List (Nat × Sl)} (hb : Blk w q 104 #[mo, ch, .map (some b)]) (hm : Mu prS w b M) (x : Nat) (hx : x < 4294967296) (s : Sl) (hs : lookM M x = some s) :
  Calls Tryz.prog 29 #[.pointer (some ⟨q, 0, none⟩), .int .u32 (x : Nat)] w fun e w' => e = .returned (prS s) ∧ w' = w := by
 have hl := Mu.look1 hm bmU (bmZ w) x hx
 rw [hs] at hl
 have hl2 : (Instr.lookup BMT (.map (some b)) (.int .u32 ((x : Nat) : Int)) false).run Tryz.prog w = .ok (.pointer (some ⟨s.g, 0, none⟩)) w := hl
 have C : w.cell? ⟨q, 2, none⟩ = some (.map (some b)) := hb.cell 2
 have C0 : w.cell? ⟨q, 0, none⟩ = some mo := hb.cell 0
 clear hl hb hm hs
 go_enter Tryz.func29, Tryz.ntmps29
 go_wp2_with fail
 go_ret
 exact ⟨rfl, rfl⟩
set_option maxHeartbeats 1000000 in
theorem bseries_none {w : World} {q b : Nat} {mo ch : Value} {M : List (Nat × Sl)} (hb : Blk w q 104 #[mo, ch, .map (some b)]) (hm : Mu prS w b M) (x : Nat) (hx : x < 4294967296) (hs : lookM M x = none) :
  Calls Tryz.prog 29 #[.pointer (some ⟨q, 0, none⟩), .int .u32 (x : Nat)] w fun e w' => ∃ b g, e = .returned (prS (emptySl b g)) ∧ w.heap.size ≤ b ∧ w.heap.size ≤ g ∧ b ≠ g ∧ (thSr (emptySl b g)).P w' ∧ Below w.heap.size w w' := by
 have hl := Mu.look1 hm bmU (bmZ w) x hx
 rw [hs] at hl
 have hl2 : (Instr.lookup BMT (.map (some b)) (.int .u32 ((x : Nat) : Int)) false).run Tryz.prog w = .ok (.pointer none) w := hl
 have C : w.cell? ⟨q, 2, none⟩ = some (.map (some b)) := hb.cell 2
 have C0 : w.cell? ⟨q, 0, none⟩ = some mo := hb.cell 0
 clear hl hb hm hs
 go_enter Tryz.func29, Tryz.ntmps29
 go_wp2_with (go_at_call 47; refine (bempty_any _).mono ?_; rintro e w2 ⟨b', g', rfl, h1, h2, h3, h4, h5⟩)
 go_ret
 exact ⟨b', g', rfl, h1, h2, h3, h4, h5⟩
end Go.Proofs.YtmcdollkmlcpbaaGreatDoor
set_option linter.unusedSimpArgs false
set_option linter.unusedVariables false
namespace Go.Proofs.YtmcdollkmlcpbaaGreatDoor
open Go.RowKit
set_option maxRecDepth 100000
theorem bmu_below {w w' : World} {b : Nat} {M : List (Nat × Sl)} (h : Mu prS w b M) (t : Below w.heap.size w w') : Mu prS w' b M := (thMu prS b M).below h t
set_option maxHeartbeats 2000000 in
theorem bfull_any {w : World} {q b mo : Nat} {ch : Value} {M : List (Nat × Sl)} (hb : Blk w q 104 #[.int .i64 (mo : Nat), ch, .map (some b)]) (hm : Mu prS w b M) (x : Nat) (hx : x < 4294967296) (hmo : mo ≤ 64) (hM : M.length ≤ 1000000) :
  Calls Tryz.prog 54 #[.pointer (some ⟨q, 0, none⟩), .int .u32 (x : Nat)] w fun e w' => e = .returned (.bool (!(lookM M x).isSome && decide (mo ≤ M.length))) ∧ Below w.heap.size w w' := by
 have hmx : Tryz.prog.follows .mixedOrders = true := by kernel_rfl
 have C : ∀ y : More, (plus w y).cell? ⟨q, 2, none⟩ = some (.map (some b)) := fun y => (hb.below (plus_below w y) hb.lt).cell 2
 have C0 : ∀ y : More, (plus w y).cell? ⟨q, 0, none⟩ = some (.int .i64 (mo : Nat)) := fun y => (hb.below (plus_below w y) hb.lt).cell 0
 have hl := fun (y : More) => Mu.look1 (bmu_below hm (plus_below w y)) bmU (bmZ _) x hx
 have hlen : ∀ (y : More) (ty : TypeId), (Builtin.len_ #[BMT] ty #[.map (some b)]).run Tryz.prog (plus w y) = .ok (.int .i64 (M.length : Nat)) (plus w y) := fun y ty => Mu.len (bmu_below hm (plus_below w y)) bmU ty
 obtain ⟨n, hn⟩ : ∃ n, n = M.length := ⟨_, rfl⟩
 rw [← hn] at hlen hM ⊢
 cases hs : lookM M x with
 | none =>
  rw [hs] at hl
  have hl2 : ∀ y : More, (Instr.lookup BMT (.map (some b)) (.int .u32 ((x : Nat) : Int)) false).run Tryz.prog (plus w y) = .ok (.pointer none) (plus w y) := hl
  have g1 : decide ((mo : Int) ≤ (n : Int)) = decide (mo ≤ n) := by rw [decide_eq_decide]; omega
  clear hl hb hm hs hn
  rw [show (!(none : Option Sl).isSome && decide (mo ≤ n)) = decide (mo ≤ n) by simp]
  go_enter Tryz.func54, Tryz.ntmps54
  go_upto_region 1 with fail
  refine wp_region_ext (by kernel_rfl) (by kernel_rfl) ?_
  repeat (go_big_quiet_step (fail))
  refine wpQuiet_nil ?_
  rintro w7 ⟨y, rfl⟩
  go_wp2_with fail
  go_ret
  refine ⟨?_, plus_below w y⟩
  first | rfl | fail "here1"
 | some s =>
  rw [hs] at hl
  have hl2 : ∀ y : More, (Instr.lookup BMT (.map (some b)) (.int .u32 ((x : Nat) : Int)) false).run Tryz.prog (plus w y) = .ok (.pointer (some ⟨s.g, 0, none⟩)) (plus w y) := hl
  clear hl hb hm hs hn
  rw [show (!(some s : Option Sl).isSome && decide (mo ≤ n)) = false by simp]
  go_enter Tryz.func54, Tryz.ntmps54
  go_upto_region 1 with fail
  refine wp_region_ext (by kernel_rfl) (by kernel_rfl) ?_
  repeat (go_big_quiet_step (fail))
  refine wpQuiet_nil ?_
  rintro w7 ⟨y, rfl⟩
  go_wp2_with fail
  go_ret
  refine ⟨?_, plus_below w y⟩
  first | rfl | fail "here2"
end Go.Proofs.YtmcdollkmlcpbaaGreatDoor
set_option linter.unusedSimpArgs false
set_option linter.unusedVariables false
namespace Go.Proofs.YtmcdollkmlcpbaaGreatDoor
open Go.RowKit
set_option maxRecDepth 100000
set_option maxHeartbeats 2000000 in
theorem bEnd_of {w : World} {q x : Nat} {V : Value} {c b n : Nat}
  (HS : Calls Tryz.prog 29 #[.pointer (some ⟨q, 0, none⟩), .int .u32 (x : Nat)] (w.alloc (.cells #[.int .u32 0, .int .u32 0, .int .u32 0] 36)) fun e w' => ∃ v, e = .returned v ∧ Below (w.heap.size + 1) (w.alloc (.cells #[.int .u32 0, .int .u32 0, .int .u32 0] 36)) w' ∧ Calls Tryz.prog 37 #[v] w' fun e w'' => e = .returned (plV c b n) ∧ Below w'.heap.size w' w'') :
  Calls Tryz.prog 21 #[.pointer (some ⟨q, 0, none⟩), .int .u32 (x : Nat)] w fun e w' => e = .returned (plV c b n) ∧ Below w.heap.size w w' := by
 obtain ⟨W, hW⟩ : ∃ W, W = w.alloc (.cells #[.int .u32 0, .int .u32 0, .int .u32 0] 36) := ⟨_, rfl⟩
 obtain ⟨g, hg⟩ : ∃ g, g = w.heap.size := ⟨_, rfl⟩
 have hbw : Below w.heap.size w W := by rw [hW]; exact below_alloc w _
 have cg : Blk W g 36 #[.int .u32 0, .int .u32 0, .int .u32 0] := by rw [hW, hg]; exact Blk.new _ _ _
 have hz : W.heap.size = w.heap.size + 1 := by rw [hW, World.size_alloc]
 rw [← hW, ← hz] at HS
 have HA := Lib.hid HS
 have HB := Lib.hid (And.intro cg (And.intro hbw (Nat.le_of_eq hg.symm)))
 clear HS cg hbw hz
 go_enter Tryz.func21, Tryz.ntmps21
 go_upto_region 1 with fail
 rw [← hW, ← hg]
 clear hW hg
 go_wp2_with (go_at_call 29; refine HA.out.mono ?_; rintro e w2 ⟨v, rfl, b2, hE⟩)
 refine hE.mono ?_
 rintro e w3 ⟨rfl, b3⟩
 obtain ⟨cg, hbw, hg⟩ := HB.out
 have b13 : Below W.heap.size W w3 := b2.trans (b3.mono b2.size)
 have cg' := cg.below b13 cg.lt
 have b7 : Below w.heap.size w w3 := hbw.trans (b13.mono hbw.size)
 have C2 : cellsSay w3 g 0 [.int .u32 0, .int .u32 0, .int .u32 0] := cells_say cg' _ 0 rfl
 simp only [cellsSay, Nat.reduceAdd, and_true] at C2
 have HF := Lib.hid (And.intro cg' (And.intro b7 hg))
 clear cg cg' hbw hg b7 b13 b2 b3 hE HA HB
 go_wp2_with fail
 exact bodyPost_ret (results_cell_row Tryz.results21 _ _ g 36 #[.int .u32 (c : Nat), .int .u32 (b : Nat), .int .u32 (n : Nat)] (0, 0) _ rfl (HF.out.1.set3 _ _ _) Tryz.underlying36 rfl (by kernel_rfl)) rfl ⟨rfl, ((HF.out.2.1.setCell HF.out.2.2 _).setCell HF.out.2.2 _).setCell HF.out.2.2 _⟩
end Go.Proofs.YtmcdollkmlcpbaaGreatDoor
set_option linter.unusedSimpArgs false
set_option linter.unusedVariables false
namespace Go.Proofs.YtmcdollkmlcpbaaGreatDoor
open Go.RowKit
set_option maxRecDepth 100000
structure Bl where
 q : Nat
 b : Nat
 mo : Nat
 ch : Nat
 M : List (Nat × Sl)
def Bl.D (X : Bl) : BD := ⟨X.mo, X.ch, X.M.map fun p => (p.1, p.2.Cs)⟩
def Bl.cs (X : Bl) : Array Value := #[.int .i64 (X.mo : Nat), .int .i64 (X.ch : Nat), .map (some X.b)]
abbrev prB (X : Bl) : Value := .pointer (some ⟨X.q, 0, none⟩)
def bookT (X : Bl) : List Kt := thB X.q 104 X.cs :: thMu prS X.b X.M :: X.M.map fun p => thSr p.2
def thBk (X : Bl) : Kt := thAll (bookT X)
structure OkSl (s : Sl) : Prop where
 pn : s.pn = s.ps.length
 ah : ∀ i p, s.ps[i]? = some p → p.ah = totC (s.Cs.take i)
 st : s.e = lastC ec0 (lastL s.Cs)
 fl : ∀ x, s.Cs.dropLast.flatten.getLast? = some x → s.fl = x.1
structure OkB (X : Bl) : Prop where
 D : OkD X.D
 sl : ∀ p ∈ X.M, OkSl p.2
structure RdK (w : World) (X : Bl) : Prop where
 blk : Blk w X.q 104 X.cs
 mu : Mu prS w X.b X.M
 rd : ∀ p ∈ X.M, RdS w p.2
theorem RdK.of {w : World} {X : Bl} (h : (thBk X).P w) : RdK w X :=
 ⟨h.1 (thB X.q 104 X.cs) List.mem_cons_self, h.1 (thMu prS X.b X.M) (List.mem_cons_of_mem _ List.mem_cons_self), fun p hp => RdS.of (h.1 (thSr p.2) (List.mem_cons_of_mem _ (List.mem_cons_of_mem _ (List.mem_map.2 ⟨p, hp, rfl⟩))))⟩
theorem RdK.below {w w' : World} {X : Bl} (h : RdK w X) (b : Below w.heap.size w w') : RdK w' X := ⟨h.blk.below b h.blk.lt, bmu_below h.mu b, fun p hp => (h.rd p hp).below b⟩
structure RsS (w : World) (s : Sl) (C : CsT) : Prop where
 rd : RdS w s
 ok : OkSl s
 cs : s.Cs = C
 oc : OkC1 C
section
variable {w w' : World} {s : Sl} {C : CsT}
theorem RsS.below (h : RsS w s C) (b : Below w.heap.size w w') : RsS w' s C := ⟨h.rd.below b, h.ok, h.cs, h.oc⟩
theorem RsS.len (h : RsS w s C) : s.ps.length = C.length := by rw [← h.cs]; unfold Sl.Cs; rw [List.length_map]
theorem RsS.ne (h : RsS w s C) : s.ps ≠ [] := fun e => h.oc.ne (by rw [← h.cs]; unfold Sl.Cs; rw [e]; rfl)
theorem RsS.few (h : RsS w s C) : s.ps.length ≤ 1000000 := by have := h.oc.few; rw [h.len]; omega
theorem RsS.mem (h : RsS w s C) {p : Pm} (hp : p ∈ s.ps) : p.L ∈ C := by rw [← h.cs]; exact List.mem_map.2 ⟨p, hp, rfl⟩
theorem RsS.each (h : RsS w s C) : ∀ p ∈ s.ps, p.L.length ≤ 1000 ∧ InC p.L := fun p hp => ⟨h.oc.lenL (h.mem hp), h.oc.incL (h.mem hp)⟩
theorem RsS.at_ (h : RsS w s C) (i : Nat) : C[i]? = (s.ps[i]?).map (·.L) := by rw [← h.cs]; unfold Sl.Cs; rw [List.getElem?_map]
theorem RsS.get (h : RsS w s C) {i : Nat} {L : List Sm} (e : C[i]? = some L) : ∃ p, s.ps[i]? = some p ∧ p.L = L := by
 rw [h.at_] at e
 exact Option.map_eq_some_iff.1 e
theorem RsS.last (h : RsS w s C) : ∃ p, s.ps.getLast? = some p ∧ p.L = lastL C := by
 have hne := h.ne
 have hc := h.cs
 clear h
 refine ⟨_, List.getLast?_eq_some_getLast hne, ?_⟩
 unfold lastL
 rw [← hc]
 unfold Sl.Cs
 rw [List.getLast?_map, List.getLast?_eq_some_getLast hne]
 rfl
theorem RsS.has (h : RsS w s C) (pc pb pn : Nat) : hasB s pc pb pn = hasC C pc pb pn := by
 unfold hasB hasC
 rw [h.at_, h.len]
 cases s.ps[pc]? <;> rfl
theorem last_snoc {C : CsT} (h : lastL C ≠ []) (hC : C ≠ []) : C.flatten.getLast? = (lastL C).getLast? := by
 rw [cs_flat hC, List.getLast?_append]
 cases hl : (lastL C).getLast? with
 | none => exact absurd (List.getLast?_eq_none_iff.1 hl) h
 | some x => rfl
theorem last_time (L : List Sm) {x : Sm} (h : L.getLast? = some x) : (lastC ec0 L).last = x.1 := by
 have hne : L ≠ [] := fun e => by rw [e] at h; cases h
 rw [List.getLast?_eq_some_getLast hne] at h
 injection h with h
 rw [← List.dropLast_concat_getLast hne, lastC_last, h]
theorem RsS.opens (h : RsS w s C) (t : Int) : (s.ps.length = 1 ∨ s.fl < t) ↔ opensB C t = true := by
 rw [h.len]
 have hf := h.ok.fl
 rw [h.cs] at hf
 cases hg : C.dropLast.flatten.getLast? with
 | none =>
  simp only [opensB_none hg, iff_true]
  left
  have h1 := List.getLast?_eq_none_iff.1 hg
  have h2 := len_drop h.oc.full
  rw [h1, List.length_nil, List.length_dropLast] at h2
  have := List.length_pos_iff.2 h.oc.ne
  omega
 | some x =>
  rw [hf x hg, opensB_some hg]
  have : C.length ≠ 1 := fun e => by
   obtain ⟨L, rfl⟩ := List.length_eq_one_iff.1 e
   cases hg
  simp [this]
theorem RsS.late (h : RsS w s C) (t : Int) : (if 0 < s.e.n then s.e.last < t else s.ps.length = 1 ∨ s.fl < t) ↔ lateB C t = true := by
 have he : s.e = lastC ec0 (lastL C) := by rw [← h.cs]; exact h.ok.st
 have hl := h.oc.lenL h.oc.lastM
 have hk := rows_ok (lastL C) ec0 ok0 (Int.le_refl _) (by show (0 : Int) + _ ≤ _; omega) (h.oc.incL h.oc.lastM)
 have hn : s.e.n = ((lastL C).length : Nat) := by rw [he, hk.2.1]; show (0 : Int) + _ = _; omega
 by_cases h0 : lastL C = []
 ·have e0 : ¬ (0 : Int) < s.e.n := by rw [hn, h0]; decide
  rw [if_neg e0, late_opens h.oc.ne h0]
  exact h.opens t
 ·have e0 : (0 : Int) < s.e.n := by rw [hn]; have := List.length_pos_iff.2 h0; omega
  have e1 := List.getLast?_eq_some_getLast h0
  rw [if_pos e0, lateB_some ((last_snoc h0 h.oc.ne).trans e1), he, last_time (lastL C) e1, decide_eq_true_eq]
end
theorem empty_ok (b g : Nat) : OkSl (emptySl b g) := ⟨rfl, fun i p h => by
 match i, h with
 | 0, h => injection h with h; subst h; rfl, rfl, fun x h => by cases h⟩
theorem lookD (X : Bl) (x : Nat) : lookM X.D.M x = (lookM X.M x).map (·.Cs) := lookM_map (fun _ s => Sl.Cs s) X.M x
theorem Bl.at_some {X : Bl} {x : Nat} {s : Sl} (h : lookM X.M x = some s) : X.D.at_ x = s.Cs := by
 unfold BD.at_; rw [lookD, h]; rfl
theorem Bl.at_none {X : Bl} {x : Nat} (h : lookM X.M x = none) : X.D.at_ x = [[]] := by
 unfold BD.at_; rw [lookD, h]; rfl
theorem bser_any {w : World} {X : Bl} (h : RdK w X) (ok : OkB X) (x : Nat) (hx : x < 4294967296) : Calls Tryz.prog 29 #[prB X, .int .u32 (x : Nat)] w fun e w' => ∃ s, e = .returned (prS s) ∧ RsS w' s (X.D.at_ x) ∧ Below w.heap.size w w' := by
 cases hs : lookM X.M x with
 | some s =>
  refine (bseries_some h.blk h.mu x hx s hs).mono ?_
  rintro e w' ⟨rfl, rfl⟩
  have hm := lookM_mem hs
  exact ⟨s, rfl, ⟨h.rd _ hm, ok.sl _ hm, (Bl.at_some hs).symm, ok.D.at_ x⟩, Below.refl _ _⟩
 | none =>
  refine (bseries_none h.blk h.mu x hx hs).mono ?_
  rintro e w' ⟨b, g, rfl, -, -, -, hP, hB⟩
  refine ⟨_, rfl, ⟨RdS.of hP, empty_ok b g, ?_, ok.D.at_ x⟩, hB⟩
  rw [Bl.at_none hs]; rfl
theorem bEnd_any {w : World} {X : Bl} (h : RdK w X) (ok : OkB X) (x : Nat) (hx : x < 4294967296) : Calls Tryz.prog 21 #[prB X, .int .u32 (x : Nat)] w fun e w' => e = .returned (plV (endC (X.D.at_ x)).1 (endC (X.D.at_ x)).2.1 (endC (X.D.at_ x)).2.2) ∧ Below w.heap.size w w' := by
 have t := below_alloc w (.cells #[.int .u32 0, .int .u32 0, .int .u32 0] 36)
 refine bEnd_of (V := .pointer none) ((bser_any (h.below t) ok x hx).mono fun e w' ⟨s, he, hR, hB⟩ => ⟨prS s, he, ?_, ?_⟩)
 ·rw [World.size_alloc] at hB; exact hB
 ·obtain ⟨p, hp, hpL⟩ := hR.last
  have hm := List.mem_of_getLast? hp
  have := bend_any hR.rd hp hR.ok.pn hR.few (hR.each p hm).1 (hR.each p hm).2
  rw [hpL, hR.len] at this
  exact this
end Go.Proofs.YtmcdollkmlcpbaaGreatDoor
set_option linter.unusedSimpArgs false
set_option linter.unusedVariables false
namespace Go.Proofs.YtmcdollkmlcpbaaGreatDoor
open Go.RowKit
set_option maxRecDepth 100000
def sameF (f g : FrD) : Bool := decide (f.kd = g.kd ∧ f.ep = g.ep ∧ f.se = g.se ∧ (f.fc, f.fb, f.fn) = (g.fc, g.fb, g.fn) ∧ f.cn = g.cn ∧ f.cl = g.cl ∧ f.sm = g.sm) && (decide (f.n = g.n) && decide (f.l = g.l))
theorem sameF_iff (f g : FrD) : sameF f g = true ↔ f = g := by
 obtain ⟨kd, ep, se, fc, fb, fn, cn, cl, sm, l, n⟩ := f
 obtain ⟨kd2, ep2, se2, fc2, fb2, fn2, cn2, cl2, sm2, l2, n2⟩ := g
 simp only [sameF, Bool.and_eq_true, decide_eq_true_iff, FrD.mk.injEq, Prod.mk.injEq]
 constructor
 ·rintro ⟨⟨rfl, rfl, rfl, ⟨rfl, rfl, rfl⟩, rfl, rfl, rfl⟩, rfl, rfl⟩; simp
 ·rintro ⟨rfl, rfl, rfl, rfl, rfl, rfl, rfl, rfl, rfl, rfl, rfl⟩; simp
set_option maxHeartbeats 4000000 in
theorem rfsame_any (f g : FrD) (A B : Option Addr) (c d : Nat) (w : World) (hA : Bs w A f.l) (hB : Bs w B g.l) :
  Calls Tryz.prog 22 #[.agg (frC f A c), .agg (frC g B d)] w fun e w' => e = .returned (.bool (sameF f g)) ∧ Below w.heap.size w w' := by
 obtain ⟨r, hr⟩ : ∃ r, r = sameF f g := ⟨_, rfl⟩
 rw [← hr]
 have hS := fun (W : World) (hb : Below w.heap.size w W) => refSame_any A B c d f.l g.l f.n g.n W (hA.below hb) (hB.below hb)
 obtain ⟨sb, hsb⟩ : ∃ sb, sb = (decide (f.n = g.n) && decide (f.l = g.l)) := ⟨_, rfl⟩
 rw [← hsb] at hS
 unfold sameF at hr
 rw [← hsb] at hr
 clear hA hB hsb
 obtain ⟨kd, ep, se, fc, fb, fn, cn, cl, sm, l, n⟩ := f
 obtain ⟨kd2, ep2, se2, fc2, fb2, fn2, cn2, cl2, sm2, l2, n2⟩ := g
 simp only [frC] at hr hS ⊢
 have HS := Lib.hid hS
 have HK0 := (Qs.zero w).box #[.int .u8 (kd : Nat), .int .u32 (ep : Nat), .int .u32 (se : Nat), .int .u32 (fc : Nat), .int .u32 (fb : Nat), .int .u32 (fn : Nat), .int .u32 (cn : Nat), .bool cl, .int .u64 (sm : Nat), .slice A l.length c, .int .i64 n] 39
 have s1 : ∀ o, (w.alloc o).heap.size = w.heap.size + 1 := fun o => by simp
 have HK2 := HK0.box #[.int .u8 (kd2 : Nat), .int .u32 (ep2 : Nat), .int .u32 (se2 : Nat), .int .u32 (fc2 : Nat), .int .u32 (fb2 : Nat), .int .u32 (fn2 : Nat), .int .u32 (cn2 : Nat), .bool cl2, .int .u64 (sm2 : Nat), .slice B l2.length d, .int .i64 n2] 39
 simp only [s1] at HK2
 have HK := Lib.hid HK2
 clear HK0 HK2 s1
 have C := HK.out.says
 simp only [sayAll, cellsSay, qB, qW, Nat.reduceAdd, and_true, true_and] at C
 have hP := fun w => eqPlB_run fc fb fn fc2 fb2 fn2 w
 clear hS
 by_cases c_kd : kd = kd2
 rotate_left
 ·have h_kd : (((kd : Nat) : Int) == ((kd2 : Nat) : Int)) = false := beq_eq_false_iff_ne.2 (by omega)
  have Hr := Lib.hid (show r = false by rw [hr, decide_eq_false (fun h => c_kd (by simpa using (h.1))), Bool.false_and])
  clear hr c_kd
  go_enter Tryz.func22, Tryz.ntmps22
  go_wp2_with fail
  go_ret
  exact ⟨by rw [Hr.out]; rfl, HK.out.top 2⟩
 have h_kd : (((kd : Nat) : Int) == ((kd2 : Nat) : Int)) = true := beq_iff_eq.2 (by omega)
 by_cases c_ep : ep = ep2
 rotate_left
 ·have h_ep : (((ep : Nat) : Int) == ((ep2 : Nat) : Int)) = false := beq_eq_false_iff_ne.2 (by omega)
  have Hr := Lib.hid (show r = false by rw [hr, decide_eq_false (fun h => c_ep (by simpa using (h.2.1))), Bool.false_and])
  clear hr c_ep c_kd
  go_enter Tryz.func22, Tryz.ntmps22
  go_wp2_with fail
  go_ret
  exact ⟨by rw [Hr.out]; rfl, HK.out.top 2⟩
 have h_ep : (((ep : Nat) : Int) == ((ep2 : Nat) : Int)) = true := beq_iff_eq.2 (by omega)
 by_cases c_se : se = se2
 rotate_left
 ·have h_se : (((se : Nat) : Int) == ((se2 : Nat) : Int)) = false := beq_eq_false_iff_ne.2 (by omega)
  have Hr := Lib.hid (show r = false by rw [hr, decide_eq_false (fun h => c_se (by simpa using (h.2.2.1))), Bool.false_and])
  clear hr c_se c_kd c_ep
  go_enter Tryz.func22, Tryz.ntmps22
  go_wp2_with fail
  go_ret
  exact ⟨by rw [Hr.out]; rfl, HK.out.top 2⟩
 have h_se : (((se : Nat) : Int) == ((se2 : Nat) : Int)) = true := beq_iff_eq.2 (by omega)
 by_cases c_pl : (fc, fb, fn) = (fc2, fb2, fn2)
 rotate_left
 ·rw [decide_eq_false c_pl] at hP
  have Hr := Lib.hid (show r = false by rw [hr, decide_eq_false (fun h => c_pl (by simpa using (h.2.2.2.1))), Bool.false_and])
  clear hr c_pl c_kd c_ep c_se
  go_enter Tryz.func22, Tryz.ntmps22
  go_wp2_with fail
  go_ret
  exact ⟨by rw [Hr.out]; rfl, HK.out.top 2⟩
 rw [decide_eq_true c_pl] at hP
 by_cases c_cn : cn = cn2
 rotate_left
 ·have h_cn : (((cn : Nat) : Int) == ((cn2 : Nat) : Int)) = false := beq_eq_false_iff_ne.2 (by omega)
  have Hr := Lib.hid (show r = false by rw [hr, decide_eq_false (fun h => c_cn (by simpa using (h.2.2.2.2.1))), Bool.false_and])
  clear hr c_cn c_kd c_ep c_se c_pl
  go_enter Tryz.func22, Tryz.ntmps22
  go_wp2_with fail
  go_ret
  exact ⟨by rw [Hr.out]; rfl, HK.out.top 2⟩
 have h_cn : (((cn : Nat) : Int) == ((cn2 : Nat) : Int)) = true := beq_iff_eq.2 (by omega)
 by_cases c_cl : cl = cl2
 rotate_left
 ·have h_cl : (cl == cl2) = false := beq_eq_false_iff_ne.2 c_cl
  have Hr := Lib.hid (show r = false by rw [hr, decide_eq_false (fun h => c_cl (by simpa using (h.2.2.2.2.2.1))), Bool.false_and])
  clear hr c_cl c_kd c_ep c_se c_pl c_cn
  go_enter Tryz.func22, Tryz.ntmps22
  go_wp2_with fail
  go_ret
  exact ⟨by rw [Hr.out]; rfl, HK.out.top 2⟩
 have h_cl : (cl == cl2) = true := beq_iff_eq.2 c_cl
 by_cases c_sm : sm = sm2
 rotate_left
 ·have h_sm : (((sm : Nat) : Int) == ((sm2 : Nat) : Int)) = false := beq_eq_false_iff_ne.2 (by omega)
  have Hr := Lib.hid (show r = false by rw [hr, decide_eq_false (fun h => c_sm (by simpa using (h.2.2.2.2.2.2))), Bool.false_and])
  clear hr c_sm c_kd c_ep c_se c_pl c_cn c_cl
  go_enter Tryz.func22, Tryz.ntmps22
  go_wp2_with fail
  go_ret
  exact ⟨by rw [Hr.out]; rfl, HK.out.top 2⟩
 have h_sm : (((sm : Nat) : Int) == ((sm2 : Nat) : Int)) = true := beq_iff_eq.2 (by omega)
 have Hr := Lib.hid (show r = sb by rw [hr, decide_eq_true ⟨c_kd, c_ep, c_se, c_pl, c_cn, c_cl, c_sm⟩, Bool.true_and])
 clear hr c_kd c_ep c_se c_pl c_cn c_cl c_sm
 go_enter Tryz.func22, Tryz.ntmps22
 go_wp2_with fail
 refine (HS.out _ (HK.out.top 2)).mono ?_
 rintro e w1 ⟨rfl, b1⟩
 have HK1 := Lib.hid (HK.out.go b1)
 clear b1
 go_wp2_with fail
 go_ret
 exact ⟨by rw [Hr.out]; rfl, HK1.out.top 2⟩
end Go.Proofs.YtmcdollkmlcpbaaGreatDoor
