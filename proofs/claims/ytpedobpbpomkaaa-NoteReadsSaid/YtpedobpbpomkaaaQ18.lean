/- Joined: Nt11, Nt12, Nt13, Nt16, Nt18, Nt17, Nt15, Nt14. -/
import Derived.Test.YtpedobpbpomkaaaQ17
import Derived.Defers
import Derived.Recover
import Derived.Deep.DeepCutAuto
import Derived.Test.YtpedobpbpomkaaaQ10
set_option linter.unusedSimpArgs false
set_option linter.unusedVariables false
/- Layer 11: the program's reader reads a note; what Decode defers. -/
set_option linter.unusedSimpArgs false
set_option linter.unusedVariables false
namespace Go.Proofs.Ytpedobpbpomkaaa
open Go.RowKit
set_option maxRecDepth 100000

/-- the byte of Closed, as note tells it -/
def cloN (l : List UInt8) : Nat := if num (part l 0 1) = 1 ∨ num (part l 0 1) = 2 ∨ num (part l 0 1) = 3 then 0 else num (part l 21 1)
theorem nnote_any {w0 w : World} {q : Nat} {l : List UInt8} (h : Rd w0 w q l) (hL : l.length ≤ 100000) (h1 : 1 ≤ l.length) :
    Calls Try.prog 48 #[.pointer (some ⟨q, 0, none⟩)] w fun e w' => (l.length < hdN (num (part l 0 1)) ∧ e = .panicked [{ v := .iface 75 (.agg #[]), recovered := false }] ∧ Hid (w.grownBy w' (some q) ∧ Below w0.heap.size w0 w')) ∨ (hdN (num (part l 0 1)) ≤ l.length ∧ e = .returned (.tuple #[.agg (noC { parN l with l := [] } none 0), .int .u64 (cloN l : Nat)]) ∧ Hid (Rd w0 w' q (l.drop (hdN (num (part l 0 1)))) ∧ w.grownBy w' (some q))) := by
  unfold cloN
  by_cases k1 : num (part l 0 1) = 1
  · rw [if_pos (.inl k1), k1]; exact nnote_k1 h hL h1 k1
  by_cases k2 : num (part l 0 1) = 2
  · rw [if_pos (.inr (.inl k2)), k2]; exact nnote_k2 h hL h1 k2
  by_cases k3 : num (part l 0 1) = 3
  · rw [if_pos (.inr (.inr k3)), k3]; exact nnote_k3 h hL h1 k3
  rw [if_neg (by omega), show hdN (num (part l 0 1)) = 24 by unfold hdN; rw [if_neg k1, if_neg k2, if_neg k3]]
  exact nnote_k4 h hL h1 ⟨k1, k2, k3⟩

theorem ncatch_idle (b0 b1 : Nat) (w : World) :
    CallsD Try.prog 47 #[.pointer (some ⟨b0, 0, none⟩), .pointer (some ⟨b1, 0, none⟩)] .returning w fun e u' w' => e = .returned (.tuple #[]) ∧ u' = .returning ∧ w' = w := by
  refine callsD_of_wpS Try.func47 rfl fun c₀ cs hu => ?_
  apply wpS_seq
  apply wpS_region
  simp [wpOpsS, go_sem, recoverD, hu, Try.ntmps47, Exit.thenS]
  refine wpS_of_wp ?_
  go_wp2_with fail
  cases c₀
  simp_all [bodyPostS, results, Try.results47]

theorem assert_short (xT : TypeId) (w : World) : (Instr.typeAssert (.iface 75 (.agg #[])) xT 75 true).run Try.prog w = .ok (.tuple #[.agg #[], .bool true]) w := by
  have hu : Try.prog.underlying 75 = some (.struct (Try.prog.fieldsOf 75)) := by kernel_rfl
  simp [Instr.typeAssert, run_underlying hu, go_sem, Result.andThen]
set_option maxHeartbeats 2000000 in
theorem ncatch_pan (b0 b1 : Nat) (v0 v1 v2 v3 v4 v5 v6 v7 v8 v9 v10 v11 : Value) (v : Value) (older : List PanicEntry) (w w0 : World) (hw0 : w0.heap.size ≤ w.heap.size) (ht : Below w0.heap.size w0 w) (hb0 : Blk w b0 50 #[v0, v1, v2, v3, v4, v5, v6, v7, v8, v9, v10, v11]) (hb1 : Blk w b1 33 #[v]) (h01 : b0 ≠ b1) (h0 : w0.heap.size ≤ b0) (h1 : w0.heap.size ≤ b1) :
    CallsD Try.prog 47 #[.pointer (some ⟨b0, 0, none⟩), .pointer (some ⟨b1, 0, none⟩)] (.panicking ({ v := .iface 75 (.agg #[]), recovered := false } :: older)) w fun e u' w' => e = .returned (.tuple #[]) ∧ u' = .panicking ({ v := .iface 75 (.agg #[]), recovered := true } :: older) ∧ Hid (Qs w' [qB b1 33 #[.int .u16 110], qB b0 50 #[.int .u8 0, .int .u32 0, .int .u32 0, .int .i64 0, .int .u64 0, .int .u32 0, .int .u32 0, .int .u32 0, .int .u32 0, .bool false, .slice none 0 0, .int .i64 0], qW w0 w0.heap.size (Nat.le_refl _)]) := by
  have hta := assert_short
  have HK := Lib.hid ((((Qs.nil w).cons (k := qW w0 w0.heap.size (Nat.le_refl _)) ⟨ht, hw0⟩).cons (k := qB _ _ _) hb0).cons (k := qB _ _ _) hb1)
  obtain ⟨W, hW⟩ : ∃ W, W = w.alloc (.cells #[] 75) := ⟨_, rfl⟩
  have HW := Lib.hid (show Qs W _ by rw [hW]; exact HK.out.alloc _)
  have C := HW.out.says
  simp only [sayAll, cellsSay, qB, qW, Nat.reduceAdd, and_true, true_and] at C
  have H0 := Lib.hid (And.intro h01 (And.intro h0 h1))
  clear ht hb0 hb1 HK hw0
  refine callsD_of_wpS Try.func47 rfl fun c₀ cs hu => ?_
  apply wpS_seq
  apply wpS_region
  simp [wpOpsS, go_sem, recoverD, hu, Try.ntmps47, Exit.thenS]
  refine wpS_of_wp ?_
  go_upto_region 7 with fail
  rw [← hW]
  clear hW
  go_wp2_with fail
  generalize hW : World.setCell _ _ _ = Wn
  have h3 := H0.out
  have HKn := (HW.out.put 1 b0 [(0, .int .u8 0), (1, .int .u32 0), (2, .int .u32 0), (3, .int .i64 0), (4, .int .u64 0), (5, .int .u32 0), (6, .int .u32 0), (7, .int .u32 0), (8, .int .u32 0), (9, .bool false), (10, .slice none 0 0), (11, .int .i64 0)] #[.int .u8 0, .int .u32 0, .int .u32 0, .int .i64 0, .int .u64 0, .int .u32 0, .int .u32 0, .int .u32 0, .int .u32 0, .bool false, .slice none 0 0, .int .i64 0] (by simp only [apBut, apAll, qB, qW, qO, and_true, true_and]; omega)).put 0 b1 [(0, .int .u16 110)] #[.int .u16 110] (by simp only [apBut, apAll, qB, qW, qO, and_true, true_and, List.set]; omega)
  have HKm := Lib.hid HKn
  rw [show sets (sets W b0 [(0, .int .u8 0), (1, .int .u32 0), (2, .int .u32 0), (3, .int .i64 0), (4, .int .u64 0), (5, .int .u32 0), (6, .int .u32 0), (7, .int .u32 0), (8, .int .u32 0), (9, .bool false), (10, .slice none 0 0), (11, .int .i64 0)]) b1 [(0, .int .u16 110)] = Wn from hW] at HKm
  clear HKn hW C HW
  simp only [List.set] at HKm
  simp [bodyPostS, results, Try.results47]
  exact HKm

end Go.Proofs.Ytpedobpbpomkaaa

/- Layer 11: the program's Decode. -/
set_option linter.unusedSimpArgs false
set_option linter.unusedVariables false
namespace Go.Proofs.Ytpedobpbpomkaaa
open Go.RowKit
set_option maxRecDepth 100000

theorem nnote_nil {w0 w : World} {q : Nat} (h : Rd w0 w q []) :
    Calls Try.prog 48 #[.pointer (some ⟨q, 0, none⟩)] w fun e w' => e = .panicked [{ v := .iface 75 (.agg #[]), recovered := false }] ∧ Below w.heap.size w w' := by
  have HC := Lib.hid (nnum_no (h.below (below_alloc w (.cells #[.int .u8 0, .int .u32 0, .int .u32 0, .int .i64 0, .int .u64 0, .int .u32 0, .int .u32 0, .int .u32 0, .int .u32 0, .bool false, .slice none 0 0, .int .i64 0] 50))) 1 (by simp) (by decide))
  clear h
  go_enter Try.func48, Try.ntmps48
  go_wp2_with fail
  refine HC.out.mono ?_
  rintro e w1 ⟨rfl, h1⟩
  have H1 := Lib.hid h1
  clear h1
  go_wp2_with fail
  exact ⟨rfl, rfl, by rw [H1.out]; exact below_alloc _ _⟩
theorem nnote_all {w0 w : World} {q : Nat} {l : List UInt8} (h : Rd w0 w q l) (hL : l.length ≤ 100000) :
    Calls Try.prog 48 #[.pointer (some ⟨q, 0, none⟩)] w fun e w' => (l.length < hdN (num (part l 0 1)) ∧ e = .panicked [{ v := .iface 75 (.agg #[]), recovered := false }] ∧ Hid (w.grownBy w' (some q) ∧ Below w0.heap.size w0 w')) ∨ (hdN (num (part l 0 1)) ≤ l.length ∧ e = .returned (.tuple #[.agg (noC { parN l with l := [] } none 0), .int .u64 (cloN l : Nat)]) ∧ Hid (Rd w0 w' q (l.drop (hdN (num (part l 0 1)))) ∧ w.grownBy w' (some q))) := by
  rcases Nat.eq_zero_or_pos l.length with h0 | h0
  · obtain rfl := List.eq_nil_of_length_eq_zero h0
    refine (nnote_nil h).mono ?_
    rintro e w' ⟨rfl, hb⟩
    exact .inl ⟨by have := hdN_le (num (part ([] : List UInt8) 0 1)); simp; omega, rfl, Lib.hid ⟨grown_below hb _, h.top.trans (hb.mono h.top.size)⟩⟩
  · exact nnote_any h hL h0
theorem dec_prog {l : List UInt8} (h : hdN (num (part l 0 1)) ≤ l.length) : decN l = if cloN l ≤ 1 ∧ mayN (parN l) = true then (parN l, 0) else (zeroN, 110) := by
  unfold decN
  rcases hm : mayN (parN l) with _ | _
  · rw [if_neg (by unfold goodN; rw [hm]; simp), if_neg (by simp)]
  · have hk := mayN_kd hm
    rw [parN_kd] at hk
    have hiff : goodN l = true ↔ cloN l ≤ 1 := by
      unfold goodN cloN
      rw [hm]
      simp only [Bool.and_eq_true, decide_eq_true_iff, and_true]
      split
      · constructor
        · intro _; omega
        · intro _; exact ⟨h, fun h3 => by omega⟩
      · constructor
        · rintro ⟨_, h2⟩; exact h2 (by omega)
        · intro h2; exact ⟨h, fun _ => h2⟩
    by_cases hc : cloN l ≤ 1
    · rw [if_pos (hiff.2 hc), if_pos ⟨hc, rfl⟩]
    · rw [if_neg (fun e => hc (hiff.1 e)), if_neg (fun e => hc e.1)]
theorem cloN_lt (l : List UInt8) : cloN l < 256 := by
  unfold cloN
  split
  · omega
  · exact part_lt l 21 1

set_option maxHeartbeats 16000000 in
theorem ndec_any (A : Option Addr) (c : Nat) (l : List UInt8) (w : World) (hA : Bs w A l) (hc : l.length ≤ c) (hL : l.length ≤ 100000) :
    Calls Try.prog 27 #[.slice A l.length c] w fun e w' => ∃ A' c', e = .returned (.tuple #[.agg (noC (decN l).1 A' c'), .int .u16 ((decN l).2 : Nat)]) ∧ Hid (OwnB w' w.heap.size (.slice A' (decN l).1.l.length c') (decN l).1.l ∧ Below w.heap.size w w') := by
  have hmf : ∀ (fn : Fn) (first cap : Array Value) (w : World), (Instr.makeFunc fn first cap).run Try.prog w = .ok (.func fn first cap) w := fun _ _ _ _ => rfl
  obtain ⟨s, hs⟩ : ∃ s, s = w.heap.size := ⟨_, rfl⟩
  have s1 : ∀ (u : World) o, (u.alloc o).heap.size = u.heap.size + 1 := fun u o => by simp
  obtain ⟨W, hW⟩ : ∃ W, W = ((w.alloc (.cells #[.int .u8 0, .int .u32 0, .int .u32 0, .int .i64 0, .int .u64 0, .int .u32 0, .int .u32 0, .int .u32 0, .int .u32 0, .bool false, .slice none 0 0, .int .i64 0] 50)).alloc (.cells #[.int .u16 0] 33)).alloc (.cells #[.slice A l.length c] 78) := ⟨_, rfl⟩
  have hK := (((Qs.zero w).box #[.int .u8 0, .int .u32 0, .int .u32 0, .int .i64 0, .int .u64 0, .int .u32 0, .int .u32 0, .int .u32 0, .int .u32 0, .bool false, .slice none 0 0, .int .i64 0] 50).box #[.int .u16 0] 33).box #[.slice A l.length c] 78
  simp only [s1] at hK
  rw [← hW] at hK
  have HK := Lib.hid hK
  have hRd : Rd w W (w.heap.size + 1 + 1) l := ⟨⟨A, c, HK.out.blk 0, hA, hc, fun h => hA.cutZ h⟩, HK.out.top 3, by omega⟩
  have HRd := Lib.hid hRd
  clear hK hRd s1 hA hs
  go_enter_defers Try.func27, Try.ntmps27
  go_upto_region 3 with fail
  rw [← hW]
  clear hW
  go_wp2_with fail
  refine (nnote_all HRd.out hL).mono ?_
  rintro e w1 (⟨hsh, rfl, H⟩ | ⟨hsh, rfl, H⟩)
  · have HD2 : Hid (decN l = (zeroN, 110)) := Lib.hid (by unfold decN goodN; rw [decide_eq_false (by omega)]; simp)
    have hKt := HK.out.tail.grow H.out.1 (fun g e => by injection e with e; subst e; simp only [apAll, qB, qW, and_true, true_and]; omega)
    have HKt := Lib.hid hKt
    clear hKt HK HRd H hsh
    go_wp2_with fail
    refine leaves_cons (f := 47) (args := #[.pointer (some ⟨w.heap.size, 0, none⟩), .pointer (some ⟨w.heap.size + 1, 0, none⟩)]) (by simp) (by simp [go_sem]) ?_
    refine (ncatch_pan w.heap.size (w.heap.size + 1) _ _ _ _ _ _ _ _ _ _ _ _ _ [] w1 w (HKt.out.top 2).size (HKt.out.top 2) (HKt.out.blk 1) (HKt.out.blk 0) (by omega) (by omega) (by omega)).mono ?_
    rintro e u' w2 ⟨rfl, rfl, H2⟩
    have C := H2.out.says
    simp only [sayAll, cellsSay, qB, qW, Nat.reduceAdd, and_true, true_and] at C
    simp [Leaves, settle, results, Try.results27, go_sem, C]
    exact ⟨none, 0, ⟨by rw [HD2.out]; rfl, by rw [HD2.out]; rfl⟩, Lib.hid ⟨by rw [HD2.out]; exact OwnB.nil _ _, H2.out.top 2⟩⟩
  · have hpd := dec_prog hsh
    have hok := parN_ok l
    have hpl := parN_l l
    obtain ⟨R, hR⟩ : ∃ R, R = l.drop (hdN (num (part l 0 1))) := ⟨_, rfl⟩
    rw [← hR] at hpl H
    obtain ⟨cb, hcb⟩ : ∃ x, x = cloN l := ⟨_, rfl⟩
    have hcb2 : cb < 256 := by rw [hcb]; exact cloN_lt l
    rw [← hcb] at hpd ⊢
    have hRl : R.length ≤ 100000 := by rw [hR, List.length_drop]; omega
    generalize hgp : parN l = D at *
    obtain ⟨kd, ep, se, st, sv, pc, pb, pn, cn, cl, l5, n⟩ := D
    simp only at hpl
    replace hpl := hpl.symm
    subst hpl
    simp only [noC, List.length_nil]
    have HD := Lib.hid hpd
    have HOk := Lib.hid hok
    have hKt := HK.out.tail.grow H.out.2 (fun g e => by injection e with e; subst e; simp only [apAll, qB, qW, and_true, true_and]; omega)
    obtain ⟨A2, c2, hb2, hA2, hc2, hf2⟩ := H.out.1.bx
    have HKt := Lib.hid (hKt.cons (k := qB _ _ _) hb2)
    have HA2 := Lib.hid hA2
    have HF2 := Lib.hid hf2
    clear hKt HK HRd H hsh hpd hok hb2 hA2 hR hcb hgp hf2
    have C := HKt.out.says
    simp only [sayAll, cellsSay, qB, qW, qO, Nat.reduceAdd, and_true, true_and] at C
    go_upto_region 4 with fail
    generalize hW : World.setCell _ _ _ = w2
    have HKn := HKt.out.put 2 w.heap.size [(0, .int .u8 (kd : Nat)), (1, .int .u32 (ep : Nat)), (2, .int .u32 (se : Nat)), (3, .int .i64 st), (4, .int .u64 (sv : Nat)), (5, .int .u32 (pc : Nat)), (6, .int .u32 (pb : Nat)), (7, .int .u32 (pn : Nat)), (8, .int .u32 (cn : Nat)), (9, .bool cl), (10, .slice none 0 0), (11, .int .i64 n)] #[.int .u8 (kd : Nat), .int .u32 (ep : Nat), .int .u32 (se : Nat), .int .i64 st, .int .u64 (sv : Nat), .int .u32 (pc : Nat), .int .u32 (pb : Nat), .int .u32 (pn : Nat), .int .u32 (cn : Nat), .bool cl, .slice none 0 0, .int .i64 n] (by simp only [apBut, apAll, qB, qW, qO, and_true, true_and]; omega)
    rw [show sets _ w.heap.size [(0, .int .u8 (kd : Nat)), (1, .int .u32 (ep : Nat)), (2, .int .u32 (se : Nat)), (3, .int .i64 st), (4, .int .u64 (sv : Nat)), (5, .int .u32 (pc : Nat)), (6, .int .u32 (pb : Nat)), (7, .int .u32 (pn : Nat)), (8, .int .u32 (cn : Nat)), (9, .bool cl), (10, .slice none 0 0), (11, .int .i64 n)] = w2 from hW] at HKn
    replace HKt := Lib.hid HKn
    simp only [List.set] at HKt
    clear hW HKn C
    have C := HKt.out.says
    simp only [sayAll, cellsSay, qB, qW, qO, Nat.reduceAdd, and_true, true_and] at C
    by_cases hR0 : R = []
    · subst hR0
      simp only [List.length_nil] at C HKt
      go_upto_region 6 with fail
      by_cases hcl : 1 < cb
      · have HD2 : Hid (decN l = (zeroN, 110)) := Lib.hid (by rw [HD.out, if_neg (fun h => by omega)])
        have hcl2 : (1 : Int) < (cb : Int) := by omega
        go_wp2_with fail
        generalize hW : World.setCell _ _ _ = w9
        have HKn := (HKt.out.put 2 w.heap.size [(0, .int .u8 0), (1, .int .u32 0), (2, .int .u32 0), (3, .int .i64 0), (4, .int .u64 0), (5, .int .u32 0), (6, .int .u32 0), (7, .int .u32 0), (8, .int .u32 0), (9, .bool false), (10, .slice none 0 0), (11, .int .i64 0)] #[.int .u8 0, .int .u32 0, .int .u32 0, .int .i64 0, .int .u64 0, .int .u32 0, .int .u32 0, .int .u32 0, .int .u32 0, .bool false, .slice none 0 0, .int .i64 0] (by simp only [apBut, apAll, qB, qW, qO, and_true, true_and]; omega)).put 1 (w.heap.size + 1) [(0, .int .u16 110)] #[.int .u16 110] (by simp only [apBut, apAll, qB, qW, qO, and_true, true_and, List.set]; omega)
        have HKm := Lib.hid HKn
        rw [show sets (sets _ w.heap.size [(0, .int .u8 0), (1, .int .u32 0), (2, .int .u32 0), (3, .int .i64 0), (4, .int .u64 0), (5, .int .u32 0), (6, .int .u32 0), (7, .int .u32 0), (8, .int .u32 0), (9, .bool false), (10, .slice none 0 0), (11, .int .i64 0)]) (w.heap.size + 1) [(0, .int .u16 110)] = w9 from hW] at HKm
        clear HKn hW C
        replace HKt := HKm
        clear HKm
        simp only [List.set] at HKt
        refine leaves_cons (f := 47) (args := #[.pointer (some ⟨w.heap.size, 0, none⟩), .pointer (some ⟨w.heap.size + 1, 0, none⟩)]) (by simp) (by simp [go_sem]) ?_
        refine (ncatch_idle w.heap.size (w.heap.size + 1) _).mono ?_
        rintro e u' w10 ⟨rfl, rfl, rfl⟩
        have C := HKt.out.says
        simp only [sayAll, cellsSay, qB, qW, qO, Nat.reduceAdd, and_true, true_and] at C
        simp [Leaves, settle, results, Try.results27, go_sem, C]
        exact ⟨none, 0, ⟨by rw [HD2.out]; rfl, by rw [HD2.out]; rfl⟩, Lib.hid ⟨by rw [HD2.out]; exact OwnB.nil _ _, HKt.out.top 3⟩⟩
      have hcl2 : ¬ (1 : Int) < (cb : Int) := by omega
      cases hmay : mayN ⟨kd, ep, se, st, sv, pc, pb, pn, cn, cl, [], n⟩
      · have hM := fun (W : World) (hb : Bs W none []) => nmay_any ⟨kd, ep, se, st, sv, pc, pb, pn, cn, cl, [], n⟩ none 0 W hb HOk.out (by simp only [List.length_nil]; omega)
        rw [hmay] at hM
        simp only [noC, List.length_nil] at hM
        have HM := Lib.hid hM
        have HD2 : Hid (decN l = (zeroN, 110)) := Lib.hid (by rw [HD.out, if_neg (fun h => by rw [hmay] at h; cases h.2)])
        clear hM hmay
        go_wp2_with fail
        refine (HM.out _ (Bs.nil _ _)).mono ?_
        rintro e w8 ⟨rfl, b8⟩
        replace HKt := Lib.hid (HKt.out.go b8)
        clear b8 HM C
        have C := HKt.out.says
        simp only [sayAll, cellsSay, qB, qW, qO, Nat.reduceAdd, and_true, true_and] at C
        go_wp2_with fail
        generalize hW : World.setCell _ _ _ = w9
        have HKn := (HKt.out.put 2 w.heap.size [(0, .int .u8 0), (1, .int .u32 0), (2, .int .u32 0), (3, .int .i64 0), (4, .int .u64 0), (5, .int .u32 0), (6, .int .u32 0), (7, .int .u32 0), (8, .int .u32 0), (9, .bool false), (10, .slice none 0 0), (11, .int .i64 0)] #[.int .u8 0, .int .u32 0, .int .u32 0, .int .i64 0, .int .u64 0, .int .u32 0, .int .u32 0, .int .u32 0, .int .u32 0, .bool false, .slice none 0 0, .int .i64 0] (by simp only [apBut, apAll, qB, qW, qO, and_true, true_and]; omega)).put 1 (w.heap.size + 1) [(0, .int .u16 110)] #[.int .u16 110] (by simp only [apBut, apAll, qB, qW, qO, and_true, true_and, List.set]; omega)
        have HKm := Lib.hid HKn
        rw [show sets (sets _ w.heap.size [(0, .int .u8 0), (1, .int .u32 0), (2, .int .u32 0), (3, .int .i64 0), (4, .int .u64 0), (5, .int .u32 0), (6, .int .u32 0), (7, .int .u32 0), (8, .int .u32 0), (9, .bool false), (10, .slice none 0 0), (11, .int .i64 0)]) (w.heap.size + 1) [(0, .int .u16 110)] = w9 from hW] at HKm
        clear HKn hW C
        replace HKt := HKm
        clear HKm
        simp only [List.set] at HKt
        refine leaves_cons (f := 47) (args := #[.pointer (some ⟨w.heap.size, 0, none⟩), .pointer (some ⟨w.heap.size + 1, 0, none⟩)]) (by simp) (by simp [go_sem]) ?_
        refine (ncatch_idle w.heap.size (w.heap.size + 1) _).mono ?_
        rintro e u' w10 ⟨rfl, rfl, rfl⟩
        have C := HKt.out.says
        simp only [sayAll, cellsSay, qB, qW, qO, Nat.reduceAdd, and_true, true_and] at C
        simp [Leaves, settle, results, Try.results27, go_sem, C]
        exact ⟨none, 0, ⟨by rw [HD2.out]; rfl, by rw [HD2.out]; rfl⟩, Lib.hid ⟨by rw [HD2.out]; exact OwnB.nil _ _, HKt.out.top 3⟩⟩
      · have hM := fun (W : World) (hb : Bs W none []) => nmay_any ⟨kd, ep, se, st, sv, pc, pb, pn, cn, cl, [], n⟩ none 0 W hb HOk.out (by simp only [List.length_nil]; omega)
        rw [hmay] at hM
        simp only [noC, List.length_nil] at hM
        have HM := Lib.hid hM
        have HD2 : Hid (decN l = (⟨kd, ep, se, st, sv, pc, pb, pn, cn, cl, [], n⟩, 0)) := Lib.hid (by rw [HD.out, if_pos ⟨by omega, hmay⟩])
        clear hM hmay
        go_wp2_with fail
        refine (HM.out _ (Bs.nil _ _)).mono ?_
        rintro e w8 ⟨rfl, b8⟩
        replace HKt := Lib.hid (HKt.out.go b8)
        clear b8 HM C
        have C := HKt.out.says
        simp only [sayAll, cellsSay, qB, qW, qO, Nat.reduceAdd, and_true, true_and] at C
        go_wp2_with fail
        generalize hW : World.setCell _ _ _ = w9
        have HKn := (HKt.out.put 2 w.heap.size [(0, .int .u8 (kd : Nat)), (1, .int .u32 (ep : Nat)), (2, .int .u32 (se : Nat)), (3, .int .i64 st), (4, .int .u64 (sv : Nat)), (5, .int .u32 (pc : Nat)), (6, .int .u32 (pb : Nat)), (7, .int .u32 (pn : Nat)), (8, .int .u32 (cn : Nat)), (9, .bool cl), (10, .slice none 0 0), (11, .int .i64 n)] #[.int .u8 (kd : Nat), .int .u32 (ep : Nat), .int .u32 (se : Nat), .int .i64 st, .int .u64 (sv : Nat), .int .u32 (pc : Nat), .int .u32 (pb : Nat), .int .u32 (pn : Nat), .int .u32 (cn : Nat), .bool cl, .slice none 0 0, .int .i64 n] (by simp only [apBut, apAll, qB, qW, qO, and_true, true_and]; omega)).put 1 (w.heap.size + 1) [(0, .int .u16 0)] #[.int .u16 0] (by simp only [apBut, apAll, qB, qW, qO, and_true, true_and, List.set]; omega)
        have HKm := Lib.hid HKn
        rw [show sets (sets _ w.heap.size [(0, .int .u8 (kd : Nat)), (1, .int .u32 (ep : Nat)), (2, .int .u32 (se : Nat)), (3, .int .i64 st), (4, .int .u64 (sv : Nat)), (5, .int .u32 (pc : Nat)), (6, .int .u32 (pb : Nat)), (7, .int .u32 (pn : Nat)), (8, .int .u32 (cn : Nat)), (9, .bool cl), (10, .slice none 0 0), (11, .int .i64 n)]) (w.heap.size + 1) [(0, .int .u16 0)] = w9 from hW] at HKm
        clear HKn hW C
        replace HKt := HKm
        clear HKm
        simp only [List.set] at HKt
        refine leaves_cons (f := 47) (args := #[.pointer (some ⟨w.heap.size, 0, none⟩), .pointer (some ⟨w.heap.size + 1, 0, none⟩)]) (by simp) (by simp [go_sem]) ?_
        refine (ncatch_idle w.heap.size (w.heap.size + 1) _).mono ?_
        rintro e u' w10 ⟨rfl, rfl, rfl⟩
        have C := HKt.out.says
        simp only [sayAll, cellsSay, qB, qW, qO, Nat.reduceAdd, and_true, true_and] at C
        simp [Leaves, settle, results, Try.results27, go_sem, C]
        exact ⟨none, 0, ⟨by rw [HD2.out]; rfl, by rw [HD2.out]; rfl⟩, Lib.hid ⟨by rw [HD2.out]; exact OwnB.nil _ _, HKt.out.top 3⟩⟩
    · have hRp : 0 < R.length := List.length_pos_iff.2 hR0
      obtain ⟨p, f, rfl⟩ := HF2.out hRp
      have hRpi : (0 : Int) < (R.length : Int) := by omega
      have HCl := fun (W : World) (h : Below w.heap.size w W) => clone_bytes ⟨p, f, none⟩ c2 R W (HA2.out.below h) hRl
      have HC := Lib.hid HCl
      clear HCl HF2
      go_wp2_with fail
      refine (HC.out _ (HKt.out.top 3)).mono ?_
      rintro e w3 ⟨A4, c4, rfl, H4⟩
      obtain ⟨o4, b4⟩ := H4.out
      have hz4 := (HKt.out.blk 2).lt
      have hz5 := (HKt.out.blk 1).lt
      replace HKt := Lib.hid ((HKt.out.go b4).own_ o4)
      clear o4 b4 H4 C HC
      have C := HKt.out.says
      simp only [sayAll, cellsSay, qB, qW, qO, Nat.reduceAdd, and_true, true_and] at C
      go_upto_region 6 with fail
      generalize hW : World.setCell _ _ _ = w4
      have HKn := HKt.out.put 3 w.heap.size [(10, .slice A4 R.length c4)] #[.int .u8 (kd : Nat), .int .u32 (ep : Nat), .int .u32 (se : Nat), .int .i64 st, .int .u64 (sv : Nat), .int .u32 (pc : Nat), .int .u32 (pb : Nat), .int .u32 (pn : Nat), .int .u32 (cn : Nat), .bool cl, .slice A4 R.length c4, .int .i64 n] (by simp only [apBut, apAll, qB, qW, qO, and_true, true_and]; omega)
      rw [show sets _ w.heap.size [(10, .slice A4 R.length c4)] = w4 from hW] at HKn
      replace HKt := Lib.hid HKn
      simp only [List.set] at HKt
      clear hW HKn C
      have C := HKt.out.says
      simp only [sayAll, cellsSay, qB, qW, qO, Nat.reduceAdd, and_true, true_and] at C
      by_cases hcl : 1 < cb
      · have HD2 : Hid (decN l = (zeroN, 110)) := Lib.hid (by rw [HD.out, if_neg (fun h => by omega)])
        have hcl2 : (1 : Int) < (cb : Int) := by omega
        go_wp2_with fail
        generalize hW : World.setCell _ _ _ = w9
        have HKn := (HKt.out.put 3 w.heap.size [(0, .int .u8 0), (1, .int .u32 0), (2, .int .u32 0), (3, .int .i64 0), (4, .int .u64 0), (5, .int .u32 0), (6, .int .u32 0), (7, .int .u32 0), (8, .int .u32 0), (9, .bool false), (10, .slice none 0 0), (11, .int .i64 0)] #[.int .u8 0, .int .u32 0, .int .u32 0, .int .i64 0, .int .u64 0, .int .u32 0, .int .u32 0, .int .u32 0, .int .u32 0, .bool false, .slice none 0 0, .int .i64 0] (by simp only [apBut, apAll, qB, qW, qO, and_true, true_and]; omega)).put 2 (w.heap.size + 1) [(0, .int .u16 110)] #[.int .u16 110] (by simp only [apBut, apAll, qB, qW, qO, and_true, true_and, List.set]; omega)
        have HKm := Lib.hid HKn
        rw [show sets (sets _ w.heap.size [(0, .int .u8 0), (1, .int .u32 0), (2, .int .u32 0), (3, .int .i64 0), (4, .int .u64 0), (5, .int .u32 0), (6, .int .u32 0), (7, .int .u32 0), (8, .int .u32 0), (9, .bool false), (10, .slice none 0 0), (11, .int .i64 0)]) (w.heap.size + 1) [(0, .int .u16 110)] = w9 from hW] at HKm
        clear HKn hW C
        replace HKt := HKm
        clear HKm
        simp only [List.set] at HKt
        refine leaves_cons (f := 47) (args := #[.pointer (some ⟨w.heap.size, 0, none⟩), .pointer (some ⟨w.heap.size + 1, 0, none⟩)]) (by simp) (by simp [go_sem]) ?_
        refine (ncatch_idle w.heap.size (w.heap.size + 1) _).mono ?_
        rintro e u' w10 ⟨rfl, rfl, rfl⟩
        have C := HKt.out.says
        simp only [sayAll, cellsSay, qB, qW, qO, Nat.reduceAdd, and_true, true_and] at C
        simp [Leaves, settle, results, Try.results27, go_sem, C]
        exact ⟨none, 0, ⟨by rw [HD2.out]; rfl, by rw [HD2.out]; rfl⟩, Lib.hid ⟨by rw [HD2.out]; exact OwnB.nil _ _, HKt.out.top 4⟩⟩
      have hcl2 : ¬ (1 : Int) < (cb : Int) := by omega
      cases hmay : mayN ⟨kd, ep, se, st, sv, pc, pb, pn, cn, cl, R, n⟩
      · have hM := fun (W : World) (hb : Bs W A4 R) => nmay_any ⟨kd, ep, se, st, sv, pc, pb, pn, cn, cl, R, n⟩ A4 c4 W hb HOk.out (by simp only; omega)
        rw [hmay] at hM
        simp only [noC] at hM
        have HM := Lib.hid hM
        have HD2 : Hid (decN l = (zeroN, 110)) := Lib.hid (by rw [HD.out, if_neg (fun h => by rw [hmay] at h; cases h.2)])
        clear hM hmay
        go_wp2_with fail
        refine (HM.out _ (HKt.out.own 0).bs).mono ?_
        rintro e w8 ⟨rfl, b8⟩
        replace HKt := Lib.hid (HKt.out.go b8)
        clear b8 HM C
        have C := HKt.out.says
        simp only [sayAll, cellsSay, qB, qW, qO, Nat.reduceAdd, and_true, true_and] at C
        go_wp2_with fail
        generalize hW : World.setCell _ _ _ = w9
        have HKn := (HKt.out.put 3 w.heap.size [(0, .int .u8 0), (1, .int .u32 0), (2, .int .u32 0), (3, .int .i64 0), (4, .int .u64 0), (5, .int .u32 0), (6, .int .u32 0), (7, .int .u32 0), (8, .int .u32 0), (9, .bool false), (10, .slice none 0 0), (11, .int .i64 0)] #[.int .u8 0, .int .u32 0, .int .u32 0, .int .i64 0, .int .u64 0, .int .u32 0, .int .u32 0, .int .u32 0, .int .u32 0, .bool false, .slice none 0 0, .int .i64 0] (by simp only [apBut, apAll, qB, qW, qO, and_true, true_and]; omega)).put 2 (w.heap.size + 1) [(0, .int .u16 110)] #[.int .u16 110] (by simp only [apBut, apAll, qB, qW, qO, and_true, true_and, List.set]; omega)
        have HKm := Lib.hid HKn
        rw [show sets (sets _ w.heap.size [(0, .int .u8 0), (1, .int .u32 0), (2, .int .u32 0), (3, .int .i64 0), (4, .int .u64 0), (5, .int .u32 0), (6, .int .u32 0), (7, .int .u32 0), (8, .int .u32 0), (9, .bool false), (10, .slice none 0 0), (11, .int .i64 0)]) (w.heap.size + 1) [(0, .int .u16 110)] = w9 from hW] at HKm
        clear HKn hW C
        replace HKt := HKm
        clear HKm
        simp only [List.set] at HKt
        refine leaves_cons (f := 47) (args := #[.pointer (some ⟨w.heap.size, 0, none⟩), .pointer (some ⟨w.heap.size + 1, 0, none⟩)]) (by simp) (by simp [go_sem]) ?_
        refine (ncatch_idle w.heap.size (w.heap.size + 1) _).mono ?_
        rintro e u' w10 ⟨rfl, rfl, rfl⟩
        have C := HKt.out.says
        simp only [sayAll, cellsSay, qB, qW, qO, Nat.reduceAdd, and_true, true_and] at C
        simp [Leaves, settle, results, Try.results27, go_sem, C]
        exact ⟨none, 0, ⟨by rw [HD2.out]; rfl, by rw [HD2.out]; rfl⟩, Lib.hid ⟨by rw [HD2.out]; exact OwnB.nil _ _, HKt.out.top 4⟩⟩
      · have hM := fun (W : World) (hb : Bs W A4 R) => nmay_any ⟨kd, ep, se, st, sv, pc, pb, pn, cn, cl, R, n⟩ A4 c4 W hb HOk.out (by simp only; omega)
        rw [hmay] at hM
        simp only [noC] at hM
        have HM := Lib.hid hM
        have HD2 : Hid (decN l = (⟨kd, ep, se, st, sv, pc, pb, pn, cn, cl, R, n⟩, 0)) := Lib.hid (by rw [HD.out, if_pos ⟨by omega, hmay⟩])
        clear hM hmay
        go_wp2_with fail
        refine (HM.out _ (HKt.out.own 0).bs).mono ?_
        rintro e w8 ⟨rfl, b8⟩
        replace HKt := Lib.hid (HKt.out.go b8)
        clear b8 HM C
        have C := HKt.out.says
        simp only [sayAll, cellsSay, qB, qW, qO, Nat.reduceAdd, and_true, true_and] at C
        go_wp2_with fail
        generalize hW : World.setCell _ _ _ = w9
        have HKn := (HKt.out.put 3 w.heap.size [(0, .int .u8 (kd : Nat)), (1, .int .u32 (ep : Nat)), (2, .int .u32 (se : Nat)), (3, .int .i64 st), (4, .int .u64 (sv : Nat)), (5, .int .u32 (pc : Nat)), (6, .int .u32 (pb : Nat)), (7, .int .u32 (pn : Nat)), (8, .int .u32 (cn : Nat)), (9, .bool cl), (10, .slice A4 R.length c4), (11, .int .i64 n)] #[.int .u8 (kd : Nat), .int .u32 (ep : Nat), .int .u32 (se : Nat), .int .i64 st, .int .u64 (sv : Nat), .int .u32 (pc : Nat), .int .u32 (pb : Nat), .int .u32 (pn : Nat), .int .u32 (cn : Nat), .bool cl, .slice A4 R.length c4, .int .i64 n] (by simp only [apBut, apAll, qB, qW, qO, and_true, true_and]; omega)).put 2 (w.heap.size + 1) [(0, .int .u16 0)] #[.int .u16 0] (by simp only [apBut, apAll, qB, qW, qO, and_true, true_and, List.set]; omega)
        have HKm := Lib.hid HKn
        rw [show sets (sets _ w.heap.size [(0, .int .u8 (kd : Nat)), (1, .int .u32 (ep : Nat)), (2, .int .u32 (se : Nat)), (3, .int .i64 st), (4, .int .u64 (sv : Nat)), (5, .int .u32 (pc : Nat)), (6, .int .u32 (pb : Nat)), (7, .int .u32 (pn : Nat)), (8, .int .u32 (cn : Nat)), (9, .bool cl), (10, .slice A4 R.length c4), (11, .int .i64 n)]) (w.heap.size + 1) [(0, .int .u16 0)] = w9 from hW] at HKm
        clear HKn hW C
        replace HKt := HKm
        clear HKm
        simp only [List.set] at HKt
        refine leaves_cons (f := 47) (args := #[.pointer (some ⟨w.heap.size, 0, none⟩), .pointer (some ⟨w.heap.size + 1, 0, none⟩)]) (by simp) (by simp [go_sem]) ?_
        refine (ncatch_idle w.heap.size (w.heap.size + 1) _).mono ?_
        rintro e u' w10 ⟨rfl, rfl, rfl⟩
        have C := HKt.out.says
        simp only [sayAll, cellsSay, qB, qW, qO, Nat.reduceAdd, and_true, true_and] at C
        simp [Leaves, settle, results, Try.results27, go_sem, C]
        exact ⟨A4, c4, ⟨by rw [HD2.out]; rfl, by rw [HD2.out]; rfl⟩, Lib.hid ⟨by rw [HD2.out]; exact (HKt.out.own 0).mono (by omega), HKt.out.top 4⟩⟩

end Go.Proofs.Ytpedobpbpomkaaa

/- Layer 11: the chapter's examples. -/
set_option linter.unusedSimpArgs false
set_option linter.unusedVariables false
namespace Go.Proofs.Ytpedobpbpomkaaa
open Go.RowKit
set_option maxRecDepth 100000

theorem decN_small (l : List UInt8) : (decN l).2 ≤ 110 := by
  rcases decN_two l with h | h
  · omega
  · rw [h]; decide
def kN : NoD := ⟨1, 5, 0, 0, 0, 0, 0, 0, 0, false, [], 0⟩
theorem kN_may : mayN kN = true := by kernel_rfl
theorem kN_ok : kN.ok := by unfold NoD.ok kN; simp
theorem kN_enc : encN kN = [1, 0, 0, 0, 5] := by kernel_rfl
theorem nenc_k (w : World) : Calls Try.prog 23 #[.agg #[.int .u8 1, .int .u32 5, .int .u32 0, .int .i64 0, .int .u64 0, .int .u32 0, .int .u32 0, .int .u32 0, .int .u32 0, .bool false, .slice none 0 0, .int .i64 0]] w fun e w' => ∃ A' c', e = .returned (.tuple #[.slice A' 5 c', .int .u16 0]) ∧ Hid (OwnB w' w.heap.size (.slice A' 5 c') [1, 0, 0, 0, 5] ∧ Below w.heap.size w w') := by
  have h := nenc_yes kN none 0 w (Bs.nil _ _) kN_ok kN_may
  rw [kN_enc] at h
  refine Calls.mono (show Calls _ _ _ w _ from h) ?_
  rintro e w1 ⟨A1, c1, N, rfl, H1⟩
  obtain ⟨rfl, hO, b1⟩ := H1.out
  exact ⟨A1, c1, rfl, Lib.hid ⟨hO, b1⟩⟩
theorem ndec_k (w : World) : Calls Try.prog 27 #[.slice none 0 0] w fun e w' => ∃ A' c', e = .returned (.tuple #[.agg #[.int .u8 0, .int .u32 0, .int .u32 0, .int .i64 0, .int .u64 0, .int .u32 0, .int .u32 0, .int .u32 0, .int .u32 0, .bool false, .slice A' 0 c', .int .i64 0], .int .u16 110]) ∧ Below w.heap.size w w' := by
  have h := ndec_any none 0 [] w (Bs.nil _ _) (Nat.le_refl _) (by simp)
  rw [decN_nil] at h
  refine h.mono ?_
  rintro e w1 ⟨A1, c1, rfl, H1⟩
  exact ⟨A1, c1, rfl, H1.out.2⟩

set_option maxHeartbeats 4000000 in
theorem nknown_any (w : World) : Calls Try.prog 22 #[] w fun e w' => e = .returned (.bool true) ∧ Below w.heap.size w w' := by
  have c0 := Lib.hid (nenc_k w)
  go_enter Try.func22, Try.ntmps22
  go_wp2_with fail
  refine c0.out.mono ?_
  rintro e w1 ⟨A1, c1, rfl, H1⟩
  clear c0
  obtain ⟨hO, b1⟩ := H1.out
  have HK := Lib.hid (((Qs.zero w).go b1).own_ hO)
  clear H1 hO b1
  go_wp2_with fail
  refine (ndec_k _).mono ?_
  rintro e w2 ⟨A2, c2, rfl, b2⟩
  replace HK := Lib.hid ((HK.out.go b2).box #[.int .u8 0, .int .u32 0, .int .u32 0, .int .i64 0, .int .u64 0, .int .u32 0, .int .u32 0, .int .u32 0, .int .u32 0, .bool false, .slice A2 0 c2, .int .i64 0] 50)
  clear b2
  obtain ⟨W, hW⟩ : ∃ W, W = w2.alloc (.cells #[.int .u8 0, .int .u32 0, .int .u32 0, .int .i64 0, .int .u64 0, .int .u32 0, .int .u32 0, .int .u32 0, .int .u32 0, .bool false, .slice A2 0 c2, .int .i64 0] 50) := ⟨_, rfl⟩
  rw [← hW] at HK
  have hst := str_of (HK.out.own 1).bs c1
  have hsu := str_of (own_built W [1, 0, 0, 0, 5] (base := 0) (Nat.zero_le _) (by simp)).bs 5
  have hse : (convert 26 9 (.slice A1 5 c1)).run Try.prog W = .ok (.string ⟨#[1, 0, 0, 0, 5]⟩) W := hst
  have hsv : (convert 26 9 (.slice (some ⟨W.heap.size, 0, none⟩) 5 5)).run Try.prog (W.alloc (.cells #[.int .u8 1, .int .u8 0, .int .u8 0, .int .u8 0, .int .u8 5] 5)) = .ok (.string ⟨#[1, 0, 0, 0, 5]⟩) (W.alloc (.cells #[.int .u8 1, .int .u8 0, .int .u8 0, .int .u8 0, .int .u8 5] 5)) := hsu
  clear hst hsu
  go_upto_region 3 with fail
  rw [← hW]
  clear hW
  go_wp2_with fail
  go_ret
  exact ⟨rfl, (HK.out.top 2).trans ((below_alloc W _).mono (HK.out.top 2).size)⟩

end Go.Proofs.Ytpedobpbpomkaaa

/- Layer 11: the walk of NoteMays. -/
set_option linter.unusedSimpArgs false
set_option linter.unusedVariables false
namespace Go.Proofs.Ytpedobpbpomkaaa
open Go.RowKit
set_option maxRecDepth 100000

set_option maxHeartbeats 8000000 in
theorem noteMays_walk (f : NoD) (A : Option Addr) (c : Nat) (w : World) (hA : Bs w A f.l) (hl : f.l.length ≤ maxLen) (ho : f.ok) :
    Calls Try.prog 8 #[.agg (noC f A c)] w fun e w' => e = .returned (.bool true) ∧ Below w.heap.size w w' := by
  unfold maxLen at hl
  have h70 := encNE_two f
  have hE := fun (W : World) (hb : Below w.heap.size w W) (h : f.l.length ≤ 1000) => nenc_any f A c W (hA.below hb) ho (by omega)
  have hR := fun (W : World) (hb : Below w.heap.size w W) (h : f.l.length ≤ 1000) => rnenc_any f A c W (hA.below hb) ho (by omega)
  have hM := fun (W : World) (hb : Below w.heap.size w W) (h : f.l.length ≤ 1000) => nmay_any f A c W (hA.below hb) ho (by omega)
  have hN := fun (W : World) (hb : Below w.heap.size w W) (h : f.l.length ≤ 1000) => rnmay_any f A c W (hA.below hb) ho (by omega)
  obtain ⟨e1, he1⟩ : ∃ e, e = encNE f := ⟨_, rfl⟩
  obtain ⟨r1, hr1⟩ : ∃ e, e = encNR f := ⟨_, rfl⟩
  obtain ⟨mb, hmb⟩ : ∃ e, e = mayN f := ⟨_, rfl⟩
  rw [← he1, ← hr1] at hE hR
  rw [← hmb] at hM hN
  rw [← he1] at h70
  clear ho he1 hr1 hmb
  obtain ⟨kd, ep, se, st, sv, pc, pb, pn, cn, cl, l, n⟩ := f
  simp only [noC] at hA hE hR hM hN hl ⊢
  have HE := Lib.hid hE
  have HR := Lib.hid hR
  have HM := Lib.hid hM
  have HN := Lib.hid hN
  have HK := Lib.hid ((Qs.zero w).box #[.int .u8 (kd : Nat), .int .u32 (ep : Nat), .int .u32 (se : Nat), .int .i64 st, .int .u64 (sv : Nat), .int .u32 (pc : Nat), .int .u32 (pb : Nat), .int .u32 (pn : Nat), .int .u32 (cn : Nat), .bool cl, .slice A l.length c, .int .i64 n] 50)
  clear hE hR hM hN hA
  have C := HK.out.says
  simp only [sayAll, cellsSay, qB, qW, Nat.reduceAdd, and_true, true_and] at C
  by_cases h1 : l.length ≤ 1000
  rotate_left
  · have hI : (1000 : Int) < l.length := by omega
    go_enter Try.func8, Try.ntmps8
    go_wp2_with fail
    refine (nknown_any _).mono ?_
    rintro e w1 ⟨rfl, b1⟩
    have HK1 := Lib.hid (HK.out.go b1)
    clear b1
    go_wp2_with fail
    go_ret
    exact ⟨rfl, HK1.out.top 1⟩
  have hI : ¬ (1000 : Int) < l.length := by omega
  go_enter Try.func8, Try.ntmps8
  go_wp2_with fail
  refine (nknown_any _).mono ?_
  rintro e w1 ⟨rfl, b1⟩
  replace HK := Lib.hid (HK.out.go b1)
  have C := HK.out.says
  simp only [sayAll, cellsSay, qB, qW, Nat.reduceAdd, and_true, true_and] at C
  clear b1
  go_wp2_with fail
  refine (HE.out _ (HK.out.top 1) h1).mono ?_
  clear HE C
  rintro e w4 ⟨A4, c4, rfl, H4⟩
  obtain ⟨o4, b4⟩ := H4.out
  replace HK := Lib.hid ((HK.out.go b4).own_ o4)
  have C := HK.out.says
  simp only [sayAll, cellsSay, qB, qW, qO, Nat.reduceAdd, and_true, true_and, List.set] at C
  clear o4 b4 H4
  go_wp2_with fail
  refine (HR.out _ (HK.out.top 2) h1).mono ?_
  clear HR C
  rintro e w5 ⟨A5, c5, rfl, H4⟩
  obtain ⟨o4, b4⟩ := H4.out
  replace HK := Lib.hid ((HK.out.go b4).own_ o4)
  have C := HK.out.says
  simp only [sayAll, cellsSay, qB, qW, qO, Nat.reduceAdd, and_true, true_and, List.set] at C
  clear o4 b4 H4
  have hst := fun x => str_of ((HK.out.own 1).bs.below (plus_below w5 x)) c4
  have hsu := fun x => str_of ((HK.out.own 0).bs.below (plus_below w5 x)) c5
  have hp := plus_cell w5
  have hwr : IntKind.i64.wrap (e1 : Int) = (e1 : Int) := by rw [IntKind.wrap_i64]; omega
  go_wp2_with fail
  refine wp_region_ext (by kernel_rfl) (by kernel_rfl) ?_
  repeat (go_big_quiet_step ((first
    | (go_at_call 25; exact ext_of (HM.out _ ((HK.out.top 3).trans ((plus_below _ _).mono (HK.out.top 3).size)) h1))
    | (go_at_call 26; exact ext_of (HN.out _ ((HK.out.top 3).trans ((plus_below _ _).mono (HK.out.top 3).size)) h1)))))
  refine wpQuiet_nil ?_
  rintro w9 ⟨x, rfl⟩
  go_wp2_with fail
  go_ret
  exact ⟨by simp, on1 (HK.out.top 3) (plus_below _ _)⟩

end Go.Proofs.Ytpedobpbpomkaaa

/- Layer 11: the walk of NoteReads. -/
set_option linter.unusedSimpArgs false
set_option linter.unusedVariables false
namespace Go.Proofs.Ytpedobpbpomkaaa
open Go.RowKit
set_option maxRecDepth 100000

set_option maxHeartbeats 8000000 in
theorem noteReads_walk (A : Option Addr) (c : Nat) (l : List UInt8) (w : World) (hA : Bs w A l) (hc : l.length ≤ c) (hl : l.length ≤ maxLen) :
    Calls Try.prog 9 #[.slice A l.length c] w fun e w' => e = .returned (.bool true) ∧ Below w.heap.size w w' := by
  unfold maxLen at hl
  have HA := Lib.hid hA
  have Hc := Lib.hid hc
  have HK := Lib.hid (Qs.zero w)
  clear hc
  by_cases h1 : 1000 < l.length
  · have hI : (1000 : Int) < l.length := by omega
    go_enter Try.func9, Try.ntmps9
    go_wp2_with fail
    refine (nknown_any _).mono ?_
    rintro e w1 ⟨rfl, b1⟩
    have HK1 := Lib.hid (HK.out.go b1)
    clear b1
    go_wp2_with fail
    go_ret
    exact ⟨rfl, HK1.out.top 0⟩
  have hI : ¬ (1000 : Int) < l.length := by omega
  have hsm := decN_small l
  have hD := fun (A : Option Addr) (c : Nat) (W : World) (h1 : Bs W A l) (h2 : l.length ≤ c) => ndec_any A c l W h1 h2 (by omega)
  have hR := fun (A : Option Addr) (c : Nat) (W : World) (h1 : Bs W A l) (h2 : l.length ≤ c) => rndec_any A c l W h1 h2 (by omega)
  obtain ⟨⟨kd5, ep5, se5, st5, sv5, pc5, pb5, pn5, cn5, cl5, l5, n5⟩, e5, hde⟩ : ∃ a b, decN l = (a, b) := ⟨_, _, rfl⟩
  have hS := fun (A B : Option Addr) (c d : Nat) (W : World) (h1 : Bs W A l5) (h2 : Bs W B l5) => rnsame_any ⟨kd5, ep5, se5, st5, sv5, pc5, pb5, pn5, cn5, cl5, l5, n5⟩ ⟨kd5, ep5, se5, st5, sv5, pc5, pb5, pn5, cn5, cl5, l5, n5⟩ A B c d W h1 h2
  rw [(sameN_iff _ _).2 rfl] at hS
  rw [hde] at hD hR hsm
  simp only [noC] at hD hR hS hsm
  have HD := Lib.hid hD
  have HR := Lib.hid hR
  have HS := Lib.hid hS
  have hwr : IntKind.i64.wrap (e5 : Int) = (e5 : Int) := by rw [IntKind.wrap_i64]; omega
  clear hD hR hS hde hsm
  go_enter Try.func9, Try.ntmps9
  go_wp2_with fail
  refine (nknown_any _).mono ?_
  rintro e w1 ⟨rfl, b1⟩
  replace HK := Lib.hid (HK.out.go b1)
  have bA := HA.out.below (HK.out.top 0)
  have hz1 := (HK.out.top 0).size
  clear b1 hA
  go_wp2_with (at_builtin; go_must (refine appAllL _ rfl (.tmp 18) (.tmp 19) rfl w1.heap.size _ [] rfl (OwnB.nil _ _) A c l rfl bA (by simp; omega) (Nat.le_refl _) ?_); intro A3 c3 w3 o3 g3 j3; rw [List.nil_append, List.length_nil, Nat.zero_add] at o3; rw [List.length_nil, Nat.zero_add])
  have hc3 : l.length ≤ c3 := by
    obtain ⟨A', c', he, hc, _⟩ := o3.isB
    injection he with _ _ he
    subst he
    exact hc
  replace HK := Lib.hid ((HK.out.grow g3 (fun g e => by cases e)).own_ o3)
  have hz0 := g3.size
  clear o3 g3 j3 bA
  refine (HD.out A3 c3 w3 (HK.out.own 0).bs hc3).mono ?_
  clear HD
  rintro e w4 ⟨A5, c5, rfl, H1⟩
  obtain ⟨o1, b1⟩ := H1.out
  have HZ := Lib.hid (And.intro b1.size (And.intro hz0 hz1))
  replace HK := Lib.hid (((HK.out.go b1).own_ o1).box #[.int .u8 (kd5 : Nat), .int .u32 (ep5 : Nat), .int .u32 (se5 : Nat), .int .i64 st5, .int .u64 (sv5 : Nat), .int .u32 (pc5 : Nat), .int .u32 (pb5 : Nat), .int .u32 (pn5 : Nat), .int .u32 (cn5 : Nat), .bool cl5, .slice A5 l5.length c5, .int .i64 n5] 50)
  clear o1 b1 H1 hz0 hz1
  have hst := str_of (HK.out.own 2).bs c3
  have hsu := str_of (HA.out.below (HK.out.top 3)) c
  go_wp2_with fail
  go_loopw [7] (fun s7 wr => ∃ (i : Nat) (L : List UInt8), i ≤ l.length ∧ s7 = .int .i64 i ∧ L.length = l.length ∧ Hid (Qs wr [qB w4.heap.size 50 #[.int .u8 (kd5 : Nat), .int .u32 (ep5 : Nat), .int .u32 (se5 : Nat), .int .i64 st5, .int .u64 (sv5 : Nat), .int .u32 (pc5 : Nat), .int .u32 (pb5 : Nat), .int .u32 (pn5 : Nat), .int .u32 (cn5 : Nat), .bool cl5, .slice A5 l5.length c5, .int .i64 n5], qO w3.heap.size w4.heap.size (.slice A5 l5.length c5) l5, qO w1.heap.size w3.heap.size (.slice A3 l.length c3) L, qW w w.heap.size (Nat.le_refl _)])) (fun i _ => l.length - (intOf i).toNat)
  case atStart => exact ⟨0, l, by omega, rfl, rfl, HK⟩
  case round =>
    obtain ⟨i, L, hi, rfl, hL, HKr⟩ := hrel
    clear HK
    by_cases hlt : i < l.length
    · have hiI : (i : Int) < (l.length : Int) := by omega
      have hd : decide ((i : Int) < (l.length : Int)) = true := by simp; omega
      have hd2 : decide (i < l.length) = true := by simp; omega
      obtain ⟨g, cap, hv, hgb, _, _⟩ := (HKr.out.own 2).form (by omega)
      injection hv with hv1 _ _
      subst hv1
      have ho := HKr.out.own 2
      have hh := HKr.out.hiB 2 g l.length c3 _ _
      have cy := ho.cell i (by omega)
      obtain ⟨x, hx⟩ : ∃ x, x = L[i]'(by omega) := ⟨_, rfl⟩
      rw [← hx] at cy
      obtain ⟨y, hy⟩ := flip_b x
      unfold bv at cy
      have fy := ho.frozen i
      have HH := Lib.hid hh
      have Hy := Lib.hid hy
      have HL := Lib.hid hL
      clear ho hh hx hy hgb hL
      go_wp2_with fail
      go_roundw
      case rel =>
        refine ⟨i + 1, L.set i y, by omega, by go_num, by rw [List.length_set]; exact HL.out, ?_⟩
        rw [Hy.out]
        exact Lib.hid (HKr.out.putB 2 g i l.length c3 _ _ y (by
          have h1 := HH.out
          have h2 := HZ.out
          simp only [apBut, apAll, qB, qW, qO, and_true]
          omega))
      case measure => simp [intOf]; omega
    · have hd : decide ((i : Int) < (l.length : Int)) = false := by simp; omega
      have hd2 : decide (i < l.length) = false := by simp; omega
      clear hL
      go_wp2_with fail
      refine (HR.out A c _ (HA.out.below (HKr.out.top 3)) Hc.out).mono ?_
      rintro e w6 ⟨A6, c6, rfl, H1⟩
      obtain ⟨o1, b1⟩ := H1.out
      have HK := Lib.hid (((HKr.out.go b1).own_ o1).box #[.int .u8 (kd5 : Nat), .int .u32 (ep5 : Nat), .int .u32 (se5 : Nat), .int .i64 st5, .int .u64 (sv5 : Nat), .int .u32 (pc5 : Nat), .int .u32 (pb5 : Nat), .int .u32 (pn5 : Nat), .int .u32 (cn5 : Nat), .bool cl5, .slice A6 l5.length c6, .int .i64 n5] 50)
      have C := HK.out.says
      simp only [sayAll, cellsSay, qB, qW, qO, Nat.reduceAdd, and_true, true_and] at C
      clear o1 b1 H1 HKr
      go_wp2_with fail
      refine (HS.out A5 A6 c5 c6 _ (HK.out.own 3).bs (HK.out.own 1).bs).mono ?_
      rintro e w7 ⟨rfl, b1⟩
      replace HK := Lib.hid (HK.out.go b1)
      clear b1
      go_wp2_with fail
      go_ret
      exact ⟨by simp, HK.out.top 5⟩

end Go.Proofs.Ytpedobpbpomkaaa

/- Layer 11: the walk of NoteBack. -/
set_option linter.unusedSimpArgs false
set_option linter.unusedVariables false
namespace Go.Proofs.Ytpedobpbpomkaaa
open Go.RowKit
set_option maxRecDepth 100000

theorem encN_own {f : NoD} {w : World} {base c : Nat} {A : Option Addr} (h : OwnB w base (.slice A (encN f).length c) (encN f)) : (∃ g, A = some ⟨g, 0, none⟩) ∧ (encN f).length ≤ c := by
  obtain ⟨g, cap, hv, _, _, _⟩ := h.form (by rw [encN_len]; have := hdN_le f.kd; omega)
  obtain ⟨A', c', he, hc, _⟩ := h.isB
  injection hv with hv1 _ _
  injection he with _ _ he
  subst he
  exact ⟨⟨g, hv1⟩, hc⟩

set_option maxHeartbeats 8000000 in
theorem noteBack_walk (f : NoD) (A : Option Addr) (c : Nat) (k : Int) (w : World) (hA : Bs w A f.l) (hl : f.l.length ≤ maxLen) (ho : f.ok) (hk : -9223372036854775808 ≤ k ∧ k ≤ 9223372036854775807) :
    Calls Try.prog 10 #[.agg (noC f A c), .int .i64 k] w fun e w' => e = .returned (.bool true) ∧ Below w.heap.size w w' := by
  unfold maxLen at hl
  have hE := fun (W : World) (hb : Below w.heap.size w W) (h : f.l.length ≤ 1000) => nenc_any f A c W (hA.below hb) ho (by omega)
  have HA := Lib.hid hA
  by_cases h1 : f.l.length ≤ 1000
  rotate_left
  · obtain ⟨kd, ep, se, st, sv, pc, pb, pn, cn, cl, l, n⟩ := f
    clear hE hA ho
    simp only [noC] at h1 ⊢
    have HK := Lib.hid ((Qs.zero w).box #[.int .u8 (kd : Nat), .int .u32 (ep : Nat), .int .u32 (se : Nat), .int .i64 st, .int .u64 (sv : Nat), .int .u32 (pc : Nat), .int .u32 (pb : Nat), .int .u32 (pn : Nat), .int .u32 (cn : Nat), .bool cl, .slice A l.length c, .int .i64 n] 50)
    have C := HK.out.says
    simp only [sayAll, cellsSay, qB, qW, Nat.reduceAdd, and_true, true_and] at C
    have hI : (1000 : Int) < l.length := by omega
    go_enter Try.func10, Try.ntmps10
    go_wp2_with fail
    refine (nknown_any _).mono ?_
    rintro e w1 ⟨rfl, b1⟩
    have HK1 := Lib.hid (HK.out.go b1)
    clear b1
    go_wp2_with fail
    go_ret
    exact ⟨rfl, HK1.out.top 1⟩
  rcases hm : mayN f with _ | _
  · unfold encNR encNE at hE
    rw [hm] at hE
    simp only [if_false, Bool.false_eq_true, List.length_nil] at hE
    clear hm ho hA
    obtain ⟨kd, ep, se, st, sv, pc, pb, pn, cn, cl, l, n⟩ := f
    simp only [noC] at h1 hE hl ⊢
    have HE := Lib.hid hE
    clear hE
    have HK := Lib.hid ((Qs.zero w).box #[.int .u8 (kd : Nat), .int .u32 (ep : Nat), .int .u32 (se : Nat), .int .i64 st, .int .u64 (sv : Nat), .int .u32 (pc : Nat), .int .u32 (pb : Nat), .int .u32 (pn : Nat), .int .u32 (cn : Nat), .bool cl, .slice A l.length c, .int .i64 n] 50)
    have C := HK.out.says
    simp only [sayAll, cellsSay, qB, qW, Nat.reduceAdd, and_true, true_and] at C
    have hI : ¬ (1000 : Int) < l.length := by omega
    go_enter Try.func10, Try.ntmps10
    go_wp2_with fail
    refine (nknown_any _).mono ?_
    rintro e w1 ⟨rfl, b1⟩
    replace HK := Lib.hid (HK.out.go b1)
    have C := HK.out.says
    simp only [sayAll, cellsSay, qB, qW, Nat.reduceAdd, and_true, true_and] at C
    clear b1
    go_wp2_with fail
    refine (HE.out _ (HK.out.top 1) h1).mono ?_
    rintro e w2 ⟨A1, c1, rfl, H1⟩
    have b1 := H1.out.2
    replace HK := Lib.hid (HK.out.go b1)
    clear b1 H1
    go_wp2_with fail
    go_ret
    exact ⟨rfl, HK.out.top 1⟩
  have hfr := fun (i : Nat) (h : i < (encN f).length) => decN_front ho hm h
  have hde := (decN_enc ho hm).1
  have hss := (sameN_iff f f).2 rfl
  have hS := fun (B : Option Addr) (d : Nat) (W : World) (hb : Below w.heap.size w W) (hB : Bs W B f.l) => rnsame_any f f A B c d W (hA.below hb) hB
  rw [hss] at hS
  have hEl := encN_len f
  have hhd := hdN_le f.kd
  have hsh := encN_short hm
  have hD := fun (B : Option Addr) (d : Nat) (W : World) (hB : Bs W B (encN f)) (hd : (encN f).length ≤ d) => ndec_any B d (encN f) W hB hd (by omega)
  rw [hde] at hD
  have hO := fun (W : World) (base c : Nat) (A : Option Addr) (h : OwnB W base (.slice A (encN f).length c) (encN f)) => encN_own h
  unfold encNR encNE at hE
  simp only [hm, if_true] at hE
  obtain ⟨E, hEE⟩ : ∃ E, E = encN f := ⟨_, rfl⟩
  rw [← hEE] at hEl hsh
  simp only [← hEE] at hE hD hO hfr
  have hE5 : 5 ≤ E.length := by omega
  clear hm ho hA hde hss hEE hEl hhd
  obtain ⟨kd, ep, se, st, sv, pc, pb, pn, cn, cl, l, n⟩ := f
  simp only [noC] at h1 hE hl hS hD ⊢
  have HE := Lib.hid hE
  have HS := Lib.hid hS
  have HD := Lib.hid hD
  have HO := Lib.hid hO
  have HB := Lib.hid hfr
  have HL := Lib.hid (And.intro hE5 hsh)
  clear hE hS hD hO hfr
  have HK := Lib.hid ((Qs.zero w).box #[.int .u8 (kd : Nat), .int .u32 (ep : Nat), .int .u32 (se : Nat), .int .i64 st, .int .u64 (sv : Nat), .int .u32 (pc : Nat), .int .u32 (pb : Nat), .int .u32 (pn : Nat), .int .u32 (cn : Nat), .bool cl, .slice A l.length c, .int .i64 n] 50)
  have C := HK.out.says
  simp only [sayAll, cellsSay, qB, qW, Nat.reduceAdd, and_true, true_and] at C
  have hI : ¬ (1000 : Int) < l.length := by omega
  have hJ : ¬ (E.length : Int) < 5 := by omega
  have hJ2 : ¬ (600 : Int) < E.length := by omega
  clear hE5 hsh
  go_enter Try.func10, Try.ntmps10
  go_wp2_with fail
  refine (nknown_any _).mono ?_
  rintro e w1 ⟨rfl, b1⟩
  replace HK := Lib.hid (HK.out.go b1)
  have C := HK.out.says
  simp only [sayAll, cellsSay, qB, qW, Nat.reduceAdd, and_true, true_and] at C
  clear b1
  go_wp2_with fail
  refine (HE.out _ (HK.out.top 1) h1).mono ?_
  rintro e w2 ⟨A1, c1, rfl, H1⟩
  obtain ⟨o1, b1⟩ := H1.out
  obtain ⟨⟨g, rfl⟩, hc1⟩ := HO.out _ _ _ _ o1
  replace HK := Lib.hid ((HK.out.go b1).own_ o1)
  have C := HK.out.says
  simp only [sayAll, cellsSay, qB, qW, qO, Nat.reduceAdd, and_true, true_and] at C
  clear b1 H1 o1
  go_wp2_with fail
  refine (HD.out _ c1 _ (HK.out.own 0).bs hc1).mono ?_
  rintro e w3 ⟨A2, c2, rfl, H1⟩
  obtain ⟨o1, b1⟩ := H1.out
  replace HK := Lib.hid (((HK.out.go b1).own_ o1).box #[.int .u8 (kd : Nat), .int .u32 (ep : Nat), .int .u32 (se : Nat), .int .i64 st, .int .u64 (sv : Nat), .int .u32 (pc : Nat), .int .u32 (pb : Nat), .int .u32 (pn : Nat), .int .u32 (cn : Nat), .bool cl, .slice A2 l.length c2, .int .i64 n] 50)
  obtain ⟨w4, hw4⟩ : ∃ W, W = w3.alloc (.cells #[.int .u8 (kd : Nat), .int .u32 (ep : Nat), .int .u32 (se : Nat), .int .i64 st, .int .u64 (sv : Nat), .int .u32 (pc : Nat), .int .u32 (pb : Nat), .int .u32 (pn : Nat), .int .u32 (cn : Nat), .bool cl, .slice A2 l.length c2, .int .i64 n] 50) := ⟨_, rfl⟩
  rw [← hw4] at HK
  have C := HK.out.says
  simp only [sayAll, cellsSay, qB, qW, qO, Nat.reduceAdd, and_true, true_and] at C
  clear b1 H1 o1
  go_upto_region 9 with fail
  rw [← hw4]
  clear hw4
  have hE0 : ¬ (E.length : Int) = 0 := by have := HL.out.1; omega
  have hE1 : 0 < E.length := by have := HL.out.1; omega
  obtain ⟨i, hi, hki⟩ : ∃ i : Nat, i < E.length ∧ ((0 ≤ k ∧ k.tmod (E.length : Int) = (i : Int)) ∨ (k < 0 ∧ i = 0)) := by
    by_cases hk0 : k < 0
    · exact ⟨0, hE1, .inr ⟨hk0, rfl⟩⟩
    · have h2 := Int.emod_nonneg k (show (E.length : Int) ≠ 0 by omega)
      have h3 := Int.emod_lt_of_pos k (show 0 < (E.length : Int) by omega)
      obtain ⟨i, hi⟩ := Int.eq_ofNat_of_zero_le h2
      exact ⟨i, by omega, .inl ⟨by omega, by rw [Int.tmod_eq_emod_of_nonneg (by omega)]; exact hi⟩⟩
  have hcut := HB.out i hi
  have htl : (E.take i).length = i := by rw [List.length_take]; omega
  have hd5 := ndec_any (some ⟨g, 0, none⟩) c1 (E.take i) w4 (bs_takeN (HK.out.own 2).bs i) (by rw [htl]; omega) (by rw [htl]; have := HL.out; omega)
  rw [htl] at hd5
  obtain ⟨⟨kd5, ep5, se5, st5, sv5, pc5, pb5, pn5, cn5, cl5, l5, n5⟩, e5, hde⟩ : ∃ a b, decN (E.take i) = (a, b) := ⟨_, _, rfl⟩
  rw [hde] at hd5 hcut
  simp only [noC] at hd5
  simp only at hcut
  subst hcut
  have Hd5 := Lib.hid hd5
  have hic : (i : Int) ≤ (c1 : Int) := by omega
  have hic2 : ¬ (c1 : Int) < (i : Int) := by omega
  have Hi := Lib.hid hi
  have HH := Lib.hid hc1
  clear hd5 hde htl hi hE1 hc1
  rcases hki with ⟨hk0, hkm⟩ | ⟨hk0, rfl⟩
  · have hk1 : ¬ k < 0 := by omega
    go_wp2_with fail
    refine Hd5.out.mono ?_
    rintro e w5 ⟨A5, c5, rfl, H5⟩
    have b5 := H5.out.2
    replace HK := Lib.hid ((HK.out.go b5).box #[.int .u8 (kd5 : Nat), .int .u32 (ep5 : Nat), .int .u32 (se5 : Nat), .int .i64 st5, .int .u64 (sv5 : Nat), .int .u32 (pc5 : Nat), .int .u32 (pb5 : Nat), .int .u32 (pn5 : Nat), .int .u32 (cn5 : Nat), .bool cl5, .slice A5 l5.length c5, .int .i64 n5] 50)
    have C := HK.out.says
    simp only [sayAll, cellsSay, qB, qW, qO, Nat.reduceAdd, and_true, true_and] at C
    clear b5 H5 Hd5
    go_wp2_with fail
    refine (HS.out A2 c2 _ (HK.out.top 5) (HK.out.own 2).bs).mono ?_
    rintro e w6 ⟨rfl, b1⟩
    replace HK := Lib.hid (HK.out.go b1)
    clear b1
    go_wp2_with fail
    go_ret
    exact ⟨rfl, HK.out.top 5⟩
  · skip
    go_wp2_with fail
    refine Hd5.out.mono ?_
    rintro e w5 ⟨A5, c5, rfl, H5⟩
    have b5 := H5.out.2
    replace HK := Lib.hid ((HK.out.go b5).box #[.int .u8 (kd5 : Nat), .int .u32 (ep5 : Nat), .int .u32 (se5 : Nat), .int .i64 st5, .int .u64 (sv5 : Nat), .int .u32 (pc5 : Nat), .int .u32 (pb5 : Nat), .int .u32 (pn5 : Nat), .int .u32 (cn5 : Nat), .bool cl5, .slice A5 l5.length c5, .int .i64 n5] 50)
    have C := HK.out.says
    simp only [sayAll, cellsSay, qB, qW, qO, Nat.reduceAdd, and_true, true_and] at C
    clear b5 H5 Hd5
    go_wp2_with fail
    refine (HS.out A2 c2 _ (HK.out.top 5) (HK.out.own 2).bs).mono ?_
    rintro e w6 ⟨rfl, b1⟩
    replace HK := Lib.hid (HK.out.go b1)
    clear b1
    go_wp2_with fail
    go_ret
    exact ⟨rfl, HK.out.top 5⟩

end Go.Proofs.Ytpedobpbpomkaaa

/- Layer 11: the walk of NoteOnly. -/
set_option linter.unusedSimpArgs false
set_option linter.unusedVariables false
namespace Go.Proofs.Ytpedobpbpomkaaa
open Go.RowKit
set_option maxRecDepth 100000

set_option maxHeartbeats 4000000 in
theorem noteOnly_walk (A : Option Addr) (c : Nat) (l : List UInt8) (w : World) (hA : Bs w A l) (hc : l.length ≤ c) (hl : l.length ≤ maxLen) :
    Calls Try.prog 11 #[.slice A l.length c] w fun e w' => e = .returned (.bool true) ∧ Below w.heap.size w w' := by
  unfold maxLen at hl
  have HA := Lib.hid hA
  have Hc := Lib.hid hc
  have HK := Lib.hid (Qs.zero w)
  clear hA hc
  by_cases h1 : 1000 < l.length
  · have hI : (1000 : Int) < l.length := by omega
    go_enter Try.func11, Try.ntmps11
    go_wp2_with fail
    refine (nknown_any _).mono ?_
    rintro e w1 ⟨rfl, b1⟩
    have HK1 := Lib.hid (HK.out.go b1)
    clear b1
    go_wp2_with fail
    go_ret
    exact ⟨rfl, HK1.out.top 0⟩
  have hI : ¬ (1000 : Int) < l.length := by omega
  go_enter Try.func11, Try.ntmps11
  go_wp2_with fail
  refine (nknown_any _).mono ?_
  rintro e w1 ⟨rfl, b1⟩
  replace HK := Lib.hid (HK.out.go b1)
  clear b1
  go_wp2_with fail
  have hd := ndec_any A c l w1 (HA.out.below (HK.out.top 0)) Hc.out (by omega)
  rcases decN_two l with h0 | h2
  rotate_left
  · rw [h2] at hd
    clear h2
    refine hd.mono ?_
    rintro e w2 ⟨A1, c1, rfl, H1⟩
    have b1 := H1.out.2
    rw [noC_zero]
    replace HK := Lib.hid ((HK.out.go b1).box #[.int .u8 0, .int .u32 0, .int .u32 0, .int .i64 0, .int .u64 0, .int .u32 0, .int .u32 0, .int .u32 0, .int .u32 0, .bool false, .slice A1 0 c1, .int .i64 0] 50)
    have C := HK.out.says
    simp only [sayAll, cellsSay, qB, qW, qO, Nat.reduceAdd, and_true, true_and] at C
    have hS := fun (W : World) => rnsame_any zeroN zeroN A1 none c1 0 W (Bs.nil _ _) (Bs.nil _ _)
    rw [(sameN_iff zeroN zeroN).2 rfl, noC_zero, noC_zero] at hS
    have HS := Lib.hid hS
    clear hS hd b1 H1
    go_wp2_with fail
    refine (HS.out _).mono ?_
    rintro e w3 ⟨rfl, b3⟩
    replace HK := Lib.hid (HK.out.go b3)
    clear b3
    go_wp2_with fail
    go_ret
    exact ⟨rfl, HK.out.top 1⟩
  obtain ⟨h2, h3, h4⟩ := encN_dec h0
  have hok := parN_ok l
  have hE := fun (A' : Option Addr) (c' : Nat) (W : World) (hb : Bs W A' (parN l).l) (hL : (parN l).l.length ≤ 4096) => nenc_any (parN l) A' c' W hb hok (by omega)
  have hL : (parN l).l.length ≤ 4096 := by rw [parN_l, List.length_drop]; omega
  unfold encNR encNE at hE
  simp only [h3, if_true] at hE
  simp only [h4] at hE
  rw [h2] at hd
  obtain ⟨⟨kd1, ep1, se1, st1, sv1, pc1, pb1, pn1, cn1, cl1, l1, n1⟩, hf⟩ : ∃ f, f = parN l := ⟨_, rfl⟩
  rw [← hf] at hd hE hL
  simp only [noC] at hd hE hL
  have HE := Lib.hid hE
  have HL := Lib.hid hL
  clear hE hL hf hok h2 h3 h4 h0
  refine hd.mono ?_
  clear hd
  rintro e w2 ⟨A1, c1, rfl, H1⟩
  obtain ⟨o1, b1⟩ := H1.out
  replace HK := Lib.hid (((HK.out.go b1).own_ o1).box #[.int .u8 (kd1 : Nat), .int .u32 (ep1 : Nat), .int .u32 (se1 : Nat), .int .i64 st1, .int .u64 (sv1 : Nat), .int .u32 (pc1 : Nat), .int .u32 (pb1 : Nat), .int .u32 (pn1 : Nat), .int .u32 (cn1 : Nat), .bool cl1, .slice A1 l1.length c1, .int .i64 n1] 50)
  have C := HK.out.says
  simp only [sayAll, cellsSay, qB, qW, qO, Nat.reduceAdd, and_true, true_and] at C
  clear o1 b1 H1
  go_wp2_with fail
  refine (HE.out A1 c1 _ (HK.out.own 1).bs HL.out).mono ?_
  clear HE
  rintro e w3 ⟨A2, c2, rfl, H1⟩
  obtain ⟨o1, b1⟩ := H1.out
  replace HK := Lib.hid ((HK.out.go b1).own_ o1)
  have C := HK.out.says
  simp only [sayAll, cellsSay, qB, qW, qO, Nat.reduceAdd, and_true, true_and] at C
  clear o1 b1 H1
  have hst := str_of (HA.out.below (HK.out.top 3)) c
  have hsu := str_of (HK.out.own 0).bs c2
  go_wp2_with fail
  go_ret
  exact ⟨rfl, HK.out.top 3⟩

end Go.Proofs.Ytpedobpbpomkaaa

/- Layer 11: the walk of NoteApart. -/
set_option linter.unusedSimpArgs false
set_option linter.unusedVariables false
namespace Go.Proofs.Ytpedobpbpomkaaa
open Go.RowKit
set_option maxRecDepth 100000

theorem apart_eqN (f g : NoD) (ho : f.ok) (hg : g.ok) (hf : encNE f = 0) (hh : encNE g = 0) : decide (encNR f = encNR g) = sameN f g := by
  have h1 : mayN f = true := by unfold encNE at hf; split at hf <;> first | assumption | cases hf
  have h2 : mayN g = true := by unfold encNE at hh; split at hh <;> first | assumption | cases hh
  rw [Bool.eq_iff_iff, sameN_iff, decide_eq_true_iff]
  unfold encNR
  rw [if_pos h1, if_pos h2]
  constructor
  · intro h
    have := congrArg decN h
    rw [(decN_enc ho h1).1, (decN_enc hg h2).1] at this
    exact congrArg Prod.fst this
  · rintro rfl; rfl

set_option maxHeartbeats 4000000 in
theorem noteApart_walk (f g : NoD) (A B : Option Addr) (c d : Nat) (w : World) (hA : Bs w A f.l) (hB : Bs w B g.l) (hl : f.l.length ≤ maxLen) (hm : g.l.length ≤ maxLen) (ho : f.ok) (hg : g.ok) :
    Calls Try.prog 12 #[.agg (noC f A c), .agg (noC g B d)] w fun e w' => e = .returned (.bool true) ∧ Below w.heap.size w w' := by
  unfold maxLen at hl hm
  have hap := apart_eqN f g ho hg
  have h70 := encNE_two f
  have h71 := encNE_two g
  have hEf := fun (W : World) (hb : Below w.heap.size w W) (h : f.l.length ≤ 1000) => nenc_any f A c W (hA.below hb) ho (by omega)
  have hEg := fun (W : World) (hb : Below w.heap.size w W) (h : g.l.length ≤ 1000) => nenc_any g B d W (hB.below hb) hg (by omega)
  have hS := fun (W : World) (hb : Below w.heap.size w W) => rnsame_any f g A B c d W (hA.below hb) (hB.below hb)
  obtain ⟨e1, he1⟩ : ∃ e, e = encNE f := ⟨_, rfl⟩
  obtain ⟨e2, he2⟩ : ∃ e, e = encNE g := ⟨_, rfl⟩
  obtain ⟨r1, hr1⟩ : ∃ e, e = encNR f := ⟨_, rfl⟩
  obtain ⟨r2, hr2⟩ : ∃ e, e = encNR g := ⟨_, rfl⟩
  obtain ⟨sb, hsb⟩ : ∃ e, e = sameN f g := ⟨_, rfl⟩
  rw [← he1, ← hr1] at hEf
  rw [← he2, ← hr2] at hEg
  rw [← hsb] at hS
  rw [← hr1, ← hr2, ← hsb, ← he1, ← he2] at hap
  rw [← he1] at h70
  rw [← he2] at h71
  clear hA hB ho hg he1 he2 hr1 hr2 hsb
  obtain ⟨kd, ep, se, st, sv, pc, pb, pn, cn, cl, l, n⟩ := f
  obtain ⟨kd2, ep2, se2, st2, sv2, pc2, pb2, pn2, cn2, cl2, l2, n2⟩ := g
  simp only [noC] at hEf hEg hS hl hm ⊢
  have HEf := Lib.hid hEf
  have HEg := Lib.hid hEg
  have HS := Lib.hid hS
  have HAp := Lib.hid hap
  have HK0 := (Qs.zero w).box #[.int .u8 (kd : Nat), .int .u32 (ep : Nat), .int .u32 (se : Nat), .int .i64 st, .int .u64 (sv : Nat), .int .u32 (pc : Nat), .int .u32 (pb : Nat), .int .u32 (pn : Nat), .int .u32 (cn : Nat), .bool cl, .slice A l.length c, .int .i64 n] 50
  have s1 : ∀ o, (w.alloc o).heap.size = w.heap.size + 1 := fun o => by simp
  have HK2 := HK0.box #[.int .u8 (kd2 : Nat), .int .u32 (ep2 : Nat), .int .u32 (se2 : Nat), .int .i64 st2, .int .u64 (sv2 : Nat), .int .u32 (pc2 : Nat), .int .u32 (pb2 : Nat), .int .u32 (pn2 : Nat), .int .u32 (cn2 : Nat), .bool cl2, .slice B l2.length d, .int .i64 n2] 50
  simp only [s1] at HK2
  have HK := Lib.hid HK2
  clear HK0 HK2 s1 hEf hEg hS hap
  have C := HK.out.says
  simp only [sayAll, cellsSay, qB, qW, Nat.reduceAdd, and_true, true_and] at C
  by_cases h1 : l.length ≤ 1000 ∧ l2.length ≤ 1000
  rotate_left
  · by_cases h2 : 1000 < l.length
    · have hI : (1000 : Int) < l.length := by omega
      go_enter Try.func12, Try.ntmps12
      go_wp2_with fail
      refine (nknown_any _).mono ?_
      rintro e w1 ⟨rfl, b1⟩
      have HK1 := Lib.hid (HK.out.go b1)
      clear b1
      go_wp2_with fail
      go_ret
      exact ⟨rfl, HK1.out.top 2⟩
    · have hI : ¬ (1000 : Int) < l.length := by omega
      have hJ : (1000 : Int) < l2.length := by omega
      go_enter Try.func12, Try.ntmps12
      go_wp2_with fail
      refine (nknown_any _).mono ?_
      rintro e w1 ⟨rfl, b1⟩
      have HK1 := Lib.hid (HK.out.go b1)
      clear b1
      go_wp2_with fail
      go_ret
      exact ⟨rfl, HK1.out.top 2⟩
  have hI : ¬ (1000 : Int) < l.length := by omega
  have hJ : ¬ (1000 : Int) < l2.length := by omega
  go_enter Try.func12, Try.ntmps12
  go_wp2_with fail
  refine (nknown_any _).mono ?_
  rintro e w1 ⟨rfl, b1⟩
  replace HK := Lib.hid (HK.out.go b1)
  have C := HK.out.says
  simp only [sayAll, cellsSay, qB, qW, Nat.reduceAdd, and_true, true_and] at C
  clear b1
  go_wp2_with fail
  refine (HEf.out _ (HK.out.top 2) h1.1).mono ?_
  rintro e w2 ⟨A1, c1, rfl, H1⟩
  obtain ⟨o1, b1⟩ := H1.out
  replace HK := Lib.hid ((HK.out.go b1).own_ o1)
  have C := HK.out.says
  simp only [sayAll, cellsSay, qB, qW, qO, Nat.reduceAdd, and_true, true_and] at C
  clear b1 o1 H1
  go_wp2_with fail
  refine (HEg.out _ (HK.out.top 3) h1.2).mono ?_
  rintro e w3 ⟨A2, c2, rfl, H1⟩
  obtain ⟨o1, b1⟩ := H1.out
  replace HK := Lib.hid ((HK.out.go b1).own_ o1)
  have C := HK.out.says
  simp only [sayAll, cellsSay, qB, qW, qO, Nat.reduceAdd, and_true, true_and] at C
  clear b1 o1 H1
  by_cases he : e1 = 0 ∧ e2 = 0
  · obtain ⟨rfl, rfl⟩ := he
    have hst := fun x => str_of ((HK.out.own 1).bs.below (plus_below w3 x)) c1
    have hsu := fun x => str_of ((HK.out.own 0).bs.below (plus_below w3 x)) c2
    have hse := str_eq r1 r2
    have Hq := Lib.hid (HAp.out rfl rfl)
    have hp := plus_cell w3
    go_wp2_with fail
    refine wp_region_ext (by kernel_rfl) (by kernel_rfl) ?_
    repeat (go_big_quiet_step ((go_at_call 29; exact ext_of (HS.out _ ((HK.out.top 4).trans ((plus_below _ _).mono (HK.out.top 4).size))))))
    refine wpQuiet_nil ?_
    rintro w9 ⟨x, rfl⟩
    go_wp2_with fail
    go_ret
    exact ⟨by simp; rw [← Hq.out, Bool.eq_iff_iff]; simp, on1 (HK.out.top 4) (plus_below _ _)⟩
  · rcases h70 with rfl | rfl
    · rcases h71 with rfl | rfl
      · exact absurd ⟨rfl, rfl⟩ he
      · go_wp2_with fail
        go_ret
        exact ⟨rfl, HK.out.top 4⟩
    · go_wp2_with fail
      go_ret
      exact ⟨rfl, HK.out.top 4⟩

end Go.Proofs.Ytpedobpbpomkaaa
