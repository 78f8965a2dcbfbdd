/- Joined: Fr5. -/
import Derived.Test.YtpedobpbpomkaaaQ11
import Derived.Test.YtpedobpbpomkaaaQ6
import Derived.Deep.AppendLies
set_option linter.unusedSimpArgs false
set_option linter.unusedVariables false
/- Layer 7: the program's put. -/
set_option linter.unusedSimpArgs false
set_option linter.unusedVariables false
namespace Go.Proofs.Ytpedobpbpomkaaa
open Go.RowKit
set_option maxRecDepth 100000

/-- 'append(out, b)' of one byte: where the new row lies -/
theorem appBL (w : World) {ops : Array Oper} {rest : List Oper} {o : Oper} {a : Act} {Q : Exit → Act → World → Prop} (hgd : o.guard = none) (s x : Operand)
    (ho : o.op = .call { callee := .builtin .append, args := #[s, x], argTypes := #[26, 26] })
    (base : Nat) (v : Value) (l : List UInt8) (hs : a.eval s = v) (hown : OwnB w base v l)
    (g : Nat) (b : UInt8) (hx : a.eval x = .slice (some ⟨g, 0, none⟩) 1 1) (hc : w.cell? ⟨g, 0, none⟩ = some (bv b)) (hlen : l.length + 1 ≤ 140737488355328) (hbase : base ≤ w.heap.size)
    (h : ∀ g' c' w', OwnB w' base (.slice (some ⟨g', 0, none⟩) (l.length + 1) c') (l ++ [b]) → w.grownBy w' v.ownBlock → (v.ownBlock = some g' ∨ g' = w.heap.size) → g' < w'.heap.size → wpList Try.prog ops Q rest (a.put o.dst (.slice (some ⟨g', 0, none⟩) (l.length + 1) c')) w') : wpList Try.prog ops Q (o :: rest) a w := by
  obtain ⟨i, hi, hz, hsz, hby⟩ := info_parts Try.info_u8
  refine wpList_append_lies (P := Try.prog) w hgd s x 26 ho base 5 i (.int .u8 0) 1 1 Try.underlying26 hi hz hsz hby rfl (by decide) v l.length (l.map bv) hs hown ⟨g, 0, none⟩ 1 1 [bv b] hx (by simp) ?_ (fun u hu => ?_) (by omega) (by unfold maxLen; omega) (by omega) hbase _ rfl ?_
  · intro j u hj
    cases j with
    | zero => simp at hj; subst hj; simpa [Addr.add] using hc
    | succ j => simp at hj
  · simp at hu; subst hu; rfl
  · intro g' c' w' h2 h3 h4 h5
    exact h g' c' w' (by unfold OwnB; rw [List.length_append, List.map_append]; simpa using h2) h3 h4 h5

/-- a call that writes one block, and where v lies, and makes memory -/
structure Ft (q : Nat) (v : Value) (w w' : World) : Prop where
  os : w'.os = w.os
  tape : w'.tape = w.tape
  output : w'.output = w.output
  size : w.heap.size ≤ w'.heap.size
  block : ∀ k, k < w.heap.size → k ≠ q → v.ownBlock ≠ some k → w'.heap[k]? = w.heap[k]?
section
variable {q : Nat} {v v' : Value} {a b c w w' w0 : World}
theorem Ft.refl (q : Nat) (v : Value) (w : World) : Ft q v w w := ⟨rfl, rfl, rfl, Nat.le_refl _, fun _ _ _ _ => rfl⟩
theorem Ft.go (h : Ft q v a b) (k : Below b.heap.size b c) : Ft q v a c := ⟨k.os.trans h.os, k.tape.trans h.tape, k.output.trans h.output, Nat.le_trans h.size k.size, fun j hj hq hv => (k.block j (Nat.lt_of_lt_of_le hj h.size)).trans (h.block j hj hq hv)⟩
theorem Ft.set (h : Ft q v a b) (i : Nat) (u : Value) : Ft q v a (b.setCell ⟨q, i, none⟩ u) :=
  ⟨h.os, h.tape, h.output, Nat.le_trans h.size (by simp [World.setCell]), fun k hk hq hv => (Below.heap_setCell b ⟨q, i, none⟩ u k (fun e => hq e)).trans (h.block k hk hq hv)⟩
theorem Ft.grown (h : Ft q v a b) (k : b.grownBy c v'.ownBlock) (hv : ∀ j, v'.ownBlock = some j → v.ownBlock = some j ∨ a.heap.size ≤ j) : Ft q v a c := ⟨k.os.trans h.os, k.tape.trans h.tape, k.output.trans h.output, Nat.le_trans h.size k.size, fun j hj hq hw => (k.block j (Nat.lt_of_lt_of_le hj h.size) (fun e => by
  rcases hv j e.symm with h1 | h1
  · exact hw h1
  · omega)).trans (h.block j hj hq hw)⟩
theorem Ft.to {B0 : Nat} (h : Ft q v w w') (b : Below B0 w0 w) (hq : B0 ≤ q) (hv : ∀ k, v.ownBlock = some k → B0 ≤ k) (hs : B0 ≤ w.heap.size) : Below B0 w0 w' := ⟨h.os.trans b.os, h.tape.trans b.tape, h.output.trans b.output, Nat.le_trans b.size h.size, fun k hk => (h.block k (by omega) (by omega) (fun e => by have := hv k e; omega)).trans (b.block k hk)⟩
theorem Blk.ft {g : Nat} {t : TypeId} {cs : Array Value} (h : Blk w g t cs) (f : Ft q v w w') (hq : g ≠ q) (hv : v.ownBlock ≠ some g) : Blk w' g t cs := (f.block g h.lt hq hv).trans h
end

set_option maxHeartbeats 2000000 in
theorem fput_any (v wd N : Nat) (A : Option Addr) (c : Nat) (M : List UInt8) (q base : Nat) (w : World) (hN : N = M.length) (hq : Blk w q 26 #[.slice A N c]) (hown : OwnB w base (.slice A N c) M) (hne : (Value.slice A N c).ownBlock ≠ some q) (hqb : base ≤ q) (hwd : wd ≤ 8) (hv : v < 18446744073709551616) (hL : N ≤ 100000) :
    Calls Try.prog 30 #[.int .u64 (v : Nat), .int .i64 (wd : Nat), .pointer (some ⟨q, 0, none⟩)] w fun e w' => e = .returned (.tuple #[]) ∧ ∃ A' c' N', Hid (N' = N + wd ∧ Blk w' q 26 #[.slice A' N' c'] ∧ OwnB w' base (.slice A' N' c') (M ++ be wd v) ∧ (Value.slice A' N' c').ownBlock ≠ some q ∧ Ft q (.slice A N c) w w' ∧ ∀ j, (Value.slice A' N' c').ownBlock = some j → (Value.slice A N c).ownBlock = some j ∨ w.heap.size ≤ j) := by
  have hmx : Try.prog.follows .mixedOrders = true := by kernel_rfl
  have HQ := Lib.hid hq
  have HO := Lib.hid hown
  have HN := Lib.hid hN
  have HNe := Lib.hid hne
  have hb : base ≤ w.heap.size := Nat.le_of_lt (Nat.lt_of_le_of_lt hqb hq.lt)
  clear hq hown hN hne
  have hwp : IntKind.i64.wrap ((wd : Int) - 1) = (wd : Int) - 1 := by rw [IntKind.wrap_i64]; omega
  go_enter Try.func30, Try.ntmps30
  go_wp2_with fail
  go_loopw [7] (fun s7 wr => ∃ k : Nat, k ≤ wd ∧ s7 = .int .i64 k ∧ Hid (∃ (A2 : Option Addr) (c2 N2 : Nat) (M2 : List UInt8), N2 = M2.length ∧ M2 = M ++ (be wd v).take k ∧ Blk wr q 26 #[.slice A2 N2 c2] ∧ OwnB wr base (.slice A2 N2 c2) M2 ∧ (Value.slice A2 N2 c2).ownBlock ≠ some q ∧ Ft q (.slice A N c) w wr ∧ ∀ j, (Value.slice A2 N2 c2).ownBlock = some j → (Value.slice A N c).ownBlock = some j ∨ w.heap.size ≤ j))
    (fun s7 _ => wd - (intOf s7).toNat)
  case atStart => exact ⟨0, Nat.zero_le _, rfl, Lib.hid ⟨A, c, N, M, HN.out, by simp, HQ.out, HO.out, HNe.out, Ft.refl _ _ _, fun j h => .inl h⟩⟩
  case round =>
    obtain ⟨k, hk, rfl, HR⟩ := hrel
    by_cases hlt : k < wd
    · obtain ⟨A2, c2, N2, M2, h1, h2, h3, h4, h6, h5, h7⟩ := HR.out
      have hNl : N2 ≤ 100008 := by rw [h1, h2, List.length_append, List.length_take, be_len]; have := HN.out; omega
      have hst := be_take (v := v) hlt
      obtain ⟨i, hi⟩ : ∃ i, i = wd - 1 - k := ⟨_, rfl⟩
      rw [← hi] at hst
      obtain ⟨s, hs⟩ : ∃ s : Nat, s = 8 * i := ⟨_, rfl⟩
      have f0 : IntKind.i64.wrap ((wd : Int) - 1 - (k : Int)) = (i : Int) := by rw [IntKind.wrap_i64]; omega
      have f1 : IntKind.i64.wrap (8 * (i : Int)) = (s : Int) := by rw [IntKind.wrap_i64]; omega
      obtain ⟨x, hx⟩ : ∃ x, x = v / 256 ^ i := ⟨_, rfl⟩
      have f3 : (v : Int) / 2 ^ s = (x : Int) := by rw [hs, be_shift, hx]
      obtain ⟨b, hb2⟩ : ∃ b, b = UInt8.ofNat (x % 256) := ⟨_, rfl⟩
      have f4 : IntKind.u8.wrap (x : Int) = (b.toNat : Int) := by rw [u8_byte, hb2]
      rw [← hx, ← hb2] at hst
      have HM2 := Lib.hid (show M2 ++ [b] = M ++ (be wd v).take (k + 1) by rw [hst, h2, List.append_assoc])
      have hs64 : (s : Int) < 64 := by omega
      have hs64' : s < 64 := by omega
      have H3 := Lib.hid h3
      have H4 := Lib.hid h4
      have H5 := Lib.hid h5
      have H6 := Lib.hid h6
      have H7 := Lib.hid h7
      have H1 := Lib.hid h1
      have hqw : q < wr.heap.size := h3.lt
      have hbw : base ≤ wr.heap.size := Nat.le_trans hb h5.size
      have e0 : ∀ y : More, (plus wr y).cell? ⟨q, 0, none⟩ = some (.slice A2 N2 c2) := fun y => (plus_cell wr y _ (by rw [h3.cell]; rfl)).trans (h3.cell 0)
      have hkl : (k : Int) < wd := by omega
      clear hst hi hs hx hb2 h1 h2 h3 h4 h5 h6 h7 HR
      go_wp2_with fail
      refine wp_region_fresh_tail 10 [] [9, 10] (fun _ V z => ∃ g, V = .slice (some ⟨g, 0, none⟩) 1 1 ∧ Blk z g 5 #[.int .u8 (b.toNat : Nat)] ∧ wr.heap.size ≤ g) hmx (by kernel_rfl) (by kernel_rfl) ?_
      simp only [List.take_succ_cons, List.take_zero, List.drop_succ_cons, List.drop_zero]
      iterate 9 (refine walkF_one none wr rfl (by kernel_rfl) ?_; go_big_quiet_step (fail); refine wpQuiet_nil ?_)
      refine walkF_make none wr rfl rfl rfl (by kernel_rfl) (fun x => ?_) ?_
      · have hr : ∀ w' : World, (execOp (Act.eval { tmps := #[.int .u8 (b.toNat : Nat)], defers := [] }) { dst := none, op := .buildSlice 26 1 #[(0, .tmp 0)], type := 0, pos := "", after := #[], guard := none }).run Try.prog w' = .ok (.value (.slice (some ⟨w'.heap.size, 0, none⟩) 1 1)) (w'.alloc (.cells #[.int .u8 (b.toNat : Nat)] 5)) := fun w' => by simp [execOp, go_sem]
        refine grow_val (w' := (plus wr x).alloc (.cells #[.int .u8 (b.toNat : Nat)] 5)) (v := .slice (some ⟨(plus wr x).heap.size, 0, none⟩) 1 1) ?_ (below_alloc _ _) ⟨_, rfl, Blk.new _ _ _, (plus_below wr x).size⟩
        simp [execOp, go_sem]
      rintro V1 z1 ⟨g, rfl, hg, hgz⟩ g1
      conv => arg 11; simp [Act.put]
      refine walkF_end ?_
      intro w' h0 hE
      have hg' := hg.below (hE 9) hg.lt
      have H3' := Lib.hid (Blk.below H3.out h0 hqw)
      have H4' := Lib.hid (H4.out.below h0)
      have H5' := Lib.hid (H5.out.go h0)
      have HG := Lib.hid hg'
      have hcg := hg'.cell 0
      have hbw' : base ≤ w'.heap.size := Nat.le_trans hbw (Below.size h0)
      clear hE hg hg' g1 e0 h0 H3 H4 H5
      have kA := fun W => keepA W
      go_upto_region 4 with (at_builtin; go_must (refine appBL _ rfl (.tmp 10) (.tmp 19) rfl base _ M2 rfl H4'.out g b rfl hcg (by have := H1.out; omega) hbw' ?_); intro g5 c5 w5 hown5 hg5 hat5 hlt5; have H35 := Lib.hid (Blk.kept H3'.out hg5 H6.out); have f5 := H35.out.frozen 0; have v5 := H35.out.cell 0)
      have HB5 := Lib.hid (H5'.out.grown (v' := .slice A2 N2 c2) hg5 H7.out)
      have HO5 := Lib.hid hown5
      have hqw' : q < w'.heap.size := H3'.out.lt
      have hgq : (Value.slice (some ⟨g5, 0, none⟩) (M2.length + 1) c5).ownBlock ≠ some q := fun e => by
        have e2 : g5 = q := by simpa [Value.ownBlock] using e
        rcases hat5 with h9 | h9
        · exact H6.out (by rw [← e2]; exact h9)
        · omega
      have HGQ := Lib.hid hgq
      have hws : w.heap.size ≤ w'.heap.size := H5'.out.size
      have H8 := Lib.hid (show ∀ j, (Value.slice (some ⟨g5, 0, none⟩) (M2.length + 1) c5).ownBlock = some j → (Value.slice A N c).ownBlock = some j ∨ w.heap.size ≤ j from fun j e => by
        have e2 : g5 = j := by simpa [Value.ownBlock] using e
        subst e2
        rcases hat5 with h9 | h9
        · exact H7.out _ h9
        · exact .inr (by omega))
      clear hown5 hg5 hat5 hlt5 hgq
      go_wp2_with fail
      go_roundw
      case measure => simp [intOf]; omega
      case rel =>
        refine ⟨k + 1, by omega, by go_num, Lib.hid ⟨some ⟨g5, 0, none⟩, c5, M2.length + 1, M2 ++ [b], by simp, HM2.out, H35.out.set 0 _, ?_, HGQ.out, ?_, H8.out⟩⟩
        · exact OwnB.far (p := ⟨q, 0, none⟩) HO5.out HGQ.out _
        · exact HB5.out.set 0 _
    · obtain rfl : k = wd := by omega
      go_wp2_with fail
      go_end0
      obtain ⟨A2, c2, N2, M2, h1, h2, h3, h4, h6, h5, h7⟩ := HR.out
      rw [List.take_of_length_le (by rw [be_len]; omega)] at h2
      refine ⟨rfl, A2, c2, N2, Lib.hid ⟨by rw [h1, h2, List.length_append, be_len, HN.out], h3, by rw [← h2]; exact h4, h6, h5, h7⟩⟩

end Go.Proofs.Ytpedobpbpomkaaa
