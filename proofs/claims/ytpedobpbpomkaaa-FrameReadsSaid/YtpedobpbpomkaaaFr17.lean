/- Layer 7: Encode of both sides, of any frame; frames alike. -/
import Derived.Test.YtpedobpbpomkaaaFr16
import Derived.Test.YtpedobpbpomkaaaFr4
import Derived.Test.YtpedobpbpomkaaaRef9
set_option linter.unusedSimpArgs false
set_option linter.unusedVariables false
namespace Go.Proofs.Ytpedobpbpomkaaa
open Go.RowKit
set_option maxRecDepth 100000

/-- what Encode answers -/
def encR (f : FrD) : List UInt8 := if mayF f then encF f else []
def encE (f : FrD) : Nat := if mayF f then 0 else 70
theorem encR_len (f : FrD) : (encR f).length ≤ 4096 := by
  unfold encR
  split
  · rename_i h
    have := mayF_n h
    rw [encF_len]; omega
  · simp
theorem fenc_any (f : FrD) (A : Option Addr) (c : Nat) (w : World) (hA : Bs w A f.l) (ho : f.ok) (hL : f.l.length ≤ 100000) :
    Calls Try.prog 14 #[.agg (frC f A c)] w fun e w' => ∃ A' c', e = .returned (.tuple #[.slice A' (encR f).length c', .int .u16 (encE f : Nat)]) ∧ Hid (OwnB w' w.heap.size (.slice A' (encR f).length c') (encR f) ∧ Below w.heap.size w w') := by
  unfold encR encE
  rcases hm : mayF f with _ | _
  · refine (fenc_no f A c w hA ho hL hm).mono ?_
    rintro e w' ⟨rfl, hb⟩
    exact ⟨none, 0, rfl, Lib.hid ⟨OwnB.nil _ _, hb⟩⟩
  · refine (fenc_yes f A c w hA ho hm).mono ?_
    rintro e w' ⟨A', c', N, rfl, H⟩
    obtain ⟨rfl, h2, h3⟩ := H.out
    exact ⟨A', c', rfl, Lib.hid ⟨h2, h3⟩⟩
theorem rfenc_any (f : FrD) (A : Option Addr) (c : Nat) (w : World) (hA : Bs w A f.l) (ho : f.ok) (hL : f.l.length ≤ 100000) :
    Calls Try.prog 15 #[.agg (frC f A c)] w fun e w' => ∃ A' c', e = .returned (.tuple #[.slice A' (encR f).length c', .int .i64 (encE f : Nat)]) ∧ Hid (OwnB w' w.heap.size (.slice A' (encR f).length c') (encR f) ∧ Below w.heap.size w w') := by
  unfold encR encE
  rcases hm : mayF f with _ | _
  · refine (rfenc_no f A c w hA ho hL hm).mono ?_
    rintro e w' ⟨rfl, hb⟩
    exact ⟨none, 0, rfl, Lib.hid ⟨OwnB.nil _ _, hb⟩⟩
  · refine (rfenc_yes f A c w hA ho hm).mono ?_
    rintro e w' ⟨A', c', N, rfl, H⟩
    obtain ⟨rfl, h2, h3⟩ := H.out
    exact ⟨A', c', rfl, Lib.hid ⟨h2, h3⟩⟩

/-- are frames alike? -/
def sameF (f g : FrD) : Bool := decide (f.kd = g.kd ∧ f.ep = g.ep ∧ f.se = g.se ∧ (f.fc, f.fb, f.fn) = (g.fc, g.fb, g.fn) ∧ f.cn = g.cn ∧ f.cl = g.cl ∧ f.sm = g.sm) && (decide (f.n = g.n) && decide (f.l = g.l))
theorem sameF_iff (f g : FrD) : sameF f g = true ↔ f = g := by
  obtain ⟨kd, ep, se, fc, fb, fn, cn, cl, sm, l, n⟩ := f
  obtain ⟨kd2, ep2, se2, fc2, fb2, fn2, cn2, cl2, sm2, l2, n2⟩ := g
  simp only [sameF, Bool.and_eq_true, decide_eq_true_iff, FrD.mk.injEq, Prod.mk.injEq]
  constructor
  · rintro ⟨⟨rfl, rfl, rfl, ⟨rfl, rfl, rfl⟩, rfl, rfl, rfl⟩, rfl, rfl⟩; simp
  · rintro ⟨rfl, rfl, rfl, rfl, rfl, rfl, rfl, rfl, rfl, rfl, rfl⟩; simp

set_option maxHeartbeats 4000000 in
theorem rfsame_any (f g : FrD) (A B : Option Addr) (c d : Nat) (w : World) (hA : Bs w A f.l) (hB : Bs w B g.l) :
    Calls Try.prog 21 #[.agg (frC f A c), .agg (frC g B d)] w fun e w' => e = .returned (.bool (sameF f g)) ∧ Below w.heap.size w w' := by
  obtain ⟨r, hr⟩ : ∃ r, r = sameF f g := ⟨_, rfl⟩
  rw [← hr]
  have hS := fun (W : World) (hb : Below w.heap.size w W) => refSame_any A B c d f.l g.l f.n g.n W (hA.below hb) (hB.below hb)
  obtain ⟨sb, hsb⟩ : ∃ sb, sb = (decide (f.n = g.n) && decide (f.l = g.l)) := ⟨_, rfl⟩
  rw [← hsb] at hS
  unfold sameF at hr
  rw [← hsb] at hr
  clear hA hB hsb
  obtain ⟨kd, ep, se, fc, fb, fn, cn, cl, sm, l, n⟩ := f
  obtain ⟨kd2, ep2, se2, fc2, fb2, fn2, cn2, cl2, sm2, l2, n2⟩ := g
  simp only [frC] at hr hS ⊢
  have HS := Lib.hid hS
  have HK0 := (Qs.zero w).box #[.int .u8 (kd : Nat), .int .u32 (ep : Nat), .int .u32 (se : Nat), .int .u32 (fc : Nat), .int .u32 (fb : Nat), .int .u32 (fn : Nat), .int .u32 (cn : Nat), .bool cl, .int .u64 (sm : Nat), .slice A l.length c, .int .i64 n] 30
  have s1 : ∀ o, (w.alloc o).heap.size = w.heap.size + 1 := fun o => by simp
  have HK2 := HK0.box #[.int .u8 (kd2 : Nat), .int .u32 (ep2 : Nat), .int .u32 (se2 : Nat), .int .u32 (fc2 : Nat), .int .u32 (fb2 : Nat), .int .u32 (fn2 : Nat), .int .u32 (cn2 : Nat), .bool cl2, .int .u64 (sm2 : Nat), .slice B l2.length d, .int .i64 n2] 30
  simp only [s1] at HK2
  have HK := Lib.hid HK2
  clear HK0 HK2 s1
  have C := HK.out.says
  simp only [sayAll, cellsSay, qB, qW, Nat.reduceAdd, and_true, true_and] at C
  have hP := fun w => eqPl_run fc fb fn fc2 fb2 fn2 w
  clear hS
  by_cases c_kd : kd = kd2
  rotate_left
  · have h_kd : (((kd : Nat) : Int) == ((kd2 : Nat) : Int)) = false := beq_eq_false_iff_ne.2 (by omega)
    have Hr := Lib.hid (show r = false by rw [hr, decide_eq_false (fun h => c_kd (by simpa using (h.1))), Bool.false_and])
    clear hr c_kd 
    go_enter Try.func21, Try.ntmps21
    go_wp2_with fail
    go_ret
    exact ⟨by rw [Hr.out]; rfl, HK.out.top 2⟩
  have h_kd : (((kd : Nat) : Int) == ((kd2 : Nat) : Int)) = true := beq_iff_eq.2 (by omega)
  by_cases c_ep : ep = ep2
  rotate_left
  · have h_ep : (((ep : Nat) : Int) == ((ep2 : Nat) : Int)) = false := beq_eq_false_iff_ne.2 (by omega)
    have Hr := Lib.hid (show r = false by rw [hr, decide_eq_false (fun h => c_ep (by simpa using (h.2.1))), Bool.false_and])
    clear hr c_ep c_kd
    go_enter Try.func21, Try.ntmps21
    go_wp2_with fail
    go_ret
    exact ⟨by rw [Hr.out]; rfl, HK.out.top 2⟩
  have h_ep : (((ep : Nat) : Int) == ((ep2 : Nat) : Int)) = true := beq_iff_eq.2 (by omega)
  by_cases c_se : se = se2
  rotate_left
  · have h_se : (((se : Nat) : Int) == ((se2 : Nat) : Int)) = false := beq_eq_false_iff_ne.2 (by omega)
    have Hr := Lib.hid (show r = false by rw [hr, decide_eq_false (fun h => c_se (by simpa using (h.2.2.1))), Bool.false_and])
    clear hr c_se c_kd c_ep
    go_enter Try.func21, Try.ntmps21
    go_wp2_with fail
    go_ret
    exact ⟨by rw [Hr.out]; rfl, HK.out.top 2⟩
  have h_se : (((se : Nat) : Int) == ((se2 : Nat) : Int)) = true := beq_iff_eq.2 (by omega)
  by_cases c_pl : (fc, fb, fn) = (fc2, fb2, fn2)
  rotate_left
  · rw [decide_eq_false c_pl] at hP
    have Hr := Lib.hid (show r = false by rw [hr, decide_eq_false (fun h => c_pl (by simpa using (h.2.2.2.1))), Bool.false_and])
    clear hr c_pl c_kd c_ep c_se
    go_enter Try.func21, Try.ntmps21
    go_wp2_with fail
    go_ret
    exact ⟨by rw [Hr.out]; rfl, HK.out.top 2⟩
  rw [decide_eq_true c_pl] at hP
  by_cases c_cn : cn = cn2
  rotate_left
  · have h_cn : (((cn : Nat) : Int) == ((cn2 : Nat) : Int)) = false := beq_eq_false_iff_ne.2 (by omega)
    have Hr := Lib.hid (show r = false by rw [hr, decide_eq_false (fun h => c_cn (by simpa using (h.2.2.2.2.1))), Bool.false_and])
    clear hr c_cn c_kd c_ep c_se c_pl
    go_enter Try.func21, Try.ntmps21
    go_wp2_with fail
    go_ret
    exact ⟨by rw [Hr.out]; rfl, HK.out.top 2⟩
  have h_cn : (((cn : Nat) : Int) == ((cn2 : Nat) : Int)) = true := beq_iff_eq.2 (by omega)
  by_cases c_cl : cl = cl2
  rotate_left
  · have h_cl : (cl == cl2) = false := beq_eq_false_iff_ne.2 c_cl
    have Hr := Lib.hid (show r = false by rw [hr, decide_eq_false (fun h => c_cl (by simpa using (h.2.2.2.2.2.1))), Bool.false_and])
    clear hr c_cl c_kd c_ep c_se c_pl c_cn
    go_enter Try.func21, Try.ntmps21
    go_wp2_with fail
    go_ret
    exact ⟨by rw [Hr.out]; rfl, HK.out.top 2⟩
  have h_cl : (cl == cl2) = true := beq_iff_eq.2 c_cl
  by_cases c_sm : sm = sm2
  rotate_left
  · have h_sm : (((sm : Nat) : Int) == ((sm2 : Nat) : Int)) = false := beq_eq_false_iff_ne.2 (by omega)
    have Hr := Lib.hid (show r = false by rw [hr, decide_eq_false (fun h => c_sm (by simpa using (h.2.2.2.2.2.2))), Bool.false_and])
    clear hr c_sm c_kd c_ep c_se c_pl c_cn c_cl
    go_enter Try.func21, Try.ntmps21
    go_wp2_with fail
    go_ret
    exact ⟨by rw [Hr.out]; rfl, HK.out.top 2⟩
  have h_sm : (((sm : Nat) : Int) == ((sm2 : Nat) : Int)) = true := beq_iff_eq.2 (by omega)
  have Hr := Lib.hid (show r = sb by rw [hr, decide_eq_true ⟨c_kd, c_ep, c_se, c_pl, c_cn, c_cl, c_sm⟩, Bool.true_and])
  clear hr c_kd c_ep c_se c_pl c_cn c_cl c_sm
  go_enter Try.func21, Try.ntmps21
  go_wp2_with fail
  refine (HS.out _ (HK.out.top 2)).mono ?_
  rintro e w1 ⟨rfl, b1⟩
  have HK1 := Lib.hid (HK.out.go b1)
  clear b1
  go_wp2_with fail
  go_ret
  exact ⟨by rw [Hr.out]; rfl, HK1.out.top 2⟩

end Go.Proofs.Ytpedobpbpomkaaa
