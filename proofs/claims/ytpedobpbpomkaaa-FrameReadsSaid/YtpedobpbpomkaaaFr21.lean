/- Layer 7: the walk of FrameMays. -/
import Derived.Test.YtpedobpbpomkaaaFr20
set_option linter.unusedSimpArgs false
set_option linter.unusedVariables false
namespace Go.Proofs.Ytpedobpbpomkaaa
open Go.RowKit
set_option maxRecDepth 100000

set_option maxHeartbeats 8000000 in
theorem frameMays_walk (f : FrD) (A : Option Addr) (c : Nat) (w : World) (hA : Bs w A f.l) (hl : f.l.length ≤ maxLen) (ho : f.ok) :
    Calls Try.prog 3 #[.agg (frC f A c)] w fun e w' => e = .returned (.bool true) ∧ Below w.heap.size w w' := by
  unfold maxLen at hl
  have h70 := encE_two f
  have hE := fun (A : Option Addr) (c : Nat) (W : World) (hA : Bs W A f.l) (h : f.l.length ≤ 4300) => fenc_any f A c W hA ho (by omega)
  have hR := fun (W : World) (hb : Below w.heap.size w W) (h : f.l.length ≤ 4300) => rfenc_any f A c W (hA.below hb) ho (by omega)
  have hM := fun (W : World) (hb : Below w.heap.size w W) (h : f.l.length ≤ 4300) => fmay_any f A c W (hA.below hb) ho (by omega)
  have hN := fun (W : World) (hb : Below w.heap.size w W) (h : f.l.length ≤ 4300) => rfmay_any f A c W (hA.below hb) ho (by omega)
  obtain ⟨e1, he1⟩ : ∃ e, e = encE f := ⟨_, rfl⟩
  obtain ⟨r1, hr1⟩ : ∃ e, e = encR f := ⟨_, rfl⟩
  obtain ⟨mb, hmb⟩ : ∃ e, e = mayF f := ⟨_, rfl⟩
  rw [← he1, ← hr1] at hE hR
  rw [← hmb] at hM hN
  rw [← he1] at h70
  clear ho he1 hr1 hmb
  obtain ⟨kd, ep, se, fc, fb, fn, cn, cl, sm, l, n⟩ := f
  simp only [frC] at hA hE hR hM hN hl ⊢
  have HE := Lib.hid hE
  have HR := Lib.hid hR
  have HM := Lib.hid hM
  have HN := Lib.hid hN
  have HA := Lib.hid hA
  have HK := Lib.hid ((Qs.zero w).box #[.int .u8 (kd : Nat), .int .u32 (ep : Nat), .int .u32 (se : Nat), .int .u32 (fc : Nat), .int .u32 (fb : Nat), .int .u32 (fn : Nat), .int .u32 (cn : Nat), .bool cl, .int .u64 (sm : Nat), .slice A l.length c, .int .i64 n] 30)
  clear hE hR hM hN hA
  have C := HK.out.says
  simp only [sayAll, cellsSay, qB, qW, Nat.reduceAdd, and_true, true_and] at C
  by_cases h1 : l.length ≤ 4300
  rotate_left
  · have hI : (4300 : Int) < l.length := by omega
    go_enter Try.func3, Try.ntmps3
    go_wp2_with fail
    refine (fknown_any _).mono ?_
    rintro e w1 ⟨rfl, b1⟩
    have HK1 := Lib.hid (HK.out.go b1)
    clear b1
    go_wp2_with fail
    go_ret
    exact ⟨rfl, HK1.out.top 1⟩
  have hI : ¬ (4300 : Int) < l.length := by omega
  go_enter Try.func3, Try.ntmps3
  go_wp2_with fail
  refine (fknown_any _).mono ?_
  rintro e w1 ⟨rfl, b1⟩
  replace HK := Lib.hid (HK.out.go b1)
  have hlt := (HK.out.blk 0).lt
  have C1 := HK.out.says
  simp only [sayAll, cellsSay, qB, qW, Nat.reduceAdd, and_true, true_and] at C1
  replace HK := Lib.hid (HK.out.box #[.int .u8 (kd : Nat), .int .u32 (ep : Nat), .int .u32 (se : Nat), .int .u32 (fc : Nat), .int .u32 (fb : Nat), .int .u32 (fn : Nat), .int .u32 (cn : Nat), .bool cl, .int .u64 (sm : Nat), .slice A l.length c, .int .i64 n] 30)
  have C := HK.out.says
  simp only [sayAll, cellsSay, qB, qW, Nat.reduceAdd, and_true, true_and] at C
  obtain ⟨s, hs⟩ : ∃ s, s = w1.heap.size := ⟨_, rfl⟩
  have hs1 : (w1.alloc (.cells #[.int .u8 (kd : Nat), .int .u32 (ep : Nat), .int .u32 (se : Nat), .int .u32 (fc : Nat), .int .u32 (fb : Nat), .int .u32 (fn : Nat), .int .u32 (cn : Nat), .bool cl, .int .u64 (sm : Nat), .slice A l.length c, .int .i64 n] 30)).heap.size = s + 1 := by simp [hs]
  have HS := Lib.hid (And.intro hlt (And.intro hs hs1))
  have bA := HA.out.below (HK.out.top 2)
  clear b1 hlt hs hs1
  have C2 := fun (W : World) (g : (w1.alloc (.cells #[.int .u8 (kd : Nat), .int .u32 (ep : Nat), .int .u32 (se : Nat), .int .u32 (fc : Nat), .int .u32 (fb : Nat), .int .u32 (fn : Nat), .int .u32 (cn : Nat), .bool cl, .int .u64 (sm : Nat), .slice A l.length c, .int .i64 n] 30)).grownBy W none) => Blk.kept (HK.out.blk 0) g (fun e => by cases e)
  go_upto_region 6 with (at_builtin; go_must (refine appAllL _ rfl (.tmp 20) (.tmp 23) rfl _ _ [] rfl (OwnB.nil _ (w1.heap.size + 1)) A c l rfl bA (by simp; omega) (by simp) ?_); intro A3 c3 w3 o3 g3 j3; rw [List.nil_append, List.length_nil, Nat.zero_add] at o3; rw [List.length_nil, Nat.zero_add]; have hbx := C2 w3 g3; have fbx := hbx.frozen 9; have cbx := hbx.cell 9)
  have HK3 := ((HK.out.grow g3 (fun g e => by cases e)).own_ o3).put 1 w1.heap.size [(9, .slice A3 l.length c3)] #[.int .u8 (kd : Nat), .int .u32 (ep : Nat), .int .u32 (se : Nat), .int .u32 (fc : Nat), .int .u32 (fb : Nat), .int .u32 (fn : Nat), .int .u32 (cn : Nat), .bool cl, .int .u64 (sm : Nat), .slice A3 l.length c3, .int .i64 n] (by
    have h1 := HS.out
    simp only [apBut, apAll, qB, qW, qO, and_true]
    omega)
  generalize hW : World.setCell _ _ _ = W
  have hW2 : sets w3 w1.heap.size [(9, .slice A3 l.length c3)] = W := hW
  rw [hW2] at HK3
  replace HK := Lib.hid HK3
  have C := HK.out.says
  simp only [sayAll, cellsSay, qB, qW, qO, Nat.reduceAdd, and_true, true_and, List.set] at C
  clear HK3 hW hW2 o3 g3 j3 hbx fbx cbx C2 C1 bA
  go_wp2_with fail
  refine (HE.out A3 c3 _ (HK.out.own 0).bs h1).mono ?_
  clear HE C
  rintro e w4 ⟨A4, c4, rfl, H4⟩
  obtain ⟨o4, b4⟩ := H4.out
  replace HK := Lib.hid ((HK.out.go b4).own_ o4)
  have C := HK.out.says
  simp only [sayAll, cellsSay, qB, qW, qO, Nat.reduceAdd, and_true, true_and, List.set] at C
  clear o4 b4 H4
  go_wp2_with fail
  refine (HR.out _ (HK.out.top 4) h1).mono ?_
  clear HR C
  rintro e w5 ⟨A5, c5, rfl, H4⟩
  obtain ⟨o4, b4⟩ := H4.out
  replace HK := Lib.hid ((HK.out.go b4).own_ o4)
  have C := HK.out.says
  simp only [sayAll, cellsSay, qB, qW, qO, Nat.reduceAdd, and_true, true_and, List.set] at C
  clear o4 b4 H4
  have hst := fun x => str_of ((HK.out.own 1).bs.below (plus_below w5 x)) c4
  have hsu := fun x => str_of ((HK.out.own 0).bs.below (plus_below w5 x)) c5
  have hS := fun (W : World) (hb : Below w5.heap.size w5 W) => refSame_any A3 A c3 c l l n n W ((HK.out.own 2).bs.below hb) (HA.out.below ((HK.out.top 5).trans (hb.mono (HK.out.top 5).size)))
  simp only [decide_true, Bool.and_self] at hS
  have HSm := Lib.hid hS
  have hp := plus_cell w5
  have hwr : IntKind.i64.wrap (e1 : Int) = (e1 : Int) := by rw [IntKind.wrap_i64]; omega
  clear hS
  go_wp2_with fail
  refine wp_region_ext (by kernel_rfl) (by kernel_rfl) ?_
  repeat (go_big_quiet_step ((first
    | (go_at_call 16; exact ext_of (HM.out _ ((HK.out.top 5).trans ((plus_below _ _).mono (HK.out.top 5).size)) h1))
    | (go_at_call 17; exact ext_of (HN.out _ ((HK.out.top 5).trans ((plus_below _ _).mono (HK.out.top 5).size)) h1))
    | (go_at_call 18; exact ext_of (HSm.out _ (plus_below _ _))))))
  refine wpQuiet_nil ?_
  rintro w9 ⟨x, rfl⟩
  go_wp2_with fail
  go_ret
  exact ⟨by simp, on1 (HK.out.top 5) (plus_below _ _)⟩

end Go.Proofs.Ytpedobpbpomkaaa
