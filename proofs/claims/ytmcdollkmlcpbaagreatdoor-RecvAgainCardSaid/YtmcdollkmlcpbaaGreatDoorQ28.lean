/- Joined: Xr9, Xr10, Xr12, Xr13. -/
import Derived.Test.YtmcdollkmlcpbaaGreatDoorQ22
import Derived.Test.YtmcdollkmlcpbaaGreatDoorQ3
import Derived.Test.YtmcdollkmlcpbaaGreatDoorQ7
import Derived.Test.YtmcdollkmlcpbaaGreatDoorQ10
set_option linter.unusedSimpArgs false
set_option linter.unusedVariables false
namespace Go.Proofs.YtmcdollkmlcpbaaGreatDoor
open Go.RowKit
theorem OwnB.far2 {w : World} {base : Nat} {v : Value} {l : List UInt8} (h : OwnB w base v l) {g : Nat} (hg : g < base) (a b : Value) : OwnB ((w.setCell ⟨g, 0, none⟩ a).setCell ⟨g, 1, none⟩ b) base v l :=
 (h.far (h.ne hg) _).far ((h.far (p := ⟨g, 0, none⟩) (h.ne hg) a).ne hg) _
theorem tabGo {w w' : World} (h : Tab w) (hb : Below w.heap.size w w') : Tab w' := fun j hj => (hb.cell (cell_lt (h j hj))).trans (h j hj)
set_option maxRecDepth 100000 in
set_option maxHeartbeats 1000000 in
theorem narrow_any (D : Nat) (w : World) (h0 : D ≠ 0) (hD : D < 18446744073709551616) (hT : Tab w) :
  Calls Tryz.prog 122 #[.int .u64 D] w fun e w' => e = .returned (.agg #[.int .i64 (leadX D), .int .i64 (widX D)]) ∧ Below w.heap.size w w' := by
 obtain ⟨n1, n2, n3, n4, -⟩ := narrow_facts D h0 hD
 obtain ⟨bl, hbl⟩ : ∃ bl, bl = Lib.bitLen D := ⟨_, rfl⟩
 obtain ⟨L, hL⟩ : ∃ L, L = leadX D := ⟨_, rfl⟩
 obtain ⟨X, hX⟩ : ∃ X, X = widX D := ⟨_, rfl⟩
 obtain ⟨C, hC⟩ : ∃ C, C = Lib.ctz 64 D := ⟨_, rfl⟩
 have hbb := bitLen_two D h0 hD
 have hLl : L = min (64 - bl) 31 := by rw [hL, hbl]; rfl
 rw [← hL, ← hX] at n3 n4
 rw [← hL] at n1
 rw [← hX] at n2
 rw [← hC] at n4
 rw [← hL, ← hX]
 have hb64 : bl ≤ 64 := by omega
 have hXC : (64 : Int) - L - C = X := by omega
 have hmn : min ((64 : Int) - bl) 31 = (L : Int) := by omega
 have c0 := lz64 (D : Int) (w.alloc (.cells #[.int .i64 0, .int .i64 0] 176)) (by omega) (by omega)
 rw [Int.toNat_natCast, ← hbl] at c0
 have c1 := fun W (h : Tab W) => tz64 D hD W h
 rw [← hC] at c1
 have C0 := Lib.hid c0
 have C1 := Lib.hid c1
 have HXC := Lib.hid hXC
 have hTB := tabGo hT (below_alloc w (.cells #[.int .i64 0, .int .i64 0] 176))
 have HT := Lib.hid hTB
 have tB := below_alloc w (.cells #[.int .i64 0, .int .i64 0] 176)
 have hB := Blk.new w 176 #[.int .i64 0, .int .i64 0]
 have HB := Lib.hid hB
 clear c0 c1 hbb hL hX hC hbl hLl hTB hB n4 hT
 go_enter Tryz.func122, Tryz.ntmps122
 go_wp2_with (go_at_call 123; refine C0.out.mono ?_; rintro e w1 ⟨rfl, rfl⟩)
 refine (C1.out _ HT.out).mono ?_
 rintro e w1 ⟨rfl, rfl⟩
 go_wp2_with fail
 exact bodyPost_ret (results_cell_row Tryz.results122 _ _ w.heap.size 176 #[.int .i64 L, .int .i64 X] (0, 0) _ rfl (heap_alloc_new w _) Tryz.underlying176 rfl (by kernel_rfl)) rfl ⟨rfl, below_alloc _ _⟩
def encFd (f : Nat × Nat) : List Value := [.int .u64 f.1, .int .i64 f.2]
def catFd (fs : List (Nat × Nat)) : List Bool := fs.flatMap fun f => valB f.1 f.2
theorem catFd_snoc (fs : List (Nat × Nat)) (k : Nat) (h : k < fs.length) : catFd (fs.take (k + 1)) = catFd (fs.take k) ++ valB fs[k].1 fs[k].2 := by
 unfold catFd
 rw [List.take_succ_eq_append_getElem h, List.flatMap_append]
 simp
theorem catFd_len (fs : List (Nat × Nat)) (h : ∀ f ∈ fs, f.2 ≤ 64) : (catFd fs).length ≤ 64 * fs.length := by
 unfold catFd
 induction fs with
 | nil => simp
 | cons f fs ih =>
  rw [List.flatMap_cons, List.length_append, valB_length, List.length_cons]
  have h1 := h f List.mem_cons_self
  have h2 := ih fun x hx => h x (List.mem_cons_of_mem _ hx)
  omega
set_option maxRecDepth 100000 in
set_option maxHeartbeats 1000000 in
theorem numbers_any (V : Option Addr) (c : Nat) (fs : List (Nat × Nat)) (w : World) (hf : Rw w encFd 2 V fs) (hv : ∀ f ∈ fs, f.1 < 18446744073709551616 ∧ f.2 ≤ 64) (hn : fs.length ≤ 100) :
  Calls Tryz.prog 120 #[.slice V fs.length c] w fun e w' => ∃ A' n' c', e = .returned (.agg #[.slice A' n' c', .int .i64 ((catFd fs).length : Nat)]) ∧ n' = (pack (catFd fs)).length ∧ OwnB w' w.heap.size (.slice A' n' c') (pack (catFd fs)) ∧ Below w.heap.size w w' := by
 have hB0 : Blk ((w.alloc (.cells #[.slice none 0 0, .int .i64 0] 33)).alloc (.cells #[.slice none 0 0, .int .i64 0] 33)) w.heap.size 33 #[.slice none 0 0, .int .i64 0] := (Blk.new w _ _).alloc _
 have hB1 : Blk ((w.alloc (.cells #[.slice none 0 0, .int .i64 0] 33)).alloc (.cells #[.slice none 0 0, .int .i64 0] 33)) (w.heap.size + 1) 33 #[.slice none 0 0, .int .i64 0] := by
  have := Blk.new (w.alloc (.cells #[.slice none 0 0, .int .i64 0] 33)) 33 #[.slice none 0 0, .int .i64 0]
  rwa [World.size_alloc] at this
 have tB := below_alloc2 w (.cells #[.slice none 0 0, .int .i64 0] 33) (.cells #[.slice none 0 0, .int .i64 0] 33)
 have HB0 := Lib.hid hB0
 have HB1 := Lib.hid hB1
 have HTB := Lib.hid tB
 have HF := Lib.hid hf
 have HV := Lib.hid hv
 clear hB0 hB1 tB hf hv
 go_enter Tryz.func120, Tryz.ntmps120
 go_wp2_with fail
 go_loopw [8] (fun s wr => ∃ (k : Nat) (A : Option Addr) (n' c' : Nat), s = .int .i64 k ∧ k ≤ fs.length ∧ Blk wr w.heap.size 33 #[.slice none 0 0, .int .i64 0] ∧ Blk wr (w.heap.size + 1) 33 #[.slice A n' c', .int .i64 ((catFd (fs.take k)).length : Nat)] ∧ Hid (n' = (pack (catFd (fs.take k))).length) ∧ OwnB wr (w.heap.size + 2) (.slice A n' c') (pack (catFd (fs.take k))) ∧ Below w.heap.size w wr ∧ w.heap.size + 2 ≤ wr.heap.size)
  (fun s _ => fs.length - (intOf s).toNat)
 case atStart => exact ⟨0, none, 0, 0, rfl, Nat.zero_le _, HB0.out, (by simpa [catFd] using HB1.out), Lib.hid (by simp [catFd, pack, nb]), by rw [show pack (catFd (fs.take 0)) = [] by simp [catFd, pack, nb]]; exact OwnB.nil _ _, HTB.out, by simp⟩
 case round =>
  obtain ⟨k, A, n', c', rfl, hk, b0, b1, Hn, ho, tW, zW⟩ := hrel
  rcases Nat.lt_or_ge k fs.length with hlt | hge
  ·have q1 : decide ((k : Int) < fs.length) = true := decide_eq_true (by omega)
   have q2 : decide (k < fs.length) = true := decide_eq_true hlt
   obtain ⟨p, o, rfl, hc⟩ := HF.out k fs[k] (List.getElem?_eq_getElem hlt)
   have hv := HV.out fs[k] (List.getElem_mem hlt)
   obtain ⟨fv, fw, hfe⟩ : ∃ fv fw, fs[k] = (fv, fw) := ⟨_, _, rfl⟩
   have c0 := (tW.cell (cell_lt (hc 0 (.int .u64 fs[k].1) rfl))).trans (hc 0 (.int .u64 fs[k].1) rfl)
   have c1 := (tW.cell (cell_lt (hc 1 (.int .i64 fs[k].2) rfl))).trans (hc 1 (.int .i64 fs[k].2) rfl)
   rw [hfe] at c0 c1 hv
   simp only [Nat.add_zero] at c0 c1 hv
   have hL := catFd_len (fs.take k) fun f hf => (HV.out f (List.mem_of_mem_take hf)).2
   obtain ⟨L, hLe⟩ : ∃ L, L = catFd (fs.take k) := ⟨_, rfl⟩
   rw [← hLe] at b1 Hn ho hL
   rw [List.length_take] at hL
   have hL1 : L.length ≤ 6400 := by omega
   have HL1 : Hid (catFd (fs.take (k + 1)) = L ++ valB fv fw) := Lib.hid (by rw [catFd_snoc fs k hlt, hfe, hLe])
   obtain rfl := Hn.out
   have hV0 : (0 : Int) ≤ (fv : Int) ∧ (fv : Int) < 18446744073709551616 := by omega
   have hV1 : (0 : Int) ≤ (fw : Int) ∧ (fw : Int) ≤ 64 := by omega
   have e1 : IntKind.i64.wrap ((k : Int) + 1) = ((k + 1 : Nat) : Int) := by rw [IntKind.wrap_i64]; omega
   obtain ⟨⟨u0, u1⟩, -⟩ := b1.duo
   have HB1' := Lib.hid b1
   have HB0' := Lib.hid b0
   have kA := keepA
   have kF := keepF
   have Hv0 := Lib.hid hV0
   have Hv1 := Lib.hid hV1
   obtain ⟨M, hM⟩ : ∃ M, M = L ++ valB (fv : Int).toNat (fw : Int).toNat := ⟨_, rfl⟩
   have HM := Lib.hid hM
   have Hho := Lib.hid ho
   have HL1' := Lib.hid hL1
   clear hLe hL hL1 hV0 hV1 hv hc hfe hM b0 b1 Hn ho
   go_wp2_with (go_at_call 91; refine (put_M A c' L fv fw M _ HM.out (Hho.out.alloc _).bs Hv0.out Hv1.out (by have := HL1'.out; omega)).mono ?_; rintro e w4 ⟨A4, c4, rfl, o4, b4⟩; clear kA kF u0 u1; have C1 := Lib.hid ((HB1'.out.alloc (.cells #[.int .u64 fv, .int .i64 fw] 209)).below b4 (by have := HB1'.out.lt; simp; omega)); have C0 := Lib.hid ((HB0'.out.alloc (.cells #[.int .u64 fv, .int .i64 fw] 209)).below b4 (by have := HB0'.out.lt; simp; omega)); obtain ⟨⟨y0, y1⟩, z0, z1⟩ := C1.out.duo)
   go_roundw
   case rel =>
    have HMc : catFd (fs.take (k + 1)) = M := by rw [HL1.out, HM.out, Int.toNat_natCast, Int.toNat_natCast]
    have tW4 : Below w.heap.size w w4 := (tW.trans ((below_alloc wr _).mono tW.size)).trans (b4.mono (by have := tW.size; simp; omega))
    have z4 : w.heap.size + 2 ≤ w4.heap.size := by have := b4.size; simp at this; omega
    refine ⟨k + 1, A4, _, c4, by go_num, hlt, (C0.out.far _ _ (by simp)).far _ _ (by simp), by rw [HMc]; exact C1.out.set2 _ _, Lib.hid (by rw [HMc]), ?_, (tW4.setCell (by simp) _).setCell (by simp) _, by simp [World.setCell]; exact z4⟩
    rw [HMc]
    have hne : w.heap.size + 1 < (wr.alloc (.cells #[.int .u64 fv, .int .i64 fw] 209)).heap.size := by simp; omega
    have o5 := o4.far (p := ⟨w.heap.size + 1, 0, none⟩) (o4.ne hne) (.slice A4 (pack M).length c4)
    exact (o5.far (p := ⟨w.heap.size + 1, 1, none⟩) (o5.ne hne) _).mono (by simp; omega)
   case measure => simp [intOf]; omega
  ·obtain rfl : k = fs.length := by omega
   have q1 : decide ((fs.length : Int) < fs.length) = false := by simp
   rw [List.take_length] at b1 Hn ho
   obtain ⟨⟨u0, u1⟩, -⟩ := b1.duo
   obtain ⟨-, z0, z1⟩ := b0.duo
   obtain ⟨⟨x0, x1⟩, -⟩ := b0.duo
   have HB1' := Lib.hid b1
   have HB0' := Lib.hid b0
   have HN := Lib.hid ho
   have hz : 1 ≤ 2 := by omega
   clear b0 b1 ho hz
   go_wp2_with fail
   exact bodyPost_ret (results_cell_row Tryz.results120 _ _ w.heap.size 33 #[.slice A n' c', .int .i64 ((catFd fs).length : Nat)] (0, 0) _ rfl (HB0'.out.set2 _ _) Tryz.underlying33 rfl (by kernel_rfl)) rfl ⟨A, n', c', rfl, Hn.out, (HN.out.far2 (by omega) _ _).mono (by omega), (tW.setCell (Nat.le_refl _) _).setCell (Nat.le_refl _) _⟩
end Go.Proofs.YtmcdollkmlcpbaaGreatDoor
namespace Go.Proofs.YtmcdollkmlcpbaaGreatDoor
open Go.RowKit
theorem rw_new {w : World} {g : Nat} {t : TypeId} {fs : List (Nat × Nat)} (h : Blk w g t (fs.flatMap encFd).toArray) : Rw w encFd 2 (some ⟨g, 0, none⟩) fs := fun i x hi => by
 refine ⟨g, 0, rfl, fun j v hj => ?_⟩
 have hj2 : j < 2 := by
  have := (List.getElem?_eq_some_iff.1 hj).1
  simpa [encFd] using this
 rw [Nat.zero_add, h.cell]
 have := flat_get encFd 2 (fun _ => rfl) fs i x hi j hj2
 simpa [this] using hj
structure EncB (w W : World) (g : Nat) (h : Bool) (p l b : Nat) : Prop where
 h0 : Blk W w.heap.size 86 #[.bool h, .int .u64 p, .int .u8 l, .int .u8 b]
 h1 : Blk W (w.heap.size + 1) 33 #[.slice none 0 0, .int .i64 0]
 h2 : Blk W (w.heap.size + 2) 86 #[.bool false, .int .u64 0, .int .u8 0, .int .u8 0]
 h3 : Blk W g 176 #[.int .i64 l, .int .i64 b]
 t : Below w.heap.size w W
 z : w.heap.size + 3 ≤ g
theorem EncB.go {w W W' : World} {g : Nat} {h : Bool} {p l b : Nat} (H : EncB w W g h p l b) (hb : Below W.heap.size W W') : EncB w W' g h p l b :=
 ⟨H.h0.below hb H.h0.lt, H.h1.below hb H.h1.lt, H.h2.below hb H.h2.lt, H.h3.below hb H.h3.lt, H.t.trans (hb.mono H.t.size), H.z⟩
theorem EncB.zz {w W : World} {g : Nat} {h : Bool} {p l b : Nat} (H : EncB w W g h p l b) : w.heap.size + 4 ≤ W.heap.size := by
 have := H.h3.lt
 have := H.z
 omega
theorem EncB.fin {w W : World} {g : Nat} {h : Bool} {p l b : Nat} (H : EncB w W g h p l b) (a c d e f u : Value) :
  Blk ((((((W.setCell ⟨w.heap.size + 1, 0, none⟩ a).setCell ⟨w.heap.size + 1, 1, none⟩ c).setCell ⟨w.heap.size + 2, 0, none⟩ d).setCell ⟨w.heap.size + 2, 1, none⟩ e).setCell ⟨w.heap.size + 2, 2, none⟩ f).setCell ⟨w.heap.size + 2, 3, none⟩ u) (w.heap.size + 1) 33 #[a, c] ∧
  Blk ((((((W.setCell ⟨w.heap.size + 1, 0, none⟩ a).setCell ⟨w.heap.size + 1, 1, none⟩ c).setCell ⟨w.heap.size + 2, 0, none⟩ d).setCell ⟨w.heap.size + 2, 1, none⟩ e).setCell ⟨w.heap.size + 2, 2, none⟩ f).setCell ⟨w.heap.size + 2, 3, none⟩ u) (w.heap.size + 2) 86 #[d, e, f, u] ∧
  Below w.heap.size w ((((((W.setCell ⟨w.heap.size + 1, 0, none⟩ a).setCell ⟨w.heap.size + 1, 1, none⟩ c).setCell ⟨w.heap.size + 2, 0, none⟩ d).setCell ⟨w.heap.size + 2, 1, none⟩ e).setCell ⟨w.heap.size + 2, 2, none⟩ f).setCell ⟨w.heap.size + 2, 3, none⟩ u) := by
 refine ⟨?_, ?_, ?_⟩
 ·exact ((((H.h1.set2 a c).far _ _ (by simp)).far _ _ (by simp)).far _ _ (by simp)).far _ _ (by simp)
 ·exact ((H.h2.far _ _ (by simp)).far _ _ (by simp)).set4 d e f u
 ·exact below_set4 ((H.t.setCell (p := ⟨w.heap.size + 1, 0, none⟩) (by simp) a).setCell (p := ⟨w.heap.size + 1, 1, none⟩) (by simp) c) (by omega) d e f u
theorem OwnB.encFin {w W : World} {base : Nat} {V : Value} {L : List UInt8} (H : OwnB W base V L) (hb : w.heap.size + 3 ≤ base) (a c d e f u : Value) :
  OwnB ((((((W.setCell ⟨w.heap.size + 1, 0, none⟩ a).setCell ⟨w.heap.size + 1, 1, none⟩ c).setCell ⟨w.heap.size + 2, 0, none⟩ d).setCell ⟨w.heap.size + 2, 1, none⟩ e).setCell ⟨w.heap.size + 2, 2, none⟩ f).setCell ⟨w.heap.size + 2, 3, none⟩ u) w.heap.size V L :=
 ((H.far2 (show w.heap.size + 1 < base by omega) a c).far4 (show w.heap.size + 2 < base by omega) d e f u).mono (by omega)
def EncOut (M : List Bool) (T : XV) (base : Nat) (e : Ending) (w : World) : Prop :=
 ∃ A n c, n = (pack M).length ∧ e = .returned (.tuple #[.agg #[.slice A n c, .int .i64 (M.length : Nat)], .agg #[.bool T.has, .int .u64 (T.prev : Nat), .int .u8 (T.lead : Nat), .int .u8 (T.width : Nat)]]) ∧ OwnB w base (.slice A n c) (pack M)
set_option maxRecDepth 100000 in
set_option maxHeartbeats 1000000 in
theorem encode_first (p l b v D : Nat) (w : World) (hv : v < 18446744073709551616) (hp : p < 18446744073709551616) (hlb : l + b ≤ 64) (hD : D = v ^^^ p) :
  Calls Tryz.prog 110 #[.agg #[.bool false, .int .u64 p, .int .u8 l, .int .u8 b], .int .u64 v] w fun e w' => EncOut (valB v 64) ⟨true, v, 0, 0⟩ w.heap.size e w' ∧ Below w.heap.size w w' := by
 have hmx : Tryz.prog.follows .mixedOrders = true := by kernel_rfl
 have hl : l < 256 := by omega
 have hb : b < 256 := by omega
 obtain ⟨W, hW⟩ : ∃ W, W = ((w.alloc (.cells #[.bool false, .int .u64 p, .int .u8 l, .int .u8 b] 86)).alloc (.cells #[.slice none 0 0, .int .i64 0] 33)).alloc (.cells #[.bool false, .int .u64 0, .int .u8 0, .int .u8 0] 86) := ⟨_, rfl⟩
 have s1 : (w.alloc (.cells #[.bool false, .int .u64 p, .int .u8 l, .int .u8 b] 86)).heap.size = w.heap.size + 1 := by simp
 have s2 : ((w.alloc (.cells #[.bool false, .int .u64 p, .int .u8 l, .int .u8 b] 86)).alloc (.cells #[.slice none 0 0, .int .i64 0] 33)).heap.size = w.heap.size + 2 := by simp
 have B0 : Blk W w.heap.size 86 #[.bool false, .int .u64 p, .int .u8 l, .int .u8 b] := by rw [hW]; exact ((Blk.new w _ _).alloc _).alloc _
 have B1 : Blk W (w.heap.size + 1) 33 #[.slice none 0 0, .int .i64 0] := by
  rw [hW]
  have := (Blk.new (w.alloc (.cells #[.bool false, .int .u64 p, .int .u8 l, .int .u8 b] 86)) 33 #[.slice none 0 0, .int .i64 0]).alloc (.cells #[.bool false, .int .u64 0, .int .u8 0, .int .u8 0] 86)
  rwa [s1] at this
 have B2 : Blk W (w.heap.size + 2) 86 #[.bool false, .int .u64 0, .int .u8 0, .int .u8 0] := by
  rw [hW]
  have := Blk.new ((w.alloc (.cells #[.bool false, .int .u64 p, .int .u8 l, .int .u8 b] 86)).alloc (.cells #[.slice none 0 0, .int .i64 0] 33)) 86 #[.bool false, .int .u64 0, .int .u8 0, .int .u8 0]
  rwa [s2] at this
 have tW : Below w.heap.size w W := by rw [hW]; exact ((below_alloc w _).alloc (by simp) _).alloc (by simp; omega) _
 have zW : W.heap.size = w.heap.size + 3 := by rw [hW]; simp
 clear s1 s2
 have HB0 := Lib.hid B0
 have HB1 := Lib.hid B1
 have HB2 := Lib.hid B2
 have HzW := Lib.hid zW
 have HtW := Lib.hid tW
 have q : ∀ x, (plus W x).cell? ⟨w.heap.size, 0, none⟩ = some (.bool false) ∧ (plus W x).cell? ⟨w.heap.size, 1, none⟩ = some (.int .u64 p) ∧ (plus W x).cell? ⟨w.heap.size, 2, none⟩ = some (.int .u8 l) ∧ (plus W x).cell? ⟨w.heap.size, 3, none⟩ = some (.int .u8 b) := fun x =>
  ((HB0.out.below (plus_below W x) HB0.out.lt : Blk (plus W x) w.heap.size 86 #[.bool false, .int .u64 p, .int .u8 l, .int .u8 b])).quad.1
 have hx : bits .xor .u64 (v : Int) (p : Int) = (D : Int) := by rw [xor_int v p hv hp, hD]
 have HW := Lib.hid hW
 have HD := Lib.hid hD
 clear B0 B1 B2 zW tW hW hD
 go_enter Tryz.func110, Tryz.ntmps110
 go_wp2_with fail
 rw [← HW.out]
 refine wp_region_fresh_tail 7 [] [5, 6] (fun k V z => if k = 5 then V = .agg #[.int .i64 l, .int .i64 b] else ∃ g, V = .pointer (some ⟨g, 0, none⟩) ∧ Blk z g 176 #[.int .i64 0, .int .i64 0] ∧ W.heap.size ≤ g) hmx (by kernel_rfl) (by kernel_rfl) ?_
 simp only [List.take_succ_cons, List.take_zero, List.drop_succ_cons, List.drop_zero]
 iterate 5 (refine walkF_one none W rfl (by kernel_rfl) ?_; go_big_quiet_step (fail); refine wpQuiet_nil ?_)
 refine walkF_make none W rfl rfl rfl (by kernel_rfl) (fun x => ?_) ?_
 ·refine grow_call ?_ ((bandOf_any false p l b (plus W x) hl hb).mono ?_)
  ·simp [execOp, go_sem]
  ·rintro e w4 ⟨rfl, b4⟩
   exact ⟨_, rfl, b4, rfl⟩
 rintro V1 z1 rfl g1
 conv => arg 11; simp [Act.put]
 refine walkF_make none W rfl rfl rfl (by kernel_rfl) (fun x => ?_) ?_
 ·have hr : ∀ w' : World, (execOp (Act.eval { tmps := #[], defers := [] }) { dst := none, op := .alloc 176, type := 0, pos := "", after := #[], guard := none }).run Tryz.prog w' = .ok (.value (.pointer (some ⟨w'.heap.size, 0, none⟩))) (w'.alloc (.cells #[.int .i64 0, .int .i64 0] 176)) := fun w' => by simp [execOp, go_sem]
  have hr2 := hr (plus W x)
  unfold growUpon
  simp only [execOp] at hr2 ⊢
  rw [hr2]
  exact ⟨below_alloc _ _, _, rfl, Blk.new _ _ _, (plus_below W x).size⟩
 rintro V2 z2 ⟨g, rfl, hg, hgz⟩ g2
 conv => arg 11; simp [Act.put]
 refine walkF_end ?_
 intro w' h0 hE
 have hg' : Blk w' g 176 #[.int .i64 0, .int .i64 0] := hg.below (hE 6) hg.lt
 have HG := Lib.hid hg'
 have hgz3 : w.heap.size + 3 ≤ g := by have := HzW.out; omega
 have EB := Lib.hid (⟨(HB0.out.below h0 HB0.out.lt).far _ _ (by simp; omega) |>.far _ _ (by simp; omega), (HB1.out.below h0 HB1.out.lt).far _ _ (by simp; omega) |>.far _ _ (by simp; omega), (HB2.out.below h0 HB2.out.lt).far _ _ (by simp; omega) |>.far _ _ (by simp; omega), hg'.set2 _ _, ((HtW.out.trans (Below.mono h0 (by have := HtW.out.size; omega))).setCell (by simp; omega) _).setCell (by simp; omega) _, hgz3⟩ : EncB w ((w'.setCell ⟨g, 0, none⟩ (.int .i64 l)).setCell ⟨g, 1, none⟩ (.int .i64 b)) g false p l b)
 obtain ⟨⟨-, -⟩, y0, y1⟩ := HG.out.duo
 obtain ⟨⟨x0, x1⟩, -⟩ := HG.out.duo
 have EQ := EB.out.h0.quad.1
 clear hE q hg hg' hgz h0
 go_wp2_with fail
 obtain ⟨W2, hW2⟩ : ∃ W2, W2 = (w'.setCell ⟨g, 0, none⟩ (.int .i64 l)).setCell ⟨g, 1, none⟩ (.int .i64 b) := ⟨_, rfl⟩
 have hsz : w'.heap.size = W2.heap.size := by rw [hW2]; simp [World.setCell]
 rw [← hW2] at EB
 rw [hsz, ← hW2]
 clear hsz hW2 HG y0 y1 x0 x1 EQ
 have hR : Rw (W2.alloc (.cells #[.int .u64 v, .int .i64 64] 209)) encFd 2 (some ⟨W2.heap.size, 0, none⟩) [(v, 64)] := rw_new (Blk.new W2 _ _)
 refine (numbers_any (some ⟨W2.heap.size, 0, none⟩) 1 [(v, 64)] _ hR (by simpa using hv) (by simp)).mono ?_
 rintro e w3 ⟨A3, n3, c3, rfl, hn3, o3, b3⟩
 rw [show catFd [(v, 64)] = valB v 64 by simp [catFd]] at hn3 o3 ⊢
 have Hn3 := Lib.hid hn3
 have b23 : Below W2.heap.size W2 w3 := go1 b3
 have EB3 := Lib.hid (EB.out.go b23)
 have EQ := EB3.out.h0.quad.1
 have o3 := o3.mono (show W2.heap.size ≤ _ by simp)
 clear hn3 hR
 go_wp2_with (go_at_call 98; refine (after_any 0 0 v _ (by omega) (by omega)).mono ?_; rintro e w4 ⟨rfl, b4⟩; have EB4 := Lib.hid (EB3.out.go b4); have o4 := o3.below b4; obtain ⟨⟨y0, y1⟩, x0, x1⟩ := EB4.out.h1.duo; obtain ⟨⟨m0, m1, m2, m3⟩, k0, k1, k2, k3⟩ := EB4.out.h2.quad)
 obtain ⟨f1, f2, f3⟩ := EB4.out.fin (.slice A3 n3 c3) (.int .i64 ((valB v 64).length : Nat)) (.bool true) (.int .u64 v) (.int .u8 0) (.int .u8 0)
 obtain ⟨⟨r0, r1⟩, -⟩ := f1.duo
 obtain ⟨⟨s0, s1, s2, s3⟩, -⟩ := f2.quad
 refine bodyPost_ret (v := .tuple #[.agg #[.slice A3 n3 c3, .int .i64 ((valB v 64).length : Nat)], .agg #[.bool true, .int .u64 v, .int .u8 0, .int .u8 0]]) (by simp [results, Tryz.results110, go_sem, r0, r1, s0, s1, s2, s3]) rfl ⟨⟨A3, n3, c3, Hn3.out, rfl, ?_⟩, f3⟩
 exact o4.encFin (by have := EB.out.zz; omega) _ _ _ _ _ _
end Go.Proofs.YtmcdollkmlcpbaaGreatDoor
namespace Go.Proofs.YtmcdollkmlcpbaaGreatDoor
open Go.RowKit
set_option maxRecDepth 100000 in
set_option maxHeartbeats 1000000 in
theorem encode_old (p l b v D : Nat) (w : World) (hv : v < 18446744073709551616) (hp : p < 18446744073709551616) (hlb : l + b ≤ 64) (hD : D = v ^^^ p) (h0 : v ^^^ p ≠ 0) (hh : holdsX l b (v ^^^ p) = true) :
  Calls Tryz.prog 110 #[.agg #[.bool true, .int .u64 p, .int .u8 l, .int .u8 b], .int .u64 v] w fun e w' => EncOut (true :: false :: valB ((v ^^^ p) / 2 ^ (64 - l - b)) b) ⟨true, v, l, b⟩ w.heap.size e w' ∧ Below w.heap.size w w' := by
 have hmx : Tryz.prog.follows .mixedOrders = true := by kernel_rfl
 have hl : l < 256 := by omega
 have hb : b < 256 := by omega
 obtain ⟨W, hW⟩ : ∃ W, W = ((w.alloc (.cells #[.bool true, .int .u64 p, .int .u8 l, .int .u8 b] 86)).alloc (.cells #[.slice none 0 0, .int .i64 0] 33)).alloc (.cells #[.bool false, .int .u64 0, .int .u8 0, .int .u8 0] 86) := ⟨_, rfl⟩
 have s1 : (w.alloc (.cells #[.bool true, .int .u64 p, .int .u8 l, .int .u8 b] 86)).heap.size = w.heap.size + 1 := by simp
 have s2 : ((w.alloc (.cells #[.bool true, .int .u64 p, .int .u8 l, .int .u8 b] 86)).alloc (.cells #[.slice none 0 0, .int .i64 0] 33)).heap.size = w.heap.size + 2 := by simp
 have B0 : Blk W w.heap.size 86 #[.bool true, .int .u64 p, .int .u8 l, .int .u8 b] := by rw [hW]; exact ((Blk.new w _ _).alloc _).alloc _
 have B1 : Blk W (w.heap.size + 1) 33 #[.slice none 0 0, .int .i64 0] := by
  rw [hW]
  have := (Blk.new (w.alloc (.cells #[.bool true, .int .u64 p, .int .u8 l, .int .u8 b] 86)) 33 #[.slice none 0 0, .int .i64 0]).alloc (.cells #[.bool false, .int .u64 0, .int .u8 0, .int .u8 0] 86)
  rwa [s1] at this
 have B2 : Blk W (w.heap.size + 2) 86 #[.bool false, .int .u64 0, .int .u8 0, .int .u8 0] := by
  rw [hW]
  have := Blk.new ((w.alloc (.cells #[.bool true, .int .u64 p, .int .u8 l, .int .u8 b] 86)).alloc (.cells #[.slice none 0 0, .int .i64 0] 33)) 86 #[.bool false, .int .u64 0, .int .u8 0, .int .u8 0]
  rwa [s2] at this
 have tW : Below w.heap.size w W := by rw [hW]; exact ((below_alloc w _).alloc (by simp) _).alloc (by simp; omega) _
 have zW : W.heap.size = w.heap.size + 3 := by rw [hW]; simp
 clear s1 s2
 have HB0 := Lib.hid B0
 have HB1 := Lib.hid B1
 have HB2 := Lib.hid B2
 have HzW := Lib.hid zW
 have HtW := Lib.hid tW
 have q : ∀ x, (plus W x).cell? ⟨w.heap.size, 0, none⟩ = some (.bool true) ∧ (plus W x).cell? ⟨w.heap.size, 1, none⟩ = some (.int .u64 p) ∧ (plus W x).cell? ⟨w.heap.size, 2, none⟩ = some (.int .u8 l) ∧ (plus W x).cell? ⟨w.heap.size, 3, none⟩ = some (.int .u8 b) := fun x =>
  ((HB0.out.below (plus_below W x) HB0.out.lt : Blk (plus W x) w.heap.size 86 #[.bool true, .int .u64 p, .int .u8 l, .int .u8 b])).quad.1
 have hx : bits .xor .u64 (v : Int) (p : Int) = (D : Int) := by rw [xor_int v p hv hp, hD]
 have HW := Lib.hid hW
 have HD := Lib.hid hD
 clear B0 B1 B2 zW tW hW hD
 have hd0 : ((D : Int) == 0) = false := by rw [HD.out]; exact beq_eq_false_iff_ne.2 (by omega)
 go_enter Tryz.func110, Tryz.ntmps110
 go_wp2_with fail
 rw [← HW.out]
 refine wp_region_fresh_tail 7 [] [5, 6] (fun k V z => if k = 5 then V = .agg #[.int .i64 l, .int .i64 b] else ∃ g, V = .pointer (some ⟨g, 0, none⟩) ∧ Blk z g 176 #[.int .i64 0, .int .i64 0] ∧ W.heap.size ≤ g) hmx (by kernel_rfl) (by kernel_rfl) ?_
 simp only [List.take_succ_cons, List.take_zero, List.drop_succ_cons, List.drop_zero]
 iterate 5 (refine walkF_one none W rfl (by kernel_rfl) ?_; go_big_quiet_step (fail); refine wpQuiet_nil ?_)
 refine walkF_make none W rfl rfl rfl (by kernel_rfl) (fun x => ?_) ?_
 ·refine grow_call ?_ ((bandOf_any true p l b (plus W x) hl hb).mono ?_)
  ·simp [execOp, go_sem]
  ·rintro e w4 ⟨rfl, b4⟩
   exact ⟨_, rfl, b4, rfl⟩
 rintro V1 z1 rfl g1
 conv => arg 11; simp [Act.put]
 refine walkF_make none W rfl rfl rfl (by kernel_rfl) (fun x => ?_) ?_
 ·have hr : ∀ w' : World, (execOp (Act.eval { tmps := #[], defers := [] }) { dst := none, op := .alloc 176, type := 0, pos := "", after := #[], guard := none }).run Tryz.prog w' = .ok (.value (.pointer (some ⟨w'.heap.size, 0, none⟩))) (w'.alloc (.cells #[.int .i64 0, .int .i64 0] 176)) := fun w' => by simp [execOp, go_sem]
  have hr2 := hr (plus W x)
  unfold growUpon
  simp only [execOp] at hr2 ⊢
  rw [hr2]
  exact ⟨below_alloc _ _, _, rfl, Blk.new _ _ _, (plus_below W x).size⟩
 rintro V2 z2 ⟨g, rfl, hg, hgz⟩ g2
 conv => arg 11; simp [Act.put]
 refine walkF_end ?_
 intro w' h0 hE
 have hg' : Blk w' g 176 #[.int .i64 0, .int .i64 0] := hg.below (hE 6) hg.lt
 have HG := Lib.hid hg'
 have hgz3 : w.heap.size + 3 ≤ g := by have := HzW.out; omega
 have EB := Lib.hid (⟨(HB0.out.below h0 HB0.out.lt).far _ _ (by simp; omega) |>.far _ _ (by simp; omega), (HB1.out.below h0 HB1.out.lt).far _ _ (by simp; omega) |>.far _ _ (by simp; omega), (HB2.out.below h0 HB2.out.lt).far _ _ (by simp; omega) |>.far _ _ (by simp; omega), hg'.set2 _ _, ((HtW.out.trans (Below.mono h0 (by have := HtW.out.size; omega))).setCell (by simp; omega) _).setCell (by simp; omega) _, hgz3⟩ : EncB w ((w'.setCell ⟨g, 0, none⟩ (.int .i64 l)).setCell ⟨g, 1, none⟩ (.int .i64 b)) g true p l b)
 obtain ⟨⟨-, -⟩, y0, y1⟩ := HG.out.duo
 obtain ⟨⟨x0, x1⟩, -⟩ := HG.out.duo
 have EQ := EB.out.h0.quad.1
 clear hE q hg hg' hgz h0
 go_wp2_with fail
 obtain ⟨W2, hW2⟩ : ∃ W2, W2 = (w'.setCell ⟨g, 0, none⟩ (.int .i64 l)).setCell ⟨g, 1, none⟩ (.int .i64 b) := ⟨_, rfl⟩
 have hsz : w'.heap.size = W2.heap.size := by rw [hW2]; simp [World.setCell]
 rw [← hW2] at EB
 rw [← hW2]
 clear hsz hW2 HG y0 y1 x0 x1 EQ hd0
 obtain ⟨s0, hs0⟩ : ∃ s0 : Nat, s0 = 64 - l - b := ⟨_, rfl⟩
 have hs0' : (64 : Int) - l - b = s0 := by omega
 obtain ⟨nn, hnn⟩ : ∃ nn : Nat, nn = D / 2 ^ s0 := ⟨_, rfl⟩
 have f3 : (D : Int) / 2 ^ s0 = (nn : Int) := by rw [nat_shr, hnn]
 have hDl : D < 18446744073709551616 := by rw [HD.out]; exact xor_lt64 hv hp
 have hnl : nn < 18446744073709551616 := by rw [hnn]; exact Nat.lt_of_le_of_lt (Nat.div_le_self _ _) hDl
 have j4 : min s0 64 = s0 := by omega
 have Hs0 := Lib.hid hs0
 have Hs0' := Lib.hid hs0'
 have Hnn := Lib.hid hnn
 clear hs0 hs0' hnn
 have hHo := holds_any l b D W2 hlb hDl
 rw [HD.out, hh, ← HD.out] at hHo
 have b2 := EB.out.h3.duo.1
 go_wp2_with fail
 refine hHo.mono ?_
 rintro e w3 ⟨rfl, b3⟩
 have EB3 := Lib.hid (EB.out.go b3)
 clear hHo b2
 obtain ⟨b20, b21⟩ := EB3.out.h3.duo.1
 go_wp2_with fail
 have qq : ∀ x, (plus w3 x).cell? ⟨g, 0, none⟩ = some (.int .i64 l) ∧ (plus w3 x).cell? ⟨g, 1, none⟩ = some (.int .i64 b) := fun x => (EB3.out.h3.below (plus_below w3 x) EB3.out.h3.lt : Blk (plus w3 x) g 176 #[.int .i64 l, .int .i64 b]).duo.1
 clear b20 b21
 refine wp_region_fresh_tail 12 (List.replicate 9 none ++ [some 8]) [3, 8, 9, 12] (fun k V z => if k = 3 then V = .int .i64 s0 else if k = 8 then ∃ g, V = .slice (some ⟨g, 0, none⟩) 2 2 ∧ Rw z encFd 2 (some ⟨g, 0, none⟩) [(2, 2), (nn, b)] else ∃ A n c, V = .agg #[.slice A n c, .int .i64 ((catFd [(2, 2), (nn, b)]).length : Nat)] ∧ n = (pack (catFd [(2, 2), (nn, b)])).length ∧ OwnB z w3.heap.size (.slice A n c) (pack (catFd [(2, 2), (nn, b)]))) hmx (by kernel_rfl) (by kernel_rfl) ?_
 simp only [List.take_succ_cons, List.take_zero, List.drop_succ_cons, List.drop_zero]
 iterate 3 (refine walkF_one none w3 rfl (by kernel_rfl) ?_; go_big_quiet_step (fail); refine wpQuiet_nil ?_)
 refine walkF_make none w3 rfl rfl rfl (by kernel_rfl) (fun x => ?_) ?_
 ·refine grow_call ?_ ((behind_any l b (plus w3 x) (by omega) (by omega)).mono ?_)
  ·simp [execOp, go_sem]
  ·rintro e w4 ⟨rfl, b4⟩
   exact ⟨_, rfl, b4, by rw [if_pos (by rfl), Hs0'.out]⟩
 intro V1 z1 hV1 g1
 obtain rfl : V1 = .int .i64 s0 := hV1
 conv => arg 11; simp [Act.put]
 iterate 4 (refine walkF_one none w3 rfl (by kernel_rfl) ?_; go_big_quiet_step (fail); refine wpQuiet_nil ?_)
 refine walkF_make none w3 rfl rfl rfl (by kernel_rfl) (fun x => ?_) ?_
 ·refine grow_val (v := .slice (some ⟨(plus w3 x).heap.size, 0, none⟩) 2 2) (w' := (plus w3 x).alloc (.cells #[.int .u64 2, .int .i64 2, .int .u64 nn, .int .i64 b] 209)) ?_ (below_alloc _ _) ?_
  ·simp [execOp, go_sem]
  ·exact ⟨_, rfl, rw_new (Blk.new _ _ _)⟩
 intro V8 z8 hV8 g8
 obtain ⟨gs, rfl, hR8⟩ : ∃ g, V8 = .slice (some ⟨g, 0, none⟩) 2 2 ∧ Rw z8 encFd 2 (some ⟨g, 0, none⟩) [(2, 2), (nn, b)] := hV8
 conv => arg 11; simp [Act.put]
 refine walkF_make (some 8) z8 rfl rfl rfl (by kernel_rfl) (fun x => ?_) ?_
 ·refine grow_call ?_ ((numbers_any (some ⟨gs, 0, none⟩) 2 [(2, 2), (nn, b)] (plus z8 x) (hR8.below (plus_below z8 x) (Nat.le_refl _)) (by simp; omega) (by simp)).mono ?_)
  ·simp [execOp, go_sem]
  ·rintro e w4 ⟨A4, n4, c4, rfl, hn4, o4, b4⟩
   exact ⟨_, rfl, b4, _, _, _, rfl, hn4, o4.mono (Nat.le_trans (Below.size g8) (plus_below z8 x).size)⟩
 intro V9 z9 hV9 g9
 obtain ⟨A3, n3, c3, rfl, hn3, o3⟩ : ∃ A n c, V9 = .agg #[.slice A n c, .int .i64 ((catFd [(2, 2), (nn, b)]).length : Nat)] ∧ n = (pack (catFd [(2, 2), (nn, b)])).length ∧ OwnB z9 w3.heap.size (.slice A n c) (pack (catFd [(2, 2), (nn, b)])) := hV9
 conv => arg 11; simp [Act.put]
 have HM : Hid (catFd [(2, 2), (nn, b)] = true :: false :: valB nn b) := Lib.hid (by
  show valB 2 2 ++ (valB nn b ++ []) = _
  rw [List.append_nil, show valB 2 2 = [true, false] from by decide]
  rfl)
 rw [HM.out] at hn3 o3 ⊢
 generalize hMM : true :: false :: valB nn b = MM at hn3 o3 ⊢
 have Hn3 := Lib.hid hn3
 have HMM := Lib.hid hMM
 clear hn3 hMM
 iterate 2 (refine walkF_one none w3 rfl (by kernel_rfl) ?_; go_big_quiet_step (fail); refine wpQuiet_nil ?_)
 refine walkF_end ?_
 intro w5 h5 hE
 have h95 : Gr z9 w5 := hE 9
 have EB5 := Lib.hid (EB3.out.go h5)
 have o5 := o3.below h95
 clear hE qq h95 o3 hR8
 go_wp2_with (go_at_call 98; refine (after_any l b v _ hl hb).mono ?_; rintro e w6 ⟨rfl, b6⟩; have EB4 := Lib.hid (EB5.out.go b6); have o4 := o5.below b6; obtain ⟨⟨y0, y1⟩, x0, x1⟩ := EB4.out.h1.duo; obtain ⟨⟨m0, m1, m2, m3⟩, k0, k1, k2, k3⟩ := EB4.out.h2.quad)
 have hfin : true :: false :: valB ((v ^^^ p) / 2 ^ (64 - l - b)) b = MM := by rw [← HMM.out, Hnn.out, Hs0.out, HD.out]
 rw [hfin]
 obtain ⟨f1, f2, f3⟩ := EB4.out.fin (.slice A3 n3 c3) (.int .i64 (MM.length : Nat)) (.bool true) (.int .u64 v) (.int .u8 l) (.int .u8 b)
 obtain ⟨⟨r0, r1⟩, -⟩ := f1.duo
 obtain ⟨⟨s0, s1, s2, s3⟩, -⟩ := f2.quad
 refine bodyPost_ret (v := .tuple #[.agg #[.slice A3 n3 c3, .int .i64 (MM.length : Nat)], .agg #[.bool true, .int .u64 v, .int .u8 l, .int .u8 b]]) (by simp [results, Tryz.results110, go_sem, r0, r1, s0, s1, s2, s3]) rfl ⟨⟨A3, n3, c3, Hn3.out, rfl, ?_⟩, f3⟩
 exact o4.encFin (by have := EB3.out.zz; omega) _ _ _ _ _ _
end Go.Proofs.YtmcdollkmlcpbaaGreatDoor
namespace Go.Proofs.YtmcdollkmlcpbaaGreatDoor
open Go.RowKit
set_option maxRecDepth 100000 in
set_option maxHeartbeats 1000000 in
theorem encode_new (p l b v D : Nat) (w : World) (hv : v < 18446744073709551616) (hp : p < 18446744073709551616) (hlb : l + b ≤ 64) (hD : D = v ^^^ p) (hT : Tab w) (h0 : v ^^^ p ≠ 0) (hh : holdsX l b (v ^^^ p) = false) :
  Calls Tryz.prog 110 #[.agg #[.bool true, .int .u64 p, .int .u8 l, .int .u8 b], .int .u64 v] w fun e w' => EncOut (true :: true :: (valB (leadX (v ^^^ p)) 5 ++ valB (widX (v ^^^ p) - 1) 6 ++ valB ((v ^^^ p) / 2 ^ (64 - leadX (v ^^^ p) - widX (v ^^^ p))) (widX (v ^^^ p)))) ⟨true, v, leadX (v ^^^ p), widX (v ^^^ p)⟩ w.heap.size e w' ∧ Below w.heap.size w w' := by
 have hmx : Tryz.prog.follows .mixedOrders = true := by kernel_rfl
 have hl : l < 256 := by omega
 have hb : b < 256 := by omega
 obtain ⟨W, hW⟩ : ∃ W, W = ((w.alloc (.cells #[.bool true, .int .u64 p, .int .u8 l, .int .u8 b] 86)).alloc (.cells #[.slice none 0 0, .int .i64 0] 33)).alloc (.cells #[.bool false, .int .u64 0, .int .u8 0, .int .u8 0] 86) := ⟨_, rfl⟩
 have s1 : (w.alloc (.cells #[.bool true, .int .u64 p, .int .u8 l, .int .u8 b] 86)).heap.size = w.heap.size + 1 := by simp
 have s2 : ((w.alloc (.cells #[.bool true, .int .u64 p, .int .u8 l, .int .u8 b] 86)).alloc (.cells #[.slice none 0 0, .int .i64 0] 33)).heap.size = w.heap.size + 2 := by simp
 have B0 : Blk W w.heap.size 86 #[.bool true, .int .u64 p, .int .u8 l, .int .u8 b] := by rw [hW]; exact ((Blk.new w _ _).alloc _).alloc _
 have B1 : Blk W (w.heap.size + 1) 33 #[.slice none 0 0, .int .i64 0] := by
  rw [hW]
  have := (Blk.new (w.alloc (.cells #[.bool true, .int .u64 p, .int .u8 l, .int .u8 b] 86)) 33 #[.slice none 0 0, .int .i64 0]).alloc (.cells #[.bool false, .int .u64 0, .int .u8 0, .int .u8 0] 86)
  rwa [s1] at this
 have B2 : Blk W (w.heap.size + 2) 86 #[.bool false, .int .u64 0, .int .u8 0, .int .u8 0] := by
  rw [hW]
  have := Blk.new ((w.alloc (.cells #[.bool true, .int .u64 p, .int .u8 l, .int .u8 b] 86)).alloc (.cells #[.slice none 0 0, .int .i64 0] 33)) 86 #[.bool false, .int .u64 0, .int .u8 0, .int .u8 0]
  rwa [s2] at this
 have tW : Below w.heap.size w W := by rw [hW]; exact ((below_alloc w _).alloc (by simp) _).alloc (by simp; omega) _
 have zW : W.heap.size = w.heap.size + 3 := by rw [hW]; simp
 clear s1 s2
 have HB0 := Lib.hid B0
 have HB1 := Lib.hid B1
 have HB2 := Lib.hid B2
 have HzW := Lib.hid zW
 have HtW := Lib.hid tW
 have q : ∀ x, (plus W x).cell? ⟨w.heap.size, 0, none⟩ = some (.bool true) ∧ (plus W x).cell? ⟨w.heap.size, 1, none⟩ = some (.int .u64 p) ∧ (plus W x).cell? ⟨w.heap.size, 2, none⟩ = some (.int .u8 l) ∧ (plus W x).cell? ⟨w.heap.size, 3, none⟩ = some (.int .u8 b) := fun x =>
  ((HB0.out.below (plus_below W x) HB0.out.lt : Blk (plus W x) w.heap.size 86 #[.bool true, .int .u64 p, .int .u8 l, .int .u8 b])).quad.1
 have hx : bits .xor .u64 (v : Int) (p : Int) = (D : Int) := by rw [xor_int v p hv hp, hD]
 have HW := Lib.hid hW
 have HD := Lib.hid hD
 clear B0 B1 B2 zW tW hW hD
 have hd0 : ((D : Int) == 0) = false := by rw [HD.out]; exact beq_eq_false_iff_ne.2 (by omega)
 go_enter Tryz.func110, Tryz.ntmps110
 go_wp2_with fail
 rw [← HW.out]
 refine wp_region_fresh_tail 7 [] [5, 6] (fun k V z => if k = 5 then V = .agg #[.int .i64 l, .int .i64 b] else ∃ g, V = .pointer (some ⟨g, 0, none⟩) ∧ Blk z g 176 #[.int .i64 0, .int .i64 0] ∧ W.heap.size ≤ g) hmx (by kernel_rfl) (by kernel_rfl) ?_
 simp only [List.take_succ_cons, List.take_zero, List.drop_succ_cons, List.drop_zero]
 iterate 5 (refine walkF_one none W rfl (by kernel_rfl) ?_; go_big_quiet_step (fail); refine wpQuiet_nil ?_)
 refine walkF_make none W rfl rfl rfl (by kernel_rfl) (fun x => ?_) ?_
 ·refine grow_call ?_ ((bandOf_any true p l b (plus W x) hl hb).mono ?_)
  ·simp [execOp, go_sem]
  ·rintro e w4 ⟨rfl, b4⟩
   exact ⟨_, rfl, b4, rfl⟩
 rintro V1 z1 rfl g1
 conv => arg 11; simp [Act.put]
 refine walkF_make none W rfl rfl rfl (by kernel_rfl) (fun x => ?_) ?_
 ·have hr : ∀ w' : World, (execOp (Act.eval { tmps := #[], defers := [] }) { dst := none, op := .alloc 176, type := 0, pos := "", after := #[], guard := none }).run Tryz.prog w' = .ok (.value (.pointer (some ⟨w'.heap.size, 0, none⟩))) (w'.alloc (.cells #[.int .i64 0, .int .i64 0] 176)) := fun w' => by simp [execOp, go_sem]
  have hr2 := hr (plus W x)
  unfold growUpon
  simp only [execOp] at hr2 ⊢
  rw [hr2]
  exact ⟨below_alloc _ _, _, rfl, Blk.new _ _ _, (plus_below W x).size⟩
 rintro V2 z2 ⟨g, rfl, hg, hgz⟩ g2
 conv => arg 11; simp [Act.put]
 refine walkF_end ?_
 intro w' h0 hE
 have hg' : Blk w' g 176 #[.int .i64 0, .int .i64 0] := hg.below (hE 6) hg.lt
 have HG := Lib.hid hg'
 have hgz3 : w.heap.size + 3 ≤ g := by have := HzW.out; omega
 have EB := Lib.hid (⟨(HB0.out.below h0 HB0.out.lt).far _ _ (by simp; omega) |>.far _ _ (by simp; omega), (HB1.out.below h0 HB1.out.lt).far _ _ (by simp; omega) |>.far _ _ (by simp; omega), (HB2.out.below h0 HB2.out.lt).far _ _ (by simp; omega) |>.far _ _ (by simp; omega), hg'.set2 _ _, ((HtW.out.trans (Below.mono h0 (by have := HtW.out.size; omega))).setCell (by simp; omega) _).setCell (by simp; omega) _, hgz3⟩ : EncB w ((w'.setCell ⟨g, 0, none⟩ (.int .i64 l)).setCell ⟨g, 1, none⟩ (.int .i64 b)) g true p l b)
 obtain ⟨⟨-, -⟩, y0, y1⟩ := HG.out.duo
 obtain ⟨⟨x0, x1⟩, -⟩ := HG.out.duo
 have EQ := EB.out.h0.quad.1
 clear hE q hg hg' hgz h0
 go_wp2_with fail
 obtain ⟨W2, hW2⟩ : ∃ W2, W2 = (w'.setCell ⟨g, 0, none⟩ (.int .i64 l)).setCell ⟨g, 1, none⟩ (.int .i64 b) := ⟨_, rfl⟩
 have hsz : w'.heap.size = W2.heap.size := by rw [hW2]; simp [World.setCell]
 rw [← hW2] at EB
 rw [← hW2]
 clear hsz hW2 HG y0 y1 x0 x1 EQ hd0
 have hDl : D < 18446744073709551616 := by rw [HD.out]; exact xor_lt64 hv hp
 have hDn : D ≠ 0 := by rw [HD.out]; exact h0
 obtain ⟨N1, N2, N3, N4, -⟩ := narrow_facts D hDn hDl
 obtain ⟨L, hL⟩ : ∃ L, L = leadX D := ⟨_, rfl⟩
 obtain ⟨X, hX⟩ : ∃ X, X = widX D := ⟨_, rfl⟩
 rw [← hL] at N1 N3
 rw [← hX] at N2 N3
 obtain ⟨s0, hs0⟩ : ∃ s0 : Nat, s0 = 64 - L - X := ⟨_, rfl⟩
 obtain ⟨X1, hX1⟩ : ∃ X1 : Nat, X1 = X - 1 := ⟨_, rfl⟩
 have hs0' : (64 : Int) - L - X = s0 := by omega
 obtain ⟨nn, hnn⟩ : ∃ nn : Nat, nn = D / 2 ^ s0 := ⟨_, rfl⟩
 have f3 : (D : Int) / 2 ^ s0 = (nn : Int) := by rw [nat_shr, hnn]
 have hnl : nn < 18446744073709551616 := by rw [hnn]; exact Nat.lt_of_le_of_lt (Nat.div_le_self _ _) hDl
 have j4 : min s0 64 = s0 := by omega
 have j1 : IntKind.u64.wrap (L : Int) = (L : Int) := by rw [IntKind.wrap_u64]; omega
 have j2 : IntKind.i64.wrap ((X : Int) - 1) = (X1 : Int) := by rw [IntKind.wrap_i64]; omega
 have j3 : IntKind.u64.wrap (X1 : Int) = (X1 : Int) := by rw [IntKind.wrap_u64]; omega
 have hfs : ∀ f ∈ ([(3, 2), (L, 5), (X1, 6), (nn, X)] : List (Nat × Nat)), f.1 < 18446744073709551616 ∧ f.2 ≤ 64 := by
  intro f hf
  simp at hf
  rcases hf with rfl | rfl | rfl | rfl <;> exact ⟨by omega, by omega⟩
 have HX1 := Lib.hid hX1
 have HL := Lib.hid hL
 have HX := Lib.hid hX
 have Hs0 := Lib.hid hs0
 have Hs0' := Lib.hid hs0'
 have Hnn := Lib.hid hnn
 have Hfs := Lib.hid hfs
 clear hs0 hs0' hnn hL hX N4 hX1 hfs
 have hHo := holds_any l b D W2 hlb hDl
 rw [HD.out, hh, ← HD.out] at hHo
 have b2 := EB.out.h3.duo.1
 go_wp2_with fail
 refine hHo.mono ?_
 rintro e w3 ⟨rfl, b3⟩
 have EB3 := Lib.hid (EB.out.go b3)
 clear hHo b2
 have hN := narrow_any D w3 hDn hDl (tabGo hT EB3.out.t)
 rw [← HL.out, ← HX.out] at hN
 have HN := Lib.hid hN
 clear hN hT
 go_wp2_with fail
 refine HN.out.mono ?_
 rintro e w4 ⟨rfl, b4⟩
 have EB4 := Lib.hid ((EB3.out.go b4).go (below_alloc w4 (.cells #[.int .i64 L, .int .i64 X] 176)))
 have hB8 : Blk (w4.alloc (.cells #[.int .i64 L, .int .i64 X] 176)) w4.heap.size 176 #[.int .i64 L, .int .i64 X] := Blk.new w4 _ _
 have HB8 := Lib.hid hB8
 clear hB8
 go_wp2_with fail
 obtain ⟨W5, hW5⟩ : ∃ W5, W5 = w4.alloc (.cells #[.int .i64 L, .int .i64 X] 176) := ⟨_, rfl⟩
 rw [← hW5] at EB4 HB8 ⊢
 have HW5 := Lib.hid hW5
 clear hW5
 have qq : ∀ x, (plus W5 x).cell? ⟨w4.heap.size, 0, none⟩ = some (.int .i64 L) ∧ (plus W5 x).cell? ⟨w4.heap.size, 1, none⟩ = some (.int .i64 X) := fun x => (HB8.out.below (plus_below W5 x) HB8.out.lt : Blk (plus W5 x) w4.heap.size 176 #[.int .i64 L, .int .i64 X]).duo.1
 refine wp_region_fresh_tail 21 (List.replicate 18 none ++ [some 17]) [12, 17, 18, 21] (fun k V z => if k = 12 then V = .int .i64 s0 else if k = 17 then ∃ g, V = .slice (some ⟨g, 0, none⟩) 4 4 ∧ Rw z encFd 2 (some ⟨g, 0, none⟩) [(3, 2), (L, 5), (X1, 6), (nn, X)] else ∃ A n c, V = .agg #[.slice A n c, .int .i64 ((catFd [(3, 2), (L, 5), (X1, 6), (nn, X)]).length : Nat)] ∧ n = (pack (catFd [(3, 2), (L, 5), (X1, 6), (nn, X)])).length ∧ OwnB z W5.heap.size (.slice A n c) (pack (catFd [(3, 2), (L, 5), (X1, 6), (nn, X)]))) hmx (by kernel_rfl) (by kernel_rfl) ?_
 simp only [List.take_succ_cons, List.take_zero, List.drop_succ_cons, List.drop_zero]
 iterate 12 (refine walkF_one none W5 rfl (by kernel_rfl) ?_; go_big_quiet_step (fail); refine wpQuiet_nil ?_)
 refine walkF_make none W5 rfl rfl rfl (by kernel_rfl) (fun x => ?_) ?_
 ·refine grow_call ?_ ((behind_any L X (plus W5 x) (by omega) (by omega)).mono ?_)
  ·simp [execOp, go_sem]
  ·rintro e w6 ⟨rfl, b6⟩
   exact ⟨_, rfl, b6, by rw [if_pos (by rfl), Hs0'.out]⟩
 intro V1 z1 hV1 g1
 obtain rfl : V1 = .int .i64 s0 := hV1
 conv => arg 11; simp [Act.put]
 iterate 4 (refine walkF_one none W5 rfl (by kernel_rfl) ?_; go_big_quiet_step (fail); refine wpQuiet_nil ?_)
 refine walkF_make none W5 rfl rfl rfl (by kernel_rfl) (fun x => ?_) ?_
 ·refine grow_val (v := .slice (some ⟨(plus W5 x).heap.size, 0, none⟩) 4 4) (w' := (plus W5 x).alloc (.cells #[.int .u64 3, .int .i64 2, .int .u64 L, .int .i64 5, .int .u64 X1, .int .i64 6, .int .u64 nn, .int .i64 X] 209)) ?_ (below_alloc _ _) ?_
  ·simp [execOp, go_sem]
  ·exact ⟨_, rfl, rw_new (Blk.new _ _ _)⟩
 intro V8 z8 hV8 g8
 obtain ⟨gs, rfl, hR8⟩ : ∃ g, V8 = .slice (some ⟨g, 0, none⟩) 4 4 ∧ Rw z8 encFd 2 (some ⟨g, 0, none⟩) [(3, 2), (L, 5), (X1, 6), (nn, X)] := hV8
 conv => arg 11; simp [Act.put]
 refine walkF_make (some 17) z8 rfl rfl rfl (by kernel_rfl) (fun x => ?_) ?_
 ·refine grow_call ?_ ((numbers_any (some ⟨gs, 0, none⟩) 4 [(3, 2), (L, 5), (X1, 6), (nn, X)] (plus z8 x) (hR8.below (plus_below z8 x) (Nat.le_refl _)) Hfs.out (by simp)).mono ?_)
  ·simp [execOp, go_sem]
  ·rintro e w6 ⟨A4, n4, c4, rfl, hn4, o4, b6⟩
   exact ⟨_, rfl, b6, _, _, _, rfl, hn4, o4.mono (Nat.le_trans (Below.size g8) (plus_below z8 x).size)⟩
 intro V9 z9 hV9 g9
 obtain ⟨A3, n3, c3, rfl, hn3, o3⟩ : ∃ A n c, V9 = .agg #[.slice A n c, .int .i64 ((catFd [(3, 2), (L, 5), (X1, 6), (nn, X)]).length : Nat)] ∧ n = (pack (catFd [(3, 2), (L, 5), (X1, 6), (nn, X)])).length ∧ OwnB z9 W5.heap.size (.slice A n c) (pack (catFd [(3, 2), (L, 5), (X1, 6), (nn, X)])) := hV9
 conv => arg 11; simp [Act.put]
 have HM : Hid (catFd [(3, 2), (L, 5), (X1, 6), (nn, X)] = true :: true :: (valB L 5 ++ valB X1 6 ++ valB nn X)) := Lib.hid (by
  show valB 3 2 ++ (valB L 5 ++ (valB X1 6 ++ (valB nn X ++ []))) = _
  rw [List.append_nil, show valB 3 2 = [true, true] from by decide, List.append_assoc]
  rfl)
 rw [HM.out] at hn3 o3 ⊢
 generalize hMM : true :: true :: (valB L 5 ++ valB X1 6 ++ valB nn X) = MM at hn3 o3 ⊢
 have Hn3 := Lib.hid hn3
 have HMM := Lib.hid hMM
 clear hn3 hMM
 iterate 2 (refine walkF_one none W5 rfl (by kernel_rfl) ?_; go_big_quiet_step (fail); refine wpQuiet_nil ?_)
 refine walkF_end ?_
 intro w7 h5 hE
 have h95 : Gr z9 w7 := hE 18
 have EB5 := Lib.hid (EB4.out.go h5)
 have o5 := o3.below h95
 have zz5 : w.heap.size + 3 ≤ W5.heap.size := by have := EB4.out.zz; omega
 have XL : L < 256 := by omega
 have XX : X < 256 := by omega
 clear hE qq h95 o3 hR8 j1 j2 j3 j4 f3
 go_wp2_with (go_at_call 98; refine (after_any L X v _ XL XX).mono ?_; rintro e w6 ⟨rfl, b6⟩; have EB4 := Lib.hid (EB5.out.go b6); have o4 := o5.below b6; obtain ⟨⟨y0, y1⟩, x0, x1⟩ := EB4.out.h1.duo; obtain ⟨⟨m0, m1, m2, m3⟩, k0, k1, k2, k3⟩ := EB4.out.h2.quad)
 rw [← HD.out, ← HL.out, ← HX.out, ← Hs0.out, ← Hnn.out, ← HX1.out, HMM.out]
 obtain ⟨f1, f2, f3⟩ := EB4.out.fin (.slice A3 n3 c3) (.int .i64 (MM.length : Nat)) (.bool true) (.int .u64 v) (.int .u8 L) (.int .u8 X)
 obtain ⟨⟨r0, r1⟩, -⟩ := f1.duo
 obtain ⟨⟨s0, s1, s2, s3⟩, -⟩ := f2.quad
 refine bodyPost_ret (v := .tuple #[.agg #[.slice A3 n3 c3, .int .i64 (MM.length : Nat)], .agg #[.bool true, .int .u64 v, .int .u8 L, .int .u8 X]]) (by simp [results, Tryz.results110, go_sem, r0, r1, s0, s1, s2, s3]) rfl ⟨⟨A3, n3, c3, Hn3.out, rfl, ?_⟩, f3⟩
 exact o4.encFin zz5 _ _ _ _ _ _
end Go.Proofs.YtmcdollkmlcpbaaGreatDoor
