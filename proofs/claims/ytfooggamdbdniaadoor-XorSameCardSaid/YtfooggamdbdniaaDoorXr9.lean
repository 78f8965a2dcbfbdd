/- The program's narrow, numbers of layer 3. -/
import Derived.Test.YtfooggamdbdniaaDoorXr8
import Derived.Test.YtfooggamdbdniaaDoorShelfB
import Derived.Test.YtfooggamdbdniaaDoorRow
import Derived.Test.YtfooggamdbdniaaDoorBitE
namespace Go.Proofs.YtfooggamdbdniaaDoor
open Go.RowKit

theorem OwnB.far2 {w : World} {base : Nat} {v : Value} {l : List UInt8} (h : OwnB w base v l) {g : Nat} (hg : g < base) (a b : Value) : OwnB ((w.setCell ⟨g, 0, none⟩ a).setCell ⟨g, 1, none⟩ b) base v l :=
  (h.far (h.ne hg) _).far ((h.far (p := ⟨g, 0, none⟩) (h.ne hg) a).ne hg) _
theorem tabGo {w w' : World} (h : Tab w) (hb : Below w.heap.size w w') : Tab w' := fun j hj => (hb.cell (cell_lt (h j hj))).trans (h j hj)

set_option maxRecDepth 100000 in
set_option maxHeartbeats 1000000 in
theorem narrow_any (D : Nat) (w : World) (h0 : D ≠ 0) (hD : D < 18446744073709551616) (hT : Tab w) :
    Calls Tryd.prog 34 #[.int .u64 D] w fun e w' => e = .returned (.agg #[.int .i64 (leadX D), .int .i64 (widX D)]) ∧ Below w.heap.size w w' := by
  obtain ⟨n1, n2, n3, n4, -⟩ := narrow_facts D h0 hD
  obtain ⟨bl, hbl⟩ : ∃ bl, bl = Lib.bitLen D := ⟨_, rfl⟩
  obtain ⟨L, hL⟩ : ∃ L, L = leadX D := ⟨_, rfl⟩
  obtain ⟨X, hX⟩ : ∃ X, X = widX D := ⟨_, rfl⟩
  obtain ⟨C, hC⟩ : ∃ C, C = Lib.ctz 64 D := ⟨_, rfl⟩
  have hbb := bitLen_two D h0 hD
  have hLl : L = min (64 - bl) 31 := by rw [hL, hbl]; rfl
  rw [← hL, ← hX] at n3 n4
  rw [← hL] at n1
  rw [← hX] at n2
  rw [← hC] at n4
  rw [← hL, ← hX]
  have hb64 : bl ≤ 64 := by omega
  have hXC : (64 : Int) - L - C = X := by omega
  have hmn : min ((64 : Int) - bl) 31 = (L : Int) := by omega
  have c0 := lz64 (D : Int) (w.alloc (.cells #[.int .i64 0, .int .i64 0] 50)) (by omega) (by omega)
  rw [Int.toNat_natCast, ← hbl] at c0
  have c1 := fun W (h : Tab W) => tz64 D hD W h
  rw [← hC] at c1
  have C0 := Lib.hid c0
  have C1 := Lib.hid c1
  have HXC := Lib.hid hXC
  have hTB := tabGo hT (below_alloc w (.cells #[.int .i64 0, .int .i64 0] 50))
  have HT := Lib.hid hTB
  have tB := below_alloc w (.cells #[.int .i64 0, .int .i64 0] 50)
  have hB := Blk.new w 50 #[.int .i64 0, .int .i64 0]
  have HB := Lib.hid hB
  clear c0 c1 hbb hL hX hC hbl hLl hTB hB n4 hT
  go_enter Tryd.func34, Tryd.ntmps34
  go_wp2_with (go_at_call 42; refine C0.out.mono ?_; rintro e w1 ⟨rfl, rfl⟩)
  refine (C1.out _ HT.out).mono ?_
  rintro e w1 ⟨rfl, rfl⟩
  go_wp2_with fail
  exact bodyPost_ret (results_cell_row Tryd.results34 _ _ w.heap.size 50 #[.int .i64 L, .int .i64 X] (0, 0) _ rfl (heap_alloc_new w _) Tryd.underlying50 rfl (by kernel_rfl)) rfl ⟨rfl, below_alloc _ _⟩

/-- numbers that are written with so many bits each -/
def encFd (f : Nat × Nat) : List Value := [.int .u64 f.1, .int .i64 f.2]
def catFd (fs : List (Nat × Nat)) : List Bool := fs.flatMap fun f => valB f.1 f.2
theorem catFd_snoc (fs : List (Nat × Nat)) (k : Nat) (h : k < fs.length) : catFd (fs.take (k + 1)) = catFd (fs.take k) ++ valB fs[k].1 fs[k].2 := by
  unfold catFd
  rw [List.take_succ_eq_append_getElem h, List.flatMap_append]
  simp
theorem catFd_len (fs : List (Nat × Nat)) (h : ∀ f ∈ fs, f.2 ≤ 64) : (catFd fs).length ≤ 64 * fs.length := by
  unfold catFd
  induction fs with
  | nil => simp
  | cons f fs ih =>
    rw [List.flatMap_cons, List.length_append, valB_length, List.length_cons]
    have h1 := h f List.mem_cons_self
    have h2 := ih fun x hx => h x (List.mem_cons_of_mem _ hx)
    omega

set_option maxRecDepth 100000 in
set_option maxHeartbeats 1000000 in
theorem numbers_any (V : Option Addr) (c : Nat) (fs : List (Nat × Nat)) (w : World) (hf : Rw w encFd 2 V fs) (hv : ∀ f ∈ fs, f.1 < 18446744073709551616 ∧ f.2 ≤ 64) (hn : fs.length ≤ 100) :
    Calls Tryd.prog 32 #[.slice V fs.length c] w fun e w' => ∃ A' n' c', e = .returned (.agg #[.slice A' n' c', .int .i64 ((catFd fs).length : Nat)]) ∧ n' = (pack (catFd fs)).length ∧ OwnB w' w.heap.size (.slice A' n' c') (pack (catFd fs)) ∧ Below w.heap.size w w' := by
  have hB0 : Blk ((w.alloc (.cells #[.slice none 0 0, .int .i64 0] 29)).alloc (.cells #[.slice none 0 0, .int .i64 0] 29)) w.heap.size 29 #[.slice none 0 0, .int .i64 0] := (Blk.new w _ _).alloc _
  have hB1 : Blk ((w.alloc (.cells #[.slice none 0 0, .int .i64 0] 29)).alloc (.cells #[.slice none 0 0, .int .i64 0] 29)) (w.heap.size + 1) 29 #[.slice none 0 0, .int .i64 0] := by
    have := Blk.new (w.alloc (.cells #[.slice none 0 0, .int .i64 0] 29)) 29 #[.slice none 0 0, .int .i64 0]
    rwa [World.size_alloc] at this
  have tB := below_alloc2 w (.cells #[.slice none 0 0, .int .i64 0] 29) (.cells #[.slice none 0 0, .int .i64 0] 29)
  have HB0 := Lib.hid hB0
  have HB1 := Lib.hid hB1
  have HTB := Lib.hid tB
  have HF := Lib.hid hf
  have HV := Lib.hid hv
  clear hB0 hB1 tB hf hv
  go_enter Tryd.func32, Tryd.ntmps32
  go_wp2_with fail
  go_loopw [8] (fun s wr => ∃ (k : Nat) (A : Option Addr) (n' c' : Nat), s = .int .i64 k ∧ k ≤ fs.length ∧ Blk wr w.heap.size 29 #[.slice none 0 0, .int .i64 0] ∧ Blk wr (w.heap.size + 1) 29 #[.slice A n' c', .int .i64 ((catFd (fs.take k)).length : Nat)] ∧ Hid (n' = (pack (catFd (fs.take k))).length) ∧ OwnB wr (w.heap.size + 2) (.slice A n' c') (pack (catFd (fs.take k))) ∧ Below w.heap.size w wr ∧ w.heap.size + 2 ≤ wr.heap.size)
    (fun s _ => fs.length - (intOf s).toNat)
  case atStart => exact ⟨0, none, 0, 0, rfl, Nat.zero_le _, HB0.out, (by simpa [catFd] using HB1.out), Lib.hid (by simp [catFd, pack, nb]), by rw [show pack (catFd (fs.take 0)) = [] by simp [catFd, pack, nb]]; exact OwnB.nil _ _, HTB.out, by simp⟩
  case round =>
    obtain ⟨k, A, n', c', rfl, hk, b0, b1, Hn, ho, tW, zW⟩ := hrel
    rcases Nat.lt_or_ge k fs.length with hlt | hge
    · have q1 : decide ((k : Int) < fs.length) = true := decide_eq_true (by omega)
      have q2 : decide (k < fs.length) = true := decide_eq_true hlt
      obtain ⟨p, o, rfl, hc⟩ := HF.out k fs[k] (List.getElem?_eq_getElem hlt)
      have hv := HV.out fs[k] (List.getElem_mem hlt)
      obtain ⟨fv, fw, hfe⟩ : ∃ fv fw, fs[k] = (fv, fw) := ⟨_, _, rfl⟩
      have c0 := (tW.cell (cell_lt (hc 0 (.int .u64 fs[k].1) rfl))).trans (hc 0 (.int .u64 fs[k].1) rfl)
      have c1 := (tW.cell (cell_lt (hc 1 (.int .i64 fs[k].2) rfl))).trans (hc 1 (.int .i64 fs[k].2) rfl)
      rw [hfe] at c0 c1 hv
      simp only [Nat.add_zero] at c0 c1 hv
      have hL := catFd_len (fs.take k) fun f hf => (HV.out f (List.mem_of_mem_take hf)).2
      obtain ⟨L, hLe⟩ : ∃ L, L = catFd (fs.take k) := ⟨_, rfl⟩
      rw [← hLe] at b1 Hn ho hL
      rw [List.length_take] at hL
      have hL1 : L.length ≤ 6400 := by omega
      have HL1 : Hid (catFd (fs.take (k + 1)) = L ++ valB fv fw) := Lib.hid (by rw [catFd_snoc fs k hlt, hfe, hLe])
      obtain rfl := Hn.out
      have hV0 : (0 : Int) ≤ (fv : Int) ∧ (fv : Int) < 18446744073709551616 := by omega
      have hV1 : (0 : Int) ≤ (fw : Int) ∧ (fw : Int) ≤ 64 := by omega
      have e1 : IntKind.i64.wrap ((k : Int) + 1) = ((k + 1 : Nat) : Int) := by rw [IntKind.wrap_i64]; omega
      obtain ⟨⟨u0, u1⟩, -⟩ := b1.duo
      have HB1' := Lib.hid b1
      have HB0' := Lib.hid b0
      have kA := keepA
      have kF := keepF
      have Hv0 := Lib.hid hV0
      have Hv1 := Lib.hid hV1
      obtain ⟨M, hM⟩ : ∃ M, M = L ++ valB (fv : Int).toNat (fw : Int).toNat := ⟨_, rfl⟩
      have HM := Lib.hid hM
      have Hho := Lib.hid ho
      have HL1' := Lib.hid hL1
      clear hLe hL hL1 hV0 hV1 hv hc hfe hM b0 b1 Hn ho
      go_wp2_with (go_at_call 41; refine (put_M A c' L fv fw M _ HM.out (Hho.out.alloc _).bs Hv0.out Hv1.out (by have := HL1'.out; omega)).mono ?_; rintro e w4 ⟨A4, c4, rfl, o4, b4⟩; clear kA kF u0 u1; have C1 := Lib.hid ((HB1'.out.alloc (.cells #[.int .u64 fv, .int .i64 fw] 71)).below b4 (by have := HB1'.out.lt; simp; omega)); have C0 := Lib.hid ((HB0'.out.alloc (.cells #[.int .u64 fv, .int .i64 fw] 71)).below b4 (by have := HB0'.out.lt; simp; omega)); obtain ⟨⟨y0, y1⟩, z0, z1⟩ := C1.out.duo)
      go_roundw
      case rel =>
        have HMc : catFd (fs.take (k + 1)) = M := by rw [HL1.out, HM.out, Int.toNat_natCast, Int.toNat_natCast]
        have tW4 : Below w.heap.size w w4 := (tW.trans ((below_alloc wr _).mono tW.size)).trans (b4.mono (by have := tW.size; simp; omega))
        have z4 : w.heap.size + 2 ≤ w4.heap.size := by have := b4.size; simp at this; omega
        refine ⟨k + 1, A4, _, c4, by go_num, hlt, (C0.out.far _ _ (by simp)).far _ _ (by simp), by rw [HMc]; exact C1.out.set2 _ _, Lib.hid (by rw [HMc]), ?_, (tW4.setCell (by simp) _).setCell (by simp) _, by simp [World.setCell]; exact z4⟩
        rw [HMc]
        have hne : w.heap.size + 1 < (wr.alloc (.cells #[.int .u64 fv, .int .i64 fw] 71)).heap.size := by simp; omega
        have o5 := o4.far (p := ⟨w.heap.size + 1, 0, none⟩) (o4.ne hne) (.slice A4 (pack M).length c4)
        exact (o5.far (p := ⟨w.heap.size + 1, 1, none⟩) (o5.ne hne) _).mono (by simp; omega)
      case measure => simp [intOf]; omega
    · obtain rfl : k = fs.length := by omega
      have q1 : decide ((fs.length : Int) < fs.length) = false := by simp
      rw [List.take_length] at b1 Hn ho
      obtain ⟨⟨u0, u1⟩, -⟩ := b1.duo
      obtain ⟨-, z0, z1⟩ := b0.duo
      obtain ⟨⟨x0, x1⟩, -⟩ := b0.duo
      have HB1' := Lib.hid b1
      have HB0' := Lib.hid b0
      have HN := Lib.hid ho
      have hz : 1 ≤ 2 := by omega
      clear b0 b1 ho hz
      go_wp2_with fail
      exact bodyPost_ret (results_cell_row Tryd.results32 _ _ w.heap.size 29 #[.slice A n' c', .int .i64 ((catFd fs).length : Nat)] (0, 0) _ rfl (HB0'.out.set2 _ _) Tryd.underlying29 rfl (by kernel_rfl)) rfl ⟨A, n', c', rfl, Hn.out, (HN.out.far2 (by omega) _ _).mono (by omega), (tW.setCell (Nat.le_refl _) _).setCell (Nat.le_refl _) _⟩

end Go.Proofs.YtfooggamdbdniaaDoor
