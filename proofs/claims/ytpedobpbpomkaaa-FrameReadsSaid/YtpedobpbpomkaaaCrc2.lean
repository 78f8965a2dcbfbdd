/- The table of crc: made once; the sum of lists. -/
import Derived.Test.YtpedobpbpomkaaaCrc1
import Derived.Test.YtpedobpbpomkaaaTail
namespace Go.Proofs.Ytpedobpbpomkaaa
open Go.RowKit

/-- the world with new blocks, and one block written -/
def Tch (g : Nat) (w w' : World) : Prop := w.grownBy w' (some g)
theorem Tch.refl (g : Nat) (w : World) : Tch g w w := ⟨rfl, rfl, rfl, Nat.le_refl _, fun _ _ _ => rfl⟩

theorem Tch.set {g : Nat} {w w' : World} (h : Tch g w w') (i : Nat) (v : Value) : Tch g w (w'.setCell ⟨g, i, none⟩ v) :=
  ⟨h.os, h.tape, h.output, by have := h.size; simpa [World.setCell] using this, fun k hk hne => (Below.heap_setCell w' ⟨g, i, none⟩ v k (fun e => hne (by rw [e]))).trans (h.block k hk hne)⟩
theorem Tch.drew {g : Nat} {w w' : World} (h : Tch g w w') : Tch g w w'.drew := ⟨h.os, h.tape, h.output, h.size, h.block⟩
theorem Tch.drewN {g : Nat} {w w' : World} (h : Tch g w w') (n : Nat) : Tch g w (w'.drewN n) := ⟨h.os, h.tape, h.output, h.size, h.block⟩
theorem Tch.trans {g : Nat} {a b c : World} (h : Tch g a b) (k : Tch g b c) : Tch g a c :=
  ⟨k.os.trans h.os, k.tape.trans h.tape, k.output.trans h.output, Nat.le_trans h.size k.size, fun i hi hne => (k.block i (Nat.lt_of_lt_of_le hi h.size) hne).trans (h.block i hi hne)⟩
theorem Tch.below {g B : Nat} {w0 w w' : World} (t : Below B w0 w) (h : Tch g w w') (hB : B ≤ w.heap.size) (hg : B ≤ g) : Below B w0 w' := t.grown h hB fun k e => by cases e; exact hg
theorem Bs.tch {g : Nat} {w w' : World} {A : Option Addr} {l : List UInt8} (b : Bs w A l) (h : Tch g w w') (hA : ∀ p o, A = some ⟨p, o, none⟩ → p ≠ g) : Bs w' A l := fun i x hi => by
  obtain ⟨p, o, e, hc⟩ := b i x hi
  refine ⟨p, o, e, ?_⟩
  rw [World.cell?_of_block (h.block p (cell_lt hc) (by intro e2; injection e2 with e2; exact hA p o e e2))]
  exact hc
theorem Blk.tch {g k : Nat} {w w' : World} {t : TypeId} {cs : Array Value} (b : Blk w k t cs) (h : Tch g w w') (hk : k ≠ g) : Blk w' k t cs := (h.block k b.lt (by intro e; injection e with e; exact hk e)).trans b
theorem Tch.of_below {g : Nat} {w w' : World} (h : Below w.heap.size w w') : Tch g w w' := ⟨h.os, h.tape, h.output, h.size, fun k hk _ => h.block k hk⟩

theorem eight_val (c : Nat) (w : World) (hc : c < 4294967296) : Calls Try.prog 60 #[.int .u32 c] w fun e w' => e = .returned (.int .u32 (csteps 8 c : Nat)) ∧ Below w.heap.size w w' := by
  refine (eight_any c w hc).mono ?_
  rintro e w' ⟨x, HX, rfl, rfl⟩
  exact ⟨by rw [HX.out], Below.refl _ _⟩

set_option maxRecDepth 100000 in
theorem fill_any (g : Nat) (w : World) (l : Int) (hT : Blk w g 95 (crcArr 0 l 0 0)) :
    Calls Try.prog 51 #[.pointer (some ⟨g, 0, none⟩)] w fun e w' => e = .returned (.tuple #[]) ∧ Blk w' g 95 (crcArr 0 l 1 256) ∧ Tch g w w' := by
  go_enter Try.func51, Try.ntmps51
  go_wp2_with fail
  go_loopw [3] (fun i wr => ∃ k : Nat, k ≤ 256 ∧ i = .int .i64 k ∧ Blk wr g 95 (crcArr 0 l 0 k) ∧ Tch g w wr) (fun i _ => 256 - (intOf i).toNat)
  case atStart => exact ⟨0, by omega, rfl, hT, Tch.refl _ _⟩
  case round =>
    obtain ⟨k, hk, rfl, HB, HT⟩ := hrel
    rcases Nat.lt_or_ge k 256 with hlt | hge
    · have ci : wr.cell? ⟨g, 4 + k, none⟩ = some (crcEnt k k) := (HB.cell (4 + k)).trans (crcArr_get _ _ _ _ _ hlt)
      have k0 : 0 ≤ (k : Int) := by omega
      have k1 : (k : Int) < 256 := by omega
      have k2 : (k : Int).toNat = k := by omega
      have k3 : k ≤ 255 := by omega
      go_wp2_with fail
      refine wp_region_tail_ext 8 (by kernel_rfl) (by kernel_rfl) ?_
      simp only [List.take_succ_cons, List.take_zero, List.drop_succ_cons, List.drop_zero]
      repeat (go_big_quiet_step ((go_at_call 60; exact ext_of (eight_val k _ (by omega)))))
      refine wpQuiet_nil ?_
      rintro w2 ⟨x, rfl⟩
      have hx := plus_below wr x
      have B2 := HB.go hx
      have c2 : (plus wr x).cell? ⟨g, 4 + k, none⟩ = some (crcEnt k k) := (hx.cell (cell_lt ci)).trans ci
      have z2 := B2.frozen (4 + k)
      go_wp2_with fail
      go_roundw
      case rel => exact ⟨k + 1, by omega, by go_num, by rw [← crcArr_set _ _ _ _ hlt]; exact B2.set (4 + k) _, (HT.trans (Tch.of_below hx)).set _ _⟩
      case measure => simp [intOf]; omega
    · obtain rfl : k = 256 := by omega
      have c3 : wr.cell? ⟨g, 3, none⟩ = some (.int .i32 0) := (HB.cell 3).trans (crcArr_3 _ _ _ _)
      have z3 := HB.frozen 3
      have hadd := run_call_add (P := Try.prog) Try.func67 (by kernel_rfl) (by kernel_rfl) (by kernel_rfl) .i32 (by kernel_rfl) (y := 1) (s := 1) c3 z3 (by simp [go_sem]; rfl)
      go_wp2
      go_end0
      exact ⟨rfl, by rw [← crcArr_set3 _ _ 0 1]; exact HB.set 3 _, HT.set _ _⟩

/-- what a table that was used holds -/
theorem TabM.once {w : World} {g : Nat} (h : TabM w g) : w.cell? ⟨g, 0, none⟩ = some (.int .u32 1) := (h.cell 0).trans (crcArr_0 _ _ _ _)
theorem TabM.made {w : World} {g : Nat} (h : TabM w g) : w.cell? ⟨g, 3, none⟩ = some (.int .i32 1) := (h.cell 3).trans (crcArr_3 _ _ _ _)
theorem TabF.made {w : World} {g : Nat} (h : TabF w g) : w.cell? ⟨g, 3, none⟩ = some (.int .i32 0) := (h.cell 3).trans (crcArr_3 _ _ _ _)
theorem TabM.entry {w : World} {g : Nat} (h : TabM w g) (i : Nat) (hi : i < 256) : w.cell? ⟨g, 4 + i, none⟩ = some (.int .u32 (csteps 8 i : Nat)) := by
  rw [h.cell (4 + i), crcArr_get _ _ _ _ _ hi]
  unfold crcEnt
  rw [if_pos hi]

theorem fill_enters (g : Nat) (w : World) : (callFunc 51 (#[.pointer (some ⟨g, 0, none⟩)] ++ #[])).run Try.prog w = .ok (.enter 51 (#[.pointer (some ⟨g, 0, none⟩)] ++ #[])) w :=
  callFunc_enter Try.func51 (by kernel_rfl) (by kernel_rfl) _ w

set_option maxRecDepth 100000 in
set_option maxHeartbeats 1600000 in
/-- 'once.Do(t.fill)', whether it is the first time or not -/
theorem doFill_any (g : Nat) (w : World) (h : TabF w g ∨ TabM w g) :
    Calls Try.prog 50 #[.pointer (some ⟨g, 0, none⟩), .func (.func 51) #[.pointer (some ⟨g, 0, none⟩)] #[]] w fun e w' => e = .returned (.tuple #[]) ∧ TabM w' g ∧ Tch g w w' := by
  rcases h with h | h
  · have c0 : w.cell? ⟨g, 0, none⟩ = some (.int .u32 0) := (h.cell 0).trans (crcArr_0 _ _ _ _)
    have c1 : w.cell? ⟨g, 0 + 1, none⟩ = some (.int .i32 0) := (h.cell 1).trans (crcArr_1 _ _ _ _)
    have B1 : Blk (w.setCell ⟨g, 0 + 1, none⟩ (.int .i32 1)) g 95 (crcArr 0 1 0 0) := by
      rw [← crcArr_set1 0 0 1]; exact h.set 1 _
    refine (do_first g 0 _ #[.pointer (some ⟨g, 0, none⟩)] #[] (fun w2 => Blk w2 g 95 (crcArr 0 1 1 256) ∧ Tch g (w.setCell ⟨g, 0 + 1, none⟩ (.int .i32 1)) w2) w c0 c1 (h.frozen 1) (fill_enters g) (fill_any g _ 1 B1) ?_).mono ?_
    · rintro w2 ⟨b, _⟩
      exact ⟨(b.cell 0).trans (crcArr_0 _ _ _ _), (b.cell 1).trans (crcArr_1 _ _ _ _), b.frozen 0, b.frozen 1⟩
    · rintro e w' ⟨rfl, w2, ⟨b, t⟩, rfl⟩
      refine ⟨rfl, ?_, ?_⟩
      · have b2 := ((b.set 0 (.int .u32 1)).set 1 (.int .i32 0)).drew
        rw [show (Value.int .u32 1) = .int .u32 ((1 : Nat) : Int) from rfl, crcArr_set0, crcArr_set1] at b2
        exact b2
      · exact (((((Tch.refl g w).set 1 _).trans t).set 0 _).set 1 _).drew
  · refine (do_done _ _ w h.once).mono ?_
    rintro e w' ⟨rfl, rfl⟩
    exact ⟨rfl, h, Tch.refl _ _⟩

end Go.Proofs.Ytpedobpbpomkaaa
