/- Joined: Crc2, CrcS, Fr4. -/
import Derived.Test.YtpedobpbpomkaaaQ10
import Derived.Test.YtpedobpbpomkaaaQ6
import Derived.Test.YtpedobpbpomkaaaQ5
set_option linter.unusedSimpArgs false
set_option linter.unusedVariables false
/- The table of crc: made once; the sum of lists. -/
namespace Go.Proofs.Ytpedobpbpomkaaa
open Go.RowKit

/-- the world with new blocks, and one block written -/
def Tch (g : Nat) (w w' : World) : Prop := w.grownBy w' (some g)
theorem Tch.refl (g : Nat) (w : World) : Tch g w w := ⟨rfl, rfl, rfl, Nat.le_refl _, fun _ _ _ => rfl⟩

theorem Tch.set {g : Nat} {w w' : World} (h : Tch g w w') (i : Nat) (v : Value) : Tch g w (w'.setCell ⟨g, i, none⟩ v) :=
  ⟨h.os, h.tape, h.output, by have := h.size; simpa [World.setCell] using this, fun k hk hne => (Below.heap_setCell w' ⟨g, i, none⟩ v k (fun e => hne (by rw [e]))).trans (h.block k hk hne)⟩
theorem Tch.drew {g : Nat} {w w' : World} (h : Tch g w w') : Tch g w w'.drew := ⟨h.os, h.tape, h.output, h.size, h.block⟩
theorem Tch.drewN {g : Nat} {w w' : World} (h : Tch g w w') (n : Nat) : Tch g w (w'.drewN n) := ⟨h.os, h.tape, h.output, h.size, h.block⟩
theorem Tch.trans {g : Nat} {a b c : World} (h : Tch g a b) (k : Tch g b c) : Tch g a c :=
  ⟨k.os.trans h.os, k.tape.trans h.tape, k.output.trans h.output, Nat.le_trans h.size k.size, fun i hi hne => (k.block i (Nat.lt_of_lt_of_le hi h.size) hne).trans (h.block i hi hne)⟩
theorem Tch.below {g B : Nat} {w0 w w' : World} (t : Below B w0 w) (h : Tch g w w') (hB : B ≤ w.heap.size) (hg : B ≤ g) : Below B w0 w' := t.grown h hB fun k e => by cases e; exact hg
theorem Bs.tch {g : Nat} {w w' : World} {A : Option Addr} {l : List UInt8} (b : Bs w A l) (h : Tch g w w') (hA : ∀ p o, A = some ⟨p, o, none⟩ → p ≠ g) : Bs w' A l := fun i x hi => by
  obtain ⟨p, o, e, hc⟩ := b i x hi
  refine ⟨p, o, e, ?_⟩
  rw [World.cell?_of_block (h.block p (cell_lt hc) (by intro e2; injection e2 with e2; exact hA p o e e2))]
  exact hc
theorem Blk.tch {g k : Nat} {w w' : World} {t : TypeId} {cs : Array Value} (b : Blk w k t cs) (h : Tch g w w') (hk : k ≠ g) : Blk w' k t cs := (h.block k b.lt (by intro e; injection e with e; exact hk e)).trans b
theorem Tch.of_below {g : Nat} {w w' : World} (h : Below w.heap.size w w') : Tch g w w' := ⟨h.os, h.tape, h.output, h.size, fun k hk _ => h.block k hk⟩

theorem eight_val (c : Nat) (w : World) (hc : c < 4294967296) : Calls Try.prog 60 #[.int .u32 c] w fun e w' => e = .returned (.int .u32 (csteps 8 c : Nat)) ∧ Below w.heap.size w w' := by
  refine (eight_any c w hc).mono ?_
  rintro e w' ⟨x, HX, rfl, rfl⟩
  exact ⟨by rw [HX.out], Below.refl _ _⟩

set_option maxRecDepth 100000 in
theorem fill_any (g : Nat) (w : World) (l : Int) (hT : Blk w g 95 (crcArr 0 l 0 0)) :
    Calls Try.prog 51 #[.pointer (some ⟨g, 0, none⟩)] w fun e w' => e = .returned (.tuple #[]) ∧ Blk w' g 95 (crcArr 0 l 1 256) ∧ Tch g w w' := by
  go_enter Try.func51, Try.ntmps51
  go_wp2_with fail
  go_loopw [3] (fun i wr => ∃ k : Nat, k ≤ 256 ∧ i = .int .i64 k ∧ Blk wr g 95 (crcArr 0 l 0 k) ∧ Tch g w wr) (fun i _ => 256 - (intOf i).toNat)
  case atStart => exact ⟨0, by omega, rfl, hT, Tch.refl _ _⟩
  case round =>
    obtain ⟨k, hk, rfl, HB, HT⟩ := hrel
    rcases Nat.lt_or_ge k 256 with hlt | hge
    · have ci : wr.cell? ⟨g, 4 + k, none⟩ = some (crcEnt k k) := (HB.cell (4 + k)).trans (crcArr_get _ _ _ _ _ hlt)
      have k0 : 0 ≤ (k : Int) := by omega
      have k1 : (k : Int) < 256 := by omega
      have k2 : (k : Int).toNat = k := by omega
      have k3 : k ≤ 255 := by omega
      go_wp2_with fail
      refine wp_region_tail_ext 8 (by kernel_rfl) (by kernel_rfl) ?_
      simp only [List.take_succ_cons, List.take_zero, List.drop_succ_cons, List.drop_zero]
      repeat (go_big_quiet_step ((go_at_call 60; exact ext_of (eight_val k _ (by omega)))))
      refine wpQuiet_nil ?_
      rintro w2 ⟨x, rfl⟩
      have hx := plus_below wr x
      have B2 := HB.go hx
      have c2 : (plus wr x).cell? ⟨g, 4 + k, none⟩ = some (crcEnt k k) := (hx.cell (cell_lt ci)).trans ci
      have z2 := B2.frozen (4 + k)
      go_wp2_with fail
      go_roundw
      case rel => exact ⟨k + 1, by omega, by go_num, by rw [← crcArr_set _ _ _ _ hlt]; exact B2.set (4 + k) _, (HT.trans (Tch.of_below hx)).set _ _⟩
      case measure => simp [intOf]; omega
    · obtain rfl : k = 256 := by omega
      have c3 : wr.cell? ⟨g, 3, none⟩ = some (.int .i32 0) := (HB.cell 3).trans (crcArr_3 _ _ _ _)
      have z3 := HB.frozen 3
      have hadd := run_call_add (P := Try.prog) Try.func67 (by kernel_rfl) (by kernel_rfl) (by kernel_rfl) .i32 (by kernel_rfl) (y := 1) (s := 1) c3 z3 (by simp [go_sem]; rfl)
      go_wp2
      go_end0
      exact ⟨rfl, by rw [← crcArr_set3 _ _ 0 1]; exact HB.set 3 _, HT.set _ _⟩

/-- what a table that was used holds -/
theorem TabM.once {w : World} {g : Nat} (h : TabM w g) : w.cell? ⟨g, 0, none⟩ = some (.int .u32 1) := (h.cell 0).trans (crcArr_0 _ _ _ _)
theorem TabM.made {w : World} {g : Nat} (h : TabM w g) : w.cell? ⟨g, 3, none⟩ = some (.int .i32 1) := (h.cell 3).trans (crcArr_3 _ _ _ _)
theorem TabF.made {w : World} {g : Nat} (h : TabF w g) : w.cell? ⟨g, 3, none⟩ = some (.int .i32 0) := (h.cell 3).trans (crcArr_3 _ _ _ _)
theorem TabM.entry {w : World} {g : Nat} (h : TabM w g) (i : Nat) (hi : i < 256) : w.cell? ⟨g, 4 + i, none⟩ = some (.int .u32 (csteps 8 i : Nat)) := by
  rw [h.cell (4 + i), crcArr_get _ _ _ _ _ hi]
  unfold crcEnt
  rw [if_pos hi]

theorem fill_enters (g : Nat) (w : World) : (callFunc 51 (#[.pointer (some ⟨g, 0, none⟩)] ++ #[])).run Try.prog w = .ok (.enter 51 (#[.pointer (some ⟨g, 0, none⟩)] ++ #[])) w :=
  callFunc_enter Try.func51 (by kernel_rfl) (by kernel_rfl) _ w

set_option maxRecDepth 100000 in
set_option maxHeartbeats 1600000 in
/-- 'once.Do(t.fill)', whether it is the first time or not -/
theorem doFill_any (g : Nat) (w : World) (h : TabF w g ∨ TabM w g) :
    Calls Try.prog 50 #[.pointer (some ⟨g, 0, none⟩), .func (.func 51) #[.pointer (some ⟨g, 0, none⟩)] #[]] w fun e w' => e = .returned (.tuple #[]) ∧ TabM w' g ∧ Tch g w w' := by
  rcases h with h | h
  · have c0 : w.cell? ⟨g, 0, none⟩ = some (.int .u32 0) := (h.cell 0).trans (crcArr_0 _ _ _ _)
    have c1 : w.cell? ⟨g, 0 + 1, none⟩ = some (.int .i32 0) := (h.cell 1).trans (crcArr_1 _ _ _ _)
    have B1 : Blk (w.setCell ⟨g, 0 + 1, none⟩ (.int .i32 1)) g 95 (crcArr 0 1 0 0) := by
      rw [← crcArr_set1 0 0 1]; exact h.set 1 _
    refine (do_first g 0 _ #[.pointer (some ⟨g, 0, none⟩)] #[] (fun w2 => Blk w2 g 95 (crcArr 0 1 1 256) ∧ Tch g (w.setCell ⟨g, 0 + 1, none⟩ (.int .i32 1)) w2) w c0 c1 (h.frozen 1) (fill_enters g) (fill_any g _ 1 B1) ?_).mono ?_
    · rintro w2 ⟨b, _⟩
      exact ⟨(b.cell 0).trans (crcArr_0 _ _ _ _), (b.cell 1).trans (crcArr_1 _ _ _ _), b.frozen 0, b.frozen 1⟩
    · rintro e w' ⟨rfl, w2, ⟨b, t⟩, rfl⟩
      refine ⟨rfl, ?_, ?_⟩
      · have b2 := ((b.set 0 (.int .u32 1)).set 1 (.int .i32 0)).drew
        rw [show (Value.int .u32 1) = .int .u32 ((1 : Nat) : Int) from rfl, crcArr_set0, crcArr_set1] at b2
        exact b2
      · exact (((((Tch.refl g w).set 1 _).trans t).set 0 _).set 1 _).drew
  · refine (do_done _ _ w h.once).mono ?_
    rintro e w' ⟨rfl, rfl⟩
    exact ⟨rfl, h, Tch.refl _ _⟩

end Go.Proofs.Ytpedobpbpomkaaa

/- Sum of lists of bytes, and the document's own. -/
namespace Go.Proofs.Ytpedobpbpomkaaa
open Go.RowKit

theorem not_nat (x : Nat) (hx : x < 4294967296) : 4294967295 ^^^ x = 4294967295 - x := by
  apply Nat.eq_of_testBit_eq
  intro i
  have h1 := Nat.testBit_two_pow_sub_succ (n := 32) (x := x) hx i
  have h2 := Nat.testBit_two_pow_sub_one 32 i
  rw [show 2 ^ 32 - (x + 1) = 4294967295 - x by omega] at h1
  rw [show 2 ^ 32 - 1 = 4294967295 from rfl] at h2
  rw [Nat.testBit_xor, h1, h2]
  by_cases hi : i < 32
  · simp [hi]
  · have : x.testBit i = false := Nat.testBit_lt_two_pow (Nat.lt_of_lt_of_le hx (Nat.pow_le_pow_right (n := 2) (by decide) (show 32 ≤ i by omega)))
    simp [hi, this]
theorem not_u32 (x : Nat) (hx : x < 4294967296) : bits .xor .u32 IntKind.u32.max (x : Int) = ((4294967295 - x : Nat) : Int) := by
  rw [← not_nat x hx]
  exact xor_u32 4294967295 x (by decide) hx

/-- bytes that lie in no cell of block g -/
def Bsf (w : World) (g : Nat) (A : Option Addr) (l : List UInt8) : Prop := ∀ i b, l[i]? = some b → ∃ p o, A = some ⟨p, o, none⟩ ∧ p ≠ g ∧ w.cell? ⟨p, o + i, none⟩ = some (bv b)
theorem Bsf.bs {w : World} {g : Nat} {A : Option Addr} {l : List UInt8} (h : Bsf w g A l) : Bs w A l := fun i b hi => by
  obtain ⟨p, o, e, _, hc⟩ := h i b hi
  exact ⟨p, o, e, hc⟩
theorem Bsf.tch {w w' : World} {g : Nat} {A : Option Addr} {l : List UInt8} (h : Bsf w g A l) (t : Tch g w w') : Bsf w' g A l := fun i b hi => by
  obtain ⟨p, o, e, hp, hc⟩ := h i b hi
  refine ⟨p, o, e, hp, ?_⟩
  rw [World.cell?_of_block (t.block p (cell_lt hc) (by intro e2; injection e2 with e2; exact hp e2))]
  exact hc
theorem Bsf.below {w w' : World} {g : Nat} {A : Option Addr} {l : List UInt8} (h : Bsf w g A l) (t : Below w.heap.size w w') : Bsf w' g A l := h.tch (Tch.of_below t)
theorem Bs.far {w : World} {g : Nat} {A : Option Addr} {l : List UInt8} (h : Bs w A l) (hg : w.heap.size ≤ g) : Bsf w g A l := fun i b hi => by
  obtain ⟨p, o, e, hc⟩ := h i b hi
  have := cell_lt hc
  simp only at this
  exact ⟨p, o, e, by omega, hc⟩
theorem Bs.past {w w' : World} {g : Nat} {A : Option Addr} {l : List UInt8} (h : Bs w A l) (hb : Below w.heap.size w w') (hg : w.heap.size ≤ g) : Bsf w' g A l := (h.far hg).below hb
theorem OwnB.far' {w : World} {base g n c : Nat} {A : Option Addr} {l : List UInt8} (h : OwnB w base (.slice A n c) l) (hg : g < base) : Bsf w g A l := fun i b hi => by
  have hb := h.bs
  obtain ⟨p, o, e, hc⟩ := hb i b hi
  have hl : 0 < l.length := by
    rcases Nat.eq_zero_or_pos l.length with h0 | h0
    · rw [List.eq_nil_of_length_eq_zero h0] at hi; simp at hi
    · exact h0
  obtain ⟨g', cap', hv, h1, _⟩ := h.form hl
  injection hv with hv
  rw [e] at hv
  injection hv with hv
  injection hv with hv _ _
  exact ⟨p, o, e, by omega, hc⟩

/-- a row of slices of bytes, none of them in block g -/
def Ls (w : World) (g : Nat) (A : Option Addr) (LL : List (List UInt8)) : Prop :=
  ∀ i l, LL[i]? = some l → ∃ p o, A = some ⟨p, o, none⟩ ∧ p ≠ g ∧ ∃ B c, w.cell? ⟨p, o + i, none⟩ = some (.slice B l.length c) ∧ Bsf w g B l
theorem Ls.tch {w w' : World} {g : Nat} {A : Option Addr} {LL : List (List UInt8)} (h : Ls w g A LL) (t : Tch g w w') : Ls w' g A LL := fun i l hi => by
  obtain ⟨p, o, e, hp, B, c, hc, hb⟩ := h i l hi
  refine ⟨p, o, e, hp, B, c, ?_, hb.tch t⟩
  rw [World.cell?_of_block (t.block p (cell_lt hc) (by intro e2; injection e2 with e2; exact hp e2))]
  exact hc
/-- a row of its own of one list, of two, of three -/
theorem ls_nil (w : World) (g : Nat) (A : Option Addr) : Ls w g A [] := fun i l h => by simp at h
theorem ls_one {w : World} {g : Nat} {B : Option Addr} {l : List UInt8} (c : Nat) (T : TypeId) (hB : Bsf w g B l) (hg : g < w.heap.size) : Ls (w.alloc (.cells #[.slice B l.length c] T)) g (some ⟨w.heap.size, 0, none⟩) [l] := fun i x hi => by
  match i, hi with
  | 0, hi =>
    simp at hi; subst hi
    exact ⟨_, 0, rfl, by omega, B, c, box_cell w _ T 0 _ rfl, hB.below (below_alloc _ _)⟩
theorem ls_two {w : World} {g : Nat} {B B' : Option Addr} {l l' : List UInt8} (c c' : Nat) (T : TypeId) (hB : Bsf w g B l) (hB' : Bsf w g B' l') (hg : g < w.heap.size) : Ls (w.alloc (.cells #[.slice B l.length c, .slice B' l'.length c'] T)) g (some ⟨w.heap.size, 0, none⟩) [l, l'] := fun i x hi => by
  match i, hi with
  | 0, hi =>
    simp at hi; subst hi
    exact ⟨_, 0, rfl, by omega, B, c, box_cell w _ T 0 _ rfl, hB.below (below_alloc _ _)⟩
  | 1, hi =>
    simp at hi; subst hi
    exact ⟨_, 0, rfl, by omega, B', c', box_cell w _ T 1 _ rfl, hB'.below (below_alloc _ _)⟩
theorem ls_three {w : World} {g : Nat} {B B' B'' : Option Addr} {l l' l'' : List UInt8} (c c' c'' : Nat) (T : TypeId) (hB : Bsf w g B l) (hB' : Bsf w g B' l') (hB'' : Bsf w g B'' l'') (hg : g < w.heap.size) :
    Ls (w.alloc (.cells #[.slice B l.length c, .slice B' l'.length c', .slice B'' l''.length c''] T)) g (some ⟨w.heap.size, 0, none⟩) [l, l', l''] := fun i x hi => by
  match i, hi with
  | 0, hi =>
    simp at hi; subst hi
    exact ⟨_, 0, rfl, by omega, B, c, box_cell w _ T 0 _ rfl, hB.below (below_alloc _ _)⟩
  | 1, hi =>
    simp at hi; subst hi
    exact ⟨_, 0, rfl, by omega, B', c', box_cell w _ T 1 _ rfl, hB'.below (below_alloc _ _)⟩
  | 2, hi =>
    simp at hi; subst hi
    exact ⟨_, 0, rfl, by omega, B'', c'', box_cell w _ T 2 _ rfl, hB''.below (below_alloc _ _)⟩
theorem bsf_nil (w : World) (g : Nat) (A : Option Addr) : Bsf w g A [] := fun i b h => by simp at h

set_option maxRecDepth 100000 in
set_option maxHeartbeats 1600000 in
theorem crcSum_any (g : Nat) (A : Option Addr) (c : Nat) (LL : List (List UInt8)) (w : World) (hT : TabF w g ∨ TabM w g) (hL : Ls w g A LL) (hl : LL.length ≤ 1000000) (hl2 : ∀ l ∈ LL, l.length ≤ 1000000) :
    Calls Try.prog 32 #[.pointer (some ⟨g, 0, none⟩), .slice A LL.length c] w fun e w' => ∃ x : Nat, Hid (x = crcL LL.flatten) ∧ e = .returned (.int .u32 x) ∧ TabM w' g ∧ Tch g w w' := by
  have Hl2 := Lib.hid hl2
  have hmf : ∀ (fn : Fn) (first cap : Array Value) (w : World), (Instr.makeFunc fn first cap).run Try.prog w = .ok (.func fn first cap) w := fun _ _ _ _ => rfl
  clear hl2
  go_enter Try.func32, Try.ntmps32
  go_wp2_with fail
  refine (doFill_any g w hT).mono ?_
  rintro e w1 ⟨rfl, hM, hTc⟩
  have L1 := hL.tch hTc
  clear hT hL hmf
  go_wp2_with fail
  go_loop [5, 18] (fun a i => ∃ x k : Nat, k ≤ LL.length ∧ a = .int .u32 x ∧ i = .int .i64 k ∧ Hid (x = crcF 4294967295 (LL.take k).flatten)) (fun _ i => LL.length - (intOf i).toNat)
  case atStart => exact ⟨4294967295, 0, Nat.zero_le _, rfl, rfl, Lib.hid rfl⟩
  case round =>
    obtain ⟨x, k, hk, rfl, rfl, HX⟩ := hrel
    by_cases hlt : k < LL.length
    · obtain ⟨p, o, rfl, -, B, cb, hc, hBf⟩ := L1 k LL[k] (List.getElem?_eq_getElem hlt)
      have hB := hBf.bs
      clear hBf
      have hlen := Hl2.out LL[k] (List.getElem_mem hlt)
      have hst : (LL.take (k + 1)).flatten = (LL.take k).flatten ++ LL[k] := by rw [List.take_succ_eq_append_getElem hlt, List.flatten_append]; simp
      obtain ⟨l, hle⟩ : ∃ l, l = LL[k] := ⟨_, rfl⟩
      rw [← hle] at hc hB hlen hst
      have Hst := Lib.hid hst
      clear hle hst
      go_wp2_with fail
      go_loop [5, 24] (fun a i => ∃ y j : Nat, j ≤ l.length ∧ a = .int .u32 y ∧ i = .int .i64 j ∧ Hid (y = crcF x (l.take j))) (fun _ i => l.length - (intOf i).toNat)
      case atStart => exact ⟨x, 0, Nat.zero_le _, rfl, rfl, Lib.hid rfl⟩
      case round =>
        obtain ⟨y, j, hj, rfl, rfl, HY⟩ := hrel
        have hx32 : x < 4294967296 := by rw [HX.out]; exact crcF_lt _ (by decide)
        by_cases hjl : j < l.length
        · obtain ⟨p', o', rfl, hcb⟩ := hB j l[j] (List.getElem?_eq_getElem hjl)
          have hy32 : y < 4294967296 := by rw [HY.out]; exact crcF_lt _ hx32
          have hsn := crcF_snoc l j hjl x
          rw [← HY.out] at hsn
          obtain ⟨b, hb⟩ : ∃ b, b = l[j] := ⟨_, rfl⟩
          rw [← hb] at hcb hsn
          have hb8 := b.toNat_lt
          unfold bv at hcb
          rw [crcB_table _ _ hb8] at hsn
          obtain ⟨bn, hbn⟩ : ∃ bn, bn = b.toNat := ⟨_, rfl⟩
          rw [← hbn] at hcb hsn hb8
          obtain ⟨y8, hy8⟩ : ∃ y8, y8 = y % 256 := ⟨_, rfl⟩
          obtain ⟨yh, hyh⟩ : ∃ yh, yh = y / 256 := ⟨_, rfl⟩
          obtain ⟨ix, hix⟩ : ∃ ix, ix = (y ^^^ bn) % 256 := ⟨_, rfl⟩
          have hix2 : ix = y8 ^^^ bn := by
            rw [hix, hy8, show (256 : Nat) = 2 ^ 8 from rfl, Nat.xor_mod_two_pow, Nat.mod_eq_of_lt (show bn < 2 ^ 8 from hb8)]
          have hixl : ix < 256 := by rw [hix]; exact Nat.mod_lt _ (by decide)
          have ht := hM.entry ix hixl
          have htl := csteps_lt 8 (show ix < 4294967296 by omega)
          rw [← hix, ← hyh] at hsn
          obtain ⟨t, htt⟩ : ∃ t, t = csteps 8 ix := ⟨_, rfl⟩
          rw [← htt] at ht htl hsn
          have e1 : IntKind.u8.wrap (y : Int) = (y8 : Int) := by rw [IntKind.wrap_u8]; omega
          have e2 : bits .xor .u8 (y8 : Int) (bn : Int) = (ix : Int) := by rw [hix2]; exact xor_u8 _ _ (by omega) hb8
          have e3 : (y : Int) / 256 = (yh : Int) := by omega
          obtain ⟨z, hz⟩ : ∃ z, z = t ^^^ yh := ⟨_, rfl⟩
          have e4 : bits .xor .u32 (t : Int) (yh : Int) = (z : Int) := by rw [hz]; exact xor_u32 _ _ htl (by omega)
          rw [← hz] at hsn
          have i0 : 0 ≤ (ix : Int) := by omega
          have i1 : (ix : Int) < 256 := by omega
          have i2 : (ix : Int).toNat = ix := by omega
          have i3 : ix ≤ 255 := by omega
          have Hsn := Lib.hid hsn
          clear hsn hy8 hyh hix hix2 htt hz hb hbn htl hy32 hb8 hx32
          go_wp2_with fail
          go_round
          case rel => exact ⟨z, j + 1, by omega, rfl, by go_num, Lib.hid Hsn.out.symm⟩
          case measure => simp [intOf]; omega
        · obtain rfl : j = l.length := by omega
          rw [List.take_length] at HY
          clear hx32
          go_wp2_with fail
          go_round
          case rel => exact ⟨y, k + 1, by omega, rfl, by go_num, Lib.hid (by rw [HY.out, HX.out, Hst.out, crcF_append])⟩
          case measure => simp [intOf]; omega
    · obtain rfl : k = LL.length := by omega
      rw [List.take_length] at HX
      have hx32 : x < 4294967296 := by rw [HX.out]; exact crcF_lt _ (by decide)
      obtain ⟨z, hz⟩ : ∃ z, z = 4294967295 - x := ⟨_, rfl⟩
      have e1 : bits .xor .u32 IntKind.u32.max (x : Int) = (z : Int) := by rw [hz]; exact not_u32 x hx32
      have HZ : Hid (z = crcL LL.flatten) := Lib.hid (by rw [hz, HX.out]; rfl)
      clear hx32 hz
      go_wp2_with fail
      go_ret
      exact ⟨z, HZ, rfl, hM, hTc⟩

set_option maxRecDepth 100000 in
theorem refNext_any (c : Nat) (b : Nat) (w : World) (hc : c < 4294967296) (hb : b < 256) :
    Calls Try.prog 52 #[.int .u32 c, .int .u8 b] w fun e w' => ∃ x : Nat, Hid (x = crcB c b) ∧ e = .returned (.int .u32 x) ∧ w = w' := by
  obtain ⟨c1, hc1⟩ : ∃ c1, c1 = c ^^^ b := ⟨_, rfl⟩
  have hlt : c1 < 4294967296 := by rw [hc1]; exact Nat.xor_lt_two_pow (n := 32) hc (by omega)
  have e0 : bits .xor .u32 (c : Int) (b : Int) = (c1 : Int) := by rw [hc1]; exact xor_u32 c b hc (by omega)
  have e9 : IntKind.u32.wrap (b : Int) = (b : Int) := wrap_32 b (by omega)
  have HB : Hid (csteps 8 c1 = crcB c b) := Lib.hid (by rw [hc1]; rfl)
  have HC := Lib.hid hlt
  clear hc1 hlt hc hb
  go_enter Try.func52, Try.ntmps52
  go_wp2_with fail
  clear e0 e9
  go_loop [0, 5] (fun a i => ∃ x k : Nat, k ≤ 8 ∧ a = .int .u32 x ∧ i = .int .i64 k ∧ Hid (x = csteps k c1)) (fun _ i => 8 - (intOf i).toNat)
  case atStart => exact ⟨c1, 0, by omega, rfl, rfl, Lib.hid rfl⟩
  case round =>
    obtain ⟨x, k, hk, rfl, rfl, HX⟩ := hrel
    rcases Nat.lt_or_ge k 8 with hlt | hge
    · have hx : x < 4294967296 := by rw [HX.out]; exact csteps_lt k HC.out
      have hs := csteps_succ k c1
      rw [← HX.out] at hs
      unfold cstep at hs
      obtain ⟨d, hd⟩ : ∃ d, d = x % 2 := ⟨_, rfl⟩
      obtain ⟨h, hh⟩ : ∃ h, h = x / 2 := ⟨_, rfl⟩
      have e1 : (x : Int) % 2 = (d : Int) := by omega
      have e1' : (x : Int).tmod 2 = (d : Int) := by rw [Int.tmod_eq_emod_of_nonneg (by omega)]; omega
      have e2 : (x : Int) / 2 = (h : Int) := by omega
      have e2' : (x : Int).tdiv 2 = (h : Int) := by rw [Int.tdiv_eq_ediv_of_nonneg (by omega)]; omega
      have e5 : IntKind.u32.wrap (h : Int) = (h : Int) := wrap_32 h (by omega)
      rw [← hd, ← hh] at hs
      by_cases ho : d = 1
      · rw [if_pos ho] at hs
        have t1 : ((d : Int) == 1) = true := by simp; omega
        have t2 : (d == 1) = true := by simp; omega
        obtain ⟨y, hy⟩ : ∃ y, y = h ^^^ 2197175160 := ⟨_, rfl⟩
        have e3 : bits .xor .u32 (h : Int) 2197175160 = (y : Int) := by rw [hy]; exact xor_u32 h 2197175160 (by omega) (by decide)
        rw [← hy] at hs
        have HS := Lib.hid hs
        clear hs hd hh ho hy hx
        go_wp2_with fail
        go_round
        case rel => exact ⟨y, k + 1, by omega, rfl, by go_num, Lib.hid HS.out.symm⟩
        case measure => simp [intOf]; omega
      · rw [if_neg ho] at hs
        have t1 : ((d : Int) == 1) = false := by simp; omega
        have t2 : (d == 1) = false := by simp; omega
        have HS := Lib.hid hs
        clear hs hd hh ho hx
        go_wp2_with fail
        go_round
        case rel => exact ⟨h, k + 1, by omega, rfl, by go_num, Lib.hid HS.out.symm⟩
        case measure => simp [intOf]; omega
    · obtain rfl : k = 8 := by omega
      go_wp2_with fail
      go_ret
      exact ⟨x, Lib.hid (by rw [HX.out, HB.out]), rfl, rfl⟩

set_option maxRecDepth 100000 in
theorem refSum_any (A : Option Addr) (c : Nat) (l : List UInt8) (w : World) (hA : Bs w A l) (hl : l.length ≤ 1000000) :
    Calls Try.prog 34 #[.slice A l.length c] w fun e w' => ∃ x : Nat, Hid (x = crcL l) ∧ e = .returned (.int .u32 x) ∧ w = w' := by
  go_enter Try.func34, Try.ntmps34
  go_wp2_with fail
  go_loop [3, 4] (fun a i => ∃ x k : Nat, k ≤ l.length ∧ a = .int .u32 x ∧ i = .int .i64 k ∧ Hid (x = crcF 4294967295 (l.take k))) (fun _ i => l.length - (intOf i).toNat)
  case atStart => exact ⟨4294967295, 0, Nat.zero_le _, rfl, rfl, Lib.hid rfl⟩
  case round =>
    obtain ⟨x, k, hk, rfl, rfl, HX⟩ := hrel
    have hx32 : x < 4294967296 := by rw [HX.out]; exact crcF_lt _ (by decide)
    have Hx32 := Lib.hid hx32
    by_cases hlt : k < l.length
    · obtain ⟨p, o, rfl, hc⟩ := hA k l[k] (List.getElem?_eq_getElem hlt)
      have hsn := crcF_snoc l k hlt 4294967295
      rw [← HX.out] at hsn
      obtain ⟨b, hb⟩ : ∃ b, b = l[k] := ⟨_, rfl⟩
      rw [← hb] at hc hsn
      have hb8 := b.toNat_lt
      unfold bv at hc
      obtain ⟨bn, hbn⟩ : ∃ bn, bn = b.toNat := ⟨_, rfl⟩
      rw [← hbn] at hc hsn hb8
      have Hsn := Lib.hid hsn
      have Hb8 := Lib.hid hb8
      clear hsn hb hbn hb8 hx32
      go_wp2_with fail
      refine (refNext_any x bn _ Hx32.out Hb8.out).mono ?_
      rintro e w2 ⟨y, HY, rfl, rfl⟩
      go_wp2_with fail
      go_round
      case rel => exact ⟨y, k + 1, by omega, rfl, by go_num, Lib.hid (by rw [HY.out, Hsn.out])⟩
      case measure => simp [intOf]; omega
    · obtain rfl : k = l.length := by omega
      rw [List.take_length] at HX
      obtain ⟨z, hz⟩ : ∃ z, z = 4294967295 - x := ⟨_, rfl⟩
      have e1 : bits .xor .u32 IntKind.u32.max (x : Int) = (z : Int) := by rw [hz]; exact not_u32 x hx32
      have HZ : Hid (z = crcL l) := Lib.hid (by rw [hz, HX.out]; rfl)
      clear hx32 hz
      go_wp2_with fail
      go_ret
      exact ⟨z, HZ, rfl, rfl⟩

end Go.Proofs.Ytpedobpbpomkaaa

/- Layer 7: Encode of the document. -/
set_option linter.unusedSimpArgs false
set_option linter.unusedVariables false
namespace Go.Proofs.Ytpedobpbpomkaaa
open Go.RowKit
set_option maxRecDepth 100000

theorem own_built (w : World) (bs : List UInt8) {base : Nat} (hb : base ≤ w.heap.size) (hl : bs.length ≤ 100000) : OwnB (w.alloc (.cells (bs.map bv).toArray 5)) base (.slice (some ⟨w.heap.size, 0, none⟩) bs.length bs.length) bs :=
  ⟨by simp, .inr ⟨w.heap.size, bs.length, (bs.map bv).toArray, rfl, hb, heap_alloc_new w _, Nat.le_refl _, by unfold maxLen; omega, by simp, by simp [List.take_of_length_le]⟩⟩
theorem rput7_N (v wd N : Nat) (A : Option Addr) (c : Nat) (L : List UInt8) (base : Nat) (w : World) (hN : N = L.length) (hown : OwnB w base (.slice A N c) L) (hwd : wd ≤ 8) (hv : v < 18446744073709551616) (hL : N ≤ 100000) (hb : base ≤ w.heap.size) :
    Calls Try.prog 33 #[.slice A N c, .int .u64 (v : Nat), .int .i64 (wd : Nat)] w fun e w' => ∃ A' c' N', e = .returned (.slice A' N' c') ∧ Hid (N' = N + wd ∧ OwnB w' base (.slice A' N' c') (L ++ be wd v) ∧ Below base w w') := by
  subst hN
  exact rput7_any v wd A c L base w hown hwd hv hL hb
theorem be_one {x : Nat} (h : x < 256) : be 1 x = [UInt8.ofNat x] := by simp [be, Nat.mod_eq_of_lt h]
theorem body_eq (f : FrD) (hk : f.kd < 256) : bodyF f = [68, 89, UInt8.ofNat f.kd] ++ be 4 f.ep ++ be 4 f.se ++ be 4 f.fc ++ be 4 f.fb ++ be 4 f.fn ++ be 4 f.cn ++ [if f.cl then 1 else 0] ++ be 8 f.sm ++ be 4 f.n.toNat ++ f.l := by
  have h1 : be 1 (if f.cl then 1 else 0) = [if f.cl then 1 else 0] := by cases f.cl <;> rfl
  unfold bodyF segF
  rw [be_one hk, h1]
  simp
theorem blk_says {w : World} {g : Nat} {t : TypeId} {cs : Array Value} (h : Blk w g t cs) : cellsSay w g 0 cs.toList := cells_say h _ 0 rfl

theorem rfenc_no (f : FrD) (A : Option Addr) (c : Nat) (w : World) (hA : Bs w A f.l) (ho : f.ok) (hL : f.l.length ≤ 100000) (hm : mayF f = false) :
    Calls Try.prog 15 #[.agg (frC f A c)] w fun e w' => e = .returned (.tuple #[.slice none 0 0, .int .i64 70]) ∧ Below w.heap.size w w' := by
  have hM := rfmay_any f A c (w.alloc (.cells (frC f A c) 30)) (hA.below (below_alloc w _)) ho hL
  rw [hm] at hM
  clear hA ho hm
  obtain ⟨kd, ep, se, fc, fb, fn, cn, cl, sm, l, n⟩ := f
  simp only [frC] at hM ⊢
  have HM := Lib.hid hM
  have HK := Lib.hid ((Qs.zero w).box #[.int .u8 (kd : Nat), .int .u32 (ep : Nat), .int .u32 (se : Nat), .int .u32 (fc : Nat), .int .u32 (fb : Nat), .int .u32 (fn : Nat), .int .u32 (cn : Nat), .bool cl, .int .u64 (sm : Nat), .slice A l.length c, .int .i64 n] 30)
  have C := HK.out.says
  simp only [sayAll, cellsSay, qB, qW, Nat.reduceAdd, and_true, true_and] at C
  clear hM
  go_enter Try.func15, Try.ntmps15
  go_wp2_with fail
  refine HM.out.mono ?_
  rintro e w1 ⟨rfl, b1⟩
  have HK1 := Lib.hid (HK.out.go b1)
  clear b1
  go_wp2_with fail
  go_ret2
  exact ⟨rfl, HK1.out.top 1⟩

set_option maxHeartbeats 16000000 in
theorem rfenc_yes (f : FrD) (A : Option Addr) (c : Nat) (w : World) (hA : Bs w A f.l) (ho : f.ok) (hm : mayF f = true) :
    Calls Try.prog 15 #[.agg (frC f A c)] w fun e w' => ∃ A' c' N, e = .returned (.tuple #[.slice A' N c', .int .i64 0]) ∧ Hid (N = (encF f).length ∧ OwnB w' w.heap.size (.slice A' N c') (encF f) ∧ Below w.heap.size w w') := by
  obtain ⟨hn0, hn1, hl⟩ := mayF_n hm
  have hM := rfmay_any f A c (w.alloc (.cells (frC f A c) 30)) (hA.below (below_alloc w _)) ho (by omega)
  rw [hm] at hM
  have hbd := body_eq f ho.1
  obtain ⟨E, hE⟩ : ∃ E, E = encF f := ⟨_, rfl⟩
  rw [← hE]
  have hE2 : E = bodyF f ++ be 4 (crcL (bodyF f)) := hE
  rw [hbd] at hE2
  obtain ⟨o1, o2, o3, o4, o5, o6, o7, o8, -, -⟩ := ho
  clear hm hbd hE
  obtain ⟨kd, ep, se, fc, fb, fn, cn, cl, sm, l, n⟩ := f
  simp only [frC] at hM hA hn0 hn1 hl hE2 o1 o2 o3 o4 o5 o6 o7 o8 ⊢
  obtain ⟨m, rfl⟩ := Int.eq_ofNat_of_zero_le hn0
  simp only [Int.toNat_natCast] at hE2
  have HE := Lib.hid hE2
  have HM := Lib.hid hM
  have HA := Lib.hid hA
  clear hM hA hE2 hn0
  have u1 : IntKind.u64.wrap (ep : Int) = ep := by rw [IntKind.wrap_u64]; omega
  have u2 : IntKind.u64.wrap (se : Int) = se := by rw [IntKind.wrap_u64]; omega
  have u3 : IntKind.u64.wrap (fc : Int) = fc := by rw [IntKind.wrap_u64]; omega
  have u4 : IntKind.u64.wrap (fb : Int) = fb := by rw [IntKind.wrap_u64]; omega
  have u5 : IntKind.u64.wrap (fn : Int) = fn := by rw [IntKind.wrap_u64]; omega
  have u6 : IntKind.u64.wrap (cn : Int) = cn := by rw [IntKind.wrap_u64]; omega
  have u7 : IntKind.u64.wrap (m : Int) = m := by rw [IntKind.wrap_u64]; omega
  obtain ⟨x, hx⟩ : ∃ x : UInt8, x = UInt8.ofNat kd := ⟨_, rfl⟩
  rw [← hx] at HE
  obtain rfl : kd = x.toNat := by rw [hx]; simp; omega
  clear hx o1
  have HF0 := Lib.hid (Blk.new w 30 #[.int .u8 (x.toNat : Nat), .int .u32 (ep : Nat), .int .u32 (se : Nat), .int .u32 (fc : Nat), .int .u32 (fb : Nat), .int .u32 (fn : Nat), .int .u32 (cn : Nat), .bool cl, .int .u64 (sm : Nat), .slice A l.length c, .int .i64 (m : Nat)])
  have hz0 : w.heap.size + 1 ≤ (w.alloc (.cells #[.int .u8 (x.toNat : Nat), .int .u32 (ep : Nat), .int .u32 (se : Nat), .int .u32 (fc : Nat), .int .u32 (fb : Nat), .int .u32 (fn : Nat), .int .u32 (cn : Nat), .bool cl, .int .u64 (sm : Nat), .slice A l.length c, .int .i64 (m : Nat)] 30)).heap.size := by simp
  go_enter Try.func15, Try.ntmps15
  have C := blk_says HF0.out
  simp only [cellsSay, Nat.reduceAdd, and_true] at C
  go_wp2_with fail
  refine HM.out.mono ?_
  rintro e w1 ⟨rfl, b1⟩
  have HF1 := Lib.hid (Blk.below HF0.out b1 (by simp))
  have HB1 := Lib.hid ((below_alloc w _).trans (b1.mono (by simp)))
  have hz1 : w.heap.size + 1 ≤ w1.heap.size := Nat.le_trans hz0 b1.size
  clear C b1 HM HF0 hz0
  have C := blk_says HF1.out
  simp only [cellsSay, Nat.reduceAdd, and_true] at C
  go_upto_region 5 with fail
  have hO := own_built w1 [68, 89, x] (base := w.heap.size + 1) hz1 (by simp)
  have hb1 := below_alloc w1 (.cells (([68, 89, x] : List UInt8).map bv).toArray 5)
  obtain ⟨w1b, hw1b⟩ : ∃ W, W = w1.alloc (.cells #[.int .u8 68, .int .u8 89, .int .u8 (x.toNat : Nat)] 5) := ⟨_, rfl⟩
  have hO2 : OwnB w1b (w.heap.size + 1) (.slice (some ⟨w1.heap.size, 0, none⟩) 3 3) [68, 89, x] := by rw [hw1b]; exact hO
  have hb1b : Below w1.heap.size w1 w1b := by rw [hw1b]; exact hb1
  rw [← hw1b]
  clear hO hb1 hw1b
  have HF1b := Lib.hid (Blk.below HF1.out hb1b (by omega))
  have HB1b := Lib.hid (HB1.out.trans (Below.mono hb1b (by omega)))
  have hz1b : w.heap.size + 1 ≤ w1b.heap.size := Nat.le_trans hz1 hb1b.size
  obtain ⟨M1, hM1⟩ : ∃ M : List UInt8, M = [68, 89, x] := ⟨_, rfl⟩
  have HM1 := Lib.hid hM1
  have HO1 : Hid (3 = M1.length ∧ OwnB w1b (w.heap.size + 1) (.slice (some ⟨w1.heap.size, 0, none⟩) 3 3) M1) := Lib.hid ⟨by rw [hM1]; rfl, by rw [hM1]; exact hO2⟩
  clear hM1 hb1b hO2
  clear C
  have C := blk_says HF1b.out
  simp only [cellsSay, Nat.reduceAdd, and_true] at C
  have HP := Lib.hid (rput7_N ep 4 3 (some ⟨w1.heap.size, 0, none⟩) 3 M1 (w.heap.size + 1) w1b HO1.out.1 HO1.out.2 (by omega) (by omega) (by omega) hz1b)
  go_wp2_with fail
  refine HP.out.mono ?_
  rintro e w2 ⟨A2, c2, N2, rfl, HR⟩
  have HF2 := Lib.hid (Blk.below HF1b.out HR.out.2.2 (by omega))
  have HB2 := Lib.hid (HB1b.out.trans (Below.mono HR.out.2.2 (by omega)))
  have hz2 : w.heap.size + 1 ≤ w2.heap.size := Nat.le_trans hz1b HR.out.2.2.size
  obtain ⟨M2, hM⟩ : ∃ M : List UInt8, M = M1 ++ be 4 ep := ⟨_, rfl⟩
  have HM2 := Lib.hid hM
  have HO2 : Hid (N2 = M2.length ∧ OwnB w2 (w.heap.size + 1) (.slice A2 N2 c2) M2) := Lib.hid ⟨by rw [hM, List.length_append, be_len, ← HO1.out.1]; exact HR.out.1, by rw [hM]; exact HR.out.2.1⟩
  have HN2 : Hid (N2 = 3 + 4) := Lib.hid HR.out.1
  clear HR hM HP C HO1 HF1b HB1b
  have C := blk_says HF2.out
  simp only [cellsSay, Nat.reduceAdd, and_true] at C
  have HP := Lib.hid (rput7_N se 4 N2 A2 c2 M2 (w.heap.size + 1) w2 HO2.out.1 HO2.out.2 (by omega) (by omega) (by have := HN2.out; omega) hz2)
  go_wp2_with fail
  refine HP.out.mono ?_
  rintro e w3 ⟨A3, c3, N3, rfl, HR⟩
  have HF3 := Lib.hid (Blk.below HF2.out HR.out.2.2 (by omega))
  have HB3 := Lib.hid (HB2.out.trans (Below.mono HR.out.2.2 (by omega)))
  have hz3 : w.heap.size + 1 ≤ w3.heap.size := Nat.le_trans hz2 HR.out.2.2.size
  obtain ⟨M3, hM⟩ : ∃ M : List UInt8, M = M2 ++ be 4 se := ⟨_, rfl⟩
  have HM3 := Lib.hid hM
  have HO3 : Hid (N3 = M3.length ∧ OwnB w3 (w.heap.size + 1) (.slice A3 N3 c3) M3) := Lib.hid ⟨by rw [hM, List.length_append, be_len, ← HO2.out.1]; exact HR.out.1, by rw [hM]; exact HR.out.2.1⟩
  have HN3 : Hid (N3 = 11) := Lib.hid (by have := HN2.out; have := HR.out.1; omega)
  clear HR hM HP C HO2 HF2 HB2
  have C := blk_says HF3.out
  simp only [cellsSay, Nat.reduceAdd, and_true] at C
  have HP := Lib.hid (rput7_N fc 4 N3 A3 c3 M3 (w.heap.size + 1) w3 HO3.out.1 HO3.out.2 (by omega) (by omega) (by have := HN3.out; omega) hz3)
  go_wp2_with fail
  refine HP.out.mono ?_
  rintro e w4 ⟨A4, c4, N4, rfl, HR⟩
  have HF4 := Lib.hid (Blk.below HF3.out HR.out.2.2 (by omega))
  have HB4 := Lib.hid (HB3.out.trans (Below.mono HR.out.2.2 (by omega)))
  have hz4 : w.heap.size + 1 ≤ w4.heap.size := Nat.le_trans hz3 HR.out.2.2.size
  obtain ⟨M4, hM⟩ : ∃ M : List UInt8, M = M3 ++ be 4 fc := ⟨_, rfl⟩
  have HM4 := Lib.hid hM
  have HO4 : Hid (N4 = M4.length ∧ OwnB w4 (w.heap.size + 1) (.slice A4 N4 c4) M4) := Lib.hid ⟨by rw [hM, List.length_append, be_len, ← HO3.out.1]; exact HR.out.1, by rw [hM]; exact HR.out.2.1⟩
  have HN4 : Hid (N4 = 15) := Lib.hid (by have := HN3.out; have := HR.out.1; omega)
  clear HR hM HP C HO3 HF3 HB3
  have C := blk_says HF4.out
  simp only [cellsSay, Nat.reduceAdd, and_true] at C
  have HP := Lib.hid (rput7_N fb 4 N4 A4 c4 M4 (w.heap.size + 1) w4 HO4.out.1 HO4.out.2 (by omega) (by omega) (by have := HN4.out; omega) hz4)
  go_wp2_with fail
  refine HP.out.mono ?_
  rintro e w5 ⟨A5, c5, N5, rfl, HR⟩
  have HF5 := Lib.hid (Blk.below HF4.out HR.out.2.2 (by omega))
  have HB5 := Lib.hid (HB4.out.trans (Below.mono HR.out.2.2 (by omega)))
  have hz5 : w.heap.size + 1 ≤ w5.heap.size := Nat.le_trans hz4 HR.out.2.2.size
  obtain ⟨M5, hM⟩ : ∃ M : List UInt8, M = M4 ++ be 4 fb := ⟨_, rfl⟩
  have HM5 := Lib.hid hM
  have HO5 : Hid (N5 = M5.length ∧ OwnB w5 (w.heap.size + 1) (.slice A5 N5 c5) M5) := Lib.hid ⟨by rw [hM, List.length_append, be_len, ← HO4.out.1]; exact HR.out.1, by rw [hM]; exact HR.out.2.1⟩
  have HN5 : Hid (N5 = 19) := Lib.hid (by have := HN4.out; have := HR.out.1; omega)
  clear HR hM HP C HO4 HF4 HB4
  have C := blk_says HF5.out
  simp only [cellsSay, Nat.reduceAdd, and_true] at C
  have HP := Lib.hid (rput7_N fn 4 N5 A5 c5 M5 (w.heap.size + 1) w5 HO5.out.1 HO5.out.2 (by omega) (by omega) (by have := HN5.out; omega) hz5)
  go_wp2_with fail
  refine HP.out.mono ?_
  rintro e w6 ⟨A6, c6, N6, rfl, HR⟩
  have HF6 := Lib.hid (Blk.below HF5.out HR.out.2.2 (by omega))
  have HB6 := Lib.hid (HB5.out.trans (Below.mono HR.out.2.2 (by omega)))
  have hz6 : w.heap.size + 1 ≤ w6.heap.size := Nat.le_trans hz5 HR.out.2.2.size
  obtain ⟨M6, hM⟩ : ∃ M : List UInt8, M = M5 ++ be 4 fn := ⟨_, rfl⟩
  have HM6 := Lib.hid hM
  have HO6 : Hid (N6 = M6.length ∧ OwnB w6 (w.heap.size + 1) (.slice A6 N6 c6) M6) := Lib.hid ⟨by rw [hM, List.length_append, be_len, ← HO5.out.1]; exact HR.out.1, by rw [hM]; exact HR.out.2.1⟩
  have HN6 : Hid (N6 = 23) := Lib.hid (by have := HN5.out; have := HR.out.1; omega)
  clear HR hM HP C HO5 HF5 HB5
  have C := blk_says HF6.out
  simp only [cellsSay, Nat.reduceAdd, and_true] at C
  have HP := Lib.hid (rput7_N cn 4 N6 A6 c6 M6 (w.heap.size + 1) w6 HO6.out.1 HO6.out.2 (by omega) (by omega) (by have := HN6.out; omega) hz6)
  go_wp2_with fail
  refine HP.out.mono ?_
  rintro e w7 ⟨A7, c7, N7, rfl, HR⟩
  have HF7 := Lib.hid (Blk.below HF6.out HR.out.2.2 (by omega))
  have HB7 := Lib.hid (HB6.out.trans (Below.mono HR.out.2.2 (by omega)))
  have hz7 : w.heap.size + 1 ≤ w7.heap.size := Nat.le_trans hz6 HR.out.2.2.size
  obtain ⟨M7, hM⟩ : ∃ M : List UInt8, M = M6 ++ be 4 cn := ⟨_, rfl⟩
  have HM7 := Lib.hid hM
  have HO7 : Hid (N7 = M7.length ∧ OwnB w7 (w.heap.size + 1) (.slice A7 N7 c7) M7) := Lib.hid ⟨by rw [hM, List.length_append, be_len, ← HO6.out.1]; exact HR.out.1, by rw [hM]; exact HR.out.2.1⟩
  have HN7 : Hid (N7 = 27) := Lib.hid (by have := HN6.out; have := HR.out.1; omega)
  clear HR hM HP C HO6 HF6 HB6
  have C := blk_says HF7.out
  simp only [cellsSay, Nat.reduceAdd, and_true] at C
  obtain ⟨y, hy⟩ : ∃ y : UInt8, y = if cl then 1 else 0 := ⟨_, rfl⟩
  rw [← hy] at HE
  have HY := Lib.hid hy
  clear hy
  go_upto_if 48 with fail
  go_cut [6] (fun s6 wx => s6 = .int .u8 (y.toNat : Nat) ∧ w7 = wx)
  case first =>
    cases cl
    · have hy := HY.out
      go_wp2_with fail
      go_meet
      exact ⟨by rw [hy]; rfl, rfl⟩
    · have hy := HY.out
      go_wp2_with fail
      go_meet
      exact ⟨by rw [hy]; rfl, rfl⟩
  case rest =>
    obtain ⟨rfl, rfl⟩ := hcut
    have hNb := HN7.out
    have hNM := HO7.out.1
    go_upto_region 15 with (at_builtin; go_must (refine appB _ rfl (.tmp 49) (.tmp 51) rfl (w.heap.size + 1) _ M7 rfl (OwnB.alloc HO7.out.2 _) w7.heap.size y rfl ((Blk.new w7 _ _).cell 0) (by omega) (by simp; omega) ?_); intro g9 c9 w9 hown9 hb9)
    have hb9' := ((Below.refl (w.heap.size + 1) w7).alloc hz7 (.cells #[.int .u8 (y.toNat : Nat)] 5)).trans hb9
    have HF9 := Lib.hid (Blk.below HF7.out hb9' (by omega))
    have HB9 := Lib.hid (HB7.out.trans (Below.mono hb9' (by omega)))
    have hz9 : w.heap.size + 1 ≤ w9.heap.size := Nat.le_trans hz7 hb9'.size
    obtain ⟨M9, hM⟩ : ∃ M : List UInt8, M = M7 ++ [y] := ⟨_, rfl⟩
    have HM9 := Lib.hid hM
    have HN9 : Hid (M7.length + 1 = 28) := Lib.hid (by omega)
    have HO9 : Hid (M7.length + 1 = M9.length ∧ OwnB w9 (w.heap.size + 1) (.slice (some ⟨g9, 0, none⟩) (M7.length + 1) c9) M9) := Lib.hid ⟨by rw [hM]; simp, by rw [hM]; exact hown9⟩
    clear hM hb9 hb9' hown9 hNb hNM C
    have hM28 := HN9.out
    rw [hM28] at HO9 ⊢
    clear hM28
    have C := blk_says HF9.out
    simp only [cellsSay, Nat.reduceAdd, and_true] at C
    have HN9b : Hid (28 = 28) := Lib.hid rfl
    have HP := Lib.hid (rput7_N sm 8 28 (some ⟨g9, 0, none⟩) c9 M9 (w.heap.size + 1) w9 HO9.out.1 HO9.out.2 (by omega) (by omega) (by omega) hz9)
    go_wp2_with fail
    refine HP.out.mono ?_
    rintro e w10 ⟨A10, c10, N10, rfl, HR⟩
    have HF10 := Lib.hid (Blk.below HF9.out HR.out.2.2 (by omega))
    have HB10 := Lib.hid (HB9.out.trans (Below.mono HR.out.2.2 (by omega)))
    have hz10 : w.heap.size + 1 ≤ w10.heap.size := Nat.le_trans hz9 HR.out.2.2.size
    obtain ⟨M10, hM⟩ : ∃ M : List UInt8, M = M9 ++ be 8 sm := ⟨_, rfl⟩
    have HM10 := Lib.hid hM
    have HO10 : Hid (N10 = M10.length ∧ OwnB w10 (w.heap.size + 1) (.slice A10 N10 c10) M10) := Lib.hid ⟨by rw [hM, List.length_append, be_len, ← HO9.out.1]; exact HR.out.1, by rw [hM]; exact HR.out.2.1⟩
    have hNl10 : N10 ≤ 36 := by have := HR.out.1; omega
    clear HR hM HP C HO9 HF9 HB9
    have C := blk_says HF10.out
    simp only [cellsSay, Nat.reduceAdd, and_true] at C
    have HP := Lib.hid (rput7_N m 4 N10 A10 c10 M10 (w.heap.size + 1) w10 HO10.out.1 HO10.out.2 (by omega) (by omega) (by omega) hz10)
    go_wp2_with fail
    refine HP.out.mono ?_
    rintro e w11 ⟨A11, c11, N11, rfl, HR⟩
    have HF11 := Lib.hid (Blk.below HF10.out HR.out.2.2 (by omega))
    have HB11 := Lib.hid (HB10.out.trans (Below.mono HR.out.2.2 (by omega)))
    have hz11 : w.heap.size + 1 ≤ w11.heap.size := Nat.le_trans hz10 HR.out.2.2.size
    obtain ⟨M11, hM⟩ : ∃ M : List UInt8, M = M10 ++ be 4 m := ⟨_, rfl⟩
    have HM11 := Lib.hid hM
    have HO11 : Hid (N11 = M11.length ∧ OwnB w11 (w.heap.size + 1) (.slice A11 N11 c11) M11) := Lib.hid ⟨by rw [hM, List.length_append, be_len, ← HO10.out.1]; exact HR.out.1, by rw [hM]; exact HR.out.2.1⟩
    have hNl11 : N11 ≤ 40 := by have := HR.out.1; omega
    clear HR hM HP C HO10 HF10 HB10
    have C := blk_says HF11.out
    simp only [cellsSay, Nat.reduceAdd, and_true] at C
    go_upto_region 18 with (at_builtin; go_must (refine appAll _ rfl (.tmp 63) (.tmp 66) rfl (w.heap.size + 1) _ M11 rfl HO11.out.2 A c l rfl (HA.out.below HB11.out) (by have := HO11.out.1; omega) hz11 ?_); intro A12 c12 w12 hown12 hb12)
    have HB12 := Lib.hid (HB11.out.trans (Below.mono hb12 (by omega)))
    have hz12 : w.heap.size + 1 ≤ w12.heap.size := Nat.le_trans hz11 hb12.size
    obtain ⟨M12, hM⟩ : ∃ M : List UInt8, M = M11 ++ l := ⟨_, rfl⟩
    have HM12 := Lib.hid hM
    obtain ⟨N12, hN12⟩ : ∃ N, N = M11.length + l.length := ⟨_, rfl⟩
    rw [← hN12] at hown12 ⊢
    have HO12 : Hid (N12 = M12.length ∧ OwnB w12 (w.heap.size + 1) (.slice A12 N12 c12) M12) := Lib.hid ⟨by rw [hM, hN12]; simp, by rw [hM]; exact hown12⟩
    have hNl12 : N12 ≤ 5000 := by have := HO11.out.1; omega
    have HBs := Lib.hid (HO12.out.2.bs)
    have HS : Hid (∀ W : World, W = w12 → Calls Try.prog 34 #[.slice A12 N12 c12] W fun e w' => ∃ x : Nat, Hid (x = crcL M12) ∧ e = .returned (.int .u32 x) ∧ W = w') := Lib.hid (fun W hW => by
      subst hW
      have := refSum_any A12 c12 M12 W HBs.out (by have := HO12.out.1; omega)
      rw [← HO12.out.1] at this
      exact this)
    clear hM hN12 hown12 hb12 C HF11 HB11 HO11
    go_wp2_with fail
    refine (HS.out _ rfl).mono ?_
    rintro e w13 ⟨s, HSm, rfl, rfl⟩
    have hs32 : s < 4294967296 := by rw [HSm.out]; exact crcL_lt _
    have us : IntKind.u64.wrap (s : Int) = s := by rw [IntKind.wrap_u64]; omega
    have HP := Lib.hid (rput7_N s 4 N12 A12 c12 M12 (w.heap.size + 1) w12 HO12.out.1 HO12.out.2 (by omega) (by omega) (by omega) hz12)
    go_wp2_with fail
    refine HP.out.mono ?_
    rintro e w14 ⟨A14, c14, N14, rfl, HR⟩
    have HF : Hid (N14 = E.length ∧ OwnB w14 w.heap.size (.slice A14 N14 c14) E ∧ Below w.heap.size w w14) := Lib.hid (by
      have hEq : M12 ++ be 4 s = E := by
        rw [HSm.out, HE.out]
        have hM : M12 = [68, 89, x] ++ be 4 ep ++ be 4 se ++ be 4 fc ++ be 4 fb ++ be 4 fn ++ be 4 cn ++ [y] ++ be 8 sm ++ be 4 m ++ l := by
          rw [HM12.out, HM11.out, HM10.out, HM9.out, HM7.out, HM6.out, HM5.out, HM4.out, HM3.out, HM2.out, HM1.out]
        rw [hM]
      refine ⟨?_, ?_, HB12.out.trans (Below.mono HR.out.2.2 (by omega))⟩
      · rw [← hEq, List.length_append, be_len, ← HO12.out.1]; exact HR.out.1
      · rw [← hEq]; exact HR.out.2.1.mono (by omega))
    clear HR HP
    go_wp2_with fail
    go_ret2
    exact ⟨A14, c14, N14, rfl, HF⟩

end Go.Proofs.Ytpedobpbpomkaaa
