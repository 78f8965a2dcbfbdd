/- The program's parts: the iterator's contract. -/
import Derived.RangeFuncNested
import Derived.RangeFuncBound
import Derived.RangeFuncCalls
import Derived.RangeFuncLeaves
import Derived.RangeFuncBox
import Derived.Shelf.Abstract
import Derived.Shelf.RegionOpen
import Derived.WalkKit
import Derived.OwnWalkIn
import Derived.TacticsInMore
import Derived.LoopNIn
import Derived.LoopIn
import Derived.Maps.AppendAt
import Derived.Test.YtipbkfjmblkolaaStf3
namespace Go.Proofs.Ytipbkfjmblkolaa
open Go.RowKit Go.Shelf

attribute [local go_sem] Oper.semAt_some

/-- a part, as a round is handed it: where it lies, its cap, its bytes in the world w0 -/
def PartIn (w0 : World) := { x : Option Addr × Nat × List UInt8 // Bs w0 x.1 x.2.2 ∧ x.2.2.length ≤ x.2.1 ∧ x.2.2.length ≤ 100000 }
def encP {w0 : World} (x : PartIn w0) : Array Value := #[.slice x.1.1 x.1.2.2.length x.1.2.1]
def bytesP {w0 : World} (xs : List (PartIn w0)) : List (List UInt8) := xs.map (·.1.2.2)
theorem bytesP_snoc {w0 : World} (xs : List (PartIn w0)) (x : PartIn w0) : bytesP (xs ++ [x]) = bytesP xs ++ [x.1.2.2] := by simp [bytesP]

theorem grownBy_drewN (W : World) (n : Nat) : W.grownBy (W.drewN n) none := ⟨rfl, rfl, rfl, Nat.le_refl _, fun _ _ _ => rfl⟩

set_option maxRecDepth 100000 in
set_option maxHeartbeats 2000000 in
theorem parts1_in (n : Nat) (hn : 1 ≤ n) (l Bn : Nat) (w0 : World) (A : Option Addr) (c : Nat) (bs : List UInt8) (hbs : Bs w0 A bs) (hc : bs.length ≤ c) (hm : bs.length ≤ 100000)
    (J Jx : List (PartIn w0) → World → Prop) (W : World) (hJ : AbidesFrom W.heap.size J)
    (hY : ∀ pre x W1, J pre W1 → pre.length < bs.length + 1 → YieldAt Fence.wide (n - 1) Try.prog l (encP x) W1 fun e W' =>
      (e = .returned (.bool true) ∧ J (pre ++ [x]) W' ∧ Below w0.heap.size W1 W') ∨ (e = .returned (.bool false) ∧ Jx (pre ++ [x]) W'))
    (hW : Below w0.heap.size w0 W) (hBn : W.cell? ⟨Bn, 0, none⟩ = some (.slice A bs.length c)) (h0 : J [] W) :
    CallsIn Fence.wide n Try.prog 35 #[.func (.yield l) #[] #[], .pointer (some ⟨Bn, 0, none⟩)] W fun e W' => (∃ v, e = .returned v) ∧
      ((∃ ys, bytesP ys = parts0 bs ∧ J ys W') ∨ (∃ pre : List (PartIn w0), True ∧ Jx pre W')) := by
  refine callsIn_of_wp Try.func35 rfl trivial ?_ rfl
  simp only [Try.ntmps35, List.size_toArray, List.length_cons, List.length_nil, Nat.reduceAdd, Nat.reduceSub, Array.replicate_succ, Array.replicate_zero, List.push_toArray, List.append_toArray, List.nil_append, List.cons_append]
  gi_wp2
  gi_loopw [3, 4] (fun s0 s1 wr => ∃ (pre : List (PartIn w0)), J pre wr ∧ Below w0.heap.size w0 wr ∧
      ((∃ A' c' rest, s0 = .slice A' rest.length c' ∧ s1 = .bool true ∧ Bs w0 A' rest ∧ rest.length ≤ c' ∧ Hid (bytesP pre ++ parts0 rest = parts0 bs) ∧ pre.length + rest.length ≤ bs.length) ∨ (∃ A' n' c', s0 = .slice A' n' c' ∧ s1 = .bool false ∧ Hid (bytesP pre = parts0 bs))))
    (fun s0 s1 _ => match s1 with | .bool true => (match s0 with | .slice _ n _ => n + 1 | _ => 1) | _ => 0)
  case atStart => exact ⟨[], h0, hW, .inl ⟨A, c, bs, rfl, rfl, hbs, hc, Lib.hid rfl, by simp⟩⟩
  case round =>
    obtain ⟨pre, hJs, tB, ⟨A', c', rest, rfl, rfl, hr, hrc, HP, hpl⟩ | ⟨A', n', c', rfl, rfl, HP⟩⟩ := hrel
    · have hJA := hJ pre wr (wr.alloc (.cells #[.int .u8 0] 5)) none hJs (World.grownBy_alloc wr _ none) (fun r e => by cases e)
      have hbA := (tB.trans ((below_alloc wr (.cells #[.int .u8 0] 5)).mono tB.size))
      have hbs0 : (wr.alloc (.cells #[.int .u8 0] 5)).cell? ⟨wr.heap.size, 0, none⟩ = some (.int .u8 0) := box_cell _ _ _ _ _ rfl
      rcases zero_cases rest with hz | ⟨a, r, hz, hra⟩
      · have hrl : rest.length ≤ 100000 := by omega
        have hpx : pre.length < bs.length + 1 := by omega
        obtain ⟨x, hx1, hx2⟩ : ∃ x : PartIn w0, encP x = #[.slice A' rest.length c'] ∧ x.1.2.2 = rest := ⟨⟨(A', c', rest), hr, hrc, hrl⟩, rfl, rfl⟩
        have Hfin : Hid (bytesP (pre ++ [x]) = parts0 bs) := Lib.hid (by rw [bytesP_snoc, hx2, ← HP.out, parts0_noz hz])
        have Hz := Lib.hid hz
        obtain ⟨fn, tmps, assign, body, hy, hR⟩ := hY pre x _ hJA hpx
        rw [hx1] at hy
        clear hx1 hx2 hz HP hpl
        gi_wp2_with (refine ⟨trivial, ?_⟩; gi_at_call 28; refine (callsIn_wide.2 (cut_miss c' wr.heap.size 1 _ (hr.belowB hbA (Nat.le_refl _)) hbs0 Hz.out)).mono ?_; rintro e w1 ⟨rfl, rfl⟩)
        refine hR.mono ?_
        rintro e W3 (⟨rfl, hJ3, hk3⟩ | ⟨rfl, hJx3⟩)
        · gi_wp2
          go_roundw
          case rel => exact ⟨_, hJ3, hbA.trans hk3, .inr ⟨none, 0, 0, rfl, rfl, Hfin⟩⟩
          case measure =>
            show 0 < rest.length + 1
            omega
        · gi_wp2
          refine bodyPost_ret (results_none rfl _ _ _) rfl ?_
          exact ⟨⟨_, rfl⟩, .inr ⟨_, trivial, hJx3⟩⟩
      · have hlen : rest.length = a.length + 1 + r.length := by rw [hra]; simp; omega
        have hra0 : Bs w0 A' a := by
          have := hr.take a.length
          rwa [hra, List.take_left] at this
        have hal : a.length ≤ 100000 := by omega
        have hac : a.length ≤ c' := by omega
        have hpx : pre.length < bs.length + 1 := by omega
        obtain ⟨x, hx1, hx2⟩ : ∃ x : PartIn w0, encP x = #[.slice A' a.length c'] ∧ x.1.2.2 = a := ⟨⟨(A', c', a), hra0, hac, hal⟩, rfl, rfl⟩
        have Hfin : Hid (bytesP (pre ++ [x]) ++ parts0 r = parts0 bs) := Lib.hid (by rw [bytesP_snoc, hx2, ← HP.out, hra, parts0_app hz]; simp)
        have Hcut := Lib.hid (cut_hit a r c' wr.heap.size 1 _ (hr.belowB hbA (Nat.le_refl _)) hbs0 hra hz hrc (by omega))
        have HJ2 := Lib.hid (fun n2 => hJ pre _ ((wr.alloc (.cells #[.int .u8 0] 5)).drewN n2) none hJA (grownBy_drewN _ n2) (fun r e => by cases e))
        have Hr0 := Lib.hid hr
        have Hpl := Lib.hid hpl
        have Hlen := Lib.hid hlen
        have Hrc := Lib.hid hrc
        clear hz HP hpl hra hra0 hlen hx2 hrc hac
        gi_wp2_with (refine ⟨trivial, ?_⟩; gi_at_call 28; refine (callsIn_wide.2 Hcut.out).mono ?_; rintro e w1 ⟨A2, n2, rfl, hA2, rfl⟩; obtain ⟨fn, tmps, assign, body, hy, hR⟩ := hY pre x _ (HJ2.out n2) hpx; rw [hx1] at hy; have HA2 := Lib.hid hA2; clear hA2)
        refine hR.mono ?_
        rintro e W3 (⟨rfl, hJ3, hk3⟩ | ⟨rfl, hJx3⟩)
        · gi_wp2
          go_roundw
          case rel =>
            have := Hlen.out
            have := Hrc.out
            have := Hpl.out
            exact ⟨_, hJ3, (show Below w0.heap.size w0 ((wr.alloc (.cells #[.int .u8 0] 5)).drewN n2) from ⟨hbA.os, hbA.tape, hbA.output, hbA.size, hbA.block⟩).trans hk3, .inl ⟨A2, c' - (a.length + 1), r, rfl, rfl, HA2.out w0 Hr0.out, by omega, Hfin, by rw [List.length_append]; simp; omega⟩⟩
          case measure =>
            show r.length + 1 < rest.length + 1
            have := Hlen.out
            omega
        · gi_wp2
          refine bodyPost_ret (results_none rfl _ _ _) rfl ?_
          exact ⟨⟨_, rfl⟩, .inr ⟨_, trivial, hJx3⟩⟩
    · gi_wp2
      go_end0
      exact ⟨⟨_, rfl⟩, .inl ⟨pre, HP.out, hJs⟩⟩

theorem parts_stops (n : Nat) (hn : 1 ≤ n) (Bn : Nat) (w0 w : World) (A : Option Addr) (c : Nat) (bs : List UInt8) (hbs : Bs w0 A bs) (hc : bs.length ≤ c) (hm : bs.length ≤ 100000) (hw : Below w0.heap.size w0 w)
    (hB : Bn < w.heap.size) (hBn : w.cell? ⟨Bn, 0, none⟩ = some (.slice A bs.length c)) :
    SeqStopsK Fence.wide n Try.prog 35 #[.pointer (some ⟨Bn, 0, none⟩)] (encP (w0 := w0)) (Below w0.heap.size) (fun ys => bytesP ys = parts0 bs) (fun _ => True) (bs.length + 1) w := fun l J Jx W hW hJ _ hY h0 =>
  parts1_in n hn l Bn w0 A c bs hbs hc hm J Jx W hJ hY (hw.trans (hW.mono hw.size)) ((hW.cell (p := ⟨Bn, 0, none⟩) hB).trans hBn) h0

set_option maxRecDepth 100000 in
theorem parts_any (A : Option Addr) (k c : Nat) (w : World) :
    Calls Try.prog 27 #[.slice A k c] w fun e w' => e = .returned (.func (.func 35) #[] #[.pointer (some ⟨w.heap.size, 0, none⟩)]) ∧ w' = w.alloc (.cells #[.slice A k c] 22) := by
  go_enter Try.func27, Try.ntmps27
  go_wp2
  go_ret
  exact ⟨rfl, rfl⟩

end Go.Proofs.Ytipbkfjmblkolaa
