/- Joined: Stf4, Stf4b, Stf5, StfT, StfU. -/
import Derived.RangeFuncNested
import Derived.RangeFuncBound
import Derived.RangeFuncCalls
import Derived.RangeFuncLeaves
import Derived.RangeFuncBox
import Derived.Shelf.Abstract
import Derived.Shelf.RegionOpen
import Derived.WalkKit
import Derived.OwnWalkIn
import Derived.TacticsInMore
import Derived.LoopNIn
import Derived.LoopIn
import Derived.Maps.AppendAt
import Derived.Test.YtiogckgchlnldaaGreatQ11
set_option linter.unusedSimpArgs false
set_option linter.unusedVariables false
/- The program's parts: the iterator's contract. -/
namespace Go.Proofs.YtiogckgchlnldaaGreat
open Go.RowKit Go.Shelf

attribute [local go_sem] Oper.semAt_some

/-- a part, as a round is handed it: where it lies, its cap, its bytes in the world w0 -/
def PartIn (w0 : World) := { x : Option Addr × Nat × List UInt8 // Bs w0 x.1 x.2.2 ∧ x.2.2.length ≤ x.2.1 ∧ x.2.2.length ≤ 200000 }
def encP {w0 : World} (x : PartIn w0) : Array Value := #[.slice x.1.1 x.1.2.2.length x.1.2.1]
def bytesP {w0 : World} (xs : List (PartIn w0)) : List (List UInt8) := xs.map (·.1.2.2)
theorem bytesP_snoc {w0 : World} (xs : List (PartIn w0)) (x : PartIn w0) : bytesP (xs ++ [x]) = bytesP xs ++ [x.1.2.2] := by simp [bytesP]

theorem grownBy_drewN (W : World) (n : Nat) : W.grownBy (W.drewN n) none := ⟨rfl, rfl, rfl, Nat.le_refl _, fun _ _ _ => rfl⟩

set_option maxRecDepth 100000 in
set_option maxHeartbeats 2000000 in
theorem parts1_in (n : Nat) (hn : 1 ≤ n) (l Bn : Nat) (w0 : World) (A : Option Addr) (c : Nat) (bs : List UInt8) (hbs : Bs w0 A bs) (hc : bs.length ≤ c) (hm : bs.length ≤ 200000)
    (J Jx : List (PartIn w0) → World → Prop) (W : World) (hJ : AbidesFrom W.heap.size J)
    (hY : ∀ pre x W1, J pre W1 → pre.length < bs.length + 1 → YieldAt Fence.wide (n - 1) Tryz.prog l (encP x) W1 fun e W' =>
      (e = .returned (.bool true) ∧ J (pre ++ [x]) W' ∧ Below w0.heap.size W1 W') ∨ (e = .returned (.bool false) ∧ Jx (pre ++ [x]) W'))
    (hW : Below w0.heap.size w0 W) (hBn : W.cell? ⟨Bn, 0, none⟩ = some (.slice A bs.length c)) (h0 : J [] W) :
    CallsIn Fence.wide n Tryz.prog 77 #[.func (.yield l) #[] #[], .pointer (some ⟨Bn, 0, none⟩)] W fun e W' => (∃ v, e = .returned v) ∧
      ((∃ ys, bytesP ys = parts0 bs ∧ J ys W') ∨ (∃ pre : List (PartIn w0), True ∧ Jx pre W')) := by
  refine callsIn_of_wp Tryz.func77 rfl trivial ?_ rfl
  simp only [Tryz.ntmps77, List.size_toArray, List.length_cons, List.length_nil, Nat.reduceAdd, Nat.reduceSub, Array.replicate_succ, Array.replicate_zero, List.push_toArray, List.append_toArray, List.nil_append, List.cons_append]
  gi_wp2
  gi_loopw [3, 4] (fun s0 s1 wr => ∃ (pre : List (PartIn w0)), J pre wr ∧ Below w0.heap.size w0 wr ∧
      ((∃ A' c' rest, s0 = .slice A' rest.length c' ∧ s1 = .bool true ∧ Bs w0 A' rest ∧ rest.length ≤ c' ∧ Hid (bytesP pre ++ parts0 rest = parts0 bs) ∧ pre.length + rest.length ≤ bs.length) ∨ (∃ A' n' c', s0 = .slice A' n' c' ∧ s1 = .bool false ∧ Hid (bytesP pre = parts0 bs))))
    (fun s0 s1 _ => match s1 with | .bool true => (match s0 with | .slice _ n _ => n + 1 | _ => 1) | _ => 0)
  case atStart => exact ⟨[], h0, hW, .inl ⟨A, c, bs, rfl, rfl, hbs, hc, Lib.hid rfl, by simp⟩⟩
  case round =>
    obtain ⟨pre, hJs, tB, ⟨A', c', rest, rfl, rfl, hr, hrc, HP, hpl⟩ | ⟨A', n', c', rfl, rfl, HP⟩⟩ := hrel
    · have hJA := hJ pre wr (wr.alloc (.cells #[.int .u8 0] 5)) none hJs (World.grownBy_alloc wr _ none) (fun r e => by cases e)
      have hbA := (tB.trans ((below_alloc wr (.cells #[.int .u8 0] 5)).mono tB.size))
      have hbs0 : (wr.alloc (.cells #[.int .u8 0] 5)).cell? ⟨wr.heap.size, 0, none⟩ = some (.int .u8 0) := box_cell _ _ _ _ _ rfl
      rcases zero_cases rest with hz | ⟨a, r, hz, hra⟩
      · have hrl : rest.length ≤ 200000 := by omega
        have hpx : pre.length < bs.length + 1 := by omega
        obtain ⟨x, hx1, hx2⟩ : ∃ x : PartIn w0, encP x = #[.slice A' rest.length c'] ∧ x.1.2.2 = rest := ⟨⟨(A', c', rest), hr, hrc, hrl⟩, rfl, rfl⟩
        have Hfin : Hid (bytesP (pre ++ [x]) = parts0 bs) := Lib.hid (by rw [bytesP_snoc, hx2, ← HP.out, parts0_noz hz])
        have Hz := Lib.hid hz
        obtain ⟨fn, tmps, assign, body, hy, hR⟩ := hY pre x _ hJA hpx
        rw [hx1] at hy
        clear hx1 hx2 hz HP hpl
        gi_wp2_with (refine ⟨trivial, ?_⟩; gi_at_call 78; refine (callsIn_wide.2 (cut_miss c' wr.heap.size 1 _ (hr.belowB hbA (Nat.le_refl _)) hbs0 Hz.out)).mono ?_; rintro e w1 ⟨rfl, rfl⟩)
        refine hR.mono ?_
        rintro e W3 (⟨rfl, hJ3, hk3⟩ | ⟨rfl, hJx3⟩)
        · gi_wp2
          go_roundw
          case rel => exact ⟨_, hJ3, hbA.trans hk3, .inr ⟨none, 0, 0, rfl, rfl, Hfin⟩⟩
          case measure =>
            show 0 < rest.length + 1
            omega
        · gi_wp2
          refine bodyPost_ret (results_none rfl _ _ _) rfl ?_
          exact ⟨⟨_, rfl⟩, .inr ⟨_, trivial, hJx3⟩⟩
      · have hlen : rest.length = a.length + 1 + r.length := by rw [hra]; simp; omega
        have hra0 : Bs w0 A' a := by
          have := hr.take a.length
          rwa [hra, List.take_left] at this
        have hal : a.length ≤ 200000 := by omega
        have hac : a.length ≤ c' := by omega
        have hpx : pre.length < bs.length + 1 := by omega
        obtain ⟨x, hx1, hx2⟩ : ∃ x : PartIn w0, encP x = #[.slice A' a.length c'] ∧ x.1.2.2 = a := ⟨⟨(A', c', a), hra0, hac, hal⟩, rfl, rfl⟩
        have Hfin : Hid (bytesP (pre ++ [x]) ++ parts0 r = parts0 bs) := Lib.hid (by rw [bytesP_snoc, hx2, ← HP.out, hra, parts0_app hz]; simp)
        have Hcut := Lib.hid (cut_hit a r c' wr.heap.size 1 _ (hr.belowB hbA (Nat.le_refl _)) hbs0 hra hz hrc (by omega))
        have HJ2 := Lib.hid (fun n2 => hJ pre _ ((wr.alloc (.cells #[.int .u8 0] 5)).drewN n2) none hJA (grownBy_drewN _ n2) (fun r e => by cases e))
        have Hr0 := Lib.hid hr
        have Hpl := Lib.hid hpl
        have Hlen := Lib.hid hlen
        have Hrc := Lib.hid hrc
        clear hz HP hpl hra hra0 hlen hx2 hrc hac
        gi_wp2_with (refine ⟨trivial, ?_⟩; gi_at_call 78; refine (callsIn_wide.2 Hcut.out).mono ?_; rintro e w1 ⟨A2, n2, rfl, hA2, rfl⟩; obtain ⟨fn, tmps, assign, body, hy, hR⟩ := hY pre x _ (HJ2.out n2) hpx; rw [hx1] at hy; have HA2 := Lib.hid hA2; clear hA2)
        refine hR.mono ?_
        rintro e W3 (⟨rfl, hJ3, hk3⟩ | ⟨rfl, hJx3⟩)
        · gi_wp2
          go_roundw
          case rel =>
            have := Hlen.out
            have := Hrc.out
            have := Hpl.out
            exact ⟨_, hJ3, (show Below w0.heap.size w0 ((wr.alloc (.cells #[.int .u8 0] 5)).drewN n2) from ⟨hbA.os, hbA.tape, hbA.output, hbA.size, hbA.block⟩).trans hk3, .inl ⟨A2, c' - (a.length + 1), r, rfl, rfl, HA2.out w0 Hr0.out, by omega, Hfin, by rw [List.length_append]; simp; omega⟩⟩
          case measure =>
            show r.length + 1 < rest.length + 1
            have := Hlen.out
            omega
        · gi_wp2
          refine bodyPost_ret (results_none rfl _ _ _) rfl ?_
          exact ⟨⟨_, rfl⟩, .inr ⟨_, trivial, hJx3⟩⟩
    · gi_wp2
      go_end0
      exact ⟨⟨_, rfl⟩, .inl ⟨pre, HP.out, hJs⟩⟩

theorem parts_stops (n : Nat) (hn : 1 ≤ n) (Bn : Nat) (w0 w : World) (A : Option Addr) (c : Nat) (bs : List UInt8) (hbs : Bs w0 A bs) (hc : bs.length ≤ c) (hm : bs.length ≤ 200000) (hw : Below w0.heap.size w0 w)
    (hB : Bn < w.heap.size) (hBn : w.cell? ⟨Bn, 0, none⟩ = some (.slice A bs.length c)) :
    SeqStopsK Fence.wide n Tryz.prog 77 #[.pointer (some ⟨Bn, 0, none⟩)] (encP (w0 := w0)) (Below w0.heap.size) (fun ys => bytesP ys = parts0 bs) (fun _ => True) (bs.length + 1) w := fun l J Jx W hW hJ _ hY h0 =>
  parts1_in n hn l Bn w0 A c bs hbs hc hm J Jx W hJ hY (hw.trans (hW.mono hw.size)) ((hW.cell (p := ⟨Bn, 0, none⟩) hB).trans hBn) h0

set_option maxRecDepth 100000 in
theorem parts_any (A : Option Addr) (k c : Nat) (w : World) :
    Calls Tryz.prog 65 #[.slice A k c] w fun e w' => e = .returned (.func (.func 77) #[] #[.pointer (some ⟨w.heap.size, 0, none⟩)]) ∧ w' = w.alloc (.cells #[.slice A k c] 22) := by
  go_enter Tryz.func65, Tryz.ntmps65
  go_wp2
  go_ret
  exact ⟨rfl, rfl⟩

end Go.Proofs.YtiogckgchlnldaaGreat

/- Appends under a fence: an operation of a drawn region; all of a slice, nil or not; a box behind them. -/
namespace Go.Proofs.YtiogckgchlnldaaGreat
open Go.RowKit Go.Shelf
set_option maxRecDepth 100000

theorem Boxed.appended0 {W w1 : World} {n₀ B : Nat} {t e : TypeId} {size : Nat} {v v' : Value} {k m : Nat} {xs ys : List Value}
    (hv : Boxed W B t v) (hte : t ≠ e) (hrow : W.ownsRow n₀ e size v k xs) (hn₀ : n₀ ≤ W.heap.size) (hB : n₀ ≤ B)
    (hown' : w1.ownsRow n₀ e size v' m ys) (hgrow : W.grownBy w1 v.ownBlock) :
    Boxed w1 B t v ∧ Boxed (w1.setCell ⟨B, 0, none⟩ v') B t v' ∧ (w1.setCell ⟨B, 0, none⟩ v').ownsRow n₀ e size v' m ys ∧ KeepsOthers W (w1.setCell ⟨B, 0, none⟩ v') ∧ Below n₀ W (w1.setCell ⟨B, 0, none⟩ v') := by
  have hv1 : Boxed w1 B t v := hv.kept hgrow (hv.not_row hte hrow)
  refine ⟨hv1, hv1.set v', hown'.kept (grownBy_setCell' w1 B v') (.inr (hv1.not_row hte hown').symm), ?_, ?_⟩
  · refine (KeepsOthers.of_grownBy hgrow fun j o ej hj => ?_).trans (KeepsOthers.setCell _ _ _)
    rcases hrow.2 with ⟨rfl, _⟩ | ⟨g, cap, cur, rfl, _, hgb, _⟩
    · simp [Value.ownBlock] at ej
    · obtain rfl : g = j := by simpa [Value.ownBlock] using ej
      rw [hgb] at hj; cases hj; rfl
  · refine ((Below.refl n₀ W).grown hgrow hn₀ fun j ej => ?_).setCell (p := ⟨B, 0, none⟩) hB v'
    rcases hrow.2 with ⟨rfl, _⟩ | ⟨g, cap, cur, rfl, hb, _, _⟩
    · simp [Value.ownBlock] at ej
    · obtain rfl : g = j := by simpa [Value.ownBlock] using ej
      exact hb

/-- an append keeps whatever is no cells, and what lay below -/
theorem own_keeps {W w1 : World} {n₀ : Nat} {e : TypeId} {size : Nat} {v : Value} {k : Nat} {xs : List Value} {tmp : Obj} (hrow : W.ownsRow n₀ e size v k xs) (hn₀ : n₀ ≤ W.heap.size) (hgrow : (W.alloc tmp).grownBy w1 v.ownBlock) : KeepsOthers W w1 ∧ Below n₀ W w1 := by
  constructor
  · refine (KeepsOthers.alloc W tmp).trans (KeepsOthers.of_grownBy hgrow fun j o ej hj => ?_)
    rcases (hrow.alloc tmp).2 with ⟨rfl, _⟩ | ⟨g, cap, cur, rfl, _, hgb, _⟩
    · simp [Value.ownBlock] at ej
    · obtain rfl : g = j := by simpa [Value.ownBlock] using ej
      rw [hgb] at hj; cases hj; rfl
  · refine ((Below.refl n₀ W).alloc hn₀ tmp).grown hgrow (by simp; omega) fun j ej => ?_
    rcases hrow.2 with ⟨rfl, _⟩ | ⟨g, cap, cur, rfl, hb, _, _⟩
    · simp [Value.ownBlock] at ej
    · obtain rfl : g = j := by simpa [Value.ownBlock] using ej
      exact hb

/-- all of x behind what v owns: the builtin's run -/
theorem run_appAll (w : World) (ty : TypeId) (base : Nat) (v : Value) (L : List UInt8) (hown : OwnB w base v L) (A : Option Addr) (c : Nat) (l : List UInt8) (hb : Bs w A l) (hlen : L.length + l.length ≤ 140737488355328) (hbase : base ≤ w.heap.size) :
    ∃ v' w', (Builtin.append_ #[22, 22] ty #[v, .slice A l.length c]).run Tryz.prog w = .ok v' w' ∧ OwnB w' base v' (L ++ l) ∧ w.grownBy w' v.ownBlock := by
  obtain ⟨i, hi, hz, hsz, hby⟩ := info_parts Tryz.info_u8
  rcases A with _ | ad
  · have h0 : l = [] := by
      cases l with
      | nil => rfl
      | cons b l => obtain ⟨p, o, hA, _⟩ := hb 0 b rfl; cases hA
    subst h0
    exact ⟨v, w, run_app_nil w base 22 ty 5 i 1 Tryz.underlying22 hi _ _ _ hown c, by rw [List.append_nil]; exact hown, ⟨rfl, rfl, rfl, Nat.le_refl _, fun _ _ _ => rfl⟩⟩
  · obtain ⟨v', w', hrun, r1, r2, r3⟩ := run_append_own (P := Tryz.prog) w base 22 ty 5 i (.int .u8 0) 1 1 Tryz.underlying22 hi hz hsz hby rfl (by decide) v L.length (L.map bv) hown ad l.length c (l.map bv) (by simp)
      (fun j u hj => by
        rw [List.getElem?_map] at hj
        obtain ⟨b, hjb, rfl⟩ := Option.map_eq_some_iff.1 hj
        obtain ⟨p, o, hA, hc⟩ := hb j b hjb
        injection hA with e
        subst e
        unfold Addr.add
        split
        · rename_i h0; subst h0; simpa using hc
        · exact hc)
      (fun u hu => by
        obtain ⟨b, _, rfl⟩ := List.mem_map.1 hu
        rfl) (by unfold maxLen; omega) (by omega) hbase
    exact ⟨v', w', hrun, by unfold OwnB; rw [List.length_append, List.map_append]; exact r1, r2⟩

/-- one operation under a fence -/
theorem operAll {F : Fence} {n : Nat} (w : World) {o : Oper} {a : Act} {K : Act → World → Prop} {Q : Exit → Act → World → Prop} (s x : Operand)
    (ho : o.op = .call { callee := .builtin .append, args := #[s, x], argTypes := #[22, 22] })
    (base : Nat) (v : Value) (L : List UInt8) (hs : a.eval s = v) (hown : OwnB w base v L) (A : Option Addr) (c : Nat) (l : List UInt8)
    (hx : a.eval x = .slice A l.length c) (hb : Bs w A l) (hlen : L.length + l.length ≤ 140737488355328) (hbase : base ≤ w.heap.size)
    (h : ∀ v' w', OwnB w' base v' (L ++ l) → w.grownBy w' v.ownBlock → K (a.put o.dst v') w') : Oper.wpIn F n Tryz.prog o a w K Q := by
  obtain ⟨v', w', hrun, r1, r2⟩ := run_appAll w o.type base v L hown A c l hb hlen hbase
  unfold Oper.wpIn
  refine ⟨?_, ?_⟩
  · simp [Oper.about, ho, resolve, Target.leads, Sem.run_pure]
  · rw [Oper.semAt_plain F _ _ (by rw [ho]; intro c hc'; cases hc')]
    simp [execOp, ho, resolve, invoke, builtin, hs, hx, hrun, Result.andThen]
    exact h v' w' r1 r2

theorem appAllIn {F : Fence} {n : Nat} (w : World) {ops : Array Oper} {rest : List Oper} {o : Oper} {a : Act} {Q : Exit → Act → World → Prop} (hgd : o.guard = none) (s x : Operand)
    (ho : o.op = .call { callee := .builtin .append, args := #[s, x], argTypes := #[22, 22] })
    (base : Nat) (v : Value) (L : List UInt8) (hs : a.eval s = v) (hown : OwnB w base v L) (A : Option Addr) (c : Nat) (l : List UInt8)
    (hx : a.eval x = .slice A l.length c) (hb : Bs w A l) (hlen : L.length + l.length ≤ 140737488355328) (hbase : base ≤ w.heap.size)
    (h : ∀ v' w', OwnB w' base v' (L ++ l) → w.grownBy w' v.ownBlock → wpListIn F n Tryz.prog ops Q rest (a.put o.dst v') w') : wpListIn F n Tryz.prog ops Q (o :: rest) a w :=
  wpListIn_plain hgd fun K hK => operAll w s x ho base v L hs hown A c l hx hb hlen hbase fun v' w' h1 h2 => hK _ _ (h v' w' h1 h2)

/-- 'x[i:]' of bytes, under a fence -/
theorem cutBEIn {F : Fence} {n : Nat} (w : World) {ops : Array Oper} {rest : List Oper} {o : Oper} {a : Act} {Q : Exit → Act → World → Prop} (hgd : o.guard = none) (t lo : Operand)
    (ho : o.op = .slice 22 t (some lo) none none) (A : Option Addr) (k c : Nat) (ht : a.eval t = .slice A k c) (hA : Fm A c) (i : Nat) (hlo : a.eval lo = .int .i64 i)
    (hij : i ≤ k) (hj : k ≤ c)
    (h : ∀ X, (∀ w' l, Bs w' A l → l.length ≤ c → Bs w' X (l.drop i)) → Fm X (c - i) → wpListIn F n Tryz.prog ops Q rest (a.put o.dst (.slice X (k - i) (c - i))) w) : wpListIn F n Tryz.prog ops Q (o :: rest) a w := by
  refine wpListIn_plain hgd fun K hK => ?_
  unfold Oper.wpIn
  obtain ⟨X, hr, h1, h2⟩ : ∃ X, (Instr.sliceAt 22 (.slice A k c) (some (.int .i64 i)) none none).run Tryz.prog w = .ok (.slice X (k - i) (c - i)) w ∧ (∀ w' l, Bs w' A l → l.length ≤ c → Bs w' X (l.drop i)) ∧ Fm X (c - i) := by
    rcases hA with rfl | ⟨p, f, rfl⟩
    · obtain rfl : k = 0 := by omega
      obtain rfl : i = 0 := by omega
      exact ⟨A, by rcases A with _ | ⟨p, f, b⟩ <;> simp [go_sem], fun w' l hb _ => hb, .inl rfl⟩
    · exact ⟨if c = i then some ⟨p, f, none⟩ else some ⟨p, f + i, none⟩, by simp [go_sem, hij, hj], fun w' l hb hc => hb.cutAt i hc, .inr (by split <;> exact ⟨_, _, rfl⟩)⟩
  refine ⟨?_, ?_⟩
  · simp [Oper.about, ho]
  · rw [Oper.semAt_plain F _ _ (by rw [ho]; intro c hc'; cases hc')]
    simp [execOp, ho, ht, hlo, hr, Result.andThen]
    exact hK _ _ (h X h1 h2)

end Go.Proofs.YtiogckgchlnldaaGreat

/- The program's Wrap. -/
namespace Go.Proofs.YtiogckgchlnldaaGreat
open Go.RowKit Go.Shelf

attribute [local go_sem] Oper.semAt_some

def outP {w0 : World} (xs : List (PartIn w0)) : List UInt8 := (bytesP xs).flatMap partE
theorem outP_snoc {w0 : World} (xs : List (PartIn w0)) (x : PartIn w0) : outP (xs ++ [x]) = outP xs ++ partE x.1.2.2 := by simp [outP, bytesP_snoc]
theorem outP_len {w0 : World} (xs : List (PartIn w0)) : (outP xs).length ≤ xs.length * 400001 := by
  unfold outP bytesP
  rw [List.flatMap_map]
  induction xs with
  | nil => simp
  | cons x xs ih =>
    rw [List.flatMap_cons, List.length_append, List.length_cons]
    have h1 := partE_len x.1.2.2
    have h2 := x.2.2.2
    omega

set_option maxRecDepth 100000 in
set_option maxHeartbeats 2000000 in
theorem wrap_any (A : Option Addr) (c : Nat) (l : List UInt8) (w : World) (hl : Bs w A l) (hc : l.length ≤ c) (hn : l.length ≤ 200000) :
    Calls Tryz.prog 47 #[.slice A l.length c] w fun e w' => ∃ A' n' c', e = .returned (.slice A' n' c') ∧ n' = (wrapL l).length ∧ OwnB w' w.heap.size (.slice A' n' c') (wrapL l) ∧ Below w.heap.size w w' := by
  have hdiv : l.length / 254 ≤ 200000 := by omega
  have e1 : Int.tdiv (l.length : Int) 254 = ((l.length / 254 : Nat) : Int) := by
    rw [Int.tdiv_eq_ediv_of_nonneg (by omega)]; omega
  have n1 : 0 ≤ (l.length : Int) := by omega
  obtain ⟨dv, hdv⟩ : ∃ dv, dv = l.length / 254 := ⟨_, rfl⟩
  rw [← hdv] at e1 hdiv
  have e2 : IntKind.i64.wrap ((l.length : Int) + (dv : Int)) = ((l.length + dv : Nat) : Int) := by rw [IntKind.wrap_i64]; omega
  have e3 : IntKind.i64.wrap (((l.length + dv : Nat) : Int) + 2) = ((l.length + dv + 2 : Nat) : Int) := by rw [IntKind.wrap_i64]; omega
  have e4 : IntKind.i64.wrap (dv : Int) = (dv : Int) := by rw [IntKind.wrap_i64]; omega
  have e5 : wrap64 ((l.length : Int) + (dv : Int) + 2) = ((l.length + dv + 2 : Nat) : Int) := by unfold wrap64; omega
  have Hn := Lib.hid hn
  have Hdv := Lib.hid hdiv
  clear hdv hdiv hn
  refine (callsIn_wide (n := 3)).1 ?_
  refine callsIn_of_wp_marks Tryz.func47 rfl trivial ?_ rfl
  simp only [Tryz.ntmps47, List.size_toArray, List.length_cons, List.length_nil, Nat.reduceAdd, Nat.reduceSub, Array.replicate_succ, Array.replicate_zero, List.push_toArray, List.append_toArray, List.nil_append, List.cons_append]
  obtain ⟨i, hi, hz, hsz, hby⟩ := info_parts Tryz.info_u8
  gi_wp2_with (first
    | (refine wpListIn_make_own _ rfl _ (.tmp 11) 22 rfl w.heap.size 5 i (.int .u8 0) 1 Tryz.underlying22 hi hz hsz .i64 .i64 _ (l.length + dv + 2) rfl rfl e5 (by have := Hn.out; have := Hdv.out; rw [hby]; omega) (by have := Hn.out; have := Hdv.out; unfold maxLen; omega) (Nat.le_refl _) ?_; intro w1 o1 g1)
    | (refine ⟨trivial, ?_⟩; gi_at_call 65; refine (callsIn_wide.2 (parts_any A l.length c _)).mono ?_; rintro e w2 ⟨rfl, rfl⟩))
  have hB1 : Below w.heap.size w w1 := (Below.refl _ _).grown g1 (Nat.le_refl _) (fun k hk => by cases hk)
  have z1 := hB1.size
  have bO := (Boxed.new w1 22 (.slice (some ⟨w.heap.size, 0, none⟩) 0 (l.length + dv + 2))).alloc (.cells #[.slice A l.length c] 22)
  have bN := (Boxed.new (w1.alloc (.cells #[(.slice (some ⟨w.heap.size, 0, none⟩) 0 (l.length + dv + 2))] 22)) 22 (.slice A l.length c)).cell
  rw [World.size_alloc] at bN
  have hB0 : Below w.heap.size w ((w1.alloc (.cells #[(.slice (some ⟨w.heap.size, 0, none⟩) 0 (l.length + dv + 2))] 22)).alloc (.cells #[.slice A l.length c] 22)) := (hB1.alloc z1 _).alloc (by simp; omega) _
  have oO := (World.ownsRow.alloc (World.ownsRow.alloc o1 (.cells #[(.slice (some ⟨w.heap.size, 0, none⟩) 0 (l.length + dv + 2))] 22)) (.cells #[.slice A l.length c] 22))
  refine wpIn_rangeFunc_ownG rfl (by omega) (gf := 77) (lb := #[.pointer (some ⟨w1.heap.size + 1, 0, none⟩)]) rfl trivial (enters_of Tryz.func77 (by kernel_rfl) rfl)
    (parts_stops _ (by omega) (w1.heap.size + 1) w _ A c l hl hc Hn.out hB0 (by simp) bN) belowK_t (belowK_b (by simp; omega)) (Below.refl _ _) (fun _ => rfl)
    (fun pre W => (∃ v, Boxed W w1.heap.size 22 v ∧ W.ownsRow w.heap.size 5 1 v (outP pre).length ((outP pre).map bv) ∧ True) ∧ Below w.heap.size w W)
    (fun _ _ _ => False)
    (OwnFrom.and (Own.from (holdsRow_own w.heap.size w1.heap.size 22 5 1 (fun pre => (outP pre).length) (fun pre => (outP pre).map bv) (fun _ _ => True)) _) (ownFrom_below (Nat.le_refl _) (by simp; omega)))
    (fun _ _ _ _ _ hs _ _ => hs)
    ⟨⟨_, bO, oO, trivial⟩, hB0⟩
    (fun x => { tmps := #[.slice A l.length c, undef, .slice none 0 0, .pointer (some ⟨w1.heap.size, 0, none⟩), .slice x.1.1 x.1.2.2.length x.1.2.1, .slice A l.length c, .int .i64 l.length, .slice A l.length c, .int .i64 l.length,
      .int .i64 dv, .int .i64 ((l.length : Int) + dv), .int .i64 ((l.length : Int) + dv + 2), (.slice (some ⟨w.heap.size, 0, none⟩) 0 (l.length + dv + 2)), .slice A l.length c, .func (.func 77) #[] #[.pointer (some ⟨w1.heap.size + 1, 0, none⟩)], .slice x.1.1 x.1.2.2.length x.1.2.1,
      undef, undef, undef, undef, undef, undef, undef, undef, undef, undef, undef, undef, undef, undef, undef, undef, undef, undef, undef, undef, undef, undef, undef, undef, undef], defers := [] }) ?assign ?body ?done ?stop
  case assign =>
    intro l x W K hK
    simp only [encP]
    gi_wp2
    exact hK
  case body =>
    rintro ll pre x W ⟨⟨v, hv, hrow, _⟩, hB⟩ hlt
    obtain ⟨⟨PA, pc, p⟩, hpb, hpc, hpn⟩ := x
    simp only at hpb hpc hpn
    obtain ⟨R, hR⟩ : ∃ R, R = outP pre ++ partE p := ⟨_, rfl⟩
    have hRl : R.length ≤ 160000000000 := by
      have h1 := outP_len pre
      have h2 := partE_len p
      have := Hn.out
      rw [hR, List.length_append]
      have : pre.length * 400001 ≤ 200000 * 400001 := Nat.mul_le_mul_right _ (by omega)
      omega
    have HR := Lib.hid hR
    have HRl := Lib.hid hRl
    have hmx : Tryz.prog.follows .mixedOrders = true := by kernel_rfl
    have hd1 : 1 ≤ 3 - 1 - 1 := by decide
    clear hR hRl o1 g1 bO bN hB0 oO hB1 hl hc e1 e2 e3 e4 e5
    gi_wp2
    gi_loopw [4] (fun s0 wr => ∃ A' c' p' L' v', s0 = .slice A' p'.length c' ∧ p'.length ≤ c' ∧ p'.length ≤ 200000 ∧ Bs w A' p' ∧ Boxed wr w1.heap.size 22 v' ∧ OwnB wr w.heap.size v' L' ∧ Below w.heap.size w wr ∧ Hid (R = L' ++ partE p') ∧ KeepsOthers W wr ∧ Below w.heap.size W wr)
      (fun s0 _ => match s0 with | .slice _ n _ => n | _ => 0)
    case atStart => exact ⟨PA, pc, p, outP pre, v, rfl, hpc, hpn, hpb, hv, hrow, hB, HR, KeepsOthers.refl _, Below.refl _ _⟩
    case round =>
      obtain ⟨A', c', p', L', v', rfl, hpc', hpn', hpb', hv', hown', tB, HR', hKO, hBW⟩ := hrel
      have hLl : L'.length ≤ 160000000000 := by
        have := HRl.out
        rw [HR'.out, List.length_append] at this
        omega
      obtain ⟨V1, V2, rfl, _⟩ := hown'.isB
      have hcv := hv'.cell
      have hfv := hv'.frozen
      rcases Nat.lt_or_ge 253 p'.length with hlt2 | hge
      · have d1 : decide ((254 : Int) ≤ p'.length) = true := by simp; omega
        have d2 : decide (254 ≤ p'.length) = true := by simp; omega
        have d3 : (254 : Int) ≤ p'.length := by omega
        have d4 : 254 ≤ p'.length := by omega
        have d5 : (254 : Int) ≤ c' := by omega
        have d6 : 254 ≤ c' := by omega
        have HLl := Lib.hid hLl
        clear hLl
        gi_wp2_with (gi_at_builtin; refine wpListIn_append_own _ rfl (.tmp 19) (.tmp 20) 22 rfl w.heap.size 5 i (.int .u8 0) 1 1 Tryz.underlying22 hi hz hsz hby rfl (by decide) _ _ (L'.map bv) rfl (hown'.alloc _) ⟨wr.heap.size, 0, none⟩ 1 1 [.int .u8 255] rfl rfl (cell_one_new _ _ _) (by simp [Value.oneCell']) (by have := HLl.out; unfold maxLen; omega) (by have := HLl.out; omega) (by have := tB.size; simp; omega) ?_; intro v2 w2 hown2 hgrow2 _; obtain ⟨g2, c2, rfl⟩ := ownsRow_succ hown2; obtain ⟨hv1, hv2, hr2, hk2, hb2⟩ := hv'.appended (by decide) hown' tB.size z1 hown2 hgrow2; have hc1 := hv1.cell; have hf1 := hv1.frozen)
        have hc3 := hv2.cell
        have hf3 := hv2.frozen
        have hKO2 := hKO.trans hk2
        have hBW2 := hBW.trans hb2
        have tB2 := tB.trans hb2
        clear hv1 hc1 hf1 hgrow2 hown2 hk2 hb2 hKO hBW tB hv' hown' hcv hfv
        generalize w2.setCell _ _ = W5 at *
        obtain ⟨q, hq⟩ : ∃ q, q = p'.take 254 := ⟨_, rfl⟩
        have hql : q.length = 254 := by rw [hq, List.length_take]; omega
        have hfin : R = (L' ++ [255] ++ q) ++ partE (p'.drop 254) := by rw [HR'.out, partE_long d4, hq]; simp
        obtain ⟨pb, po, rfl, _⟩ := hpb' 0 (p'[0]'(by omega)) (List.getElem?_eq_getElem _)
        have hqb : Bs W5 (some ⟨pb, po, none⟩) q := by rw [hq]; exact (hpb'.below tB2).take 254
        have Hfin := Lib.hid hfin
        clear hq hfin
        have o5 : OwnB W5 w.heap.size (.slice (some ⟨g2, 0, none⟩) (L'.length + 1) c2) (L' ++ [255]) := by unfold OwnB; rw [List.length_append, List.map_append]; exact hr2
        refine wpIn_region_any (by kernel_rfl) ?_
        change wpAnyIn _ _ _ _ _ _ _ _ _ (World.drew _)
        refine wpAnyIn_ready (rs := [0, 1]) (by kernel_rfl) (by simp) ?_
        refine AllReadyIn.cons rfl (fun K hK => ?_) (AllReadyIn.cons rfl (fun K hK => ?_) AllReadyIn.nil)
        · go_simp
          refine hK _ _ ?_; clear hK K
          refine wpAnyIn_ready (rs := [1]) (by kernel_rfl) (by simp) ?_
          refine AllReadyIn.cons rfl (fun K hK => ?_) AllReadyIn.nil
          go_simp
          refine hK _ _ ?_; clear hK K
          refine wpAnyIn_ready (rs := [2]) (by kernel_rfl) (by simp) ?_
          refine AllReadyIn.cons rfl (fun K hK => ?_) AllReadyIn.nil
          go_simp
          refine hK _ _ ?_; clear hK K
          refine wpAnyIn_ready (rs := [3]) (by kernel_rfl) (by simp) ?_
          refine AllReadyIn.cons rfl (fun K hK => ?_) AllReadyIn.nil
          rw [if_pos (by kernel_rfl)]
          refine operAll _ (.tmp 22) (.tmp 24) rfl w.heap.size (.slice (some ⟨g2, 0, none⟩) (L'.length + 1) c2) (L' ++ [255]) rfl o5 (some ⟨pb, po, none⟩) c' q (congrArg (fun n => Value.slice (some ⟨pb, po, none⟩) n c') hql.symm) hqb (by have := HLl.out; simp; omega) tB2.size fun v6 w6 o6 g6 => hK _ _ ?_
          clear hK K
          obtain ⟨A6, c6, rfl, _⟩ := o6.isB
          have hn6 : (L' ++ [255] ++ q).length = L'.length + 255 := by simp [hql]
          obtain ⟨hv5, hv6, hr6, hk6, hb6⟩ := Boxed.appended0 (W := W5.drew) hv2 (by decide) o5 tB2.size z1 o6 g6
          have hc5 := hv5.cell
          have hf5 := hv5.frozen
          dsimp only [Act.put]
          refine wpAnyIn_ready (rs := [4]) (by kernel_rfl) (by simp) ?_
          refine AllReadyIn.cons rfl (fun K hK => ?_) AllReadyIn.nil
          go_simp
          refine hK _ _ ?_; clear hK K
          refine wpAnyIn_done (by kernel_rfl) ?_ _
          have hKO7 := (hKO2.trans (KeepsOthers.drew W5)).trans hk6
          have hBW7 : Below w.heap.size W _ := (Below.drew hBW2).trans hb6
          have tB7 : Below w.heap.size w _ := (Below.drew tB2).trans hb6
          rw [hn6] at hv6 hr6 hKO7 hBW7 tB7
          clear hv5 hc5 hf5 hk6 hb6 g6 hv2 hr2 hc3 hf3 o5 o6 hqb hKO2 hBW2 tB2
          generalize w6.setCell _ _ = W7 at *
          gi_wp2_with (refine cutBEIn _ rfl (.tmp 26) (.const (.int .i64 254)) rfl (some ⟨pb, po, none⟩) p'.length c' rfl (.inr ⟨_, _, rfl⟩) 254 rfl d4 hpc' ?_; intro X hX hFX; have HX := Lib.hid hX; clear hX hFX)
          refine ⟨⟨X, c' - 254, p'.drop 254, L' ++ [255] ++ q, _, by rw [List.length_drop], by rw [List.length_drop]; omega, by rw [List.length_drop]; omega, HX.out w p' hpb' hpc', hv6, (by unfold OwnB; rw [hn6]; exact hr6), tB7, Hfin, hKO7, hBW7⟩, ?_⟩
          show p'.length - 254 < p'.length
          omega
        · go_simp
          refine hK _ _ ?_; clear hK K
          refine wpAnyIn_ready (rs := [0, 2]) (by kernel_rfl) (by simp) ?_
          refine AllReadyIn.cons rfl (fun K hK => ?_) (AllReadyIn.cons rfl (fun K hK => ?_) AllReadyIn.nil)
          · go_simp
            refine hK _ _ ?_; clear hK K
            refine wpAnyIn_ready (rs := [2]) (by kernel_rfl) (by simp) ?_
            refine AllReadyIn.cons rfl (fun K hK => ?_) AllReadyIn.nil
            go_simp
            refine hK _ _ ?_; clear hK K
            refine wpAnyIn_ready (rs := [3]) (by kernel_rfl) (by simp) ?_
            refine AllReadyIn.cons rfl (fun K hK => ?_) AllReadyIn.nil
            rw [if_pos (by kernel_rfl)]
            refine operAll _ (.tmp 22) (.tmp 24) rfl w.heap.size (.slice (some ⟨g2, 0, none⟩) (L'.length + 1) c2) (L' ++ [255]) rfl o5 (some ⟨pb, po, none⟩) c' q (congrArg (fun n => Value.slice (some ⟨pb, po, none⟩) n c') hql.symm) hqb (by have := HLl.out; simp; omega) tB2.size fun v6 w6 o6 g6 => hK _ _ ?_
            clear hK K
            obtain ⟨A6, c6, rfl, _⟩ := o6.isB
            have hn6 : (L' ++ [255] ++ q).length = L'.length + 255 := by simp [hql]
            obtain ⟨hv5, hv6, hr6, hk6, hb6⟩ := Boxed.appended0 (W := W5.drew) hv2 (by decide) o5 tB2.size z1 o6 g6
            have hc5 := hv5.cell
            have hf5 := hv5.frozen
            dsimp only [Act.put]
            refine wpAnyIn_ready (rs := [4]) (by kernel_rfl) (by simp) ?_
            refine AllReadyIn.cons rfl (fun K hK => ?_) AllReadyIn.nil
            go_simp
            refine hK _ _ ?_; clear hK K
            refine wpAnyIn_done (by kernel_rfl) ?_ _
            have hKO7 := (hKO2.trans (KeepsOthers.drew W5)).trans hk6
            have hBW7 : Below w.heap.size W _ := (Below.drew hBW2).trans hb6
            have tB7 : Below w.heap.size w _ := (Below.drew tB2).trans hb6
            rw [hn6] at hv6 hr6 hKO7 hBW7 tB7
            clear hv5 hc5 hf5 hk6 hb6 g6 hv2 hr2 hc3 hf3 o5 o6 hqb hKO2 hBW2 tB2
            generalize w6.setCell _ _ = W7 at *
            gi_wp2_with (refine cutBEIn _ rfl (.tmp 26) (.const (.int .i64 254)) rfl (some ⟨pb, po, none⟩) p'.length c' rfl (.inr ⟨_, _, rfl⟩) 254 rfl d4 hpc' ?_; intro X hX hFX; have HX := Lib.hid hX; clear hX hFX)
            refine ⟨⟨X, c' - 254, p'.drop 254, L' ++ [255] ++ q, _, by rw [List.length_drop], by rw [List.length_drop]; omega, by rw [List.length_drop]; omega, HX.out w p' hpb' hpc', hv6, (by unfold OwnB; rw [hn6]; exact hr6), tB7, Hfin, hKO7, hBW7⟩, ?_⟩
            show p'.length - 254 < p'.length
            omega
          · go_simp
            refine hK _ _ ?_; clear hK K
            refine wpAnyIn_ready (rs := [0]) (by kernel_rfl) (by simp) ?_
            refine AllReadyIn.cons rfl (fun K hK => ?_) AllReadyIn.nil
            go_simp
            refine hK _ _ ?_; clear hK K
            refine wpAnyIn_ready (rs := [3]) (by kernel_rfl) (by simp) ?_
            refine AllReadyIn.cons rfl (fun K hK => ?_) AllReadyIn.nil
            rw [if_pos (by kernel_rfl)]
            refine operAll _ (.tmp 22) (.tmp 24) rfl w.heap.size (.slice (some ⟨g2, 0, none⟩) (L'.length + 1) c2) (L' ++ [255]) rfl o5 (some ⟨pb, po, none⟩) c' q (congrArg (fun n => Value.slice (some ⟨pb, po, none⟩) n c') hql.symm) hqb (by have := HLl.out; simp; omega) tB2.size fun v6 w6 o6 g6 => hK _ _ ?_
            clear hK K
            obtain ⟨A6, c6, rfl, _⟩ := o6.isB
            have hn6 : (L' ++ [255] ++ q).length = L'.length + 255 := by simp [hql]
            obtain ⟨hv5, hv6, hr6, hk6, hb6⟩ := Boxed.appended0 (W := W5.drew) hv2 (by decide) o5 tB2.size z1 o6 g6
            have hc5 := hv5.cell
            have hf5 := hv5.frozen
            dsimp only [Act.put]
            refine wpAnyIn_ready (rs := [4]) (by kernel_rfl) (by simp) ?_
            refine AllReadyIn.cons rfl (fun K hK => ?_) AllReadyIn.nil
            go_simp
            refine hK _ _ ?_; clear hK K
            refine wpAnyIn_done (by kernel_rfl) ?_ _
            have hKO7 := (hKO2.trans (KeepsOthers.drew W5)).trans hk6
            have hBW7 : Below w.heap.size W _ := (Below.drew hBW2).trans hb6
            have tB7 : Below w.heap.size w _ := (Below.drew tB2).trans hb6
            rw [hn6] at hv6 hr6 hKO7 hBW7 tB7
            clear hv5 hc5 hf5 hk6 hb6 g6 hv2 hr2 hc3 hf3 o5 o6 hqb hKO2 hBW2 tB2
            generalize w6.setCell _ _ = W7 at *
            gi_wp2_with (refine cutBEIn _ rfl (.tmp 26) (.const (.int .i64 254)) rfl (some ⟨pb, po, none⟩) p'.length c' rfl (.inr ⟨_, _, rfl⟩) 254 rfl d4 hpc' ?_; intro X hX hFX; have HX := Lib.hid hX; clear hX hFX)
            refine ⟨⟨X, c' - 254, p'.drop 254, L' ++ [255] ++ q, _, by rw [List.length_drop], by rw [List.length_drop]; omega, by rw [List.length_drop]; omega, HX.out w p' hpb' hpc', hv6, (by unfold OwnB; rw [hn6]; exact hr6), tB7, Hfin, hKO7, hBW7⟩, ?_⟩
            show p'.length - 254 < p'.length
            omega
      · have d1 : decide ((254 : Int) ≤ p'.length) = false := by simp; omega
        have d2 : decide (254 ≤ p'.length) = false := by simp; omega
        have d3 : ¬ (254 : Int) ≤ p'.length := by omega
        have d4 : p'.length < 254 := by omega
        have d5 : (p'.length : Int) < 254 := by omega
        obtain ⟨z, hz0⟩ : ∃ z : UInt8, z = UInt8.ofNat (p'.length + 1) := ⟨_, rfl⟩
        have hz1 : IntKind.i64.wrap ((p'.length : Int) + 1) = (p'.length : Int) + 1 := by rw [IntKind.wrap_i64]; omega
        have hz2 : IntKind.u8.wrap ((p'.length : Int) + 1) = (z.toNat : Int) := by
          have : z.toNat = p'.length + 1 := by rw [hz0, UInt8.toNat_ofNat']; omega
          rw [this, IntKind.wrap_u8]; omega
        have hfin : R = (L' ++ [z]) ++ p' := by rw [HR'.out, partE_short (by omega), hz0]; simp
        have Hfin := Lib.hid hfin
        have HLl := Lib.hid hLl
        have hzs : (L' ++ [z]).length = L'.length + 1 := by simp
        have Hzs := Lib.hid hzs
        clear hfin hLl hz0 hzs
        gi_wp2_with (first
          | (gi_at_builtin; refine wpListIn_append_own _ rfl (.tmp 28) (.tmp 33) 22 rfl w.heap.size 5 i (.int .u8 0) 1 1 Tryz.underlying22 hi hz hsz hby rfl (by decide) _ _ (L'.map bv) rfl (hown'.alloc _) ⟨wr.heap.size, 0, none⟩ 1 1 [bv z] rfl rfl (cell_one_new _ _ _) (by simp [Value.oneCell', bv]) (by have := HLl.out; unfold maxLen; omega) (by have := HLl.out; omega) (by have := tB.size; simp; omega) ?_; intro v2 w2 hown2 hgrow2 _; obtain ⟨g2, c2, rfl⟩ := ownsRow_succ hown2; obtain ⟨hv1, hv2, hr2, hk2, hb2⟩ := hv'.appended (by decide) hown' tB.size z1 hown2 hgrow2; have hc1 := hv1.cell; have hf1 := hv1.frozen; have hc3 := hv2.cell; have hf3 := hv2.frozen)
          | (gi_at_builtin; refine appAllIn _ rfl (.tmp 35) (.tmp 36) rfl w.heap.size _ (L' ++ [z]) rfl (by unfold OwnB; rw [Hzs.out, List.map_append]; exact hr2) A' c' p' rfl (hpb'.below (tB.trans hb2)) (by have := HLl.out; rw [Hzs.out]; omega) (tB.trans hb2).size ?_; intro v6 w6 o6 g6; obtain ⟨hv5, hv6, hr6, hk6, hb6⟩ := Boxed.appended0 hv2 (by decide) (by unfold OwnB at *; exact hr2) (tB.trans hb2).size z1 o6 g6; have hc5 := hv5.cell; have hf5 := hv5.frozen; obtain ⟨A6, c6, rfl, _⟩ := o6.isB))
        have hE := (outP_snoc pre (Subtype.mk (PA, pc, p) ⟨hpb, hpc, hpn⟩)).trans (HR.out.symm.trans Hfin.out)
        have hn6 : (L' ++ [z] ++ p').length = L'.length + (p'.length + 1) := by simp
        rw [hn6] at hv6 hr6 hk6 hb6
        exact ⟨((hKO.trans hk2).trans hk6).from _, (hBW.trans hb2).trans hb6, ⟨_, hv6, by rw [hE, hn6]; exact hr6⟩, (tB.trans hb2).trans hb6⟩
  case done =>
    rintro D ys W hD hys ⟨⟨v, hv, hrow, _⟩, hB⟩ hK
    have hcv := hv.cell
    have hE : outP ys = encL l := by unfold outP; rw [hys]; rfl
    rw [hE] at hrow
    have hRl : (encL l).length ≤ 400001 := by have := encL_len l; have := Hn.out; omega
    have HRl := Lib.hid hRl
    obtain ⟨V1, V2, rfl, _⟩ := OwnB.isB (show OwnB W w.heap.size v (encL l) from hrow)
    have hcv := hv.cell
    have HS := Lib.hid hys
    clear hE hRl hys o1 g1 bO bN hB0 oO hB1 hl hc e1 e2 e3 e4 e5
    gi_wp2_with (gi_at_builtin; refine wpListIn_append_own _ rfl (.tmp 38) (.tmp 39) 22 rfl w.heap.size 5 i (.int .u8 0) 1 1 Tryz.underlying22 hi hz hsz hby rfl (by decide) _ _ ((encL l).map bv) rfl (hrow.alloc _) ⟨W.heap.size, 0, none⟩ 1 1 [bv 0] rfl rfl (cell_one_new _ _ _) (by simp [Value.oneCell', bv]) (by have := HRl.out; unfold maxLen; omega) (by have := HRl.out; omega) (by have := hB.size; simp; omega) ?_; intro v2 w2 hown2 hgrow2 _; obtain ⟨g2, c2, rfl⟩ := ownsRow_succ hown2)
    obtain ⟨hk, hb⟩ := own_keeps hrow hB.size hgrow2
    have hK2 := hk.same D _ hK rfl
    refine ⟨by simp, .inl ⟨_, _, rfl, run_takeDeferred hK2, ?_⟩⟩
    exact ⟨_, results_tmp rfl _ _ _, some ⟨g2, 0, none⟩, _, c2, rfl, by unfold wrapL; simp, by unfold OwnB wrapL; rw [List.length_append, List.map_append]; exact ownsRow_putObj hown2 _ hK2 rfl, (hB.trans hb).trans (belowK_b (w := w) (Nat.le_refl _) w2 D _ _ (by simp at hD; omega) hK2 rfl rfl)⟩
  case stop =>
    rintro D c pre W _ _ h _
    exact h.elim

end Go.Proofs.YtiogckgchlnldaaGreat

/- Stuff for seats without its law: general lemmas. -/
namespace Go.Proofs.YtiogckgchlnldaaGreat
open Go.RowKit
set_option maxRecDepth 100000

theorem bs_new (w : World) (l : List UInt8) (t : TypeId) : Bs (w.alloc (.cells (l.map bv).toArray t)) (some ⟨w.heap.size, 0, none⟩) l := fun i b hi => by
  refine ⟨_, _, rfl, ?_⟩
  rw [Nat.zero_add]
  have hb : Blk (w.alloc (.cells (l.map bv).toArray t)) w.heap.size t (l.map bv).toArray := Blk.new w _ _
  have := hb
  unfold Blk at this
  unfold World.cell?
  rw [this]
  simp [hi]
theorem partE_ge : ∀ (n : Nat) (p : List UInt8), p.length ≤ n → p.length + 1 ≤ (partE p).length := by
  intro n
  induction n with
  | zero =>
    intro p h
    rw [partE_short (by omega)]
    simp
  | succ n ih =>
    intro p h
    rcases Nat.lt_or_ge 253 p.length with h1 | h1
    · rw [partE_long (by omega)]
      have := ih (p.drop 254) (by rw [List.length_drop]; omega)
      rw [List.length_drop] at this
      rw [List.length_cons, List.length_append, List.length_take]
      omega
    · rw [partE_short h1]
      simp
theorem encL_ge : ∀ (n : Nat) (l : List UInt8), l.length ≤ n → l.length + 1 ≤ (encL l).length := by
  intro n
  induction n with
  | zero =>
    intro l h
    have : l = [] := List.eq_nil_of_length_eq_zero (by omega)
    subst this
    rw [encL_noz (by simp [NoZ])]
    exact partE_ge _ _ (Nat.le_refl _)
  | succ n ih =>
    intro l h
    rcases zero_cases l with hz | ⟨a, r, hz, rfl⟩
    · rw [encL_noz hz]; exact partE_ge _ _ (Nat.le_refl _)
    · rw [encL_app hz, List.length_append, List.length_append, List.length_cons]
      rw [List.length_append, List.length_cons] at h
      have h1 := partE_ge _ a (Nat.le_refl _)
      have h2 := ih r (by omega)
      omega
theorem OwnB.fm {w : World} {base : Nat} {A : Option Addr} {n c : Nat} {l : List UInt8} (h : OwnB w base (.slice A n c) l) : Fm A c := by
  rcases h.2 with ⟨h1, _⟩ | ⟨g, cap, cur, h1, _⟩
  · injection h1 with e1 e2 e3
    exact .inl e3
  · injection h1 with e1 e2 e3
    subst e1
    exact .inr ⟨_, _, rfl⟩
theorem OwnB.le {w : World} {base : Nat} {A : Option Addr} {n c : Nat} {l : List UInt8} (h : OwnB w base (.slice A n c) l) : l.length ≤ c := by
  obtain ⟨X, k, e, h1, _⟩ := h.isB
  injection e with e1 e2 e3
  rw [e3]; exact h1
theorem open_of {l o r : List UInt8} {base : Nat} {e : Ending} {w : World} (hl : l = encL o ++ 0 :: r) (h : OpenP l base e w) :
    ∃ A n c, e = .returned (.tuple #[.slice A n c, .int .i64 (((wrapL o).length : Nat) : Int), .int .u16 0]) ∧ n = o.length ∧ OwnB w base (.slice A n c) o := by
  rcases h with ⟨h1, _⟩ | ⟨o', r', A, n, c, h1, h2, h3, h4⟩
  · exact absurd hl (h1 o r)
  · have := encL_inj (first_zero (encL_noZ o') (encL_noZ o) (h1.symm.trans hl)).1
    subst this
    exact ⟨A, n, c, by rw [h2]; simp [wrapL], h3, h4⟩
theorem wrapL_le (l : List UInt8) : (wrapL l).length ≤ 2 * l.length + 2 := by
  have := encL_len l
  unfold wrapL
  simp
  omega
theorem wrapL_inj {a b : List UInt8} (h : wrapL a = wrapL b) : a = b := by
  unfold wrapL at h
  exact encL_inj (List.append_inj_left' h rfl)
theorem wrapL_two (l : List UInt8) : 2 ≤ (wrapL l).length := by
  have := encL_ge _ l (Nat.le_refl _)
  simp [wrapL]; omega

end Go.Proofs.YtiogckgchlnldaaGreat

/- The document's Open; StuffOpens. -/
namespace Go.Proofs.YtiogckgchlnldaaGreat
open Go.RowKit

/-- the document's Open's answer -/
def ROpenP (l : List UInt8) (base : Nat) (e : Ending) (w : World) : Prop :=
  ((∀ o r, l ≠ encL o ++ 0 :: r) ∧ e = .returned (.tuple #[.slice none 0 0, .int .i64 0, .int .i64 90])) ∨
  (∃ o r A n c, l = encL o ++ 0 :: r ∧ e = .returned (.tuple #[.slice A n c, .int .i64 ((wrapL o).length : Nat), .int .i64 0]) ∧ n = o.length ∧ OwnB w base (.slice A n c) o)
theorem ROpenP.bad {l : List UInt8} {base : Nat} {w : World} (h : ∀ o r, l ≠ encL o ++ 0 :: r) : ROpenP l base (.returned (.tuple #[.slice none 0 0, .int .i64 0, .int .i64 90])) w := .inl ⟨h, rfl⟩

set_option maxRecDepth 100000 in
set_option maxHeartbeats 2000000 in
theorem refOpen_noz (A : Option Addr) (c : Nat) (l : List UInt8) (w : World) (hl : Bs w A l) (hn : l.length ≤ 200000) (hz : NoZ l) :
    Calls Tryz.prog 67 #[.slice A l.length c] w fun e w' => ROpenP l w.heap.size e w' ∧ Below w.heap.size w w' := by
  have HB := Lib.hid (bad_miss hz)
  have Hz := Lib.hid hz
  clear hz
  go_enter Tryz.func67, Tryz.ntmps67
  go_wp2_with fail
  go_loop [5] (fun s => ∃ k : Nat, k ≤ l.length ∧ s = .int .i64 k) (fun s => l.length - (intOf s).toNat)
  case atStart => exact ⟨0, Nat.zero_le _, rfl⟩
  case round =>
    obtain ⟨k, hk, rfl⟩ := hrel
    rcases Nat.lt_or_ge k l.length with hlt | hge
    · have q1 : decide ((k : Int) < l.length) = true := decide_eq_true (by omega)
      have q2 : decide (k < l.length) = true := decide_eq_true hlt
      have e1 : IntKind.i64.wrap ((k : Int) + 1) = ((k + 1 : Nat) : Int) := by rw [IntKind.wrap_i64]; omega
      obtain ⟨p, o, rfl, hcell⟩ := hl k l[k] (List.getElem?_eq_getElem hlt)
      have hx0 : l[k].toNat ≠ 0 := fun h => Hz.out l[k] (List.getElem_mem hlt) (UInt8.toNat_inj.1 h)
      unfold bv at hcell
      obtain ⟨y, hy⟩ : ∃ y : Nat, y = l[k].toNat := ⟨_, rfl⟩
      rw [← hy] at hcell hx0
      have r3 : ((y : Int) == 0) = false := beq_eq_false_iff_ne.2 (by omega)
      have r4 : ((y : Int) != 0) = true := by simp; omega
      clear hy
      go_wp2_with fail
      go_round
      case rel => exact ⟨k + 1, hlt, by go_num⟩
      case measure => simp [intOf]; omega
    · obtain rfl : k = l.length := by omega
      have q1 : decide ((l.length : Int) < l.length) = false := by simp
      go_wp2_with fail
      go_ret3
      exact ⟨.bad HB.out, Below.refl _ _⟩

/-- the first loop comes to the first nought -/
theorem hit_cell {w : World} {A : Option Addr} {l a r : List UInt8} (hl : Bs w A l) (hra : l = a ++ 0 :: r) (k : Nat) (hk : k ≤ a.length) :
    ∃ p o, A = some ⟨p, o, none⟩ ∧ ∃ y : UInt8, w.cell? ⟨p, o + k, none⟩ = some (.int .u8 y.toNat) ∧ (k < a.length → a[k]? = some y) ∧ (k = a.length → y = 0) := by
  have hkl : k < l.length := by rw [hra]; simp; omega
  obtain ⟨p, o, hA, hc⟩ := hl k l[k] (List.getElem?_eq_getElem hkl)
  refine ⟨p, o, hA, l[k], hc, fun h => ?_, fun h => ?_⟩
  · have h2 : l[k]? = a[k]? := by rw [hra, List.getElem?_append_left h]
    rw [← h2]; exact List.getElem?_eq_getElem hkl
  · subst hra
    simp [h]

set_option maxRecDepth 100000 in
set_option maxHeartbeats 2000000 in
theorem refOpen_empty (A : Option Addr) (c : Nat) (r : List UInt8) (w : World) (hl : Bs w A (0 :: r)) (hn : (0 :: r).length ≤ 200000) :
    Calls Tryz.prog 67 #[.slice A (0 :: r).length c] w fun e w' => ROpenP (0 :: r) w.heap.size e w' ∧ Below w.heap.size w w' := by
  have HB := Lib.hid (bad_hit (l := 0 :: r) (a := []) (r := r) rfl (fun x h => by cases h) fun o => not_dec_nil o)
  obtain ⟨N, hN⟩ : ∃ N, N = (0 :: r).length := ⟨_, rfl⟩
  have hN0 : 0 < N := by rw [hN]; simp
  have q1 : decide ((0 : Int) < N) = true := decide_eq_true (by omega)
  have q3 : ((0 : Int) == N) = false := beq_eq_false_iff_ne.2 (by omega)
  obtain ⟨p, o, rfl, hcell⟩ := hl 0 0 rfl
  unfold bv at hcell
  have hcell : w.cell? ⟨p, o, none⟩ = some (.int .u8 0) := hcell
  rw [← hN]
  clear hN hn
  go_enter Tryz.func67, Tryz.ntmps67
  go_wp2_with fail
  go_loop [5] (fun s => s = .int .i64 0) (fun _ => 0)
  case atStart => rfl
  case round =>
    obtain rfl := hrel
    go_wp2_with fail
    go_ret3
    exact ⟨.bad HB.out, Below.refl _ _⟩

theorem dec_walk {n : UInt8} {t a O : List UInt8} (HD : ∀ o, Dec a o ↔ ∃ o', Dec (n :: t) o' ∧ o = O ++ o') (h1 : t.length + 1 = n.toNat) : ∀ o, Dec a o → o = O ++ t.take (n.toNat - 1) := fun o h => by
  obtain ⟨o', h', rfl⟩ := (HD o).1 h
  rcases ((dec_step n t o').1 h').2 with ⟨_, _, rfl⟩ | ⟨_, h3, _⟩ | ⟨_, h3, _⟩
  · rfl
  · omega
  · omega

/-- what is known at a place of the second loop: a: the code; p: the place; O: what has come -/
def OpenAt (a : List UInt8) (p : Nat) (O : List UInt8) : Prop :=
  (p < a.length ∧ ∀ o, Dec a o ↔ ∃ o', Dec (a.drop p) o' ∧ o = O ++ o') ∨ (p = a.length ∧ ∀ o, Dec a o → o = O)

theorem openAt_bad {a : List UInt8} {p : Nat} {O : List UInt8} (h : OpenAt a p O) (hp : p < a.length) {n : UInt8} (hn : a[p]? = some n) (hb : a.length < p + n.toNat) : ∀ o, ¬ Dec a o := fun o ho => by
  rcases h with ⟨_, HD⟩ | ⟨h, _⟩
  · obtain ⟨o', h', _⟩ := (HD o).1 ho
    have e : a.drop p = n :: a.drop (p + 1) := by
      rw [List.drop_eq_getElem_cons hp]
      rw [List.getElem?_eq_getElem hp] at hn
      injection hn with hn
      rw [hn]
    rw [e] at h'
    have := ((dec_step n _ o').1 h').1
    rw [List.length_drop] at this
    omega
  · omega
/-- one round -/
theorem openAt_step {a : List UInt8} {p : Nat} {O : List UInt8} (h : OpenAt a p O) (hp : p < a.length) {n : UInt8} (hn : a[p]? = some n) (h0 : n ≠ 0) (hb : p + n.toNat ≤ a.length) :
    OpenAt a (p + n.toNat) (if n.toNat < 255 ∧ p + n.toNat < a.length then O ++ (a.drop (p + 1)).take (n.toNat - 1) ++ [0] else O ++ (a.drop (p + 1)).take (n.toNat - 1)) := by
  rcases h with ⟨_, HD⟩ | ⟨h, _⟩
  · have e : a.drop p = n :: a.drop (p + 1) := by
      rw [List.drop_eq_getElem_cons hp]
      rw [List.getElem?_eq_getElem hp] at hn
      injection hn with hn
      rw [hn]
    rw [e] at HD
    have hn1 : 1 ≤ n.toNat := by
      rcases Nat.eq_zero_or_pos n.toNat with h | h
      · exact absurd (UInt8.toNat_inj.1 h) h0
      · exact h
    have hd : (a.drop (p + 1)).drop (n.toNat - 1) = a.drop (p + n.toNat) := by rw [List.drop_drop]; congr 1; omega
    have hl : (a.drop (p + 1)).length = a.length - (p + 1) := List.length_drop
    rcases Nat.lt_or_ge (p + n.toNat) a.length with h1 | h1
    · refine .inl ⟨h1, ?_⟩
      by_cases h2 : n.toNat < 255
      · rw [if_pos ⟨h2, h1⟩, ← hd]
        exact dec_go HD (by omega) (by omega)
      · rw [if_neg (fun h => h2 h.1), ← hd]
        exact dec_full HD (by omega) (by omega)
    · refine .inr ⟨by omega, ?_⟩
      rw [if_neg (fun h => by omega)]
      exact dec_walk HD (by omega)
  · omega

end Go.Proofs.YtiogckgchlnldaaGreat
