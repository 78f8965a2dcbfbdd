/- Joined: Fr6. -/
import Derived.Test.YtpedobpbpomkaaaQ12
import Derived.OwnWalk
set_option linter.unusedSimpArgs false
set_option linter.unusedVariables false
/- Layer 7: Encode of the program: its parts. -/
set_option linter.unusedSimpArgs false
set_option linter.unusedVariables false
namespace Go.Proofs.Ytpedobpbpomkaaa
open Go.RowKit
set_option maxRecDepth 100000

theorem run_app_empty {P : Program} (w : World) (base : Nat) (t ty e : TypeId) (i : TypeInfo) (size : Nat) (ht : P.underlying t = some (.slice e)) (hi : P.info? e = some i)
    (v : Value) (n : Nat) (xs : List Value) (hown : w.ownsRow base e size v n xs) (ad : Addr) (c : Nat) : (Builtin.append_ #[t, t] ty #[v, .slice (some ad) 0 c]).run P w = .ok v w := by
  rcases hown.2 with ⟨rfl, rfl⟩ | ⟨g, cap, cur, rfl, _, _, hnc, _⟩
  · simp [Builtin.append_, run_underlying ht, sizeOf, typeInfo, hi, Builtin.lenOf, Builtin.firstCells, loadCells, loadCellsFrom, Result.andThen]
  · simp [Builtin.append_, run_underlying ht, sizeOf, typeInfo, hi, Builtin.lenOf, Builtin.firstCells, hnc, storeCells, loadCells, loadCellsFrom, Result.andThen]
/-- 'append(out, x...)': where the new row lies -/
theorem appAllL (w : World) {ops : Array Oper} {rest : List Oper} {o : Oper} {a : Act} {Q : Exit → Act → World → Prop} (hgd : o.guard = none) (s x : Operand)
    (ho : o.op = .call { callee := .builtin .append, args := #[s, x], argTypes := #[26, 26] })
    (base : Nat) (v : Value) (L : List UInt8) (hs : a.eval s = v) (hown : OwnB w base v L) (A : Option Addr) (c : Nat) (l : List UInt8)
    (hx : a.eval x = .slice A l.length c) (hb : Bs w A l) (hlen : L.length + l.length ≤ 140737488355328) (hbase : base ≤ w.heap.size)
    (h : ∀ A' c' w', OwnB w' base (.slice A' (L.length + l.length) c') (L ++ l) → w.grownBy w' v.ownBlock → (∀ j, (Value.slice A' (L.length + l.length) c').ownBlock = some j → v.ownBlock = some j ∨ w.heap.size ≤ j) → wpList Try.prog ops Q rest (a.put o.dst (.slice A' (L.length + l.length) c')) w') : wpList Try.prog ops Q (o :: rest) a w := by
  obtain ⟨i, hi, hz, hsz, hby⟩ := info_parts Try.info_u8
  by_cases hl0 : l = []
  · subst hl0
    obtain ⟨A', c', rfl, _⟩ := hown.isB
    refine wpList_plain hgd fun K hK => ?_
    have hrun : (Builtin.append_ #[26, 26] o.type #[.slice A' L.length c', .slice A 0 c]).run Try.prog w = .ok (.slice A' L.length c') w := by
      rcases A with _ | ad
      · exact run_app_nil (P := Try.prog) w base 26 o.type 5 i 1 Try.underlying26 hi _ _ _ hown c
      · exact run_app_empty (P := Try.prog) w base 26 o.type 5 i 1 Try.underlying26 hi _ _ _ hown ad c
    simp only [List.length_nil] at hx
    unfold Oper.wp
    simp [execOp, ho, resolve, invoke, builtin, hs, hx, hrun, Result.andThen]
    exact hK _ _ (h A' c' w (by simpa using hown) (World.grownBy.refl _ _) (fun j hj => .inl (by simpa using hj)))
  · have hlp : 0 < l.length := List.length_pos_iff.2 hl0
    rcases A with _ | ad
    · obtain ⟨p, o', hA, _⟩ := hb 0 l[0] (List.getElem?_eq_getElem hlp)
      cases hA
    · refine wpList_append_lies (P := Try.prog) w hgd s x 26 ho base 5 i (.int .u8 0) 1 1 Try.underlying26 hi hz hsz hby rfl (by decide) v L.length (L.map bv) hs hown ad l.length c (l.map bv) hx (by simp) ?_ ?_ hlp (by unfold maxLen; omega) (by omega) hbase _ rfl ?_
      · intro j u hj
        rw [List.getElem?_map] at hj
        obtain ⟨b, hjb, rfl⟩ := Option.map_eq_some_iff.1 hj
        obtain ⟨p, o', hA, hc⟩ := hb j b hjb
        injection hA with e
        subst e
        unfold Addr.add
        split
        · rename_i h0; subst h0; simpa using hc
        · exact hc
      · intro u hu
        obtain ⟨b, _, rfl⟩ := List.mem_map.1 hu
        rfl
      · intro g' c' w' h2 h3 h4 h5
        refine h (some ⟨g', 0, none⟩) c' w' (by unfold OwnB; rw [List.length_append, List.map_append]; exact h2) h3 (fun j hj => ?_)
        have e2 : g' = j := by simpa [Value.ownBlock] using hj
        subst e2
        rcases h4 with h9 | h9
        · exact .inl h9
        · exact .inr (by omega)
/-- 'make([]byte, 0, n)' -/
theorem mkB0 (w : World) {ops : Array Oper} {rest : List Oper} {o : Oper} {a : Act} {Q : Exit → Act → World → Prop} (hgd : o.guard = none) (lo co : Operand)
    (ho : o.op = Op.makeSlice 26 lo co) (base n : Nat) (C : Int) (hl : a.eval lo = .int .i64 0) (hc : a.eval co = .int .i64 C) (hC : C = (n : Int)) (hn : n ≤ 1000000) (hbase : base ≤ w.heap.size)
    (h : ∀ w', OwnB w' base (.slice (some ⟨w.heap.size, 0, none⟩) 0 n) [] → Below w.heap.size w w' → w.heap.size < w'.heap.size → wpList Try.prog ops Q rest (a.put o.dst (.slice (some ⟨w.heap.size, 0, none⟩) 0 n)) w') : wpList Try.prog ops Q (o :: rest) a w := by
  obtain ⟨i, hi, hz, hsz, hby⟩ := info_parts Try.info_u8
  refine wpList_make_own w hgd lo co 26 ho base 5 i (.int .u8 0) 1 Try.underlying26 hi hz hsz .i64 .i64 C n hl hc hC (by rw [hby]; omega) (by unfold maxLen; omega) hbase fun w' h1 h2 => h w' h1 ?_ ?_
  · exact (Below.refl _ _).grown h2 (Nat.le_refl _) (fun k hk => by cases hk)
  · exact (World.ownsRow.lt h1 w.heap.size rfl).2

/-- what Encode has made: the frame's box, the bytes' box, the bytes -/
structure En (w : World) (W : World) (cs : Array Value) (N : Nat) (A' : Option Addr) (c' q : Nat) (M : List UInt8) : Prop where
  fr : Blk W w.heap.size 30 cs
  bx : Blk W q 26 #[.slice A' N c']
  own : OwnB W (w.heap.size + 1) (.slice A' N c') M
  ne : (Value.slice A' N c').ownBlock ≠ some q
  len : N = M.length
  top : Below w.heap.size w W
  far : w.heap.size + 1 ≤ q
section
variable {w W W' : World} {cs : Array Value} {N : Nat} {A' : Option Addr} {c' q : Nat} {M : List UInt8}
theorem En.cell (h : En w W cs N A' c' q M) : W.cell? ⟨q, 0, none⟩ = some (.slice A' N c') ∧ W.frozen? ⟨q, 0, none⟩ = false := ⟨h.bx.cell 0, h.bx.frozen 0⟩
theorem En.siz (h : En w W cs N A' c' q M) : w.heap.size + 1 ≤ W.heap.size := by have := h.bx.lt; have := h.far; omega
theorem En.go (h : En w W cs N A' c' q M) (b : Below W.heap.size W W') : En w W' cs N A' c' q M :=
  ⟨h.fr.below b h.fr.lt, h.bx.below b h.bx.lt, h.own.below b, h.ne, h.len, h.top.trans (b.mono h.top.size), h.far⟩
theorem En.put (h : En w W cs N A' c' q M) (v wd : Nat) (hwd : wd ≤ 8) (hv : v < 18446744073709551616) (hN : N ≤ 100000) :
    Calls Try.prog 30 #[.int .u64 (v : Nat), .int .i64 (wd : Nat), .pointer (some ⟨q, 0, none⟩)] W fun e W' => e = .returned (.tuple #[]) ∧ ∃ A2 c2 N2, Hid (N2 = N + wd ∧ En w W' cs N2 A2 c2 q (M ++ be wd v) ∧ Ft q (.slice A' N c') W W' ∧ ∀ j, (Value.slice A2 N2 c2).ownBlock = some j → (Value.slice A' N c').ownBlock = some j ∨ W.heap.size ≤ j) := by
  refine (fput_any v wd N A' c' M q (w.heap.size + 1) W h.len h.bx h.own h.ne h.far hwd hv hN).mono ?_
  rintro e W' ⟨rfl, A2, c2, N2, H⟩
  obtain ⟨h1, h2, h3, h4, h5, h6⟩ := H.out
  have hfar := h.far
  have hsz := h.siz
  exact ⟨rfl, A2, c2, N2, Lib.hid ⟨h1, ⟨h.fr.ft h5 (by omega) (OwnB.ne h.own (Nat.lt_succ_self _)), h2, h3, h4, by rw [h1, List.length_append, be_len, h.len], h5.to h.top (by omega) (fun k e => Nat.le_of_succ_le (World.ownsRow.lt h.own k e).1) h.top.size, h.far⟩, h5, h6⟩⟩
/-- the bytes' box is written anew, behind an append -/
theorem En.store {N2 : Nat} {A2 : Option Addr} {c2 : Nat} {M2 : List UInt8} (h : En w W cs N A' c' q M) (hown : OwnB W' (w.heap.size + 1) (.slice A2 N2 c2) M2) (hg : W.grownBy W' (Value.slice A' N c').ownBlock) (hl : ∀ j, (Value.slice A2 N2 c2).ownBlock = some j → (Value.slice A' N c').ownBlock = some j ∨ W.heap.size ≤ j) (hN : N2 = M2.length) :
    En w (W'.setCell ⟨q, 0, none⟩ (.slice A2 N2 c2)) cs N2 A2 c2 q M2 := by
  have hne2 : (Value.slice A2 N2 c2).ownBlock ≠ some q := fun e => by
    rcases hl q e with h1 | h1
    · exact h.ne h1
    · have := h.bx.lt; omega
  have hfar := h.far
  have hbx : Blk W' q 26 #[.slice A' N c'] := h.bx.kept hg h.ne
  have hfr : Blk W' w.heap.size 30 cs := h.fr.kept hg (OwnB.ne h.own (Nat.lt_succ_self _))
  refine ⟨?_, hbx.set 0 _, OwnB.far (p := ⟨q, 0, none⟩) hown hne2 _, hne2, hN, ?_, h.far⟩
  · exact (Below.heap_setCell W' ⟨q, 0, none⟩ _ w.heap.size (by show w.heap.size ≠ q; omega)).trans hfr
  · exact (h.top.grown hg h.top.size (fun k e => Nat.le_of_succ_le (World.ownsRow.lt h.own k e).1)).setCell (by show w.heap.size ≤ q; omega) _
end

theorem fenc_no (f : FrD) (A : Option Addr) (c : Nat) (w : World) (hA : Bs w A f.l) (ho : f.ok) (hL : f.l.length ≤ 100000) (hm : mayF f = false) :
    Calls Try.prog 14 #[.agg (frC f A c)] w fun e w' => e = .returned (.tuple #[.slice none 0 0, .int .u16 70]) ∧ Below w.heap.size w w' := by
  have hM := fmay_any f A c (w.alloc (.cells (frC f A c) 30)) (hA.below (below_alloc w _)) ho hL
  rw [hm] at hM
  clear hA ho hm
  obtain ⟨kd, ep, se, fc, fb, fn, cn, cl, sm, l, n⟩ := f
  simp only [frC] at hM ⊢
  have HM := Lib.hid hM
  have HK := Lib.hid ((Qs.zero w).box #[.int .u8 (kd : Nat), .int .u32 (ep : Nat), .int .u32 (se : Nat), .int .u32 (fc : Nat), .int .u32 (fb : Nat), .int .u32 (fn : Nat), .int .u32 (cn : Nat), .bool cl, .int .u64 (sm : Nat), .slice A l.length c, .int .i64 n] 30)
  have C := HK.out.says
  simp only [sayAll, cellsSay, qB, qW, Nat.reduceAdd, and_true, true_and] at C
  clear hM
  go_enter Try.func14, Try.ntmps14
  go_wp2_with fail
  refine HM.out.mono ?_
  rintro e w1 ⟨rfl, b1⟩
  have HK1 := Lib.hid (HK.out.go b1)
  clear b1
  go_wp2_with fail
  go_ret2
  exact ⟨rfl, HK1.out.top 1⟩

end Go.Proofs.Ytpedobpbpomkaaa
