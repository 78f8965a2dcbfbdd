/- Joined: Row, Bit1, Bit4, Bit5, Bit2, Bit3, BitE, Xr9, Xr10, Xr11, Xr12, Xr13. -/
import Derived.Test.YtfooggamdbdniaaDoorQ1
import Derived.Laws.ShiftsVar
import Derived.Test.YtfooggamdbdniaaDoorQ2
import Derived.Deep.RegionHeld3
set_option linter.unusedSimpArgs false
set_option linter.unusedVariables false
/-
  Rows of elements of several cells each: as a slice reads them, and as the call's own; append of one and of many.
-/
namespace Go.Proofs.YtfooggamdbdniaaDoor
open Go.RowKit

section
variable {α : Type}

/-- the cells from V on hold the elements, sz cells each -/
def Rw (w : World) (enc : α → List Value) (sz : Nat) (V : Option Addr) (l : List α) : Prop :=
  ∀ i x, l[i]? = some x → ∃ p o, V = some ⟨p, o, none⟩ ∧ ∀ j v, (enc x)[j]? = some v → w.cell? ⟨p, o + i * sz + j, none⟩ = some v
theorem Rw.below {w w' : World} {enc : α → List Value} {sz B : Nat} {V : Option Addr} {l : List α} (h : Rw w enc sz V l) (hb : Below B w w') (hB : w.heap.size ≤ B) : Rw w' enc sz V l := fun i x hi => by
  obtain ⟨p, o, hV, hc⟩ := h i x hi
  exact ⟨p, o, hV, fun j v hj => (hb.cell (Nat.lt_of_lt_of_le (cell_lt (hc j v hj)) hB)).trans (hc j v hj)⟩
theorem Rw.nil (w : World) (enc : α → List Value) (sz : Nat) (V : Option Addr) : Rw w enc sz V [] := fun i x h => by simp at h
theorem Rw.none {w : World} {enc : α → List Value} {sz : Nat} {l : List α} (h : Rw w enc sz none l) : l = [] := by
  cases l with
  | nil => rfl
  | cons x l => obtain ⟨p, o, hV, _⟩ := h 0 x rfl; cases hV

/-- a slice's type whose elements have sz cells -/
structure Elt (P : Program) (t e : TypeId) (enc : α → List Value) (sz bytes : Nat) : Prop where
  under : P.underlying t = some (.slice e)
  info : ∃ z, (P.info? e).map (fun i => (i.zero, i.size, i.bytes)) = some (some z, sz, bytes) ∧ z.cells.size = sz
  pos : 0 < sz
  len : ∀ x, (enc x).length = sz
  one : ∀ x, ∀ v ∈ enc x, v.oneCell' = true

theorem flat_get (enc : α → List Value) (sz : Nat) (hlen : ∀ x, (enc x).length = sz) : ∀ (l : List α) (i : Nat) (x : α), l[i]? = some x → ∀ j, j < sz → (l.flatMap enc)[i * sz + j]? = (enc x)[j]?
  | [], i, x, h, j, hj => by simp at h
  | y :: l, 0, x, h, j, hj => by
    simp at h
    subst h
    rw [List.flatMap_cons, Nat.zero_mul, Nat.zero_add, List.getElem?_append_left (by rw [hlen]; exact hj)]
  | y :: l, i + 1, x, h, j, hj => by
    have e : (i + 1) * sz + j = sz + (i * sz + j) := by rw [Nat.succ_mul]; omega
    rw [List.flatMap_cons, e, List.getElem?_append_right (by rw [hlen]; omega), hlen, Nat.add_sub_cancel_left]
    exact flat_get enc sz hlen l i x (by simpa using h) j hj
theorem flat_length (enc : α → List Value) (sz : Nat) (hlen : ∀ x, (enc x).length = sz) : ∀ (l : List α), (l.flatMap enc).length = l.length * sz
  | [] => by simp
  | y :: l => by rw [List.flatMap_cons, List.length_append, hlen, flat_length enc sz hlen l, List.length_cons, Nat.succ_mul]; omega
theorem flat_at (enc : α → List Value) (sz : Nat) (hsz : 0 < sz) (hlen : ∀ x, (enc x).length = sz) (l : List α) (k : Nat) (u : Value) (h : (l.flatMap enc)[k]? = some u) : ∃ x, l[k / sz]? = some x ∧ (enc x)[k % sz]? = some u := by
  have hk : k < (l.flatMap enc).length := by
    rcases Nat.lt_or_ge k (l.flatMap enc).length with h1 | h1
    · exact h1
    · rw [List.getElem?_eq_none h1] at h; cases h
  rw [flat_length enc sz hlen] at hk
  have hi : k / sz < l.length := (Nat.div_lt_iff_lt_mul hsz).2 hk
  refine ⟨l[k / sz], List.getElem?_eq_getElem hi, ?_⟩
  rw [← flat_get enc sz hlen l (k / sz) _ (List.getElem?_eq_getElem hi) (k % sz) (Nat.mod_lt _ hsz), Nat.mul_comm, Nat.div_add_mod]
  exact h

/-- elements of the call's own -/
def OwnR (w : World) (base : Nat) (e : TypeId) (enc : α → List Value) (sz : Nat) (v : Value) (l : List α) : Prop := w.ownsRow base e sz v l.length (l.flatMap enc)
section
variable {w w' : World} {base : Nat} {e : TypeId} {enc : α → List Value} {sz : Nat} {v : Value} {l : List α}
theorem OwnR.below (h : OwnR w base e enc sz v l) (hb : Below w.heap.size w w') : OwnR w' base e enc sz v l := own_below h hb
theorem OwnR.mono {base' : Nat} (h : OwnR w base e enc sz v l) (hb : base' ≤ base) : OwnR w base' e enc sz v l := own_mono h hb
theorem OwnR.nil (w : World) (base : Nat) (e : TypeId) (enc : α → List Value) (sz : Nat) : OwnR w base e enc sz (.slice none 0 0) [] := World.ownsRow_nil _ _ _ _
theorem OwnR.alloc (h : OwnR w base e enc sz v l) (o : Obj) : OwnR (w.alloc o) base e enc sz v l := World.ownsRow.alloc h o
theorem OwnR.drew (h : OwnR w base e enc sz v l) : OwnR w.drew base e enc sz v l := h
theorem OwnR.far (h : OwnR w base e enc sz v l) {p : Addr} (hp : v.ownBlock ≠ some p.block) (u : Value) : OwnR (w.setCell p u) base e enc sz v l :=
  World.ownsRow.kept (row := some p.block) h ⟨rfl, rfl, rfl, by simp [World.setCell], fun k _ hk => Below.heap_setCell w p u k (fun e => hk (by rw [e]))⟩ (.inr hp)
theorem OwnR.ne (h : OwnR w base e enc sz v l) {k : Nat} (hk : k < base) : v.ownBlock ≠ some k := by
  intro e
  have := (World.ownsRow.lt h k e).1
  omega
theorem OwnR.row {P : Program} {t : TypeId} {bytes : Nat} (E : Elt P t e enc sz bytes) (h : OwnR w base e enc sz v l) : ∃ A c, v = .slice A l.length c ∧ l.length ≤ c ∧ Rw w enc sz A l := by
  rcases h.2 with ⟨rfl, h0⟩ | ⟨g, cap, cur, rfl, hbg, hgg, hn, hm, hs, ht⟩
  · have : l = [] := List.eq_nil_of_length_eq_zero h0
    subst this
    exact ⟨none, 0, rfl, Nat.le_refl _, Rw.nil _ _ _ _⟩
  · refine ⟨some ⟨g, 0, none⟩, cap, rfl, hn, fun i x hi => ⟨g, 0, rfl, fun j v hj => ?_⟩⟩
    have hjs : j < sz := by
      rcases Nat.lt_or_ge j (enc x).length with h1 | h1
      · rw [E.len] at h1; exact h1
      · rw [List.getElem?_eq_none h1] at hj; cases hj
    rw [Nat.zero_add, cell_of_row w g (i * sz + j) cur _ (0, 0) hgg]
    have h2 : (cur.toList.take (l.length * sz))[i * sz + j]? = some v := by rw [ht, flat_get enc sz E.len l i x hi j hjs, hj]
    rw [List.getElem?_take] at h2
    split at h2
    · simpa using h2
    · cases h2
end

theorem run_app_nilR {P : Program} (w : World) (base : Nat) (t ty e : TypeId) (i : TypeInfo) (size : Nat) (ht : P.underlying t = some (.slice e)) (hi : P.info? e = some i)
    (v : Value) (n : Nat) (xs : List Value) (hown : w.ownsRow base e size v n xs) (c : Nat) : (Builtin.append_ #[t, t] ty #[v, .slice none 0 c]).run P w = .ok v w := by
  rcases hown.2 with ⟨rfl, rfl⟩ | ⟨g, cap, cur, rfl, _, _, hnc, _⟩
  · simp [Builtin.append_, run_underlying ht, sizeOf, typeInfo, hi, Builtin.lenOf, Builtin.firstCells]
  · simp [Builtin.append_, run_underlying ht, sizeOf, typeInfo, hi, Builtin.lenOf, Builtin.firstCells, hnc, storeCells]

/-- 'append(out, x...)' -/
theorem appR {P : Program} {t e : TypeId} {enc : α → List Value} {sz bytes : Nat} (E : Elt P t e enc sz bytes) (w : World) {ops : Array Oper} {rest : List Oper} {o : Oper} {a : Act} {Q : Exit → Act → World → Prop} (hgd : o.guard = none) (s x : Operand)
    (ho : o.op = .call { callee := .builtin .append, args := #[s, x], argTypes := #[t, t] })
    (base : Nat) (v : Value) (L : List α) (hs : a.eval s = v) (hown : OwnR w base e enc sz v L) (A : Option Addr) (c : Nat) (l : List α)
    (hx : a.eval x = .slice A l.length c) (hb : Rw w enc sz A l) (hlen : L.length + l.length ≤ maxLen) (hbytes : (L.length + l.length) * bytes ≤ 140737488355328) (hbase : base ≤ w.heap.size)
    (h : ∀ A' c' w', OwnR w' base e enc sz (.slice A' (L.length + l.length) c') (L ++ l) → Below base w w' → wpList P ops Q rest (a.put o.dst (.slice A' (L.length + l.length) c')) w') : wpList P ops Q (o :: rest) a w := by
  obtain ⟨z, hinfo, hzs⟩ := E.info
  obtain ⟨i, hi, hz, hsz, hby⟩ := info_parts hinfo
  rcases A with _ | ad
  · have h0 := hb.none
    subst h0
    obtain ⟨A', c', rfl, _⟩ := hown.row E
    refine wpList_plain hgd fun K hK => ?_
    have hrun := run_app_nilR (P := P) w base t o.type e i sz E.under hi _ _ _ hown c
    unfold Oper.wp
    simp [execOp, ho, resolve, invoke, builtin, hs, hx, hrun, Result.andThen]
    exact hK _ _ (h A' c' w (by simpa using hown) (Below.refl _ _))
  · refine wpList_append_own (P := P) w hgd s x t ho base e i z sz bytes E.under hi hz hsz hby hzs E.pos v L.length (L.flatMap enc) hs hown ad l.length c (l.flatMap enc) hx (flat_length enc sz E.len l) ?_ ?_ hlen hbytes hbase fun v' w' h2 h3 _ => ?_
    · intro j u hj
      obtain ⟨y, hy, hu⟩ := flat_at enc sz E.pos E.len l j u hj
      obtain ⟨p, o, hA, hc⟩ := hb _ y hy
      injection hA with e
      subst e
      have h1 := hc _ u hu
      rw [Nat.add_assoc, Nat.mul_comm, Nat.div_add_mod] at h1
      unfold Addr.add
      split
      · rename_i h0; subst h0; simpa using h1
      · exact h1
    · intro u hu
      obtain ⟨y, _, hy⟩ := List.mem_flatMap.1 hu
      exact E.one y u hy
    · have h4 : OwnR w' base e enc sz v' (L ++ l) := by unfold OwnR; rw [List.length_append, List.flatMap_append]; exact h2
      obtain ⟨A', c', hv, _⟩ := h4.row E
      rw [List.length_append] at hv
      subst hv
      exact h A' c' w' h4 (own_grown hown h3 hbase)

/-- 'append(out, x)', x in a block of its own -/
theorem appR1 {P : Program} {t e : TypeId} {enc : α → List Value} {sz bytes : Nat} (E : Elt P t e enc sz bytes) (w : World) {ops : Array Oper} {rest : List Oper} {o : Oper} {a : Act} {Q : Exit → Act → World → Prop} (hgd : o.guard = none) (s x : Operand)
    (ho : o.op = .call { callee := .builtin .append, args := #[s, x], argTypes := #[t, t] })
    (base : Nat) (v : Value) (L : List α) (hs : a.eval s = v) (hown : OwnR w base e enc sz v L) (g c : Nat) (y : α) (u : TypeId) (cs : Array Value)
    (hx : a.eval x = .slice (some ⟨g, 0, none⟩) 1 c) (hb : Blk w g u cs) (hcs : cs = (enc y).toArray) (hlen : L.length + 1 ≤ maxLen) (hbytes : (L.length + 1) * bytes ≤ 140737488355328) (hbase : base ≤ w.heap.size)
    (h : ∀ g' c' w', OwnR w' base e enc sz (.slice (some ⟨g', 0, none⟩) (L.length + 1) c') (L ++ [y]) → Below base w w' → base ≤ g' → wpList P ops Q rest (a.put o.dst (.slice (some ⟨g', 0, none⟩) (L.length + 1) c')) w') : wpList P ops Q (o :: rest) a w := by
  subst hcs
  refine appR E w hgd s x ho base v L hs hown (some ⟨g, 0, none⟩) c [y] hx ?_ hlen hbytes hbase fun A' c' w' h1 h2 => ?_
  · intro i z hi
    cases i with
    | succ i => simp at hi
    | zero =>
      simp at hi
      subst hi
      refine ⟨g, 0, rfl, fun j v hj => ?_⟩
      rw [Nat.zero_mul, Nat.add_zero, Nat.zero_add, hb.cell]
      simpa using hj
  · have h3 := h1
    rcases h3.2 with ⟨_, h0⟩ | ⟨g', cap, cur, hv, hg, _⟩
    · simp at h0
    · injection hv with e1 e2 e3
      subst e1
      exact h g' c' w' h1 h2 hg
end

end Go.Proofs.YtfooggamdbdniaaDoor

/- Contracts of the first functions of package bit. -/
namespace Go.Proofs.YtfooggamdbdniaaDoor
open Go.RowKit

set_option maxHeartbeats 400000 in
theorem bytesOf_any (n : Nat) (w : World) (hn : (n : Int) ≤ 9223372036854775807) :
    Calls Tryd.prog 31 #[.int .i64 n] w fun e w' => e = .returned (.int .i64 (nb n)) ∧ w = w' := by
  by_cases h : n % 8 = 0
  · have hd : (((n : Int) % 8) != 0) = false := by simp; omega
    go_enter Tryd.func31, Tryd.ntmps31
    go_wp2
    go_ret
    exact ⟨ret_int (by unfold nb; omega), rfl⟩
  · have hd : (((n : Int) % 8) != 0) = true := by simp; omega
    go_enter Tryd.func31, Tryd.ntmps31
    go_wp2
    go_ret
    exact ⟨ret_int (by unfold nb; omega), rfl⟩

theorem bytesOf_sum (m d : Nat) (w : World) (hn : m + d ≤ 9223372036854775807) :
    Calls Tryd.prog 31 #[.int .i64 ((m : Int) + (d : Int))] w fun e w' => e = .returned (.int .i64 (nb (m + d))) ∧ w = w' := by
  have h := bytesOf_any (m + d) w (by omega)
  rwa [Int.natCast_add] at h

theorem last_dec (x k : Nat) : (((x : Int) * 2 ^ k % 256) == 0) = decide (x * 2 ^ k % 256 = 0) := by
  have e : ((x : Int) * 2 ^ k % 256) = ((x * 2 ^ k % 256 : Nat) : Int) := by rw [Int.natCast_emod, Int.natCast_mul, Int.natCast_pow]; rfl
  rw [e]
  generalize x * 2 ^ k % 256 = m
  rw [Bool.eq_iff_iff, beq_iff_eq, decide_eq_true_eq]; omega

theorem sound_lt (l : List UInt8) {n : Int} (h : n < 0) : soundB l n = false := by simp [soundB]; omega
theorem sound_ne {l : List UInt8} {m : Nat} (h : ¬ l.length = nb m) : soundB l m = false := by simp [soundB, h]
theorem sound_zero {l : List UInt8} {m : Nat} (h : l.length = nb m) (h8 : m % 8 = 0) : soundB l m = true := by simp [soundB, h, h8]
theorem sound_last {l : List UInt8} {m : Nat} (h : l.length = nb m) (h8 : ¬ m % 8 = 0) (hp : l.length - 1 < l.length) :
    soundB l m = decide ((l[l.length - 1]).toNat * 2 ^ (m % 8) % 256 = 0) := by
  have e : l[l.length - 1]?.getD 0 = l[l.length - 1] := by rw [List.getElem?_eq_getElem hp]; rfl
  have e1 : soundB l m = decide ((l[l.length - 1]?.getD 0).toNat * 2 ^ (m % 8) % 256 = 0) := by simp [soundB, h8, h]
  rw [e1, e]

set_option maxHeartbeats 400000 in
theorem sound_any (A : Option Addr) (c : Nat) (l : List UInt8) (n : Int) (w : World) (hb : Bs w A l) (hn : -9223372036854775808 ≤ n ∧ n ≤ 9223372036854775807) (hl : l.length ≤ maxLen) :
    Calls Tryd.prog 20 #[.agg #[.slice A l.length c, .int .i64 n]] w fun e w' => e = .returned (.bool (soundB l n)) ∧ Below w.heap.size w w' := by
  unfold maxLen at hl
  by_cases h0 : n < 0
  · have hd : decide (n < 0) = true := by simpa using h0
    go_enter Tryd.func20, Tryd.ntmps20
    go_wp2_with fail
    go_quiet (fail)
    go_wp2
    go_ret
    exact ⟨ret_bool (sound_lt l h0).symm, below_drewN ((Below.refl _ _).alloc (Nat.le_refl _) _) _⟩
  · have hd : decide (n < 0) = false := by simpa using h0
    obtain ⟨m, rfl⟩ := Int.eq_ofNat_of_zero_le (show 0 ≤ n by omega)
    by_cases h1 : l.length = nb m
    · have hg : (((l.length : Int) != (nb m : Int))) = false := by simp; omega
      have H1 := Lib.hid h1
      clear h1
      by_cases h8 : m % 8 = 0
      · have he : (((m : Int) % 8) == 0) = true := by simp; omega
        have H8 := Lib.hid h8
        clear h8
        go_enter Tryd.func20, Tryd.ntmps20
        go_wp2_with fail
        go_quiet ((go_at_call 31; exact quiet_eq (bytesOf_any m _ (by omega))))
        go_wp2
        go_ret
        exact ⟨ret_bool (sound_zero H1.out H8.out).symm, below_drewN ((Below.refl _ _).alloc (Nat.le_refl _) _) _⟩
      · have he : (((m : Int) % 8) == 0) = false := by simp; omega
        have hpos : 0 < l.length := by rw [H1.out]; unfold nb; omega
        have hp : l.length - 1 < l.length := by omega
        obtain ⟨p, o, rfl, hlt, hc⟩ := hb.at_ hpos
        have hc1 := hc _ hp
        clear hc
        go_enter Tryd.func20, Tryd.ntmps20
        go_wp2_with fail
        go_quiet ((go_at_call 31; exact quiet_eq (bytesOf_any m _ (by omega))))
        go_wp2
        go_ret
        rw [sound_last H1.out h8 hp]
        refine ⟨?_, below_drewN ((Below.refl _ _).alloc (Nat.le_refl _) _) _⟩
        exact ret_bool (last_dec _ _)
    · have hg : (((l.length : Int) != (nb m : Int))) = true := by simp; omega
      have H1 := Lib.hid h1
      clear h1
      go_enter Tryd.func20, Tryd.ntmps20
      go_wp2_with fail
      go_quiet ((go_at_call 31; exact quiet_eq (bytesOf_any m _ (by omega))))
      go_wp2
      go_ret
      exact ⟨ret_bool (sound_ne H1.out).symm, below_drewN ((Below.refl _ _).alloc (Nat.le_refl _) _) _⟩

end Go.Proofs.YtfooggamdbdniaaDoor

/- Contracts of package bit: write. -/
namespace Go.Proofs.YtfooggamdbdniaaDoor
open Go.RowKit

theorem write_end {w wr : World} {base g n cap : Nat} {l l1 : List UInt8} {a v d t x r m q k : Nat} (hown : OwnB wr base (.slice (some ⟨g, 0, none⟩) n cap) l1) (hg : base ≤ g) (hbel : Below base w wr) (hw : Wrote l l1 a v d t)
    (hz : ∀ i, a ≤ i → i < a + d → bt l i = false) (hx : x = a + t) (hr : r = d - t) (hq : (8 : Int) - (x : Int) % 8 = q) (hn : m ≤ q) (hnr : m ≤ r) (hl : x / 8 < l1.length) {V : Int} (hV : V = (wrByte l1[x / 8] v r m q : Int)) :
    OwnB ((wr.drewN k).setCell ⟨g, x / 8, none⟩ (.int .u8 V)) base (.slice (some ⟨g, 0, none⟩) n cap) (l1.set (x / 8) (UInt8.ofNat (wrByte l1[x / 8] v r m q))) ∧
    Wrote l (l1.set (x / 8) (UInt8.ofNat (wrByte l1[x / 8] v r m q))) a v d (t + m) ∧ Below base w ((wr.drewN k).setCell ⟨g, x / 8, none⟩ (.int .u8 V)) := by
  have hlt := wrByte_lt l1[x / 8] v r m q hn (by omega)
  have e : Value.int .u8 V = bv (UInt8.ofNat (wrByte l1[x / 8] v r m q)) := by rw [hV, bv, UInt8.toNat_ofNat_of_lt' hlt]
  rw [e]
  exact ⟨(show OwnB (wr.drewN k) base (.slice (some ⟨g, 0, none⟩) n cap) l1 from hown).set _ _, hw.step hz hx hr (by omega) hn hnr hl, (below_drewN hbel _).setCell hg _⟩

set_option maxHeartbeats 1000000 in
theorem write_any (base g cap : Nat) (l : List UInt8) (a v d : Nat) (w : World) (ho : OwnB w base (.slice (some ⟨g, 0, none⟩) l.length cap) l) (hg : base ≤ g) (hgw : g < w.heap.size) (hl : l.length ≤ 2199023255552) (hd : d ≤ 64) (had : a + d ≤ 8 * l.length)
    (hv : v < 18446744073709551616) (hz : ∀ i, a ≤ i → i < a + d → bt l i = false) :
    Calls Tryd.prog 45 #[.slice (some ⟨g, 0, none⟩) l.length cap, .int .i64 a, .int .u64 v, .int .i64 d] w fun e w' => e = .returned (.tuple #[]) ∧ 
      ∃ l', OwnB w' base (.slice (some ⟨g, 0, none⟩) l.length cap) l' ∧ Wrote l l' a v d d ∧ Below base w w' := by
  have HZ := Lib.hid hz
  clear hz
  go_enter Tryd.func45, Tryd.ntmps45
  go_wp2
  go_loopw [1, 3] (fun x r wr => ∃ (t : Nat) (l1 : List UInt8), t ≤ d ∧ x = .int .i64 ((a + t : Nat) : Int) ∧ r = .int .i64 ((d - t : Nat) : Int) ∧ OwnB wr base (.slice (some ⟨g, 0, none⟩) l.length cap) l1 ∧ Wrote l l1 a v d t ∧ Below base w wr)
    (fun _ r _ => (intOf r).toNat)
  case atStart => exact ⟨0, l, Nat.zero_le _, rfl, rfl, ho, Wrote.zero _ _ _ _, Below.refl _ _⟩
  case round =>
    obtain ⟨t, l1, ht, rfl, rfl, hown, hw, hbel⟩ := hrel
    have HW := Lib.hid hw
    clear hw
    by_cases hlt : t < d
    · obtain ⟨x, hx⟩ : ∃ x, x = a + t := ⟨_, rfl⟩
      obtain ⟨r, hr⟩ : ∃ r, r = d - t := ⟨_, rfl⟩
      rw [← hx, ← hr]
      have hlen := HW.out.1
      have hx8 : x / 8 < l1.length := by omega
      have hx8' : x / 8 < l.length := by omega
      have hr0 : 0 < r := by omega
      have hxb : x ≤ 17592186044416 := by omega
      have hr64 : r ≤ 64 := by omega
      have HX := Lib.hid hx
      have HR := Lib.hid hr
      clear hx hr hlen
      have hc2 := hown.cell (x / 8) hx8
      have hfr := hown.frozen (x / 8)
      have hix : (x : Int) / 8 < l.length := by omega
      obtain ⟨q, hq⟩ : ∃ q : Nat, (8 : Int) - (x : Int) % 8 = (q : Int) := ⟨8 - x % 8, by omega⟩
      have hq1 : 1 ≤ q ∧ q ≤ 8 := by omega
      have HQ := Lib.hid hq
      clear hq
      by_cases hm : q ≤ r
      · have hmI : (8 : Int) - (x : Int) % 8 ≤ r := by rw [HQ.out]; omega
        go_wp2
        rw [HQ.out]
        clear hmI
        go_quiet (fail)
        go_wp2
        go_region
        go_wp2
        go_roundw
        case measure => simp [intOf]; omega
        case rel =>
          have hv1 := wr_val l1[x / 8] v r q q (Nat.le_refl _) hq1.2
          rw [Nat.sub_self, Int.pow_zero, Int.mul_one, ← nat_shr] at hv1
          obtain ⟨h1, h2, h3⟩ := write_end (k := nq + 1) hown hg hbel HW.out HZ.out HX.out HR.out HQ.out (Nat.le_refl _) hm hx8 hv1
          exact ⟨t + q, _, by have := HR.out; omega, by rw [HX.out]; go_num, by have := HR.out; congr 1; omega, h1, h2, h3⟩
      · have hmI : ¬ (8 : Int) - (x : Int) % 8 ≤ r := by rw [HQ.out]; omega
        go_wp2
        rw [HQ.out]
        clear hmI
        have hqr : (0 : Int) ≤ (q : Int) - r := by omega
        go_quiet (fail)
        go_wp2
        go_region
        go_wp2
        go_roundw
        case measure => simp [intOf]; omega
        case rel =>
          have hv1 := wr_val l1[x / 8] v r r q (by omega) hq1.2
          rw [Nat.sub_self, Nat.pow_zero, Nat.div_one] at hv1
          obtain ⟨h1, h2, h3⟩ := write_end (k := nq + 1) hown hg hbel HW.out HZ.out HX.out HR.out HQ.out (by omega) (Nat.le_refl _) hx8 hv1
          exact ⟨t + r, _, by have := HR.out; omega, by rw [HX.out]; go_num, by have := HR.out; congr 1; omega, h1, h2, h3⟩
    · obtain rfl : t = d := by omega
      go_wp2
      go_end0
      exact ⟨rfl, l1, hown, HW.out, hbel⟩

theorem write_n (base g cap n : Nat) (l : List UInt8) (hn : n = l.length) (a v d : Nat) (w : World) (ho : OwnB w base (.slice (some ⟨g, 0, none⟩) n cap) l) (hl : l.length ≤ 2199023255552) (hd : d ≤ 64) (had : a + d ≤ 8 * l.length)
    (hv : v < 18446744073709551616) (hz : ∀ i, a ≤ i → i < a + d → bt l i = false) :
    Calls Tryd.prog 45 #[.slice (some ⟨g, 0, none⟩) n cap, .int .i64 a, .int .u64 v, .int .i64 d] w fun e w' => e = .returned (.tuple #[]) ∧ 
      ∃ l', OwnB w' base (.slice (some ⟨g, 0, none⟩) n cap) l' ∧ Wrote l l' a v d d ∧ Below base w w' := by
  subst hn
  exact write_any base g cap l a v d w ho ho.lt.1 ho.lt.2 hl hd had hv hz

end Go.Proofs.YtfooggamdbdniaaDoor

/- Contracts of package bit: Put. -/
namespace Go.Proofs.YtfooggamdbdniaaDoor
open Go.RowKit

set_option maxHeartbeats 1000000 in
theorem put_ok (A : Option Addr) (c : Nat) (l : List UInt8) (m : Nat) (v : Nat) (d : Nat) (w : World) (hb : Bs w A l) (hl : l.length ≤ 1099511627776) (hv : v < 18446744073709551616) (hw : d ≤ 64) (hs : soundB l m = true) :
    Calls Tryd.prog 41 #[.agg #[.slice A l.length c, .int .i64 m], .int .u64 v, .int .i64 d] w fun e w' =>
      ∃ A' c', e = .returned (.tuple #[.agg #[.slice A' (pack (bitl l m ++ valB v d)).length c', .int .i64 ((m + d : Nat) : Int)], .int .u16 0]) ∧ OwnB w' w.heap.size (.slice A' (pack (bitl l m ++ valB v d)).length c') (pack (bitl l m ++ valB v d)) ∧ Below w.heap.size w w' := by
  have hb0 := hb.below (below_alloc2 w (.cells #[.slice A l.length c, .int .i64 m] 29) (.cells #[.slice none 0 0, .int .i64 0] 29))
  have hlm : l.length ≤ maxLen := by unfold maxLen; omega
  obtain ⟨m', hm, hm8, hnb⟩ := sound_nat hs
  obtain rfl : m = m' := by omega
  have hln : l.length ≤ nb (m + d) := by rw [hnb]; unfold nb; omega
  have hnl : nb (m + d) ≤ l.length + 9 := by rw [hnb]; unfold nb; omega
  have h8 : m + d ≤ 8 * nb (m + d) := by unfold nb; omega
  have hplen : (pack (bitl l m ++ valB v d)).length = nb (m + d) := by rw [pack_length, List.length_append, bitl_length, valB_length]
  obtain ⟨N, hN⟩ : ∃ N, N = nb (m + d) := ⟨_, rfl⟩
  rw [← hN] at hln hnl h8
  have HN := Lib.hid hN
  have HP := Lib.hid hplen
  have HS := Lib.hid hs
  clear hs hm hnb hN hplen
  have hd0 : decide ((d : Int) < 0) = false := by simp
  have h64 : ¬ (64 : Int) < d := by omega
  go_enter Tryd.func41, Tryd.ntmps41
  go_wp2_with (first
    | (go_at_call 20; refine (sound_any A c l m _ hb0 (by omega) hlm).mono ?_; rw [HS.out]; rintro e w1 ⟨rfl, hb1⟩; obtain ⟨c0, c1, r0, r1, f0, f1, hsz⟩ := kept2 hb1 (by simp))
    | (go_at_call 31; refine (bytesOf_sum m d _ (by omega)).mono ?_; rw [← HN.out]; rintro e w2 ⟨rfl, rfl⟩)
    | (at_make; go_must (refine mkB _ rfl (.tmp 26) (.tmp 26) rfl (w.heap.size + 2) N rfl rfl (by omega) hsz ?_); intro w3 hown3 hb3; clear c0 c1 r0 r1 f0 f1; have hb13 := hb1.trans (hb3.mono (by simpa using hsz)); obtain ⟨c0, c1, r0, r1, f0, f1, hsz3⟩ := kept2 hb13 (by simp))
    | (refine copyB _ rfl (.tmp 28) (.tmp 30) rfl (w.heap.size + 2) w1.heap.size N N _ rfl hown3 A c l rfl (hb0.below hb13) hln ?_; intro w4 hown4 hb4 hg4; clear c0 c1 r0 r1 f0 f1 hsz3; have hb14 := hb13.trans (hb4.mono (by simp)); obtain ⟨c0, c1, r0, r1, f0, f1, hsz4⟩ := kept2 hb14 (by simp)))
  have hLlen : (l ++ List.drop l.length (List.replicate N (0 : UInt8))).length = N := by rw [List.length_append, List.length_drop, List.length_replicate]; omega
  refine (write_n (w.heap.size + 2) w1.heap.size N N _ hLlen.symm m v d w4 hown4 (by omega) hw (by omega) hv (by rw [HN.out]; exact put_zero HS.out)).mono ?_
  clear hLlen
  rintro e w5 ⟨rfl, l5, hown5, hwr, hb5⟩
  clear c0 c1 r0 r1 f0 f1 hsz4
  have hb15 := hb14.trans (hb5.mono (by simp))
  obtain ⟨c0, c1, r0, r1, f0, f1, hsz5⟩ := kept2 hb15 (by simp)
  have hl5 : l5 = pack (bitl l m ++ valB v d) := put_done HS.out (by rw [HN.out] at hwr; exact hwr)
  have hlt5 := hown5.lt.2
  have HL5 := Lib.hid hl5
  clear hl5 hwr
  go_wp2
  refine bodyPost_ret (v := .tuple #[.agg #[.slice (some ⟨w1.heap.size, 0, none⟩) N N, .int .i64 ((m : Int) + d)], .int .u16 0]) (by simp [results, Tryd.results41, go_sem, r0, r1]) rfl ?_
  rw [HP.out, ← HN.out, ← HL5.out, Int.natCast_add]
  have hne := hown5.ne (show w.heap.size + 1 < w.heap.size + 2 by omega)
  exact ⟨_, _, rfl, ((hown5.mono (by omega)).far hne _).far hne _, (((below_alloc2 _ _ _).trans (hb15.mono (by simp; omega))).setCell (by simp) _).setCell (by simp) _⟩

set_option maxHeartbeats 1000000 in
theorem put_err (A : Option Addr) (c : Nat) (l : List UInt8) (n : Int) (v : Nat) (width : Int) (w : World) (hb : Bs w A l) (hn : -9223372036854775808 ≤ n ∧ n ≤ 9223372036854775807) (hl : l.length ≤ 1099511627776)
    (hwd : -9223372036854775808 ≤ width ∧ width ≤ 9223372036854775807) (k : Nat) (hk : (putSpec l n v width).2.2 = k) (hk0 : k ≠ 0) :
    Calls Tryd.prog 41 #[.agg #[.slice A l.length c, .int .i64 n], .int .u64 v, .int .i64 width] w fun e w' =>
      ∃ A' c', e = .returned (.tuple #[.agg #[.slice A' 0 c', .int .i64 0], .int .u16 k]) ∧ OwnB w' w.heap.size (.slice A' 0 c') [] ∧ Below w.heap.size w w' := by
  have hb0 := hb.below (below_alloc2 w (.cells #[.slice A l.length c, .int .i64 n] 29) (.cells #[.slice none 0 0, .int .i64 0] 29))
  have hlm : l.length ≤ maxLen := by unfold maxLen; omega
  by_cases hs : soundB l n = false
  · obtain rfl : k = 11 := by rw [← hk]; simp [putSpec, hs]
    have HS := Lib.hid hs
    clear hs hk
    go_enter Tryd.func41, Tryd.ntmps41
    go_wp2_with (go_at_call 20; refine (sound_any A c l n _ hb0 hn hlm).mono ?_; rw [HS.out]; rintro e w1 ⟨rfl, hb1⟩; obtain ⟨c0, c1, r0, r1, f0, f1, hsz⟩ := kept2 hb1 (by simp))
    refine bodyPost_ret (v := .tuple #[.agg #[.slice none 0 0, .int .i64 0], .int .u16 11]) (by simp [results, Tryd.results41, go_sem, r0, r1]) rfl ?_
    exact ⟨_, _, rfl, OwnB.nil _ _, (((below_alloc2 _ _ _).trans (hb1.mono (by simp; omega))).setCell (by simp) _).setCell (by simp) _⟩
  · have HS := Lib.hid (show soundB l n = true by simpa using hs)
    have he : width < 0 ∨ 64 < width := by
      apply Classical.byContradiction; intro he
      exact hk0 (by rw [← hk]; simp [putSpec, hs, he])
    obtain rfl : k = 1 := by rw [← hk]; simp [putSpec, hs, he]
    clear hs hk
    have key : ∀ b, decide (width < 0) = b → (b = false → 64 < width) → 
        Calls Tryd.prog 41 #[.agg #[.slice A l.length c, .int .i64 n], .int .u64 v, .int .i64 width] w fun e w' =>
          ∃ A' c', e = .returned (.tuple #[.agg #[.slice A' 0 c', .int .i64 0], .int .u16 (1 : Nat)]) ∧ OwnB w' w.heap.size (.slice A' 0 c') [] ∧ Below w.heap.size w w' := by
      intro b hd h64
      cases b
      all_goals
        try have hg := h64 rfl
        clear h64 he
        go_enter Tryd.func41, Tryd.ntmps41
        go_wp2_with (go_at_call 20; refine (sound_any A c l n _ hb0 hn hlm).mono ?_; rw [HS.out]; rintro e w1 ⟨rfl, hb1⟩; obtain ⟨c0, c1, r0, r1, f0, f1, hsz⟩ := kept2 hb1 (by simp))
        refine bodyPost_ret (v := .tuple #[.agg #[.slice none 0 0, .int .i64 0], .int .u16 1]) (by simp [results, Tryd.results41, go_sem, r0, r1]) rfl ?_
        exact ⟨_, _, rfl, OwnB.nil _ _, (((below_alloc2 _ _ _).trans (hb1.mono (by simp; omega))).setCell (by simp) _).setCell (by simp) _⟩
    exact key _ rfl (by simp; omega)

theorem put_any (A : Option Addr) (c : Nat) (l : List UInt8) (n : Int) (v : Nat) (width : Int) (w : World) (hb : Bs w A l) (hn : -9223372036854775808 ≤ n ∧ n ≤ 9223372036854775807) (hl : l.length ≤ 1099511627776)
    (hv : v < 18446744073709551616) (hwd : -9223372036854775808 ≤ width ∧ width ≤ 9223372036854775807) :
    Calls Tryd.prog 41 #[.agg #[.slice A l.length c, .int .i64 n], .int .u64 v, .int .i64 width] w fun e w' =>
      ∃ A' c', e = .returned (.tuple #[.agg #[.slice A' (putSpec l n v width).1.length c', .int .i64 (putSpec l n v width).2.1], .int .u16 (putSpec l n v width).2.2]) ∧ OwnB w' w.heap.size (.slice A' (putSpec l n v width).1.length c') (putSpec l n v width).1 ∧ Below w.heap.size w w' := by
  by_cases h0 : (putSpec l n v width).2.2 = 0
  · unfold putSpec at h0
    split at h0
    · simp at h0
    · split at h0
      · simp at h0
      · rename_i hs he
        obtain ⟨m, rfl, hm8, -⟩ := sound_nat (show soundB l n = true by simpa using hs)
        obtain ⟨d, rfl⟩ := Int.eq_ofNat_of_zero_le (show 0 ≤ width by omega)
        rw [show putSpec l m v d = (pack (bitl l m ++ valB v d), m + d, 0) from by simp only [putSpec, if_neg hs, if_neg he]; rfl]
        exact put_ok A c l m v d w hb hl hv (by omega) (by simpa using hs)
  · have h1 : putSpec l n v width = ([], 0, (putSpec l n v width).2.2) := by
      unfold putSpec at h0 ⊢
      split
      · rfl
      · split
        · rfl
        · rename_i hs he; simp [hs, he] at h0
    have h2 := put_err A c l n v width w hb hn hl hwd _ rfl h0
    rw [h1]
    exact h2

end Go.Proofs.YtfooggamdbdniaaDoor

/- Contracts of package bit: read. -/
namespace Go.Proofs.YtfooggamdbdniaaDoor
open Go.RowKit

theorem read_end (l : List UInt8) (a t n x q d : Nat) (hx : x = a + t) (hq : (8 : Int) - (x : Int) % 8 = q) (hn : n ≤ q) (hl : x / 8 < l.length) (htd : t + n ≤ d) (hd : d ≤ 64) :
    bits .or .u64 (IntKind.u64.wrap ((numB (cutl l a t) : Int) * 2 ^ n)) (IntKind.u64.wrap (bits .and .u8 (((l[x / 8]).toNat / 2 ^ (q - n) : Nat) : Int) ((2 ^ n - 1) % 256))) = (numB (cutl l a (t + n)) : Int) := by
  have h := numB_lt (cutl l a t)
  rw [cutl_length] at h
  have h2 : numB (cutl l a t) * 2 ^ n < 2 ^ t * 2 ^ n := Nat.mul_lt_mul_of_pos_right h (Nat.two_pow_pos n)
  rw [← Nat.pow_add] at h2
  have h3 : (2 : Nat) ^ (t + n) ≤ 2 ^ 64 := Nat.pow_le_pow_right (by decide) (by omega)
  have hb := (l[x / 8]).toNat_lt
  rw [read_val _ _ _ (by omega) (by omega) (Nat.lt_of_le_of_lt (Nat.div_le_self _ _) hb), read_step l a t n x q hx (by omega) hn hl]

set_option maxHeartbeats 1000000 in
theorem read_any (A : Option Addr) (c : Nat) (l : List UInt8) (a d : Nat) (w : World) (hb : Bs w A l) (hl : l.length ≤ 1099511627776) (hd : d ≤ 64) (had : a + d ≤ 8 * l.length) :
    Calls Tryd.prog 44 #[.slice A l.length c, .int .i64 a, .int .i64 d] w fun e w' => e = .returned (.int .u64 (numB (cutl l a d))) ∧ Below w.heap.size w w' := by
  go_enter Tryd.func44, Tryd.ntmps44
  go_wp2
  go_loopw [7, 1, 2] (fun v x r wr => ∃ t : Nat, t ≤ d ∧ x = .int .i64 ((a + t : Nat) : Int) ∧ r = .int .i64 ((d - t : Nat) : Int) ∧ v = .int .u64 (numB (cutl l a t)) ∧ Below w.heap.size w wr)
    (fun _ _ r _ => (intOf r).toNat)
  case atStart => exact ⟨0, Nat.zero_le _, rfl, rfl, rfl, Below.refl _ _⟩
  case round =>
    obtain ⟨t, ht, rfl, rfl, rfl, hbel⟩ := hrel
    by_cases hlt : t < d
    · obtain ⟨x, hx⟩ : ∃ x, x = a + t := ⟨_, rfl⟩
      obtain ⟨r, hr⟩ : ∃ r, r = d - t := ⟨_, rfl⟩
      rw [← hx, ← hr]
      have hx8 : x / 8 < l.length := by omega
      have hr0 : 0 < r := by omega
      have hxb : x ≤ 8796093022208 := by omega
      have hr64 : r ≤ 64 := by omega
      obtain ⟨p, o, rfl, hlt', hc⟩ := hb.at_ (by omega)
      have hc1 := hc _ hx8
      have hc2 : wr.cell? ⟨p, o + x / 8, none⟩ = some (bv l[x / 8]) := (hbel.cell hlt').trans hc1
      clear hc hc1
      have HX := Lib.hid hx
      have HR := Lib.hid hr
      clear hx hr
      have hix : (x : Int) / 8 < l.length := by omega
      obtain ⟨q, hq⟩ : ∃ q : Nat, (8 : Int) - (x : Int) % 8 = (q : Int) := ⟨8 - x % 8, by omega⟩
      have hq1 : 1 ≤ q ∧ q ≤ 8 := by omega
      have HQ := Lib.hid hq
      clear hq
      by_cases hm : q ≤ r
      · have hmI : (8 : Int) - (x : Int) % 8 ≤ r := by rw [HQ.out]; omega
        go_wp2
        rw [HQ.out]
        clear hmI
        go_quiet (fail)
        go_wp2
        go_roundw
        case measure => simp [intOf]; omega
        case rel =>
          refine ⟨t + q, by have := HR.out; omega, by rw [HX.out]; go_num, by have := HR.out; congr 1; omega, ?_, below_drewN hbel _⟩
          have h := read_end l a t q x q d HX.out HQ.out (Nat.le_refl _) hx8 (by have := HR.out; omega) hd
          rw [Nat.sub_self, Nat.pow_zero, Nat.div_one] at h
          rw [h]
      · have hmI : ¬ (8 : Int) - (x : Int) % 8 ≤ r := by rw [HQ.out]; omega
        go_wp2
        rw [HQ.out]
        clear hmI
        have hqr : (0 : Int) ≤ (q : Int) - r := by omega
        go_quiet (fail)
        go_wp2
        go_roundw
        case measure => simp [intOf]; omega
        case rel =>
          refine ⟨t + r, by have := HR.out; omega, by rw [HX.out]; go_num, by have := HR.out; congr 1; omega, ?_, below_drewN hbel _⟩
          have h := read_end l a t r x q d HX.out HQ.out (by omega) hx8 (by have := HR.out; omega) hd
          rw [nat_shr, h]
    · obtain rfl : t = d := by omega
      go_wp2
      go_ret
      exact ⟨rfl, hbel⟩

end Go.Proofs.YtfooggamdbdniaaDoor

/- Contracts of package bit: Get. -/
namespace Go.Proofs.YtfooggamdbdniaaDoor
open Go.RowKit

set_option maxHeartbeats 1000000 in
theorem get_err (A : Option Addr) (c : Nat) (l : List UInt8) (n at_ width : Int) (w : World) (hb : Bs w A l) (hn : -9223372036854775808 ≤ n ∧ n ≤ 9223372036854775807) (hl : l.length ≤ 1099511627776)
    (ha : -9223372036854775808 ≤ at_ ∧ at_ ≤ 9223372036854775807) (hwd : -9223372036854775808 ≤ width ∧ width ≤ 9223372036854775807) (k : Nat) (hk : (getSpec l n at_ width).2 = k) (hk0 : k ≠ 0) :
    Calls Tryd.prog 37 #[.agg #[.slice A l.length c, .int .i64 n], .int .i64 at_, .int .i64 width] w fun e w' => e = .returned (.tuple #[.int .u64 0, .int .u16 k]) ∧ Below w.heap.size w w' := by
  have hb0 := hb.below (below_alloc w (.cells #[.slice A l.length c, .int .i64 n] 29))
  have hlm : l.length ≤ maxLen := by unfold maxLen; omega
  by_cases hs : soundB l n = false
  · obtain rfl : k = 11 := by rw [← hk]; simp [getSpec, hs]
    have HS := Lib.hid hs
    clear hs hk
    go_enter Tryd.func37, Tryd.ntmps37
    go_wp2_with (go_at_call 20; refine (sound_any A c l n _ hb0 hn hlm).mono ?_; rw [HS.out]; rintro e w1 ⟨rfl, hb1⟩; obtain ⟨c0, c1, hsz, _, _⟩ := kept1 hb1 (by simp))
    go_ret2
    exact ⟨rfl, (below_alloc _ _).trans (hb1.mono (by simp))⟩
  · have HS := Lib.hid (show soundB l n = true by simpa using hs)
    by_cases hw : width < 0 ∨ 64 < width
    · obtain rfl : k = 1 := by rw [← hk]; simp [getSpec, hs, hw]
      clear hs hk
      have key : ∀ b, decide (width < 0) = b → (b = false → 64 < width) → 
          Calls Tryd.prog 37 #[.agg #[.slice A l.length c, .int .i64 n], .int .i64 at_, .int .i64 width] w fun e w' => e = .returned (.tuple #[.int .u64 0, .int .u16 (1 : Nat)]) ∧ Below w.heap.size w w' := by
        intro b hd h64
        cases b
        all_goals
          try have hg := h64 rfl
          clear h64 hw
          go_enter Tryd.func37, Tryd.ntmps37
          go_wp2_with (go_at_call 20; refine (sound_any A c l n _ hb0 hn hlm).mono ?_; rw [HS.out]; rintro e w1 ⟨rfl, hb1⟩; obtain ⟨c0, c1, hsz, _, _⟩ := kept1 hb1 (by simp))
          go_ret2
          exact ⟨rfl, (below_alloc _ _).trans (hb1.mono (by simp))⟩
      exact key _ rfl (by simp; omega)
    · have he : at_ < 0 ∨ n < at_ ∨ n - at_ < width := by
        apply Classical.byContradiction; intro he
        exact hk0 (by rw [← hk]; simp [getSpec, hs, hw, he])
      obtain rfl : k = 10 := by rw [← hk]; simp [getSpec, hs, hw, he]
      obtain ⟨m, rfl, hm8, -⟩ := sound_nat (show soundB l n = true by simpa using hs)
      clear hs hk
      have hd : decide (width < 0) = false := by simp; omega
      have h64 : ¬ 64 < width := by omega
      have key : ∀ b, decide (at_ < 0) = b → (b = false → (m : Int) - width < at_) →
          Calls Tryd.prog 37 #[.agg #[.slice A l.length c, .int .i64 m], .int .i64 at_, .int .i64 width] w fun e w' => e = .returned (.tuple #[.int .u64 0, .int .u16 (10 : Nat)]) ∧ Below w.heap.size w w' := by
        intro b h1 h3
        cases b
        all_goals
          try have hg := h3 rfl
          clear h3 he hw
          go_enter Tryd.func37, Tryd.ntmps37
          go_wp2_with (go_at_call 20; refine (sound_any A c l m _ hb0 hn hlm).mono ?_; rw [HS.out]; rintro e w1 ⟨rfl, hb1⟩; obtain ⟨c0, c1, hsz, _, _⟩ := kept1 hb1 (by simp))
          go_ret2
          exact ⟨rfl, (below_alloc _ _).trans (hb1.mono (by simp))⟩
      exact key _ rfl (by simp; omega)

set_option maxHeartbeats 1000000 in
theorem get_ok (A : Option Addr) (c : Nat) (l : List UInt8) (m a d : Nat) (w : World) (hb : Bs w A l) (hl : l.length ≤ 1099511627776) (hs : soundB l m = true) (hd : d ≤ 64) (had : a + d ≤ m) :
    Calls Tryd.prog 37 #[.agg #[.slice A l.length c, .int .i64 m], .int .i64 a, .int .i64 d] w fun e w' => e = .returned (.tuple #[.int .u64 (numB (cutl l a d)), .int .u16 0]) ∧ Below w.heap.size w w' := by
  have hb0 := hb.below (below_alloc w (.cells #[.slice A l.length c, .int .i64 m] 29))
  have hlm : l.length ≤ maxLen := by unfold maxLen; omega
  obtain ⟨m', hm, hm8, -⟩ := sound_nat hs
  obtain rfl : m = m' := by omega
  have HS := Lib.hid hs
  clear hs hm
  have hd0 : decide ((d : Int) < 0) = false := by simp
  have h64 : ¬ (64 : Int) < d := by omega
  have h1 : decide ((a : Int) < 0) = false := by simp
  have h3 : ¬ (m : Int) - d < a := by omega
  go_enter Tryd.func37, Tryd.ntmps37
  go_wp2_with (first
    | (go_at_call 20; refine (sound_any A c l m _ hb0 (by omega) hlm).mono ?_; rw [HS.out]; rintro e w1 ⟨rfl, hb1⟩; obtain ⟨c0, c1, hsz, _, _⟩ := kept1 hb1 (by simp))
    | (go_at_call 44; refine (read_any A c l a d _ (hb0.below hb1) hl hd (by omega)).mono ?_; rintro e w2 ⟨rfl, hb2⟩))
  go_ret2
  exact ⟨rfl, ((below_alloc _ _).trans (hb1.mono (by simp))).trans (hb2.mono (by omega))⟩

theorem get_any (A : Option Addr) (c : Nat) (l : List UInt8) (n at_ width : Int) (w : World) (hb : Bs w A l) (hn : -9223372036854775808 ≤ n ∧ n ≤ 9223372036854775807) (hl : l.length ≤ 1099511627776)
    (ha : -9223372036854775808 ≤ at_ ∧ at_ ≤ 9223372036854775807) (hwd : -9223372036854775808 ≤ width ∧ width ≤ 9223372036854775807) :
    Calls Tryd.prog 37 #[.agg #[.slice A l.length c, .int .i64 n], .int .i64 at_, .int .i64 width] w fun e w' =>
      e = .returned (.tuple #[.int .u64 (getSpec l n at_ width).1, .int .u16 (getSpec l n at_ width).2]) ∧ Below w.heap.size w w' := by
  by_cases h0 : (getSpec l n at_ width).2 = 0
  · unfold getSpec at h0
    split at h0
    · simp at h0
    · split at h0
      · simp at h0
      · split at h0
        · simp at h0
        · rename_i hs hw he
          obtain ⟨m, rfl, hm8, -⟩ := sound_nat (show soundB l n = true by simpa using hs)
          obtain ⟨a, rfl⟩ := Int.eq_ofNat_of_zero_le (show 0 ≤ at_ by omega)
          obtain ⟨d, rfl⟩ := Int.eq_ofNat_of_zero_le (show 0 ≤ width by omega)
          rw [show getSpec l m a d = (numB (cutl l a d), 0) from by simp only [getSpec, if_neg hs, if_neg hw, if_neg he]; rfl]
          exact get_ok A c l m a d w hb hl (by simpa using hs) (by omega) (by omega)
  · have h1 : (getSpec l n at_ width).1 = 0 := by
      unfold getSpec at h0 ⊢
      split
      · rfl
      · split
        · rfl
        · split
          · rfl
          · rename_i hs hw he; simp [hs, hw, he] at h0
    rw [h1]
    exact get_err A c l n at_ width w hb hn hl ha hwd _ rfl h0

end Go.Proofs.YtfooggamdbdniaaDoor

/- Contracts of package bit on bits that are known to be sound: the bytes of a list of bits. -/
namespace Go.Proofs.YtfooggamdbdniaaDoor
open Go.RowKit

theorem put_M (A : Option Addr) (c : Nat) (L : List Bool) (V d : Int) (M : List Bool) (w : World) (hM : M = L ++ valB V.toNat d.toNat) (hb : Bs w A (pack L)) (hV : 0 ≤ V ∧ V < 18446744073709551616) (hd : 0 ≤ d ∧ d ≤ 64) (hL : L.length ≤ 137438953472) :
    Calls Tryd.prog 41 #[.agg #[.slice A (pack L).length c, .int .i64 L.length], .int .u64 V, .int .i64 d] w fun e w' =>
      ∃ A' c', e = .returned (.tuple #[.agg #[.slice A' (pack M).length c', .int .i64 M.length], .int .u16 0]) ∧ OwnB w' w.heap.size (.slice A' (pack M).length c') (pack M) ∧ Below w.heap.size w w' := by
  obtain ⟨v, rfl⟩ := Int.eq_ofNat_of_zero_le hV.1
  obtain ⟨t, rfl⟩ := Int.eq_ofNat_of_zero_le hd.1
  simp only [Int.toNat_natCast] at hM
  have h := put_ok A c (pack L) L.length v t w hb (by have := pack_le L hL; omega) (by omega) (by omega) (sound_pack L)
  have hl : M.length = L.length + t := by rw [hM, List.length_append, valB_length]
  rw [bits_pack, ← hM, ← hl] at h
  exact h

theorem get_M (A : Option Addr) (c : Nat) (M : List Bool) (a d : Int) (w : World) (hb : Bs w A (pack M)) (ha : 0 ≤ a) (hd : 0 ≤ d ∧ d ≤ 64) (had : a + d ≤ M.length) (hL : M.length ≤ 137438953472) :
    Calls Tryd.prog 37 #[.agg #[.slice A (pack M).length c, .int .i64 M.length], .int .i64 a, .int .i64 d] w fun e w' =>
      e = .returned (.tuple #[.int .u64 (numB ((M.drop a.toNat).take d.toNat)), .int .u16 0]) ∧ Below w.heap.size w w' := by
  obtain ⟨x, rfl⟩ := Int.eq_ofNat_of_zero_le ha
  obtain ⟨t, rfl⟩ := Int.eq_ofNat_of_zero_le hd.1
  have h := get_ok A c (pack M) M.length x t w hb (by have := pack_le M hL; omega) (sound_pack M) (by omega) (by omega)
  rw [cutl_pack _ _ _ (by omega)] at h
  exact h

theorem soundM (A : Option Addr) (c : Nat) (M : List Bool) (w : World) (hb : Bs w A (pack M)) (hL : M.length ≤ 137438953472) :
    Calls Tryd.prog 20 #[.agg #[.slice A (pack M).length c, .int .i64 M.length]] w fun e w' => e = .returned (.bool true) ∧ Below w.heap.size w w' := by
  have h := sound_any A c (pack M) M.length w hb (by omega) (by have := pack_le M hL; unfold maxLen; omega)
  rw [sound_pack] at h
  exact h

theorem put_E (A : Option Addr) (c : Nat) (L : List Bool) (V d : Int) (w : World) (hb : Bs w A (pack L)) (hV : 0 ≤ V ∧ V < 18446744073709551616) (hd : 0 ≤ d ∧ d ≤ 64) (hL : L.length ≤ 137438953472) :
    Calls Tryd.prog 41 #[.agg #[.slice A (pack L).length c, .int .i64 L.length], .int .u64 V, .int .i64 d] w fun e w' =>
      ∃ M A' c', Hid (M = L ++ valB V.toNat d.toNat) ∧ M.length ≤ L.length + 64 ∧ e = .returned (.tuple #[.agg #[.slice A' (pack M).length c', .int .i64 M.length], .int .u16 0]) ∧ Bs w' A' (pack M) ∧ Below w.heap.size w w' :=
  (put_M A c L V d _ w rfl hb hV hd hL).mono fun e w' ⟨A', c', he, ho, hbel⟩ => ⟨_, A', c', rfl, by rw [List.length_append, valB_length]; omega, he, ho.bs, hbel⟩

theorem put_O (A : Option Addr) (c : Nat) (L : List Bool) (V d : Int) (w : World) (hb : Bs w A (pack L)) (hV : 0 ≤ V ∧ V < 18446744073709551616) (hd : 0 ≤ d ∧ d ≤ 64) (hL : L.length ≤ 137438953472) :
    Calls Tryd.prog 41 #[.agg #[.slice A (pack L).length c, .int .i64 L.length], .int .u64 V, .int .i64 d] w fun e w' =>
      ∃ M A' c', Hid (M = L ++ valB V.toNat d.toNat) ∧ M.length ≤ L.length + 64 ∧ e = .returned (.tuple #[.agg #[.slice A' (pack M).length c', .int .i64 M.length], .int .u16 0]) ∧ OwnB w' w.heap.size (.slice A' (pack M).length c') (pack M) ∧ Below w.heap.size w w' :=
  (put_M A c L V d _ w rfl hb hV hd hL).mono fun e w' ⟨A', c', he, ho, hbel⟩ => ⟨_, A', c', rfl, by rw [List.length_append, valB_length]; omega, he, ho, hbel⟩

theorem get_E (A : Option Addr) (c : Nat) (M : List Bool) (a d : Int) (w : World) (hb : Bs w A (pack M)) (ha : 0 ≤ a) (hd : 0 ≤ d ∧ d ≤ 64) (had : a + d ≤ M.length) (hL : M.length ≤ 137438953472) :
    Calls Tryd.prog 37 #[.agg #[.slice A (pack M).length c, .int .i64 M.length], .int .i64 a, .int .i64 d] w fun e w' =>
      ∃ N : Nat, Hid (N = numB ((M.drop a.toNat).take d.toNat)) ∧ e = .returned (.tuple #[.int .u64 N, .int .u16 0]) ∧ Below w.heap.size w w' :=
  (get_M A c M a d w hb ha hd had hL).mono fun e w' ⟨he, hbel⟩ => ⟨_, rfl, he, hbel⟩

end Go.Proofs.YtfooggamdbdniaaDoor

/- The program's narrow, numbers of layer 3. -/
namespace Go.Proofs.YtfooggamdbdniaaDoor
open Go.RowKit

theorem OwnB.far2 {w : World} {base : Nat} {v : Value} {l : List UInt8} (h : OwnB w base v l) {g : Nat} (hg : g < base) (a b : Value) : OwnB ((w.setCell ⟨g, 0, none⟩ a).setCell ⟨g, 1, none⟩ b) base v l :=
  (h.far (h.ne hg) _).far ((h.far (p := ⟨g, 0, none⟩) (h.ne hg) a).ne hg) _
theorem tabGo {w w' : World} (h : Tab w) (hb : Below w.heap.size w w') : Tab w' := fun j hj => (hb.cell (cell_lt (h j hj))).trans (h j hj)

set_option maxRecDepth 100000 in
set_option maxHeartbeats 1000000 in
theorem narrow_any (D : Nat) (w : World) (h0 : D ≠ 0) (hD : D < 18446744073709551616) (hT : Tab w) :
    Calls Tryd.prog 34 #[.int .u64 D] w fun e w' => e = .returned (.agg #[.int .i64 (leadX D), .int .i64 (widX D)]) ∧ Below w.heap.size w w' := by
  obtain ⟨n1, n2, n3, n4, -⟩ := narrow_facts D h0 hD
  obtain ⟨bl, hbl⟩ : ∃ bl, bl = Lib.bitLen D := ⟨_, rfl⟩
  obtain ⟨L, hL⟩ : ∃ L, L = leadX D := ⟨_, rfl⟩
  obtain ⟨X, hX⟩ : ∃ X, X = widX D := ⟨_, rfl⟩
  obtain ⟨C, hC⟩ : ∃ C, C = Lib.ctz 64 D := ⟨_, rfl⟩
  have hbb := bitLen_two D h0 hD
  have hLl : L = min (64 - bl) 31 := by rw [hL, hbl]; rfl
  rw [← hL, ← hX] at n3 n4
  rw [← hL] at n1
  rw [← hX] at n2
  rw [← hC] at n4
  rw [← hL, ← hX]
  have hb64 : bl ≤ 64 := by omega
  have hXC : (64 : Int) - L - C = X := by omega
  have hmn : min ((64 : Int) - bl) 31 = (L : Int) := by omega
  have c0 := lz64 (D : Int) (w.alloc (.cells #[.int .i64 0, .int .i64 0] 50)) (by omega) (by omega)
  rw [Int.toNat_natCast, ← hbl] at c0
  have c1 := fun W (h : Tab W) => tz64 D hD W h
  rw [← hC] at c1
  have C0 := Lib.hid c0
  have C1 := Lib.hid c1
  have HXC := Lib.hid hXC
  have hTB := tabGo hT (below_alloc w (.cells #[.int .i64 0, .int .i64 0] 50))
  have HT := Lib.hid hTB
  have tB := below_alloc w (.cells #[.int .i64 0, .int .i64 0] 50)
  have hB := Blk.new w 50 #[.int .i64 0, .int .i64 0]
  have HB := Lib.hid hB
  clear c0 c1 hbb hL hX hC hbl hLl hTB hB n4 hT
  go_enter Tryd.func34, Tryd.ntmps34
  go_wp2_with (go_at_call 42; refine C0.out.mono ?_; rintro e w1 ⟨rfl, rfl⟩)
  refine (C1.out _ HT.out).mono ?_
  rintro e w1 ⟨rfl, rfl⟩
  go_wp2_with fail
  exact bodyPost_ret (results_cell_row Tryd.results34 _ _ w.heap.size 50 #[.int .i64 L, .int .i64 X] (0, 0) _ rfl (heap_alloc_new w _) Tryd.underlying50 rfl (by kernel_rfl)) rfl ⟨rfl, below_alloc _ _⟩

/-- numbers that are written with so many bits each -/
def encFd (f : Nat × Nat) : List Value := [.int .u64 f.1, .int .i64 f.2]
def catFd (fs : List (Nat × Nat)) : List Bool := fs.flatMap fun f => valB f.1 f.2
theorem catFd_snoc (fs : List (Nat × Nat)) (k : Nat) (h : k < fs.length) : catFd (fs.take (k + 1)) = catFd (fs.take k) ++ valB fs[k].1 fs[k].2 := by
  unfold catFd
  rw [List.take_succ_eq_append_getElem h, List.flatMap_append]
  simp
theorem catFd_len (fs : List (Nat × Nat)) (h : ∀ f ∈ fs, f.2 ≤ 64) : (catFd fs).length ≤ 64 * fs.length := by
  unfold catFd
  induction fs with
  | nil => simp
  | cons f fs ih =>
    rw [List.flatMap_cons, List.length_append, valB_length, List.length_cons]
    have h1 := h f List.mem_cons_self
    have h2 := ih fun x hx => h x (List.mem_cons_of_mem _ hx)
    omega

set_option maxRecDepth 100000 in
set_option maxHeartbeats 1000000 in
theorem numbers_any (V : Option Addr) (c : Nat) (fs : List (Nat × Nat)) (w : World) (hf : Rw w encFd 2 V fs) (hv : ∀ f ∈ fs, f.1 < 18446744073709551616 ∧ f.2 ≤ 64) (hn : fs.length ≤ 100) :
    Calls Tryd.prog 32 #[.slice V fs.length c] w fun e w' => ∃ A' n' c', e = .returned (.agg #[.slice A' n' c', .int .i64 ((catFd fs).length : Nat)]) ∧ n' = (pack (catFd fs)).length ∧ OwnB w' w.heap.size (.slice A' n' c') (pack (catFd fs)) ∧ Below w.heap.size w w' := by
  have hB0 : Blk ((w.alloc (.cells #[.slice none 0 0, .int .i64 0] 29)).alloc (.cells #[.slice none 0 0, .int .i64 0] 29)) w.heap.size 29 #[.slice none 0 0, .int .i64 0] := (Blk.new w _ _).alloc _
  have hB1 : Blk ((w.alloc (.cells #[.slice none 0 0, .int .i64 0] 29)).alloc (.cells #[.slice none 0 0, .int .i64 0] 29)) (w.heap.size + 1) 29 #[.slice none 0 0, .int .i64 0] := by
    have := Blk.new (w.alloc (.cells #[.slice none 0 0, .int .i64 0] 29)) 29 #[.slice none 0 0, .int .i64 0]
    rwa [World.size_alloc] at this
  have tB := below_alloc2 w (.cells #[.slice none 0 0, .int .i64 0] 29) (.cells #[.slice none 0 0, .int .i64 0] 29)
  have HB0 := Lib.hid hB0
  have HB1 := Lib.hid hB1
  have HTB := Lib.hid tB
  have HF := Lib.hid hf
  have HV := Lib.hid hv
  clear hB0 hB1 tB hf hv
  go_enter Tryd.func32, Tryd.ntmps32
  go_wp2_with fail
  go_loopw [8] (fun s wr => ∃ (k : Nat) (A : Option Addr) (n' c' : Nat), s = .int .i64 k ∧ k ≤ fs.length ∧ Blk wr w.heap.size 29 #[.slice none 0 0, .int .i64 0] ∧ Blk wr (w.heap.size + 1) 29 #[.slice A n' c', .int .i64 ((catFd (fs.take k)).length : Nat)] ∧ Hid (n' = (pack (catFd (fs.take k))).length) ∧ OwnB wr (w.heap.size + 2) (.slice A n' c') (pack (catFd (fs.take k))) ∧ Below w.heap.size w wr ∧ w.heap.size + 2 ≤ wr.heap.size)
    (fun s _ => fs.length - (intOf s).toNat)
  case atStart => exact ⟨0, none, 0, 0, rfl, Nat.zero_le _, HB0.out, (by simpa [catFd] using HB1.out), Lib.hid (by simp [catFd, pack, nb]), by rw [show pack (catFd (fs.take 0)) = [] by simp [catFd, pack, nb]]; exact OwnB.nil _ _, HTB.out, by simp⟩
  case round =>
    obtain ⟨k, A, n', c', rfl, hk, b0, b1, Hn, ho, tW, zW⟩ := hrel
    rcases Nat.lt_or_ge k fs.length with hlt | hge
    · have q1 : decide ((k : Int) < fs.length) = true := decide_eq_true (by omega)
      have q2 : decide (k < fs.length) = true := decide_eq_true hlt
      obtain ⟨p, o, rfl, hc⟩ := HF.out k fs[k] (List.getElem?_eq_getElem hlt)
      have hv := HV.out fs[k] (List.getElem_mem hlt)
      obtain ⟨fv, fw, hfe⟩ : ∃ fv fw, fs[k] = (fv, fw) := ⟨_, _, rfl⟩
      have c0 := (tW.cell (cell_lt (hc 0 (.int .u64 fs[k].1) rfl))).trans (hc 0 (.int .u64 fs[k].1) rfl)
      have c1 := (tW.cell (cell_lt (hc 1 (.int .i64 fs[k].2) rfl))).trans (hc 1 (.int .i64 fs[k].2) rfl)
      rw [hfe] at c0 c1 hv
      simp only [Nat.add_zero] at c0 c1 hv
      have hL := catFd_len (fs.take k) fun f hf => (HV.out f (List.mem_of_mem_take hf)).2
      obtain ⟨L, hLe⟩ : ∃ L, L = catFd (fs.take k) := ⟨_, rfl⟩
      rw [← hLe] at b1 Hn ho hL
      rw [List.length_take] at hL
      have hL1 : L.length ≤ 6400 := by omega
      have HL1 : Hid (catFd (fs.take (k + 1)) = L ++ valB fv fw) := Lib.hid (by rw [catFd_snoc fs k hlt, hfe, hLe])
      obtain rfl := Hn.out
      have hV0 : (0 : Int) ≤ (fv : Int) ∧ (fv : Int) < 18446744073709551616 := by omega
      have hV1 : (0 : Int) ≤ (fw : Int) ∧ (fw : Int) ≤ 64 := by omega
      have e1 : IntKind.i64.wrap ((k : Int) + 1) = ((k + 1 : Nat) : Int) := by rw [IntKind.wrap_i64]; omega
      obtain ⟨⟨u0, u1⟩, -⟩ := b1.duo
      have HB1' := Lib.hid b1
      have HB0' := Lib.hid b0
      have kA := keepA
      have kF := keepF
      have Hv0 := Lib.hid hV0
      have Hv1 := Lib.hid hV1
      obtain ⟨M, hM⟩ : ∃ M, M = L ++ valB (fv : Int).toNat (fw : Int).toNat := ⟨_, rfl⟩
      have HM := Lib.hid hM
      have Hho := Lib.hid ho
      have HL1' := Lib.hid hL1
      clear hLe hL hL1 hV0 hV1 hv hc hfe hM b0 b1 Hn ho
      go_wp2_with (go_at_call 41; refine (put_M A c' L fv fw M _ HM.out (Hho.out.alloc _).bs Hv0.out Hv1.out (by have := HL1'.out; omega)).mono ?_; rintro e w4 ⟨A4, c4, rfl, o4, b4⟩; clear kA kF u0 u1; have C1 := Lib.hid ((HB1'.out.alloc (.cells #[.int .u64 fv, .int .i64 fw] 71)).below b4 (by have := HB1'.out.lt; simp; omega)); have C0 := Lib.hid ((HB0'.out.alloc (.cells #[.int .u64 fv, .int .i64 fw] 71)).below b4 (by have := HB0'.out.lt; simp; omega)); obtain ⟨⟨y0, y1⟩, z0, z1⟩ := C1.out.duo)
      go_roundw
      case rel =>
        have HMc : catFd (fs.take (k + 1)) = M := by rw [HL1.out, HM.out, Int.toNat_natCast, Int.toNat_natCast]
        have tW4 : Below w.heap.size w w4 := (tW.trans ((below_alloc wr _).mono tW.size)).trans (b4.mono (by have := tW.size; simp; omega))
        have z4 : w.heap.size + 2 ≤ w4.heap.size := by have := b4.size; simp at this; omega
        refine ⟨k + 1, A4, _, c4, by go_num, hlt, (C0.out.far _ _ (by simp)).far _ _ (by simp), by rw [HMc]; exact C1.out.set2 _ _, Lib.hid (by rw [HMc]), ?_, (tW4.setCell (by simp) _).setCell (by simp) _, by simp [World.setCell]; exact z4⟩
        rw [HMc]
        have hne : w.heap.size + 1 < (wr.alloc (.cells #[.int .u64 fv, .int .i64 fw] 71)).heap.size := by simp; omega
        have o5 := o4.far (p := ⟨w.heap.size + 1, 0, none⟩) (o4.ne hne) (.slice A4 (pack M).length c4)
        exact (o5.far (p := ⟨w.heap.size + 1, 1, none⟩) (o5.ne hne) _).mono (by simp; omega)
      case measure => simp [intOf]; omega
    · obtain rfl : k = fs.length := by omega
      have q1 : decide ((fs.length : Int) < fs.length) = false := by simp
      rw [List.take_length] at b1 Hn ho
      obtain ⟨⟨u0, u1⟩, -⟩ := b1.duo
      obtain ⟨-, z0, z1⟩ := b0.duo
      obtain ⟨⟨x0, x1⟩, -⟩ := b0.duo
      have HB1' := Lib.hid b1
      have HB0' := Lib.hid b0
      have HN := Lib.hid ho
      have hz : 1 ≤ 2 := by omega
      clear b0 b1 ho hz
      go_wp2_with fail
      exact bodyPost_ret (results_cell_row Tryd.results32 _ _ w.heap.size 29 #[.slice A n' c', .int .i64 ((catFd fs).length : Nat)] (0, 0) _ rfl (HB0'.out.set2 _ _) Tryd.underlying29 rfl (by kernel_rfl)) rfl ⟨A, n', c', rfl, Hn.out, (HN.out.far2 (by omega) _ _).mono (by omega), (tW.setCell (Nat.le_refl _) _).setCell (Nat.le_refl _) _⟩

end Go.Proofs.YtfooggamdbdniaaDoor

/- The program's encode of layer 3. -/
namespace Go.Proofs.YtfooggamdbdniaaDoor
open Go.RowKit

theorem rw_new {w : World} {g : Nat} {t : TypeId} {fs : List (Nat × Nat)} (h : Blk w g t (fs.flatMap encFd).toArray) : Rw w encFd 2 (some ⟨g, 0, none⟩) fs := fun i x hi => by
  refine ⟨g, 0, rfl, fun j v hj => ?_⟩
  have hj2 : j < 2 := by
    have := (List.getElem?_eq_some_iff.1 hj).1
    simpa [encFd] using this
  rw [Nat.zero_add, h.cell]
  have := flat_get encFd 2 (fun _ => rfl) fs i x hi j hj2
  simpa [this] using hj

/-- the boxes of encode: what came, the two results, the band -/
structure EncB (w W : World) (g : Nat) (h : Bool) (p l b : Nat) : Prop where
  h0 : Blk W w.heap.size 24 #[.bool h, .int .u64 p, .int .u8 l, .int .u8 b]
  h1 : Blk W (w.heap.size + 1) 29 #[.slice none 0 0, .int .i64 0]
  h2 : Blk W (w.heap.size + 2) 24 #[.bool false, .int .u64 0, .int .u8 0, .int .u8 0]
  h3 : Blk W g 50 #[.int .i64 l, .int .i64 b]
  t : Below w.heap.size w W
  z : w.heap.size + 3 ≤ g
theorem EncB.go {w W W' : World} {g : Nat} {h : Bool} {p l b : Nat} (H : EncB w W g h p l b) (hb : Below W.heap.size W W') : EncB w W' g h p l b :=
  ⟨H.h0.below hb H.h0.lt, H.h1.below hb H.h1.lt, H.h2.below hb H.h2.lt, H.h3.below hb H.h3.lt, H.t.trans (hb.mono H.t.size), H.z⟩
theorem EncB.zz {w W : World} {g : Nat} {h : Bool} {p l b : Nat} (H : EncB w W g h p l b) : w.heap.size + 4 ≤ W.heap.size := by
  have := H.h3.lt
  have := H.z
  omega
/-- the two results, stored -/
theorem EncB.fin {w W : World} {g : Nat} {h : Bool} {p l b : Nat} (H : EncB w W g h p l b) (a c d e f u : Value) :
    Blk ((((((W.setCell ⟨w.heap.size + 1, 0, none⟩ a).setCell ⟨w.heap.size + 1, 1, none⟩ c).setCell ⟨w.heap.size + 2, 0, none⟩ d).setCell ⟨w.heap.size + 2, 1, none⟩ e).setCell ⟨w.heap.size + 2, 2, none⟩ f).setCell ⟨w.heap.size + 2, 3, none⟩ u) (w.heap.size + 1) 29 #[a, c] ∧
    Blk ((((((W.setCell ⟨w.heap.size + 1, 0, none⟩ a).setCell ⟨w.heap.size + 1, 1, none⟩ c).setCell ⟨w.heap.size + 2, 0, none⟩ d).setCell ⟨w.heap.size + 2, 1, none⟩ e).setCell ⟨w.heap.size + 2, 2, none⟩ f).setCell ⟨w.heap.size + 2, 3, none⟩ u) (w.heap.size + 2) 24 #[d, e, f, u] ∧
    Below w.heap.size w ((((((W.setCell ⟨w.heap.size + 1, 0, none⟩ a).setCell ⟨w.heap.size + 1, 1, none⟩ c).setCell ⟨w.heap.size + 2, 0, none⟩ d).setCell ⟨w.heap.size + 2, 1, none⟩ e).setCell ⟨w.heap.size + 2, 2, none⟩ f).setCell ⟨w.heap.size + 2, 3, none⟩ u) := by
  refine ⟨?_, ?_, ?_⟩
  · exact ((((H.h1.set2 a c).far _ _ (by simp)).far _ _ (by simp)).far _ _ (by simp)).far _ _ (by simp)
  · exact ((H.h2.far _ _ (by simp)).far _ _ (by simp)).set4 d e f u
  · exact below_set4 ((H.t.setCell (p := ⟨w.heap.size + 1, 0, none⟩) (by simp) a).setCell (p := ⟨w.heap.size + 1, 1, none⟩) (by simp) c) (by omega) d e f u
theorem OwnB.encFin {w W : World} {base : Nat} {V : Value} {L : List UInt8} (H : OwnB W base V L) (hb : w.heap.size + 3 ≤ base) (a c d e f u : Value) :
    OwnB ((((((W.setCell ⟨w.heap.size + 1, 0, none⟩ a).setCell ⟨w.heap.size + 1, 1, none⟩ c).setCell ⟨w.heap.size + 2, 0, none⟩ d).setCell ⟨w.heap.size + 2, 1, none⟩ e).setCell ⟨w.heap.size + 2, 2, none⟩ f).setCell ⟨w.heap.size + 2, 3, none⟩ u) w.heap.size V L :=
  ((H.far2 (show w.heap.size + 1 < base by omega) a c).far4 (show w.heap.size + 2 < base by omega) d e f u).mono (by omega)

/-- encode's answer -/
def EncOut (M : List Bool) (T : XV) (base : Nat) (e : Ending) (w : World) : Prop :=
  ∃ A n c, n = (pack M).length ∧ e = .returned (.tuple #[.agg #[.slice A n c, .int .i64 (M.length : Nat)], .agg #[.bool T.has, .int .u64 (T.prev : Nat), .int .u8 (T.lead : Nat), .int .u8 (T.width : Nat)]]) ∧ OwnB w base (.slice A n c) (pack M)

set_option maxRecDepth 100000 in
set_option maxHeartbeats 1000000 in
theorem encode_first (p l b v D : Nat) (w : World) (hv : v < 18446744073709551616) (hp : p < 18446744073709551616) (hlb : l + b ≤ 64) (hD : D = v ^^^ p) :
    Calls Tryd.prog 21 #[.agg #[.bool false, .int .u64 p, .int .u8 l, .int .u8 b], .int .u64 v] w fun e w' => EncOut (valB v 64) ⟨true, v, 0, 0⟩ w.heap.size e w' ∧ Below w.heap.size w w' := by
  have hmx : Tryd.prog.follows .mixedOrders = true := by kernel_rfl
  have hl : l < 256 := by omega
  have hb : b < 256 := by omega
  obtain ⟨W, hW⟩ : ∃ W, W = ((w.alloc (.cells #[.bool false, .int .u64 p, .int .u8 l, .int .u8 b] 24)).alloc (.cells #[.slice none 0 0, .int .i64 0] 29)).alloc (.cells #[.bool false, .int .u64 0, .int .u8 0, .int .u8 0] 24) := ⟨_, rfl⟩
  have s1 : (w.alloc (.cells #[.bool false, .int .u64 p, .int .u8 l, .int .u8 b] 24)).heap.size = w.heap.size + 1 := by simp
  have s2 : ((w.alloc (.cells #[.bool false, .int .u64 p, .int .u8 l, .int .u8 b] 24)).alloc (.cells #[.slice none 0 0, .int .i64 0] 29)).heap.size = w.heap.size + 2 := by simp
  have B0 : Blk W w.heap.size 24 #[.bool false, .int .u64 p, .int .u8 l, .int .u8 b] := by rw [hW]; exact ((Blk.new w _ _).alloc _).alloc _
  have B1 : Blk W (w.heap.size + 1) 29 #[.slice none 0 0, .int .i64 0] := by
    rw [hW]
    have := (Blk.new (w.alloc (.cells #[.bool false, .int .u64 p, .int .u8 l, .int .u8 b] 24)) 29 #[.slice none 0 0, .int .i64 0]).alloc (.cells #[.bool false, .int .u64 0, .int .u8 0, .int .u8 0] 24)
    rwa [s1] at this
  have B2 : Blk W (w.heap.size + 2) 24 #[.bool false, .int .u64 0, .int .u8 0, .int .u8 0] := by
    rw [hW]
    have := Blk.new ((w.alloc (.cells #[.bool false, .int .u64 p, .int .u8 l, .int .u8 b] 24)).alloc (.cells #[.slice none 0 0, .int .i64 0] 29)) 24 #[.bool false, .int .u64 0, .int .u8 0, .int .u8 0]
    rwa [s2] at this
  have tW : Below w.heap.size w W := by rw [hW]; exact ((below_alloc w _).alloc (by simp) _).alloc (by simp; omega) _
  have zW : W.heap.size = w.heap.size + 3 := by rw [hW]; simp
  clear s1 s2
  have HB0 := Lib.hid B0
  have HB1 := Lib.hid B1
  have HB2 := Lib.hid B2
  have HzW := Lib.hid zW
  have HtW := Lib.hid tW
  have q : ∀ x, (plus W x).cell? ⟨w.heap.size, 0, none⟩ = some (.bool false) ∧ (plus W x).cell? ⟨w.heap.size, 1, none⟩ = some (.int .u64 p) ∧ (plus W x).cell? ⟨w.heap.size, 2, none⟩ = some (.int .u8 l) ∧ (plus W x).cell? ⟨w.heap.size, 3, none⟩ = some (.int .u8 b) := fun x =>
    ((HB0.out.below (plus_below W x) HB0.out.lt : Blk (plus W x) w.heap.size 24 #[.bool false, .int .u64 p, .int .u8 l, .int .u8 b])).quad.1
  have hx : bits .xor .u64 (v : Int) (p : Int) = (D : Int) := by rw [xor_int v p hv hp, hD]
  have HW := Lib.hid hW
  have HD := Lib.hid hD
  clear B0 B1 B2 zW tW hW hD
  go_enter Tryd.func21, Tryd.ntmps21
  go_wp2_with fail
  rw [← HW.out]
  refine wp_region_fresh_tail 7 [] [5, 6] (fun k V z => if k = 5 then V = .agg #[.int .i64 l, .int .i64 b] else ∃ g, V = .pointer (some ⟨g, 0, none⟩) ∧ Blk z g 50 #[.int .i64 0, .int .i64 0] ∧ W.heap.size ≤ g) hmx (by kernel_rfl) (by kernel_rfl) ?_
  simp only [List.take_succ_cons, List.take_zero, List.drop_succ_cons, List.drop_zero]
  iterate 5 (refine walkF_one none W rfl (by kernel_rfl) ?_; go_big_quiet_step (fail); refine wpQuiet_nil ?_)
  refine walkF_make none W rfl rfl rfl (by kernel_rfl) (fun x => ?_) ?_
  · refine grow_call ?_ ((bandOf_any false p l b (plus W x) hl hb).mono ?_)
    · simp [execOp, go_sem]
    · rintro e w4 ⟨rfl, b4⟩
      exact ⟨_, rfl, b4, rfl⟩
  rintro V1 z1 rfl g1
  conv => arg 11; simp [Act.put]
  refine walkF_make none W rfl rfl rfl (by kernel_rfl) (fun x => ?_) ?_
  · have hr : ∀ w' : World, (execOp (Act.eval { tmps := #[], defers := [] }) { dst := none, op := .alloc 50, type := 0, pos := "", after := #[], guard := none }).run Tryd.prog w' = .ok (.value (.pointer (some ⟨w'.heap.size, 0, none⟩))) (w'.alloc (.cells #[.int .i64 0, .int .i64 0] 50)) := fun w' => by simp [execOp, go_sem]
    have hr2 := hr (plus W x)
    unfold growUpon
    simp only [execOp] at hr2 ⊢
    rw [hr2]
    exact ⟨below_alloc _ _, _, rfl, Blk.new _ _ _, (plus_below W x).size⟩
  rintro V2 z2 ⟨g, rfl, hg, hgz⟩ g2
  conv => arg 11; simp [Act.put]
  refine walkF_end ?_
  intro w' h0 hE
  have hg' : Blk w' g 50 #[.int .i64 0, .int .i64 0] := hg.below (hE 6) hg.lt
  have HG := Lib.hid hg'
  have hgz3 : w.heap.size + 3 ≤ g := by have := HzW.out; omega
  have EB := Lib.hid (⟨(HB0.out.below h0 HB0.out.lt).far _ _ (by simp; omega) |>.far _ _ (by simp; omega), (HB1.out.below h0 HB1.out.lt).far _ _ (by simp; omega) |>.far _ _ (by simp; omega), (HB2.out.below h0 HB2.out.lt).far _ _ (by simp; omega) |>.far _ _ (by simp; omega), hg'.set2 _ _, ((HtW.out.trans (Below.mono h0 (by have := HtW.out.size; omega))).setCell (by simp; omega) _).setCell (by simp; omega) _, hgz3⟩ : EncB w ((w'.setCell ⟨g, 0, none⟩ (.int .i64 l)).setCell ⟨g, 1, none⟩ (.int .i64 b)) g false p l b)
  obtain ⟨⟨-, -⟩, y0, y1⟩ := HG.out.duo
  obtain ⟨⟨x0, x1⟩, -⟩ := HG.out.duo
  have EQ := EB.out.h0.quad.1
  clear hE q hg hg' hgz h0
  go_wp2_with fail
  obtain ⟨W2, hW2⟩ : ∃ W2, W2 = (w'.setCell ⟨g, 0, none⟩ (.int .i64 l)).setCell ⟨g, 1, none⟩ (.int .i64 b) := ⟨_, rfl⟩
  have hsz : w'.heap.size = W2.heap.size := by rw [hW2]; simp [World.setCell]
  rw [← hW2] at EB
  rw [hsz, ← hW2]
  clear hsz hW2 HG y0 y1 x0 x1 EQ
  have hR : Rw (W2.alloc (.cells #[.int .u64 v, .int .i64 64] 71)) encFd 2 (some ⟨W2.heap.size, 0, none⟩) [(v, 64)] := rw_new (Blk.new W2 _ _)
  refine (numbers_any (some ⟨W2.heap.size, 0, none⟩) 1 [(v, 64)] _ hR (by simpa using hv) (by simp)).mono ?_
  rintro e w3 ⟨A3, n3, c3, rfl, hn3, o3, b3⟩
  rw [show catFd [(v, 64)] = valB v 64 by simp [catFd]] at hn3 o3 ⊢
  have Hn3 := Lib.hid hn3
  have b23 : Below W2.heap.size W2 w3 := go1 b3
  have EB3 := Lib.hid (EB.out.go b23)
  have EQ := EB3.out.h0.quad.1
  have o3 := o3.mono (show W2.heap.size ≤ _ by simp)
  clear hn3 hR
  go_wp2_with (go_at_call 28; refine (after_any 0 0 v _ (by omega) (by omega)).mono ?_; rintro e w4 ⟨rfl, b4⟩; have EB4 := Lib.hid (EB3.out.go b4); have o4 := o3.below b4; obtain ⟨⟨y0, y1⟩, x0, x1⟩ := EB4.out.h1.duo; obtain ⟨⟨m0, m1, m2, m3⟩, k0, k1, k2, k3⟩ := EB4.out.h2.quad)
  obtain ⟨f1, f2, f3⟩ := EB4.out.fin (.slice A3 n3 c3) (.int .i64 ((valB v 64).length : Nat)) (.bool true) (.int .u64 v) (.int .u8 0) (.int .u8 0)
  obtain ⟨⟨r0, r1⟩, -⟩ := f1.duo
  obtain ⟨⟨s0, s1, s2, s3⟩, -⟩ := f2.quad
  refine bodyPost_ret (v := .tuple #[.agg #[.slice A3 n3 c3, .int .i64 ((valB v 64).length : Nat)], .agg #[.bool true, .int .u64 v, .int .u8 0, .int .u8 0]]) (by simp [results, Tryd.results21, go_sem, r0, r1, s0, s1, s2, s3]) rfl ⟨⟨A3, n3, c3, Hn3.out, rfl, ?_⟩, f3⟩
  exact o4.encFin (by have := EB.out.zz; omega) _ _ _ _ _ _

end Go.Proofs.YtfooggamdbdniaaDoor

/- The program's encode of layer 3: the same value again. -/
namespace Go.Proofs.YtfooggamdbdniaaDoor
open Go.RowKit

set_option maxRecDepth 100000 in
set_option maxHeartbeats 1000000 in
theorem encode_same (p l b v D : Nat) (w : World) (hv : v < 18446744073709551616) (hp : p < 18446744073709551616) (hlb : l + b ≤ 64) (hD : D = v ^^^ p) (h0 : v ^^^ p = 0) :
    Calls Tryd.prog 21 #[.agg #[.bool true, .int .u64 p, .int .u8 l, .int .u8 b], .int .u64 v] w fun e w' => EncOut [false] ⟨true, p, l, b⟩ w.heap.size e w' ∧ Below w.heap.size w w' := by
  have hmx : Tryd.prog.follows .mixedOrders = true := by kernel_rfl
  have hl : l < 256 := by omega
  have hb : b < 256 := by omega
  obtain ⟨W, hW⟩ : ∃ W, W = ((w.alloc (.cells #[.bool true, .int .u64 p, .int .u8 l, .int .u8 b] 24)).alloc (.cells #[.slice none 0 0, .int .i64 0] 29)).alloc (.cells #[.bool false, .int .u64 0, .int .u8 0, .int .u8 0] 24) := ⟨_, rfl⟩
  have s1 : (w.alloc (.cells #[.bool true, .int .u64 p, .int .u8 l, .int .u8 b] 24)).heap.size = w.heap.size + 1 := by simp
  have s2 : ((w.alloc (.cells #[.bool true, .int .u64 p, .int .u8 l, .int .u8 b] 24)).alloc (.cells #[.slice none 0 0, .int .i64 0] 29)).heap.size = w.heap.size + 2 := by simp
  have B0 : Blk W w.heap.size 24 #[.bool true, .int .u64 p, .int .u8 l, .int .u8 b] := by rw [hW]; exact ((Blk.new w _ _).alloc _).alloc _
  have B1 : Blk W (w.heap.size + 1) 29 #[.slice none 0 0, .int .i64 0] := by
    rw [hW]
    have := (Blk.new (w.alloc (.cells #[.bool true, .int .u64 p, .int .u8 l, .int .u8 b] 24)) 29 #[.slice none 0 0, .int .i64 0]).alloc (.cells #[.bool false, .int .u64 0, .int .u8 0, .int .u8 0] 24)
    rwa [s1] at this
  have B2 : Blk W (w.heap.size + 2) 24 #[.bool false, .int .u64 0, .int .u8 0, .int .u8 0] := by
    rw [hW]
    have := Blk.new ((w.alloc (.cells #[.bool true, .int .u64 p, .int .u8 l, .int .u8 b] 24)).alloc (.cells #[.slice none 0 0, .int .i64 0] 29)) 24 #[.bool false, .int .u64 0, .int .u8 0, .int .u8 0]
    rwa [s2] at this
  have tW : Below w.heap.size w W := by rw [hW]; exact ((below_alloc w _).alloc (by simp) _).alloc (by simp; omega) _
  have zW : W.heap.size = w.heap.size + 3 := by rw [hW]; simp
  clear s1 s2
  have HB0 := Lib.hid B0
  have HB1 := Lib.hid B1
  have HB2 := Lib.hid B2
  have HzW := Lib.hid zW
  have HtW := Lib.hid tW
  have q : ∀ x, (plus W x).cell? ⟨w.heap.size, 0, none⟩ = some (.bool true) ∧ (plus W x).cell? ⟨w.heap.size, 1, none⟩ = some (.int .u64 p) ∧ (plus W x).cell? ⟨w.heap.size, 2, none⟩ = some (.int .u8 l) ∧ (plus W x).cell? ⟨w.heap.size, 3, none⟩ = some (.int .u8 b) := fun x =>
    ((HB0.out.below (plus_below W x) HB0.out.lt : Blk (plus W x) w.heap.size 24 #[.bool true, .int .u64 p, .int .u8 l, .int .u8 b])).quad.1
  have hx : bits .xor .u64 (v : Int) (p : Int) = (D : Int) := by rw [xor_int v p hv hp, hD]
  have HW := Lib.hid hW
  have HD := Lib.hid hD
  clear B0 B1 B2 zW tW hW hD
  have hd0 : ((D : Int) == 0) = true := by rw [HD.out, h0]; rfl
  go_enter Tryd.func21, Tryd.ntmps21
  go_wp2_with fail
  rw [← HW.out]
  refine wp_region_fresh_tail 7 [] [5, 6] (fun k V z => if k = 5 then V = .agg #[.int .i64 l, .int .i64 b] else ∃ g, V = .pointer (some ⟨g, 0, none⟩) ∧ Blk z g 50 #[.int .i64 0, .int .i64 0] ∧ W.heap.size ≤ g) hmx (by kernel_rfl) (by kernel_rfl) ?_
  simp only [List.take_succ_cons, List.take_zero, List.drop_succ_cons, List.drop_zero]
  iterate 5 (refine walkF_one none W rfl (by kernel_rfl) ?_; go_big_quiet_step (fail); refine wpQuiet_nil ?_)
  refine walkF_make none W rfl rfl rfl (by kernel_rfl) (fun x => ?_) ?_
  · refine grow_call ?_ ((bandOf_any true p l b (plus W x) hl hb).mono ?_)
    · simp [execOp, go_sem]
    · rintro e w4 ⟨rfl, b4⟩
      exact ⟨_, rfl, b4, rfl⟩
  rintro V1 z1 rfl g1
  conv => arg 11; simp [Act.put]
  refine walkF_make none W rfl rfl rfl (by kernel_rfl) (fun x => ?_) ?_
  · have hr : ∀ w' : World, (execOp (Act.eval { tmps := #[], defers := [] }) { dst := none, op := .alloc 50, type := 0, pos := "", after := #[], guard := none }).run Tryd.prog w' = .ok (.value (.pointer (some ⟨w'.heap.size, 0, none⟩))) (w'.alloc (.cells #[.int .i64 0, .int .i64 0] 50)) := fun w' => by simp [execOp, go_sem]
    have hr2 := hr (plus W x)
    unfold growUpon
    simp only [execOp] at hr2 ⊢
    rw [hr2]
    exact ⟨below_alloc _ _, _, rfl, Blk.new _ _ _, (plus_below W x).size⟩
  rintro V2 z2 ⟨g, rfl, hg, hgz⟩ g2
  conv => arg 11; simp [Act.put]
  refine walkF_end ?_
  intro w' h0 hE
  have hg' : Blk w' g 50 #[.int .i64 0, .int .i64 0] := hg.below (hE 6) hg.lt
  have HG := Lib.hid hg'
  have hgz3 : w.heap.size + 3 ≤ g := by have := HzW.out; omega
  have EB := Lib.hid (⟨(HB0.out.below h0 HB0.out.lt).far _ _ (by simp; omega) |>.far _ _ (by simp; omega), (HB1.out.below h0 HB1.out.lt).far _ _ (by simp; omega) |>.far _ _ (by simp; omega), (HB2.out.below h0 HB2.out.lt).far _ _ (by simp; omega) |>.far _ _ (by simp; omega), hg'.set2 _ _, ((HtW.out.trans (Below.mono h0 (by have := HtW.out.size; omega))).setCell (by simp; omega) _).setCell (by simp; omega) _, hgz3⟩ : EncB w ((w'.setCell ⟨g, 0, none⟩ (.int .i64 l)).setCell ⟨g, 1, none⟩ (.int .i64 b)) g true p l b)
  obtain ⟨⟨-, -⟩, y0, y1⟩ := HG.out.duo
  obtain ⟨⟨x0, x1⟩, -⟩ := HG.out.duo
  have EQ := EB.out.h0.quad.1
  clear hE q hg hg' hgz h0
  go_wp2_with fail
  obtain ⟨W2, hW2⟩ : ∃ W2, W2 = (w'.setCell ⟨g, 0, none⟩ (.int .i64 l)).setCell ⟨g, 1, none⟩ (.int .i64 b) := ⟨_, rfl⟩
  have hsz : w'.heap.size = W2.heap.size := by rw [hW2]; simp [World.setCell]
  rw [← hW2] at EB
  rw [← hW2]
  clear hsz hW2 HG y0 y1 x0 x1 hd0
  clear EQ
  obtain ⟨q0, q1, q2, q3⟩ := EB.out.h0.quad.1
  have dq : W2.drew.cell? ⟨w.heap.size, 0, none⟩ = some (.bool true) ∧ W2.drew.cell? ⟨w.heap.size, 1, none⟩ = some (.int .u64 p) ∧ W2.drew.cell? ⟨w.heap.size, 2, none⟩ = some (.int .u8 l) ∧ W2.drew.cell? ⟨w.heap.size, 3, none⟩ = some (.int .u8 b) := ⟨q0, q1, q2, q3⟩
  have hR : Rw ((W2.alloc (.cells #[.int .u64 0, .int .i64 1] 71)).drew) encFd 2 (some ⟨W2.heap.size, 0, none⟩) [(0, 1)] := rw_new (Blk.new W2 _ _).drew
  have dq2 : ((W2.alloc (.cells #[.int .u64 0, .int .i64 1] 71)).drew).cell? ⟨w.heap.size, 0, none⟩ = some (.bool true) ∧ ((W2.alloc (.cells #[.int .u64 0, .int .i64 1] 71)).drew).cell? ⟨w.heap.size, 1, none⟩ = some (.int .u64 p) ∧ ((W2.alloc (.cells #[.int .u64 0, .int .i64 1] 71)).drew).cell? ⟨w.heap.size, 2, none⟩ = some (.int .u8 l) ∧ ((W2.alloc (.cells #[.int .u64 0, .int .i64 1] 71)).drew).cell? ⟨w.heap.size, 3, none⟩ = some (.int .u8 b) := (EB.out.h0.alloc _ : Blk (W2.alloc (.cells #[.int .u64 0, .int .i64 1] 71)) _ _ _).quad.1
  have HN := Lib.hid (numbers_any (some ⟨W2.heap.size, 0, none⟩) 1 [(0, 1)] _ hR (by simp) (by simp))
  have H23 : Hid (∀ w3, Below ((W2.alloc (.cells #[.int .u64 0, .int .i64 1] 71)).drew).heap.size ((W2.alloc (.cells #[.int .u64 0, .int .i64 1] 71)).drew) w3 → Below W2.heap.size W2 w3) := Lib.hid fun w3 h => (below_alloc W2 (.cells #[.int .u64 0, .int .i64 1] 71)).drew.trans (h.mono (by simp [World.drew]))
  have ne1 : ∀ i j : Nat, (⟨w.heap.size + 1, i, none⟩ : Addr).block ≠ (⟨w.heap.size, j, none⟩ : Addr).block := fun i j => by simp
  have ne2 : ∀ i j : Nat, (⟨w.heap.size + 1 + 1, i, none⟩ : Addr).block ≠ (⟨w.heap.size, j, none⟩ : Addr).block := fun i j => by simp; omega
  have hlt := EB.out.zz
  have nf1 := fun (W : World) (i j : Nat) (u : Value) => World.cell?_setCell_far W ⟨w.heap.size + 1, i, none⟩ ⟨w.heap.size, j, none⟩ u (ne1 i j)
  have nf2 := fun (W : World) (i j : Nat) (u : Value) => World.cell?_setCell_far W ⟨w.heap.size + 1 + 1, i, none⟩ ⟨w.heap.size, j, none⟩ u (ne2 i j)
  clear ne1 ne2
  go_region_held3 (fun w' => w'.cell? ⟨w.heap.size, 0, none⟩ = some (.bool true) ∧ w'.cell? ⟨w.heap.size, 1, none⟩ = some (.int .u64 p) ∧ w'.cell? ⟨w.heap.size, 2, none⟩ = some (.int .u8 l) ∧ w'.cell? ⟨w.heap.size, 3, none⟩ = some (.int .u8 b)) (first | with_reducible exact dq | with_reducible exact dq2 | with_reducible exact rr | (simp only [nf1, nf2]; with_reducible exact rr))
    ((go_at_call 32; refine HN.out.mono ?_; rintro e w3 ⟨A3, n3, c3, rfl, hn3, o3, b3⟩; have Hn3 := Lib.hid hn3; clear hn3; have b23 := H23.out w3 b3; have EB4 := Lib.hid (EB.out.go b23); have rr := EB4.out.h0.quad.1; obtain ⟨⟨y0, y1⟩, x0, x1⟩ := EB4.out.h1.duo; obtain ⟨⟨m0, m1, m2, m3⟩, k0, k1, k2, k3⟩ := EB4.out.h2.quad))
  go_wp2_with fail
  have hc : catFd [(0, 1)] = [false] := by simp [catFd, valB]
  rw [hc] at o3 ⊢
  have hnn : n3 = (pack [false]).length := by rw [Hn3.out, hc]
  obtain ⟨f1, f2, f3⟩ := EB4.out.fin (.slice A3 n3 c3) (.int .i64 1) (.bool true) (.int .u64 p) (.int .u8 l) (.int .u8 b)
  obtain ⟨⟨r0, r1⟩, -⟩ := f1.duo
  obtain ⟨⟨s0, s1, s2, s3⟩, -⟩ := f2.quad
  refine bodyPost_ret (v := .tuple #[.agg #[.slice A3 n3 c3, .int .i64 1], .agg #[.bool true, .int .u64 p, .int .u8 l, .int .u8 b]]) (by simp [results, Tryd.results21, go_sem, r0, r1, s0, s1, s2, s3]) rfl ⟨⟨A3, n3, c3, hnn, rfl, ?_⟩, f3⟩
  exact o3.encFin (by simp [World.drew]; omega) _ _ _ _ _ _

end Go.Proofs.YtfooggamdbdniaaDoor

/- The program's encode of layer 3: a value in the old band. -/
namespace Go.Proofs.YtfooggamdbdniaaDoor
open Go.RowKit

set_option maxRecDepth 100000 in
set_option maxHeartbeats 1000000 in
theorem encode_old (p l b v D : Nat) (w : World) (hv : v < 18446744073709551616) (hp : p < 18446744073709551616) (hlb : l + b ≤ 64) (hD : D = v ^^^ p) (h0 : v ^^^ p ≠ 0) (hh : holdsX l b (v ^^^ p) = true) :
    Calls Tryd.prog 21 #[.agg #[.bool true, .int .u64 p, .int .u8 l, .int .u8 b], .int .u64 v] w fun e w' => EncOut (true :: false :: valB ((v ^^^ p) / 2 ^ (64 - l - b)) b) ⟨true, v, l, b⟩ w.heap.size e w' ∧ Below w.heap.size w w' := by
  have hmx : Tryd.prog.follows .mixedOrders = true := by kernel_rfl
  have hl : l < 256 := by omega
  have hb : b < 256 := by omega
  obtain ⟨W, hW⟩ : ∃ W, W = ((w.alloc (.cells #[.bool true, .int .u64 p, .int .u8 l, .int .u8 b] 24)).alloc (.cells #[.slice none 0 0, .int .i64 0] 29)).alloc (.cells #[.bool false, .int .u64 0, .int .u8 0, .int .u8 0] 24) := ⟨_, rfl⟩
  have s1 : (w.alloc (.cells #[.bool true, .int .u64 p, .int .u8 l, .int .u8 b] 24)).heap.size = w.heap.size + 1 := by simp
  have s2 : ((w.alloc (.cells #[.bool true, .int .u64 p, .int .u8 l, .int .u8 b] 24)).alloc (.cells #[.slice none 0 0, .int .i64 0] 29)).heap.size = w.heap.size + 2 := by simp
  have B0 : Blk W w.heap.size 24 #[.bool true, .int .u64 p, .int .u8 l, .int .u8 b] := by rw [hW]; exact ((Blk.new w _ _).alloc _).alloc _
  have B1 : Blk W (w.heap.size + 1) 29 #[.slice none 0 0, .int .i64 0] := by
    rw [hW]
    have := (Blk.new (w.alloc (.cells #[.bool true, .int .u64 p, .int .u8 l, .int .u8 b] 24)) 29 #[.slice none 0 0, .int .i64 0]).alloc (.cells #[.bool false, .int .u64 0, .int .u8 0, .int .u8 0] 24)
    rwa [s1] at this
  have B2 : Blk W (w.heap.size + 2) 24 #[.bool false, .int .u64 0, .int .u8 0, .int .u8 0] := by
    rw [hW]
    have := Blk.new ((w.alloc (.cells #[.bool true, .int .u64 p, .int .u8 l, .int .u8 b] 24)).alloc (.cells #[.slice none 0 0, .int .i64 0] 29)) 24 #[.bool false, .int .u64 0, .int .u8 0, .int .u8 0]
    rwa [s2] at this
  have tW : Below w.heap.size w W := by rw [hW]; exact ((below_alloc w _).alloc (by simp) _).alloc (by simp; omega) _
  have zW : W.heap.size = w.heap.size + 3 := by rw [hW]; simp
  clear s1 s2
  have HB0 := Lib.hid B0
  have HB1 := Lib.hid B1
  have HB2 := Lib.hid B2
  have HzW := Lib.hid zW
  have HtW := Lib.hid tW
  have q : ∀ x, (plus W x).cell? ⟨w.heap.size, 0, none⟩ = some (.bool true) ∧ (plus W x).cell? ⟨w.heap.size, 1, none⟩ = some (.int .u64 p) ∧ (plus W x).cell? ⟨w.heap.size, 2, none⟩ = some (.int .u8 l) ∧ (plus W x).cell? ⟨w.heap.size, 3, none⟩ = some (.int .u8 b) := fun x =>
    ((HB0.out.below (plus_below W x) HB0.out.lt : Blk (plus W x) w.heap.size 24 #[.bool true, .int .u64 p, .int .u8 l, .int .u8 b])).quad.1
  have hx : bits .xor .u64 (v : Int) (p : Int) = (D : Int) := by rw [xor_int v p hv hp, hD]
  have HW := Lib.hid hW
  have HD := Lib.hid hD
  clear B0 B1 B2 zW tW hW hD
  have hd0 : ((D : Int) == 0) = false := by rw [HD.out]; exact beq_eq_false_iff_ne.2 (by omega)
  go_enter Tryd.func21, Tryd.ntmps21
  go_wp2_with fail
  rw [← HW.out]
  refine wp_region_fresh_tail 7 [] [5, 6] (fun k V z => if k = 5 then V = .agg #[.int .i64 l, .int .i64 b] else ∃ g, V = .pointer (some ⟨g, 0, none⟩) ∧ Blk z g 50 #[.int .i64 0, .int .i64 0] ∧ W.heap.size ≤ g) hmx (by kernel_rfl) (by kernel_rfl) ?_
  simp only [List.take_succ_cons, List.take_zero, List.drop_succ_cons, List.drop_zero]
  iterate 5 (refine walkF_one none W rfl (by kernel_rfl) ?_; go_big_quiet_step (fail); refine wpQuiet_nil ?_)
  refine walkF_make none W rfl rfl rfl (by kernel_rfl) (fun x => ?_) ?_
  · refine grow_call ?_ ((bandOf_any true p l b (plus W x) hl hb).mono ?_)
    · simp [execOp, go_sem]
    · rintro e w4 ⟨rfl, b4⟩
      exact ⟨_, rfl, b4, rfl⟩
  rintro V1 z1 rfl g1
  conv => arg 11; simp [Act.put]
  refine walkF_make none W rfl rfl rfl (by kernel_rfl) (fun x => ?_) ?_
  · have hr : ∀ w' : World, (execOp (Act.eval { tmps := #[], defers := [] }) { dst := none, op := .alloc 50, type := 0, pos := "", after := #[], guard := none }).run Tryd.prog w' = .ok (.value (.pointer (some ⟨w'.heap.size, 0, none⟩))) (w'.alloc (.cells #[.int .i64 0, .int .i64 0] 50)) := fun w' => by simp [execOp, go_sem]
    have hr2 := hr (plus W x)
    unfold growUpon
    simp only [execOp] at hr2 ⊢
    rw [hr2]
    exact ⟨below_alloc _ _, _, rfl, Blk.new _ _ _, (plus_below W x).size⟩
  rintro V2 z2 ⟨g, rfl, hg, hgz⟩ g2
  conv => arg 11; simp [Act.put]
  refine walkF_end ?_
  intro w' h0 hE
  have hg' : Blk w' g 50 #[.int .i64 0, .int .i64 0] := hg.below (hE 6) hg.lt
  have HG := Lib.hid hg'
  have hgz3 : w.heap.size + 3 ≤ g := by have := HzW.out; omega
  have EB := Lib.hid (⟨(HB0.out.below h0 HB0.out.lt).far _ _ (by simp; omega) |>.far _ _ (by simp; omega), (HB1.out.below h0 HB1.out.lt).far _ _ (by simp; omega) |>.far _ _ (by simp; omega), (HB2.out.below h0 HB2.out.lt).far _ _ (by simp; omega) |>.far _ _ (by simp; omega), hg'.set2 _ _, ((HtW.out.trans (Below.mono h0 (by have := HtW.out.size; omega))).setCell (by simp; omega) _).setCell (by simp; omega) _, hgz3⟩ : EncB w ((w'.setCell ⟨g, 0, none⟩ (.int .i64 l)).setCell ⟨g, 1, none⟩ (.int .i64 b)) g true p l b)
  obtain ⟨⟨-, -⟩, y0, y1⟩ := HG.out.duo
  obtain ⟨⟨x0, x1⟩, -⟩ := HG.out.duo
  have EQ := EB.out.h0.quad.1
  clear hE q hg hg' hgz h0
  go_wp2_with fail
  obtain ⟨W2, hW2⟩ : ∃ W2, W2 = (w'.setCell ⟨g, 0, none⟩ (.int .i64 l)).setCell ⟨g, 1, none⟩ (.int .i64 b) := ⟨_, rfl⟩
  have hsz : w'.heap.size = W2.heap.size := by rw [hW2]; simp [World.setCell]
  rw [← hW2] at EB
  rw [← hW2]
  clear hsz hW2 HG y0 y1 x0 x1 EQ hd0
  obtain ⟨s0, hs0⟩ : ∃ s0 : Nat, s0 = 64 - l - b := ⟨_, rfl⟩
  have hs0' : (64 : Int) - l - b = s0 := by omega
  obtain ⟨nn, hnn⟩ : ∃ nn : Nat, nn = D / 2 ^ s0 := ⟨_, rfl⟩
  have f3 : (D : Int) / 2 ^ s0 = (nn : Int) := by rw [nat_shr, hnn]
  have hDl : D < 18446744073709551616 := by rw [HD.out]; exact xor_lt64 hv hp
  have hnl : nn < 18446744073709551616 := by rw [hnn]; exact Nat.lt_of_le_of_lt (Nat.div_le_self _ _) hDl
  have j4 : min s0 64 = s0 := by omega
  have Hs0 := Lib.hid hs0
  have Hs0' := Lib.hid hs0'
  have Hnn := Lib.hid hnn
  clear hs0 hs0' hnn
  have hHo := holds_any l b D W2 hlb hDl
  rw [HD.out, hh, ← HD.out] at hHo
  have b2 := EB.out.h3.duo.1
  go_wp2_with fail
  refine hHo.mono ?_
  rintro e w3 ⟨rfl, b3⟩
  have EB3 := Lib.hid (EB.out.go b3)
  clear hHo b2
  obtain ⟨b20, b21⟩ := EB3.out.h3.duo.1
  go_wp2_with fail
  have qq : ∀ x, (plus w3 x).cell? ⟨g, 0, none⟩ = some (.int .i64 l) ∧ (plus w3 x).cell? ⟨g, 1, none⟩ = some (.int .i64 b) := fun x => (EB3.out.h3.below (plus_below w3 x) EB3.out.h3.lt : Blk (plus w3 x) g 50 #[.int .i64 l, .int .i64 b]).duo.1
  clear b20 b21
  refine wp_region_fresh_tail 12 (List.replicate 9 none ++ [some 8]) [3, 8, 9, 12] (fun k V z => if k = 3 then V = .int .i64 s0 else if k = 8 then ∃ g, V = .slice (some ⟨g, 0, none⟩) 2 2 ∧ Rw z encFd 2 (some ⟨g, 0, none⟩) [(2, 2), (nn, b)] else ∃ A n c, V = .agg #[.slice A n c, .int .i64 ((catFd [(2, 2), (nn, b)]).length : Nat)] ∧ n = (pack (catFd [(2, 2), (nn, b)])).length ∧ OwnB z w3.heap.size (.slice A n c) (pack (catFd [(2, 2), (nn, b)]))) hmx (by kernel_rfl) (by kernel_rfl) ?_
  simp only [List.take_succ_cons, List.take_zero, List.drop_succ_cons, List.drop_zero]
  iterate 3 (refine walkF_one none w3 rfl (by kernel_rfl) ?_; go_big_quiet_step (fail); refine wpQuiet_nil ?_)
  refine walkF_make none w3 rfl rfl rfl (by kernel_rfl) (fun x => ?_) ?_
  · refine grow_call ?_ ((behind_any l b (plus w3 x) (by omega) (by omega)).mono ?_)
    · simp [execOp, go_sem]
    · rintro e w4 ⟨rfl, b4⟩
      exact ⟨_, rfl, b4, by rw [if_pos (by rfl), Hs0'.out]⟩
  intro V1 z1 hV1 g1
  obtain rfl : V1 = .int .i64 s0 := hV1
  conv => arg 11; simp [Act.put]
  iterate 4 (refine walkF_one none w3 rfl (by kernel_rfl) ?_; go_big_quiet_step (fail); refine wpQuiet_nil ?_)
  refine walkF_make none w3 rfl rfl rfl (by kernel_rfl) (fun x => ?_) ?_
  · refine grow_val (v := .slice (some ⟨(plus w3 x).heap.size, 0, none⟩) 2 2) (w' := (plus w3 x).alloc (.cells #[.int .u64 2, .int .i64 2, .int .u64 nn, .int .i64 b] 71)) ?_ (below_alloc _ _) ?_
    · simp [execOp, go_sem]
    · exact ⟨_, rfl, rw_new (Blk.new _ _ _)⟩
  intro V8 z8 hV8 g8
  obtain ⟨gs, rfl, hR8⟩ : ∃ g, V8 = .slice (some ⟨g, 0, none⟩) 2 2 ∧ Rw z8 encFd 2 (some ⟨g, 0, none⟩) [(2, 2), (nn, b)] := hV8
  conv => arg 11; simp [Act.put]
  refine walkF_make (some 8) z8 rfl rfl rfl (by kernel_rfl) (fun x => ?_) ?_
  · refine grow_call ?_ ((numbers_any (some ⟨gs, 0, none⟩) 2 [(2, 2), (nn, b)] (plus z8 x) (hR8.below (plus_below z8 x) (Nat.le_refl _)) (by simp; omega) (by simp)).mono ?_)
    · simp [execOp, go_sem]
    · rintro e w4 ⟨A4, n4, c4, rfl, hn4, o4, b4⟩
      exact ⟨_, rfl, b4, _, _, _, rfl, hn4, o4.mono (Nat.le_trans (Below.size g8) (plus_below z8 x).size)⟩
  intro V9 z9 hV9 g9
  obtain ⟨A3, n3, c3, rfl, hn3, o3⟩ : ∃ A n c, V9 = .agg #[.slice A n c, .int .i64 ((catFd [(2, 2), (nn, b)]).length : Nat)] ∧ n = (pack (catFd [(2, 2), (nn, b)])).length ∧ OwnB z9 w3.heap.size (.slice A n c) (pack (catFd [(2, 2), (nn, b)])) := hV9
  conv => arg 11; simp [Act.put]
  have HM : Hid (catFd [(2, 2), (nn, b)] = true :: false :: valB nn b) := Lib.hid (by
    show valB 2 2 ++ (valB nn b ++ []) = _
    rw [List.append_nil, show valB 2 2 = [true, false] from by decide]
    rfl)
  rw [HM.out] at hn3 o3 ⊢
  generalize hMM : true :: false :: valB nn b = MM at hn3 o3 ⊢
  have Hn3 := Lib.hid hn3
  have HMM := Lib.hid hMM
  clear hn3 hMM
  iterate 2 (refine walkF_one none w3 rfl (by kernel_rfl) ?_; go_big_quiet_step (fail); refine wpQuiet_nil ?_)
  refine walkF_end ?_
  intro w5 h5 hE
  have h95 : Gr z9 w5 := hE 9
  have EB5 := Lib.hid (EB3.out.go h5)
  have o5 := o3.below h95
  clear hE qq h95 o3 hR8
  go_wp2_with (go_at_call 28; refine (after_any l b v _ hl hb).mono ?_; rintro e w6 ⟨rfl, b6⟩; have EB4 := Lib.hid (EB5.out.go b6); have o4 := o5.below b6; obtain ⟨⟨y0, y1⟩, x0, x1⟩ := EB4.out.h1.duo; obtain ⟨⟨m0, m1, m2, m3⟩, k0, k1, k2, k3⟩ := EB4.out.h2.quad)
  have hfin : true :: false :: valB ((v ^^^ p) / 2 ^ (64 - l - b)) b = MM := by rw [← HMM.out, Hnn.out, Hs0.out, HD.out]
  rw [hfin]
  obtain ⟨f1, f2, f3⟩ := EB4.out.fin (.slice A3 n3 c3) (.int .i64 (MM.length : Nat)) (.bool true) (.int .u64 v) (.int .u8 l) (.int .u8 b)
  obtain ⟨⟨r0, r1⟩, -⟩ := f1.duo
  obtain ⟨⟨s0, s1, s2, s3⟩, -⟩ := f2.quad
  refine bodyPost_ret (v := .tuple #[.agg #[.slice A3 n3 c3, .int .i64 (MM.length : Nat)], .agg #[.bool true, .int .u64 v, .int .u8 l, .int .u8 b]]) (by simp [results, Tryd.results21, go_sem, r0, r1, s0, s1, s2, s3]) rfl ⟨⟨A3, n3, c3, Hn3.out, rfl, ?_⟩, f3⟩
  exact o4.encFin (by have := EB3.out.zz; omega) _ _ _ _ _ _

end Go.Proofs.YtfooggamdbdniaaDoor

/- The program's encode of layer 3: a value in a new band. -/
namespace Go.Proofs.YtfooggamdbdniaaDoor
open Go.RowKit

set_option maxRecDepth 100000 in
set_option maxHeartbeats 1000000 in
theorem encode_new (p l b v D : Nat) (w : World) (hv : v < 18446744073709551616) (hp : p < 18446744073709551616) (hlb : l + b ≤ 64) (hD : D = v ^^^ p) (hT : Tab w) (h0 : v ^^^ p ≠ 0) (hh : holdsX l b (v ^^^ p) = false) :
    Calls Tryd.prog 21 #[.agg #[.bool true, .int .u64 p, .int .u8 l, .int .u8 b], .int .u64 v] w fun e w' => EncOut (true :: true :: (valB (leadX (v ^^^ p)) 5 ++ valB (widX (v ^^^ p) - 1) 6 ++ valB ((v ^^^ p) / 2 ^ (64 - leadX (v ^^^ p) - widX (v ^^^ p))) (widX (v ^^^ p)))) ⟨true, v, leadX (v ^^^ p), widX (v ^^^ p)⟩ w.heap.size e w' ∧ Below w.heap.size w w' := by
  have hmx : Tryd.prog.follows .mixedOrders = true := by kernel_rfl
  have hl : l < 256 := by omega
  have hb : b < 256 := by omega
  obtain ⟨W, hW⟩ : ∃ W, W = ((w.alloc (.cells #[.bool true, .int .u64 p, .int .u8 l, .int .u8 b] 24)).alloc (.cells #[.slice none 0 0, .int .i64 0] 29)).alloc (.cells #[.bool false, .int .u64 0, .int .u8 0, .int .u8 0] 24) := ⟨_, rfl⟩
  have s1 : (w.alloc (.cells #[.bool true, .int .u64 p, .int .u8 l, .int .u8 b] 24)).heap.size = w.heap.size + 1 := by simp
  have s2 : ((w.alloc (.cells #[.bool true, .int .u64 p, .int .u8 l, .int .u8 b] 24)).alloc (.cells #[.slice none 0 0, .int .i64 0] 29)).heap.size = w.heap.size + 2 := by simp
  have B0 : Blk W w.heap.size 24 #[.bool true, .int .u64 p, .int .u8 l, .int .u8 b] := by rw [hW]; exact ((Blk.new w _ _).alloc _).alloc _
  have B1 : Blk W (w.heap.size + 1) 29 #[.slice none 0 0, .int .i64 0] := by
    rw [hW]
    have := (Blk.new (w.alloc (.cells #[.bool true, .int .u64 p, .int .u8 l, .int .u8 b] 24)) 29 #[.slice none 0 0, .int .i64 0]).alloc (.cells #[.bool false, .int .u64 0, .int .u8 0, .int .u8 0] 24)
    rwa [s1] at this
  have B2 : Blk W (w.heap.size + 2) 24 #[.bool false, .int .u64 0, .int .u8 0, .int .u8 0] := by
    rw [hW]
    have := Blk.new ((w.alloc (.cells #[.bool true, .int .u64 p, .int .u8 l, .int .u8 b] 24)).alloc (.cells #[.slice none 0 0, .int .i64 0] 29)) 24 #[.bool false, .int .u64 0, .int .u8 0, .int .u8 0]
    rwa [s2] at this
  have tW : Below w.heap.size w W := by rw [hW]; exact ((below_alloc w _).alloc (by simp) _).alloc (by simp; omega) _
  have zW : W.heap.size = w.heap.size + 3 := by rw [hW]; simp
  clear s1 s2
  have HB0 := Lib.hid B0
  have HB1 := Lib.hid B1
  have HB2 := Lib.hid B2
  have HzW := Lib.hid zW
  have HtW := Lib.hid tW
  have q : ∀ x, (plus W x).cell? ⟨w.heap.size, 0, none⟩ = some (.bool true) ∧ (plus W x).cell? ⟨w.heap.size, 1, none⟩ = some (.int .u64 p) ∧ (plus W x).cell? ⟨w.heap.size, 2, none⟩ = some (.int .u8 l) ∧ (plus W x).cell? ⟨w.heap.size, 3, none⟩ = some (.int .u8 b) := fun x =>
    ((HB0.out.below (plus_below W x) HB0.out.lt : Blk (plus W x) w.heap.size 24 #[.bool true, .int .u64 p, .int .u8 l, .int .u8 b])).quad.1
  have hx : bits .xor .u64 (v : Int) (p : Int) = (D : Int) := by rw [xor_int v p hv hp, hD]
  have HW := Lib.hid hW
  have HD := Lib.hid hD
  clear B0 B1 B2 zW tW hW hD
  have hd0 : ((D : Int) == 0) = false := by rw [HD.out]; exact beq_eq_false_iff_ne.2 (by omega)
  go_enter Tryd.func21, Tryd.ntmps21
  go_wp2_with fail
  rw [← HW.out]
  refine wp_region_fresh_tail 7 [] [5, 6] (fun k V z => if k = 5 then V = .agg #[.int .i64 l, .int .i64 b] else ∃ g, V = .pointer (some ⟨g, 0, none⟩) ∧ Blk z g 50 #[.int .i64 0, .int .i64 0] ∧ W.heap.size ≤ g) hmx (by kernel_rfl) (by kernel_rfl) ?_
  simp only [List.take_succ_cons, List.take_zero, List.drop_succ_cons, List.drop_zero]
  iterate 5 (refine walkF_one none W rfl (by kernel_rfl) ?_; go_big_quiet_step (fail); refine wpQuiet_nil ?_)
  refine walkF_make none W rfl rfl rfl (by kernel_rfl) (fun x => ?_) ?_
  · refine grow_call ?_ ((bandOf_any true p l b (plus W x) hl hb).mono ?_)
    · simp [execOp, go_sem]
    · rintro e w4 ⟨rfl, b4⟩
      exact ⟨_, rfl, b4, rfl⟩
  rintro V1 z1 rfl g1
  conv => arg 11; simp [Act.put]
  refine walkF_make none W rfl rfl rfl (by kernel_rfl) (fun x => ?_) ?_
  · have hr : ∀ w' : World, (execOp (Act.eval { tmps := #[], defers := [] }) { dst := none, op := .alloc 50, type := 0, pos := "", after := #[], guard := none }).run Tryd.prog w' = .ok (.value (.pointer (some ⟨w'.heap.size, 0, none⟩))) (w'.alloc (.cells #[.int .i64 0, .int .i64 0] 50)) := fun w' => by simp [execOp, go_sem]
    have hr2 := hr (plus W x)
    unfold growUpon
    simp only [execOp] at hr2 ⊢
    rw [hr2]
    exact ⟨below_alloc _ _, _, rfl, Blk.new _ _ _, (plus_below W x).size⟩
  rintro V2 z2 ⟨g, rfl, hg, hgz⟩ g2
  conv => arg 11; simp [Act.put]
  refine walkF_end ?_
  intro w' h0 hE
  have hg' : Blk w' g 50 #[.int .i64 0, .int .i64 0] := hg.below (hE 6) hg.lt
  have HG := Lib.hid hg'
  have hgz3 : w.heap.size + 3 ≤ g := by have := HzW.out; omega
  have EB := Lib.hid (⟨(HB0.out.below h0 HB0.out.lt).far _ _ (by simp; omega) |>.far _ _ (by simp; omega), (HB1.out.below h0 HB1.out.lt).far _ _ (by simp; omega) |>.far _ _ (by simp; omega), (HB2.out.below h0 HB2.out.lt).far _ _ (by simp; omega) |>.far _ _ (by simp; omega), hg'.set2 _ _, ((HtW.out.trans (Below.mono h0 (by have := HtW.out.size; omega))).setCell (by simp; omega) _).setCell (by simp; omega) _, hgz3⟩ : EncB w ((w'.setCell ⟨g, 0, none⟩ (.int .i64 l)).setCell ⟨g, 1, none⟩ (.int .i64 b)) g true p l b)
  obtain ⟨⟨-, -⟩, y0, y1⟩ := HG.out.duo
  obtain ⟨⟨x0, x1⟩, -⟩ := HG.out.duo
  have EQ := EB.out.h0.quad.1
  clear hE q hg hg' hgz h0
  go_wp2_with fail
  obtain ⟨W2, hW2⟩ : ∃ W2, W2 = (w'.setCell ⟨g, 0, none⟩ (.int .i64 l)).setCell ⟨g, 1, none⟩ (.int .i64 b) := ⟨_, rfl⟩
  have hsz : w'.heap.size = W2.heap.size := by rw [hW2]; simp [World.setCell]
  rw [← hW2] at EB
  rw [← hW2]
  clear hsz hW2 HG y0 y1 x0 x1 EQ hd0
  have hDl : D < 18446744073709551616 := by rw [HD.out]; exact xor_lt64 hv hp
  have hDn : D ≠ 0 := by rw [HD.out]; exact h0
  obtain ⟨N1, N2, N3, N4, -⟩ := narrow_facts D hDn hDl
  obtain ⟨L, hL⟩ : ∃ L, L = leadX D := ⟨_, rfl⟩
  obtain ⟨X, hX⟩ : ∃ X, X = widX D := ⟨_, rfl⟩
  rw [← hL] at N1 N3
  rw [← hX] at N2 N3
  obtain ⟨s0, hs0⟩ : ∃ s0 : Nat, s0 = 64 - L - X := ⟨_, rfl⟩
  obtain ⟨X1, hX1⟩ : ∃ X1 : Nat, X1 = X - 1 := ⟨_, rfl⟩
  have hs0' : (64 : Int) - L - X = s0 := by omega
  obtain ⟨nn, hnn⟩ : ∃ nn : Nat, nn = D / 2 ^ s0 := ⟨_, rfl⟩
  have f3 : (D : Int) / 2 ^ s0 = (nn : Int) := by rw [nat_shr, hnn]
  have hnl : nn < 18446744073709551616 := by rw [hnn]; exact Nat.lt_of_le_of_lt (Nat.div_le_self _ _) hDl
  have j4 : min s0 64 = s0 := by omega
  have j1 : IntKind.u64.wrap (L : Int) = (L : Int) := by rw [IntKind.wrap_u64]; omega
  have j2 : IntKind.i64.wrap ((X : Int) - 1) = (X1 : Int) := by rw [IntKind.wrap_i64]; omega
  have j3 : IntKind.u64.wrap (X1 : Int) = (X1 : Int) := by rw [IntKind.wrap_u64]; omega
  have hfs : ∀ f ∈ ([(3, 2), (L, 5), (X1, 6), (nn, X)] : List (Nat × Nat)), f.1 < 18446744073709551616 ∧ f.2 ≤ 64 := by
    intro f hf
    simp at hf
    rcases hf with rfl | rfl | rfl | rfl <;> exact ⟨by omega, by omega⟩
  have HX1 := Lib.hid hX1
  have HL := Lib.hid hL
  have HX := Lib.hid hX
  have Hs0 := Lib.hid hs0
  have Hs0' := Lib.hid hs0'
  have Hnn := Lib.hid hnn
  have Hfs := Lib.hid hfs
  clear hs0 hs0' hnn hL hX N4 hX1 hfs
  have hHo := holds_any l b D W2 hlb hDl
  rw [HD.out, hh, ← HD.out] at hHo
  have b2 := EB.out.h3.duo.1
  go_wp2_with fail
  refine hHo.mono ?_
  rintro e w3 ⟨rfl, b3⟩
  have EB3 := Lib.hid (EB.out.go b3)
  clear hHo b2
  have hN := narrow_any D w3 hDn hDl (tabGo hT EB3.out.t)
  rw [← HL.out, ← HX.out] at hN
  have HN := Lib.hid hN
  clear hN hT
  go_wp2_with fail
  refine HN.out.mono ?_
  rintro e w4 ⟨rfl, b4⟩
  have EB4 := Lib.hid ((EB3.out.go b4).go (below_alloc w4 (.cells #[.int .i64 L, .int .i64 X] 50)))
  have hB8 : Blk (w4.alloc (.cells #[.int .i64 L, .int .i64 X] 50)) w4.heap.size 50 #[.int .i64 L, .int .i64 X] := Blk.new w4 _ _
  have HB8 := Lib.hid hB8
  clear hB8
  go_wp2_with fail
  obtain ⟨W5, hW5⟩ : ∃ W5, W5 = w4.alloc (.cells #[.int .i64 L, .int .i64 X] 50) := ⟨_, rfl⟩
  rw [← hW5] at EB4 HB8 ⊢
  have HW5 := Lib.hid hW5
  clear hW5
  have qq : ∀ x, (plus W5 x).cell? ⟨w4.heap.size, 0, none⟩ = some (.int .i64 L) ∧ (plus W5 x).cell? ⟨w4.heap.size, 1, none⟩ = some (.int .i64 X) := fun x => (HB8.out.below (plus_below W5 x) HB8.out.lt : Blk (plus W5 x) w4.heap.size 50 #[.int .i64 L, .int .i64 X]).duo.1
  refine wp_region_fresh_tail 21 (List.replicate 18 none ++ [some 17]) [12, 17, 18, 21] (fun k V z => if k = 12 then V = .int .i64 s0 else if k = 17 then ∃ g, V = .slice (some ⟨g, 0, none⟩) 4 4 ∧ Rw z encFd 2 (some ⟨g, 0, none⟩) [(3, 2), (L, 5), (X1, 6), (nn, X)] else ∃ A n c, V = .agg #[.slice A n c, .int .i64 ((catFd [(3, 2), (L, 5), (X1, 6), (nn, X)]).length : Nat)] ∧ n = (pack (catFd [(3, 2), (L, 5), (X1, 6), (nn, X)])).length ∧ OwnB z W5.heap.size (.slice A n c) (pack (catFd [(3, 2), (L, 5), (X1, 6), (nn, X)]))) hmx (by kernel_rfl) (by kernel_rfl) ?_
  simp only [List.take_succ_cons, List.take_zero, List.drop_succ_cons, List.drop_zero]
  iterate 12 (refine walkF_one none W5 rfl (by kernel_rfl) ?_; go_big_quiet_step (fail); refine wpQuiet_nil ?_)
  refine walkF_make none W5 rfl rfl rfl (by kernel_rfl) (fun x => ?_) ?_
  · refine grow_call ?_ ((behind_any L X (plus W5 x) (by omega) (by omega)).mono ?_)
    · simp [execOp, go_sem]
    · rintro e w6 ⟨rfl, b6⟩
      exact ⟨_, rfl, b6, by rw [if_pos (by rfl), Hs0'.out]⟩
  intro V1 z1 hV1 g1
  obtain rfl : V1 = .int .i64 s0 := hV1
  conv => arg 11; simp [Act.put]
  iterate 4 (refine walkF_one none W5 rfl (by kernel_rfl) ?_; go_big_quiet_step (fail); refine wpQuiet_nil ?_)
  refine walkF_make none W5 rfl rfl rfl (by kernel_rfl) (fun x => ?_) ?_
  · refine grow_val (v := .slice (some ⟨(plus W5 x).heap.size, 0, none⟩) 4 4) (w' := (plus W5 x).alloc (.cells #[.int .u64 3, .int .i64 2, .int .u64 L, .int .i64 5, .int .u64 X1, .int .i64 6, .int .u64 nn, .int .i64 X] 71)) ?_ (below_alloc _ _) ?_
    · simp [execOp, go_sem]
    · exact ⟨_, rfl, rw_new (Blk.new _ _ _)⟩
  intro V8 z8 hV8 g8
  obtain ⟨gs, rfl, hR8⟩ : ∃ g, V8 = .slice (some ⟨g, 0, none⟩) 4 4 ∧ Rw z8 encFd 2 (some ⟨g, 0, none⟩) [(3, 2), (L, 5), (X1, 6), (nn, X)] := hV8
  conv => arg 11; simp [Act.put]
  refine walkF_make (some 17) z8 rfl rfl rfl (by kernel_rfl) (fun x => ?_) ?_
  · refine grow_call ?_ ((numbers_any (some ⟨gs, 0, none⟩) 4 [(3, 2), (L, 5), (X1, 6), (nn, X)] (plus z8 x) (hR8.below (plus_below z8 x) (Nat.le_refl _)) Hfs.out (by simp)).mono ?_)
    · simp [execOp, go_sem]
    · rintro e w6 ⟨A4, n4, c4, rfl, hn4, o4, b6⟩
      exact ⟨_, rfl, b6, _, _, _, rfl, hn4, o4.mono (Nat.le_trans (Below.size g8) (plus_below z8 x).size)⟩
  intro V9 z9 hV9 g9
  obtain ⟨A3, n3, c3, rfl, hn3, o3⟩ : ∃ A n c, V9 = .agg #[.slice A n c, .int .i64 ((catFd [(3, 2), (L, 5), (X1, 6), (nn, X)]).length : Nat)] ∧ n = (pack (catFd [(3, 2), (L, 5), (X1, 6), (nn, X)])).length ∧ OwnB z9 W5.heap.size (.slice A n c) (pack (catFd [(3, 2), (L, 5), (X1, 6), (nn, X)])) := hV9
  conv => arg 11; simp [Act.put]
  have HM : Hid (catFd [(3, 2), (L, 5), (X1, 6), (nn, X)] = true :: true :: (valB L 5 ++ valB X1 6 ++ valB nn X)) := Lib.hid (by
    show valB 3 2 ++ (valB L 5 ++ (valB X1 6 ++ (valB nn X ++ []))) = _
    rw [List.append_nil, show valB 3 2 = [true, true] from by decide, List.append_assoc]
    rfl)
  rw [HM.out] at hn3 o3 ⊢
  generalize hMM : true :: true :: (valB L 5 ++ valB X1 6 ++ valB nn X) = MM at hn3 o3 ⊢
  have Hn3 := Lib.hid hn3
  have HMM := Lib.hid hMM
  clear hn3 hMM
  iterate 2 (refine walkF_one none W5 rfl (by kernel_rfl) ?_; go_big_quiet_step (fail); refine wpQuiet_nil ?_)
  refine walkF_end ?_
  intro w7 h5 hE
  have h95 : Gr z9 w7 := hE 18
  have EB5 := Lib.hid (EB4.out.go h5)
  have o5 := o3.below h95
  have zz5 : w.heap.size + 3 ≤ W5.heap.size := by have := EB4.out.zz; omega
  have XL : L < 256 := by omega
  have XX : X < 256 := by omega
  clear hE qq h95 o3 hR8 j1 j2 j3 j4 f3
  go_wp2_with (go_at_call 28; refine (after_any L X v _ XL XX).mono ?_; rintro e w6 ⟨rfl, b6⟩; have EB4 := Lib.hid (EB5.out.go b6); have o4 := o5.below b6; obtain ⟨⟨y0, y1⟩, x0, x1⟩ := EB4.out.h1.duo; obtain ⟨⟨m0, m1, m2, m3⟩, k0, k1, k2, k3⟩ := EB4.out.h2.quad)
  rw [← HD.out, ← HL.out, ← HX.out, ← Hs0.out, ← Hnn.out, ← HX1.out, HMM.out]
  obtain ⟨f1, f2, f3⟩ := EB4.out.fin (.slice A3 n3 c3) (.int .i64 (MM.length : Nat)) (.bool true) (.int .u64 v) (.int .u8 L) (.int .u8 X)
  obtain ⟨⟨r0, r1⟩, -⟩ := f1.duo
  obtain ⟨⟨s0, s1, s2, s3⟩, -⟩ := f2.quad
  refine bodyPost_ret (v := .tuple #[.agg #[.slice A3 n3 c3, .int .i64 (MM.length : Nat)], .agg #[.bool true, .int .u64 v, .int .u8 L, .int .u8 X]]) (by simp [results, Tryd.results21, go_sem, r0, r1, s0, s1, s2, s3]) rfl ⟨⟨A3, n3, c3, Hn3.out, rfl, ?_⟩, f3⟩
  exact o4.encFin zz5 _ _ _ _ _ _

end Go.Proofs.YtfooggamdbdniaaDoor
