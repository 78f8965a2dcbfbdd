/- Joined: Fs6, Fs7, Fs8. -/
import Derived.Test.YtiogckgchlnldaaGreatQ13
import Derived.ArgAppend
import Derived.Test.YtiogckgchlnldaaGreatQ6
set_option linter.unusedSimpArgs false
set_option linter.unusedVariables false
/- Layer 8: Append: the mathematics, the append to a file's bytes. -/
set_option linter.unusedSimpArgs false
set_option linter.unusedVariables false
namespace Go.Proofs.YtiogckgchlnldaaGreat
open Go.RowKit Go.Maps Go.ChangeMaps Go.MapKept Go.WideMaps
set_option maxRecDepth 100000

/-- 'append(f.b, b...)' -/
theorem appAllF (w : World) {ops : Array Oper} {rest : List Oper} {o : Oper} {a : Act} {Q : Exit → Act → World → Prop} (hgd : o.guard = none) (s x : Operand)
    (ho : o.op = .call { callee := .builtin .append, args := #[s, x], argTypes := #[22, 22] })
    (v : Value) (L : List UInt8) (hs : a.eval s = v) (hown : OwnF w v L) (ad : Addr) (c : Nat) (l : List UInt8)
    (hx : a.eval x = .slice (some ad) l.length c) (hb : Bs w (some ad) l) (hl : 0 < l.length) (hlen : L.length + l.length ≤ 1000000) (N : Nat) (hN : N = (L ++ l).length)
    (h : ∀ A' c' w', OwnF w' (.slice A' N c') (L ++ l) → w.grownBy w' v.ownBlock → (∀ j, (Value.slice A' N c').ownBlock = some j → v.ownBlock = some j ∨ w.heap.size ≤ j) → wpList Tryz.prog ops Q rest (a.put o.dst (.slice A' N c')) w') : wpList Tryz.prog ops Q (o :: rest) a w := by
  subst hN
  have key : OwnB w 0 v L ∨ ∃ g cur, v = .slice (some ⟨g, 0, none⟩) L.length L.length ∧ w.heap[g]? = some (.cells cur 5 (0, 0)) ∧ L.length ≤ cur.size ∧ cur.toList.take L.length = L.map bv := by
    rcases hown with ⟨rfl, rfl⟩ | ⟨g, cp, cur, rfl, h1, h2, h3, h4, h5, h6⟩
    · exact .inl (OwnB.nil _ _)
    · rcases h5 with h5 | h5
      · left
        exact ⟨by simp, .inr ⟨g, cp, cur, rfl, Nat.zero_le _, h1, h2, by omega, by omega, by rw [Nat.mul_one]; exact h6⟩⟩
      · right
        subst h5
        exact ⟨g, cur, rfl, h1, by omega, h6⟩
  rcases key with hB | ⟨g, cur, rfl, h1, h2, h3⟩
  · refine appAllL w hgd s x ho 0 v L hs hB (some ad) c l hx hb (by omega) (Nat.zero_le _) (fun A' c' w' k1 k2 k3 => ?_)
    have := h A' c' w' (by rw [List.length_append]; exact OwnF.of k1) k2 (by rw [List.length_append]; exact k3)
    rw [List.length_append] at this
    exact this
  · obtain ⟨i, hi, hz, hsz, hby⟩ := info_parts Tryz.info_u8
    have hcell : ∀ (j : Nat) (u : Value), (L.map bv)[j]? = some u → w.cell? ⟨g, j, none⟩ = some u := fun j u hj => by
      have hjl : j < L.length := by
        have := (List.getElem?_eq_some_iff.1 hj).1
        simpa using this
      rw [← h3, List.getElem?_take_of_lt hjl] at hj
      have : w.cell? ⟨g, j, none⟩ = cur[j]? := by simp [World.cell?, h1]
      rw [this]
      simpa using hj
    refine wpList_append_grows (P := Tryz.prog) w hgd s x 22 ho 5 i (.int .u8 0) 1 1 Tryz.underlying22 hi hz hsz hby rfl (by decide) (some ⟨g, 0, none⟩) L.length L.length (L.map bv) hs (fun e => by cases e) (by simp) (fun b e j u hj => ?_) ad l.length c (l.map bv) hx (by simp) (fun j u hj => ?_) (fun u hu => ?_) (by omega) (by unfold maxLen; omega) (by omega) (fun v' w' k1 k2 => ?_)
    · injection e with e
      subst e
      have := hcell j u hj
      unfold Addr.add
      split
      · rename_i h0; subst h0; exact this
      · simpa using this
    · rw [List.getElem?_map, Option.map_eq_some_iff] at hj
      obtain ⟨y, hy, rfl⟩ := hj
      obtain ⟨p, o', hA, hc⟩ := hb j y hy
      injection hA with hA
      subst hA
      unfold Addr.add
      split
      · rename_i h0; subst h0; simpa using hc
      · simpa using hc
    · obtain ⟨y, _, rfl⟩ := List.mem_map.1 hu
      rfl
    · have k3 : OwnB w' w.heap.size v' (L ++ l) := by
        unfold OwnB
        rw [List.length_append, List.map_append]
        exact k1
      have hpos : 0 < (L ++ l).length := by rw [List.length_append]; omega
      obtain ⟨g', cp, rfl, q1, q2, q3⟩ := OwnB.form k3 hpos
      refine h (some ⟨g', 0, none⟩) cp w' (OwnF.of (k3.mono (Nat.zero_le _))) ⟨k2.os, k2.tape, k2.output, k2.size, fun j hj _ => k2.block j hj (by simp)⟩ (fun j hj => ?_)
      have e : g' = j := by simpa [Value.ownBlock] using hj
      subst e
      exact .inr q1

end Go.Proofs.YtiogckgchlnldaaGreat

/- Layer 8: Append: the data, the state. -/
set_option linter.unusedSimpArgs false
set_option linter.unusedVariables false
namespace Go.Proofs.YtiogckgchlnldaaGreat
open Go.RowKit Go.Maps Go.ChangeMaps Go.MapKept Go.WideMaps
set_option maxRecDepth 100000

theorem find_set {T : List Ft} {i : Nat} {t t' : Ft} (hi : T[i]? = some t) (hn : t'.nm = t.nm) (hp : T.Pairwise (fun a b => a.nm ≠ b.nm)) (s : Nm) : (T.set i t').find? (fun x => x.nm == s) = if s = t.nm then some t' else T.find? (fun x => x.nm == s) := by
  induction T generalizing i with
  | nil => simp at hi
  | cons x xs ih =>
    obtain ⟨h1, h2⟩ := List.pairwise_cons.1 hp
    cases i with
    | zero =>
      simp at hi
      subst hi
      rw [List.set_cons_zero, List.find?_cons, List.find?_cons, hn]
      by_cases hs : s = x.nm
      · subst hs; rw [beq_self_eq_true, if_pos rfl]
      · rw [beq_eq_false_iff_ne.2 (fun e => hs e.symm), if_neg hs]
    | succ i =>
      have hi' : xs[i]? = some t := by simpa using hi
      have hm := List.mem_of_getElem? hi'
      rw [List.set_cons_succ, List.find?_cons, List.find?_cons, ih hi' h2]
      by_cases hs : s = t.nm
      · subst hs
        rw [beq_eq_false_iff_ne.2 (h1 t hm), if_pos rfl]
      · rw [if_neg hs, if_neg hs]
theorem nmG_set {T : List Ft} {i : Nat} {t t' : Ft} (hi : T[i]? = some t) (hn : t'.nm = t.nm) (hg : t'.g = t.g) : nmG (T.set i t') = nmG T := by
  unfold nmG
  rw [List.map_set, hn, hg]
  apply List.ext_getElem? 
  intro j
  rw [List.getElem?_set]
  split
  · rename_i e
    subst e
    rw [List.length_map, if_pos (List.getElem?_eq_some_iff.1 hi).1, List.getElem?_map, hi]
    rfl
  · rfl
theorem posT_find {T : List Ft} {n : Nm} {t : Ft} (h : T.find? (fun t => t.nm == n) = some t) : posT T n = t.su := by unfold posT; rw [h]; rfl
theorem gT_find {T : List Ft} {n : Nm} {t : Ft} (h : T.find? (fun t => t.nm == n) = some t) : gT T n = t.g := by unfold gT; rw [findM_T, h]; rfl
/-- a piece more -/
theorem pcL_snoc {d : Fd} {T : List Ft} (h : Fi d T) {t t' : Ft} {i : Nat} (hi : T[i]? = some t) (hn : t'.nm = t.nm) (hg : t'.g = t.g) (hs : t'.su = t.su) (b : List UInt8) : pcL (T.set i t') (d.P ++ [(t.nm, b)]) = pcL T d.P ++ [⟨t.g, t.b.length, t.b.length + b.length⟩] := by
  have hm := List.mem_of_getElem? hi
  have hf := find_set hi hn h.names
  have hpos : posT (T.set i t') = posT T := by
    funext s
    unfold posT
    rw [hf]
    split
    · rename_i e
      subst e
      rw [find_name h.names hm]
      show t'.su = t.su
      exact hs
    · rfl
  have hgT : ∀ s, gT (T.set i t') s = gT T s := fun s => by unfold gT; rw [nmG_set hi hn hg]
  unfold pcL
  rw [hpos, spans_snoc, List.map_append]
  have h1 : posT T t.nm + (pcs d.P t.nm).length = t.b.length := by
    rw [posT_find (find_name h.names hm)]
    have := congrArg List.length (h.ok t hm).2.1
    rw [List.length_append, List.length_take] at this
    have := (h.ok t hm).1
    omega
  rw [h1]
  congr 1
  · apply List.map_congr_left
    intro s _
    rw [hgT]
  · rw [List.map_singleton, hgT, gT_find (find_name h.names hm)]
theorem sum_set {T : List Ft} {i : Nat} {t t' : Ft} (hi : T[i]? = some t) : ((T.set i t').map fun t => t.b.length).sum + t.b.length = (T.map fun t => t.b.length).sum + t'.b.length := by
  induction T generalizing i with
  | nil => simp at hi
  | cons x xs ih =>
    cases i with
    | zero =>
      simp at hi
      subst hi
      rw [List.set_cons_zero, List.map_cons, List.sum_cons, List.map_cons, List.sum_cons]
      omega
    | succ i =>
      have := ih (i := i) (by simpa using hi)
      rw [List.set_cons_succ, List.map_cons, List.sum_cons, List.map_cons, List.sum_cons]
      omega
theorem Fi.app {d : Fd} {T : List Ft} (h : Fi d T) {t t' : Ft} {i : Nat} (hi : T[i]? = some t) (hn : t'.nm = t.nm) (hs : t'.su = t.su) (b : List UInt8) (hb : t'.b = t.b ++ b) (hu : usedD d + b.length ≤ 200000) (hl : d.P.length < 1000000) : Fi { d with P := d.P ++ [(t.nm, b)] } (T.set i t') := by
  have hm := List.mem_of_getElem? hi
  have hil := (List.getElem?_eq_some_iff.1 hi).1
  obtain ⟨o1, o2, o3⟩ := h.ok t hm
  have htk : t'.b.take t'.su = t.b.take t.su := by rw [hb, hs, List.take_append_of_le_length o1]
  have hF : (T.set i t').map (fun t => (t.nm, t.b.take t.su)) = d.F := by
    rw [List.map_set, htk, hn, ← h.F]
    apply List.ext_getElem?
    intro j
    rw [List.getElem?_set]
    split
    · rename_i e
      subst e
      rw [List.length_map, if_pos hil, List.getElem?_map, hi]
      rfl
    · rfl
  have hok : ∀ x ∈ T.set i t', x.su ≤ x.b.length ∧ x.b = x.b.take x.su ++ pcs (d.P ++ [(t.nm, b)]) x.nm ∧ x.nm.length ≤ 16 := fun x hx => by
    obtain ⟨j, hj, rfl⟩ := List.getElem_of_mem hx
    rw [List.length_set] at hj
    rw [List.getElem_set]
    split
    · rename_i e
      subst e
      rw [htk, hb, hs, hn, List.length_append, pcs_append, ← List.append_assoc, ← o2]
      refine ⟨by omega, ?_, o3⟩
      rw [show pcs [(t.nm, b)] t.nm = b by rw [show (t.nm, b) = (⟨t.nm, b⟩ : Nm × List UInt8) from rfl]; have := pcs_cons_same (t.nm, b) []; rw [this, pcs_nil, List.append_nil]]
    · rename_i e
      have hne : t.nm ≠ T[j].nm := by
        have hp := List.pairwise_iff_getElem.1 h.names
        obtain ⟨_, hte⟩ := List.getElem?_eq_some_iff.1 hi
        rcases Nat.lt_or_gt_of_ne e with h9 | h9
        · have := hp i j hil hj h9; rw [hte] at this; exact this
        · have := hp j i hj hil h9; rw [hte] at this; exact fun x => this x.symm
      obtain ⟨q1, q2, q3⟩ := h.ok T[j] (List.getElem_mem hj)
      rw [pcs_append, show pcs [(t.nm, b)] T[j].nm = [] by rw [pcs_cons_ne hne]; rfl, List.append_nil]
      exact ⟨q1, q2, q3⟩
  refine ⟨hF, h.up, hok, fun p hp => ?_, ?_, ?_, ?_⟩
  · rw [List.mem_append, List.mem_singleton] at hp
    have hmem : ∃ x ∈ T.set i t', x.nm = t.nm := ⟨t', List.mem_of_getElem? (List.getElem?_set_self hil), hn⟩
    rcases hp with hp | rfl
    · obtain ⟨y, hy, e⟩ := h.pn p hp
      by_cases hyt : y.nm = t.nm
      · obtain ⟨x, hx, hx2⟩ := hmem
        exact ⟨x, hx, hx2.trans (hyt.symm.trans e)⟩
      · obtain ⟨j, hj⟩ := List.getElem?_of_mem hy
        refine ⟨y, List.mem_of_getElem? (i := j) ?_, e⟩
        rw [List.getElem?_set_ne (fun x => hyt (by subst x; rw [hi] at hj; injection hj with hj; rw [hj]))]
        exact hj
    · exact hmem
  · simp; omega
  · have e1 := used_T (d := { d with P := d.P ++ [(t.nm, b)] }) hF (fun x hx => (hok x hx).2.1)
    rw [e1]
    have e2 := sum_set (t' := t') hi
    rw [h.used] at hu
    rw [hb, List.length_append] at e2
    omega
  · rw [List.length_set]; exact h.fl

/-- the state behind the two appends and the two stores -/
theorem FsS.app {B q room bm : Nat} {w0 w1 w3 w6 w7 : World} {ts : List Kt} {d : Fd} {VW VW2 : Value} {T : List Ft} {t t' : Ft} {i : Nat}
    (hs : FsS B w0 w1 q room ts d bm VW T) (hi : T[i]? = some t) (hn : t'.nm = t.nm) (hg : t'.g = t.g)
    (h3 : Tou (thF t).F w1 w3) (p3 : (thF t').P w3) (n3 : ∀ k, (thF t').F k → (thF t).F k ∨ w1.heap.size ≤ k) :
    Sep B w0 w3 (thB q 67 (fsc room bm VW d) :: thM bm (nmG (T.set i t')) :: thP VW (pcL T d.P) :: ((T.set i t').map thF ++ ts)) := by
  have hil := (List.getElem?_eq_some_iff.1 hi).1
  have e : (thB q 67 (fsc room bm VW d) :: thM bm (nmG T) :: thP VW (pcL T d.P) :: (T.map thF ++ ts))[i + 3]? = some (thF t) := by
    show (T.map thF ++ ts)[i]? = _
    rw [List.getElem?_append_left (by rw [List.length_map]; exact hil), List.getElem?_map, hi]
    rfl
  have h := hs.call (t' := thF t') (i + 3) e h3 p3 n3
  rw [nmG_set hi hn hg]
  have e2 : (thB q 67 (fsc room bm VW d) :: thM bm (nmG T) :: thP VW (pcL T d.P) :: (T.map thF ++ ts)).set (i + 3) (thF t') = thB q 67 (fsc room bm VW d) :: thM bm (nmG T) :: thP VW (pcL T d.P) :: ((T.set i t').map thF ++ ts) := by
    show _ :: _ :: _ :: (T.map thF ++ ts).set i (thF t') = _
    rw [List.set_append_left _ _ (by rw [List.length_map]; exact hil), List.map_set]
  rw [e2] at h
  exact h

end Go.Proofs.YtiogckgchlnldaaGreat

/- Layer 8: Append. -/
set_option linter.unusedSimpArgs false
set_option linter.unusedVariables false
namespace Go.Proofs.YtiogckgchlnldaaGreat
open Go.RowKit Go.Maps Go.ChangeMaps Go.MapKept Go.WideMaps
set_option maxRecDepth 100000

theorem runs_S {B q room : Nat} {w0 w : World} {ts : List Kt} {d : Fd} {bm : Nat} {VW : Value} {T : List Ft} (hs : FsS B w0 w q room ts d bm VW T) (hl : d.lf ≤ 1000000) :
    Calls Tryz.prog 20 #[.pointer (some ⟨q, 0, none⟩)] w fun e w' => e = .returned (.bool (runsD d).1) ∧ FsS B w0 w' q room ts (runsD d).2 bm VW T := by
  have C := fbsays (FsS.bx hs)
  simp only [cellsSay, fsc, Nat.reduceAdd, and_true] at C
  have HS := Lib.hid hs
  unfold runsD
  obtain ⟨dF, dP, st, lf, dd⟩ := d
  have hl : lf ≤ 1000000 := hl
  clear hs
  cases st with
  | false =>
    go_enter Tryz.func20, Tryz.ntmps20
    go_wp2_with fail
    go_ret
    exact ⟨rfl, HS.out⟩
  | true =>
    by_cases h0 : 0 < lf
    · rw [if_neg (by simp), if_pos h0]
      have d1 : decide ((0 : Int) < (lf : Int)) = true := decide_eq_true (by omega)
      have d2 : (0 : Int) < (lf : Int) := by omega
      have hw : wrap64 ((lf : Int) - 1) = ((lf - 1 : Nat) : Int) := by unfold wrap64; omega
      go_enter Tryz.func20, Tryz.ntmps20
      go_wp2_with fail
      go_ret
      rw [show ((lf : Int) - 1) = ((lf - 1 : Nat) : Int) by omega]
      exact ⟨rfl, HS.out.put 0 q [(4, .int .i64 ((lf - 1 : Nat) : Int))] (fsc room bm VW ⟨dF, dP, true, lf - 1, dd⟩) rfl⟩
    · rw [if_neg (by simp), if_neg h0]
      have d1 : decide ((0 : Int) < (lf : Int)) = false := decide_eq_false (by omega)
      have d2 : ¬ (0 : Int) < (lf : Int) := by omega
      go_enter Tryz.func20, Tryz.ntmps20
      go_wp2_with fail
      go_ret
      exact ⟨rfl, HS.out.put 0 q [(5, .bool true)] (fsc room bm VW ⟨dF, dP, true, lf, true⟩) rfl⟩

set_option maxHeartbeats 4000000 in
theorem append_none {B q room : Nat} {w0 w : World} {ts : List Kt} {d : Fd} (n : Nm) (hn : n.length ≤ maxLen) (A : Option Addr) (c : Nat) (b : List UInt8) (h : FsI B w0 w q room ts d) (hat : atF d.F n = none) :
    Calls Tryz.prog 9 #[.pointer (some ⟨q, 0, none⟩), .string ⟨n.toArray⟩, .slice A b.length c] w fun e w' => e = .returned (.int .u16 80) ∧ w' = w := by
  obtain ⟨bm, VW, T, hs, hF⟩ := h
  have C := fbsays (FsS.bx hs)
  simp only [cellsSay, fsc, Nat.reduceAdd, and_true] at C
  have look := (FsS.map hs).look n hn
  rw [findM_T, hF.gone hat] at look
  simp only [Option.map_none, ptrV] at look
  clear hs hF hat
  go_enter Tryz.func9, Tryz.ntmps9
  go_wp2_with fail
  go_ret
  exact ⟨rfl, rfl⟩

set_option maxHeartbeats 4000000 in
theorem append_rest {B q room : Nat} {w0 w : World} {ts : List Kt} {d : Fd} (n : Nm) (hn : n.length ≤ maxLen) (A : Option Addr) (c : Nat) (b : List UInt8) (h : FsI B w0 w q room ts d) {x : List UInt8} (hat : atF d.F n = some x) (hb6 : b.length ≤ 1000000) (hr : room ≤ 1048576) (hA : ∀ W d', FsI B w0 W q room ts d' → Bs W A b) (hl : d.lf ≤ 1000000) (hu : usedD d + b.length ≤ 200000) (hpl : d.P.length < 1000000) :
    Calls Tryz.prog 9 #[.pointer (some ⟨q, 0, none⟩), .string ⟨n.toArray⟩, .slice A b.length c] w fun e w' => e = .returned (.int .u16 ((appendD room d n b).1 : Nat)) ∧ FsI B w0 w' q room ts (appendD room d n b).2 := by
  have hmx : Tryz.prog.follows .mixedOrders = true := by kernel_rfl
  have h0 := h
  have HU := Lib.hid (fun (W : World) (h : FsI B w0 W q room ts d) => used_any h)
  obtain ⟨bm, VW, T, hs, hF⟩ := h
  obtain ⟨i, t, hi, hf, htn, -⟩ := hF.there hat
  have C := fbsays (FsS.bx hs)
  simp only [cellsSay, fsc, Nat.reduceAdd, and_true] at C
  have look := (FsS.map hs).look n hn
  rw [findM_T, hf] at look
  simp only [Option.map_some, ptrV] at look
  obtain ⟨g, hg⟩ : ∃ g, g = t.g := ⟨_, rfl⟩
  rw [← hg] at look
  obtain ⟨nb, hnb⟩ : ∃ nb, nb = b.length := ⟨_, rfl⟩
  rw [← hnb] at hu hb6 ⊢
  obtain ⟨u, hue⟩ : ∃ u, u = usedD d := ⟨_, rfl⟩
  rw [← hue] at hu HU
  have hw : wrap64 ((room : Int) - (u : Int)) = (room : Int) - (u : Int) := by unfold wrap64; omega
  have hq := (FsS.bx hs).lt
  have hc0 : w.cell? ⟨q, 0, none⟩ = some (.int .i64 (room : Nat)) := C.1
  have H0 := Lib.hid (And.intro h0 (And.intro hat (And.intro hA (And.intro hnb (And.intro hue (And.intro hg (And.intro htn (And.intro hq (And.intro hs (And.intro hF hi))))))))))
  clear hs hF h0 hat hA hi hf htn hnb hue hg hq
  go_enter Tryz.func9, Tryz.ntmps9
  go_upto_region 4 with fail
  obtain ⟨I, hI⟩ : ∃ I : Rec → World → Prop, ∀ E W, I E W ↔ Below w.heap.size w W := ⟨fun _ W => Below w.heap.size w W, fun _ _ => Iff.rfl⟩
  have hI0 : I (fun _ => none) w.drew := (hI _ _).2 (Below.refl w.heap.size w).drew
  haveI : Nonempty (InvW I) := ⟨⟨_, _, hI0⟩⟩
  have e0 : ∀ x : InvW I, x.W.cell? ⟨q, 0, none⟩ = some (.int .i64 (room : Nat)) := fun x => (((hI _ _).1 x.h).cell H0.out.2.2.2.2.2.2.2.1).trans hc0
  have HI := Lib.hid hI
  clear hI C look hc0
  refine wp_region_inv I [] [3, 7] (fun k v => if k = 3 then v = .pointer (some ⟨q, 0, none⟩) else v = .int .i64 (u : Nat)) hmx (by kernel_rfl) hI0 ?_
  iterate 3 (refine walkJ_one rfl (by kernel_rfl) ?_; go_big_quiet_step (fail); refine wpQuiet_nil ?_)
  refine walkJ_turn rfl rfl ⟨_, rfl⟩ (fun s W1 hs h7 _ => ?_) ?_
  · exact inv_val (W' := W1) (v := .pointer (some ⟨q, 0, none⟩)) (by simp [execOp, go_sem]) ⟨rfl, (HI.out _ _).2 ((HI.out _ _).1 hs)⟩
  rintro v rfl
  conv => arg 11; simp [Act.put]
  iterate 3 (refine walkJ_one rfl (by kernel_rfl) ?_; go_big_quiet_step (fail); refine wpQuiet_nil ?_)
  refine walkJ_turn rfl rfl ⟨_, rfl⟩ (fun s W1 hs h7 _ => ?_) ?_
  · have hb := (HI.out _ _).1 hs
    refine inv_call (by simp [execOp, go_sem]) ((HU.out W1 (H0.out.1.go hb)).mono ?_)
    rintro e w1 ⟨rfl, k⟩
    exact ⟨_, rfl, rfl, (HI.out _ _).2 (on1 hb k)⟩
  rintro v rfl
  conv => arg 11; simp [Act.put]
  iterate 3 (refine walkJ_one rfl (by kernel_rfl) ?_; go_big_quiet_step (fail); refine wpQuiet_nil ?_)
  refine walkJ_end ?_
  intro W4 hW4
  have HB4 := Lib.hid ((HI.out _ _).1 hW4)
  clear e0 hI0 hW4 HI HU this
  by_cases hfull : (room : Int) < (u : Int) + (nb : Int)
  · have df : decide ((room : Int) - (u : Int) < (nb : Int)) = true := decide_eq_true (by omega)
    have dfp : (room : Int) - (u : Int) < (nb : Int) := by omega
    have HE := Lib.hid (show appendD room d n b = (82, d) by
      unfold appendD
      rw [H0.out.2.1, if_neg (by simp), if_pos (by rw [← H0.out.2.2.2.1, ← H0.out.2.2.2.2.1]; exact hfull)])
    go_wp2_with fail
    go_ret
    rw [HE.out]
    exact ⟨rfl, H0.out.1.go HB4.out⟩
  · have df : decide ((room : Int) - (u : Int) < (nb : Int)) = false := decide_eq_false (by omega)
    have dfp : ¬ (room : Int) - (u : Int) < (nb : Int) := by omega
    by_cases hb0 : nb = 0
    · have d0 : decide ((0 : Int) < (nb : Int)) = false := decide_eq_false (by omega)
      have d0p : ¬ (0 : Int) < (nb : Int) := by omega
      have HE := Lib.hid (show appendD room d n b = (0, d) by
        unfold appendD
        rw [H0.out.2.1, if_neg (by simp), if_neg (by rw [← H0.out.2.2.2.1, ← H0.out.2.2.2.2.1]; exact hfull), if_pos (List.eq_nil_of_length_eq_zero (by rw [← H0.out.2.2.2.1]; exact hb0))])
      clear hfull hb0
      go_wp2_with fail
      go_ret
      rw [HE.out]
      exact ⟨rfl, H0.out.1.go HB4.out⟩
    · have d0 : decide ((0 : Int) < (nb : Int)) = true := decide_eq_true (by omega)
      have d0p : (0 : Int) < (nb : Int) := by omega
      have HR := Lib.hid (runs_S (Sep.go H0.out.2.2.2.2.2.2.2.2.1 HB4.out) hl)
      obtain ⟨r, hr⟩ : ∃ r, r = runsD d := ⟨_, rfl⟩
      have hrF : r.2.F = d.F ∧ r.2.P = d.P := by rw [hr]; unfold runsD; split <;> (try split) <;> exact ⟨rfl, rfl⟩
      have he : appendD room d n b = (0, if r.1 = true then { r.2 with P := r.2.P ++ [(n, b)] } else r.2) := by
        unfold appendD
        rw [H0.out.2.1, if_neg (by simp), if_neg (by rw [← H0.out.2.2.2.1, ← H0.out.2.2.2.2.1]; exact hfull), if_neg (fun e => hb0 (by rw [H0.out.2.2.2.1, e]; rfl)), hr]
      rw [← hr] at HR
      clear hr
      obtain ⟨rb, rd⟩ := r
      have HRF : Hid (rd.F = d.F ∧ rd.P = d.P) := Lib.hid hrF
      have HE : Hid (appendD room d n b = (0, if rb = true then { rd with P := rd.P ++ [(n, b)] } else rd)) := Lib.hid he
      have HR : Hid (Calls Tryz.prog 20 #[.pointer (some ⟨q, 0, none⟩)] W4 fun e w' => e = .returned (.bool rb) ∧ FsS B w0 w' q room ts rd bm VW T) := HR
      clear hrF he hfull hb0
      go_wp2_with fail
      refine HR.out.mono ?_
      rintro e w1 ⟨rfl, h1⟩
      clear HR
      obtain ⟨hs4, hF4, hi4⟩ := H0.out.2.2.2.2.2.2.2.2
      have hF1 := hF4.same HRF.out.1 HRF.out.2
      have HT := Lib.hid (And.intro hF1 hi4)
      clear hs4 hF4 hi4
      cases rb with
      | false =>
        have H1 := Lib.hid h1
        clear h1
        go_wp2_with fail
        go_ret
        rw [HE.out]
        exact ⟨rfl, bm, VW, T, H1.out, HT.out.1⟩
      | true =>
        have htm := List.mem_of_getElem? HT.out.2
        obtain ⟨f1, f2, f3⟩ := FsS.file h1 htm
        have Cf := fbsays f1
        simp only [cellsSay, Ft.cs, Ft.v, Nat.reduceAdd, and_true] at Cf
        rw [← H0.out.2.2.2.2.2.1] at Cf
        obtain ⟨nt, hnt⟩ : ∃ nt, nt = t.b.length := ⟨_, rfl⟩
        have hblen := hF1.blen htm
        rw [← hnt] at Cf hblen
        have hAw := H0.out.2.2.1 w1 rd ⟨bm, VW, T, h1, hF1⟩
        obtain ⟨ad, rfl⟩ : ∃ ad, A = some ad := by
          obtain ⟨y, hy⟩ : ∃ y, b[0]? = some y := ⟨_, List.getElem?_eq_getElem (by have := H0.out.2.2.2.1; omega)⟩
          obtain ⟨p, o, h9, -⟩ := hAw 0 y hy
          exact ⟨_, h9⟩
        have hbn := H0.out.2.2.2.1
        have hgt := H0.out.2.2.2.2.2.1
        have kf : ∀ (w2 : World), w1.grownBy w2 t.v.ownBlock → Blk w2 g 69 t.cs := fun w2 hg2 => by
          rw [hgt]
          exact (hg2.block t.g f1.lt (fun e => f3 e.symm)).trans f1
        have HK := Lib.hid (And.intro hbn (And.intro hgt (And.intro hnt (And.intro f1 (And.intro f2 (And.intro f3 (And.intro hAw (And.intro h1 kf))))))))
        obtain ⟨n2, hn2⟩ : ∃ n2, n2 = (t.b ++ b).length := ⟨_, rfl⟩
        have Hn2 := Lib.hid hn2
        clear hF1 htm f1 f2 f3 hnt hAw hbn hgt h1 kf hn2
        go_upto_region 9 with (at_builtin; go_must (refine appAllF _ rfl (.tmp 45) (.tmp 46) rfl t.v t.b (by rw [show t.v = .slice t.A nt t.c by rw [HK.out.2.2.1]; rfl]; rfl) HK.out.2.2.2.2.1 ad c b (by rw [← HK.out.1]; rfl) HK.out.2.2.2.2.2.2.1 (by rw [← HK.out.1]; omega) (by rw [← HK.out.1, ← HK.out.2.2.1]; omega) n2 Hn2.out ?_); intro A2 c2 w2 hown2 hg2 hl2; have Cf2 := fbsays (HK.out.2.2.2.2.2.2.2.2 w2 hg2); simp only [cellsSay, Ft.cs, Nat.reduceAdd, and_true] at Cf2)
        obtain ⟨k1, k2, k3, k4, k5, k6, k7, k8, k9⟩ := HK.out
        obtain ⟨hFi, hi⟩ := HT.out
        obtain ⟨t', ht'⟩ : ∃ t' : Ft, t' = ⟨t.nm, t.b ++ b, t.su, t.g, A2, c2⟩ := ⟨_, rfl⟩
        have hv' : t'.v = .slice A2 n2 c2 := by rw [ht', Hn2.out]; rfl
        have hne' : t'.v.ownBlock ≠ some t.g := fun e => by
          rw [hv'] at e
          rcases hl2 t.g e with h9 | h9
          · exact k6 h9
          · have := k4.lt; omega
        generalize hW3 : World.setCell _ _ _ = w3
        have hW3' : sets w2 t.g [(0, t'.v)] = w3 := by rw [← hW3, hv', k2]; rfl
        have hB3 : Blk w3 t.g 69 t'.cs := by
          have hb2 := k9 w2 hg2
          rw [k2] at hb2
          have := Blk.sets [(0, t'.v)] hb2
          rw [hW3'] at this
          have e : t'.cs = (setsL t.cs.toList [(0, t'.v)]).toArray := by rw [ht']; rfl
          rw [e]
          exact this
        have tt23 : Tou (fun k => k = t.g) w2 w3 := by rw [← hW3']; exact Tou.set t.g 0 _ rfl
        have t3 : Tou (thF t).F w1 w3 := (Tou.of_grown (F := (thF t).F) hg2 (fun k e => .inr e)).trans (tt23.mono (fun k _ e => .inl e) : Tou (thF t).F w2 w3) (fun j _ h => h)
        have p3 : (thF t').P w3 := by
          refine ⟨?_, ?_, ?_⟩
          · rw [show t'.g = t.g by rw [ht']]; exact hB3
          · rw [hv', show t'.b = t.b ++ b by rw [ht']]
            exact OwnF.kept hown2 tt23 (fun k hk e => by subst e; exact hne' (by rw [hv']; exact hk))
          · rw [show t'.g = t.g by rw [ht']]; exact hne'
        have n3 : ∀ k, (thF t').F k → (thF t).F k ∨ w1.heap.size ≤ k := fun k hk => by
          rcases hk with hk | hk
          · left; left; rw [hk, ht']
          · rw [hv'] at hk
            rcases hl2 k hk with h9 | h9
            · exact .inl (.inr h9)
            · exact .inr h9
        have S3 := FsS.app (w6 := w1) (w7 := w1) (VW2 := VW) k8 hi (by rw [ht']) (by rw [ht']) t3 p3 n3
        have C3 := fbsays (S3.blk 0)
        have Cf3 := fbsays hB3
        rw [← k2] at Cf3
        simp only [cellsSay, fsc, Ft.cs, hv', Nat.reduceAdd, and_true] at C3 Cf3
        obtain ⟨L, hL⟩ : ∃ L, L = pcL T rd.P := ⟨_, rfl⟩
        rw [← hL] at S3
        have hrow : OwnR w3 0 72 encPc 3 VW L := S3.at_ (t := thP VW L) 2 rfl
        have hLl : L.length ≤ 1000000 := by rw [hL]; unfold pcL; rw [List.length_map, spans_len, HRF.out.2]; omega
        have hvq : VW.ownBlock ≠ some q := fun e => S3.apart (i := 0) (j := 2) rfl rfl (by decide) q rfl e
        have HX := Lib.hid (And.intro S3 (And.intro hrow (And.intro hL (And.intro hvq (And.intro Hn2.out (And.intro ht' hg2))))))
        have hBq : Blk w3 q 67 (fsc room bm VW rd) := S3.blk 0
        have HQ := Lib.hid hBq
        have HR1 := Lib.hid (hrow.alloc (.cells #[.pointer (some ⟨g, 0, none⟩), .int .i64 (nt : Nat), .int .i64 (n2 : Nat)] 72))
        clear k1 k2 k3 k4 k5 k6 k7 k8 k9 hFi hi ht' hv' hne' hW3 hW3' hB3 tt23 t3 p3 n3 S3 hL hrow hvq hg2 hown2 hl2 Cf2 Cf hBq
        have kA := fun W => keepA W
        go_region_law (refine step_appR1L Tryz.eltPc _ rfl (.tmp 54) (.tmp 63) rfl 0 VW L (by simp [Act.eval, Act.put]) HR1.out w3.heap.size 1 ⟨g, nt, n2⟩ 72 #[.pointer (some ⟨g, 0, none⟩), .int .i64 (nt : Nat), .int .i64 (n2 : Nat)] (by simp [Act.eval, Act.put]) (Blk.new w3 _ _) rfl (by unfold maxLen; omega) (by omega) (Nat.zero_le _) (w3.heap.size + 1) (by simp) ?_; intro g5 c5 w5 hown5 hgr5 hor5 hlt5; have Cq5 := fbsays (show Blk w5 q 67 (fsc room bm VW rd) from (hgr5.block q (by have := HQ.out.lt; simp; omega) (fun e => HX.out.2.2.2.1 e.symm)).trans (HQ.out.alloc _)); simp only [cellsSay, fsc, Nat.reduceAdd, and_true] at Cq5)
        all_goals
          generalize hW7 : World.setCell _ _ _ = w7
          clear C3 Cf3 Cq5 kA
          have HW7 := Lib.hid (And.intro hW7 (And.intro hown5 (And.intro hgr5 (And.intro hor5 hlt5))))
          clear hW7 hown5 hgr5 hor5 hlt5
          go_wp2_with fail
          go_ret
          obtain ⟨hW7, hown5, hgr5, hor5, hlt5⟩ := HW7.out
          obtain ⟨S3, hrow, hL, hvq, hn2, ht', hg2⟩ := HX.out
          obtain ⟨hFi, hi⟩ := HT.out
          have hb8 : Below w3.heap.size w3 (w3.alloc (.cells #[.pointer (some ⟨g, 0, none⟩), .int .i64 (nt : Nat), .int .i64 (n2 : Nat)] 72)).drew := (below_alloc _ _).drew
          have t5 : Tou (thP VW L).F w3 w5 := (Tou.of_below hb8 : Tou (thP VW L).F _ _).trans (Tou.of_grown (F := (thP VW L).F) hgr5 (fun k e => e)) (fun j _ h => h)
          have S5 := S3.call (t' := thP (.slice (some ⟨g5, 0, none⟩) (L.length + 1) c5) (L ++ [⟨g, nt, n2⟩])) 2 rfl t5 (by
            show OwnR w5 0 _ _ _ _ _
            exact hown5) (fun k hk => by
            have hk : (Value.slice (some ⟨g5, 0, none⟩) (L.length + 1) c5).ownBlock = some k := hk
            have e2 : g5 = k := by simpa [Value.ownBlock] using hk
            subst e2
            rcases hor5 with h9 | h9
            · exact .inl h9
            · exact .inr (by rw [h9]; simp))
          have S7 := S5.put 0 q [(2, .slice (some ⟨g5, 0, none⟩) (L.length + 1) c5)] (fsc room bm (.slice (some ⟨g5, 0, none⟩) (L.length + 1) c5) { rd with P := rd.P ++ [(n, b)] }) hW7
          rw [HE.out]
          refine ⟨rfl, bm, .slice (some ⟨g5, 0, none⟩) (L.length + 1) c5, T.set i t', ?_, ?_⟩
          · have e : pcL (T.set i t') (rd.P ++ [(n, b)]) = L ++ [⟨g, nt, n2⟩] := by
              have := pcL_snoc hFi hi (t' := t') (by rw [ht']) (by rw [ht']) (by rw [ht']) b
              rw [H0.out.2.2.2.2.2.2.1] at this
              rw [this, hL, hn2, List.length_append, ← HK.out.2.1, ← HK.out.2.2.1]
            rw [show (if True then ({ rd with P := rd.P ++ [(n, b)] } : Fd) else rd).P = rd.P ++ [(n, b)] from rfl] 
            rw [e]
            exact S7
          · have := hFi.app hi (t' := t') (by rw [ht']) (by rw [ht']) b (by rw [ht']) (by
              have : usedD rd = usedD d := by unfold usedD; rw [HRF.out.1, HRF.out.2]
              rw [this, ← H0.out.2.2.2.2.1, ← H0.out.2.2.2.1]
              exact hu) (by rw [HRF.out.2]; exact hpl)
            rw [H0.out.2.2.2.2.2.2.1] at this
            exact this

end Go.Proofs.YtiogckgchlnldaaGreat
