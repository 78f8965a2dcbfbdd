/- Joined: Fs9, Fs10. -/
import Derived.Test.YtiogckgchlnldaaGreatQ14
import Derived.Test.YtiogckgchlnldaaGreatQ5
import Derived.Lib.SliceRun
import Derived.LaidEqlPtr
set_option linter.unusedSimpArgs false
set_option linter.unusedVariables false
/- Layer 8: slices.DeleteFunc with what forget hands it. -/
set_option linter.unusedSimpArgs false
set_option linter.unusedVariables false
namespace Go.Proofs.YtiogckgchlnldaaGreat
open Go.RowKit Go.Maps Go.ChangeMaps Go.MapKept Go.WideMaps
set_option maxRecDepth 100000

/-- the end of a row cleared -/
theorem run_clearR {P : Program} {α : Type} {t e : TypeId} {enc : α → List Value} {sz bytes : Nat} (E : Elt P t e enc sz bytes) (z : Value) (hv : ∀ w, (zeroValue e).run P w = .ok z w) (hz : z.cells.size = sz) (h1 : ∀ u ∈ z.cells.toList, u.oneCell' = true)
    (w : World) (base g n cap c2 : Nat) (ty : TypeId) (l : List α) (h : OwnR w base e enc sz (.slice (some ⟨g, 0, none⟩) n cap) l) (hn : n = l.length) (i : Nat) (hi : i < n) :
    ∃ w', (Builtin.clear_ #[t] ty #[.slice (some ⟨g, i * sz, none⟩) (n - i) c2]).run P w = .ok (.tuple #[]) w' ∧ OwnR w' base e enc sz (.slice (some ⟨g, 0, none⟩) i cap) (l.take i) ∧ w.grownBy w' (some g) := by
  subst hn
  obtain ⟨hl, hr⟩ := h
  rcases hr with ⟨e0, _⟩ | ⟨g', cap', cur, e0, hb, hg, hn, hm, hs, ht⟩
  · cases e0
  · injection e0 with e1 e2 e3
    injection e1 with e1
    injection e1 with e1 _ _
    subst e1; subst e3
    have hzl : (Builtin.zeroCells z.cells (l.length - i)).toList.length = (l.length - i) * sz := by rw [Array.length_toList, size_zeroCells, hz]
    have hsz : (l.length - i) * sz + i * sz = l.length * sz := by rw [← Nat.add_mul]; congr 1; omega
    have hcs : l.length * sz ≤ cur.size := by rw [hs]; exact Nat.mul_le_mul_right _ hn
    have hst := run_storeCells_at (P := P) g (i * sz) e (Builtin.zeroCells z.cells (l.length - i)).toList 0 cur w hg (by rw [hzl]; omega) (fun v hv => by
      rw [Array.mem_toList_iff] at hv
      unfold Builtin.zeroCells at hv
      obtain ⟨j, hj, rfl⟩ := Array.mem_map.1 hv
      have hpos : 0 < z.cells.size := by rw [hz]; exact E.pos
      rw [getElem!_pos z.cells _ (Nat.mod_lt _ hpos)]
      exact h1 _ (by simp))
    refine ⟨w.setRow g (cur.toList.take (i * sz + 0) ++ (Builtin.zeroCells z.cells (l.length - i)).toList ++ cur.toList.drop (i * sz + 0 + (Builtin.zeroCells z.cells (l.length - i)).toList.length)).toArray, ?_, ?_, ?_⟩
    rotate_left
    · have hli : (l.take i).length = i := by rw [List.length_take]; omega
      unfold OwnR
      rw [hli]
      refine ⟨?_, .inr ⟨g, cap, _, rfl, hb, setRow_heap w g cur _ e (0, 0) hg, by omega, hm, ?_, ?_⟩⟩
      · rw [flat_length enc sz E.len, hli]
      · show (cur.toList.take (i * sz + 0) ++ (Builtin.zeroCells z.cells (l.length - i)).toList ++ cur.toList.drop (i * sz + 0 + (Builtin.zeroCells z.cells (l.length - i)).toList.length)).toArray.size = cap * sz
        simp only [List.size_toArray, List.length_append, List.length_take, List.length_drop, hzl, Array.length_toList, Nat.add_zero]
        omega
      · show (cur.toList.take (i * sz + 0) ++ (Builtin.zeroCells z.cells (l.length - i)).toList ++ cur.toList.drop (i * sz + 0 + (Builtin.zeroCells z.cells (l.length - i)).toList.length)).toArray.toList.take (i * sz) = _
        simp only [List.toList_toArray, Nat.add_zero]
        rw [List.append_assoc, List.take_append_of_le_length (by rw [List.length_take, Array.length_toList]; omega), List.take_take, Nat.min_self]
        have h5 : cur.toList.take (i * sz) = (cur.toList.take (l.length * sz)).take (i * sz) := by rw [List.take_take, Nat.min_eq_left (by omega)]
        rw [h5, ht]
        conv => lhs; rw [← List.take_append_drop i l, List.flatMap_append]
        rw [List.take_append_of_le_length (by rw [flat_length enc sz E.len, hli]; exact Nat.le_refl _), List.take_of_length_le (by rw [flat_length enc sz E.len, hli]; exact Nat.le_refl _)]
    · exact ⟨rfl, rfl, rfl, by simp, fun k _ hk => setRow_other w g k _ (fun e => hk (by rw [e]))⟩
    · obtain ⟨m, hm2⟩ : ∃ m, l.length - i = m + 1 := ⟨l.length - i - 1, by omega⟩
      rw [hm2] at hst ⊢
      simp [Builtin.clear_, run_underlying E.under, hv, hst]

theorem take_set_snoc {α : Type} (L : List α) (i : Nat) (x : α) (hi : i < L.length) : (L.set i x).take (i + 1) = L.take i ++ [x] := by
  rw [List.take_succ_eq_append_getElem (by rw [List.length_set]; exact hi), List.take_set_of_le (Nat.le_refl _)]
  simp
theorem del_keep {l L : List Pc} {i j : Nat} {f : Pc → Bool} {x : Pc} (h1 : L.length = l.length) (hij : i < j) (hx : l[j]? = some x) (ht : L.take i = (l.take j).filter fun p => !f p) (hd : L.drop j = l.drop j) (hk : f x = false) :
    (L.set i x).take (i + 1) = ((l.take (j + 1)).filter fun p => !f p) ∧ (L.set i x).drop (j + 1) = l.drop (j + 1) := by
  obtain ⟨hj, hx⟩ := List.getElem?_eq_some_iff.1 hx
  constructor
  · rw [take_set_snoc _ _ _ (by omega), ht, List.take_succ_eq_append_getElem hj, List.filter_append, hx]
    simp [hk]
  · rw [List.drop_set_of_lt (by omega), ← List.drop_drop, hd, List.drop_drop]
theorem del_gone {l L : List Pc} {i j : Nat} {f : Pc → Bool} {x : Pc} (hx : l[j]? = some x) (ht : L.take i = (l.take j).filter fun p => !f p) (hd : L.drop j = l.drop j) (hk : f x = true) :
    L.take i = ((l.take (j + 1)).filter fun p => !f p) ∧ L.drop (j + 1) = l.drop (j + 1) := by
  obtain ⟨hj, hx⟩ := List.getElem?_eq_some_iff.1 hx
  constructor
  · rw [ht, List.take_succ_eq_append_getElem hj, List.filter_append, hx]
    simp [hk]
  · rw [← List.drop_drop, hd, List.drop_drop]

theorem OwnR.at0 {α : Type} {P : Program} {t e : TypeId} {enc : α → List Value} {sz bytes : Nat} (E : Elt P t e enc sz bytes) {w : World} {base g n cap : Nat} {l : List α} (h : OwnR w base e enc sz (.slice (some ⟨g, 0, none⟩) n cap) l) {i : Nat} {x : α} (hi : l[i]? = some x) (j : Nat) (v : Value) (hv : (enc x)[j]? = some v) : w.cell? ⟨g, i * sz + j, none⟩ = some v := by
  obtain ⟨A, c, hA, _, hr⟩ := OwnR.row E h
  injection hA with e1 _ _
  obtain ⟨p, o, hp, hc⟩ := hr i x hi
  rw [← e1] at hp
  injection hp with hp
  injection hp with e2 e3 _
  subst e2 e3
  have := hc j v hv
  rw [Nat.zero_add] at this
  exact this
theorem OwnR.unfrozen {α : Type} {w : World} {base g n c sz : Nat} {e : TypeId} {enc : α → List Value} {l : List α} (h : OwnR w base e enc sz (.slice (some ⟨g, 0, none⟩) n c) l) (i : Nat) : w.frozen? ⟨g, i, none⟩ = false := by
  rcases h.2 with ⟨hv, _⟩ | ⟨g', cap', cur, hv, h1, h2, _⟩
  · cases hv
  · injection hv with e1 _ _
    injection e1 with e1
    injection e1 with e1 _ _
    subst e1
    exact Blk.frozen (show Blk w g e cur from h2) i

def isF (w : World) (g : Nat) : Prop := ∃ cs, Blk w g 69 cs
theorem isF.below {w w' : World} {g : Nat} (h : isF w g) (b : Below w.heap.size w w') : isF w' g := by
  obtain ⟨cs, h⟩ := h
  exact ⟨cs, h.below b h.lt⟩
theorem Tryz.sizeF : (Tryz.prog.info? 69).map (·.size) = some 2 := by kernel_rfl
theorem eqF (g gf : Nat) (w : World) (h1 : isF w g) (h2 : isF w gf) : (binOp .eql 61 (.pointer (some ⟨g, 0, none⟩)) (.pointer (some ⟨gf, 0, none⟩))).run Tryz.prog w = .ok (.bool (decide (g = gf))) w := by
  obtain ⟨j, hj, hjs⟩ := Option.map_eq_some_iff.1 Tryz.sizeF
  by_cases h : g = gf
  · subst h
    rw [decide_eq_true rfl]
    exact run_eql_ptr_same w _ Tryz.underlying61 hj
  · obtain ⟨c1, h1⟩ := h1
    obtain ⟨c2, h2⟩ := h2
    rw [decide_eq_false h]
    exact run_eql_ptr_other w Tryz.underlying61 hj (by rw [hjs]; decide) (fun e => h (by injection e)) h1 h2
theorem fg1_any (p : Pc) (q1 gf : Nat) (w : World) (hq : Blk w q1 61 #[.pointer (some ⟨gf, 0, none⟩)]) (h1 : isF w p.g) (h2 : isF w gf) :
    Calls Tryz.prog 74 #[.agg #[.pointer (some ⟨p.g, 0, none⟩), .int .i64 (p.fr : Nat), .int .i64 (p.to_ : Nat)], .pointer (some ⟨q1, 0, none⟩)] w fun e w' => e = .returned (.bool (decide (p.g = gf))) ∧ Below w.heap.size w w' := by
  have C := fbsays hq
  simp only [cellsSay, Nat.reduceAdd, and_true] at C
  have hba := below_alloc w (.cells #[.pointer (some ⟨p.g, 0, none⟩), .int .i64 (p.fr : Nat), .int .i64 (p.to_ : Nat)] 72)
  have hE := eqF p.g gf _ (h1.below hba) (h2.below hba)
  have HB := Lib.hid hba
  have Cq := fbsays (hq.alloc (.cells #[.pointer (some ⟨p.g, 0, none⟩), .int .i64 (p.fr : Nat), .int .i64 (p.to_ : Nat)] 72))
  simp only [cellsSay, Nat.reduceAdd, and_true] at Cq
  obtain ⟨bb, hbb⟩ : ∃ bb, bb = decide (p.g = gf) := ⟨_, rfl⟩
  rw [← hbb] at hE ⊢
  clear hq h1 h2 hba hbb
  go_enter Tryz.func74, Tryz.ntmps74
  go_wp2_with fail
  go_ret
  exact ⟨rfl, HB.out⟩

def fgV (q1 : Nat) : Value := .func (.func 74) #[] #[.pointer (some ⟨q1, 0, none⟩)]
set_option maxHeartbeats 4000000 in
theorem idxF_any (A : Option Addr) (c n : Nat) (L : List Pc) (q1 gf : Nat) (w : World) (hL : n = L.length) (hn : n ≤ 1000000) (hr : Rw w encPc 3 A L) (hq : Blk w q1 61 #[.pointer (some ⟨gf, 0, none⟩)]) (h1 : ∀ p ∈ L, isF w p.g) (h2 : isF w gf) :
    Calls Tryz.prog 82 #[.slice A n c, fgV q1] w fun e w' => Below w.heap.size w w' ∧ ((e = .returned (.int .i64 (-1)) ∧ ∀ p ∈ L, p.g ≠ gf) ∨ ∃ i : Nat, e = .returned (.int .i64 (i : Nat)) ∧ i < n ∧ (∀ p, L[i]? = some p → p.g = gf) ∧ ∀ p ∈ L.take i, p.g ≠ gf) := by
  have HH := Lib.hid (And.intro hL (And.intro hr (And.intro hq (And.intro h1 h2))))
  unfold fgV
  clear hL hr hq h1 h2
  go_enter Tryz.func82, Tryz.ntmps82
  go_wp2_with fail
  go_loopw [8] (fun s wr => ∃ k : Nat, k ≤ n ∧ s = .int .i64 k ∧ Hid (Below w.heap.size w wr ∧ ∀ p ∈ L.take k, p.g ≠ gf)) (fun s _ => n - (intOf s).toNat)
  case atStart => exact ⟨0, Nat.zero_le _, rfl, Lib.hid ⟨Below.refl _ _, fun p hp => by simp at hp⟩⟩
  case round =>
    obtain ⟨k, hk, rfl, HR⟩ := hrel
    by_cases hlt : k < n
    · obtain ⟨p, hp⟩ : ∃ p, L[k]? = some p := ⟨_, List.getElem?_eq_getElem (by rw [← HH.out.1]; exact hlt)⟩
      have hpm := List.mem_of_getElem? hp
      obtain ⟨pb, po, rfl, hc⟩ := (HH.out.2.1.below HR.out.1 (Nat.le_refl _)) k p hp
      have c0 := hc 0 _ rfl
      have c1 := hc 1 _ rfl
      have c2 := hc 2 _ rfl
      simp only [Nat.add_zero] at c0
      have HC := Lib.hid (fg1_any p q1 gf wr (HH.out.2.2.1.below HR.out.1 HH.out.2.2.1.lt) ((HH.out.2.2.2.1 p hpm).below HR.out.1) (HH.out.2.2.2.2.below HR.out.1))
      have hkl : (k : Int) < (n : Int) := by omega
      have hk0 : (0 : Int) ≤ (k : Int) := by omega
      have HP := Lib.hid hp
      clear hp hpm hc
      go_wp2_with fail
      refine HC.out.mono ?_
      rintro e w2 ⟨rfl, b2⟩
      have HB := Lib.hid (on1 HR.out.1 b2)
      clear b2 HC c0 c1 c2
      by_cases hg : p.g = gf
      · rw [decide_eq_true hg]
        have HG := Lib.hid hg
        clear hg
        go_wp2_with fail
        go_ret
        exact ⟨HB.out, .inr ⟨k, rfl, hlt, fun p' hp' => by rw [HP.out] at hp'; injection hp' with hp'; rw [← hp']; exact HG.out, HR.out.2⟩⟩
      · rw [decide_eq_false hg]
        have HG := Lib.hid hg
        clear hg
        go_wp2_with fail
        go_roundw
        case measure => simp [intOf]; omega
        case rel => exact ⟨k + 1, by omega, by go_num, Lib.hid ⟨HB.out, fun p' hp' => by
          rw [List.take_add_one, HP.out, List.mem_append] at hp'
          rcases hp' with hp' | hp'
          · exact HR.out.2 p' hp'
          · have : p' = p := by simpa using hp'
            rw [this]; exact HG.out⟩⟩
    · obtain rfl : k = n := by omega
      have hkk : ¬ ((k : Int) < (k : Int)) := by omega
      go_wp2_with fail
      go_ret
      exact ⟨HR.out.1, .inl ⟨rfl, fun p hp => HR.out.2 p (by rw [List.take_of_length_le (Nat.le_of_eq HH.out.1.symm)]; exact hp)⟩⟩

end Go.Proofs.YtiogckgchlnldaaGreat

/- Layer 8: slices.DeleteFunc, forget. -/
set_option linter.unusedSimpArgs false
set_option linter.unusedVariables false
namespace Go.Proofs.YtiogckgchlnldaaGreat
open Go.RowKit Go.Maps Go.ChangeMaps Go.MapKept Go.WideMaps
set_option maxRecDepth 100000

theorem row_blk {w : World} {g n c : Nat} {L : List Pc} (h : OwnR w 0 72 encPc 3 (.slice (some ⟨g, 0, none⟩) n c) L) : ∃ cs, Blk w g 72 cs := by
  rcases h.2 with ⟨hv, _⟩ | ⟨g', cap', cur, hv, h1, h2, _⟩
  · cases hv
  · injection hv with e1 _ _
    injection e1 with e1
    injection e1 with e1 _ _
    subst e1
    exact ⟨cur, h2⟩
theorem blk_type {w : World} {g : Nat} {t t' : TypeId} {cs cs' : Array Value} (h : Blk w g t cs) (h' : Blk w g t' cs') : t = t' := by
  have := h.symm.trans h'
  injection this with this
  injection this
theorem isF.kept {w w' : World} {F : Nat → Prop} {g : Nat} (h : isF w g) (t : Tou F w w') (hg : ¬ F g) : isF w' g := by
  obtain ⟨cs, h⟩ := h
  exact ⟨cs, t.blk h hg⟩
def goneP (gf : Nat) (p : Pc) : Bool := decide (p.g = gf)

set_option maxHeartbeats 8000000 in
theorem delF_some (P c n : Nat) (L : List Pc) (q1 gf : Nat) (w : World) (hL : n = L.length) (hn : n ≤ 1000000) (hr : OwnR w 0 72 encPc 3 (.slice (some ⟨P, 0, none⟩) n c) L) (hq : Blk w q1 61 #[.pointer (some ⟨gf, 0, none⟩)]) (h1 : ∀ p ∈ L, isF w p.g) (h2 : isF w gf) :
    Calls Tryz.prog 73 #[.slice (some ⟨P, 0, none⟩) n c, fgV q1] w fun e w' => ∃ m : Nat, e = .returned (.slice (some ⟨P, 0, none⟩) m c) ∧ Hid (m = (L.filter fun p => !goneP gf p).length ∧ OwnR w' 0 72 encPc 3 (.slice (some ⟨P, 0, none⟩) m c) (L.filter fun p => !goneP gf p) ∧ Tou (fun k => k = P) w w') := by
  have hrr : Rw w encPc 3 (some ⟨P, 0, none⟩) L := by
    obtain ⟨A0, c0, hv, -, h⟩ := OwnR.row Tryz.eltPc hr
    injection hv with e1 _ _
    rw [e1]; exact h
  have hcn : n ≤ c := by
    obtain ⟨A0, c0, hv, hle, h⟩ := OwnR.row Tryz.eltPc hr
    injection hv with _ e2 e3
    omega
  have HC := Lib.hid (idxF_any (some ⟨P, 0, none⟩) c n L q1 gf w hL hn hrr hq h1 h2)
  obtain ⟨cP, hcP⟩ := row_blk hr
  have hPq : P ≠ q1 := fun e => by subst e; exact absurd (blk_type hcP hq) (by decide)
  have hPg : ∀ g, isF w g → g ≠ P := fun g hg e => by
    subst e
    obtain ⟨cs, hg⟩ := hg
    exact absurd (blk_type hcP hg) (by decide)
  have HH := Lib.hid (And.intro hL (And.intro hr (And.intro hq (And.intro h1 (And.intro h2 (And.intro hPq hPg))))))
  unfold fgV at HC ⊢
  have hPlt := hcP.lt
  clear hrr hL hr hq h1 h2 hcP hPq hPg
  go_enter Tryz.func73, Tryz.ntmps73
  go_wp2_with fail
  refine HC.out.mono ?_
  rintro e w1 ⟨b1, h1⟩
  have HB1 := Lib.hid b1
  clear b1 HC
  rcases h1 with ⟨rfl, hno⟩ | ⟨i0, rfl, hi0, hyes, hno⟩
  · have HN := Lib.hid hno
    clear hno
    go_wp2_with fail
    go_ret
    have hfil : (L.filter fun p => !goneP gf p) = L := List.filter_eq_self.2 fun p hp => by
      unfold goneP
      rw [decide_eq_false (HN.out p hp)]; rfl
    refine ⟨n, rfl, Lib.hid ⟨by rw [hfil]; exact HH.out.1, by rw [hfil]; exact OwnR.below HH.out.2.1 HB1.out, Tou.of_below HB1.out⟩⟩
  · obtain ⟨x0, hx0⟩ : ∃ x, L[i0]? = some x := ⟨_, List.getElem?_eq_getElem (by rw [← HH.out.1]; exact hi0)⟩
    have hfil : (L.take i0).filter (fun p => !goneP gf p) = L.take i0 := List.filter_eq_self.2 fun q hq => by
      unfold goneP
      rw [decide_eq_false (hno q hq)]; rfl
    have H1 := Lib.hid (del_gone (L := L) (f := goneP gf) hx0 hfil.symm rfl (decide_eq_true (hyes x0 hx0)))
    have hne : ((i0 : Int) == -1) = false := beq_eq_false_iff_ne.2 (by omega)
    clear hx0 hfil hyes hno
    go_wp2_with fail
    go_loopw [5, 6] (fun s5 s6 wr => ∃ (i j : Nat) (X : List Pc), i < j ∧ j ≤ n ∧ s5 = .int .i64 i ∧ s6 = .int .i64 j ∧ Hid (X.length = n ∧ X.take i = ((L.take j).filter fun p => !goneP gf p) ∧ X.drop j = L.drop j ∧ OwnR wr 0 72 encPc 3 (.slice (some ⟨P, 0, none⟩) n c) X ∧ Tou (fun k => k = P) w wr)) (fun _ j _ => n - (intOf j).toNat)
    case atStart => exact ⟨i0, i0 + 1, L, by omega, by omega, rfl, by go_num, Lib.hid ⟨HH.out.1.symm, H1.out.1, rfl, OwnR.below HH.out.2.1 HB1.out, Tou.of_below HB1.out⟩⟩
    case round =>
      obtain ⟨i, j, X, hij, hj, rfl, rfl, HR⟩ := hrel
      clear H1
      by_cases hlt : j < n
      · obtain ⟨hXl, hXt, hXd, hrow, ht⟩ := HR.out
        obtain ⟨x, hx⟩ : ∃ x, L[j]? = some x := ⟨_, List.getElem?_eq_getElem (by rw [← HH.out.1]; exact hlt)⟩
        have hXx : X[j]? = some x := by
          have := congrArg List.head? hXd
          simpa [List.head?_drop, hx] using this
        have c0 := OwnR.at0 Tryz.eltPc hrow hXx 0 _ rfl
        have c1 := OwnR.at0 Tryz.eltPc hrow hXx 1 _ rfl
        have c2 := OwnR.at0 Tryz.eltPc hrow hXx 2 _ rfl
        simp only [Nat.add_zero] at c0
        have hxm := List.mem_of_getElem? hx
        have hba := below_alloc wr (.cells #[.pointer (some ⟨x.g, 0, none⟩), .int .i64 (x.fr : Nat), .int .i64 (x.to_ : Nat)] 72)
        have hqr : Blk wr q1 61 #[.pointer (some ⟨gf, 0, none⟩)] := ht.blk HH.out.2.2.1 (fun e => HH.out.2.2.2.2.2.1 e.symm)
        have hgx : isF wr x.g := (HH.out.2.2.2.1 x hxm).kept ht (HH.out.2.2.2.2.2.2 _ (HH.out.2.2.2.1 x hxm))
        have hgg : isF wr gf := HH.out.2.2.2.2.1.kept ht (HH.out.2.2.2.2.2.2 _ HH.out.2.2.2.2.1)
        have HC := Lib.hid (fg1_any x q1 gf _ (hqr.below hba hqr.lt) (hgx.below hba) (hgg.below hba))
        have HX := Lib.hid (And.intro hx (And.intro hba (And.intro hxm (Blk.new wr 72 #[.pointer (some ⟨x.g, 0, none⟩), .int .i64 (x.fr : Nat), .int .i64 (x.to_ : Nat)]))))
        have hPr : P < wr.heap.size := Nat.lt_of_lt_of_le hPlt ht.size
        have hjl : (j : Int) < (n : Int) := by omega
        have hj0 : (0 : Int) ≤ (j : Int) := by omega
        clear hXl hXt hXd hrow ht hx hXx hxm hba hqr hgx hgg
        go_wp2_with fail
        refine HC.out.mono ?_
        rintro e w3 ⟨rfl, b3⟩
        have HB3 := Lib.hid b3
        clear b3 HC c0 c1 c2
        by_cases hg : x.g = gf
        · rw [decide_eq_true hg]
          have HG := Lib.hid hg
          clear hg
          go_wp2_with fail
          go_roundw
          case measure => simp [intOf]; omega
          case rel =>
            obtain ⟨hXl, hXt, hXd, hrow, ht⟩ := HR.out
            have hb := on1 HX.out.2.1 HB3.out
            have hd := del_gone (f := goneP gf) HX.out.1 hXt hXd (decide_eq_true HG.out)
            exact ⟨i, j + 1, X, by omega, by omega, rfl, by go_num, Lib.hid ⟨hXl, hd.1, hd.2, OwnR.below hrow hb, ht.go hb⟩⟩
        · rw [decide_eq_false hg]
          have HG := Lib.hid hg
          obtain ⟨hXl, hXt, hXd, hrow, ht⟩ := HR.out
          have hb := on1 HX.out.2.1 HB3.out
          have hrow3 := OwnR.below hrow hb
          have hbx : Blk w3 wr.heap.size 72 #[.pointer (some ⟨x.g, 0, none⟩), .int .i64 (x.fr : Nat), .int .i64 (x.to_ : Nat)] := HX.out.2.2.2.below HB3.out (by simp)
          have C3 := fbsays hbx
          simp only [cellsSay, Nat.reduceAdd, and_true] at C3
          obtain ⟨y, hy⟩ : ∃ y, X[i]? = some y := ⟨_, List.getElem?_eq_getElem (by omega)⟩
          have d0 := OwnR.at0 Tryz.eltPc hrow3 hy 0 _ rfl
          have d1 := OwnR.at0 Tryz.eltPc hrow3 hy 1 _ rfl
          have d2 := OwnR.at0 Tryz.eltPc hrow3 hy 2 _ rfl
          simp only [Nat.add_zero] at d0
          have f0 := OwnR.unfrozen hrow3 (i * 3)
          have f1 := OwnR.unfrozen hrow3 (i * 3 + 1)
          have f2 := OwnR.unfrozen hrow3 (i * 3 + 2)
          have hil : (i : Int) < (n : Int) := by omega
          have hi0' : (0 : Int) ≤ (i : Int) := by omega
          have hxP : wr.heap.size ≠ P := by omega
          have HR3 := Lib.hid (And.intro hrow3 hb)
          clear hg hXl hXt hXd hrow ht hb hrow3 hbx hy
          go_wp2_with fail
          go_roundw
          case measure => simp [intOf]; omega
          case rel =>
            obtain ⟨hXl, hXt, hXd, hrow, ht⟩ := HR.out
            obtain ⟨hrow3, hb⟩ := HR3.out
            have hd := del_keep (f := goneP gf) (by rw [hXl]; exact HH.out.1) hij HX.out.1 hXt hXd (decide_eq_false HG.out)
            have hst := OwnR.stored Tryz.eltPc hrow3 hXl.symm i x (by omega)
            have hgr := grown_setsAt P (i * 3) (encPc x).zipIdx w3
            exact ⟨i + 1, j + 1, X.set i x, by omega, by omega, by go_num, by go_num, Lib.hid ⟨by rw [List.length_set]; exact hXl, hd.1, hd.2, hst, (ht.go hb).trans (G := fun k => k = P) (Tou.of_grown hgr (fun k e => by injection e with e; exact e.symm)) (fun _ _ h => h)⟩⟩
      · obtain rfl : j = n := by omega
        have hjj : ¬ ((j : Int) < (j : Int)) := by omega
        obtain ⟨hXl, hXt, hXd, hrow, ht⟩ := HR.out
        rw [List.take_of_length_le (Nat.le_of_eq HH.out.1.symm)] at hXt
        have hfl : i = (L.filter fun p => !goneP gf p).length := by rw [← hXt, List.length_take]; omega
        have hzv : ∀ w, (zeroValue 72).run Tryz.prog w = .ok (.agg #[.pointer none, .int .i64 0, .int .i64 0]) w := Tryz.zeroValue72
        obtain ⟨w5, hrun, hown5, hgr5⟩ := run_clearR Tryz.eltPc _ hzv rfl (by decide) wr 0 P j c (c - i) 0 X hrow hXl.symm i hij
        rw [hXt] at hown5
        have HE := Lib.hid (And.intro hfl (And.intro hown5 (ht.trans (G := fun k => k = P) (Tou.of_grown hgr5 (fun k e => by injection e with e; exact e.symm)) (fun _ _ h => h))))
        have hic : i < c := by omega
        have hicI : (i : Int) ≤ (j : Int) := by omega
        clear hXl hXt hXd hrow ht hfl hzv hown5 hgr5 HR
        go_wp2_with fail
        go_ret
        exact ⟨i, rfl, HE⟩

end Go.Proofs.YtiogckgchlnldaaGreat
