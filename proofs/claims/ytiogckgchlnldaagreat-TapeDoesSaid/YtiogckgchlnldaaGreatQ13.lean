/- Joined: Fs0, Fs1, Fs2, Fs3, Fs4, Fs5. -/
import Derived.Test.YtiogckgchlnldaaGreatQ10
import Derived.Test.YtiogckgchlnldaaGreatQ6
import Derived.Test.YtiogckgchlnldaaGreatQ8
import Derived.Test.YtiogckgchlnldaaGreatQ7
import Derived.Deep.DeepCutAuto
set_option linter.unusedSimpArgs false
set_option linter.unusedVariables false
/- Layer 8: how a file system lies. -/
set_option linter.unusedSimpArgs false
set_option linter.unusedVariables false
namespace Go.Proofs.YtiogckgchlnldaaGreat
open Go.RowKit Go.Maps
set_option maxRecDepth 100000

theorem Sep.perm {B : Nat} {w0 w : World} {ts us : List Kt} (h : Sep B w0 w ts) (hp : ts.Perm us) : Sep B w0 w us := ⟨h.b, h.sz, fun t ht => h.all t (hp.mem_iff.2 ht), (hp.pairwise_iff (fun {x y} hxy k h1 h2 => hxy k h2 h1)).1 h.ap⟩
/-- bytes of a file: a row of its own, or the front of what was one, which an append lays anew -/
def OwnF (w : World) (v : Value) (l : List UInt8) : Prop :=
  (v = .slice none 0 0 ∧ l = []) ∨ ∃ h c cur, v = .slice (some ⟨h, 0, none⟩) l.length c ∧ w.heap[h]? = some (.cells cur 5 (0, 0)) ∧ l.length ≤ c ∧ c ≤ cur.size ∧ cur.size ≤ maxLen ∧ (c = cur.size ∨ c = l.length) ∧ cur.toList.take l.length = l.map bv
section
variable {w w' : World} {v : Value} {l : List UInt8}
theorem OwnF.of (h : OwnB w 0 v l) : OwnF w v l := by
  rcases h.2 with ⟨h1, h2⟩ | ⟨g, cap, cur, h1, h2, h3, h4, h5, h6, h7⟩
  · exact .inl ⟨h1, List.eq_nil_of_length_eq_zero h2⟩
  · rw [Nat.mul_one] at h6 h7
    exact .inr ⟨g, cap, cur, h1, h3, h4, by omega, by omega, .inl h6.symm, h7⟩
theorem OwnF.lt (h : OwnF w v l) : ∀ k, v.ownBlock = some k → k < w.heap.size := fun k hk => by
  rcases h with ⟨rfl, _⟩ | ⟨g, c, cur, rfl, h1, _⟩
  · cases hk
  · have e : g = k := by simpa [Value.ownBlock] using hk
    subst e
    exact (Array.getElem?_eq_some_iff.1 h1).1
theorem OwnF.kept {F : Nat → Prop} (h : OwnF w v l) (t : Tou F w w') (hF : ∀ k, v.ownBlock = some k → ¬ F k) : OwnF w' v l := by
  rcases h with h1 | ⟨g, c, cur, rfl, h1, h2⟩
  · exact .inl h1
  · exact .inr ⟨g, c, cur, rfl, (t.block g (Array.getElem?_eq_some_iff.1 h1).1 (hF g rfl)).trans h1, h2⟩
theorem OwnF.below (h : OwnF w v l) (b : Below w.heap.size w w') : OwnF w' v l := h.kept (F := fun _ => False) (Tou.of_below b) (fun _ _ e => e)
theorem OwnF.bs {A : Option Addr} {n c : Nat} (h : OwnF w (.slice A n c) l) : Bs w A l := by
  rcases h with ⟨_, rfl⟩ | ⟨g, cap, cur, hv, h1, h2, h3, h4, h5, h6⟩
  · intro i x hi
    simp at hi
  · injection hv with e1 _ _
    subst e1
    intro i x hi
    have hil : i < l.length := (List.getElem?_eq_some_iff.1 hi).1
    refine ⟨g, 0, rfl, ?_⟩
    have e : cur.toList[i]? = some (bv x) := by
      have := congrArg (fun t => t[i]?) h6
      simp only [List.getElem?_map, hi, Option.map_some] at this
      rw [List.getElem?_take_of_lt hil] at this
      exact this
    have : w.cell? ⟨g, 0 + i, none⟩ = cur[i]? := by simp [World.cell?, h1]
    rw [this]
    simpa using e
theorem OwnF.front {A : Option Addr} {n c : Nat} (h : OwnF w (.slice A n c) l) (k : Nat) (hk : k ≤ l.length) : OwnF w (.slice A k k) (l.take k) := by
  have hl : (l.take k).length = k := by rw [List.length_take]; omega
  rcases h with ⟨hv, rfl⟩ | ⟨g, cap, cur, hv, h1, h2, h3, h4, h5, h6⟩
  · injection hv with e1 _ _
    subst e1
    have : k = 0 := by simpa using hk
    subst this
    exact .inl ⟨rfl, rfl⟩
  · injection hv with e1 _ _
    subst e1
    refine .inr ⟨g, k, cur, by rw [hl], h1, by omega, by omega, h4, .inr hl.symm, ?_⟩
    rw [hl, List.map_take, ← h6, List.take_take, Nat.min_eq_left hk]
end

/-- a file: name, all bytes, how many are durable, where it lies -/
structure Ft where
  nm : Nm
  b : List UInt8
  su : Nat
  g : Nat
  A : Option Addr
  c : Nat
def Ft.v (t : Ft) : Value := .slice t.A t.b.length t.c
def Ft.cs (t : Ft) : Array Value := #[t.v, .int .i64 (t.su : Nat)]
/-- a file in memory -/
def thF (t : Ft) : Kt := ⟨fun w => Blk w t.g 69 t.cs ∧ OwnF w t.v t.b ∧ t.v.ownBlock ≠ some t.g, fun k => k = t.g ∨ t.v.ownBlock = some k,
  fun h t hF => ⟨t.blk h.1 (hF _ (.inl rfl)), h.2.1.kept t (fun k hk => hF k (.inr hk)), h.2.2⟩,
  fun h k hk => by
    rcases hk with rfl | hk
    · exact h.1.lt
    · exact h.2.1.lt k hk⟩
theorem Mp.of_block {w w' : World} {b : Nat} {M : List (Nm × Nat)} (h : Mp w b M) (e : w'.heap[b]? = w.heap[b]?) : Mp w' b M := by
  obtain ⟨D, ⟨es, clock, hb, F, hs, hD⟩, h2⟩ := h
  exact ⟨D, ⟨es, clock, e.trans hb, F, hs, hD⟩, h2⟩
def nmG (T : List Ft) : List (Nm × Nat) := T.map fun t => (t.nm, t.g)
def thM (bm : Nat) (M : List (Nm × Nat)) : Kt := ⟨fun w => Mp w bm M, fun k => k = bm, fun {w w' G} h t hF => h.of_block (t.block bm h.lt (hF bm rfl)), fun h k e => by subst e; exact h.lt⟩
/-- a piece: its file, where it begins and ends -/
structure Pc where
  g : Nat
  fr : Nat
  to_ : Nat
def encPc (p : Pc) : List Value := [.pointer (some ⟨p.g, 0, none⟩), .int .i64 (p.fr : Nat), .int .i64 (p.to_ : Nat)]
theorem Tryz.eltPc : Elt Tryz.prog 63 72 encPc 3 24 := ⟨Tryz.underlying63, ⟨.agg #[.pointer none, .int .i64 0, .int .i64 0], by kernel_rfl, rfl⟩, by decide, fun _ => rfl, fun x v h => by
  simp [encPc] at h; rcases h with rfl | rfl | rfl <;> rfl⟩
abbrev thP (VW : Value) (L : List Pc) : Kt := thR 72 encPc 3 VW L
def fsc (room : Nat) (bm : Nat) (VW : Value) (d : Fd) : Array Value := #[.int .i64 (room : Nat), .map (some bm), VW, .bool d.st, .int .i64 (d.lf : Nat), .bool d.dd]
def gT (T : List Ft) (n : Nm) : Nat := (findM (nmG T) n).getD 0
def posT (T : List Ft) (n : Nm) : Nat := ((T.find? fun t => t.nm == n).map Ft.su).getD 0
def pcL (T : List Ft) (P : List (Nm × List UInt8)) : List Pc := (spans (posT T) P).map fun s => ⟨gT T s.1, s.2.1, s.2.2⟩
/-- what the files say is what the data say -/
structure Fi (d : Fd) (T : List Ft) : Prop where
  F : T.map (fun t => (t.nm, t.b.take t.su)) = d.F
  up : upN d.F
  ok : ∀ t ∈ T, t.su ≤ t.b.length ∧ t.b = t.b.take t.su ++ pcs d.P t.nm ∧ t.nm.length ≤ 16
  pn : ∀ p ∈ d.P, ∃ t ∈ T, t.nm = p.1
  pl : d.P.length ≤ 1000000
  us : usedD d ≤ 200000
  fl : T.length ≤ 8
/-- the file system at q with room, whose data is d, beside other things -/
def FsI (B : Nat) (w0 w : World) (q room : Nat) (ts : List Kt) (d : Fd) : Prop :=
  ∃ bm VW T, Sep B w0 w (thB q 67 (fsc room bm VW d) :: thM bm (nmG T) :: thP VW (pcL T d.P) :: (T.map thF ++ ts)) ∧ Fi d T

theorem find_map_eq {α β : Type} (f : α → β) (p : β → Bool) (l : List α) : (l.map f).find? p = (l.find? (fun a => p (f a))).map f := by
  induction l with
  | nil => rfl
  | cons a l ih =>
    rw [List.map_cons, List.find?_cons, List.find?_cons]
    cases p (f a) <;> simp [ih]
section
variable {d : Fd} {T : List Ft}
/-- a name's file -/
theorem Fi.find (h : Fi d T) (n : Nm) : (T.find? fun t => t.nm == n).map (fun t => (t.nm, t.b.take t.su)) = d.F.find? fun f => f.1 == n := by
  rw [← h.F, find_map_eq]
theorem Fi.atF (h : Fi d T) (n : Nm) : atF d.F n = (T.find? fun t => t.nm == n).map fun t => t.b.take t.su := by
  unfold Go.Proofs.YtiogckgchlnldaaGreat.atF
  rw [← h.find, Option.map_map]
  rfl
theorem findM_T (T : List Ft) (n : Nm) : findM (nmG T) n = (T.find? fun t => t.nm == n).map Ft.g := by
  unfold findM nmG
  rw [find_map_eq, Option.map_map]
  rfl
theorem Fi.gone (h : Fi d T) {n : Nm} (hn : Go.Proofs.YtiogckgchlnldaaGreat.atF d.F n = none) : T.find? (fun t => t.nm == n) = none := by
  rw [h.atF, Option.map_eq_none_iff] at hn
  exact hn
theorem Fi.there (h : Fi d T) {n : Nm} {b : List UInt8} (hn : Go.Proofs.YtiogckgchlnldaaGreat.atF d.F n = some b) : ∃ (i : Nat) (t : Ft), T[i]? = some t ∧ T.find? (fun t => t.nm == n) = some t ∧ t.nm = n ∧ t.b.take t.su = b := by
  rw [h.atF, Option.map_eq_some_iff] at hn
  obtain ⟨t, ht, rfl⟩ := hn
  obtain ⟨i, hi⟩ := List.getElem?_of_mem (List.mem_of_find?_eq_some ht)
  exact ⟨i, t, hi, ht, by simpa using List.find?_some ht, rfl⟩
theorem Fi.rd (h : Fi d T) {n : Nm} {t : Ft} (ht : T.find? (fun t => t.nm == n) = some t) : rdD d n = some t.b := by
  have hm := List.mem_of_find?_eq_some ht
  have hn : t.nm = n := by simpa using List.find?_some ht
  unfold rdD
  rw [h.atF, ht]
  show some (t.b.take t.su ++ pcs d.P n) = some t.b
  rw [← hn, ← (h.ok t hm).2.1]
theorem Fi.used (h : Fi d T) : usedD d = (T.map fun t => t.b.length).sum := by
  unfold usedD
  rw [← h.F, List.map_map]
  congr 1
  apply List.map_congr_left
  intro t ht
  show (t.b.take t.su ++ pcs d.P t.nm).length = t.b.length
  rw [← (h.ok t ht).2.1]
theorem Fi.len (h : Fi d T) : d.F.length = T.length := by rw [← h.F, List.length_map]
theorem sum_mem_le {l : List Nat} {x : Nat} (h : x ∈ l) : x ≤ l.sum := by
  induction l with
  | nil => simp at h
  | cons a l ih =>
    rw [List.sum_cons]
    rcases List.mem_cons.1 h with rfl | h
    · omega
    · have := ih h; omega
theorem Fi.blen (h : Fi d T) {t : Ft} (ht : t ∈ T) : t.b.length ≤ 200000 := by
  have h1 := h.us
  rw [h.used] at h1
  exact Nat.le_trans (sum_mem_le (List.mem_map.2 ⟨t, ht, rfl⟩)) h1
end

end Go.Proofs.YtiogckgchlnldaaGreat

/- Layer 8: named, runs. -/
set_option linter.unusedSimpArgs false
set_option linter.unusedVariables false
namespace Go.Proofs.YtiogckgchlnldaaGreat
open Go.RowKit Go.Maps
set_option maxRecDepth 100000

theorem fbsays {w : World} {g : Nat} {t : TypeId} {cs : Array Value} (h : Blk w g t cs) : cellsSay w g 0 cs.toList := cells_say h _ 0 rfl
section
variable {B q room : Nat} {w0 w w' : World} {ts us : List Kt} {t : Kt} {d d' : Fd} {T : List Ft}
theorem Fi.same (h : Fi d T) (hF : d'.F = d.F) (hP : d'.P = d.P) : Fi d' T :=
  ⟨h.F.trans hF.symm, by rw [hF]; exact h.up, fun t ht => by rw [hP]; exact h.ok t ht, fun p hp => h.pn p (by rw [← hP]; exact hp), by rw [hP]; exact h.pl, by unfold usedD; rw [hF, hP]; exact h.us, h.fl⟩
theorem FsI.go (h : FsI B w0 w q room ts d) (b : Below w.heap.size w w') : FsI B w0 w' q room ts d := by
  obtain ⟨bm, VW, T, hs, hF⟩ := h
  exact ⟨bm, VW, T, hs.go b, hF⟩
theorem FsI.drew (h : FsI B w0 w q room ts d) : FsI B w0 w.drew q room ts d := h.go (Below.refl w.heap.size w).drew
theorem FsI.b (h : FsI B w0 w q room ts d) : Below B w0 w := by
  obtain ⟨bm, VW, T, hs, hF⟩ := h
  exact hs.b
theorem FsI.sz (h : FsI B w0 w q room ts d) : B ≤ w.heap.size := by
  obtain ⟨bm, VW, T, hs, hF⟩ := h
  exact hs.sz
theorem FsI.bs (h : FsI B w0 w q room ts d) (hB : w0.heap.size ≤ B) {A : Option Addr} {l : List UInt8} (b : Bs w0 A l) : Bs w A l := by
  obtain ⟨bm, VW, T, hs, hF⟩ := h
  exact hs.bs hB b
theorem FsI.old (h : FsI B w0 w q room ts d) (hB : w0.heap.size ≤ B) {a : Addr} {v : Value} (c : w0.cell? a = some v) : w.cell? a = some v := by
  obtain ⟨bm, VW, T, hs, hF⟩ := h
  exact hs.old hB c
theorem FsI.get (h : FsI B w0 w q room ts d) (i : Nat) (e : ts[i]? = some t) : t.P w := by
  obtain ⟨bm, VW, T, hs, hF⟩ := h
  exact hs.get (by
    have := List.mem_of_getElem? e
    simp [this])
theorem FsI.cons (h : FsI B w0 w q room ts d) (b : Below w.heap.size w w') (hP : t.P w') (hF : ∀ k, t.F k → w.heap.size ≤ k) : FsI B w0 w' q room (t :: ts) d := by
  obtain ⟨bm, VW, T, hs, hi⟩ := h
  refine ⟨bm, VW, T, (hs.cons b hP hF).perm ?_, hi⟩
  exact (List.perm_middle (l₁ := _ :: _ :: _ :: T.map thF) (a := t) (l₂ := ts)).symm
theorem FsI.sub (h : FsI B w0 w q room ts d) (hs : us.Sublist ts) : FsI B w0 w q room us d := by
  obtain ⟨bm, VW, T, h0, hi⟩ := h
  exact ⟨bm, VW, T, h0.sub ((((hs.append_left _).cons_cons _).cons_cons _).cons_cons _), hi⟩
theorem FsI.tail (h : FsI B w0 w q room (t :: ts) d) : FsI B w0 w q room ts d := h.sub (List.sublist_cons_self t ts)
end

theorem named_any (n : Nm) (w : World) (hn : n.length ≤ maxLen) :
    Calls Tryz.prog 19 #[.string ⟨n.toArray⟩] w fun e w' => e = .returned (.bool (okN n)) ∧ w' = w := by
  by_cases h1 : 1 ≤ n.length
  · by_cases h2 : n.length ≤ 16
    · rw [show okN n = true from decide_eq_true ⟨h1, h2⟩]
      have d1 : decide ((1 : Int) ≤ (n.length : Int)) = true := decide_eq_true (by omega)
      have d2 : decide ((n.length : Int) ≤ 16) = true := decide_eq_true (by omega)
      clear h1 h2
      go_enter Tryz.func19, Tryz.ntmps19
      go_wp2_with fail
      go_ret
      exact ⟨rfl, rfl⟩
    · rw [show okN n = false from decide_eq_false (fun e => h2 e.2)]
      have d1 : decide ((1 : Int) ≤ (n.length : Int)) = true := decide_eq_true (by omega)
      have d2 : decide ((n.length : Int) ≤ 16) = false := decide_eq_false (by omega)
      clear h1 h2
      go_enter Tryz.func19, Tryz.ntmps19
      go_wp2_with fail
      go_ret
      exact ⟨rfl, rfl⟩
  · rw [show okN n = false from decide_eq_false (fun e => h1 e.1)]
    have d1 : decide ((1 : Int) ≤ (n.length : Int)) = false := decide_eq_false (by omega)
    clear h1
    go_enter Tryz.func19, Tryz.ntmps19
    go_wp2_with fail
    go_ret
    exact ⟨rfl, rfl⟩

theorem runs_any {B q room : Nat} {w0 w : World} {ts : List Kt} {d : Fd} (h : FsI B w0 w q room ts d) (hl : d.lf ≤ 1000000) :
    Calls Tryz.prog 20 #[.pointer (some ⟨q, 0, none⟩)] w fun e w' => e = .returned (.bool (runsD d).1) ∧ FsI B w0 w' q room ts (runsD d).2 := by
  obtain ⟨bm, VW, T, hs, hF⟩ := h
  have C := fbsays (hs.blk 0)
  simp only [cellsSay, fsc, Nat.reduceAdd, and_true] at C
  have HS := Lib.hid (And.intro hs hF)
  unfold runsD
  obtain ⟨dF, dP, st, lf, dd⟩ := d
  have hl : lf ≤ 1000000 := hl
  clear hs hF
  cases st with
  | false =>
    go_enter Tryz.func20, Tryz.ntmps20
    go_wp2_with fail
    go_ret
    exact ⟨rfl, bm, VW, T, HS.out⟩
  | true =>
    by_cases h0 : 0 < lf
    · rw [if_neg (by simp), if_pos h0]
      have d1 : decide ((0 : Int) < (lf : Int)) = true := decide_eq_true (by omega)
      have d2 : (0 : Int) < (lf : Int) := by omega
      have hw : wrap64 ((lf : Int) - 1) = ((lf - 1 : Nat) : Int) := by unfold wrap64; omega
      go_enter Tryz.func20, Tryz.ntmps20
      go_wp2_with fail
      go_ret
      rw [show ((lf : Int) - 1) = ((lf - 1 : Nat) : Int) by omega]
      refine ⟨rfl, bm, VW, T, HS.out.1.put 0 q [(4, .int .i64 ((lf - 1 : Nat) : Int))] (fsc room bm VW ⟨dF, dP, true, lf - 1, dd⟩) rfl, HS.out.2.same rfl rfl⟩
    · rw [if_neg (by simp), if_neg h0]
      have d1 : decide ((0 : Int) < (lf : Int)) = false := decide_eq_false (by omega)
      have d2 : ¬ (0 : Int) < (lf : Int) := by omega
      go_enter Tryz.func20, Tryz.ntmps20
      go_wp2_with fail
      go_ret
      refine ⟨rfl, bm, VW, T, HS.out.1.put 0 q [(5, .bool true)] (fsc room bm VW ⟨dF, dP, true, lf, true⟩) rfl, HS.out.2.same rfl rfl⟩

end Go.Proofs.YtiogckgchlnldaaGreat

/- Layer 8: Used. -/
set_option linter.unusedSimpArgs false
set_option linter.unusedVariables false
namespace Go.Proofs.YtiogckgchlnldaaGreat
open Go.RowKit Go.Maps Go.ChangeMaps Go.MapKept Go.WideMaps
set_option maxRecDepth 100000

theorem sameS (a b : Nm) : (Lit.string a).sameKey (.string b) = (a == b) := by
  by_cases h : a = b
  · subst h
    simp [Lit.sameKey]
  · rw [sameKey_ne (fun e => h (by injection e)), beq_eq_false_iff_ne.2 h]
/-- what is no longer to come, summed -/
def sumL (f : Ft → Nat) (T : List Ft) (left : Lit → Bool) : Nat := ((T.filter fun t => !left (.string t.nm)).map f).sum
theorem sumL_or (f : Ft → Nat) (left : Lit → Bool) (n : Nm) (T : List Ft) : sumL f T (fun z => left z && !z.sameKey (.string n)) = ((T.filter fun y => !left (.string y.nm) || y.nm == n).map f).sum := by
  unfold sumL
  congr 2
  apply List.filter_congr
  intro y _
  show (!(left (.string y.nm) && !(Lit.string y.nm).sameKey (.string n))) = _
  rw [sameS]
  cases left (.string y.nm) <;> cases (y.nm == n) <;> rfl
theorem sumL_strike (f : Ft → Nat) (left : Lit → Bool) (T : List Ft) (hp : T.Pairwise (fun a b => a.nm ≠ b.nm)) (t : Ft) (ht : t ∈ T) (hl : left (.string t.nm) = true) : sumL f T (fun z => left z && !z.sameKey (.string t.nm)) = sumL f T left + f t := by
  rw [sumL_or]
  unfold sumL
  induction T with
  | nil => simp at ht
  | cons x xs ih =>
    obtain ⟨h1, h2⟩ := List.pairwise_cons.1 hp
    rw [List.filter_cons, List.filter_cons]
    rcases List.mem_cons.1 ht with rfl | ht
    · have e : xs.filter (fun y => !left (.string y.nm) || y.nm == t.nm) = xs.filter fun z => !left (.string z.nm) := by
        apply List.filter_congr
        intro y hy
        rw [beq_eq_false_iff_ne.2 (fun e => h1 y hy e.symm), Bool.or_false]
      rw [if_pos (by simp), if_neg (by simp [hl]), e, List.map_cons, List.sum_cons]
      omega
    · have ih := ih h2 ht
      rw [beq_eq_false_iff_ne.2 (h1 t ht), Bool.or_false]
      split
      · rw [List.map_cons, List.sum_cons, List.map_cons, List.sum_cons, ih]
        omega
      · exact ih
theorem sumL_none (f : Ft → Nat) (T : List Ft) (left : Lit → Bool) (h : ∀ kl, left kl = false) : sumL f T left = (T.map f).sum := by
  unfold sumL
  rw [List.filter_eq_self.2 (fun t _ => by rw [h]; rfl)]
theorem sumL_all (f : Ft → Nat) (T : List Ft) (left : Lit → Bool) (h : ∀ t ∈ T, left (.string t.nm) = true) : sumL f T left = 0 := by
  unfold sumL
  rw [List.filter_eq_nil_iff.2 (fun t ht => by rw [h t ht]; simp)]
  rfl
theorem sumL_le (f : Ft → Nat) (T : List Ft) (left : Lit → Bool) : sumL f T left ≤ (T.map f).sum := by
  unfold sumL
  induction T with
  | nil => simp
  | cons t T ih =>
    rw [List.filter_cons, List.map_cons, List.sum_cons]
    split
    · rw [List.map_cons, List.sum_cons]; omega
    · omega
theorem str_inv {key : Value} {kl : Lit} (h : keyOf Tryz.prog FKT key = some kl) : ∃ x : ByteArray, key = .string x := by
  cases key <;> simp [keyOf, Tryz.underlying9, mapKey] at h
  exact ⟨_, rfl⟩
theorem str_key {x : ByteArray} {kl : Lit} (h : keyOf Tryz.prog FKT (.string x) = some kl) : kl = .string x.data.toList := by
  simp [keyOf, Tryz.underlying9, mapKey] at h
  exact h.2.symm
theorem Fi.names {d : Fd} {T : List Ft} (h : Fi d T) : T.Pairwise (fun a b => a.nm ≠ b.nm) := by
  have := h.up.uniq
  rw [← h.F, List.pairwise_map] at this
  exact this
theorem find_name {T : List Ft} (hp : T.Pairwise (fun a b => a.nm ≠ b.nm)) {t : Ft} (ht : t ∈ T) : T.find? (fun x => x.nm == t.nm) = some t := by
  induction T with
  | nil => simp at ht
  | cons x xs ih =>
    obtain ⟨h1, h2⟩ := List.pairwise_cons.1 hp
    rw [List.find?_cons]
    rcases List.mem_cons.1 ht with rfl | ht
    · rw [beq_self_eq_true]
    · rw [beq_eq_false_iff_ne.2 (h1 t ht)]
      exact ih h2 ht

theorem below_of_none {w w' : World} (h : w.grownBy w' none) : Below w.heap.size w w' := Below.grown (Below.refl _ _) h (Nat.le_refl _) (fun k e => by cases e)

set_option maxHeartbeats 4000000 in
theorem used_any {B q room : Nat} {w0 w : World} {ts : List Kt} {d : Fd} (h : FsI B w0 w q room ts d) :
    Calls Tryz.prog 21 #[.pointer (some ⟨q, 0, none⟩)] w fun e w' => e = .returned (.int .i64 (usedD d : Nat)) ∧ Below w.heap.size w w' := by
  obtain ⟨bm, VW, T, hs, hF⟩ := h
  have C := fbsays (hs.blk 0)
  simp only [cellsSay, fsc, Nat.reduceAdd, and_true] at C
  obtain ⟨D, hown, h2, h3, h4, h5⟩ : Mp w bm (nmG T) := hs.at_ 1 rfl
  have hfile : ∀ t ∈ T, w.cell? ⟨t.g, 0, none⟩ = some (.slice t.A t.b.length t.c) := fun t ht => (hs.get (t := thF t) (by simp; exact .inr (.inr (.inr (.inl ⟨t, ht, rfl⟩))))).1.cell 0
  have hus := hF.used
  have hub := hF.us
  rw [hus] at hub ⊢
  obtain ⟨tot, htot⟩ : ∃ tot, tot = (T.map fun t => t.b.length).sum := ⟨_, rfl⟩
  rw [← htot] at hub ⊢
  have HS := Lib.hid (And.intro h2 (And.intro h3 (And.intro h4 (And.intro hfile (And.intro htot hF.names)))))
  have hown2 := hown
  have hlt := hown.lt
  obtain ⟨nM, hnM⟩ : ∃ n, n = (nmG T).length := ⟨_, rfl⟩
  rw [← hnM] at hown2
  clear hs hF h2 h3 h4 h5 hfile hus htot hown hnM
  go_enter Tryz.func21, Tryz.ntmps21
  go_wp2_with (at_range; go_must (refine wpList_range_own _ rfl _ FMT rfl FKT 61 Tryz.fsLaw Tryz.underlying62 ptrE bm nM D rfl hown2 ?_); intro wA hrg0 hg0 hs0)
  go_frame
  go_loopw [3] (fun s wr => ∃ (left : Lit → Bool) (cnt n : Nat), s = .int .i64 n ∧ Hid (wr.ranges Tryz.prog FKT ptrE bm w.heap.size nM D left cnt ∧ (∀ kl, left kl = true → Maps.has D kl = true) ∧ n = sumL (fun t => t.b.length) T left ∧ Below w.heap.size w wr)) (fun _ wr => wr.rangeLeft bm w.heap.size)
  case atStart =>
    refine ⟨_, _, 0, rfl, Lib.hid ⟨hrg0, fun kl h => h, (sumL_all _ _ _ fun t ht => ?_).symm, below_of_none hg0⟩⟩
    rw [HS.out.1, findM_T, find_name HS.out.2.2.2.2.2 ht]
    rfl
  case round =>
    obtain ⟨left, cnt, n, rfl, HR⟩ := hrel
    go_wp2_with (at_next; go_must (refine wpList_next_ranges _ rfl _ rfl FKT Tryz.fsLaw ptrE Value.string ptrV (fun key kl h => str_inv h) (fun v y h => (ptrE_shape h).imp fun o h => h.1) bm w.heap.size nM D left cnt rfl HR.out.1 ?_ ?_))
    · intro _ hl0
      have HE := Lib.hid (And.intro (HR.out.2.2.1.trans ((sumL_none _ _ _ hl0).trans HS.out.2.2.2.2.1.symm)) HR.out.2.2.2)
      clear hl0 HR
      go_wp2_with fail
      go_ret
      exact ⟨by rw [HE.out.1]; rfl, HE.out.2⟩
    · intro x c kl y1 y2 w1 cnt1 hkx hlx hvy hat hrg1 hlt1 hg1 hs1 hen
      obtain rfl := str_key hkx
      obtain ⟨hr, hsub, hsum, hb⟩ := HR.out
      have hhas := hsub _ hlx
      have hsome := HS.out.1 x.data.toList
      rw [hhas, findM_T] at hsome
      obtain ⟨t, htf⟩ : ∃ t, T.find? (fun t => t.nm == x.data.toList) = some t := by
        cases hh : T.find? (fun t => t.nm == x.data.toList) with
        | none => rw [hh] at hsome; cases hsome
        | some t => exact ⟨t, rfl⟩
      have htm := List.mem_of_find?_eq_some htf
      have htn : t.nm = x.data.toList := by simpa using List.find?_some htf
      have hd := HS.out.2.2.1 x.data.toList t.g (by rw [findM_T, htf]; rfl) .nil
      rw [hat] at hd
      obtain rfl : c = some t.g := by
        rw [ptrE_mk] at hvy
        injection hvy with hvy
        injection hvy with hvy _
        exact ptrD_inj (hvy.trans hd)
      have hb1 : Below w.heap.size w w1 := Below.grown hb hg1 hb.size (fun k e => by injection e with e; omega)
      have c0 := (hb1.cell (cell_lt (HS.out.2.2.2.1 t htm))).trans (HS.out.2.2.2.1 t htm)
      have hsl : n + t.b.length = sumL (fun t => t.b.length) T (fun z => left z && !z.sameKey (.string x.data.toList)) := by
        rw [← htn, sumL_strike _ _ _ HS.out.2.2.2.2.2 t htm (by rw [htn]; exact hlx), hsum]
      have hle : n + t.b.length ≤ tot := by rw [hsl, HS.out.2.2.2.2.1]; exact sumL_le _ _ _
      have HN := Lib.hid (And.intro hrg1 (And.intro (fun (kl : Lit) (h : (left kl && !kl.sameKey (.string x.data.toList)) = true) => hsub kl (by rw [Bool.and_eq_true] at h; exact h.1)) (And.intro hsl hb1)))
      have hm : wr.rangeLeft bm w.heap.size = cnt := hr.left_eq
      have hm1 : w1.rangeLeft bm w.heap.size = cnt1 := hrg1.left_eq
      simp only [ptrV] at hen
      clear hkx hlx hvy hat hrg1 hg1 hs1 hr hsub hsum hb hhas hsome htf htm htn hd hb1 hsl HR
      go_wp2_with fail
      go_roundw
      case measure => rw [hm, hm1]; exact hlt1
      case rel => exact ⟨_, cnt1, n + t.b.length, by go_num, HN⟩

end Go.Proofs.YtiogckgchlnldaaGreat

/- Layer 8: Create. -/
set_option linter.unusedSimpArgs false
set_option linter.unusedVariables false
namespace Go.Proofs.YtiogckgchlnldaaGreat
open Go.RowKit Go.Maps Go.ChangeMaps Go.MapKept Go.WideMaps
set_option maxRecDepth 100000

def insT (t : Ft) : List Ft → List Ft
  | [] => [t]
  | x :: xs => if ltN x.nm t.nm = true then x :: insT t xs else t :: x :: xs
theorem insT_map (t : Ft) : ∀ T : List Ft, (insT t T).map (fun t => (t.nm, t.b.take t.su)) = insF (t.nm, t.b.take t.su) (T.map fun t => (t.nm, t.b.take t.su))
  | [] => rfl
  | x :: xs => by
    unfold insT
    rw [List.map_cons]
    unfold insF
    split
    · rw [List.map_cons, insT_map t xs]
    · rfl
theorem insT_perm (t : Ft) : ∀ T : List Ft, (insT t T).Perm (t :: T)
  | [] => List.Perm.refl _
  | x :: xs => by
    unfold insT
    split
    · exact ((insT_perm t xs).cons x).trans (List.Perm.swap _ _ _)
    · exact List.Perm.refl _
theorem insT_find (t : Ft) : ∀ {T : List Ft}, (∀ x ∈ T, x.nm ≠ t.nm) → ∀ s, (insT t T).find? (fun x => x.nm == s) = if s = t.nm then some t else T.find? (fun x => x.nm == s)
  | [], _, s => by
    unfold insT
    rw [List.find?_cons]
    by_cases h : s = t.nm
    · subst h; rw [beq_self_eq_true, if_pos rfl]
    · rw [beq_eq_false_iff_ne.2 (fun e => h e.symm), if_neg h]
  | x :: xs, hn, s => by
    have hx := hn x List.mem_cons_self
    unfold insT
    split
    · rw [List.find?_cons, List.find?_cons, insT_find t (fun y hy => hn y (List.mem_cons_of_mem _ hy)) s]
      by_cases h : s = t.nm
      · subst h
        rw [beq_eq_false_iff_ne.2 hx]
      · rw [if_neg h, if_neg h]
    · rw [List.find?_cons]
      by_cases h : s = t.nm
      · subst h; rw [beq_self_eq_true, if_pos rfl]
      · rw [beq_eq_false_iff_ne.2 (fun e => h e.symm), if_neg h]
theorem pcL_congr {T T' : List Ft} {P : List (Nm × List UInt8)} (h : ∀ p ∈ P, T'.find? (fun x => x.nm == p.1) = T.find? (fun x => x.nm == p.1)) : pcL T' P = pcL T P := by
  have h1 : spans (posT T') P = spans (posT T) P := spans_congr (fun p hp => by unfold posT; rw [h p hp])
  unfold pcL
  rw [h1]
  have hn : ∀ (pos : Nm → Nat) (P : List (Nm × List UInt8)), ∀ s ∈ spans pos P, ∃ p ∈ P, p.1 = s.1 := by
    intro pos P
    induction P generalizing pos with
    | nil => intro s hs; simp [spans] at hs
    | cons p ps ih =>
      intro s hs
      rw [spans_cons] at hs
      rcases List.mem_cons.1 hs with rfl | hs
      · exact ⟨p, List.mem_cons_self, rfl⟩
      · obtain ⟨r, hr, e⟩ := ih _ s hs
        exact ⟨r, List.mem_cons_of_mem _ hr, e⟩
  apply List.map_congr_left
  intro s hs
  obtain ⟨p, hp, e⟩ := hn _ _ s hs
  have : gT T' s.1 = gT T s.1 := by unfold gT; rw [findM_T, findM_T, ← e, h p hp]
  rw [this]
theorem used_T {d : Fd} {T : List Ft} (hF : T.map (fun t => (t.nm, t.b.take t.su)) = d.F) (ok : ∀ t ∈ T, t.b = t.b.take t.su ++ pcs d.P t.nm) : usedD d = (T.map fun t => t.b.length).sum := by
  unfold usedD
  rw [← hF, List.map_map]
  congr 1
  apply List.map_congr_left
  intro t ht
  show (t.b.take t.su ++ pcs d.P t.nm).length = t.b.length
  rw [← ok t ht]
theorem pcs_none {P : List (Nm × List UInt8)} {n : Nm} (h : ∀ p ∈ P, p.1 ≠ n) : pcs P n = [] := by
  unfold pcs
  rw [List.filter_eq_nil_iff.2 (fun p hp => by simpa using h p hp)]
  rfl
/-- a new file -/
theorem Fi.ins {d : Fd} {T : List Ft} (h : Fi d T) {t : Ft} (ht : ∀ x ∈ T, x.nm ≠ t.nm) (hb : t.b = []) (hs : t.su = 0) (hn : t.nm.length ≤ 16) (hl : T.length < 8) : Fi { d with F := insF (t.nm, []) d.F } (insT t T) := by
  have hF : (insT t T).map (fun t => (t.nm, t.b.take t.su)) = insF (t.nm, []) d.F := by
    rw [insT_map, h.F, hb, List.take_nil]
  have hok : ∀ x ∈ insT t T, x.su ≤ x.b.length ∧ x.b = x.b.take x.su ++ pcs d.P x.nm ∧ x.nm.length ≤ 16 := fun x hx => by
    rcases List.mem_cons.1 ((insT_perm t T).mem_iff.1 hx) with rfl | hx
    · have : pcs d.P x.nm = [] := pcs_none (fun p hp e => by
        obtain ⟨y, hy, e2⟩ := h.pn p hp
        exact ht y hy (e2.trans e))
      rw [this, hb, hs]
      exact ⟨Nat.le_refl _, rfl, hn⟩
    · exact h.ok x hx
  refine ⟨hF, ?_, hok, fun p hp => ?_, h.pl, ?_, ?_⟩
  · refine insF_up h.up (fun x hx => ?_)
    rw [← h.F] at hx
    obtain ⟨y, hy, rfl⟩ := List.mem_map.1 hx
    exact ht y hy
  · obtain ⟨y, hy, e⟩ := h.pn p hp
    exact ⟨y, (insT_perm t T).mem_iff.2 (List.mem_cons_of_mem _ hy), e⟩
  · rw [used_T (d := { d with F := insF (t.nm, []) d.F }) hF (fun x hx => (hok x hx).2.1), ((insT_perm t T).map _).sum_nat, List.map_cons, List.sum_cons, hb]
    have := h.us
    rw [h.used] at this
    simpa using this
  · rw [(insT_perm t T).length_eq, List.length_cons]
    omega

theorem uniq_of {T : List Ft} {n : Nm} (h : T.find? (fun t => t.nm == n) = none) : ∀ x ∈ T, x.nm ≠ n := fun x hx e => by
  have := List.find?_eq_none.1 h x hx
  simp [e] at this

theorem nmG_len (T : List Ft) : (nmG T).length = T.length := by unfold nmG; rw [List.length_map]
theorem FsI.created {B q room bm : Nat} {w0 w1 w2 : World} {ts : List Kt} {d : Fd} {VW : Value} {T : List Ft} {n : Nm} {D : DataW Unit} {k : Nat}
    (hs : Sep B w0 w1 (thB q 67 (fsc room bm VW d) :: thM bm (nmG T) :: thP VW (pcL T d.P) :: (T.map thF ++ ts))) (hF : Fi d T)
    (h1 : w1.ownsMap Tryz.prog FKT ptrE bm k D) (m2 : ∀ s, Maps.has D (.string s) = (findM (nmG T) s).isSome) (m3 : ∀ kl, Maps.has D kl = true → ∃ s, kl = .string s) (m4 : ∀ s g, findM (nmG T) s = some g → ∀ z, D.atKey (.string s) z = .lit (.int .i64 g)) (m5 : Maps.size D = (nmG T).length)
    (h2 : w2.ownsMap Tryz.prog FKT ptrE bm (k + 1) (D.put (.string n) (.lit (.int .i64 (w1.heap.size : Nat)))))
    (hg : (w1.alloc (.cells #[.slice none 0 0, .int .i64 0] 69)).grownBy w2 (some bm)) (hn : atF d.F n = none) (hok : okN n = true) (h8 : ¬ 8 ≤ d.F.length) : FsI B w0 w2 q room ts { d with F := insF (n, []) d.F } := by
  obtain ⟨t, ht⟩ : ∃ t : Ft, t = ⟨n, [], 0, w1.heap.size, none, 0⟩ := ⟨_, rfl⟩
  have hu := uniq_of (hF.gone hn)
  have hu' : ∀ x ∈ T, x.nm ≠ t.nm := by rw [ht]; exact hu
  have hf := insT_find t hu'
  have s1 := hs.cons (t := thF t) (w' := w1.alloc (.cells #[.slice none 0 0, .int .i64 0] 69)) (below_alloc _ _) (by
    rw [ht]
    exact ⟨Blk.new _ _ _, .inl ⟨rfl, rfl⟩, by simp [Ft.v, Value.ownBlock]⟩) (fun j hj => by
    rw [ht] at hj
    rcases hj with rfl | hj
    · exact Nat.le_refl _
    · simp [Ft.v, Value.ownBlock] at hj)
  have hmp : Mp w2 bm (nmG (insT t T)) := Mp.put (M := nmG T) h1 h2 m2 m3 m4 m5 (fun s => by
    rw [findM_T, findM_T, hf s]
    rw [show t.nm = n by rw [ht]]
    split
    · rw [ht]; rfl
    · rfl) (by
    rw [findM_T, hF.gone hn, nmG_len, nmG_len, (insT_perm t T).length_eq]
    rfl)
  have s2 := s1.call (t' := thM bm (nmG (insT t T))) 2 rfl (Tou.of_grown hg (fun j e => by injection e with e; exact e.symm)) hmp (fun j hj => .inl hj)
  have hpc : pcL (insT t T) d.P = pcL T d.P := pcL_congr (fun p hp => by
    obtain ⟨y, hy, e⟩ := hF.pn p hp
    rw [hf, if_neg (by rw [← e]; exact hu' y hy)])
  have e8 : T.length < 8 := by have := hF.len; omega
  have hFi := hF.ins hu' (by rw [ht]) (by rw [ht]) (by
    rw [ht]
    have := of_decide_eq_true hok
    exact this.2) e8
  rw [show t.nm = n by rw [ht]] at hFi
  refine ⟨bm, VW, insT t T, s2.perm ?_, hFi⟩
  show (thF t :: thB q 67 (fsc room bm VW d) :: thM bm (nmG (insT t T)) :: thP VW (pcL T d.P) :: (T.map thF ++ ts)).Perm (thB q 67 (fsc room bm VW d) :: thM bm (nmG (insT t T)) :: thP VW (pcL (insT t T) d.P) :: ((insT t T).map thF ++ ts))
  rw [hpc]
  refine (List.perm_middle (l₁ := [thB q 67 (fsc room bm VW d), thM bm (nmG (insT t T)), thP VW (pcL T d.P)]) (a := thF t) (l₂ := T.map thF ++ ts)).symm.trans ?_
  refine ((List.Perm.append_right ts ((insT_perm t T).map thF).symm).cons _).cons _ |>.cons _

set_option maxHeartbeats 8000000 in
theorem create_any {B q room : Nat} {w0 w : World} {ts : List Kt} {d : Fd} (n : Nm) (hn : n.length ≤ maxLen) (h : FsI B w0 w q room ts d) (hl : d.lf ≤ 1000000) :
    Calls Tryz.prog 8 #[.pointer (some ⟨q, 0, none⟩), .string ⟨n.toArray⟩] w fun e w' => e = .returned (.int .u16 ((createD d n).1 : Nat)) ∧ FsI B w0 w' q room ts (createD d n).2 := by
  have HN := Lib.hid (named_any n w hn)
  have h0 := h
  obtain ⟨bm, VW, T, hs, hF⟩ := h
  have C := fbsays (hs.blk 0)
  simp only [cellsSay, fsc, Nat.reduceAdd, and_true] at C
  have hM : Mp w bm (nmG T) := hs.at_ 1 rfl
  have look := hM.look n hn
  have len := hM.len 3
  rw [show (nmG T).length = T.length by unfold nmG; rw [List.length_map]] at len
  rw [findM_T] at look
  have hFl := hF.len
  cases hok : okN n with
  | false =>
    rw [hok] at HN
    rw [show createD d n = (1, d) by unfold createD; rw [if_pos hok]]
    have H0 := Lib.hid h0
    clear hs hF hM h0 look len hok hFl
    go_enter Tryz.func8, Tryz.ntmps8
    go_wp2_with fail
    refine HN.out.mono ?_
    rintro e w1 ⟨rfl, hw⟩
    rw [hw]
    clear hw HN
    go_wp2_with fail
    go_ret
    exact ⟨rfl, H0.out⟩
  | true =>
    rw [hok] at HN
    cases hat : atF d.F n with
    | some b =>
      obtain ⟨i, t, hi, hf, -, -⟩ := hF.there hat
      rw [hf] at look
      simp only [Option.map_some, ptrV] at look
      have H0 := Lib.hid h0
      rw [show createD d n = (81, d) by unfold createD; rw [if_neg (by rw [hok]; simp), hat]; rfl]
      clear hs hF hM h0 len hok hat hi hf hFl
      go_enter Tryz.func8, Tryz.ntmps8
      go_wp2_with fail
      refine HN.out.mono ?_
      rintro e w1 ⟨rfl, hw⟩
      rw [hw]
      clear hw HN
      go_wp2_with fail
      go_ret
      exact ⟨rfl, H0.out⟩
    | none =>
      have hf := hF.gone hat
      rw [hf] at look
      simp only [Option.map_none, ptrV] at look
      by_cases h8 : 8 ≤ d.F.length
      · rw [show createD d n = (3, d) by unfold createD; rw [if_neg (by rw [hok]; simp), hat, if_neg (by simp), if_pos h8]]
        have d8 : decide ((8 : Int) ≤ (T.length : Int)) = true := decide_eq_true (by omega)
        have d8p : (8 : Int) ≤ (T.length : Int) := by omega
        have H0 := Lib.hid h0
        clear hs hF hM h0 hok hat hf hFl h8
        go_enter Tryz.func8, Tryz.ntmps8
        go_wp2_with fail
        refine HN.out.mono ?_
        rintro e w1 ⟨rfl, hw⟩
        rw [hw]
        clear hw HN
        go_wp2_with fail
        go_ret
        exact ⟨rfl, H0.out⟩
      · rw [show createD d n = (0, if (runsD d).1 = true then { (runsD d).2 with F := insF (n, []) (runsD d).2.F } else (runsD d).2) by unfold createD; rw [if_neg (by rw [hok]; simp), hat, if_neg (by simp), if_neg h8]]
        have d8 : decide ((8 : Int) ≤ (T.length : Int)) = false := decide_eq_false (by omega)
        have d8p : ¬ (8 : Int) ≤ (T.length : Int) := by omega
        have HR := Lib.hid (runs_any h0 hl)
        have HQ := Lib.hid (And.intro hat (And.intro h8 hok))
        obtain ⟨r, hr⟩ : ∃ r, r = runsD d := ⟨_, rfl⟩
        have hrF : r.2.F = d.F ∧ r.2.P = d.P := by rw [hr]; unfold runsD; split <;> (try split) <;> exact ⟨rfl, rfl⟩
        rw [← hr] at HR ⊢
        clear hr
        obtain ⟨rb, rd⟩ := r
        have HRF : Hid (rd.F = d.F ∧ rd.P = d.P) := Lib.hid hrF
        have HR : Hid (Calls Tryz.prog 20 #[.pointer (some ⟨q, 0, none⟩)] w fun e w' => e = .returned (.bool rb) ∧ FsI B w0 w' q room ts rd) := HR
        show Calls _ _ _ _ fun e w' => e = .returned (.int .u16 ((0 : Nat) : Int)) ∧ FsI B w0 w' q room ts (if rb = true then { rd with F := insF (n, []) rd.F } else rd)
        clear hs hF hM h0 hok hat hf hFl h8 hrF
        go_enter Tryz.func8, Tryz.ntmps8
        go_wp2_with fail
        refine HN.out.mono ?_
        rintro e w1 ⟨rfl, hw⟩
        rw [hw]
        clear hw HN
        go_wp2_with fail
        refine HR.out.mono ?_
        rintro e w1 ⟨rfl, h1⟩
        clear HR C look len
        cases rb with
        | false =>
          have H1 := Lib.hid h1
          clear h1
          go_wp2_with fail
          go_ret
          exact ⟨rfl, H1.out⟩
        | true =>
          obtain ⟨bm1, VW1, T1, hs1, hF1⟩ := h1
          have C := fbsays (hs1.blk 0)
          simp only [cellsSay, fsc, Nat.reduceAdd, and_true] at C
          obtain ⟨D, hown, m2, m3, m4, m5⟩ : Mp w1 bm1 (nmG T1) := hs1.at_ 1 rfl
          have hk := key_ofF n hn
          have hsz : (nmG T1).length < maxLen := by
            have := hF1.fl
            unfold nmG maxLen
            rw [List.length_map]
            omega
          have hown8 := hown.alloc (.cells #[.slice none 0 0, .int .i64 0] 69)
          have H1 := Lib.hid (And.intro hs1 (And.intro hF1 (And.intro hown (And.intro m2 (And.intro m3 (And.intro m4 m5))))))
          clear hs1 hF1 hown m2 m3 m4 m5
          go_wp2_with (at_mapUpdate; go_must (refine wpList_mapUpdate_own _ rfl _ _ _ FMT rfl FKT 61 Tryz.fsLaw Tryz.underlying62 ptrE bm1 _ D rfl hown8 hsz _ _ (.string n) rfl rfl hk (.lit (.int .i64 (w1.heap.size : Nat))) [] rfl ?_); intro w2 hown2 hg2)
          go_ret
          obtain ⟨a1, a2, a3, a4, a5, a6, a7⟩ := H1.out
          exact ⟨rfl, FsI.created a1 a2 a3 a4 a5 a6 a7 hown2 hg2 (by rw [HRF.out.1]; exact HQ.out.1) HQ.out.2.2 (by rw [HRF.out.1]; exact HQ.out.2.1)⟩

end Go.Proofs.YtiogckgchlnldaaGreat

/- Layer 8: New. -/
set_option linter.unusedSimpArgs false
set_option linter.unusedVariables false
namespace Go.Proofs.YtiogckgchlnldaaGreat
open Go.RowKit Go.Maps Go.ChangeMaps Go.MapKept Go.WideMaps
set_option maxRecDepth 100000

def fd0 : Fd := ⟨[], [], false, 0, false⟩
theorem open0_bad (room : Int) (w : World) (hr : room < 0 ∨ 1048576 < room) :
    Calls Tryz.prog 18 #[.int .i64 room, .slice none 0 0] w fun e w' => e = .returned (.pointer none) ∧ w' = w := by
  by_cases h0 : room < 0
  · have d0 : decide (room < 0) = true := decide_eq_true h0
    clear hr
    go_enter Tryz.func18, Tryz.ntmps18
    go_wp2_with fail
    go_ret
    exact ⟨rfl, rfl⟩
  · have d0 : decide (room < 0) = false := decide_eq_false h0
    have h1 : 1048576 < room := by omega
    have d1 : decide (1048576 < room) = true := decide_eq_true h1
    clear hr
    go_enter Tryz.func18, Tryz.ntmps18
    go_wp2_with fail
    go_ret
    exact ⟨rfl, rfl⟩

set_option maxHeartbeats 4000000 in
theorem open0_any {B : Nat} {w0 w : World} {ts : List Kt} (h : Sep B w0 w ts) (room : Nat) (hr : room ≤ 1048576) :
    Calls Tryz.prog 18 #[.int .i64 (room : Nat), .slice none 0 0] w fun e w' => ∃ q, e = .returned (.pointer (some ⟨q, 0, none⟩)) ∧ FsI B w0 w' q room ts fd0 := by
  have d0 : decide ((room : Int) < 0) = false := decide_eq_false (by omega)
  have d1 : decide ((1048576 : Int) < (room : Int)) = false := decide_eq_false (by omega)
  have n0 : ¬ (room : Int) < 0 := by omega
  have n1 : ¬ (1048576 : Int) < (room : Int) := by omega
  have hmm := @run_makeMap Tryz.prog
  have s1 := h.cons (t := thM w.heap.size (nmG [])) (w' := w.alloc (.map #[] 0)) (below_alloc _ _) (Mp.made w) (fun k e => by subst e; exact Nat.le_refl _)
  have s2 := s1.cons (t := thP (.slice none 0 0) []) (Below.refl _ _) (OwnR.nil _ _ _ _ _) (fun k e => by
    have e : (Value.slice none 0 0).ownBlock = some k := e
    simp [Value.ownBlock] at e)
  have s3 := s2.box (fsc room w.heap.size (.slice none 0 0) fd0) 67
  have hsz : (w.alloc (.map #[] 0)).heap.size = w.heap.size + 1 := by simp
  rw [hsz] at s3
  have H := Lib.hid s3
  clear s1 s2 s3 h hr
  obtain ⟨q, hq⟩ : ∃ q, q = w.heap.size + 1 := ⟨_, rfl⟩
  obtain ⟨W, hW⟩ : ∃ W, W = (w.alloc (.map #[] 0)).alloc (.cells (fsc room w.heap.size (.slice none 0 0) fd0) 67) := ⟨_, rfl⟩
  rw [← hW, ← hq] at H
  go_enter Tryz.func18, Tryz.ntmps18
  go_wp2_with fail
  rw [← hq, show (w.alloc (.map #[] 0)).alloc (.cells #[.int .i64 (room : Nat), .map (some w.heap.size), .slice none 0 0, .bool false, .int .i64 0, .bool false] 67) = W from hW.symm]
  clear hW hq hsz
  go_loopw [25] (fun s wr => s = .int .i64 0 ∧ wr = W) (fun s _ => 0)
  case atStart => exact ⟨rfl, rfl⟩
  case round =>
    obtain ⟨rfl, hw⟩ := hrel
    rw [hw]
    clear hw
    go_wp2_with fail
    go_ret
    refine ⟨q, rfl, w.heap.size, .slice none 0 0, [], H.out.perm ((List.Perm.swap _ _ _).cons _), ⟨rfl, List.Pairwise.nil, fun t ht => by simp at ht, fun p hp => by simp [fd0] at hp, by simp [fd0], by simp [fd0, usedD], by simp⟩⟩

theorem new_any {B : Nat} {w0 w : World} {ts : List Kt} (h : Sep B w0 w ts) (room : Nat) (hr : room ≤ 1048576) :
    Calls Tryz.prog 6 #[.int .i64 (room : Nat)] w fun e w' => ∃ q, e = .returned (.pointer (some ⟨q, 0, none⟩)) ∧ FsI B w0 w' q room ts fd0 := by
  have HO := Lib.hid (open0_any h room hr)
  clear h hr
  go_enter Tryz.func6, Tryz.ntmps6
  go_wp2_with fail
  refine HO.out.mono ?_
  rintro e w1 ⟨q, rfl, h1⟩
  have H1 := Lib.hid h1
  clear h1
  go_wp2_with fail
  go_ret
  exact ⟨q, rfl, H1.out⟩
theorem new_bad (room : Int) (w : World) (hr : room < 0 ∨ 1048576 < room) :
    Calls Tryz.prog 6 #[.int .i64 room] w fun e w' => e = .returned (.pointer none) ∧ w' = w := by
  have HO := Lib.hid (open0_bad room w hr)
  clear hr
  go_enter Tryz.func6, Tryz.ntmps6
  go_wp2_with fail
  refine HO.out.mono ?_
  rintro e w1 ⟨rfl, hw⟩
  rw [hw]
  clear hw
  go_wp2_with fail
  go_ret
  exact ⟨rfl, rfl⟩

end Go.Proofs.YtiogckgchlnldaaGreat

/- Layer 8: Read. -/
set_option linter.unusedSimpArgs false
set_option linter.unusedVariables false
namespace Go.Proofs.YtiogckgchlnldaaGreat
open Go.RowKit Go.Maps Go.ChangeMaps Go.MapKept Go.WideMaps
set_option maxRecDepth 100000

theorem clone_nil (w : World) : Calls Tryz.prog 48 #[.slice none 0 0] w fun e w' => e = .returned (.slice none 0 0) ∧ w' = w := by
  have hnil : (binOp .eql 22 (.slice none 0 0) (.slice none 0 0)).run Tryz.prog w = .ok (.bool true) w := Go.Lib.run_eql_slice_nil w _ _ _ _ _ _ _ (by rfl)
  go_enter Tryz.func48, Tryz.ntmps48
  go_wp2_with fail
  go_ret
  exact ⟨rfl, rfl⟩
/-- a copy of a file's bytes -/
theorem clone_F {A : Option Addr} {c : Nat} {l : List UInt8} {w : World} (h : OwnF w (.slice A l.length c) l) (hL : l.length ≤ 200000) :
    Calls Tryz.prog 48 #[.slice A l.length c] w fun e w' => ∃ A' c', e = .returned (.slice A' l.length c') ∧ Hid (OwnB w' w.heap.size (.slice A' l.length c') l ∧ Below w.heap.size w w') := by
  cases A with
  | some ad => exact clone_bytes ad c l w h.bs hL
  | none =>
    have : l = [] ∧ c = 0 := by
      rcases h with ⟨hv, rfl⟩ | ⟨g, c', cur, hv, _⟩
      · injection hv with _ _ e
        exact ⟨rfl, e⟩
      · injection hv with e _ _
        cases e
    obtain ⟨rfl, rfl⟩ := this
    refine (clone_nil w).mono ?_
    rintro e w1 ⟨rfl, rfl⟩
    exact ⟨none, 0, rfl, Lib.hid ⟨OwnB.nil _ _, Below.refl _ _⟩⟩

section
variable {B q room : Nat} {w0 w w' : World} {ts : List Kt} {d : Fd} {bm : Nat} {VW : Value} {T : List Ft}
abbrev FsS (B : Nat) (w0 w : World) (q room : Nat) (ts : List Kt) (d : Fd) (bm : Nat) (VW : Value) (T : List Ft) : Prop := Sep B w0 w (thB q 67 (fsc room bm VW d) :: thM bm (nmG T) :: thP VW (pcL T d.P) :: (T.map thF ++ ts))
theorem FsS.file (hs : FsS B w0 w q room ts d bm VW T) {t : Ft} (ht : t ∈ T) : Blk w t.g 69 t.cs ∧ OwnF w t.v t.b ∧ t.v.ownBlock ≠ some t.g := hs.get (t := thF t) (by simp; exact .inr (.inr (.inr (.inl ⟨t, ht, rfl⟩))))
theorem FsS.map (hs : FsS B w0 w q room ts d bm VW T) : Mp w bm (nmG T) := hs.at_ 1 rfl
theorem FsS.bx (hs : FsS B w0 w q room ts d bm VW T) : Blk w q 67 (fsc room bm VW d) := hs.blk 0
end

set_option maxHeartbeats 4000000 in
theorem read_none {B q room : Nat} {w0 w : World} {ts : List Kt} {d : Fd} (n : Nm) (hn : n.length ≤ maxLen) (h : FsI B w0 w q room ts d) (hat : atF d.F n = none) :
    Calls Tryz.prog 17 #[.pointer (some ⟨q, 0, none⟩), .string ⟨n.toArray⟩] w fun e w' => e = .returned (.tuple #[.slice none 0 0, .int .u16 80]) ∧ w' = w := by
  obtain ⟨bm, VW, T, hs, hF⟩ := h
  have C := fbsays (FsS.bx hs)
  simp only [cellsSay, fsc, Nat.reduceAdd, and_true] at C
  have look := (FsS.map hs).look n hn
  rw [findM_T, hF.gone hat] at look
  simp only [Option.map_none, ptrV] at look
  clear hs hF hat
  go_enter Tryz.func17, Tryz.ntmps17
  go_wp2_with fail
  go_ret2
  exact ⟨rfl, rfl⟩

set_option maxHeartbeats 4000000 in
theorem read_some {B q room : Nat} {w0 w : World} {ts : List Kt} {d : Fd} (n : Nm) (hn : n.length ≤ maxLen) (h : FsI B w0 w q room ts d) (b : List UInt8) (hb : rdD d n = some b) :
    Calls Tryz.prog 17 #[.pointer (some ⟨q, 0, none⟩), .string ⟨n.toArray⟩] w fun e w' => ∃ A c, e = .returned (.tuple #[.slice A b.length c, .int .u16 0]) ∧ Hid (OwnB w' w.heap.size (.slice A b.length c) b ∧ Below w.heap.size w w') := by
  obtain ⟨bm, VW, T, hs, hF⟩ := h
  obtain ⟨x, hx⟩ : ∃ x, atF d.F n = some x := by
    unfold rdD at hb
    cases h : atF d.F n with
    | none => rw [h] at hb; cases hb
    | some x => exact ⟨x, rfl⟩
  obtain ⟨i, t, hi, hf, htn, -⟩ := hF.there hx
  have hbt : t.b = b := by
    have := hF.rd hf
    rw [hb] at this
    injection this with this
    exact this.symm
  have htm := List.mem_of_getElem? hi
  obtain ⟨f1, f2, f3⟩ := FsS.file hs htm
  have C := fbsays (FsS.bx hs)
  have Cf := fbsays f1
  simp only [cellsSay, fsc, Ft.cs, Ft.v, Nat.reduceAdd, and_true] at C Cf
  have look := (FsS.map hs).look n hn
  rw [findM_T, hf] at look
  simp only [Option.map_some, ptrV] at look
  have HC := Lib.hid (clone_F f2 (hF.blen htm))
  rw [hbt] at Cf HC
  clear hs hF hx hi hf htn hbt htm f1 f2 f3 hb
  go_enter Tryz.func17, Tryz.ntmps17
  go_wp2_with fail
  refine HC.out.mono ?_
  rintro e w1 ⟨A1, c1, rfl, h1⟩
  go_wp2_with fail
  go_ret2
  exact ⟨A1, c1, rfl, h1⟩

end Go.Proofs.YtiogckgchlnldaaGreat
