/- Joined: Srt0, SepA, TurnR, SepL, Srt1, Srt2, Srt3, Srt4, Srt5, Srt6, Srt7. -/
import Derived.Test.YtmcdollkmlcpbaaGreatDoorQ8
import Derived.Test.YtmcdollkmlcpbaaGreatDoorQ9
import Derived.Sort.AssemblyPlain
import Derived.Deep.DeepCutAuto
set_option linter.unusedSimpArgs false
set_option linter.unusedVariables false
set_option linter.unusedSimpArgs false
set_option linter.unusedVariables false
namespace Go.Proofs.YtmcdollkmlcpbaaGreatDoor
open Go.RowKit
set_option maxRecDepth 100000
theorem srt_perm {B : Nat} {w0 w : World} {ts us : List Kt} (h : Sep B w0 w ts) (hp : ts.Perm us) : Sep B w0 w us := ⟨h.b, h.sz, fun t ht => h.all t (hp.mem_iff.2 ht), (hp.pairwise_iff (fun {x y} hxy k h1 h2 => hxy k h2 h1)).1 h.ap⟩
def encU (x : Nat) : List Value := [.int .u32 (x : Nat)]
theorem encU_flat (l : List Nat) : l.flatMap encU = l.map (fun x => Value.int .u32 ((x : Nat) : Int)) := by
 induction l with
 | nil => rfl
 | cons a l ih => rw [List.flatMap_cons, ih]; rfl
abbrev thS (g n c : Nat) (d : Array Nat) : Kt := thR 34 encU 1 (.slice (some ⟨g, 0, none⟩) n c) d.toList
section
variable {B : Nat} {w0 w w' : World} {ts : List Kt} {g n c : Nat} {d : Array Nat}
theorem ownU (h : Sep B w0 w (thS g n c d :: ts)) : ∃ cap, n = d.size ∧ w.ownsRow 0 34 1 (.slice (some ⟨g, 0, none⟩) n cap) n (d.toList.map (fun x => Value.int .u32 ((x : Nat) : Int))) := by
 have h1 : OwnR w 0 34 encU 1 (.slice (some ⟨g, 0, none⟩) n c) d.toList := h.at_ 0 rfl
 have h2 := h1
 rcases h1.2 with ⟨h', _⟩ | ⟨g', cap', cur, h', hb, hg, hnc, hcm, hcs, htake⟩
 ·simp at h'
 ·injection h' with e1 e2 e3
  unfold OwnR at h2
  rw [encU_flat] at h2
  have e4 : n = d.size := by rw [e2]; simp
  refine ⟨c, e4, ?_⟩
  rw [show d.toList.length = n by simp [e4]] at h2
  exact h2
theorem srt_len (h : Sep B w0 w (thS g n c d :: ts)) : n = d.size := (ownU h).elim fun _ h => h.1
theorem srt_set (h : Sep B w0 w (thS g n c d :: ts)) (i x : Nat) : Sep B w0 (w.setCell ⟨g, i, none⟩ (.int .u32 (x : Nat))) (thS g n c (d.setIfInBounds i x) :: ts) := by
 have h1 : OwnR w 0 34 encU 1 (.slice (some ⟨g, 0, none⟩) n c) d.toList := h.at_ 0 rfl
 have hn := srt_len h
 refine h.call 0 rfl (Tou.set g i _ rfl) ?_ (fun k hk => .inl hk)
 show OwnR _ 0 34 encU 1 (.slice (some ⟨g, 0, none⟩) n c) (d.setIfInBounds i x).toList
 unfold OwnR at h1 ⊢
 rw [encU_flat] at h1 ⊢
 rw [show d.toList.length = n by simp [hn]] at h1
 rw [show (d.setIfInBounds i x).toList.length = n by simp [hn], Array.toList_setIfInBounds, List.map_set]
 exact (World.ownsRow.stored h1 i _).1
theorem srt_swp (h : Sep B w0 w (thS g n c d :: ts)) (i j : Nat) : Sep B w0 ((w.setCell ⟨g, i, none⟩ (.int .u32 (d[j]! : Nat))).setCell ⟨g, j, none⟩ (.int .u32 (d[i]! : Nat))) (thS g n c (Go.Sort.swp d i j) :: ts) := srt_set (srt_set h i _) j _
theorem srt_cell (h : Sep B w0 w (thS g n c d :: ts)) {i : Nat} (hi : i < d.size) : w.cell? ⟨g, i, none⟩ = some (.int .u32 (d[i]! : Nat)) := by
 obtain ⟨cap, hn, h1⟩ := ownU h
 rcases h1.2 with ⟨h', _⟩ | ⟨g', cap', cur, h', hb, hg, hnc, hcm, hcs, htake⟩
 ·simp at h'
 ·injection h' with e1 e2 e3
  injection e1 with e1
  injection e1 with e1
  subst e1
  have hci : cur[i]? = some (.int .u32 (d[i]! : Nat)) := by
   have h5 : (cur.toList.take (n * 1))[i]? = (d.toList.map (fun x => Value.int .u32 ((x : Nat) : Int)))[i]? := by rw [htake]
   rw [List.getElem?_take_of_lt (by omega), List.getElem?_map] at h5
   rw [← Array.getElem?_toList, h5, Array.getElem?_toList, Array.getElem?_eq_getElem hi, getElem!_pos d i hi]
   rfl
  unfold World.cell?
  rw [hg]
  exact hci
theorem srt_froz (h : Sep B w0 w (thS g n c d :: ts)) (i : Nat) : w.frozen? ⟨g, i, none⟩ = false := by
 obtain ⟨cap, hn, h1⟩ := ownU h
 rcases h1.2 with ⟨h', _⟩ | ⟨g', cap', cur, h', hb, hg, hnc, hcm, hcs, htake⟩
 ·simp at h'
 ·injection h' with e1 e2 e3
  injection e1 with e1
  injection e1 with e1
  subst e1
  unfold World.frozen?
  rw [hg]
  rfl
end
end Go.Proofs.YtmcdollkmlcpbaaGreatDoor
set_option linter.unusedSimpArgs false
set_option linter.unusedVariables false
namespace Go.Proofs.YtmcdollkmlcpbaaGreatDoor
open Go.RowKit
theorem sep_app1 {α : Type} {P : Program} {t e : TypeId} {enc : α → List Value} {sz bytes : Nat} (E : Elt P t e enc sz bytes) {w : World} {ops : Array Oper} {rest : List Oper} {o : Oper} {a : Act} {Q : Exit → Act → World → Prop} (hgd : o.guard = none) (s x : Operand)
  (ho : o.op = .call { callee := .builtin .append, args := #[s, x], argTypes := #[t, t] })
  {B : Nat} {w0 : World} {ts : List Kt} (i : Nat) (v : Value) (L : List α) (hs : a.eval s = v) (h : Sep B w0 w ts) (hi : ts[i]? = some (thR e enc sz v L)) (g c : Nat) (y : α) (u : TypeId) (cs : Array Value)
  (hx : a.eval x = .slice (some ⟨g, 0, none⟩) 1 c) (hb : Blk w g u cs) (hcs : cs = (enc y).toArray) (hlen : L.length + 1 ≤ maxLen) (hbytes : (L.length + 1) * bytes ≤ 140737488355328)
  (hK : ∀ g' c' w', Sep B w0 w' (ts.set i (thR e enc sz (.slice (some ⟨g', 0, none⟩) (L.length + 1) c') (L ++ [y]))) → wpList P ops Q rest (a.put o.dst (.slice (some ⟨g', 0, none⟩) (L.length + 1) c')) w') : wpList P ops Q (o :: rest) a w := by
 refine wpList_plain hgd fun K hK' => ?_
 have h1 := step_appR1L (ops := ops) (Q := Q) (Ep := True) (K := K) E w hgd s x ho 0 v L hs (h.at_ i hi) g c y u cs hx hb hcs hlen hbytes (Nat.zero_le _) w.heap.size rfl (fun g' c' w' h1 h2 h3 h4 => hK' _ _ (hK g' c' w' (h.call (t' := thR e enc sz (.slice (some ⟨g', 0, none⟩) (L.length + 1) c') (L ++ [y])) i hi (Tou.of_grown h2 (fun j e => e)) h1 (fun j hj => by
  injection (show some g' = some j from hj) with hj
  subst hj
  rcases h3 with h3 | h3
  ·exact .inl h3
  ·exact .inr (by omega)))))
 rw [if_pos (by simp [Region.wanted, hgd])] at h1
 exact h1
theorem Tryz.eltU : Elt Tryz.prog 55 34 encU 1 4 := ⟨Tryz.underlying55, ⟨.int .u32 0, by kernel_rfl, rfl⟩, by decide, fun _ => rfl, fun x v h => by
 unfold encU at h
 rw [List.mem_singleton] at h
 subst h
 rfl⟩
theorem row_cases {w : World} {e : TypeId} {v : Value} {l : List Nat} (h : OwnR w 0 e encU 1 v l) : (v = .slice none 0 0 ∧ l = []) ∨ ∃ g n c, v = .slice (some ⟨g, 0, none⟩) n c ∧ n = l.length := by
 rcases h.2 with ⟨h1, h2⟩ | ⟨g, cap, cur, hv, _⟩
 ·exact .inl ⟨h1, by first | exact h2 | (apply List.eq_nil_of_length_eq_zero; simpa using h2) | (apply List.eq_nil_of_length_eq_zero; exact h2)⟩
 ·exact .inr ⟨g, _, cap, hv, rfl⟩
end Go.Proofs.YtmcdollkmlcpbaaGreatDoor
set_option linter.unusedSimpArgs false
set_option linter.unusedVariables false
namespace Go.Proofs.YtmcdollkmlcpbaaGreatDoor
open Go.RowKit
theorem flat_set1 {α : Type} (enc : α → List Value) (sz : Nat) (hlen : ∀ x, (enc x).length = sz) (l : List α) (i j : Nat) (x y : α) (u : Value) (hi : l[i]? = some x) (hj : j < sz) (hy : enc y = (enc x).set j u) : (l.flatMap enc).set (i * sz + j) u = (l.set i y).flatMap enc := by
 obtain ⟨hil, hix⟩ := List.getElem?_eq_some_iff.1 hi
 have h1 : l = l.take i ++ x :: l.drop (i + 1) := by rw [← hix]; simp
 have h2 : l.set i y = l.take i ++ y :: l.drop (i + 1) := List.set_eq_take_append_cons_drop .. |>.trans (by rw [if_pos hil])
 have h3 : ((l.take i).flatMap enc).length = i * sz := by rw [flat_length enc sz hlen, List.length_take, Nat.min_eq_left (Nat.le_of_lt hil)]
 rw [h2]
 conv => lhs; rw [h1]
 rw [List.flatMap_append, List.flatMap_cons, List.flatMap_append, List.flatMap_cons, List.set_append, if_neg (by omega), h3, List.set_append, if_pos (by rw [hlen]; omega), hy, show i * sz + j - i * sz = j by omega]
theorem OwnR.turn {α : Type} {P : Program} {t e : TypeId} {enc : α → List Value} {sz bytes : Nat} (E : Elt P t e enc sz bytes) {w : World} {base g n c : Nat} {l : List α} (h : OwnR w base e enc sz (.slice (some ⟨g, 0, none⟩) n c) l) (hn : n = l.length) (i j : Nat) (x y : α) (u : Value) (hi : l[i]? = some x) (hj : j < sz) (hy : enc y = (enc x).set j u) : OwnR (w.setCell ⟨g, i * sz + j, none⟩ u) base e enc sz (.slice (some ⟨g, 0, none⟩) n c) (l.set i y) := by
 subst hn
 have h1 := (World.ownsRow.stored h (i * sz + j) u).1
 unfold OwnR
 rw [List.length_set, ← flat_set1 enc sz E.len l i j x y u hi hj hy]
 exact h1
theorem Sep.turnR {α : Type} {P : Program} {t e : TypeId} {enc : α → List Value} {sz bytes : Nat} (E : Elt P t e enc sz bytes) {B : Nat} {w0 w : World} {ts : List Kt} (h : Sep B w0 w ts) (i : Nat) {g n c : Nat} {l : List α} (ei : ts[i]? = some (thR e enc sz (.slice (some ⟨g, 0, none⟩) n c) l)) (hn : n = l.length) (k j : Nat) (x y : α) (u : Value) (hk : l[k]? = some x) (hj : j < sz) (hy : enc y = (enc x).set j u) :
  Sep B w0 (w.setCell ⟨g, k * sz + j, none⟩ u) (ts.set i (thR e enc sz (.slice (some ⟨g, 0, none⟩) n c) (l.set k y))) :=
 h.call (t' := thR e enc sz (.slice (some ⟨g, 0, none⟩) n c) (l.set k y)) i ei (Tou.set g _ u rfl) (OwnR.turn E (h.at_ i ei) hn k j x y u hk hj hy) (fun m hm => .inl hm)
theorem row_at {α : Type} {P : Program} {w : World} {t e : TypeId} {enc : α → List Value} {sz bytes : Nat} (E : Elt P t e enc sz bytes) {A : Option Addr} {n c : Nat} {l : List α} (h : OwnR w 0 e enc sz (.slice A n c) l) {k : Nat} {x : α} (hk : l[k]? = some x) : ∃ g, A = some ⟨g, 0, none⟩ ∧ n = l.length ∧ ∀ j v, (enc x)[j]? = some v → w.cell? ⟨g, k * sz + j, none⟩ = some v := by
 obtain ⟨A', c', hv, -, hr⟩ := OwnR.row E h
 injection hv with e1 e2 e3
 rcases h.2 with ⟨h1, h2⟩ | ⟨g, cap, cur, h1, _⟩
 ·rw [List.eq_nil_of_length_eq_zero h2] at hk
  cases hk
 ·injection h1 with f1 f2 f3
  obtain ⟨p, o, h3, h4⟩ := hr k x hk
  rw [← e1, f1] at h3
  injection h3 with h3
  injection h3 with h3 h5
  subst h3
  subst h5
  exact ⟨g, f1, e2, fun j v hj => by have := h4 j v hj; rw [Nat.zero_add] at this; exact this⟩
theorem row_froz {α : Type} {w : World} {e : TypeId} {enc : α → List Value} {sz : Nat} {g n c : Nat} {l : List α} (h : OwnR w 0 e enc sz (.slice (some ⟨g, 0, none⟩) n c) l) (i : Nat) : w.frozen? ⟨g, i, none⟩ = false := by
 rcases h.2 with ⟨h', _⟩ | ⟨g', cap', cur, h', hb, hg, _⟩
 ·cases h'
 ·injection h' with e1 e2 e3
  injection e1 with e1
  injection e1 with e1
  subst e1
  unfold World.frozen?
  rw [hg]
  rfl
end Go.Proofs.YtmcdollkmlcpbaaGreatDoor
set_option linter.unusedSimpArgs false
set_option linter.unusedVariables false
namespace Go.Proofs.YtmcdollkmlcpbaaGreatDoor
open Go.RowKit
section
variable {B : Nat} {w0 w w' : World} {us ts hs rest : List Kt}
theorem Sep.consL (h : Sep B w0 w ts) (b : Below w.heap.size w w') (hu : ∀ t ∈ us, t.P w' ∧ ∀ k, t.F k → w.heap.size ≤ k) (ha : us.Pairwise fun (a b : Kt) => ∀ k : Nat, a.F k → ¬ b.F k) : Sep B w0 w' (us ++ ts) := by
 have h1 := h.go b
 refine ⟨h1.b, h1.sz, fun t ht => ?_, List.pairwise_append.2 ⟨ha, h1.ap, fun a ha' c hc k hk hk2 => ?_⟩⟩
 ·rcases List.mem_append.1 ht with ht | ht
  ·exact ⟨(hu t ht).1, fun k hk => Nat.le_trans h.sz ((hu t ht).2 k hk)⟩
  ·exact h1.all t ht
 ·have h2 := c.lt (h.all c hc).1 k hk2
  have h3 := (hu a ha').2 k hk
  omega
theorem Sep.own2 (h : Sep B w0 w ts) (b : Below w.heap.size w w') {v : Value} {l : List UInt8} {base : Nat} (k9 : OwnB w' base v l) (n9 : w.heap.size ≤ base) {g1 g2 : Nat} {t1 t2 : TypeId} {c1 c2 : Array Value} (k1 : Blk w' g1 t1 c1) (k2 : Blk w' g2 t2 c2) (n1 : w.heap.size ≤ g1) (n2 : w.heap.size ≤ g2) (hne : g1 ≠ g2) (h1 : v.ownBlock ≠ some g1) (h2 : v.ownBlock ≠ some g2) : Sep B w0 w' (thO v l :: thB g1 t1 c1 :: thB g2 t2 c2 :: ts) := by
 refine h.consL (us := [thO v l, thB g1 t1 c1, thB g2 t2 c2]) b (fun t ht => ?_) ?_
 ·simp only [List.mem_cons, List.not_mem_nil, or_false] at ht
  rcases ht with rfl | rfl | rfl
  ·exact ⟨k9.mono (Nat.zero_le _), fun k hk => Nat.le_trans n9 (World.ownsRow.lt k9 k hk).1⟩
  ·exact ⟨k1, fun k hk => (by have : k = g1 := hk; omega)⟩
  ·exact ⟨k2, fun k hk => (by have : k = g2 := hk; omega)⟩
 ·simp only [List.pairwise_cons, List.mem_cons, List.not_mem_nil, or_false]
  refine ⟨fun t ht k hk hk2 => ?_, fun t ht k hk hk2 => ?_, fun t ht => ht.elim, .nil⟩
  ·rcases ht with rfl | rfl
   ·have e : k = g1 := hk2
    subst e
    exact h1 hk
   ·have e : k = g2 := hk2
    subst e
    exact h2 hk
  ·subst ht
   have e1 : k = g1 := hk
   have e2 : k = g2 := hk2
   exact hne (e1.symm.trans e2)
theorem Sep.sel (h : Sep B w0 w (hs ++ rest)) (js : List Nat) (hn : js.Nodup) : Sep B w0 w (js.filterMap (fun j => hs[j]?) ++ rest) := by
 have h1 := List.pairwise_append.1 h.ap
 have hm : ∀ t, t ∈ js.filterMap (fun j => hs[j]?) → t ∈ hs := fun t ht => by
  obtain ⟨j, _, hj⟩ := List.mem_filterMap.1 ht
  exact List.mem_of_getElem? hj
 refine ⟨h.b, h.sz, fun t ht => h.all t ?_, List.pairwise_append.2 ⟨?_, h1.2.1, fun a ha b hb => h1.2.2 a (hm a ha) b hb⟩⟩
 ·rcases List.mem_append.1 ht with ht | ht
  ·exact List.mem_append.2 (.inl (hm t ht))
  ·exact List.mem_append.2 (.inr ht)
 ·rw [List.pairwise_filterMap]
  refine hn.imp fun {i j} hij b hb c hc => ?_
  obtain ⟨hi1, hi2⟩ := List.getElem?_eq_some_iff.1 hb
  obtain ⟨hj1, hj2⟩ := List.getElem?_eq_some_iff.1 hc
  have hap := List.pairwise_iff_getElem.1 h1.1
  rcases Nat.lt_or_gt_of_ne hij with h3 | h3
  ·have := hap i j hi1 hj1 h3
   rw [hi2, hj2] at this
   exact this
  ·have := hap j i hj1 hi1 h3
   rw [hi2, hj2] at this
   exact fun k h4 h5 => this k h5 h4
theorem step_appSep {α : Type} {P : Program} {t e : TypeId} {enc : α → List Value} {sz bytes : Nat} (E : Elt P t e enc sz bytes) {ops : Array Oper} {o : Oper} {a : Act} {K : Act → World → Prop} {Q : Exit → Act → World → Prop} {Ep : Prop} (hgd : o.guard = none) (s x : Operand)
  (ho : o.op = .call { callee := .builtin .append, args := #[s, x], argTypes := #[t, t] })
  (i : Nat) (v : Value) (L : List α) (hs : a.eval s = v) (h : Sep B w0 w ts) (hi : ts[i]? = some (thR e enc sz v L)) (g c : Nat) (y : α) (u : TypeId) (cs : Array Value)
  (hx : a.eval x = .slice (some ⟨g, 0, none⟩) 1 c) (hb : Blk w g u cs) (hcs : cs = (enc y).toArray) (hlen : L.length + 1 ≤ maxLen) (hbytes : (L.length + 1) * bytes ≤ 140737488355328)
  (hK : ∀ g' c' w', Sep B w0 w' (ts.set i (thR e enc sz (.slice (some ⟨g', 0, none⟩) (L.length + 1) c') (L ++ [y]))) → w.heap.size ≤ w'.heap.size → K (a.put o.dst (.slice (some ⟨g', 0, none⟩) (L.length + 1) c')) w') :
  if Region.wanted o (yielded ops a.tmps) = true then Oper.wp P o a w K Q else Ep :=
 step_appR1L (ops := ops) (Q := Q) (Ep := Ep) (K := K) E w hgd s x ho 0 v L hs (h.at_ i hi) g c y u cs hx hb hcs hlen hbytes (Nat.zero_le _) w.heap.size rfl (fun g' c' w' h1 h2 h3 h4 => hK _ _ _ (h.call (t' := thR e enc sz (.slice (some ⟨g', 0, none⟩) (L.length + 1) c') (L ++ [y])) i hi (Tou.of_grown h2 (fun j e => e)) h1 (fun j hj => by
  injection (show some g' = some j from hj) with hj
  subst hj
  rcases h3 with h3 | h3
  ·exact .inl h3
  ·exact .inr (by omega))) h2.size)
end
theorem Kt.ext' (t u : Kt) (hP : t.P = u.P) (hF : t.F = u.F) : t = u := by
 cases t
 cases u
 cases hP
 cases hF
 rfl
end Go.Proofs.YtmcdollkmlcpbaaGreatDoor
set_option linter.unusedSimpArgs false
set_option linter.unusedVariables false
namespace Go.Proofs.YtmcdollkmlcpbaaGreatDoor
open Go.RowKit
set_option maxRecDepth 100000
set_option maxHeartbeats 4000000 in
theorem ins_any (lt : Nat → Nat → Bool) (HL : ∀ (x y : Nat) (w : World), Calls Tryz.prog 83 #[.int .u32 ((x : Nat) : Int), .int .u32 ((y : Nat) : Int)] w fun e w' => e = .returned (.bool (lt x y)) ∧ w' = w) {B : Nat} {w0 w : World} {ts : List Kt} {g n c : Nat} {d : Array Nat} (h : Sep B w0 w (thS g n c d :: ts)) (a b : Nat) (hab : a ≤ b) (hb : b ≤ n) (hn : n ≤ 1000000000000) :
  Calls Tryz.prog 77 #[.slice (some ⟨g, 0, none⟩) n c, .int .i64 (a : Nat), .int .i64 (b : Nat)] w fun e w' => e = .returned (.tuple #[]) ∧ Sep B w0 w' (thS g n c (Go.Sort.insertionSort lt d a b) :: ts) := by
 have hmx : Tryz.prog.follows .mixedOrders = true := by kernel_rfl
 have hL := Lib.hid HL
 have H0 := Lib.hid h
 clear HL h
 obtain ⟨D, hD⟩ : ∃ D, D = Go.Sort.insertionSort lt d a b := ⟨_, rfl⟩
 rw [← hD]
 have HD := Lib.hid hD
 clear hD
 go_enter Tryz.func77, Tryz.ntmps77
 go_wp2_with fail
 go_loopw [6] (fun s wr => ∃ i : Nat, s = .int .i64 i ∧ a + 1 ≤ i ∧ i ≤ n + 1 ∧ Hid (∃ dd, Sep B w0 wr (thS g n c dd :: ts) ∧ Go.Sort.insOuter lt a b i dd = D)) (fun s _ => b - (intOf s).toNat)
 case atStart => exact ⟨a + 1, by go_num, Nat.le_refl _, by omega, Lib.hid ⟨d, H0.out, HD.out.symm⟩⟩
 case round =>
  obtain ⟨i, rfl, hai, hin, HR⟩ := hrel
  clear H0 HD
  by_cases hib : i < b
  ·have hil : (i : Int) < (b : Int) := by omega
   obtain ⟨D2, hD2⟩ : ∃ D2, D2 = D2 ∧ ∃ dd, Sep B w0 wr (thS g n c dd :: ts) ∧ Go.Sort.insInner lt a i dd = D2 ∧ Go.Sort.insOuter lt a b (i + 1) D2 = D := by
    obtain ⟨dd, hs, hd⟩ := HR.out
    rw [Go.Sort.insOuter, if_pos hib] at hd
    exact ⟨_, rfl, dd, hs, rfl, hd⟩
   have HR1 := Lib.hid hD2.2
   clear hD2 HR
   go_wp2_with fail
   go_loopw [7] (fun s wr => ∃ j : Nat, s = .int .i64 j ∧ j ≤ i ∧ Hid (∃ dd, Sep B w0 wr (thS g n c dd :: ts) ∧ Go.Sort.insInner lt a j dd = D2 ∧ Go.Sort.insOuter lt a b (i + 1) D2 = D)) (fun s _ => (intOf s).toNat)
   case atStart => exact ⟨i, rfl, Nat.le_refl _, HR1⟩
   case round =>
    obtain ⟨j, rfl, hji, HR⟩ := hrel
    clear HR1
    by_cases haj : a < j
    ·obtain ⟨k, rfl⟩ : ∃ k, j = k + 1 := ⟨j - 1, by omega⟩
     obtain ⟨j, hj⟩ : ∃ j, j = k + 1 := ⟨_, rfl⟩
     rw [← hj] at haj hji HR ⊢
     have hjl : decide ((a : Int) < (j : Int)) = true := decide_eq_true (by omega)
     have hjk : (a : Int) < (j : Int) := by omega
     have hw : wrap64 ((j : Int) - 1) = (k : Int) := by unfold wrap64; omega
     have j0 : (0 : Int) ≤ (j : Int) := by omega
     have j1 : (j : Int) < (n : Int) := by omega
     have k0 : (0 : Int) ≤ (k : Int) := by omega
     have k1 : (k : Int) < (n : Int) := by omega
     obtain ⟨dd, hs, hd, hd2⟩ := HR.out
     have hnd := srt_len hs
     have hp := plus_cell wr
     obtain ⟨x1, hx1⟩ : ∃ x, x = dd[j]! := ⟨_, rfl⟩
     obtain ⟨x2, hx2⟩ : ∃ x, x = dd[k]! := ⟨_, rfl⟩
     have e1 := srt_cell hs (i := j) (by omega)
     have e2 := srt_cell hs (i := k) (by omega)
     rw [← hx1] at e1
     rw [← hx2, show k = j - 1 by omega] at e2
     rw [hj, Go.Sort.insInner, ← hj, ← hx1, ← hx2] at hd
     obtain ⟨r, hr⟩ : ∃ r, r = lt x1 x2 := ⟨_, rfl⟩
     rw [← hr, decide_eq_true (show j > a from haj), Bool.true_and] at hd
     have HC := Lib.hid (fun (y : More) => hL.out x1 x2 (plus wr y))
     rw [← hr] at HC
     have HI := Lib.hid (And.intro hs (And.intro hd (And.intro hd2 (And.intro hx1 hx2))))
     have Hj := Lib.hid (And.intro hj hnd)
     clear hs hd hd2 hx1 hx2 HR hr hj hnd
     go_wp2_with fail
     refine wp_region_tail_ext 13 (by kernel_rfl) (by kernel_rfl) ?_
     simp only [List.take_succ_cons, List.take_zero, List.drop_succ_cons, List.drop_zero]
     repeat (go_big_quiet_step (fail))
     refine wpQuiet_nil ?_
     rintro w2 ⟨y, rfl⟩
     have HC1 := Lib.hid (HC.out y)
     clear HC e1 e2 hp
     go_wp2_with fail
     refine HC1.out.mono ?_
     rintro e w3 ⟨rfl, hw3⟩
     rw [hw3]
     clear hw3 HC1
     have HI2 := Lib.hid (HI.out.1.go (plus_below wr y))
     obtain ⟨wq, hwq⟩ : ∃ W, W = plus wr y := ⟨_, rfl⟩
     rw [← hwq] at HI2 ⊢
     clear hwq
     cases r with
     | false =>
      have HE : Hid (dd = D2) := Lib.hid (by have := HI.out.2.1; rw [if_neg (by decide)] at this; exact this)
      go_wp2_with fail
      go_roundw
      case measure => simp [intOf]; omega
      case rel => exact ⟨i + 1, by go_num, by omega, by omega, Lib.hid ⟨D2, by rw [← HE.out]; exact HI2.out, HI.out.2.2.1⟩⟩
     | true =>
      have e1 := srt_cell HI2.out (i := j) (by rw [← Hj.out.2]; omega)
      have e2 := srt_cell HI2.out (i := k) (by rw [← Hj.out.2]; omega)
      have f1 := srt_froz HI2.out j
      have f2 := srt_froz HI2.out (j - 1)
      rw [← HI.out.2.2.2.1] at e1
      rw [← HI.out.2.2.2.2, show k = j - 1 by have := Hj.out.1; omega] at e2
      have hp := plus_cell wq
      go_wp2_with fail
      go_region
      have hk : j - 1 = k := by have := Hj.out.1; omega
      have h4 := srt_swp HI2.out j k
      rw [← HI.out.2.2.2.1, ← HI.out.2.2.2.2, ← hk] at h4
      have H4 := Lib.hid (h4.go (Below.refl _ _).drew)
      clear h4 e1 e2 f1 f2 hp hk
      obtain ⟨wz, hwz⟩ : ∃ W, W = ((wq.setCell ⟨g, j, none⟩ (.int .u32 ((x2 : Nat) : Int))).setCell ⟨g, j - 1, none⟩ (.int .u32 ((x1 : Nat) : Int))).drew := ⟨_, rfl⟩
      rw [← hwz] at H4 ⊢
      clear hwz
      go_wp2_with fail
      go_roundw
      case measure => simp [intOf]; have := Hj.out.1; omega
      case rel =>
       have hk : j - 1 = k := by have := Hj.out.1; omega
       refine ⟨k, by rw [show ((j : Int) - 1) = (k : Int) by have := Hj.out.1; omega], by omega, Lib.hid ⟨_, H4.out, ?_, HI.out.2.2.1⟩⟩
       have := HI.out.2.1
       rw [if_pos (by first | trivial | rfl)] at this
       rw [hk]
       exact this
    ·have hjl : decide ((a : Int) < (j : Int)) = false := decide_eq_false (by omega)
     have hjk : ¬ (a : Int) < (j : Int) := by omega
     have HE : Hid (∃ W, True) := Lib.hid ⟨wr, trivial⟩
     have H2 : Hid (Sep B w0 wr (thS g n c D2 :: ts) ∧ Go.Sort.insOuter lt a b (i + 1) D2 = D) := Lib.hid (by
      obtain ⟨dd, hs, hd, hd2⟩ := HR.out
      have : dd = D2 := by
       cases j with
       | zero => exact hd
       | succ j => rw [Go.Sort.insInner, if_neg (by simp; intro h; omega)] at hd; exact hd
      rw [this] at hs
      exact ⟨hs, hd2⟩)
     clear HR
     have hp := plus_cell wr
     go_wp2_with fail
     refine wp_region_ext hmx (by kernel_rfl) ?_
     repeat (go_big_quiet_step (fail))
     refine wpQuiet_nil ?_
     rintro w2 ⟨y, rfl⟩
     have H3 := Lib.hid (H2.out.1.go (plus_below wr y))
     clear hp
     go_wp2_with fail
     go_roundw
     case measure => simp [intOf]; omega
     case rel => exact ⟨i + 1, by go_num, by omega, by omega, Lib.hid ⟨D2, H3.out, H2.out.2⟩⟩
  ·have hil : ¬ (i : Int) < (b : Int) := by omega
   have HE : Hid (Sep B w0 wr (thS g n c D :: ts)) := Lib.hid (by
    obtain ⟨dd, hs, hd⟩ := HR.out
    rw [Go.Sort.insOuter, if_neg hib] at hd
    rw [← hd]
    exact hs)
   clear HR
   go_wp2_with fail
   go_end0
   exact ⟨rfl, HE.out⟩
end Go.Proofs.YtmcdollkmlcpbaaGreatDoor
set_option linter.unusedSimpArgs false
set_option linter.unusedVariables false
namespace Go.Proofs.YtmcdollkmlcpbaaGreatDoor
open Go.RowKit
set_option maxRecDepth 100000
set_option maxHeartbeats 4000000 in
theorem rev_any {B : Nat} {w0 w : World} {ts : List Kt} {g n c : Nat} {d : Array Nat} (h : Sep B w0 w (thS g n c d :: ts)) (a b : Nat) (hb1 : 1 ≤ b) (hab : a ≤ b) (hb : b ≤ n) (hn : n ≤ 1000000000000) :
  Calls Tryz.prog 81 #[.slice (some ⟨g, 0, none⟩) n c, .int .i64 (a : Nat), .int .i64 (b : Nat)] w fun e w' => e = .returned (.tuple #[]) ∧ Sep B w0 w' (thS g n c (Go.Sort.reverseRange d a b) :: ts) := by
 have H0 := Lib.hid h
 clear h
 obtain ⟨D, hD⟩ : ∃ D, D = Go.Sort.reverseRange d a b := ⟨_, rfl⟩
 rw [← hD]
 have HD := Lib.hid hD
 clear hD
 go_enter Tryz.func81, Tryz.ntmps81
 go_wp2_with fail
 go_loopw [6, 7] (fun s t wr => ∃ i j : Nat, s = .int .i64 i ∧ t = .int .i64 j ∧ j < n ∧ i ≤ n ∧ Hid (∃ dd, Sep B w0 wr (thS g n c dd :: ts) ∧ Go.Sort.reverseLoop i j dd = D)) (fun s t _ => (intOf t).toNat - (intOf s).toNat)
 case atStart => exact ⟨a, b - 1, rfl, by rw [show ((b - 1 : Nat) : Int) = (b : Int) - 1 by omega], by omega, by omega, Lib.hid ⟨d, H0.out, HD.out.symm⟩⟩
 case round =>
  obtain ⟨i, j, rfl, rfl, hjn, hin, HR⟩ := hrel
  clear H0 HD
  obtain ⟨dd, hs, hd⟩ := HR.out
  by_cases hij : i < j
  ·have hil : (i : Int) < (j : Int) := by omega
   have i0 : (0 : Int) ≤ (i : Int) := by omega
   have i1 : (i : Int) < (n : Int) := by omega
   have j0 : (0 : Int) ≤ (j : Int) := by omega
   have j1 : (j : Int) < (n : Int) := by omega
   have hnd := srt_len hs
   obtain ⟨x1, hx1⟩ : ∃ x, x = dd[i]! := ⟨_, rfl⟩
   obtain ⟨x2, hx2⟩ : ∃ x, x = dd[j]! := ⟨_, rfl⟩
   have e1 := srt_cell hs (i := i) (by omega)
   have e2 := srt_cell hs (i := j) (by omega)
   have f1 := srt_froz hs i
   have f2 := srt_froz hs j
   rw [← hx1] at e1
   rw [← hx2] at e2
   rw [Go.Sort.reverseLoop, if_pos hij] at hd
   have h4 := srt_swp hs i j
   rw [← hx1, ← hx2] at h4
   have H4 := Lib.hid (And.intro (h4.go (Below.refl _ _).drew) hd)
   clear hs hd hx1 hx2 HR h4 hnd
   go_wp2_with fail
   go_region
   obtain ⟨wz, hwz⟩ : ∃ W, W = ((wr.setCell ⟨g, i, none⟩ (.int .u32 ((x2 : Nat) : Int))).setCell ⟨g, j, none⟩ (.int .u32 ((x1 : Nat) : Int))).drew := ⟨_, rfl⟩
   rw [← hwz] at H4 ⊢
   clear hwz e1 e2 f1 f2
   go_wp2_with fail
   go_roundw
   case measure => simp [intOf]; omega
   case rel => exact ⟨i + 1, j - 1, by go_num, by rw [show ((j - 1 : Nat) : Int) = (j : Int) - 1 by omega], by omega, by omega, Lib.hid ⟨_, H4.out⟩⟩
  ·have hil : ¬ (i : Int) < (j : Int) := by omega
   rw [Go.Sort.reverseLoop, if_neg hij] at hd
   rw [hd] at hs
   have HE := Lib.hid hs
   clear hs hd HR
   go_wp2_with fail
   go_end0
   exact ⟨rfl, HE.out⟩
end Go.Proofs.YtmcdollkmlcpbaaGreatDoor
set_option linter.unusedSimpArgs false
set_option linter.unusedVariables false
namespace Go.Proofs.YtmcdollkmlcpbaaGreatDoor
open Go.RowKit
set_option maxRecDepth 100000
set_option maxHeartbeats 8000000 in
theorem sift_any (lt : Nat → Nat → Bool) (HL : ∀ (x y : Nat) (w : World), Calls Tryz.prog 83 #[.int .u32 ((x : Nat) : Int), .int .u32 ((y : Nat) : Int)] w fun e w' => e = .returned (.bool (lt x y)) ∧ w' = w) {B : Nat} {w0 w : World} {ts : List Kt} {g n c : Nat} {d : Array Nat} (h : Sep B w0 w (thS g n c d :: ts)) (lo hi fst : Nat) (hlo : lo ≤ n) (hhi : fst + hi ≤ n) (hn : n ≤ 1000000000000) :
  Calls Tryz.prog 99 #[.slice (some ⟨g, 0, none⟩) n c, .int .i64 (lo : Nat), .int .i64 (hi : Nat), .int .i64 (fst : Nat)] w fun e w' => e = .returned (.tuple #[]) ∧ Sep B w0 w' (thS g n c (Go.Sort.siftDown lt hi fst lo d) :: ts) := by
 have hmx : Tryz.prog.follows .mixedOrders = true := by kernel_rfl
 have hL := Lib.hid HL
 have H0 := Lib.hid h
 clear HL h
 obtain ⟨D, hD⟩ : ∃ D, D = Go.Sort.siftDown lt hi fst lo d := ⟨_, rfl⟩
 rw [← hD]
 have HD := Lib.hid hD
 clear hD
 go_enter Tryz.func99, Tryz.ntmps99
 go_wp2_with fail
 go_loopw [8] (fun s wr => ∃ r : Nat, s = .int .i64 r ∧ r ≤ n ∧ Hid (∃ dd, Sep B w0 wr (thS g n c dd :: ts) ∧ Go.Sort.siftDown lt hi fst r dd = D)) (fun s _ => hi - (intOf s).toNat)
 case atStart => exact ⟨lo, rfl, hlo, Lib.hid ⟨d, H0.out, HD.out.symm⟩⟩
 case round =>
  obtain ⟨r, rfl, hrn, HR⟩ := hrel
  clear H0 HD hlo
  obtain ⟨dd, hs, hd⟩ := HR.out
  rw [Go.Sort.siftDown] at hd
  obtain ⟨k, hk⟩ : ∃ k, k = 2 * r + 1 := ⟨_, rfl⟩
  have hw : wrap64 (wrap64 (2 * (r : Int)) + 1) = (k : Int) := by unfold wrap64; omega
  have hw2 : 2 * (r : Int) + 1 = (k : Int) := by omega
  rw [show 2 * r + 2 = k + 1 by omega, ← hk] at hd
  by_cases hkh : k ≥ hi
  ·rw [dif_pos hkh] at hd
   rw [hd] at hs
   have HE := Lib.hid hs
   have hg : decide ((hi : Int) ≤ (k : Int)) = true := decide_eq_true (by omega)
   have hg' : (hi : Int) ≤ (k : Int) := by omega
   clear hs hd HR hk
   go_wp2_with fail
   first | go_end0 | (refine bodyPost_ret (results_none rfl _ _ _) rfl ?_)
   exact ⟨rfl, HE.out⟩
  ·rw [dif_neg hkh] at hd
   have hg : decide ((hi : Int) ≤ (k : Int)) = false := decide_eq_false (by omega)
   have hg' : ¬ (hi : Int) ≤ (k : Int) := by omega
   have hrk : r < k := by omega
   have hkn : k ≤ n := by omega
   have hnd := srt_len hs
   have HI := Lib.hid (And.intro hs (And.intro hd (And.intro hk hnd)))
   clear hk HR
   by_cases hk1 : k + 1 < hi
   case' pos =>
    have hq : decide ((k : Int) + 1 < (hi : Int)) = true := decide_eq_true (by omega)
    have hq' : (k : Int) + 1 < (hi : Int) := by omega
    have i0 : (0 : Int) ≤ (fst : Int) + (k : Int) := by omega
    have i1 : (fst : Int) + (k : Int) < (n : Int) := by omega
    have j0 : (0 : Int) ≤ (fst : Int) + (k : Int) + 1 := by omega
    have j1 : (fst : Int) + (k : Int) + 1 < (n : Int) := by omega
    obtain ⟨x1, hx1⟩ : ∃ x, x = dd[fst + k]! := ⟨_, rfl⟩
    obtain ⟨x2, hx2⟩ : ∃ x, x = dd[fst + k + 1]! := ⟨_, rfl⟩
    have e1 := srt_cell hs (i := fst + k) (by omega)
    have e2 := srt_cell hs (i := fst + k + 1) (by omega)
    rw [← hx1] at e1
    rw [← hx2] at e2
    rw [← hx1, ← hx2, decide_eq_true hk1, Bool.true_and] at hd
    obtain ⟨r1, hr1⟩ : ∃ r, r = lt x1 x2 := ⟨_, rfl⟩
    rw [← hr1] at hd
    have hp := plus_cell wr
    have HC := Lib.hid (fun (y : More) => hL.out x1 x2 (plus wr y))
    rw [← hr1] at HC
    have HX := Lib.hid hx1
    have Hd := Lib.hid hd
    clear hd hs hnd hx1 hx2 hr1
    go_wp2_with fail
    refine wp_region_tail_ext 18 (by kernel_rfl) (by kernel_rfl) ?_
    simp only [List.take_succ_cons, List.take_zero, List.drop_succ_cons, List.drop_zero]
    repeat (go_big_quiet_step (fail))
    refine wpQuiet_nil ?_
    rintro w2 ⟨y, rfl⟩
    have HC1 := Lib.hid (And.intro (HC.out y) (HI.out.1.go (plus_below wr y)))
    clear HC e1 e2 hp
    go_wp2_with fail
    refine HC1.out.1.mono ?_
    rintro e w3 ⟨rfl, hw3⟩
    have HS : Hid (Sep B w0 w3 (thS g n c dd :: ts)) := Lib.hid (by rw [hw3]; exact HC1.out.2)
    clear hw3 HC1
    cases r1
    case' true =>
     obtain ⟨cc, hcc⟩ : ∃ x, x = k + 1 := ⟨_, rfl⟩
     have HF : Hid ((if (!lt dd[fst + r]! dd[fst + cc]!) = true then dd else Go.Sort.siftDown lt hi fst cc (Go.Sort.swp dd (fst + r) (fst + cc))) = D) := Lib.hid (by
      have := Hd.out
      rw [if_pos (by first | trivial | rfl), dif_pos hk1, ← hcc] at this
      exact this)
     have hcv : (k : Int) + 1 = (cc : Int) := by omega
     have hch : cc < hi := by omega
     have hrc : r < cc := by omega
     clear hcc
    case' false =>
     obtain ⟨cc, hcc⟩ : ∃ x, x = k := ⟨_, rfl⟩
     have HF : Hid ((if (!lt dd[fst + r]! dd[fst + cc]!) = true then dd else Go.Sort.siftDown lt hi fst cc (Go.Sort.swp dd (fst + r) (fst + cc))) = D) := Lib.hid (by
      have := Hd.out
      rw [if_neg (by decide), HX.out, ← hcc] at this
      exact this)
     have hch : cc < hi := by omega
     have hrc : r < cc := by omega
     rw [← hcc]
     clear hcc
   case' neg =>
    have hq : decide ((k : Int) + 1 < (hi : Int)) = false := decide_eq_false (by omega)
    have hq' : ¬ (k : Int) + 1 < (hi : Int) := by omega
    have hp := plus_cell wr
    rw [decide_eq_false hk1, Bool.false_and, if_neg (by decide)] at hd
    have Hd := Lib.hid hd
    clear hd hs hnd
    go_wp2_with fail
    refine wp_region_ext hmx (by kernel_rfl) ?_
    repeat (go_big_quiet_step (fail))
    refine wpQuiet_nil ?_
    rintro w3 ⟨y, hw3⟩
    have HS : Hid (Sep B w0 w3 (thS g n c dd :: ts)) := Lib.hid (by rw [hw3]; exact HI.out.1.go (plus_below wr y))
    clear hw3 hp
    obtain ⟨cc, hcc⟩ : ∃ x, x = k := ⟨_, rfl⟩
    have HF : Hid ((if (!lt dd[fst + r]! dd[fst + cc]!) = true then dd else Go.Sort.siftDown lt hi fst cc (Go.Sort.swp dd (fst + r) (fst + cc))) = D) := Lib.hid (by
     have := Hd.out
     rw [← hcc] at this
     exact this)
    have hch : cc < hi := by omega
    have hrc : r < cc := by omega
    rw [← hcc]
    clear hcc
   all_goals
    have hnd : n = dd.size := HI.out.2.2.2
    have i0 : (0 : Int) ≤ (fst : Int) + (r : Int) := by omega
    have i1 : (fst : Int) + (r : Int) < (n : Int) := by omega
    have j0 : (0 : Int) ≤ (fst : Int) + (cc : Int) := by omega
    have j1 : (fst : Int) + (cc : Int) < (n : Int) := by omega
    obtain ⟨y1, hy1⟩ : ∃ x, x = dd[fst + r]! := ⟨_, rfl⟩
    obtain ⟨y2, hy2⟩ : ∃ x, x = dd[fst + cc]! := ⟨_, rfl⟩
    have e1 := srt_cell HS.out (i := fst + r) (by omega)
    have e2 := srt_cell HS.out (i := fst + cc) (by omega)
    rw [← hy1] at e1
    rw [← hy2] at e2
    have hF := HF.out
    rw [← hy1, ← hy2] at hF
    obtain ⟨r2, hr2⟩ : ∃ r, r = lt y1 y2 := ⟨_, rfl⟩
    rw [← hr2] at hF
    have hp := plus_cell w3
    have HC := Lib.hid (fun (y : More) => hL.out y1 y2 (plus w3 y))
    rw [← hr2] at HC
    have HY := Lib.hid (And.intro hy1 hy2)
    have HG := Lib.hid hF
    clear hF HF hr2 hy1 hy2 hnd
    go_wp2_with fail
    refine wp_region_tail_ext 12 (by kernel_rfl) (by kernel_rfl) ?_
    simp only [List.take_succ_cons, List.take_zero, List.drop_succ_cons, List.drop_zero]
    repeat (go_big_quiet_step (fail))
    refine wpQuiet_nil ?_
    rintro w4 ⟨y4, rfl⟩
    have HC1 := Lib.hid (And.intro (HC.out y4) (HS.out.go (plus_below w3 y4)))
    clear HC e1 e2 hp HS
    go_wp2_with fail
    refine HC1.out.1.mono ?_
    rintro e w5 ⟨rfl, hw5⟩
    have HS : Hid (Sep B w0 w5 (thS g n c dd :: ts)) := Lib.hid (by rw [hw5]; exact HC1.out.2)
    clear hw5 HC1
    cases r2 with
    | false =>
     have HE : Hid (Sep B w0 w5 (thS g n c D :: ts)) := Lib.hid (by
      have := HG.out
      rw [if_pos (by rfl)] at this
      rw [← this]
      exact HS.out)
     go_wp2_with fail
     first | go_end0 | (refine bodyPost_ret (results_none rfl _ _ _) rfl ?_)
     exact ⟨rfl, HE.out⟩
    | true =>
     have hnd : n = dd.size := HI.out.2.2.2
     have e1 := srt_cell HS.out (i := fst + r) (by omega)
     have e2 := srt_cell HS.out (i := fst + cc) (by omega)
     have f1 := srt_froz HS.out (fst + r)
     have f2 := srt_froz HS.out (fst + cc)
     rw [← HY.out.1] at e1
     rw [← HY.out.2] at e2
     have h4 := srt_swp HS.out (fst + r) (fst + cc)
     rw [← HY.out.1, ← HY.out.2] at h4
     have H4 := Lib.hid (h4.go (Below.refl _ _).drew)
     clear h4 hnd
     go_wp2_with fail
     go_region
     obtain ⟨wz, hwz⟩ : ∃ W, W = ((w5.setCell ⟨g, fst + r, none⟩ (.int .u32 ((y2 : Nat) : Int))).setCell ⟨g, fst + cc, none⟩ (.int .u32 ((y1 : Nat) : Int))).drew := ⟨_, rfl⟩
     rw [← hwz] at H4 ⊢
     clear hwz e1 e2 f1 f2
     go_wp2_with fail
     go_roundw
     case measure => simp [intOf]; omega
     case rel => exact ⟨cc, rfl, by omega, Lib.hid ⟨_, H4.out, by
      have := HG.out
      rw [if_neg (by decide)] at this
      exact this⟩⟩
end Go.Proofs.YtmcdollkmlcpbaaGreatDoor
set_option linter.unusedSimpArgs false
set_option linter.unusedVariables false
namespace Go.Proofs.YtmcdollkmlcpbaaGreatDoor
open Go.RowKit
set_option maxRecDepth 100000
set_option maxHeartbeats 8000000 in
theorem heap_any (lt : Nat → Nat → Bool) (HL : ∀ (x y : Nat) (w : World), Calls Tryz.prog 83 #[.int .u32 ((x : Nat) : Int), .int .u32 ((y : Nat) : Int)] w fun e w' => e = .returned (.bool (lt x y)) ∧ w' = w) {B : Nat} {w0 w : World} {ts : List Kt} {g n c : Nat} {d : Array Nat} (h : Sep B w0 w (thS g n c d :: ts)) (a b : Nat) (hab : a < b) (hb : b ≤ n) (hn : n ≤ 1000000000000) :
  Calls Tryz.prog 78 #[.slice (some ⟨g, 0, none⟩) n c, .int .i64 (a : Nat), .int .i64 (b : Nat)] w fun e w' => e = .returned (.tuple #[]) ∧ Sep B w0 w' (thS g n c (Go.Sort.heapSort lt d a b) :: ts) := by
 have hS := Lib.hid (fun (W : World) (dd : Array Nat) (lo hi : Nat) (hs : Sep B w0 W (thS g n c dd :: ts)) (h1 : lo ≤ n) (h2 : a + hi ≤ n) => sift_any lt HL hs lo hi a h1 h2 hn)
 have H0 := Lib.hid h
 clear HL h
 obtain ⟨D, hD⟩ : ∃ D, D = Go.Sort.heapSort lt d a b := ⟨_, rfl⟩
 rw [← hD]
 unfold Go.Sort.heapSort at hD
 obtain ⟨hi, hhi⟩ : ∃ h, h = b - a := ⟨_, rfl⟩
 rw [← hhi] at hD
 obtain ⟨q, hq⟩ : ∃ q, q = (hi - 1) / 2 := ⟨_, rfl⟩
 rw [← hq] at hD
 have HD := Lib.hid hD
 have hv1 : (b : Int) - (a : Int) = (hi : Int) := by omega
 have hv2 : ((hi : Int) - 1).tdiv 2 = (q : Int) := by
  rw [show ((hi : Int) - 1) = ((hi - 1 : Nat) : Int) by omega, hq]
  rfl
 have hqn : q ≤ n := by omega
 have hi1 : 1 ≤ hi := by omega
 have hin : a + hi ≤ n := by omega
 clear hD hhi hq
 go_enter Tryz.func78, Tryz.ntmps78
 go_wp2_with fail
 go_loopw [9] (fun s wr => ∃ (k : Nat) (v : Int), s = .int .i64 v ∧ v + 1 = k ∧ k ≤ n + 1 ∧ Hid (∃ dd, Sep B w0 wr (thS g n c dd :: ts) ∧ Go.Sort.heapPop lt a hi (Go.Sort.heapBuild lt hi a k dd) = D)) (fun s _ => (intOf s + 1).toNat)
 case atStart => exact ⟨q + 1, (q : Int), rfl, by omega, by omega, Lib.hid ⟨d, H0.out, HD.out.symm⟩⟩
 case round =>
  obtain ⟨k, v, rfl, hvk, hkn, HR⟩ := hrel
  clear H0 HD
  cases k with
  | succ k =>
   obtain rfl : v = (k : Int) := by omega
   clear hvk
   have k0 : (0 : Int) ≤ (k : Int) := by omega
   obtain ⟨dd, hs, hd⟩ := HR.out
   have HC := Lib.hid (hS.out wr dd k hi hs (by omega) hin)
   have Hd := Lib.hid hd
   clear hs hd HR
   go_wp2_with fail
   refine HC.out.mono ?_
   rintro e w1 ⟨rfl, h1⟩
   have H1 := Lib.hid h1
   clear h1 HC
   go_wp2_with fail
   go_roundw
   case measure => (simp [intOf] <;> omega)
   case rel => exact ⟨k, (k : Int) - 1, rfl, by omega, by omega, Lib.hid ⟨_, H1.out, Hd.out⟩⟩
  | zero =>
   obtain rfl : v = -1 := by omega
   clear hvk
   have HI : Hid (∃ dd, Sep B w0 wr (thS g n c dd :: ts) ∧ Go.Sort.heapPop lt a hi dd = D) := HR
   clear HR
   go_wp2_with fail
   go_loopw [10] (fun s wr => ∃ (k : Nat) (v : Int), s = .int .i64 v ∧ v + 1 = k ∧ k ≤ hi ∧ Hid (∃ dd, Sep B w0 wr (thS g n c dd :: ts) ∧ Go.Sort.heapPop lt a k dd = D)) (fun s _ => (intOf s + 1).toNat)
   case atStart => exact ⟨hi, (hi : Int) - 1, rfl, by omega, Nat.le_refl _, HI⟩
   case round =>
    obtain ⟨k, v, rfl, hvk, hkn, HR⟩ := hrel
    clear HI
    cases k with
    | succ k =>
     obtain rfl : v = (k : Int) := by omega
     clear hvk
     have k0 : (0 : Int) ≤ (k : Int) := by omega
     obtain ⟨dd, hs, hd⟩ := HR.out
     have hnd := srt_len hs
     have i0 : (0 : Int) ≤ (a : Int) := by omega
     have i1 : (a : Int) < (n : Int) := by omega
     have j0 : (0 : Int) ≤ (a : Int) + (k : Int) := by omega
     have j1 : (a : Int) + (k : Int) < (n : Int) := by omega
     obtain ⟨x1, hx1⟩ : ∃ x, x = dd[a]! := ⟨_, rfl⟩
     obtain ⟨x2, hx2⟩ : ∃ x, x = dd[a + k]! := ⟨_, rfl⟩
     have e1 := srt_cell hs (i := a) (by omega)
     have e2 := srt_cell hs (i := a + k) (by omega)
     have f1 := srt_froz hs a
     have f2 := srt_froz hs (a + k)
     rw [← hx1] at e1
     rw [← hx2] at e2
     have e3 := srt_cell (srt_set hs a x2) (i := a + k) (by simp; omega)
     have f3 := srt_froz (srt_set hs a x2) (a + k)
     obtain ⟨x3, hx3⟩ : ∃ x, x = (dd.setIfInBounds a x2)[a + k]! := ⟨_, rfl⟩
     rw [← hx3] at e3
     have h4 := srt_swp hs a (a + k)
     rw [← hx1, ← hx2] at h4
     have HC := Lib.hid (hS.out _ _ 0 k (h4.go (Below.refl _ _).drew) (by omega) (by omega))
     have Hd := Lib.hid hd
     clear hs hd HR h4 hx1 hx2 hx3 hnd
     go_wp2_with fail
     go_region
     obtain ⟨wz, hwz⟩ : ∃ W, W = ((wr.setCell ⟨g, a, none⟩ (.int .u32 ((x2 : Nat) : Int))).setCell ⟨g, a + k, none⟩ (.int .u32 ((x1 : Nat) : Int))).drew := ⟨_, rfl⟩
     rw [← hwz] at HC ⊢
     clear hwz e1 e2 e3 f1 f2 f3
     go_wp2_with fail
     refine HC.out.mono ?_
     rintro e w1 ⟨rfl, h1⟩
     have H1 := Lib.hid h1
     clear h1 HC
     go_wp2_with fail
     go_roundw
     case measure => (simp [intOf] <;> omega)
     case rel => exact ⟨k, (k : Int) - 1, rfl, by omega, by omega, Lib.hid ⟨_, H1.out, Hd.out⟩⟩
    | zero =>
     obtain rfl : v = -1 := by omega
     clear hvk
     have HE : Hid (Sep B w0 wr (thS g n c D :: ts)) := Lib.hid (by
      obtain ⟨dd, hs, hd⟩ := HR.out
      rw [← hd]
      exact hs)
     clear HR
     go_wp2_with fail
     first | go_end0 | (refine bodyPost_ret (results_none rfl _ _ _) rfl ?_)
     exact ⟨rfl, HE.out⟩
end Go.Proofs.YtmcdollkmlcpbaaGreatDoor
set_option linter.unusedSimpArgs false
set_option linter.unusedVariables false
namespace Go.Proofs.YtmcdollkmlcpbaaGreatDoor
open Go.RowKit
set_option maxRecDepth 100000
theorem o2_lt (lt : Nat → Nat → Bool) (d : Array Nat) {a b sw n : Nat} (ha : a < n) (hb : b < n) : (Go.Sort.order2 lt d a b sw).1 < n ∧ (Go.Sort.order2 lt d a b sw).2.1 < n ∧ (Go.Sort.order2 lt d a b sw).2.2 ≤ sw + 1 := by
 unfold Go.Sort.order2
 split
 ·exact ⟨hb, ha, Nat.le_refl _⟩
 ·exact ⟨ha, hb, Nat.le_succ _⟩
set_option maxHeartbeats 4000000 in
theorem ord2_any (lt : Nat → Nat → Bool) (HL : ∀ (x y : Nat) (w : World), Calls Tryz.prog 83 #[.int .u32 ((x : Nat) : Int), .int .u32 ((y : Nat) : Int)] w fun e w' => e = .returned (.bool (lt x y)) ∧ w' = w) {B : Nat} {w0 w : World} {ts : List Kt} {g n c s sw : Nat} {d : Array Nat} (h : Sep B w0 w (thS g n c d :: thB s 3 #[.int .i64 (sw : Nat)] :: ts)) (a b : Nat) (ha : a < n) (hb : b < n) (hn : n ≤ 1000000000000) (hsw : sw ≤ 1000) :
  Calls Tryz.prog 118 #[.slice (some ⟨g, 0, none⟩) n c, .int .i64 (a : Nat), .int .i64 (b : Nat), .pointer (some ⟨s, 0, none⟩)] w fun e w' => e = .returned (.tuple #[.int .i64 ((Go.Sort.order2 lt d a b sw).1 : Nat), .int .i64 ((Go.Sort.order2 lt d a b sw).2.1 : Nat)]) ∧ Sep B w0 w' (thS g n c d :: thB s 3 #[.int .i64 ((Go.Sort.order2 lt d a b sw).2.2 : Nat)] :: ts) := by
 unfold Go.Sort.order2
 have hnd := srt_len h
 have i0 : (0 : Int) ≤ (a : Int) := by omega
 have i1 : (a : Int) < (n : Int) := by omega
 have j0 : (0 : Int) ≤ (b : Int) := by omega
 have j1 : (b : Int) < (n : Int) := by omega
 have e1 := srt_cell h (i := b) (by omega)
 have e2 := srt_cell h (i := a) (by omega)
 obtain ⟨x1, hx1⟩ : ∃ x, x = d[b]! := ⟨_, rfl⟩
 obtain ⟨x2, hx2⟩ : ∃ x, x = d[a]! := ⟨_, rfl⟩
 rw [← hx1] at e1 ⊢
 rw [← hx2] at e2 ⊢
 have hp := plus_cell w
 have HC := Lib.hid (fun (y : More) => HL x1 x2 (plus w y))
 obtain ⟨r, hr⟩ : ∃ r, r = lt x1 x2 := ⟨_, rfl⟩
 rw [← hr] at HC ⊢
 have H0 := Lib.hid h
 clear HL h hx1 hx2 hnd hr
 go_enter Tryz.func118, Tryz.ntmps118
 go_wp2_with fail
 refine wp_region_tail_ext 8 (by kernel_rfl) (by kernel_rfl) ?_
 simp only [List.take_succ_cons, List.take_zero, List.drop_succ_cons, List.drop_zero]
 repeat (go_big_quiet_step (fail))
 refine wpQuiet_nil ?_
 rintro w2 ⟨y, rfl⟩
 have HC1 := Lib.hid (And.intro (HC.out y) (H0.out.go (plus_below w y)))
 clear HC e1 e2 hp H0
 go_wp2_with fail
 refine HC1.out.1.mono ?_
 rintro e w3 ⟨rfl, hw3⟩
 have hs : Sep B w0 w3 (thS g n c d :: thB s 3 #[.int .i64 (sw : Nat)] :: ts) := by rw [hw3]; exact HC1.out.2
 have HS := Lib.hid hs
 have C : cellsSay w3 s 0 [.int .i64 (sw : Nat)] := cells_say (hs.blk 1) _ 0 rfl
 simp only [cellsSay, Nat.reduceAdd, and_true] at C
 clear hw3 HC1 hs
 cases r with
 | false =>
  go_wp2_with fail
  go_ret2
  exact ⟨rfl, HS.out⟩
 | true =>
  go_wp2_with fail
  generalize hW : World.setCell _ _ _ = w4
  go_ret2
  exact ⟨rfl, HS.out.put 1 s [(0, .int .i64 ((sw + 1 : Nat) : Int))] #[.int .i64 ((sw + 1 : Nat) : Int)] (by rw [← hW]; rfl)⟩
set_option maxHeartbeats 4000000 in
theorem med_any (lt : Nat → Nat → Bool) (HL : ∀ (x y : Nat) (w : World), Calls Tryz.prog 83 #[.int .u32 ((x : Nat) : Int), .int .u32 ((y : Nat) : Int)] w fun e w' => e = .returned (.bool (lt x y)) ∧ w' = w) {B : Nat} {w0 w : World} {ts : List Kt} {g n c s sw : Nat} {d : Array Nat} (h : Sep B w0 w (thS g n c d :: thB s 3 #[.int .i64 (sw : Nat)] :: ts)) (x y z : Nat) (hx : x < n) (hy : y < n) (hz : z < n) (hn : n ≤ 1000000000000) (hsw : sw ≤ 100) :
  Calls Tryz.prog 103 #[.slice (some ⟨g, 0, none⟩) n c, .int .i64 (x : Nat), .int .i64 (y : Nat), .int .i64 (z : Nat), .pointer (some ⟨s, 0, none⟩)] w fun e w' => e = .returned (.int .i64 ((Go.Sort.median lt d x y z sw).1 : Nat)) ∧ (Go.Sort.median lt d x y z sw).1 < n ∧ (Go.Sort.median lt d x y z sw).2 ≤ sw + 3 ∧ Sep B w0 w' (thS g n c d :: thB s 3 #[.int .i64 ((Go.Sort.median lt d x y z sw).2 : Nat)] :: ts) := by
 unfold Go.Sort.median
 dsimp only
 have l1 := o2_lt lt d (sw := sw) hx hy
 have H1 := Lib.hid (ord2_any lt HL h x y hx hy hn (by omega))
 obtain ⟨⟨p1, q1, s1⟩, hr1⟩ : ∃ r, r = Go.Sort.order2 lt d x y sw := ⟨_, rfl⟩
 rw [← hr1] at l1 H1 ⊢
 dsimp only at l1 H1 ⊢
 have l2 := o2_lt lt d (sw := s1) l1.2.1 hz
 obtain ⟨⟨p2, q2, s2⟩, hr2⟩ : ∃ r, r = Go.Sort.order2 lt d q1 z s1 := ⟨_, rfl⟩
 rw [← hr2] at l2 ⊢
 have H2 := Lib.hid (fun (W : World) (hs : Sep B w0 W (thS g n c d :: thB s 3 #[.int .i64 (s1 : Nat)] :: ts)) => ord2_any lt HL hs q1 z l1.2.1 hz hn (by omega))
 rw [← hr2] at H2
 dsimp only at l2 H2 ⊢
 have l3 := o2_lt lt d (sw := s2) l1.1 l2.1
 have H3 := Lib.hid (fun (W : World) (hs : Sep B w0 W (thS g n c d :: thB s 3 #[.int .i64 (s2 : Nat)] :: ts)) => ord2_any lt HL hs p1 p2 l1.1 l2.1 hn (by omega))
 obtain ⟨⟨p3, q3, s3⟩, hr3⟩ : ∃ r, r = Go.Sort.order2 lt d p1 p2 s2 := ⟨_, rfl⟩
 rw [← hr3] at l3 H3 ⊢
 dsimp only at l3 H3 ⊢
 have HZ := Lib.hid (show q3 < n ∧ s3 ≤ sw + 3 by omega)
 clear HL h hr1 hr2 hr3 l1 l2 l3
 go_enter Tryz.func103, Tryz.ntmps103
 go_wp2_with fail
 refine H1.out.mono ?_
 rintro e w1 ⟨rfl, h1⟩
 have H4 := Lib.hid (H2.out _ h1)
 clear h1 H1 H2
 go_wp2_with fail
 refine H4.out.mono ?_
 rintro e w2 ⟨rfl, h2⟩
 have H5 := Lib.hid (H3.out _ h2)
 clear h2 H4 H3
 go_wp2_with fail
 refine H5.out.mono ?_
 rintro e w3 ⟨rfl, h3⟩
 have H6 := Lib.hid h3
 clear h3 H5
 go_wp2_with fail
 go_ret
 exact ⟨rfl, HZ.out.1, HZ.out.2, H6.out⟩
set_option maxHeartbeats 4000000 in
theorem medA_any (lt : Nat → Nat → Bool) (HL : ∀ (x y : Nat) (w : World), Calls Tryz.prog 83 #[.int .u32 ((x : Nat) : Int), .int .u32 ((y : Nat) : Int)] w fun e w' => e = .returned (.bool (lt x y)) ∧ w' = w) {B : Nat} {w0 w : World} {ts : List Kt} {g n c s sw : Nat} {d : Array Nat} (h : Sep B w0 w (thS g n c d :: thB s 3 #[.int .i64 (sw : Nat)] :: ts)) (x : Nat) (hx : 1 ≤ x) (hy : x + 1 < n) (hn : n ≤ 1000000000000) (hsw : sw ≤ 100) :
  Calls Tryz.prog 102 #[.slice (some ⟨g, 0, none⟩) n c, .int .i64 (x : Nat), .pointer (some ⟨s, 0, none⟩)] w fun e w' => e = .returned (.int .i64 ((Go.Sort.medianAdjacent lt d x sw).1 : Nat)) ∧ (Go.Sort.medianAdjacent lt d x sw).1 < n ∧ (Go.Sort.medianAdjacent lt d x sw).2 ≤ sw + 3 ∧ Sep B w0 w' (thS g n c d :: thB s 3 #[.int .i64 ((Go.Sort.medianAdjacent lt d x sw).2 : Nat)] :: ts) := by
 unfold Go.Sort.medianAdjacent
 have HC := Lib.hid (med_any lt HL h (x - 1) x (x + 1) (by omega) (by omega) hy hn hsw)
 obtain ⟨k, hk⟩ : ∃ k, k = x - 1 := ⟨_, rfl⟩
 rw [← hk] at HC ⊢
 have hk1 : (x : Int) - 1 = (k : Int) := by omega
 rw [show ((x + 1 : Nat) : Int) = (x : Int) + 1 by omega] at HC
 obtain ⟨R, hR⟩ : ∃ R, R = Go.Sort.median lt d k x (x + 1) sw := ⟨_, rfl⟩
 rw [← hR] at HC ⊢
 clear HL h hk hR
 go_enter Tryz.func102, Tryz.ntmps102
 go_wp2_with fail
 refine HC.out.mono ?_
 rintro e w1 ⟨rfl, h1⟩
 have H1 := Lib.hid h1
 clear h1 HC
 go_wp2_with fail
 go_ret
 exact ⟨rfl, H1.out⟩
end Go.Proofs.YtmcdollkmlcpbaaGreatDoor
set_option linter.unusedSimpArgs false
set_option linter.unusedVariables false
namespace Go.Proofs.YtmcdollkmlcpbaaGreatDoor
open Go.RowKit
set_option maxRecDepth 100000
def hintV : Go.Sort.Hint → Nat
 | .unknown => 0
 | .increasing => 1
 | .decreasing => 2
set_option maxHeartbeats 8000000 in
theorem choose_any (lt : Nat → Nat → Bool) (HL : ∀ (x y : Nat) (w : World), Calls Tryz.prog 83 #[.int .u32 ((x : Nat) : Int), .int .u32 ((y : Nat) : Int)] w fun e w' => e = .returned (.bool (lt x y)) ∧ w' = w) {B : Nat} {w0 w : World} {ts : List Kt} {g n c : Nat} {d : Array Nat} (h : Sep B w0 w (thS g n c d :: ts)) (a b : Nat) (hab : a + 8 ≤ b) (hb : b ≤ n) (hn : n ≤ 1000000000000) :
  Calls Tryz.prog 80 #[.slice (some ⟨g, 0, none⟩) n c, .int .i64 (a : Nat), .int .i64 (b : Nat)] w fun e w' => e = .returned (.tuple #[.int .i64 ((Go.Sort.choosePivot lt d a b).1 : Nat), .int .i64 (hintV (Go.Sort.choosePivot lt d a b).2 : Nat)]) ∧ Sep B w0 w' (thS g n c d :: ts) := by
 obtain ⟨W, hW⟩ : ∃ W, W = w.alloc (.cells #[.int .i64 0] 3) := ⟨_, rfl⟩
 obtain ⟨s, hs⟩ : ∃ s, s = w.heap.size := ⟨_, rfl⟩
 have h1 : Sep B w0 W (thS g n c d :: thB s 3 #[.int .i64 ((0 : Nat) : Int)] :: ts) := by
  rw [hW, hs]
  exact srt_perm (h.box #[.int .i64 ((0 : Nat) : Int)] 3) (List.Perm.swap _ _ _)
 have H1 := Lib.hid h1
 have HM := Lib.hid (fun (W : World) (sw x y z : Nat) (hx : x < n) (hy : y < n) (hz : z < n) (hsw : sw ≤ 100) (hh : Sep B w0 W (thS g n c d :: thB s 3 #[.int .i64 (sw : Nat)] :: ts)) => med_any lt HL hh x y z hx hy hz hn hsw)
 have HA := Lib.hid (fun (W : World) (sw x : Nat) (hx : 1 ≤ x) (hy : x + 1 < n) (hsw : sw ≤ 100) (hh : Sep B w0 W (thS g n c d :: thB s 3 #[.int .i64 (sw : Nat)] :: ts)) => medA_any lt HL hh x hx hy hn hsw)
 obtain ⟨D, hD⟩ : ∃ D, D = Go.Sort.choosePivot lt d a b := ⟨_, rfl⟩
 rw [← hD]
 unfold Go.Sort.choosePivot at hD
 dsimp only at hD
 obtain ⟨l, hl⟩ : ∃ l, l = b - a := ⟨_, rfl⟩
 rw [← hl, if_pos (show l ≥ 8 by omega)] at hD
 obtain ⟨q, hq⟩ : ∃ q, q = l / 4 := ⟨_, rfl⟩
 rw [← hq] at hD
 have hv1 : (b : Int) - (a : Int) = (l : Int) := by omega
 have hv2 : (l : Int).tdiv 4 = (q : Int) := by rw [hq]; rfl
 obtain ⟨i, hi⟩ : ∃ i, i = a + q * 1 := ⟨_, rfl⟩
 obtain ⟨j, hj⟩ : ∃ j, j = a + q * 2 := ⟨_, rfl⟩
 obtain ⟨k, hk⟩ : ∃ k, k = a + q * 3 := ⟨_, rfl⟩
 rw [← hi, ← hj, ← hk] at hD
 have hvi : (a : Int) + (q : Int) = (i : Int) := by omega
 have hvi' : (a : Int) + (q : Int) * 1 = (i : Int) := by omega
 have hvj : (a : Int) + (q : Int) * 2 = (j : Int) := by omega
 have hvk : (a : Int) + (q : Int) * 3 = (k : Int) := by omega
 have hq3 : q * 4 ≤ l := by omega
 have hi3 : i + q ≤ b ∧ j + q ≤ b ∧ k + q ≤ b ∧ 2 ≤ q := by omega
 have hkn : k < n := by omega
 have hjn : j < n := by omega
 have hin : i < n := by omega
 have hl8 : decide ((8 : Int) ≤ (l : Int)) = true := decide_eq_true (by omega)
 have hl8' : (8 : Int) ≤ (l : Int) := by omega
 have hln : l ≤ n := by omega
 have hqn : q ≤ n := by omega
 have HB := Lib.hid (And.intro hi3 (And.intro hi (And.intro hj (And.intro hk hb))))
 clear HL h h1 hl hi hj hk hi3
 by_cases hl5 : l ≥ 50
 ·have hg : decide ((50 : Int) ≤ (l : Int)) = true := decide_eq_true (by omega)
  have hg' : (50 : Int) ≤ (l : Int) := by omega
  rw [if_pos hl5] at hD
  have hq12 : 12 ≤ q := by omega
  have HD := Lib.hid hD
  have HQ := Lib.hid hq12
  clear hD hq hq12
  go_enter Tryz.func80, Tryz.ntmps80
  go_upto_region 3 with fail
  rw [← hW, ← hs]
  clear hW hs
  have HC := Lib.hid (HA.out W 0 i (by have := HQ.out; have := HB.out; omega) (by have := HQ.out; have := HB.out; omega) (by omega) H1.out)
  obtain ⟨⟨ri, si⟩, hri⟩ : ∃ r, r = Go.Sort.medianAdjacent lt d i 0 := ⟨_, rfl⟩
  rw [← hri] at HC HD
  clear hri H1
  go_wp2_with fail
  refine HC.out.mono ?_
  rintro e w1 ⟨rfl, m1, n1, h1⟩
  have HC2 := Lib.hid (HA.out _ si j (by have := HQ.out; have := HB.out; omega) (by have := HQ.out; have := HB.out; omega) (by omega) h1)
  obtain ⟨⟨rj, sj⟩, hrj⟩ : ∃ r, r = Go.Sort.medianAdjacent lt d j si := ⟨_, rfl⟩
  try dsimp only at HD
  rw [← hrj] at HC2 HD
  clear hrj h1 HC
  go_wp2_with fail
  refine HC2.out.mono ?_
  rintro e w2 ⟨rfl, m2, n2, h2⟩
  have HC := Lib.hid (HA.out _ sj k (by have := HQ.out; have := HB.out; omega) (by have := HQ.out; have := HB.out; omega) (by omega) h2)
  obtain ⟨⟨rk, sk⟩, hrk⟩ : ∃ r, r = Go.Sort.medianAdjacent lt d k sj := ⟨_, rfl⟩
  try dsimp only at HD
  rw [← hrk] at HC HD
  clear hrk h2 HC2
  go_wp2_with fail
  refine HC.out.mono ?_
  rintro e w3 ⟨rfl, m3, n3, h3⟩
  have HC2 := Lib.hid (HM.out _ sk ri rj rk m1 m2 m3 (by omega) h3)
  obtain ⟨⟨rm, sm⟩, hrm⟩ : ∃ r, r = Go.Sort.median lt d ri rj rk sk := ⟨_, rfl⟩
  try dsimp only at HD
  rw [← hrm] at HC2 HD
  have HE : Hid (D = (rm, if sm = 0 then .increasing else if sm = 12 then .decreasing else .unknown)) := Lib.hid HD.out
  clear hrm h3 HC HD m1 m2 m3 n1 n2 n3
  go_wp2_with fail
  refine HC2.out.mono ?_
  rintro e w4 ⟨rfl, m4, n4, h4⟩
  have H4 := Lib.hid h4
  have C : cellsSay w4 s 0 [.int .i64 (sm : Nat)] := cells_say (h4.blk 1) _ 0 rfl
  simp only [cellsSay, Nat.reduceAdd, and_true] at C
  clear h4 HC2 m4 n4
  have HZ : Hid (Sep B w0 w4 (thS g n c d :: ts)) := Lib.hid (H4.out.sub ((List.sublist_cons_self _ _).cons_cons _))
  clear H4
  by_cases z0 : sm = 0
  ·have HF : Hid (D = (rm, .increasing)) := Lib.hid (by rw [HE.out, if_pos z0])
   have kz : ((sm : Int) == 0) = true := beq_iff_eq.2 (by omega)
   clear HE z0
   go_wp2_with fail
   go_ret2
   rw [HF.out]
   exact ⟨rfl, HZ.out⟩
  ·have kz : ((sm : Int) == 0) = false := beq_eq_false_iff_ne.2 (by omega)
   by_cases z1 : sm = 12
   ·have HF : Hid (D = (rm, .decreasing)) := Lib.hid (by rw [HE.out, if_neg z0, if_pos z1])
    have ky : ((sm : Int) == 12) = true := beq_iff_eq.2 (by omega)
    clear HE z0 z1
    go_wp2_with fail
    go_ret2
    rw [HF.out]
    exact ⟨rfl, HZ.out⟩
   ·have HF : Hid (D = (rm, .unknown)) := Lib.hid (by rw [HE.out, if_neg z0, if_neg z1])
    have ky : ((sm : Int) == 12) = false := beq_eq_false_iff_ne.2 (by omega)
    clear HE z0 z1
    go_wp2_with fail
    go_ret2
    rw [HF.out]
    exact ⟨rfl, HZ.out⟩
 ·have hg : decide ((50 : Int) ≤ (l : Int)) = false := decide_eq_false (by omega)
  have hg' : ¬ (50 : Int) ≤ (l : Int) := by omega
  rw [if_neg hl5] at hD
  have HD := Lib.hid hD
  clear hD hq
  go_enter Tryz.func80, Tryz.ntmps80
  go_upto_region 3 with fail
  rw [← hW, ← hs]
  clear hW hs
  have HC2 := Lib.hid (HM.out W 0 i j k hin hjn hkn (by omega) H1.out)
  obtain ⟨⟨rm, sm⟩, hrm⟩ : ∃ r, r = Go.Sort.median lt d i j k 0 := ⟨_, rfl⟩
  rw [← hrm] at HC2 HD
  have HE : Hid (D = (rm, if sm = 0 then .increasing else if sm = 12 then .decreasing else .unknown)) := Lib.hid HD.out
  clear hrm HD H1
  go_wp2_with fail
  refine HC2.out.mono ?_
  rintro e w4 ⟨rfl, m4, n4, h4⟩
  have H4 := Lib.hid h4
  have C : cellsSay w4 s 0 [.int .i64 (sm : Nat)] := cells_say (h4.blk 1) _ 0 rfl
  simp only [cellsSay, Nat.reduceAdd, and_true] at C
  clear h4 HC2 m4 n4
  have HZ : Hid (Sep B w0 w4 (thS g n c d :: ts)) := Lib.hid (H4.out.sub ((List.sublist_cons_self _ _).cons_cons _))
  clear H4
  by_cases z0 : sm = 0
  ·have HF : Hid (D = (rm, .increasing)) := Lib.hid (by rw [HE.out, if_pos z0])
   have kz : ((sm : Int) == 0) = true := beq_iff_eq.2 (by omega)
   clear HE z0
   go_wp2_with fail
   go_ret2
   rw [HF.out]
   exact ⟨rfl, HZ.out⟩
  ·have kz : ((sm : Int) == 0) = false := beq_eq_false_iff_ne.2 (by omega)
   by_cases z1 : sm = 12
   ·have HF : Hid (D = (rm, .decreasing)) := Lib.hid (by rw [HE.out, if_neg z0, if_pos z1])
    have ky : ((sm : Int) == 12) = true := beq_iff_eq.2 (by omega)
    clear HE z0 z1
    go_wp2_with fail
    go_ret2
    rw [HF.out]
    exact ⟨rfl, HZ.out⟩
   ·have HF : Hid (D = (rm, .unknown)) := Lib.hid (by rw [HE.out, if_neg z0, if_neg z1])
    have ky : ((sm : Int) == 12) = false := beq_eq_false_iff_ne.2 (by omega)
    clear HE z0 z1
    go_wp2_with fail
    go_ret2
    rw [HF.out]
    exact ⟨rfl, HZ.out⟩
end Go.Proofs.YtmcdollkmlcpbaaGreatDoor
set_option linter.unusedSimpArgs false
set_option linter.unusedVariables false
namespace Go.Proofs.YtmcdollkmlcpbaaGreatDoor
open Go.RowKit
set_option maxRecDepth 100000
set_option maxHeartbeats 16000000 in
theorem peq_any (lt : Nat → Nat → Bool) (HL : ∀ (x y : Nat) (w : World), Calls Tryz.prog 83 #[.int .u32 ((x : Nat) : Int), .int .u32 ((y : Nat) : Int)] w fun e w' => e = .returned (.bool (lt x y)) ∧ w' = w) {B : Nat} {w0 w : World} {ts : List Kt} {g n c : Nat} {d : Array Nat} (h : Sep B w0 w (thS g n c d :: ts)) (a b pv : Nat) (hab : a < b) (hpv : pv < n) (hb : b ≤ n) (hn : n ≤ 1000000000000) :
  Calls Tryz.prog 84 #[.slice (some ⟨g, 0, none⟩) n c, .int .i64 (a : Nat), .int .i64 (b : Nat), .int .i64 (pv : Nat)] w fun e w' => e = .returned (.int .i64 ((Go.Sort.partitionEqual lt d a b pv).1 : Nat)) ∧ Sep B w0 w' (thS g n c (Go.Sort.partitionEqual lt d a b pv).2 :: ts) := by
 have hmx : Tryz.prog.follows .mixedOrders = true := by kernel_rfl
 have hL := Lib.hid HL
 have hnd := srt_len h
 have a0 : (0 : Int) ≤ (a : Int) := by omega
 have a1 : (a : Int) < (n : Int) := by omega
 have p0 : (0 : Int) ≤ (pv : Int) := by omega
 have p1 : (pv : Int) < (n : Int) := by omega
 obtain ⟨x1, hx1⟩ : ∃ x, x = d[a]! := ⟨_, rfl⟩
 obtain ⟨x2, hx2⟩ : ∃ x, x = d[pv]! := ⟨_, rfl⟩
 have e1 := srt_cell h (i := a) (by omega)
 have e2 := srt_cell h (i := pv) (by omega)
 have f1 := srt_froz h a
 have f2 := srt_froz h pv
 rw [← hx1] at e1
 rw [← hx2] at e2
 have e3 := srt_cell (srt_set h a x2) (i := pv) (by simp; omega)
 have f3 := srt_froz (srt_set h a x2) pv
 obtain ⟨x3, hx3⟩ : ∃ x, x = (d.setIfInBounds a x2)[pv]! := ⟨_, rfl⟩
 rw [← hx3] at e3
 have h4 := srt_swp h a pv
 rw [← hx1, ← hx2] at h4
 have H0 := Lib.hid (h4.go (Below.refl _ _).drew)
 obtain ⟨R, hR⟩ : ∃ R, R = Go.Sort.partitionEqual lt d a b pv := ⟨_, rfl⟩
 rw [← hR]
 unfold Go.Sort.partitionEqual at hR
 have HR0 := Lib.hid hR
 clear HL h hx1 hx2 hx3 h4 hR hnd
 go_enter Tryz.func84, Tryz.ntmps84
 go_wp2_with fail
 go_region
 obtain ⟨wz, hwz⟩ : ∃ W, W = ((w.setCell ⟨g, a, none⟩ (.int .u32 ((x2 : Nat) : Int))).setCell ⟨g, pv, none⟩ (.int .u32 ((x1 : Nat) : Int))).drew := ⟨_, rfl⟩
 rw [← hwz] at H0 ⊢
 clear hwz e1 e2 e3 f1 f2 f3
 go_wp2_with fail
 go_loopw [9, 10] (fun s t wr => ∃ i j : Nat, s = .int .i64 i ∧ t = .int .i64 j ∧ a + 1 ≤ i ∧ i ≤ j + 1 ∧ j < b ∧ Hid (∃ dd, Sep B w0 wr (thS g n c dd :: ts) ∧ Go.Sort.partEqLoop lt a i j dd = R)) (fun s t _ => (intOf t + 1 - intOf s).toNat)
 case atStart => exact ⟨a + 1, b - 1, by go_num, by rw [show ((b - 1 : Nat) : Int) = (b : Int) - 1 by omega], Nat.le_refl _, by omega, by omega, Lib.hid ⟨_, H0.out, HR0.out.symm⟩⟩
 case round =>
  obtain ⟨i, j, rfl, rfl, hai, hij, hjb, HR⟩ := hrel
  clear H0 HR0
  obtain ⟨dd, hs, hd⟩ := HR.out
  rw [Go.Sort.partEqLoop_eq] at hd
  obtain ⟨P, hP⟩ : ∃ P, P = fun x => !lt dd[a]! x := ⟨_, rfl⟩
  obtain ⟨Q, hQ⟩ : ∃ Q, Q = fun x => lt dd[a]! x := ⟨_, rfl⟩
  have hPd : ∀ x, P x = !lt dd[a]! x := fun x => by rw [hP]
  have hQd : ∀ x, Q x = lt dd[a]! x := fun x => by rw [hQ]
  rw [← hP, ← hQ] at hd
  clear hP hQ
  have sp1 := Go.Sort.scanUp_spec P dd j _ i rfl
  obtain ⟨i2, hi2⟩ : ∃ i2, i2 = Go.Sort.scanUp P dd j i := ⟨_, rfl⟩
  rw [← hi2] at hd sp1
  have sp2 := Go.Sort.scanDown_spec Q dd i2 j
  obtain ⟨j2, hj2⟩ : ∃ j2, j2 = Go.Sort.scanDown Q dd i2 j := ⟨_, rfl⟩
  rw [← hj2] at hd sp2
  have q1 : i ≤ i2 := sp1.1
  have q2 : i2 ≤ j + 1 := sp1.2.1 hij
  have q3 : j2 ≤ j := sp2.1
  have q4 : i2 ≤ j2 + 1 := sp2.2.1 (by omega)
  have q5 : i2 ≤ j2 → i2 < j2 := fun h => by
   rcases Nat.lt_or_ge i2 j2 with h1 | h1
   ·exact h1
   ·have h2 : i2 = j2 := by omega
    have t1 := sp1.2.2.2 (by omega)
    have t2 := sp2.2.2.2 h (by omega)
    rw [← h2, hQd] at t2
    rw [hPd] at t1
    simp at t1
    rw [t1] at t2
    cases t2
  have HS : Hid (Sep B w0 wr (thS g n c dd :: ts) ∧ Go.Sort.scanUp P dd j i = i2) := Lib.hid ⟨hs, hi2.symm⟩
  have HQ := Lib.hid (And.intro hd (And.intro hj2.symm q5))
  clear hs hd hi2 hj2 sp1 sp2 q5 HR
  go_wp2_with fail
  go_loopw [9] (fun s wr => ∃ k : Nat, s = .int .i64 k ∧ i ≤ k ∧ k ≤ j + 1 ∧ Hid (Sep B w0 wr (thS g n c dd :: ts) ∧ Go.Sort.scanUp P dd j k = i2)) (fun s _ => j + 1 - (intOf s).toNat)
  case atStart => exact ⟨i, rfl, Nat.le_refl _, by omega, HS⟩
  case round =>
   obtain ⟨k, rfl, hk1, hk2, HR⟩ := hrel
   clear HS
   by_cases hkj : k ≤ j
   case' pos =>
    have hq : decide ((k : Int) ≤ (j : Int)) = true := decide_eq_true (by omega)
    have hq' : (k : Int) ≤ (j : Int) := by omega
    have a0 : (0 : Int) ≤ (a : Int) := by omega
    have a1 : (a : Int) < (n : Int) := by omega
    have k0 : (0 : Int) ≤ (k : Int) := by omega
    have k1 : (k : Int) < (n : Int) := by omega
    obtain ⟨hs, hd⟩ := HR.out
    have hnd := srt_len hs
    obtain ⟨xa, hxa⟩ : ∃ x, x = dd[a]! := ⟨_, rfl⟩
    obtain ⟨xk, hxk⟩ : ∃ x, x = dd[k]! := ⟨_, rfl⟩
    have e1 := srt_cell hs (i := a) (by omega)
    have e2 := srt_cell hs (i := k) (by omega)
    rw [← hxa] at e1
    rw [← hxk] at e2
    rw [Go.Sort.scanUp, decide_eq_true hkj, Bool.true_and, hPd] at hd
    rw [← hxa, ← hxk] at hd
    obtain ⟨r, hr⟩ : ∃ r, r = lt xa xk := ⟨_, rfl⟩
    rw [← hr] at hd
    have hp := plus_cell wr
    have HC := Lib.hid (fun (y : More) => And.intro (hL.out xa xk (plus wr y)) (hs.go (plus_below wr y)))
    rw [← hr] at HC
    have Hd := Lib.hid hd
    skip
    skip
    clear hs hd hnd hxa hxk hr HR
    go_wp2_with fail
    refine wp_region_tail_ext 12 (by kernel_rfl) (by kernel_rfl) ?_
    simp only [List.take_succ_cons, List.take_zero, List.drop_succ_cons, List.drop_zero]
    repeat (go_big_quiet_step (fail))
    refine wpQuiet_nil ?_
    rintro w2 ⟨y, rfl⟩
    have HC1 := Lib.hid (HC.out y)
    clear HC e1 e2 hp
    go_wp2_with fail
    refine HC1.out.1.mono ?_
    rintro e wx ⟨rfl, hw3⟩
    have HS : Hid (Sep B w0 wx (thS g n c dd :: ts)) := Lib.hid (by rw [hw3]; exact HC1.out.2)
    clear hw3 HC1
    cases r
    case' false =>
     have hd := Hd.out
     rw [if_pos (by first | rfl | trivial | decide)] at hd
     skip
     have hrr := Lib.hid (And.intro HS.out hd)
     clear hd
     skip
     go_wp2_with fail
     go_roundw
     case measure => simp [intOf]; omega
     case rel => exact ⟨k + 1, by go_num, by omega, by omega, hrr⟩
    case' true =>
     have hki : k = i2 := by
      have hd := Hd.out
      rw [if_neg (by decide)] at hd
      exact hd
   case' neg =>
    have hq : decide ((k : Int) ≤ (j : Int)) = false := decide_eq_false (by omega)
    have hq' : ¬ (k : Int) ≤ (j : Int) := by omega
    have hki : k = i2 := by
     have := HR.out.2
     rw [Go.Sort.scanUp, if_neg (by simp; intro h; omega)] at this
     exact this
    obtain ⟨hs, -⟩ := HR.out
    have hp := plus_cell wr
    have HS0 := Lib.hid (And.intro hs hki)
    clear hs HR hki
    go_wp2_with fail
    refine wp_region_ext hmx (by kernel_rfl) ?_
    repeat (go_big_quiet_step (fail))
    refine wpQuiet_nil ?_
    rintro wx ⟨y, hwx⟩
    have HS : Hid (Sep B w0 wx (thS g n c dd :: ts)) := Lib.hid (by rw [hwx]; exact HS0.out.1.go (plus_below wr y))
    have hki := HS0.out.2
    clear hwx hp HS0
   all_goals
    rw [hki]
    clear hki hk1 hk2
    replace HS : Hid (Sep B w0 wx (thS g n c dd :: ts) ∧ Go.Sort.scanDown Q dd i2 j = j2) := Lib.hid ⟨HS.out, HQ.out.2.1⟩
    go_wp2_with fail
    go_loopw [10] (fun s wr => ∃ k : Nat, s = .int .i64 k ∧ k ≤ j ∧ i2 ≤ k + 1 ∧ Hid (Sep B w0 wr (thS g n c dd :: ts) ∧ Go.Sort.scanDown Q dd i2 k = j2)) (fun s _ => (intOf s).toNat)
    case atStart => exact ⟨j, rfl, Nat.le_refl _, by omega, HS⟩
    case round =>
     obtain ⟨k, rfl, hk1, hk2, HR⟩ := hrel
     clear HS
     by_cases hkj : i2 ≤ k
     case' pos =>
      have hq : decide ((i2 : Int) ≤ (k : Int)) = true := decide_eq_true (by omega)
      have hq' : (i2 : Int) ≤ (k : Int) := by omega
      have a0 : (0 : Int) ≤ (a : Int) := by omega
      have a1 : (a : Int) < (n : Int) := by omega
      have k0 : (0 : Int) ≤ (k : Int) := by omega
      have k1 : (k : Int) < (n : Int) := by omega
      obtain ⟨hs, hd⟩ := HR.out
      have hnd := srt_len hs
      obtain ⟨xa, hxa⟩ : ∃ x, x = dd[a]! := ⟨_, rfl⟩
      obtain ⟨xk, hxk⟩ : ∃ x, x = dd[k]! := ⟨_, rfl⟩
      have e1 := srt_cell hs (i := a) (by omega)
      have e2 := srt_cell hs (i := k) (by omega)
      rw [← hxa] at e1
      rw [← hxk] at e2
      obtain ⟨k', hk'⟩ : ∃ k', k = k' + 1 := ⟨k - 1, by omega⟩
      rw [hk', Go.Sort.scanDown, ← hk', decide_eq_true hkj, Bool.true_and, hQd] at hd
      rw [← hxa, ← hxk] at hd
      obtain ⟨r, hr⟩ : ∃ r, r = lt xa xk := ⟨_, rfl⟩
      rw [← hr] at hd
      have hp := plus_cell wr
      have HC := Lib.hid (fun (y : More) => And.intro (hL.out xa xk (plus wr y)) (hs.go (plus_below wr y)))
      rw [← hr] at HC
      have Hd := Lib.hid hd
      have Hk := Lib.hid hk'
      clear hk'
      clear hs hd hnd hxa hxk hr HR
      go_wp2_with fail
      refine wp_region_tail_ext 12 (by kernel_rfl) (by kernel_rfl) ?_
      simp only [List.take_succ_cons, List.take_zero, List.drop_succ_cons, List.drop_zero]
      repeat (go_big_quiet_step (fail))
      refine wpQuiet_nil ?_
      rintro w2 ⟨y, rfl⟩
      have HC1 := Lib.hid (HC.out y)
      clear HC e1 e2 hp
      go_wp2_with fail
      refine HC1.out.1.mono ?_
      rintro e wx ⟨rfl, hw3⟩
      have HS : Hid (Sep B w0 wx (thS g n c dd :: ts)) := Lib.hid (by rw [hw3]; exact HC1.out.2)
      clear hw3 HC1
      cases r
      case' true =>
       have hd := Hd.out
       rw [if_pos (by first | rfl | trivial | decide)] at hd
       have hk' := Hk.out
       have hrr := Lib.hid (And.intro HS.out hd)
       clear hd
       clear hk'
       go_wp2_with fail
       go_roundw
       case measure => simp [intOf]; have := Hk.out; omega
       case rel => exact ⟨k', by rw [show ((k : Int) - 1) = (k' : Int) by have := Hk.out; omega], by have := Hk.out; omega, by have := Hk.out; omega, hrr⟩
      case' false =>
       have hki : k = j2 := by
        have hd := Hd.out
        rw [if_neg (by decide)] at hd
        exact hd
     case' neg =>
      have hq : decide ((i2 : Int) ≤ (k : Int)) = false := decide_eq_false (by omega)
      have hq' : ¬ (i2 : Int) ≤ (k : Int) := by omega
      have hki : k = j2 := by
       have := HR.out.2
       cases k with
       | zero => exact this
       | succ k => rw [Go.Sort.scanDown, if_neg (by simp; intro h; omega)] at this; exact this
      obtain ⟨hs, -⟩ := HR.out
      have hp := plus_cell wr
      have HS0 := Lib.hid (And.intro hs hki)
      clear hs HR hki
      go_wp2_with fail
      refine wp_region_ext hmx (by kernel_rfl) ?_
      repeat (go_big_quiet_step (fail))
      refine wpQuiet_nil ?_
      rintro wx ⟨y, hwx⟩
      have HS : Hid (Sep B w0 wx (thS g n c dd :: ts)) := Lib.hid (by rw [hwx]; exact HS0.out.1.go (plus_below wr y))
      have hki := HS0.out.2
      clear hwx hp HS0
     all_goals
      rw [hki]
      clear hki hk1 hk2
      by_cases hgt : i2 > j2
      ·have hg : decide ((j2 : Int) < (i2 : Int)) = true := decide_eq_true (by omega)
       have hg' : (j2 : Int) < (i2 : Int) := by omega
       have HF : Hid (R = (i2, dd)) := Lib.hid (by
        have := HQ.out.1
        rw [if_pos hgt] at this
        exact this.symm)
       clear hgt
       go_wp2_with fail
       go_ret
       rw [HF.out]
       exact ⟨rfl, HS.out⟩
      ·have hg : decide ((j2 : Int) < (i2 : Int)) = false := decide_eq_false (by omega)
       have hg' : ¬ (j2 : Int) < (i2 : Int) := by omega
       have q6 : i2 < j2 := HQ.out.2.2 (by omega)
       have HF : Hid (Go.Sort.partEqLoop lt a (i2 + 1) (j2 - 1) (Go.Sort.swp dd i2 j2) = R) := Lib.hid (by
        have := HQ.out.1
        rw [if_neg hgt] at this
        exact this)
       have hs := HS.out
       have hnd := srt_len hs
       have i0 : (0 : Int) ≤ (i2 : Int) := by omega
       have i1 : (i2 : Int) < (n : Int) := by omega
       have j0 : (0 : Int) ≤ (j2 : Int) := by omega
       have j1 : (j2 : Int) < (n : Int) := by omega
       obtain ⟨y1, hy1⟩ : ∃ x, x = dd[i2]! := ⟨_, rfl⟩
       obtain ⟨y2, hy2⟩ : ∃ x, x = dd[j2]! := ⟨_, rfl⟩
       have e1 := srt_cell hs (i := i2) (by omega)
       have e2 := srt_cell hs (i := j2) (by omega)
       have f1 := srt_froz hs i2
       have f2 := srt_froz hs j2
       rw [← hy1] at e1
       rw [← hy2] at e2
       have h4 := srt_swp hs i2 j2
       rw [← hy1, ← hy2] at h4
       have H4 := Lib.hid (h4.go (Below.refl _ _).drew)
       clear hs hnd hy1 hy2 h4 hgt HS
       go_wp2_with fail
       go_region
       obtain ⟨wv, hwv⟩ : ∃ W, W = ((wx.setCell ⟨g, i2, none⟩ (.int .u32 ((y2 : Nat) : Int))).setCell ⟨g, j2, none⟩ (.int .u32 ((y1 : Nat) : Int))).drew := ⟨_, rfl⟩
       rw [← hwv] at H4 ⊢
       clear hwv e1 e2 f1 f2
       go_wp2_with fail
       go_roundw
       case measure => simp [intOf]; omega
       case rel => exact ⟨i2 + 1, j2 - 1, by go_num, by rw [show ((j2 - 1 : Nat) : Int) = (j2 : Int) - 1 by omega], by omega, by omega, by omega, Lib.hid ⟨_, H4.out, HF.out⟩⟩
end Go.Proofs.YtmcdollkmlcpbaaGreatDoor
