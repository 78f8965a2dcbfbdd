/- Layer 23: slices.Grow of nothing; slices.Concat of three. -/
import Derived.Test.YtfbnobhecfgahaaSp2
import Derived.Lib.AppendZerosOnto
set_option linter.unusedSimpArgs false
set_option linter.unusedVariables false
namespace Go.Proofs.Ytfbnobhecfgahaa
open Go.RowKit
set_option maxRecDepth 100000

theorem grow_any (n : Nat) (hn : n ≤ 10000000) (w : World) :
    Calls Try.prog 36 #[.slice none 0 0, .int .i64 n] w fun e w' => ∃ A c, e = .returned (.slice A 0 c) ∧ OwnR w' w.heap.size 24 encS 2 (.slice A 0 c) [] ∧ Below w.heap.size w w' := by
  by_cases h0 : n = 0
  · subst h0
    go_enter Try.func36, Try.ntmps36
    go_wp2_with fail
    go_ret
    exact ⟨none, 0, rfl, OwnR.nil _ _ _ _ _, Below.refl _ _⟩
  · obtain ⟨i, hi, hz, hsz, hby⟩ := info_parts (show (Try.prog.info? 24).map (fun i => (i.zero, i.size, i.bytes)) = some (some (.agg #[.int .i64 0, .int .i64 0]), 2, 16) by kernel_rfl)
    have hold : (Builtin.firstCells i.size 0 (.slice none 0 0)).run Try.prog w.drew = .ok ([] : List Value).toArray w.drew := by simp [Builtin.firstCells]
    have hrz := fun ty => Lib.run_append_grow_zeros w 22 3 ty 24 i (.agg #[.int .i64 0, .int .i64 0]) .i64 .i64 Try.underlying22 Try.underlying3 hi hz none 0 0 [] hold n (by omega) (by omega) (by omega) (by omega)
      (by rw [hby]; omega) (growslice_fits (by omega) (by rw [hby]; omega))
    rw [Nat.zero_add] at hrz
    obtain ⟨G, hG⟩ : ∃ G, G = grownCap w n 0 24 := ⟨_, rfl⟩
    have hGn : n ≤ G := by rw [hG]; exact grownCap_ge w _ _ _
    have hGm : G ≤ maxLen := by rw [hG]; exact grownCap_le_maxLen w n 0 24 (by unfold maxLen; omega)
    rw [← hG] at hrz
    obtain ⟨cur, hcur⟩ : ∃ cur, cur = ([] : List Value).toArray ++ Builtin.zeroCells (Value.agg #[.int .i64 0, .int .i64 0]).cells n ++ Builtin.zeroCells (Value.agg #[.int .i64 0, .int .i64 0]).cells (G - n) := ⟨_, rfl⟩
    have hcs : cur.size = G * 2 := by
      rw [hcur, Array.size_append, Array.size_append, size_zeroCells, size_zeroCells]
      show 0 + n * 2 + (G - n) * 2 = G * 2
      omega
    rw [← hcur] at hrz
    have hown : OwnR (w.drew.alloc (.cells cur 24)) w.heap.size 24 encS 2 (.slice (some ⟨w.heap.size, 0, none⟩) 0 G) [] := World.ownsRow_made w.drew cur G (Nat.le_refl _) hGm hcs
    have HO := Lib.hid hown
    have HB : Hid (Below w.heap.size w (w.drew.alloc (.cells cur 24))) := Lib.hid (Below.trans (b := w.drew) ((Below.refl _ w).grown (grown_drew w none) (Nat.le_refl _) (fun k e => by cases e)) (below_alloc w.drew _))
    have hGm2 := hGm
    unfold maxLen at hGm2
    have HR := Lib.hid hrz
    clear hold hi hz hsz hby hG hcur hcs hown hrz hGm
    have hn0 : 0 < n := by omega
    go_enter Try.func36, Try.ntmps36
    go_wp2_with (at_builtin; refine Lib.wpList_append_run _ rfl _ _ _ _ rfl _ _ rfl rfl _ _ (HR.out _) ?_)
    go_ret
    exact ⟨some ⟨w.heap.size, 0, none⟩, G, rfl, HO.out, HB.out⟩

/-- slices of spans, as they lie in one another -/
structure SlS where
  A : Option Addr
  c : Nat
  l : List Sp
def lenS (L : List SlS) : Nat := (L.map fun s => s.l.length).sum
def catS (L : List SlS) : List Sp := L.flatMap fun s => s.l
theorem lenS_take {L : List SlS} {k : Nat} {s : SlS} (h : L[k]? = some s) : lenS (L.take (k + 1)) = lenS (L.take k) + s.l.length := by
  obtain ⟨hk, he⟩ := List.getElem?_eq_some_iff.1 h
  unfold lenS
  rw [List.take_succ_eq_append_getElem hk, List.map_append, List.sum_append, he]
  simp
theorem catS_take {L : List SlS} {k : Nat} {s : SlS} (h : L[k]? = some s) : catS (L.take (k + 1)) = catS (L.take k) ++ s.l := by
  obtain ⟨hk, he⟩ := List.getElem?_eq_some_iff.1 h
  unfold catS
  rw [List.take_succ_eq_append_getElem hk, List.flatMap_append, he]
  simp
theorem catS_length (L : List SlS) : (catS L).length = lenS L := by
  induction L with
  | nil => rfl
  | cons s L ih => unfold catS lenS at *; rw [List.flatMap_cons, List.length_append, ih, List.map_cons, List.sum_cons]

set_option maxHeartbeats 1000000 in
theorem concat_any (q : Nat) (L : List SlS) (w : World) (hq : ∀ i s, L[i]? = some s → w.cell? ⟨q, i, none⟩ = some (.slice s.A s.l.length s.c)) (hP : ∀ s ∈ L, Ps w s.A s.l ∧ s.l.length ≤ 1000000) (hL : L.length ≤ 3) :
    Calls Try.prog 30 #[.slice (some ⟨q, 0, none⟩) L.length L.length] w fun e w' => ∃ A c, e = .returned (.slice A (catS L).length c) ∧ OwnR w' w.heap.size 24 encS 2 (.slice A (catS L).length c) (catS L) ∧ Below w.heap.size w w' := by
  have HQ := Lib.hid hq
  have HP := Lib.hid hP
  have hsum : ∀ k, k ≤ L.length → lenS (L.take k) ≤ k * 1000000 := by
    intro k
    induction k with
    | zero => intro _; simp [lenS]
    | succ k ih =>
      intro hk
      have := lenS_take (List.getElem?_eq_getElem (show k < L.length by omega))
      have h2 := (hP L[k] (List.getElem_mem (by omega))).2
      have h3 := ih (by omega)
      rw [this, Nat.succ_mul]; omega
  have HS := Lib.hid hsum
  clear hq hP hsum
  go_enter Try.func30, Try.ntmps30
  go_wp2_with fail
  go_loop [3, 11] (fun s3 s11 => ∃ (k n : Nat), k ≤ L.length ∧ n ≤ 3000000 ∧ s11 = .int .i64 k ∧ s3 = .int .i64 n ∧ Hid (n = lenS (L.take k)))
    (fun _ s11 => L.length - (intOf s11).toNat)
  case atStart => exact ⟨0, 0, Nat.zero_le _, Nat.zero_le _, rfl, rfl, Lib.hid rfl⟩
  case round =>
    obtain ⟨k, n, hk, hn, rfl, rfl, HN⟩ := hrel
    by_cases hlt : k < L.length
    · have hc := HQ.out k L[k] (List.getElem?_eq_getElem hlt)
      have hst := lenS_take (List.getElem?_eq_getElem hlt)
      have hb := HS.out (k + 1) (by omega)
      have hlb := (HP.out L[k] (List.getElem_mem hlt)).2
      obtain ⟨s, hs⟩ : ∃ s, s = L[k] := ⟨_, rfl⟩
      rw [← hs] at hc hst hlb
      rw [← HN.out] at hst
      obtain ⟨sA, sc, sl⟩ := s
      dsimp only at hc hst hlb
      have hnn : n + sl.length ≤ 3000000 := by rw [← hst]; have : (k + 1) * 1000000 ≤ 3 * 1000000 := Nat.mul_le_mul_right _ (by omega); omega
      have Hst := Lib.hid hst
      clear hs hst hb
      go_wp2_with fail
      go_round
      case measure => simp [intOf]; omega
      case rel => exact ⟨k + 1, n + sl.length, by omega, by omega, by go_num, by go_num, Lib.hid Hst.out.symm⟩
    · obtain rfl : k = L.length := by omega
      rw [List.take_length] at HN
      go_wp2_with fail
      refine (grow_any n (by omega) w).mono ?_
      rintro e w1 ⟨A1, c1, rfl, k1, k2⟩
      have HO1 := Lib.hid k1
      have HB1 := Lib.hid k2
      clear k1 k2
      go_wp2_with fail
      go_loopw [6, 27] (fun s6 s27 wr => ∃ (k m : Nat) (A2 : Option Addr) (c2 : Nat), k ≤ L.length ∧ m ≤ 3000000 ∧ s27 = .int .i64 k ∧ s6 = .slice A2 m c2 ∧ Hid (m = (catS (L.take k)).length) ∧ Hid (OwnR wr w.heap.size 24 encS 2 (.slice A2 m c2) (catS (L.take k))) ∧ Hid (Below w.heap.size w wr))
        (fun _ s27 _ => L.length - (intOf s27).toNat)
      case atStart => exact ⟨0, 0, A1, c1, Nat.zero_le _, Nat.zero_le _, rfl, rfl, Lib.hid rfl, HO1, HB1⟩
      case round =>
        obtain ⟨k, m, A2, c2, hk, hm, rfl, rfl, HM, HO, HB⟩ := hrel
        have hsz := HB.out.size
        by_cases hlt : k < L.length
        · have hc := HQ.out k L[k] (List.getElem?_eq_getElem hlt)
          have hst := catS_take (List.getElem?_eq_getElem hlt)
          have hb := HS.out (k + 1) (by omega)
          have hlb := HP.out L[k] (List.getElem_mem hlt)
          obtain ⟨s, hs⟩ : ∃ s, s = L[k] := ⟨_, rfl⟩
          rw [← hs] at hc hst hlb
          obtain ⟨sA, sc, sl⟩ := s
          dsimp only at hc hst hlb
          have hl1 := congrArg List.length hst
          rw [catS_length, List.length_append, ← HM.out] at hl1
          have hnn : m + sl.length ≤ 3000000 := by have : (k + 1) * 1000000 ≤ 3 * 1000000 := Nat.mul_le_mul_right _ (by omega); omega
          have hcw := (HB.out.cell (cell_lt hc)).trans hc
          obtain ⟨M, hMe⟩ : ∃ M, M = catS (L.take k) := ⟨_, rfl⟩
          rw [← hMe] at HO HM hst
          have hmM := HM.out
          subst hmM
          have HP2 := Lib.hid (hlb.1.below HB.out (Nat.le_refl _))
          have Hst := Lib.hid hst
          have hlb2 := hlb.2
          clear hs hst hb hc hlb hl1 hMe
          go_wp2_with (at_builtin; go_must (refine appR Try.eltS _ rfl (.tmp 31) (.tmp 32) rfl w.heap.size _ M rfl HO.out sA sc sl rfl HP2.out (by unfold maxLen; omega) (by omega) hsz ?_); intro A3 c3 w3 hown3 hb3)
          go_roundw
          case measure => simp [intOf]; omega
          case rel => exact ⟨k + 1, M.length + sl.length, A3, c3, by omega, by omega, by go_num, by simp, Lib.hid (by rw [Hst.out, List.length_append]), Lib.hid (by rw [Hst.out]; exact hown3), Lib.hid (HB.out.trans hb3)⟩
        · obtain rfl : k = L.length := by omega
          rw [List.take_length] at HM HO
          have hmM := HM.out
          go_wp2_with fail
          go_ret
          rw [← HM.out]
          exact ⟨A2, c2, rfl, HO.out, HB.out⟩

theorem rw_take {α : Type} {enc : α → List Value} {sz : Nat} {w : World} {V : Option Addr} {l : List α} (h : Rw w enc sz V l) (k : Nat) : Rw w enc sz V (l.take k) := fun i x hi => h i x (by
  rw [List.getElem?_take] at hi
  split at hi
  · exact hi
  · cases hi)
theorem rw_drop {α : Type} {enc : α → List Value} {sz : Nat} {w : World} {a : Addr} {l : List α} (h : Rw w enc sz (some a) l) (k : Nat) : Rw w enc sz (some (a.add (k * sz))) (l.drop k) := fun i x hi => by
  rw [List.getElem?_drop] at hi
  obtain ⟨p, o, hV, hc⟩ := h _ x hi
  injection hV with e
  subst e
  refine ⟨p, o + k * sz, ?_, fun j v hj => ?_⟩
  · unfold Addr.add
    split
    · rename_i h0; rw [h0]; rfl
    · rfl
  · have := hc j v hj
    rw [Nat.add_mul] at this
    rw [show o + k * sz + i * sz + j = o + (k * sz + i * sz) + j by omega]
    exact this
theorem rw_one {α : Type} {enc : α → List Value} {sz : Nat} {w : World} {g : Nat} {t : TypeId} {cs : Array Value} {x : α} (h : Blk w g t cs) (hcs : cs = (enc x).toArray) : Rw w enc sz (some ⟨g, 0, none⟩) [x] := fun i y hi => by
  cases i with
  | succ i => simp at hi
  | zero =>
    simp at hi
    subst hi
    refine ⟨g, 0, rfl, fun j v hj => ?_⟩
    rw [Nat.zero_mul, Nat.add_zero, Nat.zero_add, h.cell, hcs]
    simpa using hj

/-- Concat of three, as Add and Drop call it -/
theorem concat3 (q n1 n2 n3 c1 c2 c3 : Nat) (A1 A2 A3 : Option Addr) (l1 l2 l3 : List Sp) (t : TypeId) (w : World) (hB : Blk w q t #[.slice A1 n1 c1, .slice A2 n2 c2, .slice A3 n3 c3]) (h1 : Ps w A1 l1) (h2 : Ps w A2 l2) (h3 : Ps w A3 l3)
    (e1 : l1.length = n1) (e2 : l2.length = n2) (e3 : l3.length = n3) (b1 : n1 ≤ 1000000) (b2 : n2 ≤ 1000000) (b3 : n3 ≤ 1000000) :
    Calls Try.prog 30 #[.slice (some ⟨q, 0, none⟩) 3 3] w fun e w' => ∃ A c, e = .returned (.slice A (l1 ++ l2 ++ l3).length c) ∧ OwnR w' w.heap.size 24 encS 2 (.slice A (l1 ++ l2 ++ l3).length c) (l1 ++ l2 ++ l3) ∧ Below w.heap.size w w' := by
  subst e1 e2 e3
  have h := concat_any q [⟨A1, c1, l1⟩, ⟨A2, c2, l2⟩, ⟨A3, c3, l3⟩] w (fun i s hs => by
    match i, hs with
    | 0, hs => injection hs with hs; subst hs; exact hB.cell 0
    | 1, hs => injection hs with hs; subst hs; exact hB.cell 1
    | 2, hs => injection hs with hs; subst hs; exact hB.cell 2
    | i + 3, hs => simp at hs) (fun s hs => by
    simp only [List.mem_cons, List.not_mem_nil, or_false] at hs
    rcases hs with rfl | rfl | rfl
    · exact ⟨h1, b1⟩
    · exact ⟨h2, b2⟩
    · exact ⟨h3, b3⟩) (by simp)
  have e : catS [⟨A1, c1, l1⟩, ⟨A2, c2, l2⟩, ⟨A3, c3, l3⟩] = l1 ++ l2 ++ l3 := by simp [catS]
  rw [e] at h
  exact h

end Go.Proofs.Ytfbnobhecfgahaa
