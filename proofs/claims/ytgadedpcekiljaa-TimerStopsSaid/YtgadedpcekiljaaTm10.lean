/- Layer 14: any call on both sides; what stands behind it; the chapter's example. -/
import Derived.Test.YtgadedpcekiljaaTm9
set_option linter.unusedSimpArgs false
set_option linter.unusedVariables false
namespace Go.Proofs.Ytgadedpcekiljaa
open Go.RowKit
set_option maxRecDepth 100000

theorem does14_any {B : Nat} {w0 w : World} {tq tk rq rk : Nat} {M L : List (Nat × Nat × Nat)} {ts : List Kt} {o : OT} {k : Nat} (h : Tb B w0 w tq tk M rq rk L ts) (hb : Bt k M L tk rk) (hs : o.se < 4294967296) (hn : o.now < 18446744073709551616) :
    Calls Try.prog 9 #[.pointer (some ⟨tq, 0, none⟩), .pointer (some ⟨rq, 0, none⟩), .agg (celT o)] w (DsOut B w0 tq tk rq rk ts M L o) := by
  rcases Nat.lt_trichotomy (o.kd % 6) 2 with h1 | h1 | h1
  · exact does_start h hb hs hn h1
  · exact does_again h hb hs hn h1
  · rcases Nat.lt_trichotomy (o.kd % 6) 4 with h2 | h2 | h2
    · exact does_stop h hb hs hn (by omega)
    · exact does_due4 h hb hs hn h2
    · exact does_due5 h hb hs hn (by omega)
theorem RelT.congr {f g : Nat → Option (Nat × Nat)} {L : List (Nat × Nat × Nat)} (h : RelT f L) (e : ∀ k, g k = f k) : RelT g L := ⟨h.1, fun k => (e k).trans (h.2 k)⟩
theorem RelT.step {f : Nat → Option (Nat × Nat)} {L : List (Nat × Nat × Nat)} (h : RelT f L) (tk : Nat) (o : OT) : RelT (stepF tk o f) (stepR tk o L) := by
  have ha : ∀ k, (if k = o.se then some (almD tk o.now 0) else f k) = (lookM (againR tk o.now o.se L) k).map fun c => (c.2, min c.1 4) := fun k => by
    rw [look_again]
    by_cases hk : k = o.se
    · rw [if_pos hk, if_pos hk]; unfold almD; simp
    · rw [if_neg hk, if_neg hk, h.2]
  unfold stepF stepR
  by_cases h2 : o.kd % 6 = 2
  · simp only [if_pos h2]
    exact ⟨h.1.again _ _ _, ha⟩
  · by_cases h3 : o.kd % 6 = 3
    · simp only [if_neg h2, if_pos h3]
      refine ⟨h.1.del _, fun k => ?_⟩
      show (if k = o.se then none else f k) = _
      rw [look_del]
      by_cases hk : k = o.se
      · rw [if_pos hk, if_pos hk]; rfl
      · rw [if_neg hk, if_neg hk, h.2]
    · by_cases h4 : 3 < o.kd % 6
      · simp only [if_neg h2, if_neg h3, if_pos h4]
        refine ⟨h.1.due _ _, fun k => ?_⟩
        show (f k).map (dueC tk o.now) = _
        rw [look_dueR, h.2]
        cases hc : lookM L k with
        | none => rfl
        | some c =>
          obtain ⟨t, a⟩ := c
          simp only [Option.map_some]
          congr 1
          unfold dueC dueR almD
          by_cases ha : a ≤ o.now
          · rw [if_pos ha, if_pos ha]
            simp only
            rw [show min (min t 4 + 1) 4 = min (t + 1) 4 by omega]
          · rw [if_neg ha, if_neg ha]
      · simp only [if_neg h2, if_neg h3, if_neg h4]
        have e : (f o.se).isSome = (lookM L o.se).isSome := by rw [h.2]; cases lookM L o.se <;> rfl
        by_cases hs : (lookM L o.se).isSome = true
        · simp only [e, if_pos hs]; exact h
        · simp only [e, if_neg hs]; exact ⟨h.1.again _ _ _, ha⟩
theorem stepR_len (rk : Nat) (o : OT) (L : List (Nat × Nat × Nat)) : (stepR rk o L).length ≤ L.length + 1 := by
  unfold stepR
  split
  · exact again_len _ _ _ _
  · split
    · exact Nat.le_succ_of_le (del_len _ _)
    · split
      · rw [List.length_map]; omega
      · split
        · omega
        · exact again_len _ _ _ _
theorem again_mem {rk now x k : Nat} {L : List (Nat × Nat × Nat)} (h : ∀ y ∈ L, y.2.1 ≤ k) : ∀ y ∈ againR rk now x L, y.2.1 ≤ k := fun y hy => by
  unfold againR at hy
  rcases List.mem_append.1 hy with hy | hy
  · exact h y ((List.filter_sublist).subset ((List.take_sublist _ _).subset hy))
  · rcases List.mem_cons.1 hy with e | hy
    · rw [e]; exact Nat.zero_le _
    · exact h y ((List.filter_sublist).subset ((List.drop_sublist _ _).subset hy))
theorem Bt.step {k tk rk : Nat} {M M' L : List (Nat × Nat × Nat)} {o : OT} (h : Bt k M L tk rk) (hk : k < 1000) (h1 : ∀ j, lookM M' j = stepF tk o (lookM M) j) (h2 : M'.length ≤ M.length + 1) : Bt (k + 1) M' (stepR rk o L) tk rk := by
  refine ⟨h.tk, h.rk, by have := h.ml; omega, by have := h.ll; have := stepR_len rk o L; omega, fun x c hc => ?_, fun y hy => ?_, hk⟩
  · rw [h1] at hc
    unfold stepF at hc
    have hput : ∀ {z : Option (Nat × Nat)}, z = some c → (∀ d, z = some d → d = almD tk o.now 0 ∨ lookM M x = some d) → c.2 ≤ 4 := fun e hz => by
      rcases hz c e with e1 | e1
      · rw [e1]; exact Nat.zero_le _
      · exact h.mt x c e1
    have hif : ∀ d, (if x = o.se then some (almD tk o.now 0) else lookM M x) = some d → d = almD tk o.now 0 ∨ lookM M x = some d := fun d hd => by
      by_cases hx : x = o.se
      · rw [if_pos hx] at hd; exact .inl (Option.some.inj hd).symm
      · rw [if_neg hx] at hd; exact .inr hd
    by_cases k2 : o.kd % 6 = 2
    · rw [if_pos k2] at hc
      exact hput hc hif
    · rw [if_neg k2] at hc
      by_cases k3 : o.kd % 6 = 3
      · rw [if_pos k3] at hc
        by_cases hx : x = o.se
        · rw [if_pos hx] at hc; cases hc
        · rw [if_neg hx] at hc; exact h.mt x c hc
      · rw [if_neg k3] at hc
        by_cases k4 : 3 < o.kd % 6
        · rw [if_pos k4] at hc
          cases hl : lookM M x with
          | none => rw [hl] at hc; cases hc
          | some d =>
            rw [hl] at hc
            have hc : dueC tk o.now d = c := Option.some.inj hc
            rw [← hc]
            unfold dueC
            split
            · show min (d.2 + 1) 4 ≤ 4
              omega
            · exact h.mt x d hl
        · rw [if_neg k4] at hc
          by_cases hs : (lookM M o.se).isSome = true
          · rw [if_pos hs] at hc; exact h.mt x c hc
          · rw [if_neg hs] at hc; exact hput hc hif
  · have hl : ∀ y ∈ L, y.2.1 ≤ k + 1 := fun y hy => Nat.le_succ_of_le (h.lt y hy)
    unfold stepR at hy
    split at hy
    · exact again_mem hl y hy
    · split at hy
      · exact hl y ((List.filter_sublist).subset hy)
      · split at hy
        · obtain ⟨z, hz, rfl⟩ := List.mem_map.1 hy
          have := h.lt z hz
          unfold dueR
          split
          · simp only; omega
          · omega
        · split at hy
          · exact hl y hy
          · exact again_mem hl y hy

/-! ### one timer alone -/
def One (x d t : Nat) (M : List (Nat × Nat × Nat)) : Prop := ∀ k, lookM M k = if k = x then some (d, t) else none
theorem One.start {tk now x : Nat} : One x (almD tk now 0).1 0 (putM [] x (almD tk now 0)) := fun k => by
  rw [look_put]
  by_cases h : k = x
  · rw [if_pos h, if_pos h]; rfl
  · rw [if_neg h, if_neg h]; rfl
theorem One.out {x d t now : Nat} {M : List (Nat × Nat × Nat)} {l : List Nat} (h : One x d t M) (ho : OutU M now l) : l = if d ≤ now then [x] else [] := by
  refine sorted_ext ho.1 (by split <;> simp) fun k => ?_
  rw [ho.2, h]
  by_cases hk : k = x
  · subst hk
    rw [if_pos rfl]
    by_cases hd : d ≤ now
    · rw [if_pos hd]; simp [hd]
    · rw [if_neg hd]; simp; exact Nat.lt_of_not_le hd
  · rw [if_neg hk]
    by_cases hd : d ≤ now
    · rw [if_pos hd]; simp [hk]
    · rw [if_neg hd]; simp
theorem One.due {x d t tk now : Nat} {M M' : List (Nat × Nat × Nat)} (h : One x d t M) (h' : ∀ k, lookM M' k = (lookM M k).map (dueC tk now)) : One x (dueC tk now (d, t)).1 (dueC tk now (d, t)).2 M' := fun k => by
  rw [h', h]
  by_cases hk : k = x
  · rw [if_pos hk, if_pos hk]; rfl
  · rw [if_neg hk, if_neg hk]; rfl
theorem One.at {x d t : Nat} {M : List (Nat × Nat × Nat)} (h : One x d t M) : atD M x = (d, t) ∧ (lookM M x).isSome = true := by
  unfold atD
  rw [h, if_pos rfl]
  exact ⟨rfl, rfl⟩
theorem One.t4 {x d t : Nat} {M : List (Nat × Nat × Nat)} (h : One x d t M) (ht : t ≤ 4) : ∀ k c, lookM M k = some c → c.2 ≤ 4 := fun k c hc => by
  rw [h] at hc
  by_cases hk : k = x
  · rw [if_pos hk] at hc
    rw [← Option.some.inj hc]; exact ht
  · rw [if_neg hk] at hc; cases hc
theorem Tm.new {B : Nat} {w0 w : World} {ts : List Kt} (h : Sep B w0 w ts) (n : Nat) : Tm B w0 ((w.alloc (.map #[] 0)).alloc (.cells #[.int .u64 (n : Nat), .map (some w.heap.size)] 48)) (w.heap.size + 1) n [] ts := by
  have h1 : Sep B w0 (w.alloc (.map #[] 0)) (thMu alV w.heap.size ([] : List (Nat × Nat × Nat)) :: ts) := h.cons (below_alloc w _) (Mu.made w) (fun k e => by subst e; exact Nat.le_refl _)
  have h2 := h1.box #[.int .u64 (n : Nat), .map (some w.heap.size)] 48
  refine ⟨w.heap.size, ?_⟩
  have e : (w.alloc (.map #[] 0)).heap.size = w.heap.size + 1 := by simp
  rw [e] at h2
  exact h2
theorem Tm.sep {B : Nat} {w0 w : World} {ts : List Kt} {q tk : Nat} {M : List (Nat × Nat × Nat)} (h : Tm B w0 w q tk M ts) : Below B w0 w := by
  obtain ⟨b, h⟩ := h
  exact h.b
theorem Tm.get {B : Nat} {w0 w : World} {ts : List Kt} {q tk : Nat} {M : List (Nat × Nat × Nat)} {t : Kt} (h : Tm B w0 w q tk M ts) (ht : t ∈ ts) : t.P w := by
  obtain ⟨b, h⟩ := h
  exact h.get (by simp [ht])
theorem Tm.drop {B : Nat} {w0 w : World} {ts us : List Kt} {q tk : Nat} {M : List (Nat × Nat × Nat)} (h : Tm B w0 w q tk M ts) (hs : us.Sublist ts) : Tm B w0 w q tk M us := by
  obtain ⟨b, h⟩ := h
  exact ⟨b, h.sub ((hs.cons_cons _).cons_cons _)⟩

set_option maxHeartbeats 8000000 in
theorem tknown_any (w : World) : Calls Try.prog 7 #[] w fun e w' => e = .returned (.bool true) ∧ Below w.heap.size w w' := by
  have H0 := Lib.hid (Tm.new (Sep.nil (Below.refl w.heap.size w) (Nat.le_refl _)) 10)
  have HN := Lib.hid (tnew_any 10 (by omega) (by omega) w)
  obtain ⟨q, hq⟩ : ∃ q, q = w.heap.size + 1 := ⟨_, rfl⟩
  obtain ⟨W0, hW0⟩ : ∃ W, W = ((w.alloc (.map #[] 0)).alloc (.cells #[.int .u64 ((10 : Nat) : Int), .map (some w.heap.size)] 48)) := ⟨_, rfl⟩
  rw [← hq, ← hW0] at H0 HN
  clear hq hW0
  go_enter Try.func7, Try.ntmps7
  go_wp2_with fail
  refine HN.out.mono ?_
  rintro e w1 ⟨q1, rfl, hq1, hw1⟩
  rw [hw1, hq1]
  clear hw1 hq1 HN
  have H1 := Lib.hid (tstart_any H0.out 1 0 (by omega) (by omega) (by omega) (by decide))
  rw [show (lookM ([] : List (Nat × Nat × Nat)) 1) = none from rfl] at H1
  clear H0
  go_wp2_with fail
  refine H1.out.mono ?_
  rintro e w2 ⟨rfl, h2⟩
  have o2 : One 1 10 0 (putM [] 1 (almD 10 0 0)) := One.start
  have H2 := Lib.hid (tdue_any h2 9 (by omega) (by omega) (by decide) (o2.t4 (by omega)))
  have O2 := Lib.hid o2
  clear h2 o2 H1
  go_wp2_with fail
  refine H2.out.mono ?_
  rintro e w3 ⟨v3, l3, M3, rfl, h3, u3, k3, y3, z3⟩
  have hl3 := O2.out.out u3
  have o3 := O2.out.due k3
  rw [show dueC 10 9 (10, 0) = (10, 0) from rfl] at o3
  rw [if_neg (by decide)] at hl3
  have hm3 : M3.length ≤ 1000000 := by rw [keys_len y3]; decide
  rw [hl3] at h3
  have H3 := Lib.hid (tdue_any h3 10 (by omega) (by omega) hm3 (o3.t4 (by omega)))
  have O3 := Lib.hid (And.intro o3 hm3)
  clear h3 o3 H2 u3 k3 y3 z3 hl3 hm3 O2
  go_wp2_with fail
  refine H3.out.mono ?_
  rintro e w4 ⟨v4, l4, M4, rfl, h4, u4, k4, y4, z4⟩
  have hl4 := O3.out.1.out u4
  have o4 := O3.out.1.due k4
  rw [show dueC 10 10 (10, 0) = (30, 1) from rfl] at o4
  rw [if_pos (by decide)] at hl4
  have hm4 : M4.length ≤ 1000000 := by rw [keys_len y4]; exact O3.out.2
  rw [hl4] at h4
  have H4 := Lib.hid (tat_any h4 1 (by omega))
  rw [o4.at.1, o4.at.2] at H4
  have O4 := Lib.hid (And.intro o4 hm4)
  clear h4 o4 H3 u4 k4 y4 z4 hl4 hm4 O3
  go_wp2_with fail
  refine H4.out.mono ?_
  rintro e w5 ⟨rfl, h5⟩
  have H5 := Lib.hid (tdue_any h5 30 (by omega) (by omega) O4.out.2 (O4.out.1.t4 (by omega)))
  clear h5 H4
  go_wp2_with fail
  refine H5.out.mono ?_
  rintro e w6 ⟨v6, l6, M6, rfl, h6, u6, k6, y6, z6⟩
  have hl6 := O4.out.1.out u6
  have o6 := O4.out.1.due k6
  rw [show dueC 10 30 (30, 1) = (70, 2) from rfl] at o6
  rw [if_pos (by decide)] at hl6
  rw [hl6] at h6
  have H6 := Lib.hid (tat_any h6 1 (by omega))
  rw [o6.at.1, o6.at.2] at H6
  clear h6 o6 H5 u6 k6 y6 z6 hl6 O4
  go_wp2_with fail
  refine H6.out.mono ?_
  rintro e w7 ⟨rfl, h7⟩
  have r3 : OwnR w7 0 24 encU 1 v3 [] := h7.get (t := thR 24 encU 1 v3 []) (by simp)
  have r4 : OwnR w7 0 24 encU 1 v4 [1] := h7.get (t := thR 24 encU 1 v4 [1]) (by simp)
  have r6 : OwnR w7 0 24 encU 1 v6 [1] := h7.get (t := thR 24 encU 1 v6 [1]) (by simp)
  obtain ⟨A3, c3, rfl, -, -⟩ := OwnR.row Try.eltU r3
  obtain ⟨A4, c4, rfl, -, -⟩ := OwnR.row Try.eltU r4
  obtain ⟨A6, c6, rfl, -, -⟩ := OwnR.row Try.eltU r6
  obtain ⟨g4, rfl, -, hc4⟩ := row_at Try.eltU r4 (k := 0) (x := 1) rfl
  have c := hc4 0 _ rfl
  simp only [Nat.zero_mul, Nat.add_zero] at c
  simp only [List.length_nil, List.length_singleton]
  have H7 := Lib.hid h7.sep
  clear h7 r3 r4 r6 hc4 H6
  go_wp2_with fail
  go_ret
  exact ⟨rfl, H7.out⟩

end Go.Proofs.Ytgadedpcekiljaa
