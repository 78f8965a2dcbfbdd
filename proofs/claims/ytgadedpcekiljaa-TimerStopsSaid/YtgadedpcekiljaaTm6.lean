/- Layer 14: what both sides hold; the law's comparison of lists. -/
import Derived.Test.YtgadedpcekiljaaTm5
set_option linter.unusedSimpArgs false
set_option linter.unusedVariables false
namespace Go.Proofs.Ytgadedpcekiljaa
open Go.RowKit
set_option maxRecDepth 100000

/-- the document's timers stand by rising series -/
def SrtL (L : List (Nat × Nat × Nat)) : Prop := L.Pairwise fun a b => a.1 < b.1
/-- the program's map says what the document's list says -/
def RelT (f : Nat → Option (Nat × Nat)) (L : List (Nat × Nat × Nat)) : Prop := SrtL L ∧ ∀ k, f k = (lookM L k).map fun c => (c.2, min c.1 4)
theorem SrtL.nodup {L : List (Nat × Nat × Nat)} (h : SrtL L) : (L.map Prod.fst).Nodup := by
  unfold List.Nodup
  rw [List.pairwise_map]
  exact h.imp fun h => Nat.ne_of_lt h
theorem sorted_ext : ∀ {l l' : List Nat}, l.Pairwise (· < ·) → l'.Pairwise (· < ·) → (∀ k, k ∈ l ↔ k ∈ l') → l = l'
  | [], [], _, _, _ => rfl
  | [], b :: l', _, _, h => absurd ((h b).2 List.mem_cons_self) (by simp)
  | a :: l, [], _, _, h => absurd ((h a).1 List.mem_cons_self) (by simp)
  | a :: l, b :: l', h1, h2, h => by
    rw [List.pairwise_cons] at h1 h2
    have e : a = b := by
      rcases List.mem_cons.1 ((h a).1 List.mem_cons_self) with e | e
      · exact e
      · rcases List.mem_cons.1 ((h b).2 List.mem_cons_self) with e' | e'
        · exact e'.symm
        · have := h1.1 b e'
          have := h2.1 a e
          omega
    subst e
    rw [sorted_ext h1.2 h2.2 fun k => ?_]
    constructor
    · intro hk
      rcases List.mem_cons.1 ((h k).1 (List.mem_cons_of_mem _ hk)) with e | e
      · have := h1.1 k hk; omega
      · exact e
    · intro hk
      rcases List.mem_cons.1 ((h k).2 (List.mem_cons_of_mem _ hk)) with e | e
      · have := h2.1 k hk; omega
      · exact e
theorem outR_sorted {L : List (Nat × Nat × Nat)} (h : SrtL L) (now : Nat) : (outR now L).Pairwise (· < ·) := by
  unfold outR
  rw [List.pairwise_map]
  exact List.Pairwise.filter _ h
theorem outR_mem {L : List (Nat × Nat × Nat)} (h : SrtL L) (now k : Nat) : k ∈ outR now L ↔ ∃ c, lookM L k = some c ∧ c.2 ≤ now := by
  unfold outR
  rw [List.mem_map]
  constructor
  · rintro ⟨y, hy, rfl⟩
    rw [List.mem_filter] at hy
    exact ⟨y.2, lookM_of_mem h.nodup hy.1, by simpa using hy.2⟩
  · rintro ⟨c, hc, h2⟩
    exact ⟨(k, c), List.mem_filter.2 ⟨lookM_mem hc, by simpa using h2⟩, rfl⟩
theorem out_eq {M L : List (Nat × Nat × Nat)} {now : Nat} {l : List Nat} (hr : RelT (lookM M) L) (ho : OutU M now l) : l = outR now L := by
  refine sorted_ext ho.1 (outR_sorted hr.1 now) fun k => ?_
  rw [ho.2, outR_mem hr.1, hr.2]
  cases lookM L k with
  | none => simp
  | some c => simp
theorem SrtL.del {L : List (Nat × Nat × Nat)} (h : SrtL L) (x : Nat) : SrtL (delM L x) := List.Pairwise.filter _ h
theorem SrtL.due {L : List (Nat × Nat × Nat)} (h : SrtL L) (tk now : Nat) : SrtL (L.map (dueR tk now)) := by
  unfold SrtL
  rw [List.pairwise_map]
  refine h.imp fun {a b} h1 => ?_
  have e : ∀ y, (dueR tk now y).1 = y.1 := fun y => by unfold dueR; split <;> rfl
  rw [e, e]; exact h1
theorem look_dueR (tk now : Nat) (L : List (Nat × Nat × Nat)) (k : Nat) : lookM (L.map (dueR tk now)) k = (lookM L k).map fun c => (dueR tk now (k, c)).2 := by
  have e : L.map (dueR tk now) = L.map fun p => (p.1, (fun k c => (dueR tk now (k, c)).2) p.1 p.2) := List.map_congr_left fun p _ => by
    obtain ⟨a, b, c⟩ := p
    show dueR tk now (a, b, c) = (a, (dueR tk now (a, b, c)).2)
    unfold dueR
    split <;> rfl
  rw [e]
  exact lookM_map (fun k c => (dueR tk now (k, c)).2) L k
theorem pos_lt {D : List (Nat × Nat × Nat)} {x : Nat} : ∀ y ∈ D.take (posT D x), y.1 < x := by
  induction D with
  | nil => intro y hy; simp at hy
  | cons a D ih =>
    intro y hy
    unfold posT at hy ih
    rw [List.takeWhile_cons] at hy
    by_cases h : a.1 < x
    · rw [if_pos (by simpa using h), List.length_cons, List.take_succ_cons] at hy
      rcases List.mem_cons.1 hy with e | e
      · rw [e]; exact h
      · exact ih y e
    · rw [if_neg (by simpa using h)] at hy
      simp at hy
theorem pos_gt {D : List (Nat × Nat × Nat)} (hs : SrtL D) {x : Nat} : ∀ y ∈ D.drop (posT D x), ¬ y.1 < x := by
  induction D with
  | nil => intro y hy; simp at hy
  | cons a D ih =>
    intro y hy
    unfold SrtL at hs
    rw [List.pairwise_cons] at hs
    unfold posT at hy ih
    rw [List.takeWhile_cons] at hy
    by_cases h : a.1 < x
    · rw [if_pos (by simpa using h), List.length_cons, List.drop_succ_cons] at hy
      exact ih hs.2 y hy
    · rw [if_neg (by simpa using h)] at hy
      simp only [List.length_nil, List.drop_zero] at hy
      rcases List.mem_cons.1 hy with e | e
      · rw [e]; exact h
      · have := hs.1 y e; omega
theorem del_ne {L : List (Nat × Nat × Nat)} {x : Nat} : ∀ y ∈ delM L x, y.1 ≠ x := fun y hy => by
  have := (List.mem_filter.1 hy).2
  simpa using this
theorem SrtL.again {L : List (Nat × Nat × Nat)} (h : SrtL L) (tk now x : Nat) : SrtL (againR tk now x L) := by
  have hd := h.del x
  have h1 : SrtL ((delM L x).take (posT (delM L x) x)) := List.Pairwise.sublist (List.take_sublist _ _) hd
  have h2 : SrtL ((delM L x).drop (posT (delM L x) x)) := List.Pairwise.sublist (List.drop_sublist _ _) hd
  have hg : ∀ y ∈ (delM L x).drop (posT (delM L x) x), x < y.1 := fun y hy => by
    have := pos_gt hd y hy
    have := del_ne y ((List.drop_sublist _ _).subset hy)
    omega
  unfold againR SrtL
  rw [List.pairwise_append, List.pairwise_cons]
  refine ⟨h1, ⟨hg, h2⟩, fun a ha b hb => ?_⟩
  have hal := pos_lt a ha
  rcases List.mem_cons.1 hb with e | e
  · rw [e]; exact hal
  · have := hg b e; omega
theorem look_again {L : List (Nat × Nat × Nat)} (tk now x k : Nat) : lookM (againR tk now x L) k = if k = x then some (0, (now + tk) % 18446744073709551616) else lookM L k := by
  unfold againR
  rw [lookM_append, lookM_cons]
  have hsplit : ∀ z, lookM (delM L x) z = (lookM ((delM L x).take (posT (delM L x) x)) z).or (lookM ((delM L x).drop (posT (delM L x) x)) z) := fun z => by
    rw [← lookM_append, List.take_append_drop]
  by_cases hk : k = x
  · rw [if_pos hk, if_pos hk.symm]
    have hn : lookM ((delM L x).take (posT (delM L x) x)) k = none := lookM_none.2 fun y hy => by
      rw [hk]
      exact del_ne y ((List.take_sublist _ _).subset hy)
    rw [hn]; rfl
  · rw [if_neg hk, if_neg (fun e => hk e.symm), ← hsplit, look_del, if_neg hk]
theorem isSome_del {L : List (Nat × Nat × Nat)} (x : Nat) : decide ((delM L x).length < L.length) = (lookM L x).isSome := by
  induction L with
  | nil => rfl
  | cons a L ih =>
    rw [lookM_cons]
    unfold delM at ih ⊢
    rw [List.filter_cons]
    by_cases h : a.1 = x
    · rw [if_neg (by simp [h]), if_pos h]
      have := List.length_filter_le (fun p : Nat × Nat × Nat => !(p.1 == x)) L
      simp only [List.length_cons, Option.isSome_some]
      exact decide_eq_true (by omega)
    · rw [if_pos (by simp [h]), if_neg h, ← ih]
      simp
theorem again_len (tk now x : Nat) (L : List (Nat × Nat × Nat)) : (againR tk now x L).length ≤ L.length + 1 := by
  unfold againR
  rw [List.length_append, List.length_cons, List.length_take, List.length_drop]
  have : (delM L x).length ≤ L.length := List.length_filter_le _ _
  omega

/-- what comparing lists tells -/
def WOut (l l' : List Nat) (w : World) (e : Ending) (w' : World) : Prop := ∃ r : Bool, e = .returned (.bool r) ∧ (l = l' → r = true) ∧ Below w.heap.size w w'
theorem WOut.of {l l' : List Nat} {w w' : World} {r : Bool} (h : l = l' → r = true) (b : Below w.heap.size w w') : WOut l l' w (.returned (.bool r)) w' := ⟨r, rfl, h, b⟩
set_option maxHeartbeats 4000000 in
theorem words_any {w : World} {v v' : Value} {l l' : List Nat} (h : OwnR w 0 24 encU 1 v l) (h' : OwnR w 0 24 encU 1 v' l') (hl : l.length ≤ 1000000) (hl' : l'.length ≤ 1000000) :
    Calls Try.prog 19 #[v, v'] w (WOut l l' w) := by
  have hmx : Try.prog.follows .mixedOrders = true := by kernel_rfl
  obtain ⟨A, c, rfl, -, hr⟩ := OwnR.row Try.eltU h
  obtain ⟨A', c', rfl, -, hr'⟩ := OwnR.row Try.eltU h'
  obtain ⟨n, hn⟩ : ∃ n, n = l.length := ⟨_, rfl⟩
  obtain ⟨n', hn'⟩ : ∃ n, n = l'.length := ⟨_, rfl⟩
  rw [← hn, ← hn']
  rw [← hn] at hl
  rw [← hn'] at hl'
  have HX := Lib.hid (And.intro hr (And.intro hr' (And.intro hn hn')))
  clear h h' hr hr' hn hn'
  go_enter Try.func19, Try.ntmps19
  by_cases hnn : n = n'
  · have hq : ((n : Int) == (n' : Int)) = true := beq_iff_eq.2 (by omega)
    have hq2 : (n : Int) = (n' : Int) := by omega
    have HN := Lib.hid hnn
    clear hnn
    go_wp2_with fail
    go_loopg [5] n (fun gh s wr => ∃ k : Nat, s = .int .i64 k ∧ k + gh = n ∧ Hid (Below w.heap.size w wr))
    case atStart => exact ⟨0, rfl, Nat.zero_add _, Lib.hid (Below.refl _ _)⟩
    case round =>
      obtain ⟨k, rfl, hkg, HB⟩ := hrel
      by_cases hk : k < n
      · have hkl : (k : Int) < (n : Int) := by omega
        have hkl' : (k : Int) < (n' : Int) := by have := HN.out; omega
        have hk0 : (0 : Int) ≤ (k : Int) := by omega
        obtain ⟨a, ha⟩ : ∃ a, l[k]? = some a := ⟨_, List.getElem?_eq_getElem (by have := HX.out.2.2.1; omega)⟩
        obtain ⟨b, hb⟩ : ∃ b, l'[k]? = some b := ⟨_, List.getElem?_eq_getElem (by have := HX.out.2.2.2; have := HN.out; omega)⟩
        obtain ⟨p, o, hA, hc⟩ := HX.out.1 k a ha
        obtain ⟨p', o', hA', hc'⟩ := HX.out.2.1 k b hb
        subst hA
        subst hA'
        have c1 := hc 0 _ rfl
        have c2 := hc' 0 _ rfl
        simp only [Nat.add_zero, Nat.mul_one] at c1 c2
        have d1 : ∀ y : More, (plus wr y).cell? ⟨p, o + k, none⟩ = some (.int .u32 ((a : Nat) : Int)) := fun y => ((HB.out.trans ((plus_below wr y).mono HB.out.size)).cell (cell_lt c1)).trans c1
        have d2 : ∀ y : More, (plus wr y).cell? ⟨p', o' + k, none⟩ = some (.int .u32 ((b : Nat) : Int)) := fun y => ((HB.out.trans ((plus_below wr y).mono HB.out.size)).cell (cell_lt c2)).trans c2
        have HAB := Lib.hid (And.intro ha hb)
        clear ha hb hc hc' c1 c2 hk
        by_cases hab : a = b
        · have hq3 : ((a : Int) == (b : Int)) = true := beq_iff_eq.2 (by omega)
          have hq4 : (a : Int) = (b : Int) := by omega
          clear hab
          go_wp2_with fail
          refine wp_region_ext hmx (by kernel_rfl) ?_
          repeat (go_big_quiet_step (fail))
          refine wpQuiet_nil ?_
          rintro wx ⟨y, hwx⟩
          have HB2 : Hid (Below w.heap.size w wx) := Lib.hid (by rw [hwx]; exact HB.out.trans ((plus_below wr y).mono HB.out.size))
          clear hwx d1 d2
          go_wp2_with fail
          go_roundg (n - (k + 1))
          case measure => omega
          case rel => exact ⟨k + 1, by go_num, by omega, HB2⟩
        · have hq3 : ((a : Int) == (b : Int)) = false := beq_eq_false_iff_ne.2 (by omega)
          have hq4 : ¬ (a : Int) = (b : Int) := by omega
          have HR : Hid (l = l' → false = true) := Lib.hid fun e => by
            have h1 := HAB.out
            rw [e, h1.2] at h1
            exact absurd (Option.some.inj h1.1).symm hab
          clear hab
          go_wp2_with fail
          refine wp_region_ext hmx (by kernel_rfl) ?_
          repeat (go_big_quiet_step (fail))
          refine wpQuiet_nil ?_
          rintro wx ⟨y, hwx⟩
          have HB2 : Hid (Below w.heap.size w wx) := Lib.hid (by rw [hwx]; exact HB.out.trans ((plus_below wr y).mono HB.out.size))
          clear hwx d1 d2
          go_wp2_with fail
          go_ret
          exact WOut.of HR.out HB2.out
      · have hkl : ¬ (k : Int) < (n : Int) := by omega
        clear hk
        go_wp2_with fail
        go_ret
        exact WOut.of (fun _ => rfl) HB.out
  · have hq : ((n : Int) == (n' : Int)) = false := beq_eq_false_iff_ne.2 (by omega)
    have hq2 : ¬ (n : Int) = (n' : Int) := by omega
    have HR : Hid (l = l' → false = true) := Lib.hid fun e => absurd (by rw [HX.out.2.2.1, HX.out.2.2.2, e]) hnn
    clear hnn
    go_wp2_with fail
    go_ret
    exact WOut.of HR.out (Below.refl _ _)

end Go.Proofs.Ytgadedpcekiljaa
