/- Layer 14, the document: Stop, Again, Start. -/
import Derived.Test.YtgadedpcekiljaaTm3
set_option linter.unusedSimpArgs false
set_option linter.unusedVariables false
namespace Go.Proofs.Ytgadedpcekiljaa
open Go.RowKit
set_option maxRecDepth 100000

theorem del_snoc (L : List (Nat × Nat × Nat)) (x k : Nat) (y : Nat × Nat × Nat) (h : L[k]? = some y) : delM (L.take (k + 1)) x = delM (L.take k) x ++ (if y.1 = x then [] else [y]) := by
  unfold delM
  rw [List.take_add_one, h, List.filter_append]
  congr 1
  by_cases e : y.1 = x
  · simp [e]
  · simp [e]
theorem rt_same {B : Nat} {w0 w : World} {ts : List Kt} {q tk : Nat} {A : Option Addr} {n c : Nat} {L : List (Nat × Nat × Nat)} {A' : Option Addr} {n' c' : Nat} {L' : List (Nat × Nat × Nat)} {w' : World}
    (h : Sep B w0 w (thB q 52 #[.int .u64 (tk : Nat), .slice A n c] :: thR 57 encT 3 (.slice A n c) L :: ts)) (hb : Below w.heap.size w w') (ho : OwnR w' w.heap.size 57 encT 3 (.slice A' n' c') L') (hn : n' = L'.length) :
    Rt B w0 (w'.setCell ⟨q, 1, none⟩ (.slice A' n' c')) q tk L' ts := by
  have h1 := h.cons (t := thR 57 encT 3 (.slice A' n' c') L') hb (ho.mono (Nat.zero_le _)) (fun k hk => (World.ownsRow.lt ho k hk).1)
  have h2 := h1.put 1 q [(1, .slice A' n' c')] #[.int .u64 (tk : Nat), .slice A' n' c'] rfl
  refine ⟨A', n', c', hn, ?_⟩
  have h3 := srt_perm h2 (List.Perm.swap _ _ _)
  exact h3.sub (((List.sublist_cons_self _ _).cons_cons _).cons_cons _)
set_option maxHeartbeats 8000000 in
theorem rtstop_any {B : Nat} {w0 w : World} {ts : List Kt} {q tk : Nat} {L : List (Nat × Nat × Nat)} (h : Rt B w0 w q tk L ts) (x : Nat) (hL : L.length ≤ 1000000) :
    Calls Try.prog 18 #[.pointer (some ⟨q, 0, none⟩), .int .u32 (x : Nat)] w fun e w' => e = .returned (.bool (decide ((delM L x).length < L.length))) ∧ Rt B w0 w' q tk (delM L x) ts := by
  obtain ⟨A, n, c, hn, hs⟩ := h
  obtain ⟨D, hD⟩ : ∃ r, r = delM L x := ⟨_, rfl⟩
  rw [← hD]
  have HX := Lib.hid (And.intro hs (And.intro hn hD))
  have hnl : n ≤ 1000000 := by omega
  clear hs hn hD hL
  go_enter Try.func18, Try.ntmps18
  go_wp2_with fail
  go_loopg [5, 6] n (fun gh s5 s wr => ∃ (k m c' : Nat) (A' : Option Addr) (D' : List (Nat × Nat × Nat)), s = .int .i64 k ∧ s5 = .slice A' m c' ∧ k + gh = n ∧ m ≤ k ∧ Hid (Below w.heap.size w wr ∧ m = D'.length ∧ D' = delM (L.take k) x ∧ OwnR wr w.heap.size 57 encT 3 (.slice A' m c') D'))
  case atStart => exact ⟨0, 0, 0, none, [], rfl, rfl, Nat.zero_add _, Nat.le_refl _, Lib.hid ⟨Below.refl _ _, rfl, rfl, OwnR.nil _ _ _ _ _⟩⟩
  case round =>
    obtain ⟨k, m, c', A', D', rfl, rfl, hkg, hmk, HR⟩ := hrel
    have hs := HX.out.1.go HR.out.1
    have C : cellsSay wr q 0 [.int .u64 (tk : Nat), .slice A n c] := cells_say (hs.blk 0) _ 0 rfl
    simp only [cellsSay, Nat.reduceAdd, and_true] at C
    by_cases hk : k < n
    · have hkl : (k : Int) < (n : Int) := by omega
      have hk0 : (0 : Int) ≤ (k : Int) := by omega
      obtain ⟨y, hy⟩ : ∃ y, L[k]? = some y := ⟨_, List.getElem?_eq_getElem (by have := HX.out.2.1; omega)⟩
      have hsn := del_snoc L x k y hy
      obtain ⟨g, rfl, hnl2, hc⟩ := row_at Try.eltT (hs.at_ 1 rfl) hy
      obtain ⟨ys, yt, ya⟩ := y
      have c0 := hc 0 _ rfl
      have c1 := hc 1 _ rfl
      have c2 := hc 2 _ rfl
      simp only [Nat.add_zero] at c0
      have HS := Lib.hid (And.intro hsn HR.out)
      clear hs hy hnl2 hc hk hsn HR
      by_cases hyx : ys = x
      · have hq : ((ys : Int) == (x : Int)) = true := beq_iff_eq.2 (by omega)
        have hq2 : (ys : Int) = (x : Int) := by omega
        have HF : Hid (D' = delM (L.take (k + 1)) x) := Lib.hid (by have := HS.out.1; rw [if_pos hyx, List.append_nil] at this; rw [this]; exact HS.out.2.2.2.1)
        clear hyx
        go_wp2_with fail
        go_roundg (n - (k + 1))
        case measure => omega
        case rel => exact ⟨k + 1, m, c', A', D', by go_num, rfl, by omega, by omega, Lib.hid ⟨HS.out.2.1, HS.out.2.2.1, HF.out, HS.out.2.2.2.2⟩⟩
      · have hq : ((ys : Int) == (x : Int)) = false := beq_eq_false_iff_ne.2 (by omega)
        have hq2 : ¬ (ys : Int) = (x : Int) := by omega
        have HF : Hid (D' ++ [(ys, yt, ya)] = delM (L.take (k + 1)) x) := Lib.hid (by have := HS.out.1; rw [if_neg hyx] at this; rw [this, HS.out.2.2.2.1])
        have h5n : D'.length + 1 ≤ maxLen := by have := HS.out.2.2.1; unfold maxLen; omega
        have h6n : (D'.length + 1) * 24 ≤ 140737488355328 := by have := HS.out.2.2.1; omega
        have hbs : w.heap.size ≤ (wr.alloc (.cells #[.int .u32 ((ys : Nat) : Int), .int .i64 ((yt : Nat) : Int), .int .u64 ((ya : Nat) : Int)] 57)).heap.size := by have := HS.out.2.1.size; simp; omega
        have Hbs := Lib.hid hbs
        have HR1 := Lib.hid (OwnR.alloc HS.out.2.2.2.2 (.cells #[.int .u32 ((ys : Nat) : Int), .int .i64 ((yt : Nat) : Int), .int .u64 ((ya : Nat) : Int)] 57))
        clear hyx hbs
        go_upto_region 4 with (at_builtin; go_must (refine appR1 Try.eltT _ rfl (.tmp 27) (.tmp 35) rfl w.heap.size (.slice A' m c') D' rfl HR1.out wr.heap.size 1 (ys, yt, ya) _ _ rfl (Blk.new wr _ _) rfl h5n h6n Hbs.out ?_); intro g2 c9 w9 hown2 hb2 hg2)
        have H9 : Hid (Below w.heap.size w w9 ∧ D'.length + 1 = m + 1 ∧ OwnR w9 w.heap.size 57 encT 3 (.slice (some ⟨g2, 0, none⟩) (D'.length + 1) c9) (D' ++ [(ys, yt, ya)])) := Lib.hid ⟨(on1 HS.out.2.1 (below_alloc wr _)).trans hb2, by rw [HS.out.2.2.1], hown2⟩
        obtain ⟨m9, hm9⟩ : ∃ z, z = D'.length + 1 := ⟨_, rfl⟩
        rw [← hm9] at H9 ⊢
        have Hm9 := Lib.hid hm9
        clear hown2 hb2 hg2 hm9
        go_wp2_with fail
        go_roundg (n - (k + 1))
        case measure => omega
        case rel => exact ⟨k + 1, m9, c9, _, D' ++ [(ys, yt, ya)], by go_num, rfl, by omega, by have := H9.out.2.1; omega, Lib.hid ⟨H9.out.1, by rw [List.length_append]; exact Hm9.out, HF.out, H9.out.2.2⟩⟩
    · have hkl : ¬ (k : Int) < (n : Int) := by omega
      have hkn : k = n := by omega
      have HF : Hid (D' = D) := Lib.hid (by
        have := HR.out.2.2.1
        rw [List.take_of_length_le (by have := HX.out.2.1; omega)] at this
        rw [this]; exact HX.out.2.2.symm)
      obtain ⟨r, hr⟩ : ∃ r, r = decide ((m : Int) < (n : Int)) := ⟨_, rfl⟩
      have HR2 : Hid (r = decide (D.length < L.length)) := Lib.hid (by
        rw [hr, ← HF.out, ← HR.out.2.1, ← HX.out.2.1]
        exact decide_eq_decide.2 (by omega))
      have hr2 : decide ((m : Int) < (n : Int)) = r := hr.symm
      have hr3 : decide (m < n) = r := by rw [hr]; exact decide_eq_decide.2 (by omega)
      clear hk hs hkn hr
      go_wp2_with fail
      go_ret
      rw [HR2.out]
      exact ⟨rfl, by rw [← HF.out]; exact rt_same HX.out.1 HR.out.1 HR.out.2.2.2 HR.out.2.1⟩

/-! ### Again -/
/-- where a row's rest lies -/
def clT (A : Option Addr) (i c : Nat) : Option Addr := if c = i then A else A.map fun a => a.add (i * 3)
theorem run_frontT (g n c k : Nat) (hk : k ≤ c) (w : World) : (Instr.slice 50 (.slice (some ⟨g, 0, none⟩) n c) none (some (.int .i64 k)) none).run Try.prog w = .ok (.slice (some ⟨g, 0, none⟩) k c) w := by
  have hi : (Try.prog.info? 57).map (fun i => i.size) = some 3 := by kernel_rfl
  rw [run_slice_h w 50 (some ⟨g, 0, none⟩) n c Try.underlying50 .i64 (k : Nat) (by omega) (by omega)]
  have hs : (sizeOf (Try.prog.elem 50)).run Try.prog w = .ok 3 w := by
    have e : Try.prog.elem 50 = 57 := by kernel_rfl
    rw [e]
    obtain ⟨i, h1, h2⟩ := Option.map_eq_some_iff.1 hi
    simp [sizeOf, typeInfo, h1, h2]
  rw [hs]
  simp only [Result.andThen, sliced, Int.toNat_natCast, Nat.zero_mul, Nat.sub_zero]
  congr 2
  split
  · rfl
  · simp [Addr.add]
theorem run_frontN (w : World) : (Instr.slice 50 (.slice none 0 0) none (some (.int .i64 (0 : Int))) none).run Try.prog w = .ok (.slice none 0 0) w := by
  have hi : (Try.prog.info? 57).map (fun i => i.size) = some 3 := by kernel_rfl
  rw [run_slice_h w 50 none 0 0 Try.underlying50 .i64 0 (by omega) (by omega)]
  have hs : (sizeOf (Try.prog.elem 50)).run Try.prog w = .ok 3 w := by
    have e : Try.prog.elem 50 = 57 := by kernel_rfl
    rw [e]
    obtain ⟨i, h1, h2⟩ := Option.map_eq_some_iff.1 hi
    simp [sizeOf, typeInfo, h1, h2]
  rw [hs]
  rfl
theorem run_frontA {A : Option Addr} {n c : Nat} {L : List (Nat × Nat × Nat)} {w0 : World} (h : OwnR w0 0 57 encT 3 (.slice A n c) L) (k : Nat) (hk : k ≤ n) (w : World) : (Instr.slice 50 (.slice A n c) none (some (.int .i64 k)) none).run Try.prog w = .ok (.slice A k c) w := by
  rcases h.2 with ⟨h1, h2⟩ | ⟨g, cap, cur, h1, _, _, h4, _⟩
  · injection h1 with e1 e2 e3
    subst e1; subst e2; subst e3
    obtain rfl : k = 0 := by omega
    exact run_frontN w
  · injection h1 with e1 e2 e3
    subst e1; subst e3
    exact run_frontT g n c k (by omega) w
theorem run_restA (A : Option Addr) (n c k : Nat) (hk : k ≤ n) (w : World) : (Instr.slice 50 (.slice A n c) (some (.int .i64 k)) none none).run Try.prog w = .ok (.slice (clT A k c) (n - k) (c - k)) w := by
  have hi : (Try.prog.info? 57).map (fun i => i.size) = some 3 := by kernel_rfl
  rw [run_slice_l w 50 A n c Try.underlying50 .i64 (k : Nat) (by omega) (by omega)]
  have hs : (sizeOf (Try.prog.elem 50)).run Try.prog w = .ok 3 w := by
    have e : Try.prog.elem 50 = 57 := by kernel_rfl
    rw [e]
    obtain ⟨i, h1, h2⟩ := Option.map_eq_some_iff.1 hi
    simp [sizeOf, typeInfo, h1, h2]
  rw [hs]
  rfl
theorem rwT_front {w : World} {A : Option Addr} {L : List (Nat × Nat × Nat)} (h : Rw w encT 3 A L) (i : Nat) : Rw w encT 3 A (L.take i) := fun k x hk => by
  rw [List.getElem?_take] at hk
  split at hk
  · exact h k x hk
  · cases hk
theorem addT (p o k : Nat) : (⟨p, o, none⟩ : Addr).add k = ⟨p, o + k, none⟩ := by
  unfold Addr.add
  split
  · rename_i h; subst h; rfl
  · rfl
theorem rwT_rest {w : World} {A : Option Addr} {L : List (Nat × Nat × Nat)} (h : Rw w encT 3 A L) (i c : Nat) (hc : L.length ≤ c) (hi : i ≤ L.length) : Rw w encT 3 (clT A i c) (L.drop i) := fun k x hk => by
  rw [List.getElem?_drop] at hk
  obtain ⟨p, o, rfl, hcell⟩ := h _ x hk
  have hl := (List.getElem?_eq_some_iff.1 hk).1
  refine ⟨p, o + i * 3, ?_, fun j v hj => ?_⟩
  · unfold clT
    rw [if_neg (by omega)]
    simp only [Option.map_some]
    rw [addT]
  · rw [← hcell j v hj]
    congr 2
    omega
/-- how many stand ahead of x -/
def posT (L : List (Nat × Nat × Nat)) (x : Nat) : Nat := (L.takeWhile fun y => decide (y.1 < x)).length
theorem posT_le (L : List (Nat × Nat × Nat)) (x : Nat) : posT L x ≤ L.length := by unfold posT; exact (List.takeWhile_sublist _).length_le
theorem posT_step {L : List (Nat × Nat × Nat)} {x k : Nat} (h : ∀ j y, j < k → L[j]? = some y → y.1 < x) (hk : k ≤ L.length) (he : ∀ y, L[k]? = some y → ¬ y.1 < x) : posT L x = k := by
  unfold posT
  induction L generalizing k with
  | nil => simp at hk; simp [hk]
  | cons a L ih =>
    cases k with
    | zero => rw [List.takeWhile_cons, if_neg (by simpa using he a rfl)]; rfl
    | succ k =>
      rw [List.takeWhile_cons, if_pos (by simpa using h 0 a (by omega) rfl), List.length_cons]
      congr 1
      exact ih (fun j y hj hy => h (j + 1) y (by omega) hy) (by simpa using hk) (fun y hy => he y hy)
/-- what Again makes of them -/
def againR (tk now x : Nat) (L : List (Nat × Nat × Nat)) : List (Nat × Nat × Nat) := (delM L x).take (posT (delM L x) x) ++ (x, 0, (now + tk) % 18446744073709551616) :: (delM L x).drop (posT (delM L x) x)
set_option maxHeartbeats 8000000 in
theorem rtagain_any {B : Nat} {w0 w : World} {ts : List Kt} {q tk : Nat} {L : List (Nat × Nat × Nat)} (h : Rt B w0 w q tk L ts) (x now : Nat) (hL : L.length ≤ 1000000) (hnow : now < 18446744073709551616) (htk : tk ≤ 1000) :
    Calls Try.prog 17 #[.pointer (some ⟨q, 0, none⟩), .int .u32 (x : Nat), .int .u64 (now : Nat)] w fun e w' => e = .returned (.tuple #[]) ∧ Rt B w0 w' q tk (againR tk now x L) ts := by
  have HC := Lib.hid (rtstop_any h x hL)
  unfold againR
  have hDl : (delM L x).length ≤ 1000000 := Nat.le_trans (List.length_filter_le _ _) hL
  obtain ⟨D, hD⟩ : ∃ r, r = delM L x := ⟨_, rfl⟩
  rw [← hD] at HC hDl ⊢
  obtain ⟨bq, hbq⟩ : ∃ b, b = decide (D.length < L.length) := ⟨_, rfl⟩
  rw [← hbq] at HC
  obtain ⟨T, hT⟩ : ∃ t : Nat, t = (now + tk) % 18446744073709551616 := ⟨_, rfl⟩
  rw [← hT]
  have hv : IntKind.u64.wrap ((now : Int) + (tk : Int)) = (T : Int) := by rw [IntKind.wrap_u64, hT]; omega
  obtain ⟨pp, hpp⟩ : ∃ p, p = posT D x := ⟨_, rfl⟩
  rw [← hpp]
  have HP := Lib.hid hpp
  obtain ⟨L1, hL1⟩ : ∃ l, l = D.take pp := ⟨_, rfl⟩
  obtain ⟨L2, hL2⟩ : ∃ l, l = D.drop pp := ⟨_, rfl⟩
  rw [← hL1, ← hL2]
  have HL := Lib.hid (And.intro hL1 hL2)
  clear h hD hbq hT hpp hL1 hL2
  go_enter Try.func17, Try.ntmps17
  go_upto_region 1 with fail
  refine HC.out.mono ?_
  rintro e w1 ⟨rfl, A, n, c, hn, hs⟩
  have hnl : n ≤ 1000000 := by omega
  have HX := Lib.hid (And.intro hs hn)
  have hpn : pp ≤ n := by rw [HP.out, hn]; exact posT_le D x
  clear hs hn HC hDl
  go_upto_block 0 with fail
  go_cut [6] (fun s6 wx => s6 = .int .i64 pp ∧ Hid (Below w1.heap.size w1 wx))
  case first =>
    go_wp2_with fail
    go_loopg [6] n (fun gh s wr => ∃ k : Nat, s = .int .i64 k ∧ k + gh = n ∧ Hid (Below w1.heap.size w1 wr ∧ ∀ j y, j < k → D[j]? = some y → y.1 < x))
    case atStart => exact ⟨0, rfl, Nat.zero_add _, Lib.hid ⟨Below.refl _ _, fun j y hj => by omega⟩⟩
    case round =>
      obtain ⟨k, rfl, hkg, HR⟩ := hrel
      have hs := HX.out.1.go HR.out.1
      have C : cellsSay wr q 0 [.int .u64 (tk : Nat), .slice A n c] := cells_say (hs.blk 0) _ 0 rfl
      simp only [cellsSay, Nat.reduceAdd, and_true] at C
      by_cases hk : k < n
      · have hkl : (k : Int) < (n : Int) := by omega
        have hk1 : decide ((k : Int) < (n : Int)) = true := decide_eq_true hkl
        have hk0 : (0 : Int) ≤ (k : Int) := by omega
        obtain ⟨y, hy⟩ : ∃ y, D[k]? = some y := ⟨_, List.getElem?_eq_getElem (by have := HX.out.2; omega)⟩
        obtain ⟨g, rfl, hnl2, hc⟩ := row_at Try.eltT (hs.at_ 1 rfl) hy
        have HY := Lib.hid hy
        obtain ⟨ys, yt, ya⟩ := y
        have c0 := hc 0 _ rfl
        simp only [Nat.add_zero] at c0
        clear hs hy hnl2 hc
        by_cases hyx : ys < x
        · have hq : decide ((ys : Int) < (x : Int)) = true := decide_eq_true (by omega)
          have hq2 : (ys : Int) < (x : Int) := by omega
          have HF : Hid (∀ j y, j < k + 1 → D[j]? = some y → y.1 < x) := Lib.hid (fun j y hj hy => by
            by_cases e : j = k
            · subst e
              rw [HY.out] at hy
              injection hy with hy
              rw [← hy]; exact hyx
            · exact HR.out.2 j y (by omega) hy)
          clear hyx
          go_wp2_with fail
          go_roundg (n - (k + 1))
          case measure => omega
          case rel => exact ⟨k + 1, by go_num, by omega, Lib.hid ⟨HR.out.1, HF.out⟩⟩
        · have hq : decide ((ys : Int) < (x : Int)) = false := decide_eq_false (by omega)
          have hq2 : ¬ (ys : Int) < (x : Int) := by omega
          have HF : Hid (k = pp) := Lib.hid (by
            rw [HP.out]
            refine (posT_step HR.out.2 (by have := HX.out.2; omega) (fun y hy => ?_)).symm
            rw [HY.out] at hy
            injection hy with hy
            rw [← hy]; exact hyx)
          clear hyx
          go_wp2_with fail
          go_meet
          exact ⟨by rw [HF.out], Lib.hid HR.out.1⟩
      · have hkl : ¬ (k : Int) < (n : Int) := by omega
        have hk1 : decide ((k : Int) < (n : Int)) = false := decide_eq_false hkl
        have HF : Hid (k = pp) := Lib.hid (by
          rw [HP.out]
          refine (posT_step HR.out.2 (by have := HX.out.2; omega) (fun y hy => ?_)).symm
          have := (List.getElem?_eq_some_iff.1 hy).1
          have := HX.out.2
          omega)
        clear hs
        go_wp2_with fail
        go_meet
        exact ⟨by rw [HF.out], Lib.hid HR.out.1⟩
  case rest =>
    obtain ⟨rfl, HB⟩ := hcut
    have S2 := HX.out.1.go HB.out
    obtain ⟨hL1, hL2⟩ := HL.out
    obtain ⟨rr, hrr⟩ : ∃ r, r = n - pp := ⟨_, rfl⟩
    have l1 : L1.length = pp := by rw [hL1, List.length_take]; have := HX.out.2; omega
    have l2 : L2.length = rr := by rw [hL2, List.length_drop, hrr]; have := HX.out.2; omega
    have hrl : rr ≤ 1000000 := by omega
    have hrow : OwnR w1 0 57 encT 3 (.slice A n c) D := HX.out.1.at_ 1 rfl
    obtain ⟨A9, c9, hv9, hlc, -⟩ := OwnR.row Try.eltT hrow
    injection hv9 with e1 e2 e3
    subst e1
    have hcc : D.length ≤ c := by rw [e3]; exact hlc
    have hsf : ∀ w, (Instr.slice 50 (.slice A n c) none (some (.int .i64 (pp : Nat))) none).run Try.prog w = .ok (.slice A pp c) w := fun w => run_frontA hrow pp hpn w
    have hsr : ∀ w, (Instr.slice 50 (.slice A n c) (some (.int .i64 (pp : Nat))) none none).run Try.prog w = .ok (.slice (clT A pp c) rr (c - pp)) w := fun w => by rw [run_restA A n c pp hpn w, hrr]
    have hRw : ∀ w, Rw w encT 3 A D → Rw w encT 3 A L1 ∧ Rw w encT 3 (clT A pp c) L2 := fun w h9 => ⟨by rw [hL1]; exact rwT_front h9 pp, by rw [hL2]; exact rwT_rest h9 pp c (by omega) (by have := HX.out.2; omega)⟩
    have hRd : ∀ w, Sep B w0 w (thB q 52 #[.int .u64 (tk : Nat), .slice A n c] :: thR 57 encT 3 (.slice A n c) D :: ts) → Rw w encT 3 A D := fun w h9 => by
      obtain ⟨A', c', hv, -, hr⟩ := OwnR.row Try.eltT (show OwnR w 0 57 encT 3 (.slice A n c) D from h9.at_ 1 rfl)
      injection hv with f1 _ _
      subst f1
      exact hr
    have sF := hsf wc
    have C : cellsSay wc q 0 [.int .u64 (tk : Nat), .slice A n c] := cells_say (S2.blk 0) _ 0 rfl
    simp only [cellsSay, Nat.reduceAdd, and_true] at C
    have HZ := Lib.hid (And.intro S2 (And.intro hRw (And.intro hRd (And.intro hsr hrr))))
    clear S2 hL1 hL2 hrr hrow e2 e3 hlc hcc hsf hsr hRw hRd HB HP
    have hpm9 : pp ≤ maxLen := by unfold maxLen; omega
    have hb0 : (0 + pp) * 24 ≤ 140737488355328 := by omega
    have Hl1 := Lib.hid l1
    have Hl2 := Lib.hid l2
    clear l1 l2
    go_upto_region 6 with (at_builtin; go_must (refine appR Try.eltT _ rfl (.tmp 32) (.tmp 38) rfl wc.heap.size _ [] rfl (OwnR.nil _ _ _ _ _) A c L1 (by rw [Hl1.out]; rfl) (HZ.out.2.1 wc (HZ.out.2.2.1 wc HZ.out.1)).1 (by rw [Hl1.out, List.length_nil, Nat.zero_add]; exact hpm9) (by rw [Hl1.out]; exact hb0) (Nat.le_refl _) ?_); intro A3 c3 w3 hown3 hb3)
    have h9 : OwnR w3 wc.heap.size 57 encT 3 (.slice A3 pp c3) L1 := by have h8 := hown3; rw [Hl1.out] at h8; simpa using h8
    try rw [Hl1.out]
    have S3 := HZ.out.1.go hb3
    have C : cellsSay w3 q 0 [.int .u64 (tk : Nat), .slice A n c] := cells_say (S3.blk 0) _ 0 rfl
    simp only [cellsSay, Nat.reduceAdd, and_true] at C
    have H3 := Lib.hid (And.intro h9 (And.intro hb3 S3))
    have h1n : L1.length + 1 ≤ maxLen := by rw [Hl1.out]; unfold maxLen; omega
    have h1b : (L1.length + 1) * 24 ≤ 140737488355328 := by rw [Hl1.out]; omega
    have hbs : wc.heap.size ≤ (w3.alloc (.cells #[.int .u32 ((x : Nat) : Int), .int .i64 0, .int .u64 ((T : Nat) : Int)] 57)).heap.size := by have := hb3.size; simp; omega
    have Hbs := Lib.hid hbs
    have HO := Lib.hid (OwnR.alloc h9 (.cells #[.int .u32 ((x : Nat) : Int), .int .i64 0, .int .u64 ((T : Nat) : Int)] 57))
    clear hown3 hb3 h9 S3 sF hb0 hpm9 hbs
    go_upto_region 7 with (at_builtin; go_must (refine appR1 Try.eltT _ rfl (.tmp 40) (.tmp 49) rfl wc.heap.size (.slice A3 pp c3) L1 rfl HO.out w3.heap.size 1 (x, 0, T) _ _ rfl (Blk.new w3 _ _) rfl h1n h1b Hbs.out ?_); intro g4 c4 w4 hown4 hb4 hg4)
    have hb24 : Below wc.heap.size wc w4 := (on1 H3.out.2.1 (below_alloc w3 _)).trans hb4
    have S4 := HZ.out.1.go hb24
    have C : cellsSay w4 q 0 [.int .u64 (tk : Nat), .slice A n c] := cells_say (S4.blk 0) _ 0 rfl
    simp only [cellsSay, Nat.reduceAdd, and_true] at C
    obtain ⟨m4, hm4⟩ : ∃ z, z = L1.length + 1 := ⟨_, rfl⟩
    rw [← hm4] at hown4 ⊢
    obtain ⟨LM, hLM⟩ : ∃ z, z = L1 ++ [(x, 0, T)] := ⟨_, rfl⟩
    rw [← hLM] at hown4
    have hml : LM.length = m4 := by rw [hLM, List.length_append, hm4]; rfl
    have hm4l : m4 ≤ 1000001 := by rw [hm4, Hl1.out]; omega
    have sR := HZ.out.2.2.2.1 w4
    have H4 := Lib.hid (And.intro hown4 (And.intro hb24 (And.intro S4 (And.intro hLM hml))))
    have h2n : LM.length + L2.length ≤ maxLen := by rw [hml, Hl2.out]; unfold maxLen; omega
    have h2b : (LM.length + L2.length) * 24 ≤ 140737488355328 := by rw [hml, Hl2.out]; omega
    have hbs4 : wc.heap.size ≤ w4.heap.size := hb24.size
    clear hown4 hb4 hg4 hb24 S4 hm4 hLM hml h1n h1b Hbs HO
    go_upto_region 8 with (at_builtin; go_must (refine appR Try.eltT _ rfl (.tmp 51) (.tmp 57) rfl wc.heap.size _ LM rfl H4.out.1 (clT A pp c) (c - pp) L2 (by rw [Hl2.out]; rfl) (HZ.out.2.1 w4 (HZ.out.2.2.1 w4 H4.out.2.2.1)).2 h2n h2b hbs4 ?_); intro A5 c5 w5 hown5 hb5)
    have hb25 : Below wc.heap.size wc w5 := H4.out.2.1.trans hb5
    have S5 := HZ.out.1.go hb25
    have C : cellsSay w5 q 0 [.int .u64 (tk : Nat), .slice A n c] := cells_say (S5.blk 0) _ 0 rfl
    simp only [cellsSay, Nat.reduceAdd, and_true] at C
    obtain ⟨m5, hm5⟩ : ∃ z, z = LM.length + L2.length := ⟨_, rfl⟩
    rw [← hm5] at hown5 ⊢
    have H5 := Lib.hid (And.intro hown5 (And.intro hb25 hm5))
    clear hown5 hb5 hb25 S5 hm5 sR h2n h2b hbs4
    go_wp2_with fail
    go_end0
    refine ⟨rfl, ?_⟩
    have h9 := rt_same HZ.out.1 H5.out.2.1 H5.out.1 (by rw [List.length_append]; exact H5.out.2.2)
    rw [H4.out.2.2.2.1] at h9
    simpa using h9
theorem rtstart_any {B : Nat} {w0 w : World} {ts : List Kt} {q tk : Nat} {L : List (Nat × Nat × Nat)} (h : Rt B w0 w q tk L ts) (x now : Nat) (hL : L.length ≤ 1000000) (hnow : now < 18446744073709551616) (htk : tk ≤ 1000) :
    Calls Try.prog 21 #[.pointer (some ⟨q, 0, none⟩), .int .u32 (x : Nat), .int .u64 (now : Nat)] w fun e w' => e = .returned (.bool (!(lookM L x).isSome)) ∧ Rt B w0 w' q tk (if (lookM L x).isSome then L else againR tk now x L) ts := by
  have H1 := Lib.hid (rtat_any h x hL)
  have H2 := Lib.hid (fun (W : World) (hW : Below w.heap.size w W) => rtagain_any (show Rt B w0 W q tk L ts from h.elim fun A h => h.elim fun n h => h.elim fun c h => ⟨A, n, c, h.1, h.2.go hW⟩) x now hL hnow htk)
  have H0 := Lib.hid h
  obtain ⟨is, his⟩ : ∃ b, b = (lookM L x).isSome := ⟨_, rfl⟩
  obtain ⟨du, hdu⟩ : ∃ b, b = ((lookM L x).getD (0, 0)).2 := ⟨_, rfl⟩
  rw [← his, ← hdu] at H1
  rw [← his]
  clear his hdu h
  go_enter Try.func21, Try.ntmps21
  go_wp2_with fail
  refine H1.out.mono ?_
  rintro e w1 ⟨rfl, b1⟩
  have HC := Lib.hid (And.intro b1 (H2.out w1 b1))
  clear H1 H2 b1
  cases is
  · go_wp2_with fail
    refine HC.out.2.mono ?_
    rintro e w2 ⟨rfl, h2⟩
    have HR := Lib.hid h2
    clear h2
    go_wp2_with fail
    go_ret
    exact ⟨rfl, HR.out⟩
  · go_wp2_with fail
    go_ret
    exact ⟨rfl, H0.out.elim fun A h => h.elim fun n h => h.elim fun c h => ⟨A, n, c, h.1, h.2.go HC.out.1⟩⟩

end Go.Proofs.Ytgadedpcekiljaa
