/- Layer 14: walk of TimerDoes. -/
import Derived.Test.YtgadedpcekiljaaTm11
set_option linter.unusedSimpArgs false
set_option linter.unusedVariables false
namespace Go.Proofs.Ytgadedpcekiljaa
open Go.RowKit
set_option maxRecDepth 100000

/-- the cells of a call of the law's list -/
theorem op_cells {w0 w : World} {V : Option Addr} {l : List OT} (h : Rw w0 encO14 3 V l) (hb : Below w0.heap.size w0 w) {k : Nat} {o : OT} (ho : l[k]? = some o) : ∃ p f, V = some ⟨p, f, none⟩ ∧ w.cell? ⟨p, f + k * 3, none⟩ = some (.int .u8 ((o.kd : Nat) : Int)) ∧ w.cell? ⟨p, f + k * 3 + 1, none⟩ = some (.int .u32 ((o.se : Nat) : Int)) ∧ w.cell? ⟨p, f + k * 3 + 2, none⟩ = some (.int .u64 ((o.now : Nat) : Int)) := by
  obtain ⟨p, f, hV, hc⟩ := h k o ho
  have e : ∀ {a : Addr} {v : Value}, w0.cell? a = some v → w.cell? a = some v := fun c => (hb.cell (cell_lt c)).trans c
  exact ⟨p, f, hV, e (hc 0 _ rfl), e (hc 1 _ rfl), e (hc 2 _ rfl)⟩
theorem Tb.new {B : Nat} {w0 w : World} {ts : List Kt} {q tk : Nat} {M : List (Nat × Nat × Nat)} (h : Tm B w0 w q tk M ts) (n : Nat) : Tb B w0 (w.alloc (.cells #[.int .u64 (n : Nat), .slice none 0 0] 52)) q tk M w.heap.size n [] ts := by
  obtain ⟨b, h1⟩ := h
  have h2 := (h1.box #[.int .u64 (n : Nat), .slice none 0 0] 52).cons (t := thR 57 encT 3 (.slice none 0 0) ([] : List (Nat × Nat × Nat))) (Below.refl _ _) (OwnR.nil _ _ _ _ _) (fun k e => by cases e)
  refine ⟨b, none, 0, 0, rfl, srt_perm h2 ?_⟩
  exact (((List.Perm.swap _ _ _).trans (perm4 _ _ _ _ _)))
theorem Tb.sep {B : Nat} {w0 w : World} {tq tk rq rk : Nat} {M L : List (Nat × Nat × Nat)} {ts : List Kt} (h : Tb B w0 w tq tk M rq rk L ts) : Below B w0 w := by
  obtain ⟨x, A, n, c, h1, h2⟩ := h
  exact h2.b
theorem RelT.new : RelT (lookM ([] : List (Nat × Nat × Nat))) [] := ⟨List.Pairwise.nil, fun k => rfl⟩
theorem Bt.new {tk rk : Nat} (h : tk ≤ 1000) (h' : rk ≤ 1000) : Bt 0 [] [] tk rk := ⟨h, h', Nat.le_refl _, Nat.le_refl _, fun x c h => (by cases h), fun y h => (by cases h), by omega⟩

set_option maxHeartbeats 16000000 in
theorem tdoes_walk (a : Int) (ha : -9223372036854775808 ≤ a ∧ a ≤ 9223372036854775807) (V : Option Addr) (c : Nat) (l : List OT) (w : World) (hV : Rw w encO14 3 V l) (hl : l.length ≤ maxLen) (ho : OkT l) :
    Calls Try.prog 4 #[.int .i64 a, .slice V l.length c] w fun e w' => e = .returned (.bool true) ∧ Below w.heap.size w w' := by
  have HK := Lib.hid (tknown_any w)
  obtain ⟨n, hn⟩ : ∃ n, n = l.length := ⟨_, rfl⟩
  rw [← hn]
  rw [← hn] at hl
  have hln : n ≤ 9223372036854775807 := by unfold maxLen at hl; omega
  have HX := Lib.hid (And.intro hV (And.intro ho hn))
  clear hV ho hn hl
  go_enter Try.func4, Try.ntmps4
  by_cases h100 : 100 < n
  · have g1 : decide ((100 : Int) < (n : Int)) = true := decide_eq_true (by omega)
    have g2 : (100 : Int) < (n : Int) := by omega
    clear h100
    go_wp2_with fail
    refine HK.out.mono ?_
    rintro e w2 ⟨rfl, h2⟩
    have H2 := Lib.hid h2
    clear h2 HK
    go_wp2_with fail
    go_ret
    exact ⟨rfl, H2.out⟩
  · have g1 : decide ((100 : Int) < (n : Int)) = false := decide_eq_false (by omega)
    have g2 : ¬ (100 : Int) < (n : Int) := by omega
    go_wp2_with fail
    refine HK.out.mono ?_
    rintro e w2 ⟨rfl, h2⟩
    have H2 := Lib.hid h2
    clear h2 HK
    by_cases hbad : a < 1 ∨ 1000 < a
    · have HN := Lib.hid (tnew_none a hbad w2)
      have HR := Lib.hid (rtnew_none a hbad w2)
      clear hbad
      go_wp2_with fail
      refine HN.out.mono ?_
      rintro e w3 ⟨rfl, hw3⟩
      rw [hw3]
      clear hw3 HN
      go_wp2_with fail
      refine HR.out.mono ?_
      rintro e w3 ⟨rfl, hw3⟩
      rw [hw3]
      clear hw3 HR
      go_wp2_with fail
      go_ret
      exact ⟨rfl, H2.out⟩
    · obtain ⟨T, hT⟩ : ∃ T : Nat, a = (T : Int) := ⟨a.toNat, by omega⟩
      have hT1 : 1 ≤ T := by omega
      have hT2 : T ≤ 1000 := by omega
      subst hT
      clear hbad ha
      have HN := Lib.hid (tnew_any T hT1 hT2 w2)
      have H0 := Lib.hid (Tm.new (Sep.nil (Below.refl w2.heap.size w2) (Nat.le_refl _)) T)
      obtain ⟨q, hq⟩ : ∃ q, q = w2.heap.size + 1 := ⟨_, rfl⟩
      obtain ⟨W0, hW0⟩ : ∃ W, W = ((w2.alloc (.map #[] 0)).alloc (.cells #[.int .u64 ((T : Nat) : Int), .map (some w2.heap.size)] 48)) := ⟨_, rfl⟩
      rw [← hq, ← hW0] at H0 HN
      clear hq hW0
      go_wp2_with fail
      refine HN.out.mono ?_
      rintro e w3 ⟨q1, rfl, hq1, hw1⟩
      rw [hw1, hq1]
      clear hw1 hq1 HN
      have HR := Lib.hid (rtnew_any T hT1 hT2 W0)
      have H1 := Lib.hid (Tb.new H0.out T)
      obtain ⟨rq, hrq⟩ : ∃ q, q = W0.heap.size := ⟨_, rfl⟩
      obtain ⟨W1, hW1⟩ : ∃ W, W = W0.alloc (.cells #[.int .u64 ((T : Nat) : Int), .slice none 0 0] 52) := ⟨_, rfl⟩
      rw [← hrq, ← hW1] at HR H1
      clear hrq hW1 H0
      go_wp2_with fail
      refine HR.out.mono ?_
      rintro e w3 ⟨rfl, hw3⟩
      rw [hw3]
      clear hw3 HR
      go_wp2_with fail
      go_loopg [7] n (fun gh s7 wr => ∃ i : Nat, s7 = .int .i64 i ∧ i + gh = n ∧ Hid (∃ M L, Tb w2.heap.size w2 wr q T M rq T L [] ∧ Bt i M L T T ∧ RelT (lookM M) L))
      case atStart => exact ⟨0, rfl, Nat.zero_add _, Lib.hid ⟨[], [], H1.out, Bt.new hT2 hT2, RelT.new⟩⟩
      case round =>
        obtain ⟨i, rfl, hig, HR⟩ := hrel
        clear H1
        by_cases hi : i < n
        · have hil : (i : Int) < (n : Int) := by omega
          have hi0 : (0 : Int) ≤ (i : Int) := by omega
          obtain ⟨M, L, h1, h2, h3⟩ := HR.out
          obtain ⟨o, hoi⟩ : ∃ o, l[i]? = some o := ⟨_, List.getElem?_eq_getElem (by have := HX.out.2.2; omega)⟩
          obtain ⟨p, f, rfl, c0, c1, c2⟩ := op_cells HX.out.1 (H2.out.trans (h1.sep.mono H2.out.size)) hoi
          obtain ⟨k1, k2, k3⟩ := HX.out.2.1 o (List.mem_of_getElem? hoi)
          have HC := Lib.hid (does14_any h1 h2 k2 k3)
          have HD := Lib.hid (And.intro h2 h3)
          obtain ⟨kd, se, now⟩ := o
          unfold celT at HC
          simp only at c0 c1 c2 HC
          clear h1 h2 h3 hoi k1 k2 k3 HR hi
          go_wp2_with fail
          refine HC.out.mono ?_
          rintro e w4 ⟨r, M2, L2, rfl, h4, k4, k5, k6, k7⟩
          have hr := k7 HD.out.2 rfl
          subst hr
          have hRel : RelT (lookM M2) L2 := by rw [k6]; exact (HD.out.2.step T ⟨kd, se, now⟩).congr k4
          have hBt : Bt (i + 1) M2 L2 T T := by rw [k6]; exact HD.out.1.step (by omega) k4 k5
          have H4 := Lib.hid (And.intro h4 (And.intro hBt hRel))
          clear h4 k4 k5 k6 k7 hRel hBt c0 c1 c2 HC HD
          go_wp2_with fail
          go_loopg [9] (i + 1) (fun gh s9 wy => ∃ k : Nat, s9 = .int .i64 k ∧ k + gh = i + 1 ∧ Hid (Tb w2.heap.size w2 wy q T M2 rq T L2 []))
          case atStart => exact ⟨0, rfl, Nat.zero_add _, Lib.hid H4.out.1⟩
          case round =>
            obtain ⟨k, rfl, hkg, HY⟩ := hrel
            by_cases hk : k ≤ i
            · have hkl : decide ((k : Int) ≤ (i : Int)) = true := decide_eq_true (by omega)
              have hkl2 : (k : Int) ≤ (i : Int) := by omega
              have hk0 : (0 : Int) ≤ (k : Int) := by omega
              have hkn : (k : Int) < (n : Int) := by omega
              obtain ⟨o, hoi⟩ : ∃ o, l[k]? = some o := ⟨_, List.getElem?_eq_getElem (by have := HX.out.2.2; omega)⟩
              obtain ⟨p', f', hpf, c0, c1, c2⟩ := op_cells HX.out.1 (H2.out.trans (HY.out.sep.mono H2.out.size)) hoi
              injection hpf with hpf
              injection hpf with hp1 hp2
              subst hp1
              subst hp2
              obtain ⟨k1, k2, k3⟩ := HX.out.2.1 o (List.mem_of_getElem? hoi)
              obtain ⟨A, n', c', hnl, hT⟩ := HY.out.asTm
              have HC := Lib.hid (tat_any hT o.se k2)
              obtain ⟨x1, hx1⟩ : ∃ x, x = (atD M2 o.se).1 := ⟨_, rfl⟩
              obtain ⟨b1, hb1⟩ : ∃ x, x = (lookM M2 o.se).isSome := ⟨_, rfl⟩
              obtain ⟨x2, hx2⟩ : ∃ x, x = ((lookM L2 o.se).getD (0, 0)).2 := ⟨_, rfl⟩
              have hxx : x1 = x2 ∧ (lookM L2 o.se).isSome = b1 := by
                rw [hx1, hx2, hb1]
                unfold atD
                rw [H4.out.2.2.2]
                cases lookM L2 o.se <;> exact ⟨rfl, rfl⟩
              rw [← hx1, ← hb1] at HC
              have HQ := Lib.hid (fun (W : World) (hW : Tb w2.heap.size w2 W q T M2 rq T L2 []) => show Calls Try.prog 12 #[.pointer (some ⟨rq, 0, none⟩), .int .u32 ((o.se : Nat) : Int)] W fun e w' => e = .returned (.tuple #[.int .u64 ((x1 : Nat) : Int), .bool b1]) ∧ Below W.heap.size W w' from hW.asRt.elim fun b hR => by
                have := rtat_any hR o.se (by have := H4.out.2.1.ll; omega)
                rw [← hx2, hxx.2, ← hxx.1] at this
                exact this)
              have HO := Lib.hid hoi
              obtain ⟨kd, se, now⟩ := o
              have HN := Lib.hid hnl
              simp only at c0 c1 c2 HC HQ
              clear hx1 hb1 hx2 hxx hoi hT k1 k2 k3 hk hnl
              go_upto_region 17 with (go_at_call 11; refine HC.out.mono ?_; rintro e w5 ⟨rfl, h5⟩)
              have h6 := Tb.ofTm HN.out h5
              obtain ⟨p', f', hpf, d0, d1, d2⟩ := op_cells HX.out.1 (H2.out.trans (h6.sep.mono H2.out.size)) HO.out
              injection hpf with hpf
              injection hpf with hp1 hp2
              subst hp1
              subst hp2
              simp only at d0 d1 d2
              have H7 := Lib.hid (HQ.out _ h6)
              have H6 := Lib.hid h6
              clear h5 h6 HC HQ c0 c1 c2
              go_wp2_with fail
              refine H7.out.mono ?_
              rintro e w6 ⟨rfl, h8⟩
              have H8 := Lib.hid (H6.out.go h8)
              clear h8 H7 d0 d1 d2
              go_wp2_with fail
              go_roundg (i - k)
              case measure => omega
              case rel => exact ⟨k + 1, by go_num, by omega, H8⟩
            · have hkl : decide ((k : Int) ≤ (i : Int)) = false := decide_eq_false (by omega)
              have hkl2 : ¬ (k : Int) ≤ (i : Int) := by omega
              clear hk
              go_wp2_with fail
              go_roundg (n - (i + 1))
              case measure => omega
              case rel => exact ⟨i + 1, by go_num, by omega, Lib.hid ⟨M2, L2, HY.out, H4.out.2.1, H4.out.2.2⟩⟩
        · have hil : ¬ (i : Int) < (n : Int) := by omega
          have HZ : Hid (Below w.heap.size w wr) := Lib.hid (by obtain ⟨M, L, h1, -⟩ := HR.out; exact H2.out.trans (h1.sep.mono H2.out.size))
          clear hi
          go_wp2_with fail
          go_ret
          exact ⟨rfl, HZ.out⟩

end Go.Proofs.Ytgadedpcekiljaa
