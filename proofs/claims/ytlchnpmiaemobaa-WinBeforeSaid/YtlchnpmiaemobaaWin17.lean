/- Layer 13: walks of WinBefore and WinDoes. -/
import Derived.Test.YtlchnpmiaemobaaWin16
set_option linter.unusedSimpArgs false
set_option linter.unusedVariables false
namespace Go.Proofs.Ytlchnpmiaemobaa
open Go.RowKit
set_option maxRecDepth 100000

theorem winBefore_walk (a0 a1 a2 b0 b1 b2 : Nat) (w : World) :
    Calls Try.prog 4 #[.agg #[.int .u32 a0, .int .u32 a1, .int .u32 a2], .agg #[.int .u32 b0, .int .u32 b1, .int .u32 b2]] w fun e w' => e = .returned (.bool true) ∧ Below w.heap.size w w' := by
  have K := ((Qs.zero w).box #[.int .u32 a0, .int .u32 a1, .int .u32 a2] 29).box #[.int .u32 b0, .int .u32 b1, .int .u32 b2] 29
  simp only [World.size_alloc] at K
  have HK := Lib.hid K
  have HX := Lib.hid (fun W => before_any a0 a1 a2 b0 b1 b2 W)
  have HY := Lib.hid (fun W => before_any b0 b1 b2 a0 a1 a2 W)
  have HZ := Lib.hid (fun W => rbefore_any a0 a1 a2 b0 b1 b2 W)
  have hfin : ∃ x y s : Bool, bef a0 a2 b0 b2 = x ∧ bef b0 b2 a0 a2 = y ∧ ((a0 : Int) == (b0 : Int) && (a2 : Int) == (b2 : Int)) = s ∧ ((x && y) = false) ∧ ((x || y) == !s) = true := by
    refine ⟨_, _, _, rfl, rfl, rfl, ?_, ?_⟩
    · unfold bef
      by_cases h1 : a0 < b0
      · have h2 : ¬ b0 < a0 := by omega
        have h3 : ¬ b0 = a0 := by omega
        simp [h1, h2, h3]
      · by_cases h2 : b0 < a0
        · have h3 : ¬ a0 = b0 := by omega
          simp [h1, h3]
        · have h3 : a0 = b0 := by omega
          subst h3
          simp only [Nat.lt_irrefl, decide_true, decide_false, Bool.true_and, Bool.false_or]
          by_cases h5 : a2 < b2
          · have h6 : ¬ b2 < a2 := by omega
            simp [h6]
          · simp [h5]
    · unfold bef
      by_cases h1 : a0 < b0
      · have h2 : ¬ (a0 : Int) = b0 := by omega
        have h3 : ¬ b0 < a0 := by omega
        have h4 : ¬ b0 = a0 := by omega
        simp [h1, h2, h3, h4]
      · by_cases h2 : b0 < a0
        · have h3 : ¬ (a0 : Int) = b0 := by omega
          have h4 : ¬ a0 = b0 := by omega
          simp [h1, h2, h3, h4]
        · have h3 : a0 = b0 := by omega
          subst h3
          by_cases h4 : a2 = b2
          · subst h4; simp
          · have h5 : a2 < b2 ∨ b2 < a2 := by omega
            rcases h5 with h5 | h5
            · have h6 : ¬ (a2 : Int) = b2 := by omega
              have h7 : ¬ b2 < a2 := by omega
              simp [h5, h6, h7]
            · have h6 : ¬ (a2 : Int) = b2 := by omega
              have h7 : ¬ a2 < b2 := by omega
              simp [h5, h6, h7]
  obtain ⟨x, y, s, ex, ey, es, hxy, hs⟩ := hfin
  rw [ex] at HX HZ
  rw [ey] at HY
  obtain ⟨p, hp⟩ : ∃ p, ((a0 : Int) == (b0 : Int)) = p := ⟨_, rfl⟩
  obtain ⟨q, hq⟩ : ∃ q, ((a2 : Int) == (b2 : Int)) = q := ⟨_, rfl⟩
  rw [hp, hq] at es
  subst es
  clear ex ey K
  have C := HK.out.says
  simp only [sayAll, cellsSay, qB, qW, Nat.reduceAdd, and_true, true_and] at C
  have key : ∀ (p q x y : Bool), ((x && y) = false) → ((x || y) == !(p && q)) = true → (p = true ∧ q = true ∧ x = false ∧ y = false) ∨ (p = false ∧ x = true ∧ y = false) ∨ (p = false ∧ x = false ∧ y = true) ∨ (p = true ∧ q = false ∧ x = true ∧ y = false) ∨ (p = true ∧ q = false ∧ x = false ∧ y = true) := by decide
  have hk := key p q x y hxy hs
  clear key hxy hs
  rcases hk with ⟨rfl, rfl, rfl, rfl⟩ | ⟨rfl, rfl, rfl⟩ | ⟨rfl, rfl, rfl⟩ | ⟨rfl, rfl, rfl, rfl⟩ | ⟨rfl, rfl, rfl, rfl⟩
  all_goals
    go_enter Try.func4, Try.ntmps4
    go_wp2_with fail
    refine (HX.out _).mono ?_
    rintro e w1 ⟨rfl, b1⟩
    have HK1 := Lib.hid (HK.out.go b1)
    clear b1 HK C
    have C := HK1.out.says
    simp only [sayAll, cellsSay, qB, qW, Nat.reduceAdd, and_true, true_and] at C
    go_wp2_with fail
    refine (HY.out _).mono ?_
    rintro e w2 ⟨rfl, b2⟩
    have HK2 := Lib.hid (HK1.out.go b2)
    clear b2 HK1 C
    have C := HK2.out.says
    simp only [sayAll, cellsSay, qB, qW, Nat.reduceAdd, and_true, true_and] at C
    go_wp2_with fail
    refine (known_any _).mono ?_
    rintro e w3 ⟨rfl, b3⟩
    have HK3 := Lib.hid (HK2.out.go b3)
    clear b3 HK2 C
    have C := HK3.out.says
    simp only [sayAll, cellsSay, qB, qW, Nat.reduceAdd, and_true, true_and] at C
    go_wp2_with fail
    refine (HZ.out _).mono ?_
    rintro e w4 ⟨rfl, b4⟩
    have HK4 := Lib.hid (HK3.out.go b4)
    clear b4 HK3 C
    go_wp2_with fail
    go_ret
    exact ⟨rfl, HK4.out.top 2⟩

end Go.Proofs.Ytlchnpmiaemobaa
