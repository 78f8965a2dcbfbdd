/- Layer 13: walk of WinDoes. -/
import Derived.Test.YtlchnpmiaemobaaWin16
import Derived.Deep.RegionHeld3
set_option linter.unusedSimpArgs false
set_option linter.unusedVariables false
namespace Go.Proofs.Ytlchnpmiaemobaa
open Go.RowKit
set_option maxRecDepth 100000

/-- what is under way behind the first k calls -/
def runL (b : Int) (L : List OC) (k : Nat) : List PC := (L.take k).foldl (stepL b) []
theorem runL_zero (b : Int) (L : List OC) : runL b L 0 = [] := rfl
theorem runL_succ (b : Int) (L : List OC) (k : Nat) (o : OC) (h : L[k]? = some o) : runL b L (k + 1) = stepL b (runL b L k) o := by
  obtain ⟨hj, hx⟩ := List.getElem?_eq_some_iff.1 h
  unfold runL
  rw [List.take_succ_eq_append_getElem hj, List.foldl_append, hx]
  rfl
theorem runL_ok {b : Int} (hb : b ≤ 1048576) (L : List OC) : ∀ k, k ≤ L.length → OkL (runL b L k) ∧ (runL b L k).length ≤ k
  | 0, _ => ⟨OkL.nil, Nat.le_refl _⟩
  | k + 1, hk => by
    have ih := runL_ok hb L k (by omega)
    rw [runL_succ b L k L[k] (List.getElem?_eq_getElem (by omega))]
    exact ⟨ih.1.step hb _, by have := stepL_len b (runL b L k) L[k]; omega⟩
/-- what the law's argument holds -/
def OkO (L : List OC) : Prop := ∀ o ∈ L, o.kd ≤ 255

theorem rw_at {α : Type} {enc : α → List Value} {sz : Nat} {w : World} {V : Option Addr} {l : List α} (h : Rw w enc sz V l) (k : Nat) (hk : k < l.length) : ∃ p o, V = some ⟨p, o, none⟩ ∧ ∀ j v, (enc l[k])[j]? = some v → w.cell? ⟨p, o + k * sz + j, none⟩ = some v := h k l[k] (List.getElem?_eq_getElem hk)

/-- the pieces that the document's window holds, as they lie -/
theorem Two.refRow {w : World} {ks : List Kq} {O : Ob} {g : Nat} {b : Int} {l : List PC} (h : Two w ks O (oR g b l)) : ∃ A c, Qs w [qV 0 31 encP 8 (.slice A l.length c) l, qB g 46 #[.int .i64 b, .slice A l.length c]] := by
  obtain ⟨S, R, -, h2, -, -⟩ := h.ex
  obtain ⟨A, c, -, hg, hr⟩ := (h2.now : RefO w R g b l).ex
  exact ⟨A, c, ((Qs.nil w).cons (k := qB _ _ _) hg).cons (k := qV _ _ _ _ _ _) hr⟩

theorem r_in {w : World} {ks : List Kq} {O : Ob} {g : Nat} {b : Int} {l : List PC} (h : Two w ks O (oR g b l)) (hl : OkL l) (hn : l.length ≤ 1000000) : Calls Try.prog 23 #[.pointer (some ⟨g, 0, none⟩)] w fun e w' => e = .returned (.int .i64 (sumP l)) ∧ w' = w := by
  obtain ⟨S, R, -, h2, -, -⟩ := h.ex
  exact refin_any h2.now hl.ok (by have := hl.sum; omega) hn
theorem r_room {w : World} {ks : List Kq} {O : Ob} {g : Nat} {b : Int} {l : List PC} (h : Two w ks O (oR g b l)) (hl : OkL l) (hn : l.length ≤ 1000000) : Calls Try.prog 25 #[.pointer (some ⟨g, 0, none⟩)] w fun e w' => e = .returned (.bool (decide (sumP l < b))) ∧ Below w.heap.size w w' := by
  obtain ⟨S, R, -, h2, -, -⟩ := h.ex
  exact refroom_any h2.now hl.ok (by have := hl.sum; omega) hn
theorem w2_room {w : World} {ks : List Kq} {O : Ob} {g : Nat} {b : Int} {l : List PC} (h : Two w ks (oW g b l) O) : Calls Try.prog 24 #[.pointer (some ⟨g, 0, none⟩)] w fun e w' => e = .returned (.bool (decide (sumP l < b))) ∧ Below w.heap.size w w' := by
  obtain ⟨S, R, h1, -, -, -⟩ := h.ex
  exact winroom_any h1.now

set_option maxHeartbeats 4000000 in
theorem winDoes_walk (n : Int) (V : Option Addr) (c : Nat) (L : List OC) (w : World) (hV : Rw w encO 9 V L) (hL : L.length ≤ maxLen) (hok : OkO L) :
    Calls Try.prog 5 #[.int .i64 n, .slice V L.length c] w fun e w' => e = .returned (.bool true) ∧ Below w.heap.size w w' := by
  have HKn := Lib.hid (fun W => known_any W)
  unfold maxLen at hL
  by_cases hlen : 100 < L.length
  · have hd : decide ((100 : Int) < L.length) = true := decide_eq_true (by omega)
    clear hV hok
    go_enter Try.func5, Try.ntmps5
    go_wp2_with fail
    refine (HKn.out _).mono ?_
    rintro e w1 ⟨rfl, b1⟩
    have HB := Lib.hid b1
    clear b1
    go_wp2_with fail
    go_ret
    exact ⟨rfl, HB.out⟩
  · have hl1 : L.length ≤ 100 := by omega
    have hd : decide ((100 : Int) < L.length) = false := decide_eq_false (by omega)
    clear hL hlen
    by_cases hn : n < 1 ∨ 1048576 < n
    · have HA := Lib.hid (fun W => wnew_none n hn W)
      have HB := Lib.hid (fun W => refnew_none n hn W)
      clear hn hV hok
      go_enter Try.func5, Try.ntmps5
      go_wp2_with fail
      refine (HKn.out _).mono ?_
      rintro e w1 ⟨rfl, b1⟩
      have HB1 := Lib.hid b1
      clear b1
      go_wp2_with fail
      refine (HA.out _).mono ?_
      rintro e w2 ⟨rfl, rfl⟩
      go_wp2_with fail
      refine (HB.out _).mono ?_
      rintro e w3 ⟨rfl, rfl⟩
      go_wp2_with fail
      go_ret
      exact ⟨rfl, HB1.out⟩
    · have h1 : 1 ≤ n := by omega
      have h2 : n ≤ 1048576 := by omega
      clear hn
      have HV := Lib.hid hV
      have HO := Lib.hid hok
      clear hV hok
      go_enter Try.func5, Try.ntmps5
      go_wp2_with fail
      refine (HKn.out _).mono ?_
      rintro e w1 ⟨rfl, b1⟩
      have HQ1 := Lib.hid ((Qs.zero w).go b1)
      have z1 := b1.size
      clear b1
      go_wp2_with fail
      refine (w_new n h1 h2 HQ1.out (fun k hk => ⟨Nat.le_trans z1 hk, trivial⟩)).mono ?_
      rintro e w2 ⟨rfl, k2⟩
      have H2 := Lib.hid k2
      clear k2
      go_wp2_with fail
      refine (refnew_any n h1 h2 _).mono ?_
      rintro e w3 ⟨rfl, k3, b3⟩
      have H3 := Lib.hid (H2.out.second (O2 := oR w2.heap.size n []) b3 k3.held (fun k hk => by subst hk; exact Nat.le_refl _))
      clear k3 b3 H2
      obtain ⟨g, hg⟩ : ∃ g, g = w1.heap.size := ⟨_, rfl⟩
      obtain ⟨g', hg'⟩ : ∃ g', g' = w2.heap.size := ⟨_, rfl⟩
      rw [← hg, ← hg'] at H3
      simp only [← hg, ← hg']
      clear hg hg' HQ1 z1
      go_wp2_with fail
      go_loopw [7] (fun s7 wr => ∃ k : Nat, k ≤ L.length ∧ s7 = .int .i64 k ∧ Hid (Two wr [qW w w.heap.size (Nat.le_refl _)] (oW g n (runL n L k)) (oR g' n (runL n L k))))
        (fun s7 _ => L.length - (intOf s7).toNat)
      case atStart => exact ⟨0, Nat.zero_le _, rfl, H3⟩
      case round =>
        obtain ⟨k, hk, rfl, HT⟩ := hrel
        clear H3
        by_cases hlt : k < L.length
        · obtain ⟨p, o, rfl, hc⟩ := rw_at (HV.out.below (HT.out.qs.top 0) (Nat.le_refl _)) k hlt
          have hkd := HO.out L[k] (List.getElem_mem hlt)
          have hrs := runL_succ n L k L[k] (List.getElem?_eq_getElem hlt)
          have hro := runL_ok h2 L k (by omega)
          have hro2 := runL_ok h2 L (k + 1) (by omega)
          obtain ⟨x, hx⟩ : ∃ x, x = L[k] := ⟨_, rfl⟩
          rw [← hx] at hc hkd hrs
          clear hx
          obtain ⟨l1, hl1e⟩ : ∃ l1, l1 = runL n L k := ⟨_, rfl⟩
          obtain ⟨l2, hl2e⟩ : ∃ l2, l2 = runL n L (k + 1) := ⟨_, rfl⟩
          rw [← hl1e] at HT hro hrs
          rw [← hl2e] at hro2 hrs
          have HL2 := Lib.hid hl2e
          have hD := does_any wr _ g g' n l1 x HT.out hro.1 (by omega) h2 hkd
          rw [← hrs] at hD
          obtain ⟨kd, se, f0, f1, f2, t0, t1, t2, pn⟩ := x
          simp only [encO, encP] at hD
          have C := And.intro (hc 0 _ rfl) (And.intro (hc 1 _ rfl) (And.intro (hc 2 _ rfl) (And.intro (hc 3 _ rfl) (And.intro (hc 4 _ rfl) (And.intro (hc 5 _ rfl) (And.intro (hc 6 _ rfl) (And.intro (hc 7 _ rfl) (hc 8 _ rfl))))))))
          simp only [Nat.add_zero] at C
          have HD := Lib.hid hD
          have hn2 : l2.length ≤ 101 := by omega
          have HOk := Lib.hid hro2.1
          clear hc hkd hrs hro hro2 hl1e hl2e hD
          go_wp2_with fail
          refine HD.out.mono ?_
          rintro e w4 ⟨rfl, k4⟩
          obtain ⟨A, cr, hrow⟩ := k4.refRow
          have H4 := Lib.hid k4
          have HR4 := Lib.hid hrow
          have d0 : (w4 : World).cell? ⟨g', 1, none⟩ = some (.slice A l2.length cr) := (hrow.blk 1).cell 1
          have ndr : ∀ (W : World) (a : Addr), W.drew.cell? a = W.cell? a := fun _ _ => rfl
          clear k4 hrow C HD
          go_wp2_with fail
          go_upto_region 11 with fail
          go_cut [71] (fun s71 wx => s71 = .bool false ∧ Hid (Two wx [qW w w.heap.size (Nat.le_refl _)] (oW g n l2) (oR g' n l2)))
          case first =>
            go_region_held3 (fun w' => w'.cell? ⟨g', 1, none⟩ = some (.slice A l2.length cr)) (first | with_reducible exact d0 | with_reducible exact d5 | with_reducible exact d6 | with_reducible exact d7 | with_reducible exact d8 | (simp only [ndr]; with_reducible exact d0))
              (first
                | (go_at_call 22; refine (w_in H4.out.drew.one).mono ?_; rintro e w5 ⟨rfl, rfl⟩)
                | (go_at_call 23; refine (r_in H4.out.drew HOk.out (by omega)).mono ?_; rintro e w5 ⟨rfl, rfl⟩)
                | (go_at_call 24; refine (w2_room H4.out.drew).mono ?_; rintro e w5 ⟨rfl, b5⟩; have H5 := Lib.hid (H4.out.drew.go b5); have k5 := HR4.out.drew.go b5; have d5 : (w5 : World).cell? ⟨g', 1, none⟩ = some (.slice A l2.length cr) := (k5.blk 1).cell 1; have HR5 := Lib.hid k5; clear k5 b5)
                | (go_at_call 25; refine (r_room H5.out HOk.out (by omega)).mono ?_; rintro e w6 ⟨rfl, b6⟩; have H6 := Lib.hid (H5.out.go b6); have k6 := HR5.out.go b6; have d6 : (w6 : World).cell? ⟨g', 1, none⟩ = some (.slice A l2.length cr) := (k6.blk 1).cell 1; have HR6 := Lib.hid k6; clear k6 b6)
                | (go_at_call 17; refine (w_pieces H6.out.one (by omega)).mono ?_; rintro e w7 ⟨A7, c7, rfl, hown7, b7⟩; have H7 := Lib.hid (H6.out.go b7); have k7 := HR6.out.go b7; have d7 : (w7 : World).cell? ⟨g', 1, none⟩ = some (.slice A l2.length cr) := (k7.blk 1).cell 1; have HR7 := Lib.hid k7; have HO7 := Lib.hid hown7; clear k7 b7 hown7)
                | (go_at_call 26; refine (same_any A7 A c7 cr l2 l2 _ (OwnR.mono HO7.out (Nat.zero_le _)) (HR7.out.rowV 0) (by omega) (by omega)).mono ?_; rintro e w8 ⟨rfl, b8⟩; have H8 := Lib.hid (H7.out.go b8); have d8 : (w8 : World).cell? ⟨g', 1, none⟩ = some (.slice A l2.length cr) := ((HR7.out.go b8).blk 1).cell 1; clear b8))
            all_goals
              go_wp2_with fail
              go_meet
              exact ⟨by simp, H8.out⟩
          case rest =>
            obtain ⟨rfl, HC⟩ := hcut
            rw [HL2.out] at HC
            go_wp2_with fail
            go_roundw
            case measure => simp [intOf]; omega
            case rel => exact ⟨k + 1, by omega, by go_num, HC⟩
        · obtain rfl : k = L.length := by omega
          go_wp2_with fail
          go_ret
          exact ⟨rfl, HT.out.qs.top 0⟩

end Go.Proofs.Ytlchnpmiaemobaa
