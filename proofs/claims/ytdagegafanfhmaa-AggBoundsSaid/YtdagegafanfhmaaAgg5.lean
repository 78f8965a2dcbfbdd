/- The statements' own helper of layer 24: rising. -/
import Derived.Test.YtdagegafanfhmaaMathA
namespace Go.Proofs.Ytdagegafanfhmaa
open Go.RowKit

theorem OwnS.form {w : World} {base : Nat} {v : Value} {l : List (Int × Nat)} (h : OwnS w base v l) (hl : l ≠ []) :
    ∃ g cap, v = .slice (some ⟨g, 0, none⟩) l.length cap ∧ base ≤ g ∧ Ss w (some ⟨g, 0, none⟩) l := by
  obtain ⟨A, c, rfl, _, hs⟩ := OwnS.ss h
  rcases h.2 with ⟨_, h0⟩ | ⟨g, cap, cur, hv, hb, _⟩
  · exact absurd (List.eq_nil_of_length_eq_zero h0) hl
  · injection hv with e1 e2 e3
    subst e1
    exact ⟨g, c, rfl, hb, hs⟩

set_option maxHeartbeats 1000000 in
theorem rising_any (V : Option Addr) (c : Nat) (l : List (Int × Nat)) (w : World) (hV : Ss w V l) (hs : okS l) (hl : l.length ≤ 4096) :
    Calls Try.prog 32 #[.slice V l.length c] w fun e w' => ∃ A c', e = .returned (.slice A (risL l).length c') ∧ Ss w' A (risL l) ∧ (risL l).length ≤ c' ∧ Below w.heap.size w w' := by
  have HS := Lib.hid hs
  clear hs
  go_enter Try.func32, Try.ntmps32
  go_wp2_with fail
  go_loopw [3, 4] (fun out i wr => ∃ (k : Nat) (L : List (Int × Nat)) (A : Option Addr) (m : Nat), k ≤ l.length ∧ i = .int .i64 k ∧ out = .slice A L.length m ∧ Hid (risL (l.take k) = L) ∧ OwnS wr w.heap.size (.slice A L.length m) L ∧ Below w.heap.size w wr)
    (fun _ i _ => l.length - (intOf i).toNat)
  case atStart => exact ⟨0, [], none, 0, Nat.zero_le _, rfl, rfl, Lib.hid rfl, OwnR.nil _ _ _ _ _, Below.refl _ _⟩
  case round =>
    obtain ⟨k, L, A, m, hk, rfl, rfl, HL, HO, hbel⟩ := hrel
    by_cases hlt : k < l.length
    · obtain ⟨p, o, rfl, h1, h2⟩ := hV k l[k] (List.getElem?_eq_getElem hlt)
      have g1 : wr.cell? ⟨p, o + k * 2, none⟩ = some (.int .i64 l[k].1) := (hbel.cell (cell_lt h1)).trans h1
      have g2 : wr.cell? ⟨p, o + k * 2 + 1, none⟩ = some (.int .u64 l[k].2) := (hbel.cell (cell_lt h2)).trans h2
      have hsk := HS.out l[k] (List.getElem_mem hlt)
      have hstep := risL_snoc l k hlt
      have hlen := risL_len l k hk
      rw [HL.out] at hstep hlen
      obtain ⟨s, hs⟩ : ∃ s, s = l[k] := ⟨_, rfl⟩
      rw [← hs] at g1 g2 hsk hstep
      obtain ⟨t, v⟩ := s
      simp only at g1 g2 hsk
      clear h1 h2 hs
      have hsz := hbel.size
      by_cases hnil : L = []
      · subst hnil
        have Hst : Hid (risL (l.take (k + 1)) = [(t, v)]) := Lib.hid (by rw [hstep]; rfl)
        clear hstep
        have kA := keepA
        have HO0 : OwnS wr w.heap.size (.slice A 0 m) [] := HO
        simp only [List.length_nil] at hlen ⊢
        go_wp2_with fail
        go_quiet (fail)
        go_wp2_with (at_builtin; go_must (refine appR1 Try.eltS _ rfl (.tmp 29) (.tmp 34) rfl w.heap.size _ [] rfl (OwnR.alloc (w := World.drewN wr nq) HO0 _) wr.heap.size 1 (t, v) 48 _ rfl (Blk.new (World.drewN wr nq) _ _) rfl (by simp [maxLen]) (by simp) (by simp; omega) ?_); intro g2 c2 w2 hown2 hb2 hg2)
        go_roundw
        case measure => simp [intOf]; omega
        case rel => exact ⟨k + 1, [(t, v)], some ⟨g2, 0, none⟩, c2, by omega, by go_num, rfl, Hst, hown2, ((below_drewN hbel nq).alloc (by simpa using hsz) _).trans hb2⟩
      · obtain ⟨g, m', hv, hgb, hSs⟩ := HO.form hnil
        injection hv with e1 e2 e3
        subst e1; subst e3
        obtain ⟨n, hn⟩ : ∃ n, L.length = n + 1 := ⟨L.length - 1, by have := List.length_pos_iff.2 hnil; omega⟩
        obtain ⟨y, hy⟩ : ∃ y, y = L.getLast hnil := ⟨_, rfl⟩
        have hyg : L[n]? = some y := by rw [hy, List.getLast_eq_getElem, List.getElem?_eq_getElem (by omega)]; congr 1; congr 1; omega
        obtain ⟨p', o', hV', q1, _⟩ := hSs n y hyg
        injection hV' with e1
        injection e1 with e1 e2 _
        subst e1; subst e2
        rw [Nat.zero_add] at q1
        have hstep2 : risStep L (t, v) = if y.1 < t then L ++ [(t, v)] else L := by unfold risStep; rw [dif_neg hnil, hy]
        rw [hstep2] at hstep
        have hz : ((n : Int) + 1 == 0) = false := by simp; omega
        have hw : IntKind.i64.wrap (n : Int) = n := by rw [IntKind.wrap_i64]; omega
        have HO1 : OwnS wr w.heap.size (.slice (some ⟨g, 0, none⟩) (n + 1) m) L := by rw [← hn]; exact HO
        have Hn := Lib.hid hn
        rw [hn] at hlen ⊢
        clear hn hy hyg hstep2 HO
        have kA := keepA
        by_cases hgt : y.1 < t
        · have Hst : Hid (risL (l.take (k + 1)) = L ++ [(t, v)]) := Lib.hid (by rw [hstep, if_pos hgt])
          clear hstep
          have hd : decide (y.1 < t) = true := decide_eq_true hgt
          go_wp2_with fail
          go_quiet (fail)
          go_wp2_with (at_builtin; go_must (refine appR1 Try.eltS _ rfl (.tmp 29) (.tmp 34) rfl w.heap.size _ L rfl (OwnR.alloc (w := World.drewN wr nq) HO1 _) wr.heap.size 1 (t, v) 48 _ rfl (Blk.new (World.drewN wr nq) _ _) rfl (by rw [Hn.out]; simp [maxLen]; omega) (by rw [Hn.out]; omega) (by simp; omega) ?_); intro g2 c2 w2 hown2 hb2 hg2)
          go_roundw
          case measure => simp [intOf]; omega
          case rel => exact ⟨k + 1, L ++ [(t, v)], some ⟨g2, 0, none⟩, c2, by omega, by go_num, by simp, Hst, by simpa using hown2, ((below_drewN hbel nq).alloc (by simpa using hsz) _).trans hb2⟩
        · have Hst : Hid (risL (l.take (k + 1)) = L) := Lib.hid (by rw [hstep, if_neg hgt])
          clear hstep
          have hd : decide (y.1 < t) = false := decide_eq_false hgt
          go_wp2_with fail
          go_quiet (fail)
          go_wp2_with fail
          go_roundw
          case measure => simp [intOf]; omega
          case rel => exact ⟨k + 1, L, some ⟨g, 0, none⟩, m, by omega, by go_num, by rw [Hn.out], Hst, by rw [Hn.out]; exact HO1, below_drewN hbel nq⟩
    · obtain rfl : k = l.length := by omega
      rw [List.take_length] at HL
      go_wp2_with fail
      refine bodyPost_ret (v := .slice A L.length m) (by simp [results, Try.results32, go_sem]) rfl ?_
      obtain ⟨A', c', hv, hc, hS⟩ := OwnS.ss HO
      injection hv with e1 e2 e3
      subst e1; subst e3
      rw [HL.out]
      exact ⟨A, m, rfl, hS, hc, hbel⟩

end Go.Proofs.Ytdagegafanfhmaa
