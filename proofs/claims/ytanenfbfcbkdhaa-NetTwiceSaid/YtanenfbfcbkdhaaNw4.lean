/- Layer 19: slices.Delete of one datagram. -/
import Derived.Test.YtanenfbfcbkdhaaNw3
import Derived.Deep.DeepAppendRoom
import Derived.StillTailTactics
import Derived.Laws.IdiomCopy
set_option linter.unusedSimpArgs false
set_option linter.unusedVariables false
namespace Go.Proofs.Ytanenfbfcbkdhaa
open Go.RowKit
set_option maxRecDepth 100000

theorem OwnR.news {α : Type} {P : Program} {t e : TypeId} {enc : α → List Value} {sz bytes : Nat} (E : Elt P t e enc sz bytes) {w : World} {base g n c : Nat} {l : List α} (h : OwnR w base e enc sz (.slice (some ⟨g, 0, none⟩) n c) l) (k : Nat) :
    ∀ j u, ((l.drop k).flatMap enc)[j]? = some u → w.cell? ((⟨g, k * sz, none⟩ : Addr).add j) = some u := fun j u hj => by
  obtain ⟨x, hx, hu⟩ := flat_at enc sz E.pos E.len _ j u hj
  rw [List.getElem?_drop] at hx
  obtain ⟨A, c', hv, _, hr⟩ := OwnR.row E h
  injection hv with e1 _ _
  subst e1
  obtain ⟨p, o, hp, hc⟩ := hr _ x hx
  injection hp with hp
  injection hp with e1 e2 _
  subst e1; subst e2
  have h1 := hc _ _ hu
  have h2 : 0 + (k + j / sz) * sz + j % sz = k * sz + j := by
    have := Nat.div_add_mod j sz
    rw [Nat.add_mul, Nat.mul_comm (j / sz)]; omega
  rw [h2] at h1
  unfold Addr.add
  split
  · rename_i h0; subst h0; exact h1
  · exact h1
theorem OwnR.some_ {α : Type} {P : Program} {t e : TypeId} {enc : α → List Value} {sz bytes : Nat} {w : World} {base g n c : Nat} {l : List α} (h : OwnR w base e enc sz (.slice (some ⟨g, 0, none⟩) n c) l) (i : Nat) (hi : i < c * sz) : ∃ v, w.cell? ⟨g, i, none⟩ = some v := by
  rcases h.2 with ⟨hv, _⟩ | ⟨g', cap', cur, hv, h1, h2, h3, h4, h5, h6⟩
  · cases hv
  · injection hv with e1 _ e3
    injection e1 with e1
    injection e1 with e1 _ _
    subst e1; subst e3
    rw [cell_of_row w g i cur e (0, 0) h2]
    exact ⟨_, Array.getElem?_eq_getElem (by omega)⟩

theorem run_clear_one {P : Program} (w : World) (t e ty : TypeId) (z : Value) (ht : P.underlying t = some (.slice e)) (hv : ∀ w, (zeroValue e).run P w = .ok z w) (zs : List Value) (hz : (Builtin.zeroCells z.cells 1).toList = zs) (h1 : ∀ v ∈ zs, v.oneCell' = true) (b o c : Nat)
    (hc : ∀ j, j < zs.length → (w.cell? ⟨b, o + j, none⟩).isSome = true) (hf : ∀ j, j < zs.length → w.frozen? ⟨b, o + j, none⟩ = false) :
    (Builtin.clear_ #[t] ty #[.slice (some ⟨b, o, none⟩) 1 c]).run P w = .ok (.tuple #[]) (w.setCells b o zs) := by
  have hst := run_storeCells_cells (P := P) b o zs 0 w (by simpa using hc) (by simpa using hf) h1
  simp only [Nat.add_zero] at hst
  simp [Builtin.clear_, run_underlying ht, hv, hz, hst]

set_option maxHeartbeats 8000000 in
theorem ndel_any (g cap k j n : Nat) (T : List Ng) (w : World) (h : OwnR w 0 53 encD 3 (.slice (some ⟨g, 0, none⟩) n cap) T) (hn : n = T.length) (hk : k < n) (hj : j = k + 1) (hc : n ≤ cap) :
    Calls Try.prog 22 #[.slice (some ⟨g, 0, none⟩) n cap, .int .i64 (k : Nat), .int .i64 (j : Nat)] w fun e w' => ∃ v, e = .returned v ∧ Hid (v = .slice (some ⟨g, 0, none⟩) (n - 1) cap ∧ OwnR w' 0 53 encD 3 (.slice (some ⟨g, 0, none⟩) (n - 1) cap) (T.eraseIdx k) ∧ w.grownBy w' (some g)) := by
  have H := Lib.hid h
  have Hn := Lib.hid hn
  have f1 : ((k : Int) == (j : Int)) = false := beq_eq_false_iff_ne.2 (by omega)
  have f2 : k ≤ j := by omega
  have f3 : j ≤ n := by omega
  have f4 : (k : Int) ≤ (j : Int) := by omega
  have f5 : (j : Int) ≤ (n : Int) := by omega
  have f6 : (n : Int) ≤ (cap : Int) := by omega
  have f7 : ¬ (n = k) := by omega
  have f8 : k ≤ n := by omega
  have f10 : k ≤ cap := by omega
  have f11 : j ≤ cap := by omega
  have f12 : (k : Int) ≤ (cap : Int) := by omega
  have f13 : (j : Int) ≤ (cap : Int) := by omega
  have f14 : ¬ (cap = 0) := by omega
  have f15 : ¬ ((cap : Int) < (k : Int)) := by omega
  have f16 : (0 : Int) ≤ (k : Int) := by omega
  have Hj := Lib.hid hj
  have Hk := Lib.hid hk
  have HE : Hid (T.take k ++ T.drop j = T.eraseIdx k) := Lib.hid (by rw [hj, List.eraseIdx_eq_take_drop_succ])
  have Hfr := Lib.hid (show w.ownsRow 0 53 3 (.slice (some ⟨g, 0, none⟩) k cap) k ((T.take k).flatMap encD) from by
    have h9 := h.front Try.eltD hn k (by omega)
    have h8 : (T.take k).length = k := by rw [List.length_take]; omega
    unfold OwnR at h9
    rw [h8] at h9
    exact h9)
  have Hnw := Lib.hid (h.news Try.eltD j)
  have Hnl : Hid (((T.drop j).flatMap encD).length = (n - j) * 3) := Lib.hid (by rw [flat_length encD 3 (Try.eltD.len), List.length_drop, hn])
  clear h hn hj hk
  obtain ⟨i, hi, hz, hsz, hby⟩ := info_parts (show (Try.prog.info? 53).map (fun i => (i.zero, i.size, i.bytes)) = some (some (.agg #[.int .u8 0, .slice none 0 0, .bool false]), 3, 40) by kernel_rfl)
  by_cases f9 : cap = j
  · obtain rfl : j = n := by omega
    subst f9
    clear f2 f3 f4 f5 f6 f8 f11 f13 hc
    go_enter Try.func22, Try.ntmps22
    go_upto_region 5 with fail
    go_still_tail 6, (by kernel_rfl)
    change wpList _ _ _ _ _ w.drew
    have Hnil : Hid ((T.drop cap).flatMap encD = []) := Lib.hid (List.eq_nil_of_length_eq_zero (by rw [Hnl.out]; omega))
    refine wpList_append_own_spare (P := Try.prog) w.drew rfl (.tmp 22) (.tmp 25) 48 rfl 0 53 i 3 Try.underlying48 hi hsz g k cap ((T.take k).flatMap encD) (by simp [Act.eval]) Hfr.out ⟨g, 0, none⟩ 0 0 ((T.drop cap).flatMap encD) (by simp [Act.eval]) (by rw [Hnil.out]; rfl) (fun j' u h => by rw [Hnil.out] at h; simp at h) (fun u hu => by rw [Hnil.out] at hu; simp at hu) (by omega) ?_
    intro w1 o1 g1
    obtain ⟨p, hp⟩ : ∃ p, p = k + 0 := ⟨_, rfl⟩
    rw [← hp] at o1 ⊢
    have hpn : p + 1 = cap := by have := Hj.out; have := Hk.out; omega
    have O1 : OwnR w1 0 53 encD 3 (.slice (some ⟨g, 0, none⟩) p cap) (T.eraseIdx k) := by
      unfold OwnR
      have h9 : (T.eraseIdx k).length = p := by rw [← HE.out, List.length_append, List.length_take, List.length_drop, ← Hn.out]; omega
      rw [h9, ← HE.out, List.flatMap_append]
      exact o1
    have h8 : (T.eraseIdx k).length = p := by rw [← HE.out, List.length_append, List.length_take, List.length_drop, ← Hn.out]; omega
    obtain ⟨v0, c0⟩ := O1.some_ (P := Try.prog) (t := 0) (bytes := 0) (p * 3) (by omega)
    obtain ⟨v1, c1⟩ := O1.some_ (P := Try.prog) (t := 0) (bytes := 0) (p * 3 + 1) (by omega)
    obtain ⟨v2, c2⟩ := O1.some_ (P := Try.prog) (t := 0) (bytes := 0) (p * 3 + 2) (by omega)
    have z0 := O1.frozen (p * 3)
    have z1 := O1.frozen (p * 3 + 1)
    have z2 := O1.frozen (p * 3 + 2)
    have HO1 := Lib.hid (And.intro O1 (And.intro g1 (And.intro h8 hpn)))
    have p1 : p ≤ cap := by omega
    have p2 : cap - p = 1 := by omega
    have p3 : ¬ (cap = p) := by omega
    have p4 : (p : Int) ≤ (cap : Int) := by omega
    have hcl : (Builtin.clear_ #[48] 0 #[.slice (some ⟨g, p * 3, none⟩) 1 1]).run Try.prog w1 = .ok (.tuple #[]) (w1.setCells g (p * 3) [.int .u8 0, .slice none 0 0, .bool false]) := run_clear_one w1 _ _ _ (.agg #[.int .u8 0, .slice none 0 0, .bool false]) Try.underlying48 (fun w => by kernel_rfl) _ (by kernel_rfl) (by simp; decide) g (p * 3) _ (fun j hj => by
      simp at hj
      rcases j with _ | _ | _ | j
      · rw [Nat.add_zero, c0]; rfl
      · rw [c1]; rfl
      · rw [c2]; rfl
      · omega) (fun j _ => O1.frozen _)
    obtain ⟨W2, hW2⟩ : ∃ W2, W2 = w1.setCells g (p * 3) [.int .u8 0, .slice none 0 0, .bool false] := ⟨_, rfl⟩
    rw [← hW2] at hcl
    have O2 : OwnR W2 0 53 encD 3 (.slice (some ⟨g, 0, none⟩) p cap) (T.eraseIdx k) := by
      rw [hW2]
      exact ((O1.behind Try.eltD h8.symm (p * 3) (Nat.le_refl _) _).behind Try.eltD h8.symm (p * 3 + 1) (by omega) _).behind Try.eltD h8.symm (p * 3 + 2) (by omega) _
    have g2 : w.grownBy W2 (some g) := by
      rw [hW2]
      exact grown_trans (grown_trans (grown_trans (grown_trans (grown_drew w _) g1) (grown_set w1 g _ _)) (grown_set _ g _ _)) (grown_set _ g _ _)
    have hpn' : p = cap - 1 := by omega
    have HEND := Lib.hid (show .slice (some ⟨g, 0, none⟩) p cap = Value.slice (some ⟨g, 0, none⟩) (cap - 1) cap ∧ OwnR W2 0 53 encD 3 (.slice (some ⟨g, 0, none⟩) (cap - 1) cap) (T.eraseIdx k) ∧ w.grownBy W2 (some g) from ⟨by rw [hpn'], by rw [← hpn']; exact O2, g2⟩)
    clear o1 g1 O1 h8 hp hpn hW2 O2 g2 hpn'
    go_wp2_with fail
    go_ret
    exact ⟨_, rfl, HEND⟩

  · go_enter Try.func22, Try.ntmps22
    go_upto_region 5 with fail
    go_still_tail 6, (by kernel_rfl)
    change wpList _ _ _ _ _ w.drew
    refine wpList_append_own_spare (P := Try.prog) w.drew rfl (.tmp 22) (.tmp 25) 48 rfl 0 53 i 3 Try.underlying48 hi hsz g k cap ((T.take k).flatMap encD) (by simp [Act.eval]) Hfr.out ⟨g, j * 3, none⟩ (n - j) (cap - j) ((T.drop j).flatMap encD) (by simp [Act.eval]) Hnl.out Hnw.out (fun u hu => by
      obtain ⟨x, _, hx⟩ := List.mem_flatMap.1 hu
      exact Try.eltD.one x u hx) (by omega) ?_
    intro w1 o1 g1
    obtain ⟨p, hp⟩ : ∃ p, p = k + (n - j) := ⟨_, rfl⟩
    rw [← hp] at o1 ⊢
    have hpn : p + 1 = n := by have := Hj.out; have := Hk.out; omega
    have O1 : OwnR w1 0 53 encD 3 (.slice (some ⟨g, 0, none⟩) p cap) (T.eraseIdx k) := by
      unfold OwnR
      have h9 : (T.eraseIdx k).length = p := by rw [← HE.out, List.length_append, List.length_take, List.length_drop, ← Hn.out]; omega
      rw [h9, ← HE.out, List.flatMap_append]
      exact o1
    have h8 : (T.eraseIdx k).length = p := by rw [← HE.out, List.length_append, List.length_take, List.length_drop, ← Hn.out]; omega
    obtain ⟨v0, c0⟩ := O1.some_ (P := Try.prog) (t := 0) (bytes := 0) (p * 3) (by omega)
    obtain ⟨v1, c1⟩ := O1.some_ (P := Try.prog) (t := 0) (bytes := 0) (p * 3 + 1) (by omega)
    obtain ⟨v2, c2⟩ := O1.some_ (P := Try.prog) (t := 0) (bytes := 0) (p * 3 + 2) (by omega)
    have z0 := O1.frozen (p * 3)
    have z1 := O1.frozen (p * 3 + 1)
    have z2 := O1.frozen (p * 3 + 2)
    have HO1 := Lib.hid (And.intro O1 (And.intro g1 (And.intro h8 hpn)))
    have p1 : p ≤ n := by omega
    have p2 : n - p = 1 := by omega
    have p3 : ¬ (cap = p) := by omega
    have p4 : (p : Int) ≤ (n : Int) := by omega
    have hcl : (Builtin.clear_ #[48] 0 #[.slice (some ⟨g, p * 3, none⟩) 1 (cap - p)]).run Try.prog w1 = .ok (.tuple #[]) (w1.setCells g (p * 3) [.int .u8 0, .slice none 0 0, .bool false]) := run_clear_one w1 _ _ _ (.agg #[.int .u8 0, .slice none 0 0, .bool false]) Try.underlying48 (fun w => by kernel_rfl) _ (by kernel_rfl) (by simp; decide) g (p * 3) _ (fun j hj => by
      simp at hj
      rcases j with _ | _ | _ | j
      · rw [Nat.add_zero, c0]; rfl
      · rw [c1]; rfl
      · rw [c2]; rfl
      · omega) (fun j _ => O1.frozen _)
    obtain ⟨W2, hW2⟩ : ∃ W2, W2 = w1.setCells g (p * 3) [.int .u8 0, .slice none 0 0, .bool false] := ⟨_, rfl⟩
    rw [← hW2] at hcl
    have O2 : OwnR W2 0 53 encD 3 (.slice (some ⟨g, 0, none⟩) p cap) (T.eraseIdx k) := by
      rw [hW2]
      exact ((O1.behind Try.eltD h8.symm (p * 3) (Nat.le_refl _) _).behind Try.eltD h8.symm (p * 3 + 1) (by omega) _).behind Try.eltD h8.symm (p * 3 + 2) (by omega) _
    have g2 : w.grownBy W2 (some g) := by
      rw [hW2]
      exact grown_trans (grown_trans (grown_trans (grown_trans (grown_drew w _) g1) (grown_set w1 g _ _)) (grown_set _ g _ _)) (grown_set _ g _ _)
    have hpn' : p = n - 1 := by omega
    have HEND := Lib.hid (show .slice (some ⟨g, 0, none⟩) p cap = Value.slice (some ⟨g, 0, none⟩) (n - 1) cap ∧ OwnR W2 0 53 encD 3 (.slice (some ⟨g, 0, none⟩) (n - 1) cap) (T.eraseIdx k) ∧ w.grownBy W2 (some g) from ⟨by rw [hpn'], by rw [← hpn']; exact O2, g2⟩)
    clear o1 g1 O1 h8 hp hpn hW2 O2 g2 hpn'
    go_wp2_with fail
    go_ret
    exact ⟨_, rfl, HEND⟩


end Go.Proofs.Ytanenfbfcbkdhaa
