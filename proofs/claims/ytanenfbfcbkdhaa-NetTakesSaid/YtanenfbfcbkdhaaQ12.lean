/- Joined: Nw4, Nw5. -/
import Derived.Test.YtanenfbfcbkdhaaQ10
import Derived.Deep.DeepAppendRoom
import Derived.StillTailTactics
import Derived.Laws.IdiomCopy
set_option linter.unusedSimpArgs false
set_option linter.unusedVariables false
/- Layer 19: slices.Delete of one datagram. -/
set_option linter.unusedSimpArgs false
set_option linter.unusedVariables false
namespace Go.Proofs.Ytanenfbfcbkdhaa
open Go.RowKit
set_option maxRecDepth 100000

theorem OwnR.news {α : Type} {P : Program} {t e : TypeId} {enc : α → List Value} {sz bytes : Nat} (E : Elt P t e enc sz bytes) {w : World} {base g n c : Nat} {l : List α} (h : OwnR w base e enc sz (.slice (some ⟨g, 0, none⟩) n c) l) (k : Nat) :
    ∀ j u, ((l.drop k).flatMap enc)[j]? = some u → w.cell? ((⟨g, k * sz, none⟩ : Addr).add j) = some u := fun j u hj => by
  obtain ⟨x, hx, hu⟩ := flat_at enc sz E.pos E.len _ j u hj
  rw [List.getElem?_drop] at hx
  obtain ⟨A, c', hv, _, hr⟩ := OwnR.row E h
  injection hv with e1 _ _
  subst e1
  obtain ⟨p, o, hp, hc⟩ := hr _ x hx
  injection hp with hp
  injection hp with e1 e2 _
  subst e1; subst e2
  have h1 := hc _ _ hu
  have h2 : 0 + (k + j / sz) * sz + j % sz = k * sz + j := by
    have := Nat.div_add_mod j sz
    rw [Nat.add_mul, Nat.mul_comm (j / sz)]; omega
  rw [h2] at h1
  unfold Addr.add
  split
  · rename_i h0; subst h0; exact h1
  · exact h1
theorem OwnR.some_ {α : Type} {P : Program} {t e : TypeId} {enc : α → List Value} {sz bytes : Nat} {w : World} {base g n c : Nat} {l : List α} (h : OwnR w base e enc sz (.slice (some ⟨g, 0, none⟩) n c) l) (i : Nat) (hi : i < c * sz) : ∃ v, w.cell? ⟨g, i, none⟩ = some v := by
  rcases h.2 with ⟨hv, _⟩ | ⟨g', cap', cur, hv, h1, h2, h3, h4, h5, h6⟩
  · cases hv
  · injection hv with e1 _ e3
    injection e1 with e1
    injection e1 with e1 _ _
    subst e1; subst e3
    rw [cell_of_row w g i cur e (0, 0) h2]
    exact ⟨_, Array.getElem?_eq_getElem (by omega)⟩

theorem run_clear_one {P : Program} (w : World) (t e ty : TypeId) (z : Value) (ht : P.underlying t = some (.slice e)) (hv : ∀ w, (zeroValue e).run P w = .ok z w) (zs : List Value) (hz : (Builtin.zeroCells z.cells 1).toList = zs) (h1 : ∀ v ∈ zs, v.oneCell' = true) (b o c : Nat)
    (hc : ∀ j, j < zs.length → (w.cell? ⟨b, o + j, none⟩).isSome = true) (hf : ∀ j, j < zs.length → w.frozen? ⟨b, o + j, none⟩ = false) :
    (Builtin.clear_ #[t] ty #[.slice (some ⟨b, o, none⟩) 1 c]).run P w = .ok (.tuple #[]) (w.setCells b o zs) := by
  have hst := run_storeCells_cells (P := P) b o zs 0 w (by simpa using hc) (by simpa using hf) h1
  simp only [Nat.add_zero] at hst
  simp [Builtin.clear_, run_underlying ht, hv, hz, hst]

set_option maxHeartbeats 8000000 in
theorem ndel_any (g cap k j n : Nat) (T : List Ng) (w : World) (h : OwnR w 0 53 encD 3 (.slice (some ⟨g, 0, none⟩) n cap) T) (hn : n = T.length) (hk : k < n) (hj : j = k + 1) (hc : n ≤ cap) :
    Calls Try.prog 22 #[.slice (some ⟨g, 0, none⟩) n cap, .int .i64 (k : Nat), .int .i64 (j : Nat)] w fun e w' => ∃ v, e = .returned v ∧ Hid (v = .slice (some ⟨g, 0, none⟩) (n - 1) cap ∧ OwnR w' 0 53 encD 3 (.slice (some ⟨g, 0, none⟩) (n - 1) cap) (T.eraseIdx k) ∧ w.grownBy w' (some g)) := by
  have H := Lib.hid h
  have Hn := Lib.hid hn
  have f1 : ((k : Int) == (j : Int)) = false := beq_eq_false_iff_ne.2 (by omega)
  have f2 : k ≤ j := by omega
  have f3 : j ≤ n := by omega
  have f4 : (k : Int) ≤ (j : Int) := by omega
  have f5 : (j : Int) ≤ (n : Int) := by omega
  have f6 : (n : Int) ≤ (cap : Int) := by omega
  have f7 : ¬ (n = k) := by omega
  have f8 : k ≤ n := by omega
  have f10 : k ≤ cap := by omega
  have f11 : j ≤ cap := by omega
  have f12 : (k : Int) ≤ (cap : Int) := by omega
  have f13 : (j : Int) ≤ (cap : Int) := by omega
  have f14 : ¬ (cap = 0) := by omega
  have f15 : ¬ ((cap : Int) < (k : Int)) := by omega
  have f16 : (0 : Int) ≤ (k : Int) := by omega
  have Hj := Lib.hid hj
  have Hk := Lib.hid hk
  have HE : Hid (T.take k ++ T.drop j = T.eraseIdx k) := Lib.hid (by rw [hj, List.eraseIdx_eq_take_drop_succ])
  have Hfr := Lib.hid (show w.ownsRow 0 53 3 (.slice (some ⟨g, 0, none⟩) k cap) k ((T.take k).flatMap encD) from by
    have h9 := h.front Try.eltD hn k (by omega)
    have h8 : (T.take k).length = k := by rw [List.length_take]; omega
    unfold OwnR at h9
    rw [h8] at h9
    exact h9)
  have Hnw := Lib.hid (h.news Try.eltD j)
  have Hnl : Hid (((T.drop j).flatMap encD).length = (n - j) * 3) := Lib.hid (by rw [flat_length encD 3 (Try.eltD.len), List.length_drop, hn])
  clear h hn hj hk
  obtain ⟨i, hi, hz, hsz, hby⟩ := info_parts (show (Try.prog.info? 53).map (fun i => (i.zero, i.size, i.bytes)) = some (some (.agg #[.int .u8 0, .slice none 0 0, .bool false]), 3, 40) by kernel_rfl)
  by_cases f9 : cap = j
  · obtain rfl : j = n := by omega
    subst f9
    clear f2 f3 f4 f5 f6 f8 f11 f13 hc
    go_enter Try.func22, Try.ntmps22
    go_upto_region 5 with fail
    go_still_tail 6, (by kernel_rfl)
    change wpList _ _ _ _ _ w.drew
    have Hnil : Hid ((T.drop cap).flatMap encD = []) := Lib.hid (List.eq_nil_of_length_eq_zero (by rw [Hnl.out]; omega))
    refine wpList_append_own_spare (P := Try.prog) w.drew rfl (.tmp 22) (.tmp 25) 48 rfl 0 53 i 3 Try.underlying48 hi hsz g k cap ((T.take k).flatMap encD) (by simp [Act.eval]) Hfr.out ⟨g, 0, none⟩ 0 0 ((T.drop cap).flatMap encD) (by simp [Act.eval]) (by rw [Hnil.out]; rfl) (fun j' u h => by rw [Hnil.out] at h; simp at h) (fun u hu => by rw [Hnil.out] at hu; simp at hu) (by omega) ?_
    intro w1 o1 g1
    obtain ⟨p, hp⟩ : ∃ p, p = k + 0 := ⟨_, rfl⟩
    rw [← hp] at o1 ⊢
    have hpn : p + 1 = cap := by have := Hj.out; have := Hk.out; omega
    have O1 : OwnR w1 0 53 encD 3 (.slice (some ⟨g, 0, none⟩) p cap) (T.eraseIdx k) := by
      unfold OwnR
      have h9 : (T.eraseIdx k).length = p := by rw [← HE.out, List.length_append, List.length_take, List.length_drop, ← Hn.out]; omega
      rw [h9, ← HE.out, List.flatMap_append]
      exact o1
    have h8 : (T.eraseIdx k).length = p := by rw [← HE.out, List.length_append, List.length_take, List.length_drop, ← Hn.out]; omega
    obtain ⟨v0, c0⟩ := O1.some_ (P := Try.prog) (t := 0) (bytes := 0) (p * 3) (by omega)
    obtain ⟨v1, c1⟩ := O1.some_ (P := Try.prog) (t := 0) (bytes := 0) (p * 3 + 1) (by omega)
    obtain ⟨v2, c2⟩ := O1.some_ (P := Try.prog) (t := 0) (bytes := 0) (p * 3 + 2) (by omega)
    have z0 := O1.frozen (p * 3)
    have z1 := O1.frozen (p * 3 + 1)
    have z2 := O1.frozen (p * 3 + 2)
    have HO1 := Lib.hid (And.intro O1 (And.intro g1 (And.intro h8 hpn)))
    have p1 : p ≤ cap := by omega
    have p2 : cap - p = 1 := by omega
    have p3 : ¬ (cap = p) := by omega
    have p4 : (p : Int) ≤ (cap : Int) := by omega
    have hcl : (Builtin.clear_ #[48] 0 #[.slice (some ⟨g, p * 3, none⟩) 1 1]).run Try.prog w1 = .ok (.tuple #[]) (w1.setCells g (p * 3) [.int .u8 0, .slice none 0 0, .bool false]) := run_clear_one w1 _ _ _ (.agg #[.int .u8 0, .slice none 0 0, .bool false]) Try.underlying48 (fun w => by kernel_rfl) _ (by kernel_rfl) (by simp; decide) g (p * 3) _ (fun j hj => by
      simp at hj
      rcases j with _ | _ | _ | j
      · rw [Nat.add_zero, c0]; rfl
      · rw [c1]; rfl
      · rw [c2]; rfl
      · omega) (fun j _ => O1.frozen _)
    obtain ⟨W2, hW2⟩ : ∃ W2, W2 = w1.setCells g (p * 3) [.int .u8 0, .slice none 0 0, .bool false] := ⟨_, rfl⟩
    rw [← hW2] at hcl
    have O2 : OwnR W2 0 53 encD 3 (.slice (some ⟨g, 0, none⟩) p cap) (T.eraseIdx k) := by
      rw [hW2]
      exact ((O1.behind Try.eltD h8.symm (p * 3) (Nat.le_refl _) _).behind Try.eltD h8.symm (p * 3 + 1) (by omega) _).behind Try.eltD h8.symm (p * 3 + 2) (by omega) _
    have g2 : w.grownBy W2 (some g) := by
      rw [hW2]
      exact grown_trans (grown_trans (grown_trans (grown_trans (grown_drew w _) g1) (grown_set w1 g _ _)) (grown_set _ g _ _)) (grown_set _ g _ _)
    have hpn' : p = cap - 1 := by omega
    have HEND := Lib.hid (show .slice (some ⟨g, 0, none⟩) p cap = Value.slice (some ⟨g, 0, none⟩) (cap - 1) cap ∧ OwnR W2 0 53 encD 3 (.slice (some ⟨g, 0, none⟩) (cap - 1) cap) (T.eraseIdx k) ∧ w.grownBy W2 (some g) from ⟨by rw [hpn'], by rw [← hpn']; exact O2, g2⟩)
    clear o1 g1 O1 h8 hp hpn hW2 O2 g2 hpn'
    go_wp2_with fail
    go_ret
    exact ⟨_, rfl, HEND⟩

  · go_enter Try.func22, Try.ntmps22
    go_upto_region 5 with fail
    go_still_tail 6, (by kernel_rfl)
    change wpList _ _ _ _ _ w.drew
    refine wpList_append_own_spare (P := Try.prog) w.drew rfl (.tmp 22) (.tmp 25) 48 rfl 0 53 i 3 Try.underlying48 hi hsz g k cap ((T.take k).flatMap encD) (by simp [Act.eval]) Hfr.out ⟨g, j * 3, none⟩ (n - j) (cap - j) ((T.drop j).flatMap encD) (by simp [Act.eval]) Hnl.out Hnw.out (fun u hu => by
      obtain ⟨x, _, hx⟩ := List.mem_flatMap.1 hu
      exact Try.eltD.one x u hx) (by omega) ?_
    intro w1 o1 g1
    obtain ⟨p, hp⟩ : ∃ p, p = k + (n - j) := ⟨_, rfl⟩
    rw [← hp] at o1 ⊢
    have hpn : p + 1 = n := by have := Hj.out; have := Hk.out; omega
    have O1 : OwnR w1 0 53 encD 3 (.slice (some ⟨g, 0, none⟩) p cap) (T.eraseIdx k) := by
      unfold OwnR
      have h9 : (T.eraseIdx k).length = p := by rw [← HE.out, List.length_append, List.length_take, List.length_drop, ← Hn.out]; omega
      rw [h9, ← HE.out, List.flatMap_append]
      exact o1
    have h8 : (T.eraseIdx k).length = p := by rw [← HE.out, List.length_append, List.length_take, List.length_drop, ← Hn.out]; omega
    obtain ⟨v0, c0⟩ := O1.some_ (P := Try.prog) (t := 0) (bytes := 0) (p * 3) (by omega)
    obtain ⟨v1, c1⟩ := O1.some_ (P := Try.prog) (t := 0) (bytes := 0) (p * 3 + 1) (by omega)
    obtain ⟨v2, c2⟩ := O1.some_ (P := Try.prog) (t := 0) (bytes := 0) (p * 3 + 2) (by omega)
    have z0 := O1.frozen (p * 3)
    have z1 := O1.frozen (p * 3 + 1)
    have z2 := O1.frozen (p * 3 + 2)
    have HO1 := Lib.hid (And.intro O1 (And.intro g1 (And.intro h8 hpn)))
    have p1 : p ≤ n := by omega
    have p2 : n - p = 1 := by omega
    have p3 : ¬ (cap = p) := by omega
    have p4 : (p : Int) ≤ (n : Int) := by omega
    have hcl : (Builtin.clear_ #[48] 0 #[.slice (some ⟨g, p * 3, none⟩) 1 (cap - p)]).run Try.prog w1 = .ok (.tuple #[]) (w1.setCells g (p * 3) [.int .u8 0, .slice none 0 0, .bool false]) := run_clear_one w1 _ _ _ (.agg #[.int .u8 0, .slice none 0 0, .bool false]) Try.underlying48 (fun w => by kernel_rfl) _ (by kernel_rfl) (by simp; decide) g (p * 3) _ (fun j hj => by
      simp at hj
      rcases j with _ | _ | _ | j
      · rw [Nat.add_zero, c0]; rfl
      · rw [c1]; rfl
      · rw [c2]; rfl
      · omega) (fun j _ => O1.frozen _)
    obtain ⟨W2, hW2⟩ : ∃ W2, W2 = w1.setCells g (p * 3) [.int .u8 0, .slice none 0 0, .bool false] := ⟨_, rfl⟩
    rw [← hW2] at hcl
    have O2 : OwnR W2 0 53 encD 3 (.slice (some ⟨g, 0, none⟩) p cap) (T.eraseIdx k) := by
      rw [hW2]
      exact ((O1.behind Try.eltD h8.symm (p * 3) (Nat.le_refl _) _).behind Try.eltD h8.symm (p * 3 + 1) (by omega) _).behind Try.eltD h8.symm (p * 3 + 2) (by omega) _
    have g2 : w.grownBy W2 (some g) := by
      rw [hW2]
      exact grown_trans (grown_trans (grown_trans (grown_trans (grown_drew w _) g1) (grown_set w1 g _ _)) (grown_set _ g _ _)) (grown_set _ g _ _)
    have hpn' : p = n - 1 := by omega
    have HEND := Lib.hid (show .slice (some ⟨g, 0, none⟩) p cap = Value.slice (some ⟨g, 0, none⟩) (n - 1) cap ∧ OwnR W2 0 53 encD 3 (.slice (some ⟨g, 0, none⟩) (n - 1) cap) (T.eraseIdx k) ∧ w.grownBy W2 (some g) from ⟨by rw [hpn'], by rw [← hpn']; exact O2, g2⟩)
    clear o1 g1 O1 h8 hp hpn hW2 O2 g2 hpn'
    go_wp2_with fail
    go_ret
    exact ⟨_, rfl, HEND⟩


end Go.Proofs.Ytanenfbfcbkdhaa

/- Layer 19: Take, Drop and Bent of the program. -/
set_option linter.unusedSimpArgs false
set_option linter.unusedVariables false
namespace Go.Proofs.Ytanenfbfcbkdhaa
open Go.RowKit
set_option maxRecDepth 100000

theorem okT.erase {T : List Ng} (h : okT T) (i : Nat) : okT (T.eraseIdx i) := fun t ht => h t (List.mem_of_mem_eraseIdx ht)
theorem foot_erase {V : Value} {T : List Ng} {i : Nat} {k : Nat} {V2 : Value} (hV : ∀ k, V2.ownBlock = some k → V.ownBlock = some k) (h : footG vaG V2 (T.eraseIdx i) k) : footG vaG V T k := by
  rcases h with h | ⟨t, ht, h⟩
  · exact .inl (hV k h)
  · exact .inr ⟨t, List.mem_of_mem_eraseIdx ht, h⟩
/-- what is taken out lies apart from the rest -/
theorem Nt.apart {w : World} {q : Nat} {V V2 : Value} {T : List Ng} (h : Nt w q V T) {i : Nat} {x : Ng} (hi : T[i]? = some x) (hV : ∀ k, V2.ownBlock = some k → V.ownBlock = some k) : ∀ k, (vaG x).ownBlock = some k → ¬ ftN q V2 (T.eraseIdx i) k := fun k hk hf => by
  have hx : x ∈ T := List.mem_of_getElem? hi
  rcases hf with rfl | hf | ⟨t, ht, hf⟩
  · exact h.nq k (.inr ⟨x, hx, hk⟩) rfl
  · exact h.gl.ne x hx k hk (hV k hf)
  · obtain ⟨hil, hix⟩ := List.getElem?_eq_some_iff.1 hi
    obtain ⟨j, hji, hj⟩ := List.mem_eraseIdx_iff_getElem?.1 ht
    obtain ⟨hjl, hjx⟩ := List.getElem?_eq_some_iff.1 hj
    have hap := List.pairwise_iff_getElem.1 h.gl.ap
    rcases Nat.lt_or_gt_of_ne hji with h3 | h3
    · exact hap j i hjl hil h3 k (by rw [hjx]; exact hf) (by rw [hix]; exact hk)
    · exact hap i j hil hjl h3 k (by rw [hix]; exact hk) (by rw [hjx]; exact hf)

theorem ntake_no (q : Nat) (V : Value) (T : List Ng) (i : Int) (w : World) (h : Nt w q V T) (hi : ¬ (0 ≤ i ∧ i < (T.length : Int))) :
    Calls Try.prog 12 #[.pointer (some ⟨q, 0, none⟩), .int .i64 i] w fun e w' => e = .returned (.tuple #[.agg #[.int .u8 0, .slice none 0 0], .bool false]) ∧ Below w.heap.size w w' := by
  obtain ⟨A0, c0, hV⟩ := h.ex
  subst hV
  have HK := Lib.hid (((Qs.zero w).cons (k := qB _ _ _) h.bx).box #[.int .u8 0, .slice none 0 0] 33)
  have HA := Lib.hid (nat_no q T.length A0 c0 i (w.alloc (.cells #[.int .u8 0, .slice none 0 0] 33)) (HK.out.blk 1) (by omega))
  have hz := (HK.out.blk 0).lt
  have HZ := Lib.hid hz
  clear h hi hz
  have C := HK.out.says
  simp only [sayAll, cellsSay, qB, qW, Nat.reduceAdd, and_true, true_and] at C
  go_enter Try.func12, Try.ntmps12
  go_wp2_with fail
  refine HA.out.mono ?_
  rintro e w1 ⟨rfl, hw⟩
  rw [hw]
  clear hw
  go_wp2_with fail
  refine bodyPost_ret (v := .tuple #[.agg #[.int .u8 0, .slice none 0 0], .bool false]) (by simp [results, Try.results12, go_sem, C]) rfl ⟨rfl, HK.out.top 2⟩

set_option maxHeartbeats 8000000 in
theorem ntake_yes (q : Nat) (V : Value) (T : List Ng) (j : Nat) (x : Ng) (w : World) (h : Nt w q V T) (hx : T[j]? = some x) (hk : okT T) (hT2 : T.length ≤ 1000000) :
    Calls Try.prog 12 #[.pointer (some ⟨q, 0, none⟩), .int .i64 (j : Nat)] w fun e w' => e = .returned (.tuple #[.agg #[.int .u8 (x.sd : Nat), .slice x.A x.b.length x.c], .bool true]) ∧ ∃ V', Hid (NtTo w q V T w' V' (T.eraseIdx j) ∧ okT (T.eraseIdx j) ∧ OwnB w' 0 (vaG x) x.b ∧ ∀ k, (vaG x).ownBlock = some k → ¬ ftN q V' (T.eraseIdx j) k) := by
  have hj : j < T.length := (List.getElem?_eq_some_iff.1 hx).1
  obtain ⟨g, cap, hV, hcap⟩ : ∃ g cap, V = .slice (some ⟨g, 0, none⟩) T.length cap ∧ T.length ≤ cap := by
    rcases h.slice with ⟨rfl, rfl⟩ | h1
    · simp at hj
    · exact h1
  subst hV
  obtain ⟨n, hn⟩ : ∃ n, n = T.length := ⟨_, rfl⟩
  rw [← hn] at h hcap hj ⊢
  have hgq : g ≠ q := h.nq g (.inl rfl)
  have hK := (((Qs.zero w).cons (k := qB _ _ _) h.bx).box #[.int .u8 0, .slice none 0 0] 33)
  obtain ⟨W, hW⟩ : ∃ W, W = w.alloc (.cells #[.int .u8 0, .slice none 0 0] 33) := ⟨_, rfl⟩
  rw [← hW] at hK
  have HK := Lib.hid hK
  have hwz : W.heap.size = w.heap.size + 1 := by rw [hW]; simp
  have HN := Lib.hid h
  have HA := Lib.hid (nat_yes q n g cap j W (HK.out.blk 1) hj)
  have HE := Lib.hid ((h.below (HK.out.top 2)).elem hx)
  have Hx := Lib.hid hx
  have Hn := Lib.hid hn
  have Hk := Lib.hid hk
  have hqw := h.bx.lt
  have hgw : g < w.heap.size := h.gl.lt g (.inl rfl)
  obtain ⟨jj, hjj⟩ : ∃ jj, jj = j + 1 := ⟨_, rfl⟩
  have f1 : IntKind.i64.wrap ((j : Int) + 1) = (jj : Int) := by rw [IntKind.wrap_i64]; omega
  have Hj := Lib.hid (And.intro hj hjj)
  clear h hx hn hk hK hj hjj
  have C := HK.out.says
  simp only [sayAll, cellsSay, qB, qW, Nat.reduceAdd, and_true, true_and] at C
  have C1 := HE.out
  go_enter Try.func12, Try.ntmps12
  go_upto_region 1 with fail
  rw [← hW]
  clear hW
  go_wp2_with fail
  refine HA.out.mono ?_
  rintro e w1 ⟨rfl, hw⟩
  rw [hw]
  clear hw
  have kA := fun W => keepA W
  go_upto_region 5 with fail
  have K2 := HK.out.box #[.int .u8 (x.sd : Nat), .slice x.A x.b.length x.c] 33
  rw [hwz] at K2
  obtain ⟨W2, hW2⟩ : ∃ W2, W2 = W.alloc (.cells #[.int .u8 (x.sd : Nat), .slice x.A x.b.length x.c] 33) := ⟨_, rfl⟩
  rw [← hW2] at K2 ⊢
  have hb2 : Below w.heap.size w W2 := K2.top 3
  have HN2 := Lib.hid (And.intro (HN.out.below hb2) hb2)
  have HK2 := Lib.hid ((((((Qs.nil W2).cons (k := qU (ftN q (.slice (some ⟨g, 0, none⟩) n cap) T) w) (Tou.of_below hb2)).cons (k := qB _ _ _) (K2.blk 2)).cons (k := qB _ _ _) (K2.blk 1)).cons (k := qB _ _ _) (K2.blk 0)))
  have HD := Lib.hid (ndel_any g cap j jj n T W2 (HN.out.below hb2).gl.row Hn.out Hj.out.1 Hj.out.2 hcap)
  clear C C1 kA HK HE HA K2 hW2 hb2 hwz
  have C := HK2.out.says
  simp only [sayAll, cellsSay, qB, qU, Nat.reduceAdd, and_true, true_and] at C
  go_wp2_with fail
  refine HD.out.mono ?_
  rintro e w3 ⟨v, rfl, hv⟩
  obtain ⟨hv1, o3, g3⟩ := hv.out
  subst hv1
  have HK3 := Lib.hid (HK2.out.grow g3 (fun k e => by injection e with e; subst e; simp only [apAll, qB, qU, and_true]; exact ⟨by omega, by omega, fun e => hgq e.symm, .inl (.inr (.inl rfl))⟩))
  have HO3 := Lib.hid (And.intro o3 g3)
  clear C HK2 HD hv o3 g3
  have C := HK3.out.says
  simp only [sayAll, cellsSay, qB, qU, Nat.reduceAdd, and_true, true_and] at C
  go_upto_region 6 with fail
  generalize hW4 : World.setCell _ _ _ = W4
  have K4 := HK3.out.putTo 2 q [(0, .slice (some ⟨g, 0, none⟩) (n - 1) cap)] #[.slice (some ⟨g, 0, none⟩) (n - 1) cap] hW4 (by simp only [apBut, apAll, qB, qU, ftN, true_or, and_true]; omega)
  simp only [List.set] at K4
  have hVV : ∀ k, (Value.slice (some ⟨g, 0, none⟩) (n - 1) cap).ownBlock = some k → (Value.slice (some ⟨g, 0, none⟩) n cap).ownBlock = some k := fun k e => e
  have G3 : Gl (·.b) vaG w3 53 encD 3 (.slice (some ⟨g, 0, none⟩) (n - 1) cap) (T.eraseIdx j) := HN2.out.1.gl.erase (Tou.of_grown HO3.out.2 (fun k e => e)) HO3.out.1 hVV
  have hnq : ∀ k, footG vaG (.slice (some ⟨g, 0, none⟩) (n - 1) cap) (T.eraseIdx j) k → k ≠ q := fun k hk => HN.out.nq k (foot_erase hVV hk)
  have hxm := List.mem_of_getElem? Hx.out
  have N4 : Nt W4 q (.slice (some ⟨g, 0, none⟩) (n - 1) cap) (T.eraseIdx j) := ⟨K4.blk 2, by rw [← hW4]; exact G3.kept (F := fun k => k = q) (Tou.set q 0 _ rfl) hnq, hnq⟩
  have X3 : OwnB w3 0 (vaG x) x.b := (Tou.of_grown (F := fun k => some g = some k) HO3.out.2 (fun k e => e)).row (HN2.out.1.gl.el x hxm) (fun k hk e => HN.out.gl.ne x hxm k hk e)
  have X4 : OwnB W4 0 (vaG x) x.b := by
    rw [← hW4]
    exact X3.far (p := ⟨q, 0, none⟩) (fun e => HN.out.nq q (.inr ⟨x, hxm, e⟩) rfl) _
  have HNE := Lib.hid (And.intro N4 X4)
  have HK4 := Lib.hid K4
  clear C HK3 HO3 hW4 K4 G3 N4 X3 X4
  have C := HK4.out.says
  simp only [sayAll, cellsSay, qB, qU, Nat.reduceAdd, and_true, true_and] at C
  have HVV := Lib.hid hVV
  clear hVV hnq hxm
  go_wp2_with fail
  generalize hW5 : World.setCell _ _ _ = W5
  have K5 := HK4.out.putTo 1 w.heap.size [(0, .int .u8 (x.sd : Nat)), (1, .slice x.A x.b.length x.c)] #[.int .u8 (x.sd : Nat), .slice x.A x.b.length x.c] hW5 (by simp only [apBut, apAll, qB, qU, ftN, true_or, and_true]; omega)
  simp only [List.set] at K5
  have T5 : Tou (fun k => k = w.heap.size) W4 W5 := by
    rw [← hW5]
    exact Tou.of_grown (grown_sets w.heap.size [(0, .int .u8 (x.sd : Nat)), (1, .slice x.A x.b.length x.c)] W4) (fun k e => by injection e with e; exact e.symm)
  have hft : ∀ k, ftN q (.slice (some ⟨g, 0, none⟩) (n - 1) cap) (T.eraseIdx j) k → ftN q (.slice (some ⟨g, 0, none⟩) n cap) T k := fun k hk => by
    rcases hk with rfl | hk
    · exact .inl rfl
    · exact .inr (foot_erase HVV.out hk)
  have N5 := HNE.out.1.kept T5 (fun k hk e => by have := HN.out.lt k (hft k hk); omega)
  have X5 : OwnB W5 0 (vaG x) x.b := T5.row HNE.out.2 (fun k hk e => by have := HN.out.gl.lt k (.inr ⟨x, List.mem_of_getElem? Hx.out, hk⟩); omega)
  have HEND := Lib.hid (show NtTo w q (.slice (some ⟨g, 0, none⟩) n cap) T W5 (.slice (some ⟨g, 0, none⟩) (n - 1) cap) (T.eraseIdx j) ∧ okT (T.eraseIdx j) ∧ OwnB W5 0 (vaG x) x.b ∧ ∀ k, (vaG x).ownBlock = some k → ¬ ftN q (.slice (some ⟨g, 0, none⟩) (n - 1) cap) (T.eraseIdx j) k from ⟨⟨N5, K5.tou 3, fun k hk => .inl (hft k hk)⟩, Hk.out.erase j, X5, HN.out.apart Hx.out HVV.out⟩)
  have C5 := K5.says
  simp only [sayAll, cellsSay, qB, qU, Nat.reduceAdd, and_true, true_and] at C5
  refine bodyPost_ret (v := .tuple #[.agg #[.int .u8 (x.sd : Nat), .slice x.A x.b.length x.c], .bool true]) (by simp [results, Try.results12, go_sem, C5]) rfl ⟨rfl, _, HEND.out⟩

theorem map_erase {α β : Type} (f : α → β) (l : List α) (i : Nat) : (l.eraseIdx i).map f = (l.map f).eraseIdx i := by
  simp [List.eraseIdx_eq_take_drop_succ, List.map_take, List.map_drop]
def dropD (L : List Dg) (i : Int) : List Dg := if isD L.length i = true then L.eraseIdx i.toNat else L
theorem dropD_yes {T : List Ng} {j : Nat} (h : isD T.length (j : Int) = true) : (T.eraseIdx j).map Ng.d = dropD (T.map Ng.d) j := by
  unfold dropD
  rw [List.length_map, if_pos h, Int.toNat_natCast, map_erase]
theorem dropD_no {T : List Ng} {i : Int} (h : isD T.length i = false) : T.map Ng.d = dropD (T.map Ng.d) i := by
  unfold dropD
  rw [List.length_map, h]
  rfl
theorem ndrop_any (q : Nat) (V : Value) (T : List Ng) (i : Int) (w : World) (h : Nt w q V T) (hk : okT T) (hT2 : T.length ≤ 1000000) :
    Calls Try.prog 24 #[.pointer (some ⟨q, 0, none⟩), .int .i64 i] w fun e w' => e = .returned (.bool (isD T.length i)) ∧ ∃ V' T', Hid (NtTo w q V T w' V' T' ∧ okT T' ∧ T'.map Ng.d = dropD (T.map Ng.d) i) := by
  by_cases hi : 0 ≤ i ∧ i < (T.length : Int)
  · obtain ⟨j, rfl⟩ := Int.eq_ofNat_of_zero_le hi.1
    obtain ⟨x, hx⟩ : ∃ x, T[j]? = some x := ⟨_, List.getElem?_eq_getElem (by omega)⟩
    have e1 : isD T.length (j : Int) = true := decide_eq_true hi
    have HC := Lib.hid (ntake_yes q V T j x w h hx hk hT2)
    have He := Lib.hid (dropD_yes e1)
    rw [e1]
    clear h hk hx hi e1
    go_enter Try.func24, Try.ntmps24
    go_wp2_with fail
    refine HC.out.mono ?_
    rintro e w1 ⟨rfl, V', k⟩
    go_wp2_with fail
    go_ret
    exact ⟨by simp, V', _, Lib.hid ⟨k.out.1.go (below_alloc _ _), k.out.2.1, He.out⟩⟩
  · have e1 : isD T.length i = false := decide_eq_false hi
    have HC := Lib.hid (ntake_no q V T i w h hi)
    have HF := Lib.hid (And.intro h hk)
    have He := Lib.hid (dropD_no e1)
    rw [e1]
    clear h hk hi e1
    go_enter Try.func24, Try.ntmps24
    go_wp2_with fail
    refine HC.out.mono ?_
    rintro e w1 ⟨rfl, k⟩
    have Hk := Lib.hid k
    clear k
    go_wp2_with fail
    go_ret
    exact ⟨by simp, V, T, Lib.hid ⟨NtTo.same HF.out.1 (on1 Hk.out (below_alloc _ _)), HF.out.2, He.out⟩⟩

theorem nbent_any (q : Nat) (V : Value) (T : List Ng) (i : Int) (w : World) (h : Nt w q V T) :
    Calls Try.prog 17 #[.pointer (some ⟨q, 0, none⟩), .int .i64 i] w fun e w' => e = .returned (.bool (isD T.length i && ((T.map Ng.d)[i.toNat]?.map Dg.bent).getD false)) ∧ w' = w := by
  by_cases hi : 0 ≤ i ∧ i < (T.length : Int)
  · obtain ⟨j, rfl⟩ := Int.eq_ofNat_of_zero_le hi.1
    have hj : j < T.length := by omega
    obtain ⟨x, hx⟩ : ∃ x, T[j]? = some x := ⟨_, List.getElem?_eq_getElem hj⟩
    rcases h.slice with ⟨rfl, rfl⟩ | ⟨g, cap, rfl, _⟩
    · simp at hj
    · have C := h.elem hx
      have HA := Lib.hid (nat_yes q T.length g cap j w h.bx hj)
      have e1 : (isD T.length (j : Int) && ((T.map Ng.d)[(j : Int).toNat]?.map Dg.bent).getD false) = x.bent := by
        rw [show isD T.length (j : Int) = true from decide_eq_true hi, Int.toNat_natCast, List.getElem?_map, hx]
        rfl
      rw [e1]
      clear h hx hi hj e1
      go_enter Try.func17, Try.ntmps17
      go_wp2_with fail
      refine HA.out.mono ?_
      rintro e w1 ⟨rfl, hw⟩
      rw [hw]
      clear hw
      go_wp2_with fail
      go_ret
      exact ⟨rfl, rfl⟩
  · have e1 : isD T.length i = false := decide_eq_false hi
    rw [e1]
    obtain ⟨A0, c0, hV⟩ := h.ex
    subst hV
    have HA := Lib.hid (nat_no q T.length A0 c0 i w h.bx (by omega))
    clear h hi e1
    go_enter Try.func17, Try.ntmps17
    go_wp2_with fail
    refine HA.out.mono ?_
    rintro e w1 ⟨rfl, hw⟩
    rw [hw]
    clear hw
    go_wp2_with fail
    go_ret
    exact ⟨by simp, rfl⟩

end Go.Proofs.Ytanenfbfcbkdhaa
