/- Layer 13: the document's Add. -/
import Derived.Test.YtlchnpmiaemobaaWin11
set_option linter.unusedSimpArgs false
set_option linter.unusedVariables false
namespace Go.Proofs.Ytlchnpmiaemobaa
open Go.RowKit
set_option maxRecDepth 100000

theorem radd_yes (g c0 : Nat) (b : Int) (A : Option Addr) (p : PC) (l : List PC) (w : World) (h : Blk w g 46 #[.int .i64 b, .slice A l.length c0]) (hr : OwnR w 0 31 encP 8 (.slice A l.length c0) l)
    (h1 : 1 ≤ p.n) (h2 : p.n ≤ 65536) (h3 : sumP l < b) (hok : okP l) (hn : sumP l ≤ 1000000000) (hl : l.length ≤ 1000000) :
    Calls Try.prog 44 #[.pointer (some ⟨g, 0, none⟩), .agg (encP p).toArray] w fun e w' => e = .returned (.bool true) ∧ ∃ A' c', Blk w' g 46 #[.int .i64 b, .slice A' (l.length + 1) c'] ∧
      OwnR w' 0 31 encP 8 (.slice A' (l.length + 1) c') (l ++ [p]) ∧ Foot (inBR g (.slice A l.length c0)) w w' ∧ (∀ k, (Value.slice A' (l.length + 1) c').ownBlock = some k → (Value.slice A l.length c0).ownBlock = some k ∨ w.heap.size ≤ k) := by
  obtain ⟨se, f0, f1, f2, t0, t1, t2, pn⟩ := p
  have hRm := fun (x : World) (hx : Blk x g 46 #[.int .i64 b, .slice A l.length c0]) (hy : OwnR x 0 31 encP 8 (.slice A l.length c0) l) => rroom_any g b A c0 l x hx hy hok hn hl
  have hd : decide (sumP l < b) = true := decide_eq_true h3
  rw [hd] at hRm
  have HRm := Lib.hid hRm
  clear hRm hd h3 hok hn
  obtain ⟨m, hm⟩ : ∃ m, m = l.length := ⟨_, rfl⟩
  rw [← hm] at h hr hl HRm ⊢
  simp only [encP] at h1 h2 ⊢
  have hgV : (Value.slice A m c0).ownBlock ≠ some g := apart_RP h hr
  have K := (((Qs.nil w).cons (k := qF (inBR g (.slice A m c0)) w) (Foot.refl _ _)).cons (k := qB _ _ _) h).box #[.int .u32 se, .int .u32 f0, .int .u32 f1, .int .u32 f2, .int .u32 t0, .int .u32 t1, .int .u32 t2, .int .i64 pn] 31
  have HK := Lib.hid K
  have hlt := h.lt
  have hok : ∀ k, (Value.slice A m c0).ownBlock = some k → k < w.heap.size := fun k e => (World.ownsRow.lt hr k e).2
  have Hok := Lib.hid hok
  clear h K hok
  have k1 : ¬ pn < 1 := by omega
  have k2 : ¬ (65536 : Int) < pn := by omega
  have Hr := Lib.hid hr
  have HgV := Lib.hid hgV
  have Hm := Lib.hid hm
  clear hr hgV hm
  go_enter Try.func44, Try.ntmps44
  go_wp2_with fail
  refine (HRm.out _ (HK.out.blk 1) (Hr.out.alloc _)).mono ?_
  rintro e w1 ⟨rfl, b1⟩
  have HK1 := Lib.hid (HK.out.go b1)
  have HR1 := Lib.hid ((Hr.out.alloc _).below b1)
  have C := HK1.out.says
  simp only [sayAll, cellsSay, qB, qF, Nat.reduceAdd, and_true, true_and] at C
  clear HK Hr b1
  go_wp2_with fail
  obtain ⟨i, hi, hz, hsz, hby⟩ := info_parts (show (Try.prog.info? 31).map (fun i => (i.zero, i.size, i.bytes)) = some (some (.agg #[.int .u32 0, .int .u32 0, .int .u32 0, .int .u32 0, .int .u32 0, .int .u32 0, .int .u32 0, .int .i64 0]), 8, 40) by kernel_rfl)
  have z1 : w.heap.size < w1.heap.size := (HK1.out.blk 0).lt
  have hcell : ∀ j u, (encP ⟨se, f0, f1, f2, t0, t1, t2, pn⟩)[j]? = some u → (w1.alloc (.cells (encP ⟨se, f0, f1, f2, t0, t1, t2, pn⟩).toArray 31)).cell? ((⟨w1.heap.size, 0, none⟩ : Addr).add j) = some u := fun j u hj => by
    rw [show (⟨w1.heap.size, 0, none⟩ : Addr).add j = ⟨w1.heap.size, j, none⟩ from by cases j <;> simp [Addr.add], (Blk.new w1 31 (encP ⟨se, f0, f1, f2, t0, t1, t2, pn⟩).toArray).cell]
    simpa using hj
  have Hcell := Lib.hid hcell
  clear hcell
  have kA := keepA w1
  go_region_law (refine step_append_lies _ rfl (.tmp 24) (.tmp 26) 26 rfl 0 31 i (.agg #[.int .u32 0, .int .u32 0, .int .u32 0, .int .u32 0, .int .u32 0, .int .u32 0, .int .u32 0, .int .i64 0]) 8 40 Try.underlying26 hi hz hsz hby rfl (by decide) (.slice A m c0) l.length (l.flatMap encP) (by simp [Act.eval, Act.put]) (HR1.out.drew.alloc _) ⟨w1.heap.size, 0, none⟩ 1 1 (encP ⟨se, f0, f1, f2, t0, t1, t2, pn⟩) (by simp [Act.eval, Act.put]) rfl (Hcell.out) (fun u hu => (Try.eltP.one _ u hu)) (by decide) (by rw [← Hm.out]; unfold maxLen; omega) (by rw [← Hm.out]; omega) (by simp) (w1.heap.size + 1) (by simp) ?_; intro g2 c2 w2 hown2 hgr2 hor2 hlt2; have HK2 := Lib.hid ((HK1.out.drew.alloc _).grow hgr2 (fun k e => by have := Hok.out k e; have h9 : k ≠ g := fun e2 => HgV.out (e2 ▸ e); simp only [apAll, qB, qF, inBR, e, true_or, or_true, and_true]; omega)); have C2 := HK2.out.says; simp only [sayAll, cellsSay, qB, qF, qW, qR, qZ, Nat.reduceAdd, and_true, true_and] at C2)
  all_goals
    generalize hW3 : World.setCell _ _ _ = W3
    have K3 := HK2.out.putTo 1 g [(1, .slice (some ⟨g2, 0, none⟩) (l.length + 1) c2)] #[.int .i64 b, .slice (some ⟨g2, 0, none⟩) (l.length + 1) c2] hW3 (by simp only [apBut, apAll, qB, qF, inBR, true_or, and_true]; omega)
    simp only [List.set] at K3
    have hg2 : (Value.slice (some ⟨g2, 0, none⟩) (l.length + 1) c2).ownBlock ≠ some g := fun e => by
      have e2 : g2 = g := by simpa [Value.ownBlock] using e
      rcases hor2 with h9 | h9
      · exact HgV.out (by rw [h9, e2])
      · omega
    have hrow : OwnR W3 0 31 encP 8 (.slice (some ⟨g2, 0, none⟩) (l.length + 1) c2) (l ++ [⟨se, f0, f1, f2, t0, t1, t2, pn⟩]) := by
      have h9 : OwnR w2 0 31 encP 8 (.slice (some ⟨g2, 0, none⟩) (l.length + 1) c2) (l ++ [⟨se, f0, f1, f2, t0, t1, t2, pn⟩]) := by
        unfold OwnR
        rw [List.length_append, List.flatMap_append]
        simpa using hown2
      rw [← hW3]
      exact OwnR.far (p := ⟨g, 1, none⟩) h9 hg2 _
    have HK3 := Lib.hid K3
    have HR3 := Lib.hid hrow
    have Hor2 : Hid (∀ k, (Value.slice (some ⟨g2, 0, none⟩) (l.length + 1) c2).ownBlock = some k → (Value.slice A m c0).ownBlock = some k ∨ w.heap.size ≤ k) := Lib.hid (fun k e => by
      have e2 : g2 = k := by simpa [Value.ownBlock] using e
      subst e2
      rcases hor2 with h9 | h9
      · exact .inl h9
      · exact .inr (by omega))
    clear hW3 C C2 K3 hrow hg2 hown2 hgr2 hor2 HK2 HR1 HK1 Hcell kA hi hz hsz hby
    go_wp2_with fail
    go_ret
    rw [Hm.out]
    exact ⟨rfl, _, _, HK3.out.blk 1, HR3.out, by have := HK3.out.tofoot 2; rw [Hm.out] at this; exact this, by have := Hor2.out; rw [Hm.out] at this; exact this⟩

end Go.Proofs.Ytlchnpmiaemobaa
