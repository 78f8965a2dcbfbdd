/- Layer 19: add, of the program. -/
import Derived.Test.YtanenfbfcbkdhaaNw1
import Derived.Test.YtanenfbfcbkdhaaTouQ
import Derived.Deep.RegionHeld3
import Derived.Deep.RegionLaw
set_option linter.unusedSimpArgs false
set_option linter.unusedVariables false
namespace Go.Proofs.Ytanenfbfcbkdhaa
open Go.RowKit
set_option maxRecDepth 100000

/-- what a call that turns a network leaves -/
structure NtTo (w : World) (q : Nat) (V : Value) (T : List Ng) (w' : World) (V' : Value) (T' : List Ng) : Prop where
  nt : Nt w' q V' T'
  tou : Tou (ftN q V T) w w'
  new : ∀ k, ftN q V' T' k → ftN q V T k ∨ w.heap.size ≤ k

theorem Nt.ex {w : World} {q : Nat} {V : Value} {T : List Ng} (h : Nt w q V T) : ∃ A c, V = .slice A T.length c := by
  rcases h.slice with ⟨rfl, rfl⟩ | ⟨g, cap, rfl, _⟩
  · exact ⟨_, _, rfl⟩
  · exact ⟨_, _, rfl⟩

set_option maxHeartbeats 8000000 in
theorem nadd_yes (q sd : Nat) (b : List UInt8) (A : Option Addr) (c : Nat) (bent : Bool) (V : Value) (T : List Ng) (w : World) (h : Nt w q V T) (hA : Bs w A b) (hb : 0 < b.length) (hL : b.length ≤ 100000) (hT : T.length < 4096) :
    Calls Try.prog 20 #[.pointer (some ⟨q, 0, none⟩), .agg #[.int .u8 (sd : Nat), .slice A b.length c, .bool bent]] w fun e w' => e = .returned (.bool true) ∧ ∃ V' A' c', NtTo w q V T w' V' (T ++ [⟨sd, b, A', c', bent⟩]) := by
  obtain ⟨A0, c0, hV⟩ := h.ex
  subst hV
  obtain ⟨m, hm⟩ : ∃ m, m = T.length := ⟨_, rfl⟩
  have hd : decide ((4096 : Int) ≤ (m : Int)) = false := decide_eq_false (by omega)
  rw [← hm] at h ⊢
  have hK := ((((Qs.nil w).cons (k := qU (ftN q (.slice A0 m c0) T) w) (Tou.refl _ _)).cons (k := qB _ _ _) h.bx).box #[.int .u8 (sd : Nat), .slice A b.length c, .bool bent] 53)
  obtain ⟨W, hW⟩ : ∃ W, W = w.alloc (.cells #[.int .u8 (sd : Nat), .slice A b.length c, .bool bent] 53) := ⟨_, rfl⟩
  have hWb : Below w.heap.size w W := by rw [hW]; exact below_alloc w _
  have hWz : W.heap.size = w.heap.size + 1 := by rw [hW]; simp
  have HWb := Lib.hid (And.intro hWb hWz)
  have hq := h.bx.lt
  rw [← hW] at hK
  have HK := Lib.hid hK
  have HA := Lib.hid (hA.below hWb)
  have HN := Lib.hid h
  have Hm := Lib.hid hm
  clear hK h hA hWb hWz hm
  have C := HK.out.says
  simp only [sayAll, cellsSay, qB, qU, Nat.reduceAdd, and_true, true_and] at C
  have d0 : (W : World).cell? ⟨q, 0, none⟩ = some (.slice A0 m c0) ∧ (W : World).cell? ⟨w.heap.size, 0, none⟩ = some (.int .u8 (sd : Nat)) ∧ (W : World).cell? ⟨w.heap.size, 1, none⟩ = some (.slice A b.length c) ∧ (W : World).cell? ⟨w.heap.size, 2, none⟩ = some (.bool bent) := ⟨(HK.out.blk 1).cell 0, (HK.out.blk 0).cell 0, (HK.out.blk 0).cell 1, (HK.out.blk 0).cell 2⟩
  have ndr : ∀ (W : World) (a : Addr), W.drew.cell? a = W.cell? a := fun _ _ => rfl
  go_enter Try.func20, Try.ntmps20
  go_upto_region 1 with fail
  rw [← hW]
  clear hW
  go_wp2_with fail
  have kA := fun W => keepA W
  go_region_law
    (first
      | (go_simp; go_at_call 29; refine (ncopied_any sd b A c bent W.drew (show Bs W.drew A b from HA.out) hb hL).mono ?_; rintro e w8 ⟨A8, c8, rfl, h8⟩
         have HK8 := Lib.hid (HK.out.drew.go h8.out.2)
         have H8 := h8
         have HR8 := Lib.hid (((HN.out.gl.row.below HWb.out.1).drew.below h8.out.2).alloc (.cells #[.int .u8 (sd : Nat), .slice A8 b.length c8, .bool bent] 53))
         have d8 : (w8 : World).cell? ⟨q, 0, none⟩ = some (.slice A0 m c0) ∧ (w8 : World).cell? ⟨w.heap.size, 0, none⟩ = some (.int .u8 (sd : Nat)) ∧ (w8 : World).cell? ⟨w.heap.size, 1, none⟩ = some (.slice A b.length c) ∧ (w8 : World).cell? ⟨w.heap.size, 2, none⟩ = some (.bool bent) := ⟨(HK8.out.blk 1).cell 0, (HK8.out.blk 0).cell 0, (HK8.out.blk 0).cell 1, (HK8.out.blk 0).cell 2⟩
         have d9 : (w8.alloc (.cells #[.int .u8 (sd : Nat), .slice A8 b.length c8, .bool bent] 53) : World).cell? ⟨q, 0, none⟩ = some (.slice A0 m c0) ∧ (w8.alloc (.cells #[.int .u8 (sd : Nat), .slice A8 b.length c8, .bool bent] 53) : World).cell? ⟨w.heap.size, 0, none⟩ = some (.int .u8 (sd : Nat)) ∧ (w8.alloc (.cells #[.int .u8 (sd : Nat), .slice A8 b.length c8, .bool bent] 53) : World).cell? ⟨w.heap.size, 1, none⟩ = some (.slice A b.length c) ∧ (w8.alloc (.cells #[.int .u8 (sd : Nat), .slice A8 b.length c8, .bool bent] 53) : World).cell? ⟨w.heap.size, 2, none⟩ = some (.bool bent) := ⟨((HK8.out.alloc _).blk 1).cell 0, ((HK8.out.alloc _).blk 0).cell 0, ((HK8.out.alloc _).blk 0).cell 1, ((HK8.out.alloc _).blk 0).cell 2⟩
         clear h8)
      | (refine step_appR1L Try.eltD _ rfl (.tmp 15) (.tmp 18) rfl 0 (.slice A0 m c0) T (by simp [Act.eval, Act.put]) HR8.out w8.heap.size 1 ⟨sd, b, A8, c8, bent⟩ 53 #[.int .u8 (sd : Nat), .slice A8 b.length c8, .bool bent] (by simp [Act.eval, Act.put]) (Blk.new w8 _ _) rfl (by unfold maxLen; have := Hm.out; omega) (by have := Hm.out; omega) (Nat.zero_le _) (w8.heap.size + 1) (by simp) ?_; intro g2 c2 w2 hown2 hgr2 hor2 hlt2
         have HK2 := Lib.hid ((HK8.out.alloc (.cells #[.int .u8 (sd : Nat), .slice A8 b.length c8, .bool bent] 53)).grow hgr2 (fun k e => by have h1 := HN.out.gl.lt k (.inl e); have h2 := HN.out.nq k (.inl e); simp only [apAll, qB, qU, and_true]; exact ⟨by omega, fun e => h2 e.symm, .inl (.inr (.inl e))⟩))
         have d7 : (w2 : World).cell? ⟨q, 0, none⟩ = some (.slice A0 m c0) ∧ (w2 : World).cell? ⟨w.heap.size, 0, none⟩ = some (.int .u8 (sd : Nat)) ∧ (w2 : World).cell? ⟨w.heap.size, 1, none⟩ = some (.slice A b.length c) ∧ (w2 : World).cell? ⟨w.heap.size, 2, none⟩ = some (.bool bent) := ⟨(HK2.out.blk 1).cell 0, (HK2.out.blk 0).cell 0, (HK2.out.blk 0).cell 1, (HK2.out.blk 0).cell 2⟩
         have HO := Lib.hid (And.intro hown2 (And.intro hgr2 (And.intro hor2 hlt2)))
         clear hown2 hgr2 hor2
         have C2 := HK2.out.says; simp only [sayAll, cellsSay, qB, qU, Nat.reduceAdd, and_true, true_and] at C2))
  all_goals
    clear d0 d7 d8 d9 C C2 kA ndr
    generalize hW3 : World.setCell _ _ _ = W3
    have K3 := HK2.out.putTo 1 q [(0, .slice (some ⟨g2, 0, none⟩) (T.length + 1) c2)] #[.slice (some ⟨g2, 0, none⟩) (T.length + 1) c2] hW3 (by simp only [apBut, apAll, qB, qU, ftN, true_or, and_true]; omega)
    simp only [List.set] at K3
    obtain ⟨o1, o2, o3, o4⟩ := HO.out
    have hb8 : Below w.heap.size w (w8.alloc (.cells #[.int .u8 (sd : Nat), .slice A8 b.length c8, .bool bent] 53)) := (on1 HWb.out.1.drew H8.out.2).alloc (on1 HWb.out.1.drew H8.out.2).size _
    have hV2 : ∀ k, (Value.slice (some ⟨g2, 0, none⟩) (T.length + 1) c2).ownBlock = some k → (Value.slice A0 m c0).ownBlock = some k ∨ (w8.alloc (.cells #[.int .u8 (sd : Nat), .slice A8 b.length c8, .bool bent] 53)).heap.size ≤ k := fun k e => by
      have e2 : g2 = k := by simpa [Value.ownBlock] using e
      subst e2
      rcases o3 with h9 | h9
      · exact .inl h9
      · exact .inr (by simp; omega)
    have hx : ∀ k, (vaG ⟨sd, b, A8, c8, bent⟩).ownBlock = some k → w.heap.size ≤ k := fun k e => by
      have h9 := (World.ownsRow.lt H8.out.1 k e).1
      have h10 : W.drew.heap.size = w.heap.size + 1 := HWb.out.2
      omega
    have G2 : Gl (·.b) vaG w2 53 encD 3 (.slice (some ⟨g2, 0, none⟩) (T.length + 1) c2) (T ++ [⟨sd, b, A8, c8, bent⟩]) := HN.out.gl.snoc (x := ⟨sd, b, A8, c8, bent⟩) hb8 o1 o2 hV2 ((H8.out.1.mono (Nat.zero_le _)).below (below_alloc _ _)) hx
    have hnew : ∀ k, footG vaG (.slice (some ⟨g2, 0, none⟩) (T.length + 1) c2) (T ++ [⟨sd, b, A8, c8, bent⟩]) k → footG vaG (.slice A0 m c0) T k ∨ w.heap.size ≤ k := footG_snoc (fun k e => (hV2 k e).imp id (fun h => Nat.le_trans hb8.size h)) hx
    have hnq : ∀ k, footG vaG (.slice (some ⟨g2, 0, none⟩) (T.length + 1) c2) (T ++ [⟨sd, b, A8, c8, bent⟩]) k → k ≠ q := fun k hk e => by
      rcases hnew k hk with h9 | h9
      · exact HN.out.nq k h9 e
      · omega
    have G3 : Gl (·.b) vaG W3 53 encD 3 (.slice (some ⟨g2, 0, none⟩) (T.length + 1) c2) (T ++ [⟨sd, b, A8, c8, bent⟩]) := by
      rw [← hW3]
      exact G2.kept (F := fun k => k = q) (Tou.set q 0 _ rfl) hnq
    have HEND := Lib.hid (show NtTo w q (.slice A0 m c0) T W3 (.slice (some ⟨g2, 0, none⟩) (T.length + 1) c2) (T ++ [⟨sd, b, A8, c8, bent⟩]) from ⟨⟨K3.blk 1, G3, hnq⟩, K3.tou 2, fun k hk => by
      rcases hk with rfl | hk
      · exact .inl (.inl rfl)
      · exact (hnew k hk).imp .inr id⟩)
    clear hW3 K3 o1 o2 o3 o4 hb8 hV2 hx G2 G3 hnew hnq HO HK2 HK8 H8 HR8
    go_wp2_with fail
    go_ret
    exact ⟨rfl, _, _, _, HEND.out⟩

end Go.Proofs.Ytanenfbfcbkdhaa
