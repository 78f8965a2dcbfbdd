/- Joined: Nw2, Nw3. -/
import Derived.Test.YtanenfbfcbkdhaaQ8
import Derived.Test.YtanenfbfcbkdhaaQ5
import Derived.Deep.RegionHeld3
import Derived.Deep.RegionLaw
set_option linter.unusedSimpArgs false
set_option linter.unusedVariables false
/- Layer 19: add, of the program. -/
set_option linter.unusedSimpArgs false
set_option linter.unusedVariables false
namespace Go.Proofs.Ytanenfbfcbkdhaa
open Go.RowKit
set_option maxRecDepth 100000

/-- what a call that turns a network leaves -/
structure NtTo (w : World) (q : Nat) (V : Value) (T : List Ng) (w' : World) (V' : Value) (T' : List Ng) : Prop where
  nt : Nt w' q V' T'
  tou : Tou (ftN q V T) w w'
  new : ∀ k, ftN q V' T' k → ftN q V T k ∨ w.heap.size ≤ k

theorem Nt.ex {w : World} {q : Nat} {V : Value} {T : List Ng} (h : Nt w q V T) : ∃ A c, V = .slice A T.length c := by
  rcases h.slice with ⟨rfl, rfl⟩ | ⟨g, cap, rfl, _⟩
  · exact ⟨_, _, rfl⟩
  · exact ⟨_, _, rfl⟩

set_option maxHeartbeats 8000000 in
theorem nadd_yes (q sd : Nat) (b : List UInt8) (A : Option Addr) (c : Nat) (bent : Bool) (V : Value) (T : List Ng) (w : World) (h : Nt w q V T) (hA : Bs w A b) (hb : 0 < b.length) (hL : b.length ≤ 100000) (hT : T.length < 4096) :
    Calls Try.prog 20 #[.pointer (some ⟨q, 0, none⟩), .agg #[.int .u8 (sd : Nat), .slice A b.length c, .bool bent]] w fun e w' => e = .returned (.bool true) ∧ ∃ V' A' c', NtTo w q V T w' V' (T ++ [⟨sd, b, A', c', bent⟩]) := by
  obtain ⟨A0, c0, hV⟩ := h.ex
  subst hV
  obtain ⟨m, hm⟩ : ∃ m, m = T.length := ⟨_, rfl⟩
  have hd : decide ((4096 : Int) ≤ (m : Int)) = false := decide_eq_false (by omega)
  rw [← hm] at h ⊢
  have hK := ((((Qs.nil w).cons (k := qU (ftN q (.slice A0 m c0) T) w) (Tou.refl _ _)).cons (k := qB _ _ _) h.bx).box #[.int .u8 (sd : Nat), .slice A b.length c, .bool bent] 53)
  obtain ⟨W, hW⟩ : ∃ W, W = w.alloc (.cells #[.int .u8 (sd : Nat), .slice A b.length c, .bool bent] 53) := ⟨_, rfl⟩
  have hWb : Below w.heap.size w W := by rw [hW]; exact below_alloc w _
  have hWz : W.heap.size = w.heap.size + 1 := by rw [hW]; simp
  have HWb := Lib.hid (And.intro hWb hWz)
  have hq := h.bx.lt
  rw [← hW] at hK
  have HK := Lib.hid hK
  have HA := Lib.hid (hA.below hWb)
  have HN := Lib.hid h
  have Hm := Lib.hid hm
  clear hK h hA hWb hWz hm
  have C := HK.out.says
  simp only [sayAll, cellsSay, qB, qU, Nat.reduceAdd, and_true, true_and] at C
  have d0 : (W : World).cell? ⟨q, 0, none⟩ = some (.slice A0 m c0) ∧ (W : World).cell? ⟨w.heap.size, 0, none⟩ = some (.int .u8 (sd : Nat)) ∧ (W : World).cell? ⟨w.heap.size, 1, none⟩ = some (.slice A b.length c) ∧ (W : World).cell? ⟨w.heap.size, 2, none⟩ = some (.bool bent) := ⟨(HK.out.blk 1).cell 0, (HK.out.blk 0).cell 0, (HK.out.blk 0).cell 1, (HK.out.blk 0).cell 2⟩
  have ndr : ∀ (W : World) (a : Addr), W.drew.cell? a = W.cell? a := fun _ _ => rfl
  go_enter Try.func20, Try.ntmps20
  go_upto_region 1 with fail
  rw [← hW]
  clear hW
  go_wp2_with fail
  have kA := fun W => keepA W
  go_region_law
    (first
      | (go_simp; go_at_call 29; refine (ncopied_any sd b A c bent W.drew (show Bs W.drew A b from HA.out) hb hL).mono ?_; rintro e w8 ⟨A8, c8, rfl, h8⟩
         have HK8 := Lib.hid (HK.out.drew.go h8.out.2)
         have H8 := h8
         have HR8 := Lib.hid (((HN.out.gl.row.below HWb.out.1).drew.below h8.out.2).alloc (.cells #[.int .u8 (sd : Nat), .slice A8 b.length c8, .bool bent] 53))
         have d8 : (w8 : World).cell? ⟨q, 0, none⟩ = some (.slice A0 m c0) ∧ (w8 : World).cell? ⟨w.heap.size, 0, none⟩ = some (.int .u8 (sd : Nat)) ∧ (w8 : World).cell? ⟨w.heap.size, 1, none⟩ = some (.slice A b.length c) ∧ (w8 : World).cell? ⟨w.heap.size, 2, none⟩ = some (.bool bent) := ⟨(HK8.out.blk 1).cell 0, (HK8.out.blk 0).cell 0, (HK8.out.blk 0).cell 1, (HK8.out.blk 0).cell 2⟩
         have d9 : (w8.alloc (.cells #[.int .u8 (sd : Nat), .slice A8 b.length c8, .bool bent] 53) : World).cell? ⟨q, 0, none⟩ = some (.slice A0 m c0) ∧ (w8.alloc (.cells #[.int .u8 (sd : Nat), .slice A8 b.length c8, .bool bent] 53) : World).cell? ⟨w.heap.size, 0, none⟩ = some (.int .u8 (sd : Nat)) ∧ (w8.alloc (.cells #[.int .u8 (sd : Nat), .slice A8 b.length c8, .bool bent] 53) : World).cell? ⟨w.heap.size, 1, none⟩ = some (.slice A b.length c) ∧ (w8.alloc (.cells #[.int .u8 (sd : Nat), .slice A8 b.length c8, .bool bent] 53) : World).cell? ⟨w.heap.size, 2, none⟩ = some (.bool bent) := ⟨((HK8.out.alloc _).blk 1).cell 0, ((HK8.out.alloc _).blk 0).cell 0, ((HK8.out.alloc _).blk 0).cell 1, ((HK8.out.alloc _).blk 0).cell 2⟩
         clear h8)
      | (refine step_appR1L Try.eltD _ rfl (.tmp 15) (.tmp 18) rfl 0 (.slice A0 m c0) T (by simp [Act.eval, Act.put]) HR8.out w8.heap.size 1 ⟨sd, b, A8, c8, bent⟩ 53 #[.int .u8 (sd : Nat), .slice A8 b.length c8, .bool bent] (by simp [Act.eval, Act.put]) (Blk.new w8 _ _) rfl (by unfold maxLen; have := Hm.out; omega) (by have := Hm.out; omega) (Nat.zero_le _) (w8.heap.size + 1) (by simp) ?_; intro g2 c2 w2 hown2 hgr2 hor2 hlt2
         have HK2 := Lib.hid ((HK8.out.alloc (.cells #[.int .u8 (sd : Nat), .slice A8 b.length c8, .bool bent] 53)).grow hgr2 (fun k e => by have h1 := HN.out.gl.lt k (.inl e); have h2 := HN.out.nq k (.inl e); simp only [apAll, qB, qU, and_true]; exact ⟨by omega, fun e => h2 e.symm, .inl (.inr (.inl e))⟩))
         have d7 : (w2 : World).cell? ⟨q, 0, none⟩ = some (.slice A0 m c0) ∧ (w2 : World).cell? ⟨w.heap.size, 0, none⟩ = some (.int .u8 (sd : Nat)) ∧ (w2 : World).cell? ⟨w.heap.size, 1, none⟩ = some (.slice A b.length c) ∧ (w2 : World).cell? ⟨w.heap.size, 2, none⟩ = some (.bool bent) := ⟨(HK2.out.blk 1).cell 0, (HK2.out.blk 0).cell 0, (HK2.out.blk 0).cell 1, (HK2.out.blk 0).cell 2⟩
         have HO := Lib.hid (And.intro hown2 (And.intro hgr2 (And.intro hor2 hlt2)))
         clear hown2 hgr2 hor2
         have C2 := HK2.out.says; simp only [sayAll, cellsSay, qB, qU, Nat.reduceAdd, and_true, true_and] at C2))
  all_goals
    clear d0 d7 d8 d9 C C2 kA ndr
    generalize hW3 : World.setCell _ _ _ = W3
    have K3 := HK2.out.putTo 1 q [(0, .slice (some ⟨g2, 0, none⟩) (T.length + 1) c2)] #[.slice (some ⟨g2, 0, none⟩) (T.length + 1) c2] hW3 (by simp only [apBut, apAll, qB, qU, ftN, true_or, and_true]; omega)
    simp only [List.set] at K3
    obtain ⟨o1, o2, o3, o4⟩ := HO.out
    have hb8 : Below w.heap.size w (w8.alloc (.cells #[.int .u8 (sd : Nat), .slice A8 b.length c8, .bool bent] 53)) := (on1 HWb.out.1.drew H8.out.2).alloc (on1 HWb.out.1.drew H8.out.2).size _
    have hV2 : ∀ k, (Value.slice (some ⟨g2, 0, none⟩) (T.length + 1) c2).ownBlock = some k → (Value.slice A0 m c0).ownBlock = some k ∨ (w8.alloc (.cells #[.int .u8 (sd : Nat), .slice A8 b.length c8, .bool bent] 53)).heap.size ≤ k := fun k e => by
      have e2 : g2 = k := by simpa [Value.ownBlock] using e
      subst e2
      rcases o3 with h9 | h9
      · exact .inl h9
      · exact .inr (by simp; omega)
    have hx : ∀ k, (vaG ⟨sd, b, A8, c8, bent⟩).ownBlock = some k → w.heap.size ≤ k := fun k e => by
      have h9 := (World.ownsRow.lt H8.out.1 k e).1
      have h10 : W.drew.heap.size = w.heap.size + 1 := HWb.out.2
      omega
    have G2 : Gl (·.b) vaG w2 53 encD 3 (.slice (some ⟨g2, 0, none⟩) (T.length + 1) c2) (T ++ [⟨sd, b, A8, c8, bent⟩]) := HN.out.gl.snoc (x := ⟨sd, b, A8, c8, bent⟩) hb8 o1 o2 hV2 ((H8.out.1.mono (Nat.zero_le _)).below (below_alloc _ _)) hx
    have hnew : ∀ k, footG vaG (.slice (some ⟨g2, 0, none⟩) (T.length + 1) c2) (T ++ [⟨sd, b, A8, c8, bent⟩]) k → footG vaG (.slice A0 m c0) T k ∨ w.heap.size ≤ k := footG_snoc (fun k e => (hV2 k e).imp id (fun h => Nat.le_trans hb8.size h)) hx
    have hnq : ∀ k, footG vaG (.slice (some ⟨g2, 0, none⟩) (T.length + 1) c2) (T ++ [⟨sd, b, A8, c8, bent⟩]) k → k ≠ q := fun k hk e => by
      rcases hnew k hk with h9 | h9
      · exact HN.out.nq k h9 e
      · omega
    have G3 : Gl (·.b) vaG W3 53 encD 3 (.slice (some ⟨g2, 0, none⟩) (T.length + 1) c2) (T ++ [⟨sd, b, A8, c8, bent⟩]) := by
      rw [← hW3]
      exact G2.kept (F := fun k => k = q) (Tou.set q 0 _ rfl) hnq
    have HEND := Lib.hid (show NtTo w q (.slice A0 m c0) T W3 (.slice (some ⟨g2, 0, none⟩) (T.length + 1) c2) (T ++ [⟨sd, b, A8, c8, bent⟩]) from ⟨⟨K3.blk 1, G3, hnq⟩, K3.tou 2, fun k hk => by
      rcases hk with rfl | hk
      · exact .inl (.inl rfl)
      · exact (hnew k hk).imp .inr id⟩)
    clear hW3 K3 o1 o2 o3 o4 hb8 hV2 hx G2 G3 hnew hnq HO HK2 HK8 H8 HR8
    go_wp2_with fail
    go_ret
    exact ⟨rfl, _, _, _, HEND.out⟩

end Go.Proofs.Ytanenfbfcbkdhaa

/- Layer 19: New, add, Send and Twice of the program. -/
set_option linter.unusedSimpArgs false
set_option linter.unusedVariables false
namespace Go.Proofs.Ytanenfbfcbkdhaa
open Go.RowKit
set_option maxRecDepth 100000

/-- a datagram as the document has it -/
structure Dg where
  sd : Nat
  b : List UInt8
  bent : Bool
def Ng.d (g : Ng) : Dg := ⟨g.sd, g.b, g.bent⟩
def okT (T : List Ng) : Prop := ∀ t ∈ T, 0 < t.b.length ∧ t.b.length ≤ 4096
theorem okT.snoc {T : List Ng} (h : okT T) {x : Ng} (hx : 0 < x.b.length ∧ x.b.length ≤ 4096) : okT (T ++ [x]) := fun t ht => by
  rw [List.mem_append, List.mem_singleton] at ht
  rcases ht with ht | rfl
  · exact h t ht
  · exact hx
theorem NtTo.same {w w' : World} {q : Nat} {V : Value} {T : List Ng} (h : Nt w q V T) (b : Below w.heap.size w w') : NtTo w q V T w' V T := ⟨h.below b, (Tou.of_below b : Tou (ftN q V T) w w'), fun _ hk => .inl hk⟩
theorem NtTo.trans {w w1 w2 : World} {q : Nat} {V V1 V2 : Value} {T T1 T2 : List Ng} (h : NtTo w q V T w1 V1 T1) (k : NtTo w1 q V1 T1 w2 V2 T2) : NtTo w q V T w2 V2 T2 :=
  ⟨k.nt, h.tou.trans k.tou (fun j hj hk => (h.new j hk).elim id (fun e => absurd hj (by omega))), fun j hj => by
    rcases k.new j hj with h1 | h1
    · exact h.new j h1
    · exact .inr (Nat.le_trans h.tou.size h1)⟩
theorem NtTo.go {w w1 w2 : World} {q : Nat} {V V1 : Value} {T T1 : List Ng} (h : NtTo w q V T w1 V1 T1) (b : Below w1.heap.size w1 w2) : NtTo w q V T w2 V1 T1 := h.trans (NtTo.same h.nt b)
theorem NtTo.from {w w1 w2 : World} {q : Nat} {V V1 : Value} {T T1 : List Ng} (b : Below w.heap.size w w1) (hq : Nt w q V T) (h : NtTo w1 q V T w2 V1 T1) : NtTo w q V T w2 V1 T1 := (NtTo.same hq b).trans h

theorem OwnR.frozen {α : Type} {w : World} {base g n c sz : Nat} {e : TypeId} {enc : α → List Value} {l : List α} (h : OwnR w base e enc sz (.slice (some ⟨g, 0, none⟩) n c) l) (i : Nat) : w.frozen? ⟨g, i, none⟩ = false := by
  rcases h.2 with ⟨hv, _⟩ | ⟨g', cap', cur, hv, h1, h2, _⟩
  · cases hv
  · injection hv with e1 _ _
    injection e1 with e1
    injection e1 with e1 _ _
    subst e1
    exact Blk.frozen (show Blk w g e cur from h2) i
theorem Nt.elem {w : World} {q g n c : Nat} {T : List Ng} (h : Nt w q (.slice (some ⟨g, 0, none⟩) n c) T) {i : Nat} {x : Ng} (hi : T[i]? = some x) :
    w.cell? ⟨g, i * 3, none⟩ = some (.int .u8 (x.sd : Nat)) ∧ w.cell? ⟨g, i * 3 + 1, none⟩ = some (.slice x.A x.b.length x.c) ∧ w.cell? ⟨g, i * 3 + 2, none⟩ = some (.bool x.bent) ∧ (w.frozen? ⟨g, i * 3, none⟩ = false ∧ w.frozen? ⟨g, i * 3 + 1, none⟩ = false ∧ w.frozen? ⟨g, i * 3 + 2, none⟩ = false) := by
  obtain ⟨A, c', hv, _, hr⟩ := OwnR.row Try.eltD h.gl.row
  injection hv with e1 _ _
  subst e1
  obtain ⟨p, o, hp, hc⟩ := hr i x hi
  injection hp with hp
  injection hp with e1 e2 _
  subst e1; subst e2
  refine ⟨?_, ?_, ?_, h.gl.row.frozen _, h.gl.row.frozen _, h.gl.row.frozen _⟩
  · have := hc 0 _ rfl; simpa using this
  · have := hc 1 _ rfl; simpa [vaG] using this
  · have := hc 2 _ rfl; simpa using this
theorem Nt.bytes {w : World} {q : Nat} {V : Value} {T : List Ng} (h : Nt w q V T) {i : Nat} {x : Ng} (hi : T[i]? = some x) : Bs w x.A x.b := OwnB.bs (h.gl.el x (List.mem_of_getElem? hi))

theorem nnew_any (w : World) : Calls Try.prog 9 #[] w fun e w' => e = .returned (.pointer (some ⟨w.heap.size, 0, none⟩)) ∧ Nt w' w.heap.size (.slice none 0 0) [] ∧ Below w.heap.size w w' := by
  have h : Nt (w.alloc (.cells #[.slice none 0 0] 50)) w.heap.size (.slice none 0 0) [] := ⟨Blk.new _ _ _, Gl.nil _ _ _ _ _ _, fun k hk => by rcases hk with hk | ⟨t, ht, _⟩ <;> simp_all [Value.ownBlock]⟩
  have H := Lib.hid (And.intro h (below_alloc w (.cells #[.slice none 0 0] 50)))
  clear h
  go_enter Try.func9, Try.ntmps9
  go_wp2_with fail
  go_ret
  exact ⟨rfl, H.out⟩

theorem nadd_no (q : Nat) (V : Value) (T : List Ng) (sd : Nat) (b : List UInt8) (A : Option Addr) (c : Nat) (bent : Bool) (w : World) (h : Nt w q V T) (hT : 4096 ≤ T.length) (hT2 : T.length ≤ 1000000) :
    Calls Try.prog 20 #[.pointer (some ⟨q, 0, none⟩), .agg #[.int .u8 (sd : Nat), .slice A b.length c, .bool bent]] w fun e w' => e = .returned (.bool false) ∧ Below w.heap.size w w' := by
  obtain ⟨A0, c0, hV⟩ := h.ex
  subst hV
  obtain ⟨m, hm⟩ : ∃ m, m = T.length := ⟨_, rfl⟩
  have hd : decide ((4096 : Int) ≤ (m : Int)) = true := decide_eq_true (by omega)
  rw [← hm] at h
  have HK := Lib.hid (((Qs.zero w).cons (k := qB _ _ _) h.bx).box #[.int .u8 (sd : Nat), .slice A b.length c, .bool bent] 53)
  clear h hm
  have C := HK.out.says
  simp only [sayAll, cellsSay, qB, qW, Nat.reduceAdd, and_true, true_and] at C
  go_enter Try.func20, Try.ntmps20
  go_wp2_with fail
  go_ret
  exact ⟨rfl, HK.out.top 2⟩

/-- what an append leaves -/
def addD (L : List Dg) (d : Dg) : List Dg := if L.length < 4096 then L ++ [d] else L
theorem nadd_any (q : Nat) (V : Value) (T : List Ng) (sd : Nat) (b : List UInt8) (A : Option Addr) (c : Nat) (bent : Bool) (w : World) (h : Nt w q V T) (hk : okT T) (hA : Bs w A b) (hb : 0 < b.length) (hL : b.length ≤ 4096) (hT2 : T.length ≤ 1000000) :
    Calls Try.prog 20 #[.pointer (some ⟨q, 0, none⟩), .agg #[.int .u8 (sd : Nat), .slice A b.length c, .bool bent]] w fun e w' => e = .returned (.bool (decide (T.length < 4096))) ∧ ∃ V' T', Hid (NtTo w q V T w' V' T' ∧ okT T' ∧ T'.map Ng.d = addD (T.map Ng.d) ⟨sd, b, bent⟩) := by
  by_cases hT : T.length < 4096
  · refine (nadd_yes q sd b A c bent V T w h hA hb (by omega) hT).mono ?_
    rintro e w1 ⟨rfl, V', A', c', k⟩
    exact ⟨by rw [decide_eq_true hT], V', _, Lib.hid ⟨k, hk.snoc ⟨hb, hL⟩, by unfold addD; rw [List.length_map, if_pos hT, List.map_append]; rfl⟩⟩
  · refine (nadd_no q V T sd b A c bent w h (by omega) hT2).mono ?_
    rintro e w1 ⟨rfl, k⟩
    exact ⟨by rw [decide_eq_false hT], V, T, Lib.hid ⟨NtTo.same h k, hk, by unfold addD; rw [List.length_map, if_neg hT]⟩⟩

/-- Send: may it be -/
def maySend (sd : Nat) (b : List UInt8) : Bool := decide ((sd = 0 ∨ sd = 1) ∧ 0 < b.length ∧ b.length ≤ 4096)
def sendD (L : List Dg) (sd : Nat) (b : List UInt8) : List Dg := if maySend sd b = true then addD L ⟨sd, b, false⟩ else L
theorem nsend_any (q : Nat) (V : Value) (T : List Ng) (sd : Nat) (b : List UInt8) (A : Option Addr) (c : Nat) (w : World) (h : Nt w q V T) (hk : okT T) (hA : Bs w A b) (hT2 : T.length ≤ 1000000) :
    Calls Try.prog 10 #[.pointer (some ⟨q, 0, none⟩), .int .u8 (sd : Nat), .slice A b.length c] w fun e w' => e = .returned (.bool (maySend sd b && decide (T.length < 4096))) ∧ ∃ V' T', Hid (NtTo w q V T w' V' T' ∧ okT T' ∧ T'.map Ng.d = sendD (T.map Ng.d) sd b) := by
  have HE := Lib.hid (show NtTo w q V T w V T from NtTo.same h (Below.refl _ _))
  have HK := Lib.hid hk
  by_cases hm : maySend sd b = true
  · have hm2 : (sd = 0 ∨ sd = 1) ∧ 0 < b.length ∧ b.length ≤ 4096 := of_decide_eq_true hm
    have HC := Lib.hid (nadd_any q V T sd b A c false w h hk hA hm2.2.1 hm2.2.2 hT2)
    have he : sendD (T.map Ng.d) sd b = addD (T.map Ng.d) ⟨sd, b, false⟩ := by unfold sendD; rw [if_pos hm]
    rw [hm, he]
    obtain ⟨h1, h2, h3⟩ := hm2
    have k2 : decide ((4096 : Int) < (b.length : Int)) = false := decide_eq_false (by omega)
    have k1 : ((b.length : Int) == 0) = false := beq_eq_false_iff_ne.2 (by omega)
    clear hm he hA h hk
    rcases h1 with rfl | rfl
    · go_enter Try.func10, Try.ntmps10
      go_wp2_with fail
      refine HC.out.mono ?_
      rintro e w1 ⟨rfl, V', T', k⟩
      go_wp2_with fail
      go_ret
      exact ⟨by simp, V', T', k⟩
    · go_enter Try.func10, Try.ntmps10
      go_wp2_with fail
      refine HC.out.mono ?_
      rintro e w1 ⟨rfl, V', T', k⟩
      go_wp2_with fail
      go_ret
      exact ⟨by simp, V', T', k⟩
  · have hm1 : maySend sd b = false := by simpa using hm
    have he : sendD (T.map Ng.d) sd b = T.map Ng.d := by unfold sendD; rw [if_neg hm]
    have hm2 : ¬ ((sd = 0 ∨ sd = 1) ∧ 0 < b.length ∧ b.length ≤ 4096) := fun e => hm (decide_eq_true e)
    rw [hm1, he]
    have HF := Lib.hid (show NtTo w q V T w V T ∧ okT T ∧ T.map Ng.d = T.map Ng.d from ⟨HE.out, hk, rfl⟩)
    clear hm hm1 he hA h hk
    by_cases h1 : sd = 0 ∨ sd = 1
    · by_cases h2 : b.length = 0
      · have k1 : ((b.length : Int) == 0) = true := beq_iff_eq.2 (by omega)
        clear hm2
        rcases h1 with rfl | rfl
        · go_enter Try.func10, Try.ntmps10
          go_wp2_with fail
          go_ret
          exact ⟨by simp, V, T, Lib.hid ⟨HF.out.1, HF.out.2.1, rfl⟩⟩
        · go_enter Try.func10, Try.ntmps10
          go_wp2_with fail
          go_ret
          exact ⟨by simp, V, T, Lib.hid ⟨HF.out.1, HF.out.2.1, rfl⟩⟩
      · have k2 : decide ((4096 : Int) < (b.length : Int)) = true := decide_eq_true (by omega)
        have k1 : ((b.length : Int) == 0) = false := beq_eq_false_iff_ne.2 (by omega)
        clear hm2
        rcases h1 with rfl | rfl
        · go_enter Try.func10, Try.ntmps10
          go_wp2_with fail
          go_ret
          exact ⟨by simp, V, T, Lib.hid ⟨HF.out.1, HF.out.2.1, rfl⟩⟩
        · go_enter Try.func10, Try.ntmps10
          go_wp2_with fail
          go_ret
          exact ⟨by simp, V, T, Lib.hid ⟨HF.out.1, HF.out.2.1, rfl⟩⟩
    · have k3 : ((sd : Int) == 0) = false := beq_eq_false_iff_ne.2 (by omega)
      have k4 : ((sd : Int) == 1) = false := beq_eq_false_iff_ne.2 (by omega)
      clear hm2 h1
      go_enter Try.func10, Try.ntmps10
      go_wp2_with fail
      go_ret
      exact ⟨by simp, V, T, Lib.hid ⟨HF.out.1, HF.out.2.1, rfl⟩⟩

/-- an index that is there -/
def isD (n : Nat) (i : Int) : Bool := decide (0 ≤ i ∧ i < (n : Int))
def twiceD (L : List Dg) (i : Int) : List Dg := if isD L.length i = true then (match L[i.toNat]? with | some d => addD L d | none => L) else L
theorem ntwice_any (q : Nat) (V : Value) (T : List Ng) (i : Int) (w : World) (h : Nt w q V T) (hk : okT T) (hT2 : T.length ≤ 1000000) :
    Calls Try.prog 11 #[.pointer (some ⟨q, 0, none⟩), .int .i64 i] w fun e w' => e = .returned (.bool (isD T.length i && decide (T.length < 4096))) ∧ ∃ V' T', Hid (NtTo w q V T w' V' T' ∧ okT T' ∧ T'.map Ng.d = twiceD (T.map Ng.d) i) := by
  by_cases hi : 0 ≤ i ∧ i < (T.length : Int)
  · obtain ⟨j, rfl⟩ := Int.eq_ofNat_of_zero_le hi.1
    have hj : j < T.length := by omega
    obtain ⟨x, hx⟩ : ∃ x, T[j]? = some x := ⟨_, List.getElem?_eq_getElem hj⟩
    rcases h.slice with ⟨rfl, rfl⟩ | ⟨g, cap, rfl, _⟩
    · simp at hj
    · have hkx := hk x (List.mem_of_getElem? hx)
      have C := h.elem hx
      have HC := Lib.hid (nadd_any q _ T x.sd x.b x.A x.c x.bent w h hk (h.bytes hx) hkx.1 hkx.2 hT2)
      have HA := Lib.hid (nat_yes q T.length g cap j w h.bx hj)
      have e1 : isD T.length (j : Int) = true := decide_eq_true hi
      have e2 : twiceD (T.map Ng.d) (j : Int) = addD (T.map Ng.d) ⟨x.sd, x.b, x.bent⟩ := by
        unfold twiceD
        rw [List.length_map, if_pos e1, Int.toNat_natCast, List.getElem?_map, hx]
        rfl
      rw [e1, e2]
      obtain ⟨m, hm⟩ : ∃ m, m = T.length := ⟨_, rfl⟩
      clear h hk hkx hx hi hj e1 e2 hm
      go_enter Try.func11, Try.ntmps11
      go_wp2_with fail
      refine HA.out.mono ?_
      rintro e w1 ⟨rfl, hw⟩
      rw [hw]
      clear hw
      go_wp2_with fail
      refine HC.out.mono ?_
      rintro e w1 ⟨rfl, V', T', k⟩
      go_wp2_with fail
      go_ret
      exact ⟨by simp, V', T', k⟩
  · have e1 : isD T.length i = false := decide_eq_false hi
    have e2 : twiceD (T.map Ng.d) i = T.map Ng.d := by unfold twiceD; rw [List.length_map, e1]; rfl
    rw [e1, e2]
    obtain ⟨A0, c0, hV⟩ := h.ex
    subst hV
    have HA := Lib.hid (nat_no q T.length A0 c0 i w h.bx (by omega))
    have HF := Lib.hid (show NtTo w q _ T w _ T ∧ okT T ∧ T.map Ng.d = T.map Ng.d from ⟨NtTo.same h (Below.refl _ _), hk, rfl⟩)
    clear h hk hi e1 e2
    go_enter Try.func11, Try.ntmps11
    go_wp2_with fail
    refine HA.out.mono ?_
    rintro e w1 ⟨rfl, hw⟩
    rw [hw]
    clear hw
    go_wp2_with fail
    go_ret
    exact ⟨by simp, _, T, Lib.hid ⟨HF.out.1, HF.out.2.1, rfl⟩⟩

end Go.Proofs.Ytanenfbfcbkdhaa
