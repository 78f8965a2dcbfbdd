/- Layer 19: New, add, Send and Twice of the program. -/
import Derived.Test.YtanenfbfcbkdhaaNw2
set_option linter.unusedSimpArgs false
set_option linter.unusedVariables false
namespace Go.Proofs.Ytanenfbfcbkdhaa
open Go.RowKit
set_option maxRecDepth 100000

/-- a datagram as the document has it -/
structure Dg where
  sd : Nat
  b : List UInt8
  bent : Bool
def Ng.d (g : Ng) : Dg := ⟨g.sd, g.b, g.bent⟩
def okT (T : List Ng) : Prop := ∀ t ∈ T, 0 < t.b.length ∧ t.b.length ≤ 4096
theorem okT.snoc {T : List Ng} (h : okT T) {x : Ng} (hx : 0 < x.b.length ∧ x.b.length ≤ 4096) : okT (T ++ [x]) := fun t ht => by
  rw [List.mem_append, List.mem_singleton] at ht
  rcases ht with ht | rfl
  · exact h t ht
  · exact hx
theorem NtTo.same {w w' : World} {q : Nat} {V : Value} {T : List Ng} (h : Nt w q V T) (b : Below w.heap.size w w') : NtTo w q V T w' V T := ⟨h.below b, (Tou.of_below b : Tou (ftN q V T) w w'), fun _ hk => .inl hk⟩
theorem NtTo.trans {w w1 w2 : World} {q : Nat} {V V1 V2 : Value} {T T1 T2 : List Ng} (h : NtTo w q V T w1 V1 T1) (k : NtTo w1 q V1 T1 w2 V2 T2) : NtTo w q V T w2 V2 T2 :=
  ⟨k.nt, h.tou.trans k.tou (fun j hj hk => (h.new j hk).elim id (fun e => absurd hj (by omega))), fun j hj => by
    rcases k.new j hj with h1 | h1
    · exact h.new j h1
    · exact .inr (Nat.le_trans h.tou.size h1)⟩
theorem NtTo.go {w w1 w2 : World} {q : Nat} {V V1 : Value} {T T1 : List Ng} (h : NtTo w q V T w1 V1 T1) (b : Below w1.heap.size w1 w2) : NtTo w q V T w2 V1 T1 := h.trans (NtTo.same h.nt b)
theorem NtTo.from {w w1 w2 : World} {q : Nat} {V V1 : Value} {T T1 : List Ng} (b : Below w.heap.size w w1) (hq : Nt w q V T) (h : NtTo w1 q V T w2 V1 T1) : NtTo w q V T w2 V1 T1 := (NtTo.same hq b).trans h

theorem OwnR.frozen {α : Type} {w : World} {base g n c sz : Nat} {e : TypeId} {enc : α → List Value} {l : List α} (h : OwnR w base e enc sz (.slice (some ⟨g, 0, none⟩) n c) l) (i : Nat) : w.frozen? ⟨g, i, none⟩ = false := by
  rcases h.2 with ⟨hv, _⟩ | ⟨g', cap', cur, hv, h1, h2, _⟩
  · cases hv
  · injection hv with e1 _ _
    injection e1 with e1
    injection e1 with e1 _ _
    subst e1
    exact Blk.frozen (show Blk w g e cur from h2) i
theorem Nt.elem {w : World} {q g n c : Nat} {T : List Ng} (h : Nt w q (.slice (some ⟨g, 0, none⟩) n c) T) {i : Nat} {x : Ng} (hi : T[i]? = some x) :
    w.cell? ⟨g, i * 3, none⟩ = some (.int .u8 (x.sd : Nat)) ∧ w.cell? ⟨g, i * 3 + 1, none⟩ = some (.slice x.A x.b.length x.c) ∧ w.cell? ⟨g, i * 3 + 2, none⟩ = some (.bool x.bent) ∧ (w.frozen? ⟨g, i * 3, none⟩ = false ∧ w.frozen? ⟨g, i * 3 + 1, none⟩ = false ∧ w.frozen? ⟨g, i * 3 + 2, none⟩ = false) := by
  obtain ⟨A, c', hv, _, hr⟩ := OwnR.row Try.eltD h.gl.row
  injection hv with e1 _ _
  subst e1
  obtain ⟨p, o, hp, hc⟩ := hr i x hi
  injection hp with hp
  injection hp with e1 e2 _
  subst e1; subst e2
  refine ⟨?_, ?_, ?_, h.gl.row.frozen _, h.gl.row.frozen _, h.gl.row.frozen _⟩
  · have := hc 0 _ rfl; simpa using this
  · have := hc 1 _ rfl; simpa [vaG] using this
  · have := hc 2 _ rfl; simpa using this
theorem Nt.bytes {w : World} {q : Nat} {V : Value} {T : List Ng} (h : Nt w q V T) {i : Nat} {x : Ng} (hi : T[i]? = some x) : Bs w x.A x.b := OwnB.bs (h.gl.el x (List.mem_of_getElem? hi))

theorem nnew_any (w : World) : Calls Try.prog 9 #[] w fun e w' => e = .returned (.pointer (some ⟨w.heap.size, 0, none⟩)) ∧ Nt w' w.heap.size (.slice none 0 0) [] ∧ Below w.heap.size w w' := by
  have h : Nt (w.alloc (.cells #[.slice none 0 0] 50)) w.heap.size (.slice none 0 0) [] := ⟨Blk.new _ _ _, Gl.nil _ _ _ _ _ _, fun k hk => by rcases hk with hk | ⟨t, ht, _⟩ <;> simp_all [Value.ownBlock]⟩
  have H := Lib.hid (And.intro h (below_alloc w (.cells #[.slice none 0 0] 50)))
  clear h
  go_enter Try.func9, Try.ntmps9
  go_wp2_with fail
  go_ret
  exact ⟨rfl, H.out⟩

theorem nadd_no (q : Nat) (V : Value) (T : List Ng) (sd : Nat) (b : List UInt8) (A : Option Addr) (c : Nat) (bent : Bool) (w : World) (h : Nt w q V T) (hT : 4096 ≤ T.length) (hT2 : T.length ≤ 1000000) :
    Calls Try.prog 20 #[.pointer (some ⟨q, 0, none⟩), .agg #[.int .u8 (sd : Nat), .slice A b.length c, .bool bent]] w fun e w' => e = .returned (.bool false) ∧ Below w.heap.size w w' := by
  obtain ⟨A0, c0, hV⟩ := h.ex
  subst hV
  obtain ⟨m, hm⟩ : ∃ m, m = T.length := ⟨_, rfl⟩
  have hd : decide ((4096 : Int) ≤ (m : Int)) = true := decide_eq_true (by omega)
  rw [← hm] at h
  have HK := Lib.hid (((Qs.zero w).cons (k := qB _ _ _) h.bx).box #[.int .u8 (sd : Nat), .slice A b.length c, .bool bent] 53)
  clear h hm
  have C := HK.out.says
  simp only [sayAll, cellsSay, qB, qW, Nat.reduceAdd, and_true, true_and] at C
  go_enter Try.func20, Try.ntmps20
  go_wp2_with fail
  go_ret
  exact ⟨rfl, HK.out.top 2⟩

/-- what an append leaves -/
def addD (L : List Dg) (d : Dg) : List Dg := if L.length < 4096 then L ++ [d] else L
theorem nadd_any (q : Nat) (V : Value) (T : List Ng) (sd : Nat) (b : List UInt8) (A : Option Addr) (c : Nat) (bent : Bool) (w : World) (h : Nt w q V T) (hk : okT T) (hA : Bs w A b) (hb : 0 < b.length) (hL : b.length ≤ 4096) (hT2 : T.length ≤ 1000000) :
    Calls Try.prog 20 #[.pointer (some ⟨q, 0, none⟩), .agg #[.int .u8 (sd : Nat), .slice A b.length c, .bool bent]] w fun e w' => e = .returned (.bool (decide (T.length < 4096))) ∧ ∃ V' T', Hid (NtTo w q V T w' V' T' ∧ okT T' ∧ T'.map Ng.d = addD (T.map Ng.d) ⟨sd, b, bent⟩) := by
  by_cases hT : T.length < 4096
  · refine (nadd_yes q sd b A c bent V T w h hA hb (by omega) hT).mono ?_
    rintro e w1 ⟨rfl, V', A', c', k⟩
    exact ⟨by rw [decide_eq_true hT], V', _, Lib.hid ⟨k, hk.snoc ⟨hb, hL⟩, by unfold addD; rw [List.length_map, if_pos hT, List.map_append]; rfl⟩⟩
  · refine (nadd_no q V T sd b A c bent w h (by omega) hT2).mono ?_
    rintro e w1 ⟨rfl, k⟩
    exact ⟨by rw [decide_eq_false hT], V, T, Lib.hid ⟨NtTo.same h k, hk, by unfold addD; rw [List.length_map, if_neg hT]⟩⟩

/-- Send: may it be -/
def maySend (sd : Nat) (b : List UInt8) : Bool := decide ((sd = 0 ∨ sd = 1) ∧ 0 < b.length ∧ b.length ≤ 4096)
def sendD (L : List Dg) (sd : Nat) (b : List UInt8) : List Dg := if maySend sd b = true then addD L ⟨sd, b, false⟩ else L
theorem nsend_any (q : Nat) (V : Value) (T : List Ng) (sd : Nat) (b : List UInt8) (A : Option Addr) (c : Nat) (w : World) (h : Nt w q V T) (hk : okT T) (hA : Bs w A b) (hT2 : T.length ≤ 1000000) :
    Calls Try.prog 10 #[.pointer (some ⟨q, 0, none⟩), .int .u8 (sd : Nat), .slice A b.length c] w fun e w' => e = .returned (.bool (maySend sd b && decide (T.length < 4096))) ∧ ∃ V' T', Hid (NtTo w q V T w' V' T' ∧ okT T' ∧ T'.map Ng.d = sendD (T.map Ng.d) sd b) := by
  have HE := Lib.hid (show NtTo w q V T w V T from NtTo.same h (Below.refl _ _))
  have HK := Lib.hid hk
  by_cases hm : maySend sd b = true
  · have hm2 : (sd = 0 ∨ sd = 1) ∧ 0 < b.length ∧ b.length ≤ 4096 := of_decide_eq_true hm
    have HC := Lib.hid (nadd_any q V T sd b A c false w h hk hA hm2.2.1 hm2.2.2 hT2)
    have he : sendD (T.map Ng.d) sd b = addD (T.map Ng.d) ⟨sd, b, false⟩ := by unfold sendD; rw [if_pos hm]
    rw [hm, he]
    obtain ⟨h1, h2, h3⟩ := hm2
    have k2 : decide ((4096 : Int) < (b.length : Int)) = false := decide_eq_false (by omega)
    have k1 : ((b.length : Int) == 0) = false := beq_eq_false_iff_ne.2 (by omega)
    clear hm he hA h hk
    rcases h1 with rfl | rfl
    · go_enter Try.func10, Try.ntmps10
      go_wp2_with fail
      refine HC.out.mono ?_
      rintro e w1 ⟨rfl, V', T', k⟩
      go_wp2_with fail
      go_ret
      exact ⟨by simp, V', T', k⟩
    · go_enter Try.func10, Try.ntmps10
      go_wp2_with fail
      refine HC.out.mono ?_
      rintro e w1 ⟨rfl, V', T', k⟩
      go_wp2_with fail
      go_ret
      exact ⟨by simp, V', T', k⟩
  · have hm1 : maySend sd b = false := by simpa using hm
    have he : sendD (T.map Ng.d) sd b = T.map Ng.d := by unfold sendD; rw [if_neg hm]
    have hm2 : ¬ ((sd = 0 ∨ sd = 1) ∧ 0 < b.length ∧ b.length ≤ 4096) := fun e => hm (decide_eq_true e)
    rw [hm1, he]
    have HF := Lib.hid (show NtTo w q V T w V T ∧ okT T ∧ T.map Ng.d = T.map Ng.d from ⟨HE.out, hk, rfl⟩)
    clear hm hm1 he hA h hk
    by_cases h1 : sd = 0 ∨ sd = 1
    · by_cases h2 : b.length = 0
      · have k1 : ((b.length : Int) == 0) = true := beq_iff_eq.2 (by omega)
        clear hm2
        rcases h1 with rfl | rfl
        · go_enter Try.func10, Try.ntmps10
          go_wp2_with fail
          go_ret
          exact ⟨by simp, V, T, Lib.hid ⟨HF.out.1, HF.out.2.1, rfl⟩⟩
        · go_enter Try.func10, Try.ntmps10
          go_wp2_with fail
          go_ret
          exact ⟨by simp, V, T, Lib.hid ⟨HF.out.1, HF.out.2.1, rfl⟩⟩
      · have k2 : decide ((4096 : Int) < (b.length : Int)) = true := decide_eq_true (by omega)
        have k1 : ((b.length : Int) == 0) = false := beq_eq_false_iff_ne.2 (by omega)
        clear hm2
        rcases h1 with rfl | rfl
        · go_enter Try.func10, Try.ntmps10
          go_wp2_with fail
          go_ret
          exact ⟨by simp, V, T, Lib.hid ⟨HF.out.1, HF.out.2.1, rfl⟩⟩
        · go_enter Try.func10, Try.ntmps10
          go_wp2_with fail
          go_ret
          exact ⟨by simp, V, T, Lib.hid ⟨HF.out.1, HF.out.2.1, rfl⟩⟩
    · have k3 : ((sd : Int) == 0) = false := beq_eq_false_iff_ne.2 (by omega)
      have k4 : ((sd : Int) == 1) = false := beq_eq_false_iff_ne.2 (by omega)
      clear hm2 h1
      go_enter Try.func10, Try.ntmps10
      go_wp2_with fail
      go_ret
      exact ⟨by simp, V, T, Lib.hid ⟨HF.out.1, HF.out.2.1, rfl⟩⟩

/-- an index that is there -/
def isD (n : Nat) (i : Int) : Bool := decide (0 ≤ i ∧ i < (n : Int))
def twiceD (L : List Dg) (i : Int) : List Dg := if isD L.length i = true then (match L[i.toNat]? with | some d => addD L d | none => L) else L
theorem ntwice_any (q : Nat) (V : Value) (T : List Ng) (i : Int) (w : World) (h : Nt w q V T) (hk : okT T) (hT2 : T.length ≤ 1000000) :
    Calls Try.prog 11 #[.pointer (some ⟨q, 0, none⟩), .int .i64 i] w fun e w' => e = .returned (.bool (isD T.length i && decide (T.length < 4096))) ∧ ∃ V' T', Hid (NtTo w q V T w' V' T' ∧ okT T' ∧ T'.map Ng.d = twiceD (T.map Ng.d) i) := by
  by_cases hi : 0 ≤ i ∧ i < (T.length : Int)
  · obtain ⟨j, rfl⟩ := Int.eq_ofNat_of_zero_le hi.1
    have hj : j < T.length := by omega
    obtain ⟨x, hx⟩ : ∃ x, T[j]? = some x := ⟨_, List.getElem?_eq_getElem hj⟩
    rcases h.slice with ⟨rfl, rfl⟩ | ⟨g, cap, rfl, _⟩
    · simp at hj
    · have hkx := hk x (List.mem_of_getElem? hx)
      have C := h.elem hx
      have HC := Lib.hid (nadd_any q _ T x.sd x.b x.A x.c x.bent w h hk (h.bytes hx) hkx.1 hkx.2 hT2)
      have HA := Lib.hid (nat_yes q T.length g cap j w h.bx hj)
      have e1 : isD T.length (j : Int) = true := decide_eq_true hi
      have e2 : twiceD (T.map Ng.d) (j : Int) = addD (T.map Ng.d) ⟨x.sd, x.b, x.bent⟩ := by
        unfold twiceD
        rw [List.length_map, if_pos e1, Int.toNat_natCast, List.getElem?_map, hx]
        rfl
      rw [e1, e2]
      obtain ⟨m, hm⟩ : ∃ m, m = T.length := ⟨_, rfl⟩
      clear h hk hkx hx hi hj e1 e2 hm
      go_enter Try.func11, Try.ntmps11
      go_wp2_with fail
      refine HA.out.mono ?_
      rintro e w1 ⟨rfl, hw⟩
      rw [hw]
      clear hw
      go_wp2_with fail
      refine HC.out.mono ?_
      rintro e w1 ⟨rfl, V', T', k⟩
      go_wp2_with fail
      go_ret
      exact ⟨by simp, V', T', k⟩
  · have e1 : isD T.length i = false := decide_eq_false hi
    have e2 : twiceD (T.map Ng.d) i = T.map Ng.d := by unfold twiceD; rw [List.length_map, e1]; rfl
    rw [e1, e2]
    obtain ⟨A0, c0, hV⟩ := h.ex
    subst hV
    have HA := Lib.hid (nat_no q T.length A0 c0 i w h.bx (by omega))
    have HF := Lib.hid (show NtTo w q _ T w _ T ∧ okT T ∧ T.map Ng.d = T.map Ng.d from ⟨NtTo.same h (Below.refl _ _), hk, rfl⟩)
    clear h hk hi e1 e2
    go_enter Try.func11, Try.ntmps11
    go_wp2_with fail
    refine HA.out.mono ?_
    rintro e w1 ⟨rfl, hw⟩
    rw [hw]
    clear hw
    go_wp2_with fail
    go_ret
    exact ⟨by simp, _, T, Lib.hid ⟨HF.out.1, HF.out.2.1, rfl⟩⟩

end Go.Proofs.Ytanenfbfcbkdhaa
