/- Layer 13: the document's window as an object; SamePieces. -/
import Derived.Test.YtlchnpmiaemobaaWin12
import Derived.Test.YtlchnpmiaemobaaWin13
import Derived.Laws.StructEq
set_option linter.unusedSimpArgs false
set_option linter.unusedVariables false
namespace Go.Proofs.Ytlchnpmiaemobaa
open Go.RowKit
set_option maxRecDepth 100000

structure RefO (w : World) (S : Nat → Prop) (g : Nat) (b : Int) (l : List PC) : Prop where
  low : ∀ k, S k → k < w.heap.size
  ex : ∃ A c, (∀ k, inBR g (.slice A l.length c) k → S k) ∧ Blk w g 46 #[.int .i64 b, .slice A l.length c] ∧ OwnR w 0 31 encP 8 (.slice A l.length c) l
theorem RefO.foot {w w' : World} {S S' : Nat → Prop} {g : Nat} {b : Int} {l : List PC} (h : RefO w S g b l) (f : Foot S' w w') (hS : ∀ k, S k → ¬ S' k) : RefO w' S g b l := by
  obtain ⟨A, c, hs, hg, hr⟩ := h.ex
  exact ⟨fun k hk => Nat.lt_of_lt_of_le (h.low k hk) f.size, A, c, hs, (f.block g hg.lt (hS g (hs g (.inl rfl)))).trans hg, own_of hr fun k hk => f.block k (World.ownsRow.lt hr k hk).2 (hS k (hs k (.inr hk)))⟩
theorem RefO.held {w : World} {S : Nat → Prop} {g : Nat} {b : Int} {l : List PC} (h : RefO w S g b l) : Held w S (fun w => RefO w S g b l) := ⟨h.low, fun _ f => h.foot f (fun _ hk e => e hk)⟩

theorem refnew_any (n : Int) (h1 : 1 ≤ n) (h2 : n ≤ 1048576) (w : World) :
    Calls Try.prog 20 #[.int .i64 n] w fun e w' => e = .returned (.pointer (some ⟨w.heap.size, 0, none⟩)) ∧ RefO w' (fun k => k = w.heap.size) w.heap.size n [] ∧ Below w.heap.size w w' := by
  have k1 : ¬ n < 1 := by omega
  have k2 : ¬ (1048576 : Int) < n := by omega
  have hR : RefO (w.alloc (.cells #[.int .i64 n, .slice none 0 0] 46)) (fun k => k = w.heap.size) w.heap.size n [] := ⟨fun k hk => by subst hk; simp, none, 0, (fun k hk => by
    rcases hk with h | h
    · exact h
    · cases h), Blk.new w _ _, OwnR.nil _ _ _ _ _⟩
  have HR := Lib.hid hR
  clear hR
  go_enter Try.func20, Try.ntmps20
  go_wp2_with fail
  go_ret
  exact ⟨rfl, HR.out, below_alloc w _⟩
theorem refnew_none (n : Int) (h : n < 1 ∨ 1048576 < n) (w : World) :
    Calls Try.prog 20 #[.int .i64 n] w fun e w' => e = .returned (.pointer none) ∧ w' = w := by
  by_cases k1 : n < 1
  · go_enter Try.func20, Try.ntmps20
    go_wp2_with fail
    go_ret
    exact ⟨rfl, rfl⟩
  · have k2 : (1048576 : Int) < n := by omega
    go_enter Try.func20, Try.ntmps20
    go_wp2_with fail
    go_ret
    exact ⟨rfl, rfl⟩

theorem refin_any {S : Nat → Prop} {g : Nat} {b : Int} {l : List PC} {w : World} (h : RefO w S g b l) (hok : okP l) (hn : sumP l ≤ 1000000000) (hl : l.length ≤ 1000000) : Calls Try.prog 23 #[.pointer (some ⟨g, 0, none⟩)] w fun e w' => e = .returned (.int .i64 (sumP l)) ∧ w' = w := by
  obtain ⟨A, c, -, hg, hr⟩ := h.ex
  exact rin_any g b A c l w hg hr hok hn hl
theorem refroom_any {S : Nat → Prop} {g : Nat} {b : Int} {l : List PC} {w : World} (h : RefO w S g b l) (hok : okP l) (hn : sumP l ≤ 1000000000) (hl : l.length ≤ 1000000) : Calls Try.prog 25 #[.pointer (some ⟨g, 0, none⟩)] w fun e w' => e = .returned (.bool (decide (sumP l < b))) ∧ Below w.heap.size w w' := by
  obtain ⟨A, c, -, hg, hr⟩ := h.ex
  exact rroom_any g b A c l w hg hr hok hn hl

theorem refadd_any (S : Nat → Prop) (g : Nat) (b : Int) (l : List PC) (p : PC) (w : World) (h : RefO w S g b l) (hok : okP l) (hn : sumP l ≤ 1000000000) (hl : l.length ≤ 1000000) :
    Calls Try.prog 44 #[.pointer (some ⟨g, 0, none⟩), .agg (encP p).toArray] w fun e w' => e = .returned (.bool (addB b l p)) ∧ ∃ S', RefO w' S' g b (addL b l p) ∧ Aft S S' w w' := by
  obtain ⟨A, c, hs, hg, hr⟩ := h.ex
  by_cases ha : 1 ≤ p.n ∧ p.n ≤ 65536 ∧ sumP l < b
  · have h1 : addB b l p = true := decide_eq_true ha
    have h2 : addL b l p = l ++ [p] := by unfold addL; rw [h1, if_pos rfl]
    rw [h1, h2]
    refine (radd_yes g c b A p l w hg hr ha.1 ha.2.1 ha.2.2 hok hn hl).mono ?_
    rintro e w' ⟨he, A', c', k1, k2, k3, k4⟩
    have hf : Foot S w w' := k3.mono (fun k hk => hs k hk)
    refine ⟨he, fun k => S k ∨ inBR g (.slice A' (l.length + 1) c') k, ⟨fun k hk => ?_, A', c', fun k hk => .inr (inBR_len hk), ?_, ?_⟩, hf, fun k hk => ?_⟩
    · rcases hk with hk | rfl | hk
      · exact Nat.lt_of_lt_of_le (h.low k hk) k3.size
      · exact k1.lt
      · exact (World.ownsRow.lt k2 k hk).2
    · rw [List.length_append]
      exact k1
    · rw [List.length_append]; exact k2
    · rcases hk with hk | rfl | hk
      · exact .inl hk
      · exact .inl (hs k (.inl rfl))
      · rcases k4 k hk with h5 | h5
        · exact .inl (hs k (.inr h5))
        · exact .inr h5
  · have h1 : addB b l p = false := decide_eq_false ha
    have h2 : addL b l p = l := by unfold addL; rw [h1]; rfl
    rw [h1, h2]
    refine (radd_no g b A c l p w hg hr hok hn hl (by omega)).mono ?_
    rintro e w' ⟨he, hb⟩
    exact ⟨he, S, h.foot (Foot.of_below (S := fun _ => False) hb) (fun _ _ e => e), Foot.of_below hb, fun k hk => .inl hk⟩

theorem refout_any (al : Bool) (S : Nat → Prop) (g se a0 a1 a2 : Nat) (b : Int) (l : List PC) (w : World) (h : RefO w S g b l) (hl : l.length ≤ 1000000) :
    Calls Try.prog 56 #[.pointer (some ⟨g, 0, none⟩), .int .u32 se, .agg #[.int .u32 a0, .int .u32 a1, .int .u32 a2], .bool al] w fun e w' =>
      e = .returned (.int .i64 ((l.length : Int) - (l.filter fun p => !goneR al se a0 a2 p).length)) ∧ ∃ S', RefO w' S' g b (l.filter fun p => !goneR al se a0 a2 p) ∧ Aft S S' w w' := by
  obtain ⟨A, c, hs, hg, hr⟩ := h.ex
  refine (rout_any al g se a0 a1 a2 b A c l w hg hr hl).mono ?_
  rintro e w' ⟨he, A', c', k1, k2, k3⟩
  have hf : Foot S w w' := k3.mono (fun k hk => hs k (.inl hk))
  refine ⟨he, fun k => S k ∨ inBR g (.slice A' (l.filter fun p => !goneR al se a0 a2 p).length c') k, ⟨fun k hk => ?_, A', c', fun k hk => .inr hk, k1, OwnR.mono k2 (Nat.zero_le _)⟩, hf, fun k hk => ?_⟩
  · rcases hk with hk | rfl | hk
    · exact Nat.lt_of_lt_of_le (h.low k hk) k3.size
    · exact k1.lt
    · exact (World.ownsRow.lt k2 k hk).2
  · rcases hk with hk | rfl | hk
    · exact .inl hk
    · exact .inl (hs k (.inl rfl))
    · exact .inr (by have := (World.ownsRow.lt k2 k hk).1; omega)

theorem refack_any (S : Nat → Prop) (g se a0 a1 a2 : Nat) (b : Int) (l : List PC) (w : World) (h : RefO w S g b l) (hl : l.length ≤ 1000000) :
    Calls Try.prog 42 #[.pointer (some ⟨g, 0, none⟩), .int .u32 se, .agg #[.int .u32 a0, .int .u32 a1, .int .u32 a2]] w fun e w' =>
      e = .returned (.int .i64 ((l.length : Int) - (l.filter fun p => !goneA se a0 a2 p).length)) ∧ ∃ S', RefO w' S' g b (l.filter fun p => !goneA se a0 a2 p) ∧ Aft S S' w w' := by
  have h1 := h.foot (Foot.of_below (S := fun _ => False) (below_alloc w (.cells #[.int .u32 a0, .int .u32 a1, .int .u32 a2] 29))) (fun _ _ e => e)
  have hR := refout_any false S g se a0 a1 a2 b l _ h1 hl
  rw [goneR_false] at hR
  have HR := Lib.hid hR
  clear hR h1 h
  go_enter Try.func42, Try.ntmps42
  go_wp2_with fail
  refine HR.out.mono ?_
  rintro e w1 ⟨rfl, S', k1, k2, k3⟩
  have H := Lib.hid (And.intro k1 (And.intro k2 k3))
  clear k1 k2 k3
  go_wp2_with fail
  go_ret
  obtain ⟨k1, k2, k3⟩ := H.out
  exact ⟨rfl, S', k1, (Foot.of_below (below_alloc w (.cells #[.int .u32 a0, .int .u32 a1, .int .u32 a2] 29))).trans k2 (fun k hk => .inl hk), fun k hk => by
    rcases k3 k hk with h | h
    · exact .inl h
    · exact .inr (by rw [World.size_alloc] at h; omega)⟩
theorem refdrop_any (S : Nat → Prop) (g se : Nat) (b : Int) (l : List PC) (w : World) (h : RefO w S g b l) (hl : l.length ≤ 1000000) :
    Calls Try.prog 43 #[.pointer (some ⟨g, 0, none⟩), .int .u32 se] w fun e w' =>
      e = .returned (.int .i64 ((l.length : Int) - (l.filter fun p => !goneD se p).length)) ∧ ∃ S', RefO w' S' g b (l.filter fun p => !goneD se p) ∧ Aft S S' w w' := by
  have hR := refout_any true S g se 0 0 0 b l _ h hl
  rw [goneR_true] at hR
  have HR := Lib.hid hR
  clear hR h
  go_enter Try.func43, Try.ntmps43
  go_wp2_with fail
  refine HR.out.mono ?_
  rintro e w1 ⟨rfl, S', k1, k2, k3⟩
  have H := Lib.hid (And.intro k1 (And.intro k2 k3))
  clear k1 k2 k3
  go_wp2_with fail
  go_ret
  obtain ⟨k1, k2, k3⟩ := H.out
  exact ⟨rfl, S', k1, k2, k3⟩

theorem PC.eq_iff (a b : PC) : a = b ↔ a.se = b.se ∧ a.f0 = b.f0 ∧ a.f1 = b.f1 ∧ a.f2 = b.f2 ∧ a.t0 = b.t0 ∧ a.t1 = b.t1 ∧ a.t2 = b.t2 ∧ a.n = b.n := by
  cases a; cases b; simp
instance : DecidableEq PC := fun a b => decidable_of_iff _ (PC.eq_iff a b).symm
theorem eqInP_run (a b : PC) (w : World) : (Op.equalIn 10000 31 (.agg (encP a).toArray) (.agg (encP b).toArray)).run Try.prog w = .ok (decide (a = b)) w := by
  have u1 := Try.underlying27
  have u2 := Try.underlying3
  have u3 := Try.underlying29
  have hS : Try.prog.underlying 31 = some (.struct (Try.prog.fieldsOf 31)) := by kernel_rfl
  have hp : Try.prog.stoodInHeld 31 = false := by kernel_rfl
  have hS2 : Try.prog.underlying 29 = some (.struct (Try.prog.fieldsOf 29)) := by kernel_rfl
  have hp2 : Try.prog.stoodInHeld 29 = false := by kernel_rfl
  obtain ⟨se, f0, f1, f2, t0, t1, t2, pn⟩ := a
  obtain ⟨se', g0, g1, g2, s0, s1, s2, pm⟩ := b
  simp only [encP]
  rw [show (10000 : Nat) = 9999 + 1 from rfl, run_equalIn_agg w 9999 31 _ _ hS hp]
  simp only [Program.fieldsOf, Try.underlying31]
  go_simp
  simp only [PC.eq_iff, Int.natCast_inj]
  by_cases h : se = se'
  rotate_left
  · simp [h]
  subst h
  by_cases h : f0 = g0
  rotate_left
  · simp [h]
  subst h
  by_cases h : f1 = g1
  rotate_left
  · simp [h]
  subst h
  by_cases h : f2 = g2
  rotate_left
  · simp [h]
  subst h
  by_cases h : t0 = s0
  rotate_left
  · simp [h]
  subst h
  by_cases h : t1 = s1
  rotate_left
  · simp [h]
  subst h
  by_cases h : t2 = s2
  rotate_left
  · simp [h]
  subst h
  by_cases h : pn = pm <;> simp [h]
theorem eqP_run (a b : PC) (w : World) : (binOp .eql 31 (.agg (encP a).toArray) (.agg (encP b).toArray)).run Try.prog w = .ok (.bool (decide (a = b))) w := by
  rw [run_eql_struct, eqInP_run]; rfl
theorem neqP_run (a b : PC) (w : World) : (binOp .neq 31 (.agg (encP a).toArray) (.agg (encP b).toArray)).run Try.prog w = .ok (.bool (!decide (a = b))) w := by
  rw [run_neq_struct, eqInP_run]; rfl

theorem same_any (A B : Option Addr) (c d : Nat) (a b : List PC) (w : World) (ha : OwnR w 0 31 encP 8 (.slice A a.length c) a) (hb : OwnR w 0 31 encP 8 (.slice B b.length d) b) (hal : a.length ≤ 1000000) (hbl : b.length ≤ 1000000) :
    Calls Try.prog 26 #[.slice A a.length c, .slice B b.length d] w fun e w' => e = .returned (.bool (decide (a = b))) ∧ Below w.heap.size w w' := by
  obtain ⟨r, hr⟩ : ∃ r, r = decide (a = b) := ⟨_, rfl⟩
  rw [← hr]
  have HR := Lib.hid hr
  clear hr
  by_cases hlen : a.length = b.length
  · have HL := Lib.hid hlen
    have HV := Lib.hid ha
    have HU := Lib.hid hb
    rw [← hlen]
    clear hlen ha hb hbl
    go_enter Try.func26, Try.ntmps26
    go_wp2_with fail
    go_loopw [5] (fun i wr => ∃ k : Nat, k ≤ a.length ∧ i = .int .i64 k ∧ Hid (a.take k = b.take k) ∧ Hid (Below w.heap.size w wr))
      (fun i _ => a.length - (intOf i).toNat)
    case atStart => exact ⟨0, Nat.zero_le _, rfl, Lib.hid rfl, Lib.hid (Below.refl _ _)⟩
    case round =>
      obtain ⟨k, hk, rfl, HE, HB⟩ := hrel
      rcases Nat.lt_or_ge k a.length with hlt | hge
      · have hltb : k < b.length := by have := HL.out; omega
        obtain ⟨p, rfl, hc, -, -, -, -⟩ := OwnR.at_ Try.eltP (HV.out.below HB.out) k hlt
        obtain ⟨q, rfl, hd, -, -, -, -⟩ := OwnR.at_ Try.eltP (HU.out.below HB.out) k hltb
        obtain ⟨x, hx⟩ : ∃ x, a[k] = x := ⟨_, rfl⟩
        obtain ⟨y, hy⟩ : ∃ y, b[k] = y := ⟨_, rfl⟩
        rw [hx] at hc
        rw [hy] at hd
        have hN := fun w => neqP_run x y w
        have HX := Lib.hid hx
        have HY := Lib.hid hy
        clear hx hy
        have C := And.intro (hc 0 _ rfl) (And.intro (hc 1 _ rfl) (And.intro (hc 2 _ rfl) (And.intro (hc 3 _ rfl) (And.intro (hc 4 _ rfl) (And.intro (hc 5 _ rfl) (And.intro (hc 6 _ rfl) (hc 7 _ rfl)))))))
        have D := And.intro (hd 0 _ rfl) (And.intro (hd 1 _ rfl) (And.intro (hd 2 _ rfl) (And.intro (hd 3 _ rfl) (And.intro (hd 4 _ rfl) (And.intro (hd 5 _ rfl) (And.intro (hd 6 _ rfl) (hd 7 _ rfl)))))))
        simp only [Nat.add_zero] at C D
        clear hc hd
        by_cases he : x = y
        · rw [decide_eq_true he] at hN
          have hE2 : a.take (k + 1) = b.take (k + 1) := by
            rw [List.take_succ_eq_append_getElem hlt, List.take_succ_eq_append_getElem hltb, HE.out, HX.out, HY.out, he]
          have HE2 := Lib.hid hE2
          clear hE2 he
          obtain ⟨se, f0, f1, f2, t0, t1, t2, pn⟩ := x
          obtain ⟨se', g0, g1, g2, s0, s1, s2, pm⟩ := y
          simp only [encP, Bool.not_true] at hN
          go_wp2_with fail
          go_quiet (fail)
          go_wp2_with fail
          go_roundw
          case measure => simp [intOf]; omega
          case rel => exact ⟨k + 1, by omega, by go_num, HE2, Lib.hid (below_drewN HB.out nq)⟩
        · rw [decide_eq_false he] at hN
          have hr0 : Hid (r = false) := Lib.hid (by
            rw [HR.out]
            refine decide_eq_false fun e => he ?_
            subst e
            exact HX.out.symm.trans HY.out)
          clear he
          obtain ⟨se, f0, f1, f2, t0, t1, t2, pn⟩ := x
          obtain ⟨se', g0, g1, g2, s0, s1, s2, pm⟩ := y
          simp only [encP, Bool.not_false] at hN
          go_wp2_with fail
          go_quiet (fail)
          go_wp2_with fail
          go_ret
          exact ⟨by rw [hr0.out]; rfl, below_drewN HB.out nq⟩
      · obtain rfl : k = a.length := by omega
        have hr1 : Hid (r = true) := Lib.hid (by
          rw [HR.out]
          refine decide_eq_true ?_
          have h1 := HE.out
          rw [List.take_length, HL.out, List.take_length] at h1
          exact h1)
        go_wp2_with fail
        go_ret
        exact ⟨by rw [hr1.out]; rfl, HB.out⟩
  · have hd : ((a.length : Int) != (b.length : Int)) = true := by simp; omega
    have hr0 : Hid (r = false) := Lib.hid (by rw [HR.out]; exact decide_eq_false fun e => hlen (by rw [e]))
    clear hlen ha hb
    go_enter Try.func26, Try.ntmps26
    go_wp2_with fail
    go_ret
    exact ⟨by rw [hr0.out]; rfl, Below.refl _ _⟩

end Go.Proofs.Ytlchnpmiaemobaa
