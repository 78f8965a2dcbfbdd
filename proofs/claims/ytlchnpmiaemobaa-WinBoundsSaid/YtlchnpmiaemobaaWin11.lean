/- Layer 13: the document's window. -/
import Derived.Test.YtlchnpmiaemobaaWin10
import Derived.BigQuiet
import Derived.Deep.QuietTactic
set_option linter.unusedSimpArgs false
set_option linter.unusedVariables false
namespace Go.Proofs.Ytlchnpmiaemobaa
open Go.RowKit
set_option maxRecDepth 100000

theorem sumP_take {l : List PC} (hok : okP l) (k : Nat) : 0 ≤ sumP (l.take k) ∧ sumP (l.take k) ≤ sumP l := by
  have h1 := sumP_nonneg _ (hok.take k)
  have h2 := sumP_nonneg _ (hok.drop k)
  have h3 := sumP_append (l.take k) (l.drop k)
  rw [List.take_append_drop] at h3
  omega
theorem sumP_snoc {l : List PC} {k : Nat} {x : PC} (hx : l[k]? = some x) : sumP (l.take (k + 1)) = sumP (l.take k) + x.n := by
  obtain ⟨hj, hx⟩ := List.getElem?_eq_some_iff.1 hx
  rw [List.take_succ_eq_append_getElem hj, sumP_append, hx]
  simp [sumP]

theorem rin_any (g : Nat) (b : Int) (A : Option Addr) (c : Nat) (l : List PC) (w : World) (hg : Blk w g 46 #[.int .i64 b, .slice A l.length c]) (hr : OwnR w 0 31 encP 8 (.slice A l.length c) l) (hok : okP l) (hn : sumP l ≤ 1000000000) (hl : l.length ≤ 1000000) :
    Calls Try.prog 23 #[.pointer (some ⟨g, 0, none⟩)] w fun e w' => e = .returned (.int .i64 (sumP l)) ∧ w' = w := by
  have h1 : w.cell? ⟨g, 1, none⟩ = some (.slice A l.length c) := hg.cell 1
  have HR := Lib.hid hr
  have HO := Lib.hid hok
  clear hg hr hok
  go_enter Try.func23, Try.ntmps23
  go_wp2_with fail
  go_loop [3, 4] (fun s3 s4 => ∃ (k : Nat) (m : Int), k ≤ l.length ∧ s4 = .int .i64 k ∧ s3 = .int .i64 m ∧ Hid (m = sumP (l.take k)))
    (fun _ s4 => l.length - (intOf s4).toNat)
  case atStart => exact ⟨0, 0, Nat.zero_le _, rfl, rfl, Lib.hid rfl⟩
  case round =>
    obtain ⟨k, m, hk, rfl, rfl, HM⟩ := hrel
    by_cases hlt : k < l.length
    · obtain ⟨p, rfl, hc, hf, -, -, -⟩ := OwnR.at_ Try.eltP HR.out k hlt
      have h7 := hc 7 _ rfl
      have hs := sumP_snoc (List.getElem?_eq_getElem hlt)
      have hb1 := sumP_take HO.out k
      have hb2 := sumP_take HO.out (k + 1)
      have hpb := HO.out l[k] (List.getElem_mem hlt)
      rw [← HM.out] at hs hb1
      obtain ⟨x, hx⟩ : ∃ x, x = l[k].n := ⟨_, rfl⟩
      rw [← hx] at h7 hs hpb
      have HS := Lib.hid hs
      have hm2 : 0 ≤ m + x ∧ m + x ≤ 1000000000 := by rw [hs] at hb2; omega
      have hm1 : 0 ≤ m ∧ m ≤ 1000000000 := by omega
      have hm3 := hm2.1
      have hm4 := hm2.2
      have hm5 := hm1.1
      have hm6 := hm1.2
      have hp1 := hpb.1
      have hp2 := hpb.2
      clear hc hf hs hb1 hb2 hpb hx hm1 hm2
      go_wp2_with fail
      go_round
      case measure => simp [intOf]; omega
      case rel => exact ⟨k + 1, m + x, by omega, by go_num, rfl, Lib.hid HS.out.symm⟩
    · obtain rfl : k = l.length := by omega
      rw [List.take_length] at HM
      go_wp2_with fail
      go_ret
      exact ⟨by rw [HM.out]; rfl, rfl⟩

theorem rroom_any (g : Nat) (b : Int) (A : Option Addr) (c : Nat) (l : List PC) (w : World) (hg : Blk w g 46 #[.int .i64 b, .slice A l.length c]) (hr : OwnR w 0 31 encP 8 (.slice A l.length c) l) (hok : okP l) (hn : sumP l ≤ 1000000000) (hl : l.length ≤ 1000000) :
    Calls Try.prog 25 #[.pointer (some ⟨g, 0, none⟩)] w fun e w' => e = .returned (.bool (decide (sumP l < b))) ∧ Below w.heap.size w w' := by
  have hz : w.cell? ⟨g, 0, none⟩ = some (.int .i64 b) := hg.cell 0
  have hp := plus_cell w
  have HI := Lib.hid (fun x => rin_any g b A c l (plus w x) (hg.below (plus_below w x) hg.lt) (hr.below (plus_below w x)) hok hn hl)
  clear hg hr hok
  go_enter Try.func25, Try.ntmps25
  go_wp2_with fail
  refine wp_region_ext (by kernel_rfl) (by kernel_rfl) ?_
  repeat (go_big_quiet_step ((go_at_call 23; exact ext_of ((HI.out _).mono fun _ _ h => ⟨h.1, h.2 ▸ Below.refl _ _⟩))))
  refine wpQuiet_nil ?_
  rintro w9 ⟨x, rfl⟩
  go_wp2_with fail
  go_ret
  exact ⟨rfl, plus_below _ _⟩

theorem apart_RP {w : World} {g : Nat} {cs : Array Value} {A : Option Addr} {n c : Nat} {l : List PC} (h : Blk w g 46 cs) (hr : OwnR w 0 31 encP 8 (.slice A n c) l) : (Value.slice A n c).ownBlock ≠ some g := fun e => by
  rcases hr.2 with ⟨e0, _⟩ | ⟨k, cap, cur, e0, _, hgg, _⟩
  · injection e0 with e1; rw [e1] at e; cases e
  · injection e0 with e1; rw [e1] at e; injection e with e; subst e
    have := Option.some.inj (h.symm.trans hgg)
    injection this with _ e2 _
    exact absurd e2 (by decide)

theorem radd_no (g : Nat) (b : Int) (A : Option Addr) (c : Nat) (l : List PC) (p : PC) (w : World) (hg : Blk w g 46 #[.int .i64 b, .slice A l.length c]) (hr : OwnR w 0 31 encP 8 (.slice A l.length c) l) (hok : okP l) (hn : sumP l ≤ 1000000000) (hl : l.length ≤ 1000000)
    (hno : p.n < 1 ∨ 65536 < p.n ∨ b ≤ sumP l) :
    Calls Try.prog 44 #[.pointer (some ⟨g, 0, none⟩), .agg (encP p).toArray] w fun e w' => e = .returned (.bool false) ∧ Below w.heap.size w w' := by
  obtain ⟨se, f0, f1, f2, t0, t1, t2, pn⟩ := p
  simp only [encP] at hno ⊢
  have K := (Qs.zero w).box #[.int .u32 se, .int .u32 f0, .int .u32 f1, .int .u32 f2, .int .u32 t0, .int .u32 t1, .int .u32 t2, .int .i64 pn] 31
  have HK := Lib.hid K
  have HI := Lib.hid (rroom_any g b A c l (w.alloc (.cells #[.int .u32 se, .int .u32 f0, .int .u32 f1, .int .u32 f2, .int .u32 t0, .int .u32 t1, .int .u32 t2, .int .i64 pn] 31)) (hg.alloc _) (hr.alloc _) hok hn hl)
  clear hg hr hok K
  by_cases k3 : sumP l < b
  · rw [decide_eq_true k3] at HI
    by_cases k1 : pn < 1
    · clear k3 hno
      go_enter Try.func44, Try.ntmps44
      go_wp2_with fail
      refine HI.out.mono ?_
      rintro e w1 ⟨rfl, b1⟩
      have HK1 := Lib.hid (HK.out.go b1)
      clear b1
      have C := HK1.out.says
      simp only [sayAll, cellsSay, qB, qW, Nat.reduceAdd, and_true, true_and] at C
      go_wp2_with fail
      go_ret
      exact ⟨rfl, HK1.out.top 1⟩
    · have k2 : (65536 : Int) < pn := by omega
      clear k3 hno
      go_enter Try.func44, Try.ntmps44
      go_wp2_with fail
      refine HI.out.mono ?_
      rintro e w1 ⟨rfl, b1⟩
      have HK1 := Lib.hid (HK.out.go b1)
      clear b1
      have C := HK1.out.says
      simp only [sayAll, cellsSay, qB, qW, Nat.reduceAdd, and_true, true_and] at C
      go_wp2_with fail
      go_ret
      exact ⟨rfl, HK1.out.top 1⟩
  · rw [decide_eq_false k3] at HI
    by_cases k1 : pn < 1
    · clear k3 hno
      go_enter Try.func44, Try.ntmps44
      go_wp2_with fail
      refine HI.out.mono ?_
      rintro e w1 ⟨rfl, b1⟩
      have HK1 := Lib.hid (HK.out.go b1)
      clear b1
      have C := HK1.out.says
      simp only [sayAll, cellsSay, qB, qW, Nat.reduceAdd, and_true, true_and] at C
      go_wp2_with fail
      go_ret
      exact ⟨rfl, HK1.out.top 1⟩
    · by_cases k2 : (65536 : Int) < pn
      all_goals
        clear k3 hno
        go_enter Try.func44, Try.ntmps44
        go_wp2_with fail
        refine HI.out.mono ?_
        rintro e w1 ⟨rfl, b1⟩
        have HK1 := Lib.hid (HK.out.go b1)
        clear b1
        have C := HK1.out.says
        simp only [sayAll, cellsSay, qB, qW, Nat.reduceAdd, and_true, true_and] at C
        go_wp2_with fail
        go_ret
        exact ⟨rfl, HK1.out.top 1⟩

end Go.Proofs.Ytlchnpmiaemobaa
