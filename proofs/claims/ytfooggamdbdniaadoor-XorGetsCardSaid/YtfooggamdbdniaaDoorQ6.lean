/- Joined: Xr22, Ref9, Xr23. -/
import Derived.Test.YtfooggamdbdniaaDoorQ5
import Derived.Test.YtfooggamdbdniaaDoorQ4
import Derived.Test.YtfooggamdbdniaaDoorQ1
import Derived.Test.YtfooggamdbdniaaDoorQ2
set_option linter.unusedSimpArgs false
set_option linter.unusedVariables false
/- Layer 3: the document's Get. -/
namespace Go.Proofs.YtfooggamdbdniaaDoor
open Go.RowKit

theorem valX_bd {s : XV} (hp : s.prev < 18446744073709551616) (hLW : s.lead + s.width ≤ 64) (r : List Bool) (h : (valX s r).2.2 = 0) : (valX s r).1 < 18446744073709551616 ∧ (valX s r).2.1 ≤ r.length ∧ (valX s r).2.1 ≤ 77 := by
  revert h
  unfold valX
  split
  · split
    · intro h; cases h
    · intro _
      exact ⟨take_lt r 64, by simp only; omega, by simp only; omega⟩
  · split
    · intro h; cases h
    · intro _; exact ⟨hp, by simp, by simp⟩
    · intro h; cases h
    · rename_i r
      split
      · intro h; cases h
      · intro _
        exact ⟨xor_lt' (shl_lt (take_lt _ _) hLW) hp, by simp only [List.length_cons]; omega, by simp only; omega⟩
    · rename_i r
      split
      · intro h; cases h
      · split
        · intro h; cases h
        · split
          · intro h; cases h
          · intro _
            have := take_lt (r.drop 5) 6
            exact ⟨xor_lt' (shl_lt (take_lt _ _) (by omega)) hp, by simp only [List.length_cons]; omega, by simp only; omega⟩

/-- what is returned for so a reading -/
def GetOut (R : Nat × Int × XV × Nat) (k : IntKind) : Ending := .returned (.tuple #[.int .u64 R.1, .int .i64 R.2.1, .agg #[.bool R.2.2.1.has, .int .u64 R.2.2.1.prev, .int .u8 R.2.2.1.lead, .int .u8 R.2.2.1.width], .int k R.2.2.2])

set_option maxRecDepth 100000 in
set_option maxHeartbeats 1000000 in
theorem rxget_in (A : Option Addr) (c : Nat) (l : List UInt8) (m a : Nat) (h : Bool) (p L X : Nat) (w : World) (hb : Bs w A l) (hs : soundB l (m : Int) = true) (hx : soundX ⟨h, p, L, X⟩ = true) (hl : l.length ≤ 100000) (ha : a ≤ m) (hp : p < 18446744073709551616) (hL : L < 256) (hX : X < 256) :
    Calls Tryd.prog 16 #[.agg #[.slice A l.length c, .int .i64 m], .int .i64 a, .agg #[.bool h, .int .u64 p, .int .u8 L, .int .u8 X]] w fun e w' => e = GetOut (getX l m ⟨h, p, L, X⟩ a) .i64 ∧ Below w.heap.size w w' := by
  have hmx : Tryd.prog.follows .mixedOrders = true := by kernel_rfl
  have hm8 : m ≤ 8 * l.length := by
    obtain ⟨m', h1, h2, -⟩ := sound_nat hs
    omega
  have hLX : L + X ≤ 64 := by
    unfold soundX at hx
    cases h <;> simp at hx <;> omega
  have K := (Ks.three w #[.slice A l.length c, .int .i64 m] #[.bool h, .int .u64 p, .int .u8 L, .int .u8 X] #[.bool false, .int .u64 0, .int .u8 0, .int .u8 0] 29 24 24).bs_ (hb.below (Ks.three w _ _ _ _ _ _ |>.top 0))
  have HE := Lib.hid (getX_dec (a := a) hs hx ha)
  have HV := Lib.hid (dec_val hx hp ((bitl l m).drop a))
  have HB := Lib.hid (valX_bd (s := ⟨h, p, L, X⟩) hp hLX ((bitl l m).drop a))
  have Hs := Lib.hid hs
  have Hx := Lib.hid hx
  have kf : ∀ i j : Nat, w.heap.size + 1 + 1 = w.heap.size + 2 := fun _ _ => rfl
  clear hs hx kf
  go_enter Tryd.func16, Tryd.ntmps16
  go_wp2_with fail
  generalize (((w.alloc (.cells #[.slice A l.length c, .int .i64 m] 29)).alloc (.cells #[.bool h, .int .u64 p, .int .u8 L, .int .u8 X] 24)).alloc (.cells #[.bool false, .int .u64 0, .int .u8 0, .int .u8 0] 24)) = W0 at *
  have HK := Lib.hid K
  clear K hb
  refine (refSound_any A c l m W0 (HK.out.bs 0) (by omega) (by omega)).mono ?_
  rintro e w1 ⟨rfl, b1⟩
  replace HK := Lib.hid (HK.out.go b1)
  clear b1
  rw [Hs.out]
  obtain ⟨⟨u0, u1, u2, u3⟩, -⟩ := (HK.out.blk 3).quad
  obtain ⟨⟨v0, v1⟩, -⟩ := (HK.out.blk 2).duo
  go_wp2_with fail
  refine (rxsound_any h p L X _ hL hX).mono ?_
  rintro e w2 ⟨rfl, b2⟩
  replace HK := Lib.hid (HK.out.go b2)
  clear b2 u0 u1 u2 u3 v0 v1
  rw [Hx.out]
  obtain ⟨⟨u0, u1, u2, u3⟩, -⟩ := (HK.out.blk 3).quad
  obtain ⟨⟨v0, v1⟩, -⟩ := (HK.out.blk 2).duo
  have c1 : ((a : Int) < 0) = False := by simp
  have c2 : ((m : Int) < (a : Int)) = False := by simp; omega
  have c3 : decide ((m : Int) < (a : Int)) = false := by simp; omega
  have c4 : decide (m < a) = false := by simp; omega
  go_wp2_with fail
  refine (rxvalue_any A c l m a h p L X w2 (HK.out.bs 0) Hs.out hl ha (by omega) Hx.out hp).mono ?_
  rintro e w3 ⟨⟨v, n, ec, rfl, hec, hok⟩, b3⟩
  replace HK := Lib.hid (HK.out.go b3)
  have Hec := Lib.hid hec
  have Hok := Lib.hid hok
  clear b3 u0 u1 u2 u3 v0 v1 hec hok c1 c2 c3 c4
  obtain ⟨⟨u0, u1, u2, u3⟩, -⟩ := (HK.out.blk 3).quad
  obtain ⟨⟨q0, q1, q2, q3⟩, g0, g1, g2, g3⟩ := (HK.out.blk 4).quad
  by_cases h0 : ec = 0
  · subst h0
    obtain ⟨k1, k2⟩ := Hok.out rfl
    obtain ⟨j1, j2, j3⟩ := HB.out Hec.out.symm
    rw [← k1] at j1
    rw [← k2] at j2 j3
    have hlen : ((bitl l m).drop a).length = m - a := by rw [List.length_drop, bitl_length]
    rw [hlen] at j2
    obtain ⟨N, hN⟩ : ∃ N, N = (encX ⟨h, p, L, X⟩ v).1 := ⟨_, rfl⟩
    obtain ⟨th, tp, tl, tb, hT⟩ : ∃ th tp tl tb, (encX ⟨h, p, L, X⟩ v).2 = ⟨th, tp, tl, tb⟩ := ⟨_, _, _, _, rfl⟩
    have hR : getX l m ⟨h, p, L, X⟩ a = if N = ((bitl l m).drop a).take n then (v, ((a + n : Nat) : Int), ⟨th, tp, tl, tb⟩, 0) else (0, 0, xv0, 30) := by
      rw [HE.out, HV.out, if_neg (by rw [← Hec.out]; simp), ← k1, ← k2, ← hN, hT]
      split <;> simp
    have HR := Lib.hid hR
    have hW := written_any h p L X v w3 j1 hp Hx.out
    unfold WrOut at hW
    rw [hT, ← hN] at hW
    have HW := Lib.hid hW
    have hNl : N.length ≤ 77 := by rw [hN]; exact (enc_len Hx.out hp j1).2
    clear hW hR hT hN k1 k2 hlen
    go_wp2_with fail
    refine HW.out.mono ?_
    clear HW
    rintro e w4 ⟨⟨A4, n4, c4, rfl, rfl, o4⟩, b4⟩
    replace HK := Lib.hid (((HK.out.go b4).own_ o4).box #[.bool th, .int .u64 tp, .int .u8 tl, .int .u8 tb] 24)
    have z4 := b4.size
    clear b4 o4 u0 u1 u2 u3 q0 q1 q2 q3 g0 g1 g2 g3
    obtain ⟨⟨u0, u1, u2, u3⟩, -⟩ := (HK.out.blk 5).quad
    obtain ⟨⟨q0, q1, q2, q3⟩, g0, g1, g2, g3⟩ := (HK.out.blk 6).quad
    obtain ⟨⟨y0, y1, y2, y3⟩, -⟩ := (HK.out.blk 0).quad
    by_cases hl2 : N.length = n
    · subst hl2
      have hc1 : ((N.length : Int) == (N.length : Int)) = true := by simp
      go_wp2_with fail
      obtain ⟨g5, hg5⟩ : ∃ g, g = w4.heap.size := ⟨_, rfl⟩
      obtain ⟨W5, hW5⟩ : ∃ W5, W5 = w4.alloc (.cells #[.bool th, .int .u64 tp, .int .u8 tl, .int .u8 tb] 24) := ⟨_, rfl⟩
      rw [← hW5] at HK ⊢
      rw [← hg5] at HK z4 ⊢
      clear hW5 hg5 u0 u1 u2 u3 q0 q1 q2 q3 g0 g1 g2 g3 y0 y1 y2 y3 hc1
      go_loopw [17] (fun i wr => ∃ k : Nat, k ≤ N.length ∧ i = .int .i64 k ∧ N.take k = ((bitl l m).drop a).take k ∧ Below W5.heap.size W5 wr) (fun i _ => N.length - (intOf i).toNat)
      case atStart => exact ⟨0, Nat.zero_le _, rfl, by simp, Below.refl _ _⟩
      case round =>
        obtain ⟨k, hk, rfl, htk, hbel⟩ := hrel
        replace HK := Lib.hid (HK.out.go hbel)
        have Htk := Lib.hid htk
        have Hbel := Lib.hid hbel
        clear htk hbel
        obtain ⟨⟨v0, v1⟩, -⟩ := (HK.out.blk 4).duo
        obtain ⟨⟨q0, q1, q2, q3⟩, g0, g1, g2, g3⟩ := (HK.out.blk 6).quad
        obtain ⟨⟨y0, y1, y2, y3⟩, -⟩ := (HK.out.blk 0).quad
        rcases Nat.lt_or_ge k N.length with hlt | hge
        · obtain ⟨gN, cN, hv, hbg, hgl, hcap⟩ := (HK.out.own 1).form (by rw [u8s_length]; omega)
          injection hv with e1 e2 e3
          subst e1
          have hcell := (HK.out.own 1).cell k (by rw [u8s_length]; omega)
          rw [u8s_get, show bv (b2u N[k]) = .int .u8 ((b2u N[k]).toNat : Int) from rfl] at hcell
          have hbit := refBit_any A c l (m : Int) (a + k) wr
          have hr := fun (z : More) => ext_of (refBit_any A c l (m : Int) (a + k) (plus wr z) ((HK.out.bs 2).below (plus_below _ _)) (by omega) (by unfold maxLen; omega))
          rw [show bv (b2u (bt l (a + k))) = .int .u8 ((b2u (bt l (a + k))).toNat : Int) from rfl] at hr
          obtain ⟨xk, hxk⟩ : ∃ x, x = (b2u N[k]).toNat := ⟨_, rfl⟩
          obtain ⟨yk, hyk⟩ : ∃ x, x = (b2u (bt l (a + k))).toNat := ⟨_, rfl⟩
          obtain ⟨ak, hak⟩ : ∃ x, x = a + k := ⟨_, rfl⟩
          rw [← hxk] at hcell
          rw [← hyk] at hr
          rw [← hak] at hr
          have hw : IntKind.i64.wrap ((a : Int) + k) = (ak : Int) := by rw [IntKind.wrap_i64]; omega
          have HR2 := Lib.hid hr
          have k0 : 0 ≤ (k : Int) := by omega
          have k1 : (k : Int) < N.length := by omega
          have hbt : ((bitl l m).drop a)[k]? = some (bt l (a + k)) := by
            rw [List.getElem?_drop]
            unfold bitl
            rw [List.getElem?_map, List.getElem?_range (by omega)]
            rfl
          have Hbt := Lib.hid hbt
          have hpc := plus_cell wr
          have Hxk := Lib.hid hxk
          have Hyk := Lib.hid hyk
          clear hr hbit hxk hyk hak hbt
          go_wp2_with fail
          refine wp_region_ext (by kernel_rfl) (by kernel_rfl) ?_
          repeat (go_big_quiet_step ((go_at_call 30; exact HR2.out _)))
          refine wpQuiet_nil ?_
          rintro w6 ⟨x, rfl⟩
          replace HK := Lib.hid (HK.out.go (plus_below wr x))
          clear hpc v0 v1 q0 q1 q2 q3 g0 g1 g2 g3 y0 y1 y2 y3 hcell HR2
          obtain ⟨⟨q0, q1, q2, q3⟩, g0, g1, g2, g3⟩ := (HK.out.blk 6).quad
          replace Hbel := Lib.hid (on1 Hbel.out (plus_below wr x))
          by_cases hxy : xk = yk
          · subst hxy
            have hd : ((xk : Int) == (xk : Int)) = true := by simp
            go_wp2_with fail
            go_roundw
            case measure => simp [intOf]; omega
            case rel =>
              refine ⟨k + 1, hlt, by go_num, ?_, Hbel.out⟩
              have hb : N[k] = bt l (a + k) := by
                have := Hxk.out.symm.trans Hyk.out
                revert this
                cases N[k] <;> cases bt l (a + k) <;> simp [b2u]
              rw [List.take_add_one, List.take_add_one, Htk.out, Hbt.out, List.getElem?_eq_getElem hlt, hb]
          · have hd : ((xk : Int) == (yk : Int)) = false := beq_eq_false_iff_ne.2 (by omega)
            go_wp2_with fail
            have FR := (HK.out.blk 6).set4 (.bool false) (.int .u64 0) (.int .u8 0) (.int .u8 0)
            obtain ⟨⟨s0, s1, s2, s3⟩, -⟩ := FR.quad
            refine bodyPost_ret (v := .tuple #[.int .u64 0, .int .i64 0, .agg #[.bool false, .int .u64 0, .int .u8 0, .int .u8 0], .int .i64 30]) (by simp [results, Tryd.results16, go_sem, s0, s1, s2, s3]) rfl ⟨?_, below_set4 (HK.out.top 3) (by omega) _ _ _ _⟩
            rw [HR.out, if_neg]
            · rfl
            · intro e
              apply hxy
              have h1 : N[k]? = some (bt l (a + k)) := by rw [e, List.getElem?_take_of_lt hlt, Hbt.out]
              rw [List.getElem?_eq_getElem hlt] at h1
              rw [Hxk.out, Hyk.out, Option.some.inj h1]
        · obtain rfl : k = N.length := by omega
          have hR : getX l m ⟨h, p, L, X⟩ a = (v, ((a + N.length : Nat) : Int), ⟨th, tp, tl, tb⟩, 0) := by
            rw [HR.out, if_pos]
            have := Htk.out
            rwa [List.take_length] at this
          obtain ⟨an, han⟩ : ∃ x, x = a + N.length := ⟨_, rfl⟩
          have hw : IntKind.i64.wrap ((a : Int) + N.length) = (an : Int) := by rw [IntKind.wrap_i64]; omega
          rw [← han] at hR
          have HR3 := Lib.hid hR
          have hpc := plus_cell wr
          clear hR han
          go_wp2_with fail
          refine wp_region_tail_ext 7 (by kernel_rfl) (by kernel_rfl) ?_
          simp only [List.take_succ_cons, List.take_zero, List.drop_succ_cons, List.drop_zero]
          repeat (go_big_quiet_step (fail))
          refine wpQuiet_nil ?_
          rintro w6 ⟨x, rfl⟩
          replace HK := Lib.hid (HK.out.go (plus_below wr x))
          clear hpc v0 v1 q0 q1 q2 q3 g0 g1 g2 g3 y0 y1 y2 y3
          obtain ⟨⟨q0, q1, q2, q3⟩, g0, g1, g2, g3⟩ := (HK.out.blk 6).quad
          go_wp2_with fail
          have FR := (HK.out.blk 6).set4 (.bool th) (.int .u64 tp) (.int .u8 tl) (.int .u8 tb)
          obtain ⟨⟨s0, s1, s2, s3⟩, -⟩ := FR.quad
          refine bodyPost_ret (v := .tuple #[.int .u64 v, .int .i64 an, .agg #[.bool th, .int .u64 tp, .int .u8 tl, .int .u8 tb], .int .i64 0]) (by simp [results, Tryd.results16, go_sem, s0, s1, s2, s3]) rfl ⟨?_, below_set4 (HK.out.top 3) (by omega) _ _ _ _⟩
          rw [HR3.out]
          rfl
    · have hc1 : ((N.length : Int) == (n : Int)) = false := beq_eq_false_iff_ne.2 (by omega)
      go_wp2_with fail
      have FR := (HK.out.blk 6).set4 (.bool false) (.int .u64 0) (.int .u8 0) (.int .u8 0)
      obtain ⟨⟨s0, s1, s2, s3⟩, -⟩ := FR.quad
      refine bodyPost_ret (v := .tuple #[.int .u64 0, .int .i64 0, .agg #[.bool false, .int .u64 0, .int .u8 0, .int .u8 0], .int .i64 30]) (by simp [results, Tryd.results16, go_sem, s0, s1, s2, s3]) rfl ⟨?_, below_set4 (HK.out.top 3) (by omega) _ _ _ _⟩
      rw [HR.out, if_neg (fun e => hl2 (by rw [e, List.length_take, List.length_drop, bitl_length]; omega))]
      rfl
  · have h0' : ((ec : Int) == 0) = false := beq_eq_false_iff_ne.2 (by omega)
    go_wp2_with fail
    have FR := (HK.out.blk 4).set4 (.bool false) (.int .u64 0) (.int .u8 0) (.int .u8 0)
    obtain ⟨⟨s0, s1, s2, s3⟩, -⟩ := FR.quad
    refine bodyPost_ret (v := .tuple #[.int .u64 0, .int .i64 0, .agg #[.bool false, .int .u64 0, .int .u8 0, .int .u8 0], .int .i64 ec]) (by simp [results, Tryd.results16, go_sem, s0, s1, s2, s3]) rfl ⟨?_, below_set4 (HK.out.top 1) (by omega) _ _ _ _⟩
    rw [HE.out, HV.out, if_pos (by rw [← Hec.out]; exact h0), ← Hec.out]
    simp [GetOut, xv0, h0]

end Go.Proofs.YtfooggamdbdniaaDoor

/- Contracts of the document's own functions of layer 1: Same. -/
namespace Go.Proofs.YtfooggamdbdniaaDoor
open Go.RowKit

set_option maxHeartbeats 400000 in
theorem refSame_any (A A' : Option Addr) (c c' : Nat) (l l' : List UInt8) (n n' : Int) (w : World) (hb : Bs w A l) (hb' : Bs w A' l') :
    Calls Tryd.prog 14 #[.agg #[.slice A l.length c, .int .i64 n], .agg #[.slice A' l'.length c', .int .i64 n']] w fun e w' => e = .returned (.bool (decide (n = n') && decide (l = l'))) ∧ Below w.heap.size w w' := by
  by_cases h : n = n'
  · subst h
    have h1 := str_of (hb.below (below_alloc2 w (.cells #[.slice A l.length c, .int .i64 n] 29) (.cells #[.slice A' l'.length c', .int .i64 n] 29))) c
    have h2 := str_of (hb'.below (below_alloc2 w (.cells #[.slice A l.length c, .int .i64 n] 29) (.cells #[.slice A' l'.length c', .int .i64 n] 29))) c'
    have hs := str_eq l l'
    have HS := Lib.hid hs
    clear hs
    go_enter Tryd.func14, Tryd.ntmps14
    go_wp2
    go_ret
    exact ⟨ret_bool (by rw [← HS.out]; simp), below_alloc2 _ _ _⟩
  · have hd : (n == n') = false := by simpa using h
    go_enter Tryd.func14, Tryd.ntmps14
    go_wp2
    go_ret
    exact ⟨ret_bool (by simp [h]), below_alloc2 _ _ _⟩

end Go.Proofs.YtfooggamdbdniaaDoor

/- Layer 3: the document's Get of any bits at any place; XorGets, XorOnly. -/
namespace Go.Proofs.YtfooggamdbdniaaDoor
open Go.RowKit

set_option maxRecDepth 100000 in
set_option maxHeartbeats 1000000 in
theorem rxget_any (A : Option Addr) (c : Nat) (l : List UInt8) (n at_ : Int) (h : Bool) (p L X : Nat) (w : World) (hb : Bs w A l) (hn : -9223372036854775808 ≤ n ∧ n ≤ 9223372036854775807) (hl : l.length ≤ 100000) (ha : -9223372036854775808 ≤ at_ ∧ at_ ≤ 9223372036854775807) (hp : p < 18446744073709551616) (hL : L < 256) (hX : X < 256) :
    Calls Tryd.prog 16 #[.agg #[.slice A l.length c, .int .i64 n], .int .i64 at_, .agg #[.bool h, .int .u64 p, .int .u8 L, .int .u8 X]] w fun e w' => e = GetOut (getX l n ⟨h, p, L, X⟩ at_) .i64 ∧ Below w.heap.size w w' := by
  by_cases hin : soundB l n = true ∧ soundX ⟨h, p, L, X⟩ = true ∧ 0 ≤ at_ ∧ at_ ≤ n
  · obtain ⟨h1, h2, h3, h4⟩ := hin
    obtain ⟨m, rfl, -, -⟩ := sound_nat h1
    obtain ⟨a, rfl⟩ := Int.eq_ofNat_of_zero_le h3
    exact rxget_in A c l m a h p L X w hb h1 h2 hl (by omega) hp hL hX
  · have K := (Ks.three w #[.slice A l.length c, .int .i64 n] #[.bool h, .int .u64 p, .int .u8 L, .int .u8 X] #[.bool false, .int .u64 0, .int .u8 0, .int .u8 0] 29 24 24).bs_ (hb.below (Ks.three w _ _ _ _ _ _ |>.top 0))
    have Hin := Lib.hid hin
    clear hin
    go_enter Tryd.func16, Tryd.ntmps16
    go_wp2_with fail
    generalize (((w.alloc (.cells #[.slice A l.length c, .int .i64 n] 29)).alloc (.cells #[.bool h, .int .u64 p, .int .u8 L, .int .u8 X] 24)).alloc (.cells #[.bool false, .int .u64 0, .int .u8 0, .int .u8 0] 24)) = W0 at *
    have HK := Lib.hid K
    clear K hb
    refine (refSound_any A c l n W0 (HK.out.bs 0) (by omega) (by omega)).mono ?_
    rintro e w1 ⟨rfl, b1⟩
    replace HK := Lib.hid (HK.out.go b1)
    clear b1
    obtain ⟨⟨u0, u1, u2, u3⟩, -⟩ := (HK.out.blk 3).quad
    obtain ⟨⟨q0, q1, q2, q3⟩, g0, g1, g2, g3⟩ := (HK.out.blk 4).quad
    cases hs : soundB l n
    · have Hs := Lib.hid hs
      clear hs
      go_wp2_with fail
      have FR := (HK.out.blk 4).set4 (.bool false) (.int .u64 0) (.int .u8 0) (.int .u8 0)
      obtain ⟨⟨s0, s1, s2, s3⟩, -⟩ := FR.quad
      refine bodyPost_ret (v := .tuple #[.int .u64 0, .int .i64 0, .agg #[.bool false, .int .u64 0, .int .u8 0, .int .u8 0], .int .i64 11]) (by simp [results, Tryd.results16, go_sem, s0, s1, s2, s3]) rfl ⟨?_, below_set4 (HK.out.top 1) (by omega) _ _ _ _⟩
      unfold getX
      rw [if_pos Hs.out]
      rfl
    · obtain ⟨m, rfl, hm8, -⟩ := sound_nat hs
      have Hs := Lib.hid hs
      clear hs
      go_wp2_with fail
      refine (rxsound_any h p L X _ hL hX).mono ?_
      rintro e w2 ⟨rfl, b2⟩
      replace HK := Lib.hid (HK.out.go b2)
      clear b2 u0 u1 u2 u3 q0 q1 q2 q3 g0 g1 g2 g3
      obtain ⟨⟨v0, v1⟩, -⟩ := (HK.out.blk 2).duo
      obtain ⟨⟨q0, q1, q2, q3⟩, g0, g1, g2, g3⟩ := (HK.out.blk 4).quad
      cases hx : soundX ⟨h, p, L, X⟩
      · have Hx := Lib.hid hx
        clear hx
        go_wp2_with fail
        have FR := (HK.out.blk 4).set4 (.bool false) (.int .u64 0) (.int .u8 0) (.int .u8 0)
        obtain ⟨⟨s0, s1, s2, s3⟩, -⟩ := FR.quad
        refine bodyPost_ret (v := .tuple #[.int .u64 0, .int .i64 0, .agg #[.bool false, .int .u64 0, .int .u8 0, .int .u8 0], .int .i64 30]) (by simp [results, Tryd.results16, go_sem, s0, s1, s2, s3]) rfl ⟨?_, below_set4 (HK.out.top 1) (by omega) _ _ _ _⟩
        unfold getX
        rw [if_neg (by rw [Hs.out]; decide), if_pos Hx.out]
        rfl
      · have ho : at_ < 0 ∨ (m : Int) < at_ := by
          by_cases h1 : at_ < 0
          · exact Or.inl h1
          · by_cases h2 : (m : Int) < at_
            · exact Or.inr h2
            · exact absurd ⟨Hs.out, hx, by omega, by omega⟩ Hin.out
        have hX2 := Lib.hid (getX_out Hs.out hx ho)
        clear hx
        rcases (show decide (at_ < 0) = true ∨ (decide (at_ < 0) = false ∧ decide ((m : Int) < at_) = true) by
          rcases ho with h1 | h1
          · exact Or.inl (by simpa using h1)
          · by_cases h2 : at_ < 0
            · exact Or.inl (by simpa using h2)
            · exact Or.inr ⟨by simp; omega, by simpa using h1⟩) with d1 | ⟨d1, d2⟩
        all_goals
          clear ho
          go_wp2_with fail
          have FR := (HK.out.blk 4).set4 (.bool false) (.int .u64 0) (.int .u8 0) (.int .u8 0)
          obtain ⟨⟨s0, s1, s2, s3⟩, -⟩ := FR.quad
          refine bodyPost_ret (v := .tuple #[.int .u64 0, .int .i64 0, .agg #[.bool false, .int .u64 0, .int .u8 0, .int .u8 0], .int .i64 10]) (by simp [results, Tryd.results16, go_sem, s0, s1, s2, s3]) rfl ⟨?_, below_set4 (HK.out.top 1) (by omega) _ _ _ _⟩
          rw [hX2.out]
          rfl

theorem getX_code (l : List UInt8) (n : Int) (s : XV) (a : Int) : (getX l n s a).2.2.2 ≤ 30 := by
  unfold getX
  split
  · simp
  · split
    · simp
    · split
      · simp
      · simp only [decI]
        split
        · simp
        · exact decD_ok _ _

set_option maxRecDepth 100000 in
set_option maxHeartbeats 1000000 in
theorem xorGets_walk (A : Option Addr) (c : Nat) (l : List UInt8) (n at_ : Int) (h : Bool) (p L X : Nat) (w : World) (hb : Bs w A l) (hn : -9223372036854775808 ≤ n ∧ n ≤ 9223372036854775807) (hl : l.length ≤ maxLen) (ha : -9223372036854775808 ≤ at_ ∧ at_ ≤ 9223372036854775807)
    (hp : p < 18446744073709551616) (hL : L < 256) (hX : X < 256) (hT : Tab w) :
    Calls Tryd.prog 5 #[.agg #[.slice A l.length c, .int .i64 n], .int .i64 at_, .agg #[.bool h, .int .u64 p, .int .u8 L, .int .u8 X]] w fun e w' => e = .returned (.bool true) ∧ Below w.heap.size w w' := by
  have K := ((Ks.two w #[.slice A l.length c, .int .i64 n] #[.bool h, .int .u64 p, .int .u8 L, .int .u8 X] 29 24)).bs_ (hb.below (Ks.two w _ _ _ _ |>.top 0)) |>.tab_ (tabGo hT (Ks.two w _ _ _ _ |>.top 0))
  have HK := Lib.hid K
  obtain ⟨⟨v0, v1⟩, -⟩ := (HK.out.blk 3).duo
  clear K hb hT
  unfold maxLen at hl
  by_cases hlen : 500 < l.length
  · have hI : (500 : Int) < l.length := by omega
    go_enter Tryd.func5, Tryd.ntmps5
    go_wp2_with fail
    refine (xknown_any _ (HK.out.tab 0)).mono ?_
    rintro e w1 ⟨rfl, b1⟩
    replace HK := Lib.hid (HK.out.go b1)
    clear b1
    go_wp2_with fail
    go_ret
    exact ⟨rfl, HK.out.top 2⟩
  · have hI : ¬ (500 : Int) < l.length := by omega
    obtain ⟨v, nx, th, tp, tl, tb, ec, hP⟩ : ∃ v nx th tp tl tb ec, getX l n ⟨h, p, L, X⟩ at_ = (v, nx, ⟨th, tp, tl, tb⟩, ec) := ⟨_, _, _, _, _, _, _, rfl⟩
    have hec : ec ≤ 30 := by have := getX_code l n ⟨h, p, L, X⟩ at_; rw [hP] at this; exact this
    have hwr : IntKind.i64.wrap (ec : Int) = (ec : Int) := by rw [IntKind.wrap_i64]; omega
    have HP := Lib.hid hP
    clear hP
    go_enter Tryd.func5, Tryd.ntmps5
    go_wp2_with fail
    generalize (w.alloc (.cells #[.slice A l.length c, .int .i64 n] 29)).alloc (.cells #[.bool h, .int .u64 p, .int .u8 L, .int .u8 X] 24) = W0 at *
    refine (xknown_any _ (HK.out.tab 0)).mono ?_
    rintro e w1 ⟨rfl, b1⟩
    replace HK := Lib.hid (HK.out.go b1)
    clear b1 v0 v1
    obtain ⟨⟨v0, v1⟩, -⟩ := (HK.out.blk 3).duo
    obtain ⟨⟨u0, u1, u2, u3⟩, -⟩ := (HK.out.blk 4).quad
    go_wp2_with fail
    refine (xget_any A c l n at_ h p L X w1 (HK.out.bs 1) hn (by omega) ha hp hL hX (HK.out.tab 0)).mono ?_
    rintro e w2 ⟨rfl, b2⟩
    rw [HP.out]
    simp only
    replace HK := Lib.hid ((HK.out.go b2).box #[.bool th, .int .u64 tp, .int .u8 tl, .int .u8 tb] 24)
    have z2 := b2.size
    clear b2 v0 v1 u0 u1 u2 u3
    obtain ⟨⟨v0, v1⟩, -⟩ := (HK.out.blk 4).duo
    obtain ⟨⟨u0, u1, u2, u3⟩, -⟩ := (HK.out.blk 5).quad
    go_wp2_with fail
    refine (rxget_any A c l n at_ h p L X _ (HK.out.bs 2) hn (by omega) ha hp hL hX).mono ?_
    rintro e w3 ⟨rfl, b3⟩
    rw [HP.out]
    unfold GetOut
    simp only
    replace HK := Lib.hid ((HK.out.go b3).box #[.bool th, .int .u64 tp, .int .u8 tl, .int .u8 tb] 24)
    have z3 := b3.size
    simp only [World.size_alloc] at z3
    clear b3 v0 v1 u0 u1 u2 u3
    obtain ⟨⟨u0, u1, u2, u3⟩, -⟩ := (HK.out.blk 1).quad
    obtain ⟨⟨y0, y1, y2, y3⟩, -⟩ := (HK.out.blk 0).quad
    go_wp2_with fail
    go_ret
    exact ⟨by simp, HK.out.top 4⟩

theorem getX_cases (l : List UInt8) (n : Int) {s : XV} (hp : s.prev < 18446744073709551616) (a : Int) :
    (∃ ec, ec ≠ 0 ∧ getX l n s a = (0, 0, xv0, ec)) ∨ (∃ (m b v k : Nat) (t : XV), n = m ∧ a = b ∧ soundB l (m : Int) = true ∧ soundX s = true ∧ b + k ≤ m ∧ getX l n s a = (v, ((b + k : Nat) : Int), t, 0) ∧ encX s v = (((bitl l m).drop b).take k, t) ∧ v < 18446744073709551616 ∧ k ≤ 77 ∧ decX s ((bitl l m).drop b) = (v, k, t, 0)) := by
  cases hs : soundB l n
  · exact Or.inl ⟨11, by decide, by unfold getX; rw [if_pos hs]⟩
  · cases hx : soundX s
    · exact Or.inl ⟨30, by decide, by unfold getX; rw [if_neg (by rw [hs]; decide), if_pos hx]⟩
    · obtain ⟨m, rfl, -, -⟩ := sound_nat hs
      by_cases ho : a < 0 ∨ (m : Int) < a
      · exact Or.inl ⟨10, by decide, getX_out hs hx ho⟩
      · obtain ⟨b, rfl⟩ := Int.eq_ofNat_of_zero_le (show 0 ≤ a by omega)
        have hg := getX_dec (a := b) hs hx (by omega)
        obtain ⟨v, k, t, c, hd⟩ : ∃ v k t c, decX s ((bitl l m).drop b) = (v, k, t, c) := ⟨_, _, _, _, rfl⟩
        rw [hd] at hg
        simp only at hg
        by_cases hc : c = 0
        · subst hc
          obtain ⟨h1, h2, h3, h4, h5⟩ := dec_only hx hp hd
          rw [List.length_drop, bitl_length] at h1
          exact Or.inr ⟨m, b, v, k, t, rfl, rfl, hs, rfl, by omega, by simpa using hg, h2, h3, h5, hd⟩
        · rcases val_cases hx hp ((bitl l m).drop b) with ⟨h1, -⟩ | ⟨h1, h2, -⟩
          · rw [hd] at h1; exact absurd h1 hc
          · rw [hd] at h2
            simp only [Prod.mk.injEq] at h2
            obtain ⟨rfl, rfl, rfl, -⟩ := h2
            exact Or.inl ⟨c, hc, by rw [hg, if_neg hc]⟩

set_option maxRecDepth 100000 in
set_option maxHeartbeats 1000000 in
theorem xorOnly_walk (A : Option Addr) (c : Nat) (l : List UInt8) (n at_ : Int) (h : Bool) (p L X : Nat) (w : World) (hb : Bs w A l) (hn : -9223372036854775808 ≤ n ∧ n ≤ 9223372036854775807) (hl : l.length ≤ maxLen) (ha : -9223372036854775808 ≤ at_ ∧ at_ ≤ 9223372036854775807)
    (hp : p < 18446744073709551616) (hL : L < 256) (hX : X < 256) (hT : Tab w) :
    Calls Tryd.prog 7 #[.agg #[.slice A l.length c, .int .i64 n], .int .i64 at_, .agg #[.bool h, .int .u64 p, .int .u8 L, .int .u8 X]] w fun e w' => e = .returned (.bool true) ∧ Below w.heap.size w w' := by
  have K := ((Ks.two w #[.slice A l.length c, .int .i64 n] #[.bool h, .int .u64 p, .int .u8 L, .int .u8 X] 29 24)).bs_ (hb.below (Ks.two w _ _ _ _ |>.top 0)) |>.tab_ (tabGo hT (Ks.two w _ _ _ _ |>.top 0))
  have HK := Lib.hid K
  obtain ⟨⟨v0, v1⟩, -⟩ := (HK.out.blk 3).duo
  clear K hb hT
  unfold maxLen at hl
  by_cases hlen : 500 < l.length
  · have hI : (500 : Int) < l.length := by omega
    go_enter Tryd.func7, Tryd.ntmps7
    go_wp2_with fail
    refine (xknown_any _ (HK.out.tab 0)).mono ?_
    rintro e w1 ⟨rfl, b1⟩
    replace HK := Lib.hid (HK.out.go b1)
    clear b1
    go_wp2_with fail
    go_ret
    exact ⟨rfl, HK.out.top 2⟩
  · have hI : ¬ (500 : Int) < l.length := by omega
    have HC := Lib.hid (getX_cases l n (s := ⟨h, p, L, X⟩) hp at_)
    go_enter Tryd.func7, Tryd.ntmps7
    go_wp2_with fail
    generalize (w.alloc (.cells #[.slice A l.length c, .int .i64 n] 29)).alloc (.cells #[.bool h, .int .u64 p, .int .u8 L, .int .u8 X] 24) = W0 at *
    refine (xknown_any _ (HK.out.tab 0)).mono ?_
    rintro e w1 ⟨rfl, b1⟩
    replace HK := Lib.hid (HK.out.go b1)
    clear b1 v0 v1
    obtain ⟨⟨v0, v1⟩, -⟩ := (HK.out.blk 3).duo
    obtain ⟨⟨u0, u1, u2, u3⟩, -⟩ := (HK.out.blk 4).quad
    go_wp2_with fail
    refine (xget_any A c l n at_ h p L X w1 (HK.out.bs 1) hn (by omega) ha hp hL hX (HK.out.tab 0)).mono ?_
    rintro e w2 ⟨rfl, b2⟩
    have HG := Lib.hid ((HK.out.go b2))
    have z2 := b2.size
    clear v0 v1 u0 u1 u2 u3
    rcases HC.out with ⟨ec, he, hP⟩ | ⟨m, b, v, k, ⟨th, tp, tl, tb⟩, rfl, rfl, hs, hx, hbk, hP, hE, hv, hk, hd⟩
    · rw [hP]
      simp only [xv0]
      replace HK := Lib.hid ((HK.out.go b2).box #[.bool false, .int .u64 0, .int .u8 0, .int .u8 0] 24)
      have he2 : ((ec : Int) == 0) = false := beq_eq_false_iff_ne.2 (by omega)
      clear b2 HC hP HG
      obtain ⟨⟨y0, y1, y2, y3⟩, -⟩ := (HK.out.blk 0).quad
      go_wp2_with fail
      go_ret
      exact ⟨by simp, HK.out.top 3⟩
    · rw [hP]
      simp only
      replace HK := Lib.hid ((HK.out.go b2).box #[.bool th, .int .u64 tp, .int .u8 tl, .int .u8 tb] 24)
      obtain ⟨N, hN⟩ : ∃ N, N = ((bitl l m).drop b).take k := ⟨_, rfl⟩
      have hNl : N.length = k := by rw [hN, List.length_take, List.length_drop, bitl_length]; omega
      have hcut : cutl l b k = N := by rw [hN, cutl_bitl l m b k hbk]
      obtain ⟨-, e1, e2, -⟩ := enc_sound hx hp hv
      rw [hE] at e1 e2
      have e1 : tp = v := e1
      have e2 : th = true := e2
      subst e1 e2
      rw [← hN] at hE
      have HE := Lib.hid hE
      have Hs := Lib.hid hs
      have Hx := Lib.hid hx
      have HN := Lib.hid hNl
      have Hcut := Lib.hid hcut
      obtain ⟨bk, hbk2⟩ : ∃ x, x = b + k := ⟨_, rfl⟩
      rw [← hbk2] at hbk ⊢
      have Hbk := Lib.hid hbk2
      clear b2 HC hP HG hs hx hE hN hNl hcut hd hbk2
      obtain ⟨⟨v0, v1⟩, -⟩ := (HK.out.blk 4).duo
      obtain ⟨⟨u0, u1, u2, u3⟩, -⟩ := (HK.out.blk 5).quad
      have hC := xput_M none 0 [] N h p L X tp ⟨true, tp, tl, tb⟩ (w2.alloc (.cells #[.bool true, .int .u64 tp, .int .u8 tl, .int .u8 tb] 24)) HE.out Hx.out (Bs.nil _ _) (by simp) hv hp (HK.out.tab 1)
      rw [show ([] : List Bool) ++ N = N from rfl] at hC
      have HP := Lib.hid hC
      clear hC
      go_wp2_with fail
      refine HP.out.mono ?_
      rintro e w3 ⟨A3, c3, rfl, o3, b3⟩
      have hbx := Ks.box (((HK.out.go b3).own_ o3).box #[.slice A3 (pack N).length c3, .int .i64 N.length] 29) #[.bool true, .int .u64 tp, .int .u8 tl, .int .u8 tb] 24
      simp only [World.size_alloc] at hbx
      replace HK := Lib.hid hbx
      have z3 := b3.size
      simp only [World.size_alloc] at z3
      clear b3 v0 v1 u0 u1 u2 u3 hbx o3 HP
      obtain ⟨⟨v0, v1⟩, -⟩ := (HK.out.blk 7).duo
      go_wp2_with fail
      refine (refCut_ok A c l m b bk _ (HK.out.bs 5) (by omega) Hs.out (by have := Hbk.out; omega) hbk).mono ?_
      rintro e w4 ⟨A4, c4, rfl, o4, b4⟩
      rw [show bk - b = k by have := Hbk.out; omega] at o4 ⊢
      rw [Hcut.out] at o4 ⊢
      replace HK := Lib.hid (((HK.out.go b4).own_ o4).box #[.slice A4 (pack N).length c4, .int .i64 k] 29)
      have z4 := b4.size
      simp only [World.size_alloc] at z4
      clear b4 v0 v1 o4
      obtain ⟨⟨f0, f1⟩, -⟩ := (HK.out.blk 0).duo
      obtain ⟨⟨u0, u1, u2, u3⟩, -⟩ := (HK.out.blk 2).quad
      obtain ⟨⟨v0, v1⟩, -⟩ := (HK.out.blk 3).duo
      obtain ⟨⟨y0, y1, y2, y3⟩, -⟩ := (HK.out.blk 5).quad
      go_wp2_with fail
      refine (refSame_any A3 A4 c3 c4 (pack N) (pack N) N.length k _ (HK.out.own 4).bs (HK.out.own 1).bs).mono ?_
      rintro e w5 ⟨rfl, b5⟩
      replace HK := Lib.hid (HK.out.go b5)
      clear f0 f1 u0 u1 u2 u3 v0 v1 y0 y1 y2 y3 b5
      obtain ⟨⟨y0, y1, y2, y3⟩, -⟩ := (HK.out.blk 5).quad
      have hq : (decide ((N.length : Int) = (k : Int)) && decide (pack N = pack N)) = true := by rw [HN.out]; simp
      rw [hq]
      go_wp2_with fail
      go_ret
      exact ⟨by simp, HK.out.top 8⟩

end Go.Proofs.YtfooggamdbdniaaDoor
