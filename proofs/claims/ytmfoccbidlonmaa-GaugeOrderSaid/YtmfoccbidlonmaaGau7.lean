/- GaugeOrder. -/
import Derived.Test.YtmfoccbidlonmaaGau6
namespace Go.Proofs.Ytmfoccbidlonmaa
open Go.RowKit Go.Maps Go.ChangeMaps Go.MapKept Go.WideMaps

/-- how often a place is said -/
def cnt (m : List UInt8) (i : Nat) : Nat := (m.filter fun x => x.toNat == i).length
theorem cnt_append (a b : List UInt8) (i : Nat) : cnt (a ++ b) i = cnt a i + cnt b i := by unfold cnt; rw [List.filter_append, List.length_append]
theorem cnt_one (x : UInt8) (i : Nat) : cnt [x] i = if x.toNat = i then 1 else 0 := by
  unfold cnt
  by_cases h : x.toNat = i
  · have hb : (x.toNat == i) = true := by rw [beq_iff_eq]; exact h
    simp only [List.filter, hb, if_pos h]; rfl
  · have hb : (x.toNat == i) = false := by rw [beq_eq_false_iff_ne]; exact h
    simp only [List.filter, hb, if_neg h]; rfl
theorem cnt_le (m : List UInt8) (i : Nat) : cnt m i ≤ m.length := List.length_filter_le _ _
theorem nix_nil : nix [] = none := by decide
theorem cup_at (c : List Nat) (b : Nat) (hl : c.length = 11) (i : Nat) (hi : i < 11) : (cup c (nameL [] b)).getD i 0 = if b = i then up1 (c.getD i 0) else c.getD i 0 := by
  unfold nameL
  by_cases hb : b < 11
  · rw [if_pos hb]
    unfold cup
    rw [name_at hb]
    show (c.set b (up1 (c.getD b 0))).getD i 0 = _
    rw [List.getD_eq_getElem?_getD, List.getElem?_set]
    by_cases h : b = i
    · subst h
      rw [if_pos rfl, if_pos (by omega), if_pos rfl]; rfl
    · rw [if_neg h, if_neg h, ← List.getD_eq_getElem?_getD]
  · rw [if_neg hb, if_neg (by omega)]
    unfold cup
    rw [nix_nil]
theorem cval_at (c : List Nat) {k : Nat} (hk : k < 11) : cval c (NM.getD k []) = c.getD k 0 := by unfold cval; rw [name_at hk]
theorem cis_at {k : Nat} (hk : k < 11) : cis (NM.getD k []) = true := by unfold cis; rw [name_at hk]; rfl
theorem drop_back (m : List UInt8) (k q : Nat) (hk : k < m.length) (hq : q = m.length - 1 - k) : m.drop (m.length - (k + 1)) = m[q]'(by omega) :: m.drop (m.length - k) := by
  subst hq
  have e : m.length - (k + 1) = m.length - 1 - k := by omega
  rw [e, List.drop_eq_getElem_cons (by omega)]
  congr 2
  omega

set_option maxRecDepth 100000 in
set_option maxHeartbeats 4000000 in
theorem gaugeOrder_small (B : Option Addr) (d : Nat) (m : List UInt8) (w : World) (hm : Bs w B m) (h1 : m.length ≤ 100) :
    Calls Try.prog 14 #[.slice B m.length d] w fun e w' => e = .returned (.bool true) ∧ Below w.heap.size w w' := by
  have d3 : decide ((100 : Int) < m.length) = false := by simp; omega
  have d4 : decide (100 < m.length) = false := by simp; omega
  go_enter Try.func14, Try.ntmps14
  go_wp2_with fail
  refine (gKnown_any _).mono ?_
  rintro e w1 ⟨rfl, hb1⟩
  go_wp2_with fail
  refine (gNew_any _).mono ?_
  rintro e w2 ⟨rfl, hG, hb2⟩
  have t2 := on hb1 hb2
  have hg : w.heap.size ≤ w1.heap.size := hb1.size
  have hg2 := hG.lt
  go_wp2_with fail
  refine (gNew_any _).mono ?_
  rintro e w3 ⟨rfl, hR, hb3⟩
  have G3 := hG.below hb3
  have hg3 := hR.lt
  have t3 := on t2 hb3
  clear hG hb2 hb3 t2 hb1
  go_wp2_with fail
  go_loopw [5] (fun i wr => ∃ (k : Nat) (ca cb : List Nat), k ≤ m.length ∧ i = .int .i64 k ∧ GG wr w1.heap.size ca ∧ GG wr w2.heap.size cb ∧ Below w.heap.size w wr ∧
      Hid (ca.sum ≤ k ∧ cb.sum ≤ k ∧ (∀ i, i < 11 → ca.getD i 0 = cnt (m.take k) i) ∧ (∀ i, i < 11 → cb.getD i 0 = cnt (m.drop (m.length - k)) i))) (fun i _ => m.length - (intOf i).toNat)
  case atStart =>
    refine ⟨0, _, _, Nat.zero_le _, rfl, G3, hR, t3, Lib.hid ⟨by decide, by decide, fun i hi => ?_, fun i hi => ?_⟩⟩
    · rw [List.getD_eq_getElem?_getD, List.getElem?_replicate, if_pos hi]; rfl
    · rw [List.getD_eq_getElem?_getD, List.getElem?_replicate, if_pos hi, Nat.sub_zero, List.drop_length]; rfl
  case round =>
    obtain ⟨k, ca, cb, hk, rfl, GA, GB, hbel, HC⟩ := hrel
    by_cases hlt : k < m.length
    · obtain ⟨q, hq⟩ : ∃ q, q = m.length - 1 - k := ⟨_, rfl⟩
      have hql : q < m.length := by omega
      obtain ⟨l1, hl1⟩ : ∃ l1, l1 = m.length - 1 := ⟨_, rfl⟩
      have e1 : (m.length : Int) - 1 = (l1 : Int) := by omega
      have e2 : (l1 : Int) - (k : Int) = (q : Int) := by omega
      have e3 : IntKind.i64.wrap ((m.length : Int) - 1) = (l1 : Int) := by rw [IntKind.wrap_i64]; omega
      have e4 : IntKind.i64.wrap ((l1 : Int) - (k : Int)) = (q : Int) := by rw [IntKind.wrap_i64]; omega
      have q0 : 0 ≤ (q : Int) := by omega
      have q1 : (q : Int) < m.length := by omega
      have hmr := hm.below hbel
      obtain ⟨p2, o2, rfl, c2⟩ := hmr k m[k] (List.getElem?_eq_getElem hlt)
      have hb8 := (m[k]).toNat_lt
      unfold bv at c2
      have hnx : m.take (k + 1) = m.take k ++ [m[k]] := List.take_succ_eq_append_getElem hlt
      have hnd := drop_back m k q hlt hq
      obtain ⟨xb, hxb⟩ : ∃ x, x = m[k] := ⟨_, rfl⟩
      obtain ⟨yb, hyb⟩ : ∃ y, y = m[q] := ⟨_, rfl⟩
      have hy8 := (m[q]).toNat_lt
      rw [← hxb] at c2 hb8 hnx
      rw [← hyb] at hnd hy8
      have hca : ∀ i, i < 11 → (cup ca (nameL [] xb.toNat)).getD i 0 = cnt (m.take (k + 1)) i := fun i hi => by
        obtain ⟨_, _, h3, _⟩ := HC.out
        have hle := cnt_le (m.take k) i
        rw [List.length_take] at hle
        rw [cup_at ca _ GA.1 i hi, hnx, cnt_append, cnt_one, h3 i hi]
        unfold up1
        split <;> omega
      have hcb : ∀ i, i < 11 → (cup cb (nameL [] yb.toNat)).getD i 0 = cnt (m.drop (m.length - (k + 1))) i := fun i hi => by
        obtain ⟨_, _, _, h4⟩ := HC.out
        have hle := cnt_le (m.drop (m.length - k)) i
        rw [List.length_drop] at hle
        have h5 : cnt (yb :: m.drop (m.length - k)) i = cnt [yb] i + cnt (m.drop (m.length - k)) i := cnt_append [yb] _ i
        rw [cup_at cb _ GB.1 i hi, hnd, h5, cnt_one, h4 i hi]
        unfold up1
        split <;> omega
      have hsa := cup_sum ca (nameL [] xb.toNat) GA.1 (by have := HC.out.1; omega)
      have hsb := cup_sum cb (nameL [] yb.toNat) GB.1 (by have := HC.out.2.1; omega)
      have hsa2 : (cup ca (nameL [] xb.toNat)).sum ≤ k + 1 := by
        have := HC.out.1
        rw [hsa]; split <;> omega
      have hsb2 : (cup cb (nameL [] yb.toNat)).sum ≤ k + 1 := by
        have := HC.out.2.1
        rw [hsb]; split <;> omega
      have hnl := nameL_len (s := []) (Nat.zero_le _) xb.toNat
      have hnl2 := nameL_len (s := []) (Nat.zero_le _) yb.toNat
      have HN : Hid ((cup ca (nameL [] xb.toNat)).sum ≤ k + 1 ∧ (cup cb (nameL [] yb.toNat)).sum ≤ k + 1 ∧ (∀ i, i < 11 → (cup ca (nameL [] xb.toNat)).getD i 0 = cnt (m.take (k + 1)) i) ∧ (∀ i, i < 11 → (cup cb (nameL [] yb.toNat)).getD i 0 = cnt (m.drop (m.length - (k + 1))) i)) := Lib.hid ⟨hsa2, hsb2, hca, hcb⟩
      have Hyb := Lib.hid hyb
      clear hca hcb hsa hsb hsa2 hsb2 hnx hnd hxb hyb hq hl1 hmr
      obtain ⟨xn, hxn⟩ : ∃ xn, xn = xb.toNat := ⟨_, rfl⟩
      obtain ⟨yn, hyn⟩ : ∃ yn, yn = yb.toNat := ⟨_, rfl⟩
      rw [← hxn] at c2 hb8 HN hnl
      rw [← hyn] at hy8 HN hnl2
      have hname := fun w => name_any [] xn w hb8
      have hname2 := fun w => name_any [] yn w hy8
      obtain ⟨x, hx⟩ : ∃ x, x = nameL [] xn := ⟨_, rfl⟩
      obtain ⟨y, hy⟩ : ∃ y, y = nameL [] yn := ⟨_, rfl⟩
      rw [← hx] at hnl hname HN
      rw [← hy] at hnl2 hname2 HN
      have Hnl := Lib.hid hnl
      have Hnl2 := Lib.hid hnl2
      have Hname := Lib.hid hname
      have Hname2 := Lib.hid hname2
      have Hyn : Hid (yn = yb.toNat) := Lib.hid hyn
      clear hnl hnl2 hname hname2 hx hy hxn hyn hb8 hy8
      go_wp2_with fail
      refine (Hname.out _).mono ?_
      rintro e w7 ⟨rfl, hb7⟩
      have A7 := GA.below hb7
      have B7 := GB.below hb7
      have t7 := on1 hbel hb7
      clear GA GB hbel hb7 c2
      obtain ⟨cs2, K7⟩ := A7.blk
      go_wp2_with fail
      refine (count_any _ _ x _ A7 Hnl.out).mono ?_
      rintro e w8 ⟨rfl, A8, T8⟩
      have B8 := B7.tch K7 (by omega) T8
      have t8 := T8.below t7 t7.size hg
      clear A7 B7 K7 T8 t7
      obtain ⟨p3, o3, hpe, c3⟩ := (hm.below t8) q m[q] (List.getElem?_eq_getElem hql)
      injection hpe with hpe
      injection hpe with hp1 hp2 _
      subst hp1; subst hp2
      unfold bv at c3
      rw [← Hyb.out, ← Hyn.out] at c3
      go_wp2_with fail
      refine (Hname2.out _).mono ?_
      rintro e w9 ⟨rfl, hb9⟩
      have A9 := A8.below hb9
      have B9 := B8.below hb9
      have t9 := on1 t8 hb9
      clear A8 B8 t8 hb9 c3
      obtain ⟨cs3, K9⟩ := B9.blk
      go_wp2_with fail
      refine (count_any _ _ y _ B9 Hnl2.out).mono ?_
      rintro e w10 ⟨rfl, B10, T10⟩
      have A10 := A9.tch K9 (by omega) T10
      have t10 := T10.below t9 t9.size (by omega)
      clear A9 B9 K9 T10 t9
      go_wp2_with fail
      go_roundw
      case rel => exact ⟨k + 1, _, _, by omega, by go_num, A10, B10, t10, HN⟩
      case measure => simp [intOf]; omega
    · have hkm : k = m.length := by omega
      obtain ⟨h5, h6, h7, h8⟩ := HC.out
      rw [hkm, List.take_length] at h7
      rw [hkm, Nat.sub_self, List.drop_zero] at h8
      have H7 := Lib.hid h7
      have H8 := Lib.hid h8
      have H5 : Hid (ca.sum ≤ 100) := Lib.hid (by omega)
      have x1 : (m.length : Int) ≤ (k : Int) := by omega
      clear h5 h6 h7 h8 hkm HC G3 hR t3
      obtain ⟨ws, rfl⟩ : ∃ ws : World, ws = wr := ⟨_, rfl⟩
      go_wp2_with fail
      refine (gNames_any _ _).mono ?_
      rintro e w4 ⟨p, rfl, hp, hpp, hb4⟩
      have G4 := GA.below hb4
      have R4 := GB.below hb4
      have t4 := on1 hbel hb4
      have hgs := GB.lt
      have hgs1 := GA.lt
      clear GA GB hbel hb4
      go_wp2_with fail
      go_loopw [7, 8] (fun s7 s8 wr => ∃ i x : Nat, i ≤ 11 ∧ s7 = .int .u64 x ∧ s8 = .int .i64 i ∧ GG wr w1.heap.size ca ∧ GG wr w2.heap.size cb ∧ Blk wr p 130 NV ∧ Below w.heap.size w wr ∧ Hid (x = (ca.take i).sum)) (fun _ i _ => 11 - (intOf i).toNat)
      case atStart => exact ⟨0, 0, by omega, rfl, rfl, G4, R4, hp, t4, Lib.hid rfl⟩
      case round =>
        obtain ⟨i, x, hi, rfl, rfl, HA, HB, HP, hbel, HX⟩ := hrel
        rcases Nat.lt_or_ge i 11 with hlt2 | hge
        · have ck := HP.name i hlt2
          have hva := cval_at ca hlt2
          have hvb := cval_at cb hlt2
          have hcs := cis_at hlt2
          rw [H7.out i hlt2] at hva
          rw [H8.out i hlt2] at hvb
          have hsum := sum_snoc ca i (ca.getD i 0) (getD_of (by rw [HA.1]; exact hlt2))
          rw [H7.out i hlt2] at hsum
          have hle := cnt_le m i
          have hts : (ca.take (i + 1)).sum ≤ 100 := by
            have h1 := List.sum_append (l₁ := ca.take (i + 1)) (l₂ := ca.drop (i + 1))
            rw [List.take_append_drop] at h1
            have := H5.out
            omega
          obtain ⟨s, hse⟩ : ∃ s, s = NM.getD i [] := ⟨_, rfl⟩
          have hsl := NM_lenD i
          rw [← hse] at ck hva hvb hcs hsl
          obtain ⟨n, hn⟩ : ∃ n, n = cnt m i := ⟨_, rfl⟩
          rw [← hn] at hva hvb hsum hle
          have HV : Hid (cval ca s = n ∧ cval cb s = n) := Lib.hid ⟨hva, hvb⟩
          have Hsl := Lib.hid hsl
          have Hn := Lib.hid hn
          have Hsum : Hid (x + n = (ca.take (i + 1)).sum ∧ x + n ≤ 100) := Lib.hid (by rw [HX.out]; omega)
          have i0 : 0 ≤ (i : Int) := by omega
          have i1 : (i : Int) < 11 := by omega
          have i3 : i ≤ 10 := by omega
          clear hse hva hvb hsl hn hsum hle hts
          go_wp2_with fail
          obtain ⟨cs2, K4⟩ := HA.blk
          have hval := value_any _ _ s wr HA Hsl.out
          rw [HV.out.1] at hval
          refine hval.mono ?_
          clear hval
          rintro e w5 ⟨rfl, A5, T5⟩
          have B5 := HB.tch K4 (by omega) T5
          have P5 := HP.tch T5 (by omega)
          have t5 := T5.below hbel hbel.size hg
          clear HA HB HP K4 T5 hbel ck
          have ck := P5.name i hlt2
          obtain ⟨s', hse⟩ : ∃ s, s = NM.getD i [] := ⟨_, rfl⟩
          rw [← hse] at ck
          have hval2 := value_any _ _ s' w5 B5 (by rw [hse]; exact NM_lenD i)
          have hcs2 : cis s' = true := by rw [hse]; exact cis_at hlt2
          rw [show cval cb s' = n by rw [hse, cval_at cb hlt2, H8.out i hlt2, Hn.out]] at hval2
          have Hval2 := Lib.hid hval2
          clear hse hval2
          go_wp2_with fail
          obtain ⟨cs3, K5⟩ := B5.blk
          refine Hval2.out.mono ?_
          clear Hval2
          rintro e w6 ⟨rfl, B6, T6⟩
          have A6 := A5.tch K5 (by omega) T6
          have P6 := P5.tch T6 (by omega)
          have t6 := T6.below t5 t5.size (by omega)
          clear A5 B5 P5 K5 T6 t5 ck
          have hmr := hm.below t6
          go_wp2_with fail
          go_loop [13, 14] (fun a j => ∃ z t : Nat, t ≤ m.length ∧ a = .int .u64 z ∧ j = .int .i64 t ∧ Hid (z = cnt (m.take t) i)) (fun _ j => m.length - (intOf j).toNat)
          case atStart => exact ⟨0, 0, Nat.zero_le _, rfl, rfl, Lib.hid rfl⟩
          case round =>
            obtain ⟨z, t, ht, rfl, rfl, HZ⟩ := hrel
            by_cases htl : t < m.length
            · obtain ⟨p2, o2, rfl, c2⟩ := hmr t m[t] (List.getElem?_eq_getElem htl)
              have hb8 := (m[t]).toNat_lt
              unfold bv at c2
              have hnx : m.take (t + 1) = m.take t ++ [m[t]] := List.take_succ_eq_append_getElem htl
              have hstep : cnt (m.take (t + 1)) i = z + if (m[t]).toNat = i then 1 else 0 := by rw [hnx, cnt_append, cnt_one, HZ.out]
              have hzl := cnt_le (m.take t) i
              rw [← HZ.out, List.length_take] at hzl
              obtain ⟨b, hbe⟩ : ∃ b, b = (m[t]).toNat := ⟨_, rfl⟩
              rw [← hbe] at c2 hb8 hstep
              have e1 : IntKind.i64.wrap (b : Int) = (b : Int) := by rw [IntKind.wrap_i64]; omega
              by_cases hbi : b = i
              · have c4 : ((b : Int) == (i : Int)) = true := by rw [beq_iff_eq]; omega
                have c4' : (b == i) = true := by rw [beq_iff_eq]; omega
                rw [if_pos hbi] at hstep
                have e2 : IntKind.u64.wrap ((z : Int) + 1) = ((z + 1 : Nat) : Int) := wrap_sum (by omega)
                have Hst := Lib.hid hstep
                clear hnx hstep hzl hbe hbi hb8
                go_wp2_with fail
                go_round
                case rel => exact ⟨z + 1, t + 1, by omega, by go_num, by go_num, Lib.hid Hst.out.symm⟩
                case measure => simp [intOf]; omega
              · have c4 : ((b : Int) == (i : Int)) = false := by rw [beq_eq_false_iff_ne]; omega
                have c4' : (b == i) = false := by rw [beq_eq_false_iff_ne]; omega
                rw [if_neg hbi] at hstep
                have Hst := Lib.hid hstep
                clear hnx hstep hzl hbe hbi hb8
                go_wp2_with fail
                go_round
                case rel => exact ⟨z, t + 1, by omega, rfl, by go_num, Lib.hid Hst.out.symm⟩
                case measure => simp [intOf]; omega
            · have htm : t = m.length := by omega
              obtain rfl : z = n := by rw [HZ.out, htm, List.take_length, Hn.out]
              have x2 : (m.length : Int) ≤ (t : Int) := by omega
              have e5 : IntKind.u64.wrap ((x : Int) + (z : Int)) = ((x + z : Nat) : Int) := wrap_sum (by have := Hsum.out.2; omega)
              have Hxz := Lib.hid (show (x + z) = (x + z) from rfl)
              clear htm
              go_wp2_with fail
              go_roundw
              case rel => exact ⟨i + 1, x + z, by omega, by go_num, by go_num, A6, B6, P6, t6, Lib.hid Hsum.out.1⟩
              case measure => simp [intOf]; omega
        · have hi11 : i = 11 := by omega
          have hx2 : x = ca.sum := by rw [HX.out, hi11, List.take_of_length_le (by rw [HA.1]; exact Nat.le_refl _)]
          have Hx2 := Lib.hid hx2
          have x2 : 11 ≤ (i : Int) := by omega
          clear hi11 hx2
          go_wp2_with fail
          refine (total_any _ _ _ HA).mono ?_
          rintro e w5 ⟨y, HY, rfl, rfl⟩
          obtain rfl : y = x := by have := HY.out; have := H5.out; have := Hx2.out; omega
          go_wp2_with fail
          go_ret
          exact ⟨rfl, hbel⟩

set_option maxRecDepth 100000 in
theorem gaugeOrder_walk (B : Option Addr) (d : Nat) (m : List UInt8) (w : World) (hm : Bs w B m) :
    Calls Try.prog 14 #[.slice B m.length d] w fun e w' => e = .returned (.bool true) ∧ Below w.heap.size w w' := by
  rcases Nat.lt_or_ge 100 m.length with h1 | h1
  · have d3 : decide ((100 : Int) < m.length) = true := by simp; omega
    have d4 : decide (100 < m.length) = true := by simp; omega
    go_enter Try.func14, Try.ntmps14
    go_wp2_with (go_at_call 40; refine (gKnown_any _).mono ?_; rintro e w1 ⟨rfl, hb1⟩)
    go_ret
    exact ⟨rfl, hb1⟩
  exact gaugeOrder_small B d m w hm h1

end Go.Proofs.Ytmfoccbidlonmaa
