/- The chapter's example of gauges; GaugeDoes. -/
import Derived.Test.YtmfoccbidlonmaaGau4
import Derived.Test.YtmfoccbidlonmaaOwn
namespace Go.Proofs.Ytmfoccbidlonmaa
open Go.RowKit Go.Maps Go.ChangeMaps Go.MapKept Go.WideMaps

set_option maxRecDepth 100000 in
theorem sameNames_any (p q : Nat) (t t' : TypeId) (w : World) (hp : Blk w p t NV) (hq : Blk w q t' NV) :
    Calls Try.prog 43 #[.slice (some ⟨p, 0, none⟩) 11 11, .slice (some ⟨q, 0, none⟩) 11 11] w fun e w' => e = .returned (.bool true) ∧ Below w.heap.size w w' := by
  go_enter Try.func43, Try.ntmps43
  go_wp2_with fail
  go_loopw [5] (fun i wr => ∃ k n : Nat, k ≤ 11 ∧ i = .int .i64 k ∧ wr = w.drewN n) (fun i _ => 11 - (intOf i).toNat)
  case atStart => exact ⟨0, 0, by omega, rfl, rfl⟩
  case round =>
    obtain ⟨k, n, hk, rfl, rfl⟩ := hrel
    rcases Nat.lt_or_ge k 11 with hlt | hge
    · have ck := hp.name k hlt
      have dk := hq.name k hlt
      obtain ⟨s, hs⟩ : ∃ s, s = NM.getD k [] := ⟨_, rfl⟩
      rw [← hs] at ck dk
      clear hs
      go_wp2_with fail
      go_quiet (fail)
      go_wp2_with fail
      go_roundw
      case rel => exact ⟨k + 1, _, by omega, by go_num, rfl⟩
      case measure => simp [intOf]; omega
    · obtain rfl : k = 11 := by omega
      go_wp2_with fail
      go_ret
      exact ⟨rfl, below_drewN (Below.refl _ _) _⟩

def syncL : List UInt8 := [115, 121, 110, 99]
set_option maxRecDepth 100000 in
set_option maxHeartbeats 1000000 in
theorem gKnown_any (w : World) : Calls Try.prog 40 #[] w fun e w' => e = .returned (.bool true) ∧ Below w.heap.size w w' := by
  have s1 : cis [115, 121, 110, 99] = true := by decide
  have s2 : cis [120] = false := by decide
  have v1 : cval (cup (cup (cup (List.replicate 11 0) [115, 121, 110, 99]) [115, 121, 110, 99]) [120]) [115, 121, 110, 99] = 2 := by decide
  have Hv := Lib.hid v1
  clear v1
  go_enter Try.func40, Try.ntmps40
  go_wp2_with fail
  refine (gNew_any _).mono ?_
  rintro e w1 ⟨rfl, hG, hb1⟩
  go_wp2_with fail
  refine (count_any _ _ [115, 121, 110, 99] _ hG (by decide)).mono ?_
  rintro e w2 ⟨rfl, G2, T2⟩
  have t2 := T2.below hb1 hb1.size (Nat.le_refl _)
  clear hG hb1 T2
  go_wp2_with fail
  refine (count_any _ _ [115, 121, 110, 99] _ G2 (by decide)).mono ?_
  rintro e w3 ⟨rfl, G3, T3⟩
  have t3 := T3.below t2 t2.size (Nat.le_refl _)
  clear G2 t2 T3
  go_wp2_with fail
  refine (count_any _ _ [120] _ G3 (by decide)).mono ?_
  rintro e w4 ⟨rfl, G4, T4⟩
  have t4 := T4.below t3 t3.size (Nat.le_refl _)
  clear G3 t3 T4
  go_wp2_with fail
  refine (value_any _ _ [115, 121, 110, 99] _ G4 (by decide)).mono ?_
  rw [Hv.out]
  rintro e w5 ⟨rfl, G5, T5⟩
  have t5 := T5.below t4 t4.size (Nat.le_refl _)
  clear G4 t4 T5
  go_wp2_with fail
  refine (total_any _ _ _ G5).mono ?_
  rintro e w6 ⟨x, HX, rfl, rfl⟩
  obtain rfl : x = 2 := HX.out.trans (by decide)
  clear HX
  go_wp2_with fail
  refine (gNames_any _ _).mono ?_
  rintro e w7 ⟨p, rfl, -, -, hb7⟩
  go_wp2_with fail
  go_ret
  exact ⟨rfl, on t5 hb7⟩

/-- texts -/
def Ts (w : World) (A : Option Addr) (l : List (List UInt8)) : Prop := ∀ i s, l[i]? = some s → ∃ p o, A = some ⟨p, o, none⟩ ∧ w.cell? ⟨p, o + i, none⟩ = some (.string ⟨s.toArray⟩)
theorem Ts.below {w w' : World} {A : Option Addr} {l : List (List UInt8)} (h : Ts w A l) (hb : Below w.heap.size w w') : Ts w' A l := fun i s hi => by
  obtain ⟨p, o, hA, hc⟩ := h i s hi
  exact ⟨p, o, hA, (hb.cell (cell_lt hc)).trans hc⟩
theorem NM_lenD (k : Nat) : (NM.getD k []).length ≤ maxLen := by
  rw [List.getD_eq_getElem?_getD]
  cases h : NM[k]? with
  | none => exact Nat.zero_le _
  | some l => exact Nat.le_trans (NM_len l (List.mem_of_getElem? h)) (by decide)
theorem nameL_len {s : List UInt8} (hs : s.length ≤ maxLen) (k : Nat) : (nameL s k).length ≤ maxLen := by
  unfold nameL
  split
  · exact NM_lenD k
  · exact hs

set_option maxRecDepth 100000 in
set_option maxHeartbeats 2000000 in
theorem gaugeDoes_small (A B : Option Addr) (c d : Nat) (l : List (List UInt8)) (m : List UInt8) (w : World) (hl : Ts w A l) (hm : Bs w B m) (hs : ∀ s ∈ l, s.length ≤ maxLen) (h0 : l.length ≤ 100) (h1 : m.length ≤ 100) :
    Calls Try.prog 12 #[.slice A l.length c, .slice B m.length d] w fun e w' => e = .returned (.bool true) ∧ Below w.heap.size w w' := by
  have HS := Lib.hid hs
  clear hs
  have d1 : decide ((100 : Int) < l.length) = false := by simp; omega
  have d2 : decide (100 < l.length) = false := by simp; omega
  have d3 : decide ((100 : Int) < m.length) = false := by simp; omega
  have d4 : decide (100 < m.length) = false := by simp; omega
  go_enter Try.func12, Try.ntmps12
  go_wp2_with fail
  refine (gKnown_any _).mono ?_
  rintro e w1 ⟨rfl, hb1⟩
  go_wp2_with fail
  refine (gNew_any _).mono ?_
  rintro e w2 ⟨rfl, hG, hb2⟩
  have t2 := on hb1 hb2
  have hg : w.heap.size ≤ w1.heap.size := hb1.size
  have hg2 := hG.lt
  go_wp2_with fail
  refine (rNew_any _).mono ?_
  rintro e w3 ⟨rfl, hR, hb3⟩
  have G3 := hG.below hb3
  have t3 := on t2 hb3
  clear hG hb2 hb3 t2 hb1
  go_wp2_with fail
  refine (gNames_any _ _).mono ?_
  rintro e w4 ⟨p, rfl, hp, -, hb4⟩
  have G4 := G3.below hb4
  have R4 := hR.below hb4
  have t4 := on t3 hb4
  clear G3 hR t3 hb4
  go_wp2_with fail
  refine (rNames_any _).mono ?_
  rintro e w5 ⟨q, rfl, hq, -, hb5⟩
  have p5 := hp.below hb5 hp.lt
  have G5 := G4.below hb5
  have R5 := R4.below hb5
  have t5 := on t4 hb5
  clear G4 R4 t4 hb5 hp
  go_wp2_with fail
  refine (sameNames_any p q _ _ _ p5 hq).mono ?_
  rintro e w6 ⟨rfl, hb6⟩
  have G6 := G5.below hb6
  have R6 := R5.below hb6
  have t6 := on t5 hb6
  clear G5 R5 t5 hb6 p5 hq
  go_wp2_with fail
  go_loopw [7] (fun i wr => ∃ (k : Nat) (c : List Nat), k ≤ l.length ∧ k ≤ m.length ∧ i = .int .i64 k ∧ GG wr w1.heap.size c ∧ RG wr w2.heap.size c ∧ Below w.heap.size w wr) (fun i _ => l.length - (intOf i).toNat)
  case atStart => exact ⟨0, _, Nat.zero_le _, Nat.zero_le _, rfl, G6, R6, t6⟩
  case round =>
    obtain ⟨k, cc, hk, hk2, rfl, HG, HR, hbel⟩ := hrel
    by_cases hlt : k < l.length
    · have x1 : decide ((k : Int) < l.length) = true := by simp; omega
      have x2 : decide (k < l.length) = true := by simp; omega
      by_cases hlt2 : k < m.length
      · have x3 : decide ((k : Int) < m.length) = true := by simp; omega
        have x4 : decide (k < m.length) = true := by simp; omega
        have hlr := hl.below hbel
        have hmr := hm.below hbel
        obtain ⟨p1, o1, rfl, c1⟩ := hlr k l[k] (List.getElem?_eq_getElem hlt)
        obtain ⟨p2, o2, rfl, c2⟩ := hmr k m[k] (List.getElem?_eq_getElem hlt2)
        have hsl := HS.out l[k] (List.getElem_mem hlt)
        obtain ⟨s, hse⟩ : ∃ s, s = l[k] := ⟨_, rfl⟩
        rw [← hse] at c1 hsl
        have hb8 := (m[k]).toNat_lt
        unfold bv at c2
        obtain ⟨b, hbe⟩ : ∃ b, b = (m[k]).toNat := ⟨_, rfl⟩
        rw [← hbe] at c2 hb8
        have hnl := nameL_len hsl b
        obtain ⟨n, hne⟩ : ∃ n, n = nameL s b := ⟨_, rfl⟩
        have hname := fun w => name_any s b w hb8
        rw [← hne] at hnl hname
        have Hnl := Lib.hid hnl
        have Hname := Lib.hid hname
        have k0 : 0 ≤ (k : Int) := by omega
        have k1 : (k : Int) < l.length := by omega
        have k2 : (k : Int) < m.length := by omega
        clear hse hbe hne hnl hname hsl hb8
        have hp := plus_cell wr
        go_wp2_with fail
        refine wp_region_ext (by kernel_rfl) (by kernel_rfl) ?_
        repeat (go_big_quiet_step ((go_at_call 46; exact ext_of (Hname.out _))))
        refine wpQuiet_nil ?_
        rintro w7 ⟨x, rfl⟩
        have hx := plus_below wr x
        have G7 := HG.below hx
        have R7 := HR.below hx
        have t7 := on1 hbel hx
        have hgr : w1.heap.size ≠ w2.heap.size := by omega
        clear hp HG HR hbel hlr hmr c1 c2
        go_wp2_with fail
        refine (count_any _ _ n _ G7 Hnl.out).mono ?_
        rintro e w8 ⟨rfl, G8, T8⟩
        have R8 := R7.tch T8 (by omega)
        have t8 := T8.below t7 t7.size hg
        clear G7 R7 t7 T8
        go_wp2_with fail
        refine (rcount_any _ _ n _ R8).mono ?_
        rintro e w9 ⟨rfl, R9, T9⟩
        have G9 := G8.tch R8.2 hgr T9
        have t9 := T9.below t8 t8.size (by omega)
        clear G8 R8 t8 T9
        go_wp2_with fail
        refine (value_any _ _ n _ G9 Hnl.out).mono ?_
        rintro e w10 ⟨rfl, G10, T10⟩
        have R10 := R9.tch T10 (by omega)
        have t10 := T10.below t9 t9.size hg
        clear G9 R9 t9 T10
        go_wp2_with fail
        refine (rvalue_any _ _ n _ R10).mono ?_
        rintro e w11 ⟨rfl, hb11⟩
        have R11 := R10.below hb11
        have G11 := G10.below hb11
        have t11 := on t10 hb11
        clear G10 R10 t10 hb11
        obtain ⟨cn, hcn⟩ : ∃ cn, cn = cup cc n := ⟨_, rfl⟩
        rw [← hcn] at R11 G11
        generalize cval (cup cc n) n = vn at *
        go_wp2_with fail
        refine (total_any _ _ _ G11).mono ?_
        rintro e w12 ⟨y, HY, rfl, rfl⟩
        go_wp2_with fail
        refine (rtotal_any _ _ _ R11).mono ?_
        rintro e w13 ⟨z, HZ, rfl, rfl⟩
        obtain rfl : z = y := HZ.out.trans HY.out.symm
        clear HY HZ hcn
        go_wp2_with fail
        go_roundw
        case rel => exact ⟨k + 1, cn, by omega, by omega, by go_num, G11, R11, t11⟩
        case measure => simp [intOf]; omega
      · have x3 : decide ((k : Int) < m.length) = false := by simp; omega
        have x4 : decide (k < m.length) = false := by simp; omega
        go_wp2_with fail
        go_ret
        exact ⟨rfl, hbel⟩
    · have x1 : decide ((k : Int) < l.length) = false := by simp; omega
      have x2 : decide (k < l.length) = false := by simp; omega
      go_wp2_with fail
      go_ret
      exact ⟨rfl, hbel⟩

end Go.Proofs.Ytmfoccbidlonmaa
