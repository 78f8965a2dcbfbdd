/- GaugeOwn. -/
import Derived.Test.YtmfoccbidlonmaaGau5
namespace Go.Proofs.Ytmfoccbidlonmaa
open Go.RowKit Go.Maps Go.ChangeMaps Go.MapKept Go.WideMaps

theorem GG.blk {w : World} {g : Nat} {c : List Nat} (h : GG w g c) : ∃ cs, Blk w g GT cs := by
  rcases h.2 with h | ⟨b, h, _⟩
  · exact ⟨_, h⟩
  · exact ⟨_, h⟩
theorem sum_set (c : List Nat) : ∀ (i v : Nat), i < c.length → (c.set i v).sum + c.getD i 0 = c.sum + v := by
  induction c with
  | nil => intro i v h; simp at h
  | cons x c ih =>
    intro i v h
    cases i with
    | zero => simp; omega
    | succ i =>
      have := ih i v (by simpa using h)
      simp only [List.set_cons_succ, List.sum_cons, List.getD_cons_succ] at *
      omega
theorem getD_le_sum (c : List Nat) : ∀ i, c.getD i 0 ≤ c.sum := by
  induction c with
  | nil => intro i; simp
  | cons x c ih =>
    intro i
    cases i with
    | zero => simp
    | succ i => have := ih i; simp only [List.getD_cons_succ, List.sum_cons]; omega
theorem cup_sum (c : List Nat) (s : List UInt8) (hl : c.length = 11) (hs : c.sum < 18446744073709551615) : (cup c s).sum = c.sum + if cis s = true then 1 else 0 := by
  unfold cup cis
  cases hn : nix s with
  | none => simp
  | some i =>
    obtain ⟨hi, _⟩ := nix_some hn
    have h1 := sum_set c i (up1 (c.getD i 0)) (by omega)
    have h2 := getD_le_sum c i
    simp only [Option.isSome_some, if_true]
    have h3 : up1 (c.getD i 0) = c.getD i 0 + 1 := by unfold up1; omega
    rw [h3] at h1 ⊢
    omega
theorem cval_zero (s : List UInt8) : cval (List.replicate 11 0) s = 0 := by
  unfold cval
  cases hn : nix s with
  | none => rfl
  | some i =>
    obtain ⟨hi, _⟩ := nix_some hn
    show (List.replicate 11 0).getD i 0 = 0
    rw [List.getD_eq_getElem?_getD, List.getElem?_replicate]
    simp [hi]
theorem name_at {k : Nat} (hk : k < 11) : nix (NM.getD k []) = some k :=
  nix_at hk (by rw [List.getD_eq_getElem?_getD, List.getElem?_eq_getElem (show k < NM.length from hk)]; rfl)
theorem cis_name {k : Nat} (hk : k < 11) (s : List UInt8) : cis (nameL s k) = true := by
  unfold nameL; rw [if_pos hk]; unfold cis; rw [name_at hk]; rfl

set_option maxRecDepth 100000 in
set_option maxHeartbeats 2000000 in
theorem gaugeOwn_small (B : Option Addr) (d : Nat) (m : List UInt8) (j : Nat) (w : World) (hm : Bs w B m) (h1 : m.length ≤ 100) (hj : j < 256) :
    Calls Try.prog 13 #[.slice B m.length d, .int .u8 j] w fun e w' => e = .returned (.bool true) ∧ Below w.heap.size w w' := by
  have d3 : decide ((100 : Int) < m.length) = false := by simp; omega
  have d4 : decide (100 < m.length) = false := by simp; omega
  go_enter Try.func13, Try.ntmps13
  go_wp2_with fail
  refine (gKnown_any _).mono ?_
  rintro e w1 ⟨rfl, hb1⟩
  go_wp2_with fail
  refine (gNew_any _).mono ?_
  rintro e w2 ⟨rfl, hG, hb2⟩
  have t2 := on hb1 hb2
  have hg : w.heap.size ≤ w1.heap.size := hb1.size
  have hg2 := hG.lt
  go_wp2_with fail
  refine (gNew_any _).mono ?_
  rintro e w3 ⟨rfl, hR, hb3⟩
  have G3 := hG.below hb3
  have hg3 := hR.lt
  have t3 := on t2 hb3
  clear hG hb2 hb3 t2 hb1
  go_wp2_with fail
  refine (gNames_any _ _).mono ?_
  rintro e w4 ⟨p, rfl, hp, hpp, hb4⟩
  have G4 := G3.below hb4
  have R4 := hR.below hb4
  have t4 := on t3 hb4
  clear G3 hR t3 hb4
  go_wp2_with fail
  go_loopw [8] (fun i wr => ∃ (k : Nat) (cs : Array Value), k ≤ 11 ∧ i = .int .i64 k ∧ cs.size = 11 ∧ Blk wr p 130 cs ∧ GG wr w1.heap.size (List.replicate 11 0) ∧ GG wr w2.heap.size (List.replicate 11 0) ∧ Below w.heap.size w wr) (fun i _ => 11 - (intOf i).toNat)
  case atStart => exact ⟨0, _, by omega, rfl, rfl, hp, G4, R4, t4⟩
  case round =>
    obtain ⟨k, cs, hk, rfl, hcs, HP, HA, HB, hbel⟩ := hrel
    rcases Nat.lt_or_ge k 11 with hlt | hge
    · obtain ⟨v, hv⟩ : ∃ v, cs[k]? = some v := ⟨_, Array.getElem?_eq_getElem (by omega)⟩
      have ck := (HP.cell k).trans hv
      have zk := HP.frozen k
      have k0 : 0 ≤ (k : Int) := by omega
      have k1 : (k : Int) < 11 := by omega
      have k3 : k ≤ 10 := by omega
      have Hcs := Lib.hid hcs
      clear hv hcs
      go_wp2_with fail
      go_roundw
      case rel => exact ⟨k + 1, _, by omega, by go_num, by rw [Array.size_setIfInBounds]; exact Hcs.out, HP.set k _, HA.tch HP (by omega) ((Tch.refl p wr).set k _), HB.tch HP (by omega) ((Tch.refl p wr).set k _), hbel.setCell (by show w.heap.size ≤ p; omega) _⟩
      case measure => simp [intOf]; omega
    · have k11 : 11 ≤ (k : Int) := by omega
      clear hp G4 R4 t4 hcs
      obtain ⟨ws, rfl⟩ : ∃ ws : World, ws = wr := ⟨_, rfl⟩
      go_wp2_with fail
      go_loopw [9, 10] (fun s9 s10 wr => ∃ (k n : Nat) (c : List Nat), k ≤ m.length ∧ s9 = .int .u64 n ∧ s10 = .int .i64 k ∧ GG wr w1.heap.size c ∧ GG wr w2.heap.size (List.replicate 11 0) ∧ Below w.heap.size w wr ∧ Hid (c.sum = n ∧ n ≤ k)) (fun _ i _ => m.length - (intOf i).toNat)
      case atStart => exact ⟨0, 0, _, Nat.zero_le _, rfl, rfl, HA, HB, hbel, Lib.hid ⟨by decide, Nat.le_refl _⟩⟩
      case round =>
        obtain ⟨k, n, c, hk, rfl, rfl, GA, GB, hbel2, HN⟩ := hrel
        by_cases hlt : k < m.length
        · have hmr := hm.below hbel2
          obtain ⟨p2, o2, rfl, c2⟩ := hmr k m[k] (List.getElem?_eq_getElem hlt)
          have hb8 := (m[k]).toNat_lt
          unfold bv at c2
          obtain ⟨b, hbe⟩ : ∃ b, b = (m[k]).toNat := ⟨_, rfl⟩
          rw [← hbe] at c2 hb8
          have hnl := nameL_len (s := []) (Nat.zero_le _) b
          obtain ⟨x, hx⟩ : ∃ x, x = nameL [] b := ⟨_, rfl⟩
          have hname := fun w => name_any [] b w hb8
          rw [← hx] at hnl hname
          have hcs := cup_sum c x GA.1 (by have := HN.out; omega)
          have Hnl := Lib.hid hnl
          have Hname := Lib.hid hname
          have Hcs := Lib.hid hcs
          clear hbe hb8 hnl hname hcs hx
          go_wp2_with fail
          refine (Hname.out _).mono ?_
          rintro e w7 ⟨rfl, hb7⟩
          have A7 := GA.below hb7
          have B7 := GB.below hb7
          have t7 := on1 hbel2 hb7
          clear GA GB hbel2 hb7 hmr c2
          obtain ⟨cs2, K7⟩ := A7.blk
          go_wp2_with fail
          refine (count_any _ _ x _ A7 Hnl.out).mono ?_
          rintro e w8 ⟨rfl, A8, T8⟩
          have B8 := B7.tch K7 (by omega) T8
          have t8 := T8.below t7 t7.size hg
          clear A7 B7 K7 T8 t7
          cases hci : cis x
          · go_wp2_with fail
            go_roundw
            case rel => exact ⟨k + 1, n, _, by omega, rfl, by go_num, A8, B8, t8, Lib.hid (by have := HN.out; have := Hcs.out; rw [hci] at this; simp at this; omega)⟩
            case measure => simp [intOf]; omega
          · have e1 : IntKind.u64.wrap ((n : Int) + 1) = ((n + 1 : Nat) : Int) := wrap_sum (by have := HN.out; omega)
            go_wp2_with fail
            go_roundw
            case rel => exact ⟨k + 1, n + 1, _, by omega, by go_num, by go_num, A8, B8, t8, Lib.hid (by have := HN.out; have := Hcs.out; rw [hci] at this; simp at this; omega)⟩
            case measure => simp [intOf]; omega
        · obtain rfl : k = m.length := by omega
          obtain ⟨jm, hjm⟩ : ∃ jm, jm = j % 11 := ⟨_, rfl⟩
          have hjl : jm < 11 := by omega
          have e1 : (j : Int) % 11 = (jm : Int) := by omega
          have e2 : (j : Int).tmod 11 = (jm : Int) := by rw [Int.tmod_eq_emod_of_nonneg (by omega)]; omega
          obtain ⟨x, hx⟩ : ∃ x, x = nameL [] jm := ⟨_, rfl⟩
          have hnl := nameL_len (s := []) (Nat.zero_le _) jm
          have hname := fun w => name_any [] jm w (by omega)
          have hci := cis_name hjl []
          rw [← hx] at hnl hname hci
          have Hnl := Lib.hid hnl
          have Hname := Lib.hid hname
          have hcs := cup_sum (List.replicate 11 0) x rfl (by decide)
          rw [hci] at hcs
          have hcs2 : (cup (List.replicate 11 0) x).sum = 1 := hcs
          have Hcs := Lib.hid hcs2
          have hv0 := cval_zero x
          have Hv0 := Lib.hid hv0
          clear hjm hjl hnl hname hx hcs hcs2 hv0
          go_wp2_with fail
          refine (Hname.out _).mono ?_
          rintro e w7 ⟨rfl, hb7⟩
          have A7 := GA.below hb7
          have B7 := GB.below hb7
          have t7 := on1 hbel2 hb7
          clear GA GB hbel2 hb7 e1 e2
          obtain ⟨cs2, K7⟩ := B7.blk
          go_wp2_with fail
          have hval := value_any _ _ x w7 B7 Hnl.out
          rw [Hv0.out] at hval
          refine hval.mono ?_
          clear hval
          rintro e w8 ⟨rfl, B8, T8⟩
          have A8 := A7.tch K7 (by omega) T8
          have t8 := T8.below t7 t7.size (by omega)
          clear A7 B7 K7 T8 t7
          obtain ⟨cs3, K8⟩ := B8.blk
          go_wp2_with fail
          refine (count_any _ _ x _ B8 Hnl.out).mono ?_
          rintro e w9 ⟨rfl, B9, T9⟩
          have A9 := A8.tch K8 (by omega) T9
          have t9 := T9.below t8 t8.size (by omega)
          clear A8 B8 K8 T9 t8
          go_wp2_with fail
          refine (total_any _ _ _ A9).mono ?_
          rintro e w10 ⟨y, HY, rfl, rfl⟩
          obtain rfl : y = n := by have := HY.out; have := HN.out; omega
          go_wp2_with fail
          refine (total_any _ _ _ B9).mono ?_
          rintro e w10 ⟨z, HZ, rfl, rfl⟩
          obtain rfl : z = 1 := by have := HZ.out; rw [Hcs.out] at this; exact this
          clear HY HZ
          go_wp2_with fail
          go_ret
          exact ⟨rfl, t9⟩

set_option maxRecDepth 100000 in
theorem gaugeOwn_walk (B : Option Addr) (d : Nat) (m : List UInt8) (j : Nat) (w : World) (hm : Bs w B m) (hj : j < 256) :
    Calls Try.prog 13 #[.slice B m.length d, .int .u8 j] w fun e w' => e = .returned (.bool true) ∧ Below w.heap.size w w' := by
  rcases Nat.lt_or_ge 100 m.length with h1 | h1
  · have d3 : decide ((100 : Int) < m.length) = true := by simp; omega
    have d4 : decide (100 < m.length) = true := by simp; omega
    clear hj
    go_enter Try.func13, Try.ntmps13
    go_wp2_with (go_at_call 40; refine (gKnown_any _).mono ?_; rintro e w1 ⟨rfl, hb1⟩)
    go_ret
    exact ⟨rfl, hb1⟩
  exact gaugeOwn_small B d m j w hm h1 hj

end Go.Proofs.Ytmfoccbidlonmaa
