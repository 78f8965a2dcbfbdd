/- Count, Value of whatever name; the document's own gauges. -/
import Derived.Test.YtmfoccbidlonmaaGau3
import Derived.Test.YtmfoccbidlonmaaTail
namespace Go.Proofs.Ytmfoccbidlonmaa
open Go.RowKit Go.Maps Go.ChangeMaps Go.MapKept Go.WideMaps

/-- a name's place; is it one; what is counted of it; once more -/
def nix (s : List UInt8) : Option Nat := (List.range 11).find? fun i => NM[i]? == some s
theorem nix_some {s : List UInt8} {i : Nat} (h : nix s = some i) : i < 11 ∧ NM[i]? = some s := by
  unfold nix at h
  have h1 := List.mem_of_find?_eq_some h
  have h2 := List.find?_some h
  exact ⟨List.mem_range.1 h1, by simpa using h2⟩
theorem nix_none {s : List UInt8} (h : nix s = none) : NoName s := by
  intro i hi e
  unfold nix at h
  have := List.find?_eq_none.1 h i (List.mem_range.2 hi)
  simp [e] at this
theorem nix_at {i : Nat} (hi : i < 11) {s : List UInt8} (h : NM[i]? = some s) : nix s = some i := by
  cases hn : nix s with
  | none => exact absurd h (nix_none hn i hi)
  | some j =>
    obtain ⟨hj, e⟩ := nix_some hn
    rw [NM_inj i hi j hj (h.trans e.symm)]
def cis (s : List UInt8) : Bool := (nix s).isSome
def cval (c : List Nat) (s : List UInt8) : Nat := match nix s with | some i => c.getD i 0 | none => 0
def cup (c : List Nat) (s : List UInt8) : List Nat := match nix s with | some i => c.set i (up1 (c.getD i 0)) | none => c
theorem cup_length (c : List Nat) (s : List UInt8) : (cup c s).length = c.length := by
  unfold cup
  split
  · simp
  · rfl
theorem getD_of {c : List Nat} {i : Nat} (h : i < c.length) : c[i]? = some (c.getD i 0) := by
  rw [List.getD_eq_getElem?_getD, List.getElem?_eq_getElem h]; rfl

theorem count_any (g : Nat) (c : List Nat) (s : List UInt8) (w : World) (hG : GG w g c) (hsl : s.length ≤ maxLen) :
    Calls Try.prog 47 #[.pointer (some ⟨g, 0, none⟩), .string ⟨s.toArray⟩] w fun e w' => e = .returned (.bool (cis s)) ∧ GG w' g (cup c s) ∧ Tch g w w' := by
  cases hn : nix s with
  | none =>
    have e1 : cis s = false := by unfold cis; rw [hn]; rfl
    have e2 : cup c s = c := by unfold cup; rw [hn]
    rw [e1, e2]
    exact count_none g c s w hG (nix_none hn) hsl
  | some i =>
    have e1 : cis s = true := by unfold cis; rw [hn]; rfl
    have e2 : cup c s = c.set i (up1 (c.getD i 0)) := by unfold cup; rw [hn]
    obtain ⟨hi, h⟩ := nix_some hn
    rw [e1, e2]
    exact count_found g c i _ s w hG hi h (getD_of (by rw [hG.1]; exact hi))
theorem value_any (g : Nat) (c : List Nat) (s : List UInt8) (w : World) (hG : GG w g c) (hsl : s.length ≤ maxLen) :
    Calls Try.prog 49 #[.pointer (some ⟨g, 0, none⟩), .string ⟨s.toArray⟩] w fun e w' => e = .returned (.tuple #[.int .u64 (cval c s : Nat), .bool (cis s)]) ∧ GG w' g c ∧ Tch g w w' := by
  cases hn : nix s with
  | none =>
    have e1 : cis s = false := by unfold cis; rw [hn]; rfl
    have e2 : cval c s = 0 := by unfold cval; rw [hn]
    rw [e1, e2]
    exact value_none g c s w hG (nix_none hn) hsl
  | some i =>
    have e1 : cis s = true := by unfold cis; rw [hn]; rfl
    have e2 : cval c s = c.getD i 0 := by unfold cval; rw [hn]
    obtain ⟨hi, h⟩ := nix_some hn
    rw [e1, e2]
    exact value_found g c i _ s w hG hi h (getD_of (by rw [hG.1]; exact hi))

/-- the document's own -/
def RG (w : World) (r : Nat) (c : List Nat) : Prop := c.length = 11 ∧ Blk w r 129 (c.map u64v).toArray
theorem RG.lt {w : World} {r : Nat} {c : List Nat} (h : RG w r c) : r < w.heap.size := h.2.lt
theorem RG.cell {w : World} {r : Nat} {c : List Nat} (h : RG w r c) (i n : Nat) (hn : c[i]? = some n) : w.cell? ⟨r, i, none⟩ = some (.int .u64 n) := by
  rw [h.2.cell i]; simp [hn, u64v]
theorem RG.below {w w' : World} {r : Nat} {c : List Nat} (h : RG w r c) (t : Below w.heap.size w w') : RG w' r c := ⟨h.1, h.2.below t h.2.lt⟩
theorem RG.tch {w w' : World} {r g : Nat} {c : List Nat} (h : RG w r c) (t : Tch g w w') (hne : r ≠ g) : RG w' r c := ⟨h.1, h.2.tch t hne⟩
theorem RG.set {w : World} {r : Nat} {c : List Nat} (h : RG w r c) (i n : Nat) : RG (w.setCell ⟨r, i, none⟩ (.int .u64 n)) r (c.set i n) := by
  refine ⟨by rw [List.length_set]; exact h.1, ?_⟩
  have h2 := h.2.set i (.int .u64 n)
  have e : (c.map u64v).toArray.setIfInBounds i (.int .u64 n) = ((c.set i n).map u64v).toArray := by simp [List.map_set, u64v]
  rw [← e]; exact h2

theorem rNew_any (w : World) : Calls Try.prog 42 #[] w fun e w' => e = .returned (.pointer (some ⟨w.heap.size, 0, none⟩)) ∧ RG w' w.heap.size (List.replicate 11 0) ∧ Below w.heap.size w w' := by
  go_enter Try.func42, Try.ntmps42
  go_wp2_with fail
  exact bodyPost_ret (v := .pointer (some ⟨w.heap.size, 0, none⟩)) (by simp [results, Try.results42, go_sem]) rfl ⟨rfl, ⟨rfl, Eq.subst (motive := fun cs => Blk _ _ _ cs) (by kernel_rfl) (Blk.new w _ _)⟩, below_alloc _ _⟩

theorem rNames_any (w : World) : Calls Try.prog 45 #[] w fun e w' => ∃ p, e = .returned (.slice (some ⟨p, 0, none⟩) 11 11) ∧ Blk w' p 9 NV ∧ w.heap.size ≤ p ∧ Below w.heap.size w w' := by
  go_enter Try.func45, Try.ntmps45
  go_wp2_with fail
  go_ret
  exact ⟨w.heap.size, rfl, Blk.new w _ _, Nat.le_refl _, below_alloc _ _⟩

theorem Blk.name {w : World} {p : Nat} {t : TypeId} (h : Blk w p t NV) (i : Nat) (hi : i < 11) : w.cell? ⟨p, i, none⟩ = some (.string ⟨(NM.getD i []).toArray⟩) := by
  rw [h.cell i, NV_get i hi, List.getD_eq_getElem?_getD, List.getElem?_eq_getElem (show i < NM.length from hi)]; rfl

def atI (s : List UInt8) : Int := match nix s with | some i => i | none => -1

set_option maxRecDepth 100000 in
theorem rat_any (s : List UInt8) (w : World) : Calls Try.prog 72 #[.string ⟨s.toArray⟩] w fun e w' => e = .returned (.int .i64 (atI s)) ∧ Below w.heap.size w w' := by
  go_enter Try.func72, Try.ntmps72
  go_wp2_with fail
  refine (rNames_any _).mono ?_
  rintro e w1 ⟨p, rfl, hp, _, hb1⟩
  go_wp2_with fail
  go_loop [4] (fun i => ∃ k : Nat, k ≤ 11 ∧ i = .int .i64 k ∧ Hid (∀ j, j < k → NM[j]? ≠ some s)) (fun i => 11 - (intOf i).toNat)
  case atStart => exact ⟨0, by omega, rfl, Lib.hid fun j h => by omega⟩
  case round =>
    obtain ⟨k, hk, rfl, HK⟩ := hrel
    rcases Nat.lt_or_ge k 11 with hlt | hge
    · have ck := hp.name k hlt
      have hse := str_eq (NM.getD k []) s
      have hnk : NM[k]? = some (NM.getD k []) := by rw [List.getD_eq_getElem?_getD, List.getElem?_eq_getElem (show k < NM.length from hlt)]; rfl
      have Hnk := Lib.hid hnk
      by_cases he : NM.getD k [] = s
      · rw [decide_eq_true he] at hse
        have hbe : (NM.getD k [] == s) = true := beq_iff_eq.2 he
        have hat : atI s = (k : Int) := by unfold atI; rw [nix_at hlt (by rw [hnk, he])]
        have Hat := Lib.hid hat
        generalize NM.getD k [] = n at *
        clear hnk hat he
        go_wp2_with fail
        go_ret
        exact ⟨ret_int Hat.out.symm, hb1⟩
      · rw [decide_eq_false he] at hse
        have hbe : (NM.getD k [] == s) = false := beq_eq_false_iff_ne.2 he
        have HN : Hid (∀ j, j < k + 1 → NM[j]? ≠ some s) := Lib.hid fun j hj e => by
          rcases Nat.lt_or_ge j k with h | h
          · exact HK.out j h e
          · obtain rfl : j = k := by omega
            rw [hnk] at e; injection e with e; exact he e
        generalize NM.getD k [] = n at *
        clear hnk he
        go_wp2_with fail
        go_round
        case rel => exact ⟨k + 1, by omega, by go_num, HN⟩
        case measure => simp [intOf]; omega
    · obtain rfl : k = 11 := by omega
      have hat : atI s = -1 := by
        unfold atI
        cases hn : nix s with
        | none => rfl
        | some i => obtain ⟨hi, e⟩ := nix_some hn; exact absurd e (HK.out i hi)
      have Hat := Lib.hid hat
      clear hat
      go_wp2_with fail
      go_ret
      exact ⟨ret_int Hat.out.symm, hb1⟩

set_option maxRecDepth 100000 in
set_option maxHeartbeats 1000000 in
theorem rcount_any (r : Nat) (c : List Nat) (s : List UInt8) (w : World) (hG : RG w r c) :
    Calls Try.prog 48 #[.pointer (some ⟨r, 0, none⟩), .string ⟨s.toArray⟩] w fun e w' => e = .returned (.bool (cis s)) ∧ RG w' r (cup c s) ∧ Tch r w w' := by
  cases hn : nix s with
  | none =>
    have e1 : cis s = false := by unfold cis; rw [hn]; rfl
    have e2 : cup c s = c := by unfold cup; rw [hn]
    have e3 : atI s = -1 := by unfold atI; rw [hn]
    rw [e1, e2]
    have hat := rat_any s w
    rw [e3] at hat
    clear hn e1 e2 e3
    go_enter Try.func48, Try.ntmps48
    go_wp2_with fail
    refine hat.mono ?_
    rintro e w1 ⟨rfl, hb1⟩
    clear hat
    go_wp2_with fail
    go_ret
    exact ⟨rfl, hG.below hb1, Tch.of_below hb1⟩
  | some i =>
    have e1 : cis s = true := by unfold cis; rw [hn]; rfl
    have e2 : cup c s = c.set i (up1 (c.getD i 0)) := by unfold cup; rw [hn]
    have e3 : atI s = (i : Int) := by unfold atI; rw [hn]
    obtain ⟨hi, h⟩ := nix_some hn
    rw [e1, e2]
    have hat := rat_any s w
    rw [e3] at hat
    obtain ⟨n, hcn⟩ : ∃ n, n = c.getD i 0 := ⟨_, rfl⟩
    have hci : c[i]? = some n := by rw [hcn]; exact getD_of (by rw [hG.1]; exact hi)
    rw [← hcn]
    clear hn e1 e2 e3 h hcn
    have i0 : 0 ≤ (i : Int) := by omega
    have i1 : (i : Int) < 11 := by omega
    have i2 : i ≤ 10 := by omega
    go_enter Try.func48, Try.ntmps48
    go_wp2_with fail
    refine hat.mono ?_
    rintro e w1 ⟨rfl, hb1⟩
    have G1 := hG.below hb1
    have ci := G1.cell i n hci
    have hw : IntKind.u64.wrap ((n : Int) + 1) = ((up1 n : Nat) : Int) := wrap_sum (by unfold up1; omega)
    clear hat
    go_wp2_with fail
    refine wp_region_tail_ext 10 (by kernel_rfl) (by kernel_rfl) ?_
    simp only [List.take_succ_cons, List.take_zero, List.drop_succ_cons, List.drop_zero]
    have hp := plus_cell w1
    repeat (go_big_quiet_step (fail))
    refine wpQuiet_nil ?_
    rintro w2 ⟨x, rfl⟩
    have hx := plus_below w1 x
    have G2 := G1.below hx
    have c2 := G2.cell i n hci
    have z2 := G2.2.frozen i
    have T2 : Tch r w (plus w1 x) := (Tch.of_below hb1).trans (Tch.of_below hx)
    clear hp
    go_wp2_with fail
    go_ret
    exact ⟨rfl, G2.set i (up1 n), T2.set _ _⟩

set_option maxRecDepth 100000 in
theorem rvalue_any (r : Nat) (c : List Nat) (s : List UInt8) (w : World) (hG : RG w r c) :
    Calls Try.prog 50 #[.pointer (some ⟨r, 0, none⟩), .string ⟨s.toArray⟩] w fun e w' => e = .returned (.tuple #[.int .u64 (cval c s : Nat), .bool (cis s)]) ∧ Below w.heap.size w w' := by
  cases hn : nix s with
  | none =>
    have e1 : cis s = false := by unfold cis; rw [hn]; rfl
    have e2 : cval c s = 0 := by unfold cval; rw [hn]
    have e3 : atI s = -1 := by unfold atI; rw [hn]
    rw [e1, e2]
    have hat := rat_any s w
    rw [e3] at hat
    clear hn e1 e2 e3
    go_enter Try.func50, Try.ntmps50
    go_wp2_with fail
    refine hat.mono ?_
    rintro e w1 ⟨rfl, hb1⟩
    clear hat
    go_wp2_with fail
    go_ret2
    exact ⟨rfl, hb1⟩
  | some i =>
    have e1 : cis s = true := by unfold cis; rw [hn]; rfl
    have e2 : cval c s = c.getD i 0 := by unfold cval; rw [hn]
    have e3 : atI s = (i : Int) := by unfold atI; rw [hn]
    obtain ⟨hi, h⟩ := nix_some hn
    rw [e1, e2]
    have hat := rat_any s w
    rw [e3] at hat
    obtain ⟨n, hcn⟩ : ∃ n, n = c.getD i 0 := ⟨_, rfl⟩
    have hci : c[i]? = some n := by rw [hcn]; exact getD_of (by rw [hG.1]; exact hi)
    rw [← hcn]
    clear hn e1 e2 e3 h hcn
    have i0 : 0 ≤ (i : Int) := by omega
    have i1 : (i : Int) < 11 := by omega
    have i2 : i ≤ 10 := by omega
    go_enter Try.func50, Try.ntmps50
    go_wp2_with fail
    refine hat.mono ?_
    rintro e w1 ⟨rfl, hb1⟩
    have G1 := hG.below hb1
    have ci := G1.cell i n hci
    clear hat
    go_wp2_with fail
    go_ret2
    exact ⟨rfl, hb1⟩

set_option maxRecDepth 100000 in
theorem rtotal_any (r : Nat) (c : List Nat) (w : World) (hG : RG w r c) :
    Calls Try.prog 52 #[.pointer (some ⟨r, 0, none⟩)] w fun e w' => ∃ x : Nat, Hid (x = c.sum % 18446744073709551616) ∧ e = .returned (.int .u64 x) ∧ w = w' := by
  have HL := Lib.hid hG.1
  go_enter Try.func52, Try.ntmps52
  go_wp2_with fail
  go_loop [3, 4] (fun a i => ∃ x k : Nat, k ≤ 11 ∧ a = .int .u64 x ∧ i = .int .i64 k ∧ Hid (x = (c.take k).sum % 18446744073709551616)) (fun _ i => 11 - (intOf i).toNat)
  case atStart => exact ⟨0, 0, by omega, rfl, rfl, Lib.hid rfl⟩
  case round =>
    obtain ⟨x, k, hk, rfl, rfl, HX⟩ := hrel
    rcases Nat.lt_or_ge k 11 with hlt | hge
    · obtain ⟨n, hn⟩ : ∃ n, c[k]? = some n := ⟨_, List.getElem?_eq_getElem (by rw [HL.out]; exact hlt)⟩
      have ck := hG.cell k n hn
      obtain ⟨y, hy⟩ : ∃ y, y = (x + n) % 18446744073709551616 := ⟨_, rfl⟩
      have e1 : IntKind.u64.wrap ((x : Int) + (n : Int)) = (y : Int) := wrap_sum (by omega)
      have HY : Hid (y = (c.take (k + 1)).sum % 18446744073709551616) := Lib.hid (by rw [hy, sum_snoc c k n hn, HX.out]; omega)
      have k0 : 0 ≤ (k : Int) := by omega
      have k1 : (k : Int) < 11 := by omega
      have k3 : k ≤ 10 := by omega
      clear hy hn
      go_wp2
      go_round
      case rel => exact ⟨y, k + 1, by omega, rfl, by go_num, HY⟩
      case measure => simp [intOf]; omega
    · obtain rfl : k = 11 := by omega
      have hx : c.take 11 = c := List.take_of_length_le (by rw [HL.out]; exact Nat.le_refl _)
      go_wp2
      go_ret
      exact ⟨x, Lib.hid (by rw [HX.out, hx]), rfl, rfl⟩

/-- a name by its place, or a text -/
def nameL (s : List UInt8) (k : Nat) : List UInt8 := if k < 11 then NM.getD k [] else s
set_option maxRecDepth 100000 in
theorem name_any (s : List UInt8) (k : Nat) (w : World) (hk8 : k < 256) : Calls Try.prog 46 #[.string ⟨s.toArray⟩, .int .u8 k] w fun e w' => e = .returned (.string ⟨(nameL s k).toArray⟩) ∧ Below w.heap.size w w' := by
  by_cases hk : k < 11
  · have e1 : nameL s k = NM.getD k [] := by unfold nameL; rw [if_pos hk]
    rw [e1]
    have d1 : decide ((k : Int) < 11) = true := by simp; omega
    have d2 : decide (k < 11) = true := by simp; omega
    have e2 : IntKind.i64.wrap (k : Int) = (k : Int) := by rw [IntKind.wrap_i64]; omega
    have k0 : 0 ≤ (k : Int) := by omega
    have k1 : (k : Int) < 11 := by omega
    have k3 : k ≤ 10 := by omega
    obtain ⟨n, hn⟩ : ∃ n, n = NM.getD k [] := ⟨_, rfl⟩
    rw [← hn]
    have HN := Lib.hid hn
    clear e1 hn
    go_enter Try.func46, Try.ntmps46
    go_wp2_with fail
    refine (rNames_any _).mono ?_
    rintro e w1 ⟨p, rfl, hp, -, hb1⟩
    have ck := hp.name k hk
    rw [← HN.out] at ck
    clear hk hp
    go_wp2_with fail
    go_ret
    exact ⟨rfl, hb1⟩
  · have e1 : nameL s k = s := by unfold nameL; rw [if_neg hk]
    rw [e1]
    have d1 : decide ((k : Int) < 11) = false := by simp; omega
    have d2 : decide (k < 11) = false := by simp; omega
    have e2 : IntKind.i64.wrap (k : Int) = (k : Int) := by rw [IntKind.wrap_i64]; omega
    clear e1
    go_enter Try.func46, Try.ntmps46
    go_wp2_with fail
    refine (rNames_any _).mono ?_
    rintro e w1 ⟨p, rfl, hp, -, hb1⟩
    clear hp hk
    go_wp2_with fail
    go_ret
    exact ⟨rfl, hb1⟩

end Go.Proofs.Ytmfoccbidlonmaa
