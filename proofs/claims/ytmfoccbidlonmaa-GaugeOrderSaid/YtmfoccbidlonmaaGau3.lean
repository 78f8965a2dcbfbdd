/- Count, Value, Total, Names of gauges. -/
import Derived.Test.YtmfoccbidlonmaaGau2
namespace Go.Proofs.Ytmfoccbidlonmaa
open Go.RowKit Go.Maps Go.ChangeMaps Go.MapKept Go.WideMaps

theorem gfill_enters (pb : Nat) (w : World) : (callFunc 82 (#[] ++ #[.pointer (some ⟨pb, 0, none⟩)])).run Try.prog w = .ok (.enter 82 (#[] ++ #[.pointer (some ⟨pb, 0, none⟩)])) w :=
  callFunc_enter Try.func82 (by kernel_rfl) (by kernel_rfl) _ w

set_option maxRecDepth 100000 in
set_option maxHeartbeats 1600000 in
theorem gDo_any (pb g : Nat) (c : List Nat) (w : World) (hp : w.cell? ⟨pb, 0, none⟩ = some (.pointer (some ⟨g, 0, none⟩))) (hpg : pb ≠ g) (h : GF w g c ∨ GM w g c) :
    Calls Try.prog 81 #[.pointer (some ⟨g, 0, none⟩), .func (.func 82) #[] #[.pointer (some ⟨pb, 0, none⟩)]] w fun e w' => e = .returned (.tuple #[]) ∧ GM w' g c ∧ Tch g w w' := by
  rcases h with h | h
  · have c0 : w.cell? ⟨g, 0, none⟩ = some (.int .u32 0) := (h.cell 0).trans (gArr_0 _ _ _ _)
    have c1 : w.cell? ⟨g, 0 + 1, none⟩ = some (.int .i32 0) := (h.cell 1).trans (gArr_1 _ _ _ _)
    have B1 : Blk (w.setCell ⟨g, 0 + 1, none⟩ (.int .i32 1)) g GT (gArr 0 1 (.map none) c) := by
      rw [← gArr_set1 0 0 1]; exact h.set 1 _
    have p1 : (w.setCell ⟨g, 0 + 1, none⟩ (.int .i32 1)).cell? ⟨pb, 0, none⟩ = some (.pointer (some ⟨g, 0, none⟩)) := by
      rw [World.cell?_setCell_other _ ⟨g, 0 + 1, none⟩ ⟨pb, 0, none⟩ _ (by simp)]; exact hp
    refine (do_first g 0 _ #[] #[.pointer (some ⟨pb, 0, none⟩)] (fun w2 => ∃ b, Blk w2 g GT (gArr 0 1 (.map (some b)) c) ∧ w2.ownsMap Try.prog MK (plainElem (H := Unit) Try.prog ME) b 11 (dmap 11) ∧ Tch g (w.setCell ⟨g, 0 + 1, none⟩ (.int .i32 1)) w2) w c0 c1 (h.frozen 1) (gfill_enters pb) (gfill_any pb g c _ p1 hpg B1) ?_).mono ?_
    · rintro w2 ⟨b, hb, _⟩
      exact ⟨(hb.cell 0).trans (gArr_0 _ _ _ _), (hb.cell 1).trans (gArr_1 _ _ _ _), hb.frozen 0, hb.frozen 1⟩
    · rintro e w' ⟨rfl, w2, ⟨b, hb, hm, t⟩, rfl⟩
      have hne := map_ne hb hm
      refine ⟨rfl, ⟨b, ?_, ?_⟩, ?_⟩
      · have b2 := ((hb.set 0 (.int .u32 1)).set 1 (.int .i32 0)).drew
        rw [show (Value.int .u32 1) = .int .u32 ((1 : Nat) : Int) from rfl, gArr_set0, gArr_set1] at b2
        exact b2
      · exact ((hm.setCell hne _).setCell hne _).drew
      · exact (((((Tch.refl g w).set 1 _).trans t).set 0 _).set 1 _).drew
  · obtain ⟨b, hb, hm⟩ := h
    refine (do_done _ _ w ((hb.cell 0).trans (gArr_0 _ _ _ _))).mono ?_
    rintro e w' ⟨rfl, rfl⟩
    exact ⟨rfl, ⟨b, hb, hm⟩, Tch.refl _ _⟩

set_option maxRecDepth 100000 in
set_option maxHeartbeats 1600000 in
theorem counter_found (g : Nat) (c : List Nat) (i : Nat) (s : List UInt8) (w : World) (hG : GG w g c) (hi : i < 11) (hs : NM[i]? = some s) :
    Calls Try.prog 70 #[.pointer (some ⟨g, 0, none⟩), .string ⟨s.toArray⟩] w fun e w' => e = .returned (.pointer (some ⟨g, 4 + i, none⟩)) ∧ GM w' g c ∧ Tch g w w' := by
  have hmf : ∀ (fn : Fn) (first cap : Array Value) (w : World), (Instr.makeFunc fn first cap).run Try.prog w = .ok (.func fn first cap) w := fun _ _ _ _ => rfl
  have hsl : s.length ≤ maxLen := Nat.le_trans (NM_len s (List.mem_of_getElem? hs)) (by decide)
  have hkey := key_of s hsl
  obtain ⟨_, hhas, hat⟩ := dmap_spec 11 (Nat.le_refl _)
  have hh : Maps.has (dmap 11) (.string s) = true := (hhas s).2 ⟨i, hi, hs⟩
  have ha := hat i s hi hs
  have Hkey := Lib.hid hkey
  have Ha := Lib.hid ha
  have hg := hG.lt
  have W1 := hG.below (below_alloc w (.cells #[.pointer (some ⟨g, 0, none⟩)] 74))
  have p1 : (w.alloc (.cells #[.pointer (some ⟨g, 0, none⟩)] 74)).cell? ⟨w.heap.size, 0, none⟩ = some (.pointer (some ⟨g, 0, none⟩)) := box_cell w _ _ 0 _ rfl
  have i0 : 0 ≤ (i : Int) := by omega
  have i1 : (i : Int) < 11 := by omega
  have i2 : i ≤ 10 := by omega
  clear hkey hhas hat ha hs hsl
  go_enter Try.func70, Try.ntmps70
  go_wp2_with fail
  refine (gDo_any w.heap.size g c _ p1 (by omega) W1.2).mono ?_
  rintro e w2 ⟨rfl, ⟨b, hb, hm⟩, hT⟩
  have p2 : w2.cell? ⟨w.heap.size, 0, none⟩ = some (.pointer (some ⟨g, 0, none⟩)) := by
    rw [World.cell?_of_block (hT.block w.heap.size (by simp) (by intro e; injection e with e; omega))]; exact p1
  have c3 : w2.cell? ⟨g, 3, none⟩ = some (.map (some b)) := (hb.cell 3).trans (gArr_3 _ _ _ _)
  clear hmf p1 W1
  go_wp2_with (at_lookup; go_must (refine wpList_lookup_own_ok_int _ rfl _ _ 121 rfl MK ME .i64 Try.nmLaw Try.underlying121 Try.underlying3 (Try.zeroE _) b 11 (dmap 11) rfl hm _ _ rfl Hkey.out ?_); intro cc hcc _; obtain rfl : cc = (i : Int) := by (rw [Ha.out] at hcc; injection hcc with hcc; injection hcc with _ hcc; exact hcc.symm))
  go_ret
  refine ⟨rfl, ⟨b, hb, hm⟩, ?_⟩
  exact (Tch.of_below (below_alloc w _)).trans hT

/-- no name -/
def NoName (s : List UInt8) : Prop := ∀ i, i < 11 → NM[i]? ≠ some s
theorem has_none {s : List UInt8} (h : NoName s) : Maps.has (dmap 11) (.string s) = false := by
  cases hh : Maps.has (dmap 11) (.string s)
  · rfl
  · obtain ⟨i, hi, e⟩ := ((dmap_spec 11 (Nat.le_refl _)).2.1 s).1 hh
    exact absurd e (h i hi)

set_option maxRecDepth 100000 in
set_option maxHeartbeats 1600000 in
theorem counter_none (g : Nat) (c : List Nat) (s : List UInt8) (w : World) (hG : GG w g c) (hs : NoName s) (hsl : s.length ≤ maxLen) :
    Calls Try.prog 70 #[.pointer (some ⟨g, 0, none⟩), .string ⟨s.toArray⟩] w fun e w' => e = .returned (.pointer none) ∧ GM w' g c ∧ Tch g w w' := by
  have hmf : ∀ (fn : Fn) (first cap : Array Value) (w : World), (Instr.makeFunc fn first cap).run Try.prog w = .ok (.func fn first cap) w := fun _ _ _ _ => rfl
  have Hkey := Lib.hid (key_of s hsl)
  have hh := has_none hs
  have hg := hG.lt
  have W1 := hG.below (below_alloc w (.cells #[.pointer (some ⟨g, 0, none⟩)] 74))
  have p1 : (w.alloc (.cells #[.pointer (some ⟨g, 0, none⟩)] 74)).cell? ⟨w.heap.size, 0, none⟩ = some (.pointer (some ⟨g, 0, none⟩)) := box_cell w _ _ 0 _ rfl
  clear hs hsl
  go_enter Try.func70, Try.ntmps70
  go_wp2_with fail
  refine (gDo_any w.heap.size g c _ p1 (by omega) W1.2).mono ?_
  rintro e w2 ⟨rfl, ⟨b, hb, hm⟩, hT⟩
  have p2 : w2.cell? ⟨w.heap.size, 0, none⟩ = some (.pointer (some ⟨g, 0, none⟩)) := by
    rw [World.cell?_of_block (hT.block w.heap.size (by simp) (by intro e; injection e with e; omega))]; exact p1
  have c3 : w2.cell? ⟨g, 3, none⟩ = some (.map (some b)) := (hb.cell 3).trans (gArr_3 _ _ _ _)
  clear hmf p1 W1
  go_wp2_with (at_lookup; go_must (refine wpList_lookup_own_ok_int _ rfl _ _ 121 rfl MK ME .i64 Try.nmLaw Try.underlying121 Try.underlying3 (Try.zeroE _) b 11 (dmap 11) rfl hm _ _ rfl Hkey.out ?_); intro cc _ _)
  go_ret
  refine ⟨rfl, ⟨b, hb, hm⟩, ?_⟩
  exact (Tch.of_below (below_alloc w _)).trans hT

theorem GM.cellc {w : World} {g : Nat} {c : List Nat} (h : GM w g c) (i n : Nat) (hn : c[i]? = some n) : w.cell? ⟨g, 4 + i, none⟩ = some (.int .u64 n) := by
  obtain ⟨b, hb, _⟩ := h
  exact (hb.cell (4 + i)).trans (gArr_c _ _ _ _ _ _ hn)
theorem GM.frz {w : World} {g : Nat} {c : List Nat} (h : GM w g c) (i : Nat) : w.frozen? ⟨g, i, none⟩ = false := by obtain ⟨b, hb, _⟩ := h; exact hb.frozen i
theorem GG.cellc {w : World} {g : Nat} {c : List Nat} (h : GG w g c) (i n : Nat) (hn : c[i]? = some n) : w.cell? ⟨g, 4 + i, none⟩ = some (.int .u64 n) := by
  rcases h.2 with h | h
  · exact (Blk.cell h (4 + i)).trans (gArr_c _ _ _ _ _ _ hn)
  · exact h.cellc i n hn
theorem GM.set {w : World} {g : Nat} {c : List Nat} (h : GM w g c) (i n : Nat) : GM (w.setCell ⟨g, 4 + i, none⟩ (.int .u64 n)) g (c.set i n) := by
  obtain ⟨b, hb, hm⟩ := h
  refine ⟨b, ?_, hm.setCell (map_ne hb hm) _⟩
  rw [← gArr_setc]
  exact hb.set (4 + i) _

theorem wrap_sum {x : Int} {n : Nat} (h : x % 18446744073709551616 = n) : IntKind.u64.wrap x = (n : Int) := by rw [IntKind.wrap_u64]; exact h
def up1 (n : Nat) : Nat := (n + 1) % 18446744073709551616

set_option maxRecDepth 100000 in
theorem count_found (g : Nat) (c : List Nat) (i n : Nat) (s : List UInt8) (w : World) (hG : GG w g c) (hi : i < 11) (hs : NM[i]? = some s) (hn : c[i]? = some n) :
    Calls Try.prog 47 #[.pointer (some ⟨g, 0, none⟩), .string ⟨s.toArray⟩] w fun e w' => e = .returned (.bool true) ∧ GG w' g (c.set i (up1 n)) ∧ Tch g w w' := by
  have hl := hG.1
  have HS := Lib.hid (And.intro hs hn)
  clear hs hn
  go_enter Try.func47, Try.ntmps47
  go_wp2_with fail
  refine (counter_found g c i s _ hG hi HS.out.1).mono ?_
  rintro e w1 ⟨rfl, hM, hT⟩
  have ci := hM.cellc i n HS.out.2
  have zi := hM.frz (4 + i)
  have hw : IntKind.u64.wrap ((n : Int) + 1) = ((up1 n : Nat) : Int) := wrap_sum (by unfold up1; omega)
  have hadd := run_call_add (P := Try.prog) Try.func83 (by kernel_rfl) (by kernel_rfl) (by kernel_rfl) .u64 (by kernel_rfl) (y := 1) (s := (up1 n : Nat)) ci zi (by simp [go_sem]; exact hw)
  have hMs := hM.set i (up1 n)
  have hTs := hT.set (4 + i) (.int .u64 (up1 n))
  clear hw hl
  go_wp2
  go_ret
  exact ⟨rfl, ⟨by rw [List.length_set]; exact hG.1, .inr hMs⟩, hTs⟩

set_option maxRecDepth 100000 in
theorem count_none (g : Nat) (c : List Nat) (s : List UInt8) (w : World) (hG : GG w g c) (hs : NoName s) (hsl : s.length ≤ maxLen) :
    Calls Try.prog 47 #[.pointer (some ⟨g, 0, none⟩), .string ⟨s.toArray⟩] w fun e w' => e = .returned (.bool false) ∧ GG w' g c ∧ Tch g w w' := by
  have HS := Lib.hid hs
  clear hs
  go_enter Try.func47, Try.ntmps47
  go_wp2_with fail
  refine (counter_none g c s _ hG HS.out hsl).mono ?_
  rintro e w1 ⟨rfl, hM, hT⟩
  go_wp2_with fail
  go_ret
  exact ⟨rfl, ⟨hG.1, .inr hM⟩, hT⟩

set_option maxRecDepth 100000 in
theorem value_found (g : Nat) (c : List Nat) (i n : Nat) (s : List UInt8) (w : World) (hG : GG w g c) (hi : i < 11) (hs : NM[i]? = some s) (hn : c[i]? = some n) :
    Calls Try.prog 49 #[.pointer (some ⟨g, 0, none⟩), .string ⟨s.toArray⟩] w fun e w' => e = .returned (.tuple #[.int .u64 n, .bool true]) ∧ GG w' g c ∧ Tch g w w' := by
  have HS := Lib.hid (And.intro hs hn)
  clear hs hn
  go_enter Try.func49, Try.ntmps49
  go_wp2_with fail
  refine (counter_found g c i s _ hG hi HS.out.1).mono ?_
  rintro e w1 ⟨rfl, hM, hT⟩
  have ci := hM.cellc i n HS.out.2
  have hl := run_call_load (P := Try.prog) Try.func84 (by kernel_rfl) (by kernel_rfl) (by kernel_rfl) .u64 (by kernel_rfl) ci
  go_wp2
  go_ret2
  exact ⟨rfl, ⟨hG.1, .inr hM⟩, hT⟩

set_option maxRecDepth 100000 in
theorem value_none (g : Nat) (c : List Nat) (s : List UInt8) (w : World) (hG : GG w g c) (hs : NoName s) (hsl : s.length ≤ maxLen) :
    Calls Try.prog 49 #[.pointer (some ⟨g, 0, none⟩), .string ⟨s.toArray⟩] w fun e w' => e = .returned (.tuple #[.int .u64 0, .bool false]) ∧ GG w' g c ∧ Tch g w w' := by
  have HS := Lib.hid hs
  clear hs
  go_enter Try.func49, Try.ntmps49
  go_wp2_with fail
  refine (counter_none g c s _ hG HS.out hsl).mono ?_
  rintro e w1 ⟨rfl, hM, hT⟩
  go_wp2_with fail
  go_ret2
  exact ⟨rfl, ⟨hG.1, .inr hM⟩, hT⟩

theorem sum_snoc (c : List Nat) (k n : Nat) (h : c[k]? = some n) : (c.take (k + 1)).sum = (c.take k).sum + n := by
  obtain ⟨hk, rfl⟩ := List.getElem?_eq_some_iff.1 h
  rw [List.take_succ_eq_append_getElem hk, List.sum_append]; simp

set_option maxRecDepth 100000 in
theorem total_any (g : Nat) (c : List Nat) (w : World) (hG : GG w g c) :
    Calls Try.prog 51 #[.pointer (some ⟨g, 0, none⟩)] w fun e w' => ∃ x : Nat, Hid (x = c.sum % 18446744073709551616) ∧ e = .returned (.int .u64 x) ∧ w = w' := by
  have HL := Lib.hid hG.1
  go_enter Try.func51, Try.ntmps51
  go_wp2_with fail
  go_loop [3, 5] (fun a i => ∃ x k : Nat, k ≤ 11 ∧ a = .int .u64 x ∧ i = .int .i64 k ∧ Hid (x = (c.take k).sum % 18446744073709551616)) (fun _ i => 11 - (intOf i).toNat)
  case atStart => exact ⟨0, 0, by omega, rfl, rfl, Lib.hid rfl⟩
  case round =>
    obtain ⟨x, k, hk, rfl, rfl, HX⟩ := hrel
    rcases Nat.lt_or_ge k 11 with hlt | hge
    · obtain ⟨n, hn⟩ : ∃ n, c[k]? = some n := ⟨_, List.getElem?_eq_getElem (by rw [HL.out]; exact hlt)⟩
      have ck := hG.cellc k n hn
      have hl := run_call_load (P := Try.prog) Try.func84 (by kernel_rfl) (by kernel_rfl) (by kernel_rfl) .u64 (by kernel_rfl) ck
      obtain ⟨y, hy⟩ : ∃ y, y = (x + n) % 18446744073709551616 := ⟨_, rfl⟩
      have e1 : IntKind.u64.wrap ((x : Int) + (n : Int)) = (y : Int) := wrap_sum (by omega)
      have HY : Hid (y = (c.take (k + 1)).sum % 18446744073709551616) := Lib.hid (by rw [hy, sum_snoc c k n hn, HX.out]; omega)
      have k0 : 0 ≤ (k : Int) := by omega
      have k1 : (k : Int) < 11 := by omega
      have k3 : k ≤ 10 := by omega
      clear hy hn ck
      go_wp2
      go_round
      case rel => exact ⟨y, k + 1, by omega, rfl, by go_num, HY⟩
      case measure => simp [intOf]; omega
    · obtain rfl : k = 11 := by omega
      have hx : c.take 11 = c := List.take_of_length_le (by rw [HL.out]; exact Nat.le_refl _)
      go_wp2
      go_ret
      exact ⟨x, Lib.hid (by rw [HX.out, hx]), rfl, rfl⟩

/-- a slice of all names -/
def IsNames (w : World) (v : Value) : Prop := ∃ g, v = .slice (some ⟨g, 0, none⟩) 11 11 ∧ Blk w g 130 NV
set_option maxRecDepth 100000 in
theorem gNames_any (g : Nat) (w : World) : Calls Try.prog 44 #[.pointer (some ⟨g, 0, none⟩)] w fun e w' => ∃ p, e = .returned (.slice (some ⟨p, 0, none⟩) 11 11) ∧ Blk w' p 130 NV ∧ w.heap.size ≤ p ∧ Below w.heap.size w w' := by
  have hn := gnames_any w
  unfold NV at hn
  go_enter Try.func44, Try.ntmps44
  go_wp2_with fail
  refine hn.mono ?_
  rintro e w1 ⟨rfl, hb1⟩
  clear hn
  go_wp2_with fail
  go_ret
  exact ⟨w1.heap.size, rfl, Blk.new w1 _ _, hb1.size, on hb1 (Below.refl _ _)⟩

end Go.Proofs.Ytmfoccbidlonmaa
