/- A gauge in memory; the map of names is made once. -/
import Derived.Test.YtmfoccbidlonmaaGau1
import Derived.StringKeys
namespace Go.Proofs.Ytmfoccbidlonmaa
open Go.RowKit Go.Maps Go.ChangeMaps Go.MapKept Go.WideMaps

def u64v (n : Nat) : Value := .int .u64 n
def gArr (d : Nat) (l : Int) (m : Value) (c : List Nat) : Array Value := #[.int .u32 d, .int .i32 l, .int .u32 0, m] ++ (c.map u64v).toArray
theorem gArr_0 (d : Nat) (l : Int) (m : Value) (c : List Nat) : (gArr d l m c)[0]? = some (.int .u32 d) := by unfold gArr; rw [Array.getElem?_append_left (by simp)]; rfl
theorem gArr_1 (d : Nat) (l : Int) (m : Value) (c : List Nat) : (gArr d l m c)[1]? = some (.int .i32 l) := by unfold gArr; rw [Array.getElem?_append_left (by simp)]; rfl
theorem gArr_3 (d : Nat) (l : Int) (m : Value) (c : List Nat) : (gArr d l m c)[3]? = some m := by unfold gArr; rw [Array.getElem?_append_left (by simp)]; rfl
theorem gArr_c (d : Nat) (l : Int) (m : Value) (c : List Nat) (i n : Nat) (h : c[i]? = some n) : (gArr d l m c)[4 + i]? = some (.int .u64 n) := by
  unfold gArr
  rw [Array.getElem?_append_right (by simp)]
  simp [h, u64v]
theorem gArr_set0 (d d' : Nat) (l : Int) (m : Value) (c : List Nat) : (gArr d l m c).setIfInBounds 0 (.int .u32 d') = gArr d' l m c := by unfold gArr; rw [Array.setIfInBounds_append_left (by simp)]; rfl
theorem gArr_set1 (d : Nat) (l l' : Int) (m : Value) (c : List Nat) : (gArr d l m c).setIfInBounds 1 (.int .i32 l') = gArr d l' m c := by unfold gArr; rw [Array.setIfInBounds_append_left (by simp)]; rfl
theorem gArr_set3 (d : Nat) (l : Int) (m m' : Value) (c : List Nat) : (gArr d l m c).setIfInBounds 3 m' = gArr d l m' c := by unfold gArr; rw [Array.setIfInBounds_append_left (by simp)]; rfl
theorem gArr_setc (d : Nat) (l : Int) (m : Value) (c : List Nat) (i n : Nat) : (gArr d l m c).setIfInBounds (4 + i) (.int .u64 n) = gArr d l m (c.set i n) := by
  unfold gArr
  rw [Array.setIfInBounds_append_right (by simp)]
  congr 1
  simp [List.map_set, u64v]

abbrev GT : TypeId := 126
abbrev MK : TypeId := 9
abbrev ME : TypeId := 3
abbrev Try.nmLaw : Keyed Try.prog MK := string_keyed Try.underlying9
theorem Try.zeroE (w : World) : (zeroValue ME).run Try.prog w = .ok (.int .i64 0) w := by kernel_rfl

/-- a gauge: not used yet, or used; what it has counted -/
def GF (w : World) (g : Nat) (c : List Nat) : Prop := Blk w g GT (gArr 0 0 (.map none) c)
def GM (w : World) (g : Nat) (c : List Nat) : Prop := ∃ b, Blk w g GT (gArr 1 0 (.map (some b)) c) ∧ w.ownsMap Try.prog MK (plainElem (H := Unit) Try.prog ME) b 11 (dmap 11)
def GG (w : World) (g : Nat) (c : List Nat) : Prop := c.length = 11 ∧ (GF w g c ∨ GM w g c)
theorem GM.lt {w : World} {g : Nat} {c : List Nat} (h : GM w g c) : g < w.heap.size := by obtain ⟨b, hb, _⟩ := h; exact hb.lt
theorem GG.lt {w : World} {g : Nat} {c : List Nat} (h : GG w g c) : g < w.heap.size := by
  rcases h.2 with h | h
  · exact Blk.lt h
  · exact h.lt
theorem map_ne {w : World} {g b n : Nat} {t : TypeId} {cs : Array Value} {D : DataW Unit} {R : Value → Option (DataW Unit × List MemPlace)} (h : Blk w g t cs) (m : w.ownsMap Try.prog MK R b n D) : b ≠ g := by
  rintro rfl
  obtain ⟨es, clock, hm, _⟩ := m
  unfold Blk at h
  rw [h] at hm
  cases hm
theorem GM.tch {w w' : World} {g g' : Nat} {c : List Nat} {t : TypeId} {cs : Array Value} (h : GM w g c) (k : Blk w g' t cs) (hne : g ≠ g') (T : Tch g' w w') : GM w' g c := by
  obtain ⟨b, hb, hm⟩ := h
  exact ⟨b, hb.tch T hne, hm.kept T (by intro e; injection e with e; exact map_ne k hm e)⟩
theorem GG.tch {w w' : World} {g g' : Nat} {c : List Nat} {t : TypeId} {cs : Array Value} (h : GG w g c) (k : Blk w g' t cs) (hne : g ≠ g') (T : Tch g' w w') : GG w' g c := by
  obtain ⟨hl, h⟩ := h
  rcases h with h | h
  · exact ⟨hl, .inl (Blk.tch h T hne)⟩
  · exact ⟨hl, .inr (h.tch k hne T)⟩
theorem Tch.none_of {w w' : World} (h : Below w.heap.size w w') : w.grownBy w' none := ⟨h.os, h.tape, h.output, h.size, fun k hk _ => h.block k hk⟩
theorem GM.below {w w' : World} {g : Nat} {c : List Nat} (h : GM w g c) (t : Below w.heap.size w w') : GM w' g c := by
  obtain ⟨b, hb, hm⟩ := h
  exact ⟨b, hb.below t hb.lt, hm.kept (Tch.none_of t) (by simp)⟩
theorem GG.below {w w' : World} {g : Nat} {c : List Nat} (h : GG w g c) (t : Below w.heap.size w w') : GG w' g c := by
  obtain ⟨hl, h⟩ := h
  rcases h with h | h
  · exact ⟨hl, .inl (Blk.below h t (Blk.lt h))⟩
  · exact ⟨hl, .inr (h.below t)⟩

theorem gNew_any (w : World) : Calls Try.prog 41 #[] w fun e w' => e = .returned (.pointer (some ⟨w.heap.size, 0, none⟩)) ∧ GG w' w.heap.size (List.replicate 11 0) ∧ Below w.heap.size w w' := by
  go_enter Try.func41, Try.ntmps41
  go_wp2_with fail
  exact bodyPost_ret (v := .pointer (some ⟨w.heap.size, 0, none⟩)) (by simp [results, Try.results41, go_sem]) rfl ⟨rfl, ⟨rfl, .inl (Eq.subst (motive := fun cs => Blk _ _ _ cs) (by kernel_rfl) (Blk.new w _ _))⟩, below_alloc _ _⟩

theorem gnames_any (w : World) : Calls Try.prog 69 #[] w fun e w' => e = .returned (.agg NV) ∧ Below w.heap.size w w' := by
  go_enter Try.func69, Try.ntmps69
  go_wp2_with fail
  exact bodyPost_ret (results_cell_row Try.results69 _ _ w.heap.size 130 NV (0, 0) _ rfl (heap_alloc_new w _) Try.underlying130 rfl (by kernel_rfl)) rfl ⟨rfl, below_alloc _ _⟩

theorem Tch.grow {g b : Nat} {w wr w1 : World} (h : Tch g w wr) (k : wr.grownBy w1 (some b)) (hb : w.heap.size ≤ b) : Tch g w w1 :=
  ⟨k.os.trans h.os, k.tape.trans h.tape, k.output.trans h.output, Nat.le_trans h.size k.size, fun i hi hne => (k.block i (Nat.lt_of_lt_of_le hi h.size) (by intro e; injection e with e; omega)).trans (h.block i hi hne)⟩
theorem key_of (l : List UInt8) (h : l.length ≤ maxLen) : keyOf Try.prog MK (.string ⟨l.toArray⟩) = some (.string l) := by
  have := keyOf_string_mk (k := MK) Try.underlying9 (s := ⟨l.toArray⟩) (by show l.toArray.size ≤ maxLen; simpa using h)
  simpa using this
theorem idx_names_0 (w : World) : (Instr.index 130 (.agg NV) (.int .i64 ((0 : Nat) : Int))).run Try.prog w = .ok (.string ⟨(NM.getD 0 []).toArray⟩) w := by kernel_rfl
theorem idx_names_1 (w : World) : (Instr.index 130 (.agg NV) (.int .i64 ((1 : Nat) : Int))).run Try.prog w = .ok (.string ⟨(NM.getD 1 []).toArray⟩) w := by kernel_rfl
theorem idx_names_2 (w : World) : (Instr.index 130 (.agg NV) (.int .i64 ((2 : Nat) : Int))).run Try.prog w = .ok (.string ⟨(NM.getD 2 []).toArray⟩) w := by kernel_rfl
theorem idx_names_3 (w : World) : (Instr.index 130 (.agg NV) (.int .i64 ((3 : Nat) : Int))).run Try.prog w = .ok (.string ⟨(NM.getD 3 []).toArray⟩) w := by kernel_rfl
theorem idx_names_4 (w : World) : (Instr.index 130 (.agg NV) (.int .i64 ((4 : Nat) : Int))).run Try.prog w = .ok (.string ⟨(NM.getD 4 []).toArray⟩) w := by kernel_rfl
theorem idx_names_5 (w : World) : (Instr.index 130 (.agg NV) (.int .i64 ((5 : Nat) : Int))).run Try.prog w = .ok (.string ⟨(NM.getD 5 []).toArray⟩) w := by kernel_rfl
theorem idx_names_6 (w : World) : (Instr.index 130 (.agg NV) (.int .i64 ((6 : Nat) : Int))).run Try.prog w = .ok (.string ⟨(NM.getD 6 []).toArray⟩) w := by kernel_rfl
theorem idx_names_7 (w : World) : (Instr.index 130 (.agg NV) (.int .i64 ((7 : Nat) : Int))).run Try.prog w = .ok (.string ⟨(NM.getD 7 []).toArray⟩) w := by kernel_rfl
theorem idx_names_8 (w : World) : (Instr.index 130 (.agg NV) (.int .i64 ((8 : Nat) : Int))).run Try.prog w = .ok (.string ⟨(NM.getD 8 []).toArray⟩) w := by kernel_rfl
theorem idx_names_9 (w : World) : (Instr.index 130 (.agg NV) (.int .i64 ((9 : Nat) : Int))).run Try.prog w = .ok (.string ⟨(NM.getD 9 []).toArray⟩) w := by kernel_rfl
theorem idx_names_10 (w : World) : (Instr.index 130 (.agg NV) (.int .i64 ((10 : Nat) : Int))).run Try.prog w = .ok (.string ⟨(NM.getD 10 []).toArray⟩) w := by kernel_rfl
theorem idx_names (k : Nat) (hk : k < 11) (w : World) : (Instr.index 130 (.agg NV) (.int .i64 (k : Int))).run Try.prog w = .ok (.string ⟨(NM.getD k []).toArray⟩) w := by
  match k, hk with
  | 0, _ => exact idx_names_0 w
  | 1, _ => exact idx_names_1 w
  | 2, _ => exact idx_names_2 w
  | 3, _ => exact idx_names_3 w
  | 4, _ => exact idx_names_4 w
  | 5, _ => exact idx_names_5 w
  | 6, _ => exact idx_names_6 w
  | 7, _ => exact idx_names_7 w
  | 8, _ => exact idx_names_8 w
  | 9, _ => exact idx_names_9 w
  | 10, _ => exact idx_names_10 w
  | n + 11, h => omega

set_option maxRecDepth 100000 in
theorem gfill_any (pb g : Nat) (c : List Nat) (w : World) (hp : w.cell? ⟨pb, 0, none⟩ = some (.pointer (some ⟨g, 0, none⟩))) (hpg : pb ≠ g) (hB : Blk w g GT (gArr 0 1 (.map none) c)) :
    Calls Try.prog 82 #[.pointer (some ⟨pb, 0, none⟩)] w fun e w' => e = .returned (.tuple #[]) ∧
      ∃ b, Blk w' g GT (gArr 0 1 (.map (some b)) c) ∧ w'.ownsMap Try.prog MK (plainElem (H := Unit) Try.prog ME) b 11 (dmap 11) ∧ Tch g w w' := by
  have hmm := @run_makeMap Try.prog
  have c3 : w.cell? ⟨g, 3, none⟩ = some (.map none) := (hB.cell 3).trans (gArr_3 _ _ _ _)
  have z3 := hB.frozen 3
  have hg := hB.lt
  have hpl : pb < w.heap.size := cell_lt hp
  have B1 : Blk ((w.setCell ⟨g, 3, none⟩ (.map (some w.heap.size))).alloc (.map #[] 0)) g GT (gArr 0 1 (.map (some w.heap.size)) c) := by
    rw [← gArr_set3 0 1 (.map none)]; exact Blk.alloc (hB.set 3 _) _
  have m1 : ((w.setCell ⟨g, 3, none⟩ (.map (some w.heap.size))).alloc (.map #[] 0)).ownsMap Try.prog MK (plainElem (H := Unit) Try.prog ME) w.heap.size 0 (dmap 0) := by
    have h := World.ownsMap_made (w.setCell ⟨g, 3, none⟩ (.map (some w.heap.size))) Try.prog MK (plainElem (H := Unit) Try.prog ME)
    rw [show (w.setCell ⟨g, 3, none⟩ (.map (some w.heap.size))).heap.size = w.heap.size by simp [World.setCell]] at h
    exact h
  have T1 : Tch g w ((w.setCell ⟨g, 3, none⟩ (.map (some w.heap.size))).alloc (.map #[] 0)) := ((Tch.refl g w).set 3 _).trans (Tch.of_below (below_alloc _ _))
  have p1 : ((w.setCell ⟨g, 3, none⟩ (.map (some w.heap.size))).alloc (.map #[] 0)).cell? ⟨pb, 0, none⟩ = some (.pointer (some ⟨g, 0, none⟩)) := by
    have h : (w.setCell ⟨g, 3, none⟩ (.map (some w.heap.size))).cell? ⟨pb, 0, none⟩ = some (.pointer (some ⟨g, 0, none⟩)) := by
      rw [World.cell?_setCell_other _ ⟨g, 3, none⟩ ⟨pb, 0, none⟩ _ (by simp)]
      exact hp
    exact (keepA _ _ _ (by rw [h]; rfl)).trans h
  go_enter Try.func82, Try.ntmps82
  go_wp2_with fail
  refine (gnames_any _).mono ?_
  rintro e w2 ⟨rfl, hb2⟩
  have B2 := B1.below hb2 B1.lt
  have m2 := m1.kept (Tch.none_of hb2) (by simp)
  have T2 := T1.trans (Tch.of_below hb2)
  have p2 := (hb2.cell (cell_lt p1)).trans p1
  clear B1 m1 T1 p1 hb2 hB hp c3 z3
  go_wp2_with fail
  go_loopw [8] (fun i wr => ∃ k : Nat, k ≤ 11 ∧ i = .int .i64 k ∧ Blk wr g GT (gArr 0 1 (.map (some w.heap.size)) c) ∧ wr.ownsMap Try.prog MK (plainElem (H := Unit) Try.prog ME) w.heap.size k (dmap k) ∧ Tch g w wr ∧ wr.cell? ⟨pb, 0, none⟩ = some (.pointer (some ⟨g, 0, none⟩))) (fun i _ => 11 - (intOf i).toNat)
  case atStart => exact ⟨0, by omega, rfl, B2, m2, T2, p2⟩
  case round =>
    obtain ⟨k, hk, rfl, HB, HM, HT, HP⟩ := hrel
    have c3 : wr.cell? ⟨g, 3, none⟩ = some (.map (some w.heap.size)) := (HB.cell 3).trans (gArr_3 _ _ _ _)
    rcases Nat.lt_or_ge k 11 with hlt | hge
    · have hidx := idx_names k hlt
      have hlen : (NM.getD k []).length ≤ maxLen := by
        rw [List.getD_eq_getElem?_getD, List.getElem?_eq_getElem (show k < NM.length from hlt)]
        exact Nat.le_trans (NM_len _ (List.getElem_mem _)) (by decide)
      obtain ⟨s, hs⟩ : ∃ s, s = NM.getD k [] := ⟨_, rfl⟩
      rw [← hs] at hidx hlen
      have hkey := key_of s hlen
      have hdm : dmap (k + 1) = (dmap k).put (.string s) (.lit (.int .i64 k)) := by rw [hs]; rfl
      have Hdm := Lib.hid hdm
      have Hkey := Lib.hid hkey
      clear hs hlen hkey hdm
      go_wp2_with (at_mapUpdate; go_must (refine wpList_mapUpdate_own _ rfl _ _ _ 121 rfl MK ME Try.nmLaw Try.underlying121 _ w.heap.size k _ rfl HM (by unfold maxLen; omega) _ _ _ rfl rfl Hkey.out _ [] (plainElem_int Try.underlying3 (WalkArith.wf_i64 (by omega))) ?_); intro w3 hown3 hgrow3)
      have hne : w.heap.size ≠ g := by omega
      go_roundw
      case rel =>
        refine ⟨k + 1, by omega, by go_num, (hgrow3.block g HB.lt (by intro e; injection e with e; omega)).trans HB, by rw [Hdm.out]; exact hown3, HT.grow hgrow3 (Nat.le_refl _), ?_⟩
        rw [World.cell?_of_block (hgrow3.block pb (cell_lt HP) (by intro e; injection e with e; omega))]
        exact HP
      case measure => simp [intOf]; omega
    · obtain rfl : k = 11 := by omega
      go_wp2_with fail
      go_end0
      exact ⟨rfl, _, HB, HM, HT⟩

end Go.Proofs.Ytmfoccbidlonmaa
