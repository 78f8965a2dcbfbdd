/- Joined: Dg4, Dg5, Dg6, Dg7, Dg8, Dg9, Dg10, Dg12, Dg11. -/
import Derived.Test.YtiliineopplinaaDoorQ50
import Derived.Test.YtiliineopplinaaDoorQ27
import Derived.Test.YtiliineopplinaaDoorQ49
import Derived.Deep.AppendLies
import Derived.Test.YtiliineopplinaaDoorQ10
import Derived.Test.YtiliineopplinaaDoorQ13
import Derived.Test.YtiliineopplinaaDoorQ23
set_option linter.unusedSimpArgs false
set_option linter.unusedVariables false
/- Layer 26: table: the first leaf of each chunk. -/
set_option linter.unusedSimpArgs false
set_option linter.unusedVariables false
namespace Go.Proofs.YtiliineopplinaaDoor
open Go.RowKit
set_option maxRecDepth 100000

abbrev TBT : TypeId := 67
theorem tbU : Tryd.prog.underlying TBT = some (.map KCy.K 26) := Tryd.underlying67
theorem lfZ (w : World) : (zeroValue 26).run Tryd.prog w = .ok (lfV (0, 0, 0, 0)) w := by kernel_rfl
/-- the first leaf of a chunk -/
def findL (l : List LfD) (k : KyD) : Option LfD := l.find? fun x => decide ((x.1, x.2.1) = k)
theorem findL_snoc (l : List LfD) (x : LfD) (k : KyD) : findL (l ++ [x]) k = (findL l k).or (if (x.1, x.2.1) = k then some x else none) := by
  unfold findL
  rw [List.find?_append]
  congr 1
  rw [List.find?_cons]
  by_cases h : (x.1, x.2.1) = k
  · rw [decide_eq_true h, if_pos h]
  · rw [decide_eq_false h, if_neg h]; rfl
structure TabI (l : List LfD) (M : List (KyD × LfD)) : Prop where
  look : ∀ k, lookMG M k = findL l k
  len : M.length ≤ l.length
theorem TabI.nil : TabI [] [] := ⟨fun k => rfl, Nat.le_refl _⟩
theorem TabI.old {l : List LfD} {M : List (KyD × LfD)} (h : TabI l M) {x y : LfD} (hy : lookMG M (x.1, x.2.1) = some y) : TabI (l ++ [x]) M := by
  refine ⟨fun k => ?_, by rw [List.length_append]; have := h.len; omega⟩
  rw [findL_snoc, ← h.look k]
  by_cases e : (x.1, x.2.1) = k
  · rw [← e, hy]; rfl
  · rw [if_neg e]; cases lookMG M k <;> rfl
theorem TabI.new {l : List LfD} {M : List (KyD × LfD)} (h : TabI l M) {x : LfD} (hy : lookMG M (x.1, x.2.1) = none) : TabI (l ++ [x]) (putMG M (x.1, x.2.1) x) := by
  refine ⟨fun k => ?_, ?_⟩
  · rw [findL_snoc, look_putG, ← h.look k]
    by_cases e : (x.1, x.2.1) = k
    · rw [← e, hy]; simp
    · rw [if_neg (fun e2 => e e2.symm), if_neg e]; cases lookMG M k <;> rfl
  · unfold putMG
    rw [hy, if_neg (by decide), List.length_append, List.length_append]
    have := h.len
    simp only [List.length_singleton]
    omega
set_option maxHeartbeats 16000000 in
theorem table_any (V : Option Addr) (c : Nat) (l : List LfD) (w : World) (hV : Rw w encLf 4 V l) (hok : ∀ x ∈ l, LfOk x) (hl : l.length ≤ 1000000) :
    Calls Tryd.prog 19 #[.slice V l.length c] w fun e w' => ∃ b M, e = .returned (.map (some b)) ∧ Sep w.heap.size w w' [thMuG KCy lfV b M] ∧ TabI l M := by
  have hmx : Tryd.prog.follows .mixedOrders = true := by kernel_rfl
  obtain ⟨n, hn⟩ : ∃ n, n = l.length := ⟨_, rfl⟩
  have hn6 : n ≤ 1000000 := by rw [hn]; exact hl
  rw [← hn]
  have HV := Lib.hid (And.intro hV (And.intro hok hn))
  have hS0 := (Sep.nil (Below.refl w.heap.size w) (Nat.le_refl _)).cons (t := thMuG KCy lfV w.heap.size []) (below_alloc w (.map #[] 0)) (MuG.made w) (fun k hk => by have e : k = w.heap.size := hk; omega)
  clear hV hok hl hn
  have hmm := @run_makeMap Tryd.prog
  go_enter Tryd.func19, Tryd.ntmps19
  go_wp2_with fail
  generalize hW : World.alloc _ _ = W at hS0 ⊢
  obtain ⟨b, hb⟩ : ∃ b, b = w.heap.size := ⟨_, rfl⟩
  have hS1 : Sep w.heap.size w W [thMuG KCy lfV b []] := by rw [hb]; exact hS0
  rw [← hb]
  have HS1 := Lib.hid hS1
  clear hW hS0 hS1 hb hmm
  go_loopw [5, 6, 7, 8, 12] (fun s5 s6 s7 s8 s12 wr => ∃ (i : Nat) (M : List (KyD × LfD)), s12 = .int .i64 (i : Nat) ∧ i ≤ n ∧ Hid (Sep w.heap.size w wr [thMuG KCy lfV b M] ∧ TabI (l.take i) M))
    (fun _ _ _ _ s12 _ => n - (intOf s12).toNat)
  case atStart => exact ⟨0, [], by go_num, Nat.zero_le _, Lib.hid ⟨HS1.out, TabI.nil⟩⟩
  case round =>
    obtain ⟨i, M, rfl, hi, HI⟩ := hrel
    obtain ⟨wi, hwi⟩ : ∃ wi, wi = wr := ⟨_, rfl⟩
    rw [← hwi] at HI ⊢
    clear hwi
    by_cases hit : i < n
    · obtain ⟨x, hx⟩ : ∃ x, l[i]? = some x := ⟨_, List.getElem?_eq_getElem (by rw [← HV.out.2.2]; exact hit)⟩
      obtain ⟨p, o, hp, hc⟩ := HV.out.1 i x hx
      subst hp
      have hxo := HV.out.2.1 x (List.mem_of_getElem? hx)
      have hsn : l.take (i + 1) = l.take i ++ [x] := by rw [List.take_add_one, hx]; rfl
      obtain ⟨xa, xb, xc, xs⟩ := x
      have old : ∀ j v, (encLf (xa, xb, xc, xs))[j]? = some v → wi.cell? ⟨p, o + i * 4 + j, none⟩ = some v := fun j v hj => (HI.out.1.b.cell (cell_lt (hc j v hj))).trans (hc j v hj)
      have f0 : wi.cell? ⟨p, o + i * 4, none⟩ = some (.int .u32 (xa : Nat)) := old 0 _ rfl
      have f1 : wi.cell? ⟨p, o + i * 4 + 1, none⟩ = some (.int .u32 (xb : Nat)) := old 1 _ rfl
      have f2 : wi.cell? ⟨p, o + i * 4 + 2, none⟩ = some (.int .u32 (xc : Nat)) := old 2 _ rfl
      have f3 : wi.cell? ⟨p, o + i * 4 + 3, none⟩ = some (.int .u64 (xs : Nat)) := old 3 _ rfl
      have hit2 : (i : Int) < (n : Int) := by omega
      have HX := Lib.hid (And.intro hsn hxo)
      have hS2 := (HI.out.1.box #[.int .u32 (xa : Nat), .int .u32 (xb : Nat), .int .u32 (xc : Nat), .int .u64 (xs : Nat)] 26)
      have D5 := cells_say (hS2.blk 0) _ 0 rfl
      simp only [cellsSay, List.drop_zero, Nat.reduceAdd, and_true] at D5
      clear hx hc old hxo hsn
      go_upto_region 5 with fail
      generalize hV2 : World.alloc _ _ = V2 at hS2 D5 ⊢
      obtain ⟨g5, hg5⟩ : ∃ g, g = wi.heap.size := ⟨_, rfl⟩
      rw [← hg5] at hS2 D5 ⊢
      have hS3 := hS2.box #[.int .u32 (xa : Nat), .int .u32 (xb : Nat)] 71
      clear f0 f1 f2 f3 hV2 hg5
      go_upto_region 6 with fail
      generalize hV3 : World.alloc _ _ = V3 at hS3 ⊢
      obtain ⟨g6, hg6⟩ : ∃ g, g = V2.heap.size := ⟨_, rfl⟩
      rw [← hg6] at hS3 ⊢
      have D6 := cells_say (hS3.blk 0) _ 0 rfl
      clear D5
      have D5 := cells_say (hS3.blk 1) _ 0 rfl
      simp only [cellsSay, List.drop_zero, Nat.reduceAdd, and_true] at D5 D6
      have hlk := MuG.look (show MuG KCy lfV V3 b M from hS3.at_ 2 rfl) tbU (lfZ V3) (xa, xb) ⟨HX.out.2.1, HX.out.2.2.1⟩
      have HS3 := Lib.hid hS3
      clear hS2 hS3 hV3 hg6
      cases hlo : lookMG M (xa, xb) with
      | some y =>
        obtain ⟨ya, yb, yc, ys⟩ := y
        rw [hlo] at hlk
        have hl2 : (Instr.lookup TBT (.map (some b)) (.agg #[.int .u32 ((xa : Nat) : Int), .int .u32 ((xb : Nat) : Int)]) true).run Tryd.prog V3 = .ok (.tuple #[.agg #[.int .u32 ((ya : Nat) : Int), .int .u32 ((yb : Nat) : Int), .int .u32 ((yc : Nat) : Int), .int .u64 ((ys : Nat) : Int)], .bool true]) V3 := hlk
        have HL := Lib.hid hlo
        have hS4 := HS3.out.box #[.int .u32 ((ya : Nat) : Int), .int .u32 ((yb : Nat) : Int), .int .u32 ((yc : Nat) : Int), .int .u64 ((ys : Nat) : Int)] 26
        have HS4 := Lib.hid hS4
        clear hlk hlo hS4
        go_wp2_with fail
        go_roundw
        case measure => simp [intOf]; omega
        case rel => exact ⟨i + 1, M, by go_num, by omega, Lib.hid ⟨HS4.out.tail.tail.tail, by rw [HX.out.1]; exact HI.out.2.old HL.out⟩⟩
      | none =>
        rw [hlo] at hlk
        have hl2 : (Instr.lookup TBT (.map (some b)) (.agg #[.int .u32 ((xa : Nat) : Int), .int .u32 ((xb : Nat) : Int)]) true).run Tryd.prog V3 = .ok (.tuple #[.agg #[.int .u32 0, .int .u32 0, .int .u32 0, .int .u64 0], .bool false]) V3 := hlk
        have HL := Lib.hid hlo
        have hS4 := HS3.out.box #[.int .u32 0, .int .u32 0, .int .u32 0, .int .u64 0] 26
        have hMl : M.length < maxLen := by
          have h1 := HI.out.2.len
          rw [List.length_take] at h1
          unfold maxLen
          omega
        clear hlk hlo
        go_upto_region 8 with fail
        generalize hV4 : World.alloc _ _ = V4 at hS4 ⊢
        obtain ⟨g7, hg7⟩ : ∃ g, g = V3.heap.size := ⟨_, rfl⟩
        rw [← hg7] at hS4 ⊢
        clear D5 D6 hl2
        have D6 := cells_say (hS4.blk 1) _ 0 rfl
        have D5 := cells_say (hS4.blk 2) _ 0 rfl
        simp only [cellsSay, List.drop_zero, Nat.reduceAdd, and_true] at D5 D6
        have hm2 : MuG KCy lfV V4 b M := hS4.at_ 3 rfl
        have hk2 : KCy.ok (xa, xb) := ⟨HX.out.2.1, HX.out.2.2.1⟩
        have HS4 := Lib.hid hS4
        clear hV4 hg7 hS4
        go_wp2_with (at_mapUpdate; go_must (refine step_putG (KC := KCy) (vE := lfV) rfl _ _ _ rfl tbU rfl hm2 hMl (xa, xb) hk2 rfl (xa, xb, xc, xs) rfl ?_); intro w3 hm3 hg3)
        go_roundw
        case measure => simp [intOf]; omega
        case rel =>
          have hS5 := HS4.out.call (t' := thMuG KCy lfV b (putMG M (xa, xb) (xa, xb, xc, xs))) 3 rfl (Tou.of_grown hg3 (fun j e => by injection e with e; exact e.symm)) hm3 (fun j hj => .inl hj)
          exact ⟨i + 1, _, by go_num, by omega, Lib.hid ⟨hS5.tail.tail.tail, by rw [HX.out.1]; exact HI.out.2.new HL.out⟩⟩
    · have hit2 : ¬ (i : Int) < (n : Int) := by omega
      have hi2 : i = n := by omega
      have HE := Lib.hid (show TabI l M by
        have h1 := HI.out.2
        rw [hi2, HV.out.2.2, List.take_length] at h1
        exact h1)
      clear hi2
      go_wp2_with fail
      go_ret
      exact ⟨b, rfl, M, HI.out.1, HE.out⟩
end Go.Proofs.YtiliineopplinaaDoor

/- Layer 26: where two lists of leaves are apart: the data. -/
set_option linter.unusedSimpArgs false
set_option linter.unusedVariables false
namespace Go.Proofs.YtiliineopplinaaDoor
open Go.RowKit
set_option maxRecDepth 100000

def Dif (l m : List LfD) (k : KyD) : Prop := findL l k ≠ findL m k
def cntL (l : List LfD) (k : KyD) : Nat := ((findL l k).map fun x => x.2.2.1).getD 0
def addP (P : KyD → Prop) (k : KyD) : KyD → Prop := fun j => P j ∨ j = k
/-- of each series the lowest chunk so far at which both are not alike -/
structure FirI (l m : List LfD) (P : KyD → Prop) (F : List (Nat × LfD)) : Prop where
  none_ : ∀ x, lookM F x = none → ∀ c, P (x, c) → ¬ Dif l m (x, c)
  some_ : ∀ x v, lookM F x = some v → v.1 = x ∧ v.2.2.1 = cntL l (x, v.2.1) ∧ v.2.2.2 = 0 ∧ P (x, v.2.1) ∧ Dif l m (x, v.2.1) ∧ ∀ c, P (x, c) → Dif l m (x, c) → v.2.1 ≤ c
section
variable {l m : List LfD} {P : KyD → Prop} {F : List (Nat × LfD)} {x c : Nat}
theorem FirI.nil (l m : List LfD) : FirI l m (fun _ => False) [] := ⟨fun x _ c h => h.elim, fun x v h => by cases h⟩
theorem FirI.same (h : FirI l m P F) {k : KyD} (hd : ¬ Dif l m k) : FirI l m (addP P k) F := by
  refine ⟨fun x hx c hc => ?_, fun x v hv => ?_⟩
  · rcases hc with hc | hc
    · exact h.none_ x hx c hc
    · rw [hc]; exact hd
  · obtain ⟨h1, h2, h3, h4, h5, h6⟩ := h.some_ x v hv
    refine ⟨h1, h2, h3, .inl h4, h5, fun c hc hdc => ?_⟩
    rcases hc with hc | hc
    · exact h6 c hc hdc
    · rw [hc] at hdc; exact absurd hdc hd
theorem FirI.low (h : FirI l m P F) {v : LfD} (hv : lookM F x = some v) (hc : v.2.1 ≤ c) : FirI l m (addP P (x, c)) F := by
  refine ⟨fun y hy d hd => ?_, fun y u hu => ?_⟩
  · rcases hd with hd | hd
    · exact h.none_ y hy d hd
    · injection hd with e1 e2
      rw [e1, hv] at hy
      cases hy
  · obtain ⟨h1, h2, h3, h4, h5, h6⟩ := h.some_ y u hu
    refine ⟨h1, h2, h3, .inl h4, h5, fun d hd hdd => ?_⟩
    rcases hd with hd | hd
    · exact h6 d hd hdd
    · injection hd with e1 e2
      rw [e1, hv] at hu
      injection hu with hu
      rw [← hu, e2]
      exact hc
theorem FirI.new (h : FirI l m P F) (hd : Dif l m (x, c)) (hv : ∀ v, lookM F x = some v → c ≤ v.2.1) : FirI l m (addP P (x, c)) (putM F x (x, c, cntL l (x, c), 0)) := by
  refine ⟨fun y hy d hdd => ?_, fun y u hu => ?_⟩
  · rw [look_put] at hy
    by_cases e : y = x
    · rw [if_pos e] at hy; cases hy
    · rw [if_neg e] at hy
      rcases hdd with hdd | hdd
      · exact h.none_ y hy d hdd
      · injection hdd with e1 e2
        exact absurd e1 e
  · rw [look_put] at hu
    by_cases e : y = x
    · rw [if_pos e] at hu
      injection hu with hu
      subst hu
      subst e
      refine ⟨rfl, rfl, rfl, .inr rfl, hd, fun d hdp hdd => ?_⟩
      show c ≤ d
      rcases hdp with hdp | hdp
      · cases hl : lookM F y with
        | none => exact absurd hdd (h.none_ y hl d hdp)
        | some v =>
          have h1 := hv v hl
          have h2 := (h.some_ y v hl).2.2.2.2.2 d hdp hdd
          omega
      · injection hdp with _ e2
        omega
    · rw [if_neg e] at hu
      obtain ⟨h1, h2, h3, h4, h5, h6⟩ := h.some_ y u hu
      refine ⟨h1, h2, h3, .inl h4, h5, fun d hdp hdd => ?_⟩
      rcases hdp with hdp | hdp
      · exact h6 d hdp hdd
      · injection hdp with e1 _
        exact absurd e1 e
theorem putM_len (F : List (Nat × LfD)) (x : Nat) (a : LfD) : (putM F x a).length ≤ F.length + 1 := by
  unfold putM
  split <;> simp
end
/-- what Apart answers -/
structure ApR (l m L : List LfD) : Prop where
  asc : L.Pairwise fun a b => a.1 < b.1
  mem : ∀ v ∈ L, Dif l m (v.1, v.2.1) ∧ v.2.2.1 = cntL l (v.1, v.2.1) ∧ v.2.2.2 = 0 ∧ ∀ c, Dif l m (v.1, c) → v.2.1 ≤ c
  all : ∀ x c, Dif l m (x, c) → ∃ v ∈ L, v.1 = x
def firL (F : List (Nat × LfD)) (xs : List Nat) : List LfD := xs.map fun x => (lookM F x).getD (0, 0, 0, 0)
theorem ApR.of {l m : List LfD} {P : KyD → Prop} {F : List (Nat × LfD)} (h : FirI l m P F) (hP : ∀ k, Dif l m k → P k) (hn : (F.map Prod.fst).Nodup) {xs : List Nat} (hp : xs.Perm (F.map Prod.fst)) (hr : xs.Pairwise (· ≤ ·)) : ApR l m (firL F xs) := by
  have hin : ∀ x ∈ xs, ∃ v, lookM F x = some v := fun x hx => by
    obtain ⟨p, hp1, rfl⟩ := List.mem_map.1 (hp.subset hx)
    exact ⟨p.2, lookM_of_mem hn hp1⟩
  have hnd : xs.Nodup := hp.symm.nodup hn
  refine ⟨?_, fun v hv => ?_, fun x c hd => ?_⟩
  · unfold firL
    rw [List.pairwise_map]
    refine ((hr.and hnd).imp_of_mem ?_)
    rintro a b ha hb ⟨h1, h2⟩
    obtain ⟨va, ea⟩ := hin a ha
    obtain ⟨vb, eb⟩ := hin b hb
    rw [ea, eb, Option.getD_some, Option.getD_some, (h.some_ a va ea).1, (h.some_ b vb eb).1]
    omega
  · obtain ⟨x, hx, rfl⟩ := List.mem_map.1 hv
    obtain ⟨v, e⟩ := hin x hx
    rw [e, Option.getD_some]
    obtain ⟨h1, h2, h3, h4, h5, h6⟩ := h.some_ x v e
    rw [h1]
    exact ⟨h5, h2, h3, fun c hc => h6 c (hP _ hc) hc⟩
  · cases e : lookM F x with
    | none => exact absurd hd (h.none_ x e c (hP _ hd))
    | some v =>
      refine ⟨v, List.mem_map.2 ⟨x, ?_, by rw [e]; rfl⟩, (h.some_ x v e).1⟩
      exact hp.symm.subset (List.mem_map_of_mem (f := Prod.fst) (lookM_mem e))
/-! ### equality of leaves -/
theorem eqInLf_run (a b : LfD) (w : World) : (Op.equalIn 10000 26 (.agg #[.int .u32 (a.1 : Nat), .int .u32 (a.2.1 : Nat), .int .u32 (a.2.2.1 : Nat), .int .u64 (a.2.2.2 : Nat)]) (.agg #[.int .u32 (b.1 : Nat), .int .u32 (b.2.1 : Nat), .int .u32 (b.2.2.1 : Nat), .int .u64 (b.2.2.2 : Nat)])).run Tryd.prog w = .ok (decide (a = b)) w := by
  have u1 := Tryd.underlying23
  have u2 := Tryd.underlying24
  have hS : Tryd.prog.underlying 26 = some (.struct (Tryd.prog.fieldsOf 26)) := by kernel_rfl
  have hp : Tryd.prog.stoodInHeld 26 = false := by kernel_rfl
  obtain ⟨a1, a2, a3, a4⟩ := a
  obtain ⟨b1, b2, b3, b4⟩ := b
  rw [show (10000 : Nat) = 9999 + 1 from rfl, run_equalIn_agg w 9999 26 _ _ hS hp]
  simp only [Program.fieldsOf, Tryd.underlying26]
  go_simp
  by_cases h : a1 = b1
  rotate_left
  · simp [h] <;> (intros; omega)
  subst h
  by_cases h : a2 = b2
  rotate_left
  · simp [h] <;> (intros; omega)
  subst h
  by_cases h : a3 = b3
  rotate_left
  · simp [h] <;> (intros; omega)
  subst h
  by_cases h : a4 = b4
  rotate_left
  · simp [h] <;> (intros; omega)
  subst h
  simp
theorem eqLf_run (a b : LfD) (w : World) : (binOp .eql 26 (.agg #[.int .u32 (a.1 : Nat), .int .u32 (a.2.1 : Nat), .int .u32 (a.2.2.1 : Nat), .int .u64 (a.2.2.2 : Nat)]) (.agg #[.int .u32 (b.1 : Nat), .int .u32 (b.2.1 : Nat), .int .u32 (b.2.2.1 : Nat), .int .u64 (b.2.2.2 : Nat)])).run Tryd.prog w = .ok (.bool (decide (a = b))) w := by
  rw [run_eql_struct, eqInLf_run a b]; rfl
theorem leftG_less {κ : Type} [DecidableEq κ] {α : Type} {M : List (κ × α)} {lf : κ → Bool} {k : κ} {c : α} (h : (k, c) ∈ M) (hl : lf k = true) : (M.filter fun p => offG lf k p.1).length < (M.filter fun p => lf p.1).length := by
  have e : (M.filter fun p => offG lf k p.1) = (M.filter fun p => lf p.1).filter fun p => !(p.1 == k) := by rw [List.filter_filter]; congr 1; funext p; exact Bool.and_comm _ _
  rw [e]
  refine List.length_filter_lt_length_iff_exists.2 ⟨(k, c), List.mem_filter.2 ⟨h, hl⟩, by simp⟩
end Go.Proofs.YtiliineopplinaaDoor

/- Layer 26: Apart. -/
set_option linter.unusedSimpArgs false
set_option linter.unusedVariables false
namespace Go.Proofs.YtiliineopplinaaDoor
open Go.RowKit
set_option maxRecDepth 100000

def ApO (l m : List LfD) (w : World) (e : Ending) (w' : World) : Prop := ∃ U c L, e = .returned (.slice U L.length c) ∧ Sep w.heap.size w w' [thR 26 encLf 4 (.slice U L.length c) L] ∧ ApR l m L
theorem findL_mem {l : List LfD} {ML : List (KyD × LfD)} (h : TabI l ML) {k : KyD} (hk : ∃ x, findL l k = some x) : ∃ p ∈ ML, p.1 = k := by
  obtain ⟨x, hx⟩ := hk
  rw [← h.look k] at hx
  exact ⟨(k, x), lookG_mem hx, rfl⟩
set_option maxHeartbeats 64000000 in
theorem apart_any (V : Option Addr) (c : Nat) (l : List LfD) (U : Option Addr) (d : Nat) (m : List LfD) (w : World) (hV : Rw w encLf 4 V l) (hU : Rw w encLf 4 U m) (hok : ∀ x ∈ l, LfOk x) (hokm : ∀ x ∈ m, LfOk x) (hl : l.length ≤ 4000) (hm : m.length ≤ 4000) :
    Calls Tryd.prog 9 #[.slice V l.length c, .slice U m.length d] w (ApO l m w) := by
  have hmx : Tryd.prog.follows .mixedOrders = true := by kernel_rfl
  obtain ⟨ln, hln⟩ : ∃ n, n = l.length := ⟨_, rfl⟩
  obtain ⟨mn, hmn⟩ : ∃ n, n = m.length := ⟨_, rfl⟩
  have hT1 := fun (W : World) (hW : Below w.heap.size w W) => table_any V c l W (hV.below hW (Nat.le_refl _)) hok (by omega)
  have hT2 := fun (W : World) (hW : Below w.heap.size w W) => table_any U d m W (hU.below hW (Nat.le_refl _)) hokm (by omega)
  rw [← hln] at hT1 ⊢
  rw [← hmn] at hT2 ⊢
  have HT1 := Lib.hid hT1
  have HT2 := Lib.hid hT2
  have HV := Lib.hid (And.intro hok (And.intro hokm (And.intro hl (And.intro hm (And.intro hln hmn)))))
  have hS0 := (Sep.nil (Below.refl w.heap.size w) (Nat.le_refl _)).cons (t := thMu lfV w.heap.size []) (below_alloc w (.map #[] 0)) (Mu.made w) (fun k hk => by have e : k = w.heap.size := hk; omega)
  have hmm := @run_makeMap Tryd.prog
  clear hV hU hok hokm hl hm hln hmn hT1 hT2
  go_enter Tryd.func9, Tryd.ntmps9
  go_upto_region 2 with fail
  generalize hW : World.alloc _ _ = W at hS0 ⊢
  obtain ⟨bF, hbF⟩ : ∃ b, b = w.heap.size := ⟨_, rfl⟩
  have hS1 : Sep w.heap.size w W [thMu lfV bF []] := by rw [hbF]; exact hS0
  rw [← hbF]
  have HS1 := Lib.hid hS1
  have HTa := Lib.hid (HT1.out W hS1.b)
  clear hW hS0 hS1 hbF hmm HT1
  go_upto_region 3 with (first
    | (go_at_call 19; refine HTa.out.mono ?_; rintro e w2 ⟨bl, ML, rfl, hSl, hTl⟩; have HS2 := Lib.hid (HS1.out.consL (us := [thMuG KCy lfV bl ML]) hSl.b (fun t ht => hSl.all t ht) hSl.ap); clear hSl HTa)
    | (go_at_call 19; refine (HT2.out _ HS2.out.b).mono ?_; rintro e w3 ⟨br, MR, rfl, hSr, hTr⟩; have HS3 := Lib.hid (HS2.out.consL (us := [thMuG KCy lfV br MR]) hSr.b (fun t ht => hSr.all t ht) hSr.ap); clear hSr))
  have HTB := Lib.hid (And.intro hTl hTr)
  have HS4 := Lib.hid (show Sep w.heap.size w w3 [thMuG KCy lfV bl ML, thMuG KCy lfV br MR, thMu lfV bF []] from HS3.out.permB (List.Perm.swap _ _ _))
  clear HS1 HS2 HS3 hTl hTr HT2
  go_upto_region 4 with fail
  have hS5 := HS4.out.box #[.map (some bl), .map (some br)] 67
  generalize hV4 : World.alloc _ _ = V4 at hS5 ⊢
  obtain ⟨g27, hg27⟩ : ∃ g, g = w3.heap.size := ⟨_, rfl⟩
  rw [← hg27] at hS5 ⊢
  have HS5 := Lib.hid (show Sep w.heap.size w V4 [thMuG KCy lfV bl ML, thMuG KCy lfV br MR, thMu lfV bF [], thB g27 67 #[.map (some bl), .map (some br)]] from hS5.permB (List.perm_append_singleton _ _).symm)
  clear hS5 hV4 hg27 HS4
  go_loopw [9, 10, 11, 12, 13, 14, 15, 16, 29] (fun s9 s10 s11 s12 s13 s14 s15 s16 s29 wr => ∃ (i : Nat) (F : List (Nat × LfD)) (P : KyD → Prop), s29 = .int .i64 (i : Nat) ∧ i ≤ 2 ∧ Hid (Sep w.heap.size w wr [thMuG KCy lfV bl ML, thMuG KCy lfV br MR, thMu lfV bF F, thB g27 67 #[.map (some bl), .map (some br)]] ∧ FirI l m P F ∧ (1 ≤ i → ∀ p ∈ ML, P p.1) ∧ (2 ≤ i → ∀ p ∈ MR, P p.1) ∧ F.length ≤ 4000 * i))
    (fun _ _ _ _ _ _ _ _ s29 _ => 2 - (intOf s29).toNat)
  case atStart => exact ⟨0, [], _, by go_num, Nat.zero_le _, Lib.hid ⟨HS5.out, FirI.nil l m, fun h => absurd h (by decide), fun h => absurd h (by decide), Nat.le_refl _⟩⟩
  case round =>
    obtain ⟨i, F, P, rfl, hi, HI⟩ := hrel
    obtain ⟨wi, hwi⟩ : ∃ wi, wi = wr := ⟨_, rfl⟩
    rw [← hwi] at HI ⊢
    clear hwi HS5
    by_cases hit : i < 2
    · have hit2 : (i : Int) < 2 := by omega
      obtain ⟨b1, M1, b2, M2, h12, hS6, C1⟩ : ∃ b1 M1 b2 M2, ((b1 = bl ∧ M1 = ML ∧ b2 = br ∧ M2 = MR ∧ i = 0) ∨ (b1 = br ∧ M1 = MR ∧ b2 = bl ∧ M2 = ML ∧ i = 1)) ∧ Sep w.heap.size w wi [thMuG KCy lfV b1 M1, thMuG KCy lfV b2 M2, thMu lfV bF F, thB g27 67 #[.map (some bl), .map (some br)]] ∧ wi.cell? ⟨g27, i, none⟩ = some (.map (some b1)) := by
        rcases (show i = 0 ∨ i = 1 by omega) with rfl | rfl
        · exact ⟨bl, ML, br, MR, .inl ⟨rfl, rfl, rfl, rfl, rfl⟩, HI.out.1, (HI.out.1.blk 3).cell 0⟩
        · exact ⟨br, MR, bl, ML, .inr ⟨rfl, rfl, rfl, rfl, rfl⟩, HI.out.1.permB (List.Perm.swap _ _ _), (HI.out.1.blk 3).cell 1⟩
      have hM1 : M1.length ≤ 4000 := by
        have h1 := HTB.out.1.len
        have h2 := HTB.out.2.len
        have h3 := HV.out.2.2.1
        have h4 := HV.out.2.2.2.1
        rcases h12 with h | h
        · rw [h.2.1]; omega
        · rw [h.2.1]; omega
      have hmu : MuG KCy lfV wi b1 M1 := hS6.at_ 0 rfl
      have HBoth := Lib.hid (fun (W : World) (h1 : MuG KCy lfV W b1 M1) (h2 : MuG KCy lfV W b2 M2) => (show MuG KCy lfV W bl ML ∧ MuG KCy lfV W br MR by
        rcases h12 with ⟨rfl, rfl, rfl, rfl, -⟩ | ⟨rfl, rfl, rfl, rfl, -⟩
        · exact ⟨h1, h2⟩
        · exact ⟨h2, h1⟩))
      have H12 := Lib.hid h12
      have HS6 := Lib.hid hS6
      obtain ⟨P0, hP0⟩ : ∃ Q, Q = P := ⟨_, rfl⟩
      have HF0 := Lib.hid HI.out.2
      rw [← hP0] at HF0
      clear hP0
      clear hS6 h12 HI
      go_upto_region 6 with fail
      go_wp2_with (at_range; go_must (refine step_rangeG (KC := KCy) (vE := lfV) rfl _ rfl tbU rfl hmu ?_); intro w1 hru hg1 hs1)
      go_frame
      obtain ⟨r, hr⟩ : ∃ r, r = wi.heap.size := ⟨_, rfl⟩
      rw [← hr] at hru ⊢
      have hS7 : Sep w.heap.size w w1 [thRuG KCy lfV b1 r M1 (fun _ => true), thMuG KCy lfV b2 M2, thMu lfV bF F, thB g27 67 #[.map (some bl), .map (some br)]] :=
        HS6.out.call (t' := thRuG KCy lfV b1 r M1 (fun _ => true)) 0 rfl (Tou.of_grown hg1 (fun j e => by cases e)) hru (fun j hj => by
          rcases hj with hj | hj
          · exact .inl hj
          · exact .inr (by rw [hj, hr]; exact Nat.le_refl _))
      have HS7 := Lib.hid hS7
      clear hS7 hr hru hg1 hs1 hmu C1
      go_loopg [10, 11, 12, 13, 14, 15, 16] ((M1.filter fun p => (fun _ => true : KyD → Bool) p.1).length) (fun gh s10 s11 s12 s13 s14 s15 s16 wr => ∃ (F : List (Nat × LfD)) (P : KyD → Prop) (lf : KyD → Bool), Hid (Sep w.heap.size w wr [thRuG KCy lfV b1 r M1 lf, thMuG KCy lfV b2 M2, thMu lfV bF F, thB g27 67 #[.map (some bl), .map (some br)]] ∧ FirI l m P F ∧ (∀ p ∈ M1, lf p.1 = false → P p.1) ∧ (∀ j, P0 j → P j) ∧ (M1.filter fun p => lf p.1).length = gh ∧ F.length + gh ≤ 4000 * i + 4000))
      case atStart => exact ⟨F, P0, _, Lib.hid ⟨HS7.out, HF0.out.1, fun p hp h => (by cases h), fun j h => h, rfl, by
        have h1 := HF0.out.2.2.2
        have h2 : (M1.filter fun p => (fun _ => true : KyD → Bool) p.1).length ≤ M1.length := List.length_filter_le _ _
        omega⟩⟩
      case round =>
        obtain ⟨F, P, lf, HR⟩ := hrel
        clear HS7
        obtain ⟨wj, hwj⟩ : ∃ wj, wj = wr := ⟨_, rfl⟩
        rw [← hwj] at HR ⊢
        clear hwj
        have hru : RuG KCy lfV wj b1 r M1 lf := HR.out.1.at_ 0 rfl
        go_wp2_with (at_next; go_must (refine step_nextG (KC := KCy) (vE := lfV) rfl _ rfl rfl hru ?_ ?_))
        · intro hl0
          have HD : Hid (∀ p ∈ M1, lf p.1 = false) := Lib.hid fun p hp => hl0 p.1.1 p.1.2 p.2.1 p.2.2.1 p.2.2.2.1 p.2.2.2.2 hp
          clear hl0 hru
          go_wp2_with fail
          go_roundw
          case measure => simp [intOf]; omega
          case rel =>
            have hS8 : Sep w.heap.size w wj [thMuG KCy lfV b1 M1, thMuG KCy lfV b2 M2, thMu lfV bF F, thB g27 67 #[.map (some bl), .map (some br)]] := HR.out.1.call (t' := thMuG KCy lfV b1 M1) 0 rfl (Tou.refl _ _) (RuG.mu (HR.out.1.at_ 0 rfl)) (fun j hj => .inl (.inl hj))
            have hlen : F.length ≤ 4000 * (i + 1) := by have := HR.out.2.2.2.2.2; omega
            have hall : ∀ p ∈ M1, P p.1 := fun p hp => HR.out.2.2.1 p hp (HD.out p hp)
            rcases H12.out with ⟨e1, e2, e3, e4, e5⟩ | ⟨e1, e2, e3, e4, e5⟩
            · subst e1 e2 e3 e4 e5
              exact ⟨1, F, P, by go_num, by omega, Lib.hid ⟨hS8, HR.out.2.1, fun _ => hall, fun h => absurd h (by decide), hlen⟩⟩
            · subst e1 e2 e3 e4 e5
              exact ⟨2, F, P, by go_num, by omega, Lib.hid ⟨hS8.permB (List.Perm.swap _ _ _), HR.out.2.1, fun _ p hp => HR.out.2.2.2.1 _ (HF0.out.2.1 (by decide) p hp), fun _ => hall, hlen⟩⟩
        · intro ka kb ca cb cc cs w2 hm hlk hru2 hg2 hs2 hen
          have S2 : Sep w.heap.size w w2 [thRuG KCy lfV b1 r M1 (offG lf (ka, kb)), thMuG KCy lfV b2 M2, thMu lfV bF F, thB g27 67 #[.map (some bl), .map (some br)]] :=
            HR.out.1.call (t' := thRuG KCy lfV b1 r M1 (offG lf (ka, kb))) 0 rfl (Tou.of_grown hg2 (fun j e => by injection e with e; exact .inr e.symm)) hru2 (fun j hj => .inl hj)
          have hkok : ka < 4294967296 ∧ kb < 4294967296 := (RuG.mu hru).keys _ hm
          have hless := leftG_less hm hlk
          have hKin : ∃ p ∈ M1, p.1 = (ka, kb) := ⟨_, hm, rfl⟩
          have hPn : ∀ p ∈ M1, (offG lf (ka, kb)) p.1 = false → addP P (ka, kb) p.1 := fun p hp h => by
            rcases offG_false h with e | e
            · exact .inl (HR.out.2.2.1 p hp e)
            · exact .inr e
          have HK := Lib.hid (And.intro hless (And.intro hKin hPn))
          have hen2 : (Instr.entry (.pointer (some ⟨r, 0, none⟩))).run Tryd.prog w2 = .ok (.tuple #[.agg #[.int .u32 ((ka : Nat) : Int), .int .u32 ((kb : Nat) : Int)], .agg #[.int .u32 ((ca : Nat) : Int), .int .u32 ((cb : Nat) : Int), .int .u32 ((cc : Nat) : Int), .int .u64 ((cs : Nat) : Int)]]) w2 := hen
          obtain ⟨ka9, kb9⟩ := hkok
          have S3 := S2.box #[.int .u32 ((ka : Nat) : Int), .int .u32 ((kb : Nat) : Int)] 71
          clear hru hm hlk hru2 hg2 hs2 hen hless hKin hPn S2
          go_upto_region 9 with fail
          generalize hV9 : World.alloc _ _ = V9 at S3 ⊢
          obtain ⟨g10, hg10⟩ : ∃ g, g = w2.heap.size := ⟨_, rfl⟩
          rw [← hg10] at S3 ⊢
          have D10 := cells_say (S3.blk 0) _ 0 rfl
          simp only [cellsSay, List.drop_zero, Nat.reduceAdd, and_true] at D10
          have hB9 := HBoth.out V9 (RuG.mu (S3.at_ 1 rfl)) (S3.at_ 2 rfl)
          have hk1 := MuG.look hB9.1 tbU (lfZ V9) (ka, kb) ⟨ka9, kb9⟩
          rw [HTB.out.1.look] at hk1
          have HS3 := Lib.hid S3
          clear hen2 hV9 hg10 hB9 S3
          have hboth : findL l (ka, kb) ≠ none ∨ findL m (ka, kb) ≠ none := by
            obtain ⟨p, hp, hpk⟩ := HK.out.2.1
            have hnd : ∀ (ll : List LfD) (MM : List (KyD × LfD)), TabI ll MM → p ∈ MM → findL ll (ka, kb) ≠ none := fun ll MM hT hp2 e => by
              rw [← hT.look] at e
              exact lookG_none.1 e p hp2 hpk
            rcases H12.out with ⟨-, e2, -⟩ | ⟨-, e2, -⟩
            · exact .inl (hnd l ML HTB.out.1 (by rw [← e2]; exact hp))
            · exact .inr (hnd m MR HTB.out.2 (by rw [← e2]; exact hp))
          have HBo := Lib.hid hboth
          clear hboth
          cases hfx : findL l (ka, kb) with
          | some x =>
            obtain ⟨xa, xb, xc, xs⟩ := x
            rw [hfx] at hk1
            cases hfy : findL m (ka, kb) with
            | some y =>
              obtain ⟨ya, yb, yc, ys⟩ := y
              have hl1 : (Instr.lookup TBT (.map (some bl)) (.agg #[.int .u32 ((ka : Nat) : Int), .int .u32 ((kb : Nat) : Int)]) true).run Tryd.prog V9 = .ok (.tuple #[.agg #[.int .u32 ((xa : Nat) : Int), .int .u32 ((xb : Nat) : Int), .int .u32 ((xc : Nat) : Int), .int .u64 ((xs : Nat) : Int)], .bool true]) V9 := hk1
              have S4 := HS3.out.box #[.int .u32 ((xa : Nat) : Int), .int .u32 ((xb : Nat) : Int), .int .u32 ((xc : Nat) : Int), .int .u64 ((xs : Nat) : Int)] 26
              clear hk1
              go_upto_region 10 with fail
              generalize hVa : World.alloc _ _ = Va at S4 ⊢
              obtain ⟨g11, hg11⟩ : ∃ g, g = V9.heap.size := ⟨_, rfl⟩
              rw [← hg11] at S4 ⊢
              clear D10 hl1
              have D10 := cells_say (S4.blk 1) _ 0 rfl
              simp only [cellsSay, List.drop_zero, Nat.reduceAdd, and_true] at D10
              have hBa := HBoth.out Va (RuG.mu (S4.at_ 2 rfl)) (S4.at_ 3 rfl)
              have hk2 := MuG.look hBa.2 tbU (lfZ Va) (ka, kb) ⟨ka9, kb9⟩
              rw [HTB.out.2.look, hfy] at hk2
              have hl2 : (Instr.lookup TBT (.map (some br)) (.agg #[.int .u32 ((ka : Nat) : Int), .int .u32 ((kb : Nat) : Int)]) true).run Tryd.prog Va = .ok (.tuple #[.agg #[.int .u32 ((ya : Nat) : Int), .int .u32 ((yb : Nat) : Int), .int .u32 ((yc : Nat) : Int), .int .u64 ((ys : Nat) : Int)], .bool true]) Va := hk2
              have HXY := Lib.hid (And.intro hfx hfy)
              have S5 := S4.box #[.int .u32 ((ya : Nat) : Int), .int .u32 ((yb : Nat) : Int), .int .u32 ((yc : Nat) : Int), .int .u64 ((ys : Nat) : Int)] 26
              clear hk2 hBa hfx hfy S4 hVa hg11
              go_upto_region 11 with fail
              generalize hVb : World.alloc _ _ = Vb at S5 ⊢
              obtain ⟨g13, hg13⟩ : ∃ g, g = Va.heap.size := ⟨_, rfl⟩
              rw [← hg13] at S5 ⊢
              clear D10 hl2
              have D11 := cells_say (S5.blk 1) _ 0 rfl
              have D13 := cells_say (S5.blk 0) _ 0 rfl
              simp only [cellsSay, List.drop_zero, Nat.reduceAdd, and_true] at D11 D13
              have HS5 := Lib.hid S5
              clear hVb hg13 S5
              have hQ := eqLf_run (xa, xb, xc, xs) (ya, yb, yc, ys)
              simp only at hQ
              by_cases hxy : (xa, xb, xc, xs) = (ya, yb, yc, ys)
              · rw [decide_eq_true hxy] at hQ
                have hnd : ¬ Dif l m (ka, kb) := fun h => h (by rw [HXY.out.1, HXY.out.2, hxy])
                have HN := Lib.hid hnd
                clear hnd hxy
                go_wp2_with fail
                go_roundg ((M1.filter fun p => (offG lf (ka, kb)) p.1).length)
                case measure => exact Nat.lt_of_lt_of_eq HK.out.1 HR.out.2.2.2.2.1
                case rel =>
                  refine ⟨F, addP P (ka, kb), _, Lib.hid ⟨HS5.out.tail.tail.tail, HR.out.2.1.same HN.out, HK.out.2.2, fun j h => .inl (HR.out.2.2.2.1 j h), rfl, ?_⟩⟩
                  have h1 := HK.out.1
                  have h2 := HR.out.2.2.2.2.2
                  have h3 := HR.out.2.2.2.2.1
                  skip
                  omega
              · rw [decide_eq_false hxy] at hQ
                have hD : Dif l m (ka, kb) := fun h => hxy (by rw [HXY.out.1, HXY.out.2] at h; injection h)
                have hcn : cntL l (ka, kb) = xc := by unfold cntL; rw [HXY.out.1]; rfl
                have HD := Lib.hid (And.intro hD hcn)
                clear hD hcn hxy
                have hmF : Mu lfV Vb bF F := HS5.out.at_ 5 rfl
                have hk3 := Mu.look hmF fmU (lfZ Vb) ka ka9
                have D10 := cells_say (HS5.out.blk 2) _ 0 rfl
                simp only [cellsSay, List.drop_zero, Nat.reduceAdd, and_true] at D10
                clear hmF
                cases hlo : lookM F ka with
                | none =>
                  rw [hlo] at hk3
                  have hl3 : (Instr.lookup FMT (.map (some bF)) (.int .u32 ((ka : Nat) : Int)) true).run Tryd.prog Vb = .ok (.tuple #[.agg #[.int .u32 0, .int .u32 0, .int .u32 0, .int .u64 0], .bool false]) Vb := hk3
                  have HL := Lib.hid hlo
                  have S6 := HS5.out.box #[.int .u32 0, .int .u32 0, .int .u32 0, .int .u64 0] 26
                  clear hk3 hlo
                  go_upto_region 13 with fail
                  generalize hVc : World.alloc _ _ = Vc at S6 ⊢
                  obtain ⟨g15, hg15⟩ : ∃ g, g = Vb.heap.size := ⟨_, rfl⟩
                  rw [← hg15] at S6 ⊢
                  clear D10 D11 D13 hl3 hVc hg15
                  have D10 := cells_say (S6.blk 3) _ 0 rfl
                  have D11 := cells_say (S6.blk 2) _ 0 rfl
                  have D15 := cells_say (S6.blk 0) _ 0 rfl
                  simp only [cellsSay, List.drop_zero, Nat.reduceAdd, and_true] at D10 D11 D15
                  have hmF : Mu lfV Vc bF F := S6.at_ 6 rfl
                  have hFl : F.length < maxLen := by
                    have h2 := HR.out.2.2.2.2.2
                    unfold maxLen
                    omega
                  have HS6 := Lib.hid S6
                  clear S6
                  go_wp2_with (at_mapUpdate; go_must (refine step_putU (vE := lfV) rfl _ _ _ rfl fmU rfl hmF hFl ka ka9 rfl (ka, kb, xc, 0) rfl ?_); intro w5 hm5 hg5)
                  go_roundg ((M1.filter fun p => (offG lf (ka, kb)) p.1).length)
                  case measure => exact Nat.lt_of_lt_of_eq HK.out.1 HR.out.2.2.2.2.1
                  case rel =>
                    refine ⟨putM F ka (ka, kb, xc, 0), addP P (ka, kb), _, Lib.hid ⟨(HS6.out.call (t' := thMu lfV bF (putM F ka (ka, kb, xc, 0))) 6 rfl (Tou.of_grown hg5 (fun j e => by injection e with e; exact e.symm)) hm5 (fun j hj => .inl hj)).tail.tail.tail.tail, (by have h9 := HR.out.2.1.new HD.out.1 (fun v hv => by rw [HL.out] at hv; cases hv); rw [HD.out.2] at h9; exact h9), HK.out.2.2, fun j h => .inl (HR.out.2.2.2.1 j h), rfl, ?_⟩⟩
                    have h1 := HK.out.1
                    have h2 := HR.out.2.2.2.2.2
                    have h3 := HR.out.2.2.2.2.1
                    have h4 := putM_len F ka (ka, kb, xc, 0)
                    omega
                | some v =>
                  obtain ⟨va, vb, vc, vs⟩ := v
                  rw [hlo] at hk3
                  have hl3 : (Instr.lookup FMT (.map (some bF)) (.int .u32 ((ka : Nat) : Int)) true).run Tryd.prog Vb = .ok (.tuple #[.agg #[.int .u32 ((va : Nat) : Int), .int .u32 ((vb : Nat) : Int), .int .u32 ((vc : Nat) : Int), .int .u64 ((vs : Nat) : Int)], .bool true]) Vb := hk3
                  have HL := Lib.hid hlo
                  have S6 := HS5.out.box #[.int .u32 ((va : Nat) : Int), .int .u32 ((vb : Nat) : Int), .int .u32 ((vc : Nat) : Int), .int .u64 ((vs : Nat) : Int)] 26
                  clear hk3 hlo
                  by_cases hlt : kb < vb
                  · have hd : decide (kb < vb) = true := decide_eq_true hlt
                    have hd2 : (kb : Int) < (vb : Int) := by omega
                    have HLt := Lib.hid hlt
                    clear hlt
                    go_upto_region 13 with fail
                    generalize hVc : World.alloc _ _ = Vc at S6 ⊢
                    obtain ⟨g15, hg15⟩ : ∃ g, g = Vb.heap.size := ⟨_, rfl⟩
                    rw [← hg15] at S6 ⊢
                    clear D10 D11 D13 hl3 hVc hg15
                    have D10 := cells_say (S6.blk 3) _ 0 rfl
                    have D11 := cells_say (S6.blk 2) _ 0 rfl
                    have D15 := cells_say (S6.blk 0) _ 0 rfl
                    simp only [cellsSay, List.drop_zero, Nat.reduceAdd, and_true] at D10 D11 D15
                    have hmF : Mu lfV Vc bF F := S6.at_ 6 rfl
                    have hFl : F.length < maxLen := by
                      have h2 := HR.out.2.2.2.2.2
                      unfold maxLen
                      omega
                    have HS6 := Lib.hid S6
                    clear S6
                    go_wp2_with (at_mapUpdate; go_must (refine step_putU (vE := lfV) rfl _ _ _ rfl fmU rfl hmF hFl ka ka9 rfl (ka, kb, xc, 0) rfl ?_); intro w5 hm5 hg5)
                    go_roundg ((M1.filter fun p => (offG lf (ka, kb)) p.1).length)
                    case measure => exact Nat.lt_of_lt_of_eq HK.out.1 HR.out.2.2.2.2.1
                    case rel =>
                      refine ⟨putM F ka (ka, kb, xc, 0), addP P (ka, kb), _, Lib.hid ⟨(HS6.out.call (t' := thMu lfV bF (putM F ka (ka, kb, xc, 0))) 6 rfl (Tou.of_grown hg5 (fun j e => by injection e with e; exact e.symm)) hm5 (fun j hj => .inl hj)).tail.tail.tail.tail, (by have h9 := HR.out.2.1.new HD.out.1 (fun v hv => by rw [HL.out] at hv; injection hv with hv; rw [← hv]; exact Nat.le_of_lt HLt.out); rw [HD.out.2] at h9; exact h9), HK.out.2.2, fun j h => .inl (HR.out.2.2.2.1 j h), rfl, ?_⟩⟩
                      have h1 := HK.out.1
                      have h2 := HR.out.2.2.2.2.2
                      have h3 := HR.out.2.2.2.2.1
                      have h4 := putM_len F ka (ka, kb, xc, 0)
                      omega
                  · have hd : decide (kb < vb) = false := decide_eq_false hlt
                    have hd2 : ¬ (kb : Int) < (vb : Int) := by omega
                    have HLt := Lib.hid hlt
                    clear hlt
                    go_upto_region 13 with fail
                    generalize hVc : World.alloc _ _ = Vc at S6 ⊢
                    obtain ⟨g15, hg15⟩ : ∃ g, g = Vb.heap.size := ⟨_, rfl⟩
                    rw [← hg15] at S6 ⊢
                    clear D10 D11 D13 hl3 hVc hg15
                    have D10 := cells_say (S6.blk 3) _ 0 rfl
                    have D15 := cells_say (S6.blk 0) _ 0 rfl
                    simp only [cellsSay, List.drop_zero, Nat.reduceAdd, and_true] at D10 D15
                    have HS6 := Lib.hid S6
                    clear S6
                    go_wp2_with fail
                    go_roundg ((M1.filter fun p => (offG lf (ka, kb)) p.1).length)
                    case measure => exact Nat.lt_of_lt_of_eq HK.out.1 HR.out.2.2.2.2.1
                    case rel =>
                      refine ⟨F, addP P (ka, kb), _, Lib.hid ⟨HS6.out.tail.tail.tail.tail, HR.out.2.1.low HL.out (Nat.le_of_not_lt HLt.out), HK.out.2.2, fun j h => .inl (HR.out.2.2.2.1 j h), rfl, ?_⟩⟩
                      have h1 := HK.out.1
                      have h2 := HR.out.2.2.2.2.2
                      have h3 := HR.out.2.2.2.2.1
                      skip
                      omega
            | none =>
              have hl1 : (Instr.lookup TBT (.map (some bl)) (.agg #[.int .u32 ((ka : Nat) : Int), .int .u32 ((kb : Nat) : Int)]) true).run Tryd.prog V9 = .ok (.tuple #[.agg #[.int .u32 ((xa : Nat) : Int), .int .u32 ((xb : Nat) : Int), .int .u32 ((xc : Nat) : Int), .int .u64 ((xs : Nat) : Int)], .bool true]) V9 := hk1
              have S4 := HS3.out.box #[.int .u32 ((xa : Nat) : Int), .int .u32 ((xb : Nat) : Int), .int .u32 ((xc : Nat) : Int), .int .u64 ((xs : Nat) : Int)] 26
              clear hk1
              go_upto_region 10 with fail
              generalize hVa : World.alloc _ _ = Va at S4 ⊢
              obtain ⟨g11, hg11⟩ : ∃ g, g = V9.heap.size := ⟨_, rfl⟩
              rw [← hg11] at S4 ⊢
              clear D10 hl1
              have D10 := cells_say (S4.blk 1) _ 0 rfl
              simp only [cellsSay, List.drop_zero, Nat.reduceAdd, and_true] at D10
              have hBa := HBoth.out Va (RuG.mu (S4.at_ 2 rfl)) (S4.at_ 3 rfl)
              have hk2 := MuG.look hBa.2 tbU (lfZ Va) (ka, kb) ⟨ka9, kb9⟩
              rw [HTB.out.2.look, hfy] at hk2
              have hl2 : (Instr.lookup TBT (.map (some br)) (.agg #[.int .u32 ((ka : Nat) : Int), .int .u32 ((kb : Nat) : Int)]) true).run Tryd.prog Va = .ok (.tuple #[.agg #[.int .u32 0, .int .u32 0, .int .u32 0, .int .u64 0], .bool false]) Va := hk2
              have HXY := Lib.hid (And.intro hfx hfy)
              have S5 := S4.box #[.int .u32 0, .int .u32 0, .int .u32 0, .int .u64 0] 26
              clear hk2 hBa hfx hfy S4 hVa hg11
              go_upto_region 11 with fail
              generalize hVb : World.alloc _ _ = Vb at S5 ⊢
              obtain ⟨g13, hg13⟩ : ∃ g, g = Va.heap.size := ⟨_, rfl⟩
              rw [← hg13] at S5 ⊢
              clear D10 hl2
              have D11 := cells_say (S5.blk 1) _ 0 rfl
              have D13 := cells_say (S5.blk 0) _ 0 rfl
              simp only [cellsSay, List.drop_zero, Nat.reduceAdd, and_true] at D11 D13
              have HS5 := Lib.hid S5
              clear hVb hg13 S5
              have hD : Dif l m (ka, kb) := fun h => by rw [HXY.out.1, HXY.out.2] at h; cases h
              have hcn : cntL l (ka, kb) = xc := by unfold cntL; rw [HXY.out.1]; rfl
              have HD := Lib.hid (And.intro hD hcn)
              clear hD hcn
              have hmF : Mu lfV Vb bF F := HS5.out.at_ 5 rfl
              have hk3 := Mu.look hmF fmU (lfZ Vb) ka ka9
              have D10 := cells_say (HS5.out.blk 2) _ 0 rfl
              simp only [cellsSay, List.drop_zero, Nat.reduceAdd, and_true] at D10
              clear hmF
              cases hlo : lookM F ka with
              | none =>
                rw [hlo] at hk3
                have hl3 : (Instr.lookup FMT (.map (some bF)) (.int .u32 ((ka : Nat) : Int)) true).run Tryd.prog Vb = .ok (.tuple #[.agg #[.int .u32 0, .int .u32 0, .int .u32 0, .int .u64 0], .bool false]) Vb := hk3
                have HL := Lib.hid hlo
                have S6 := HS5.out.box #[.int .u32 0, .int .u32 0, .int .u32 0, .int .u64 0] 26
                clear hk3 hlo
                go_upto_region 13 with fail
                generalize hVc : World.alloc _ _ = Vc at S6 ⊢
                obtain ⟨g15, hg15⟩ : ∃ g, g = Vb.heap.size := ⟨_, rfl⟩
                rw [← hg15] at S6 ⊢
                clear D10 D11 D13 hl3 hVc hg15
                have D10 := cells_say (S6.blk 3) _ 0 rfl
                have D11 := cells_say (S6.blk 2) _ 0 rfl
                have D15 := cells_say (S6.blk 0) _ 0 rfl
                simp only [cellsSay, List.drop_zero, Nat.reduceAdd, and_true] at D10 D11 D15
                have hmF : Mu lfV Vc bF F := S6.at_ 6 rfl
                have hFl : F.length < maxLen := by
                  have h2 := HR.out.2.2.2.2.2
                  unfold maxLen
                  omega
                have HS6 := Lib.hid S6
                clear S6
                go_wp2_with (at_mapUpdate; go_must (refine step_putU (vE := lfV) rfl _ _ _ rfl fmU rfl hmF hFl ka ka9 rfl (ka, kb, xc, 0) rfl ?_); intro w5 hm5 hg5)
                go_roundg ((M1.filter fun p => (offG lf (ka, kb)) p.1).length)
                case measure => exact Nat.lt_of_lt_of_eq HK.out.1 HR.out.2.2.2.2.1
                case rel =>
                  refine ⟨putM F ka (ka, kb, xc, 0), addP P (ka, kb), _, Lib.hid ⟨(HS6.out.call (t' := thMu lfV bF (putM F ka (ka, kb, xc, 0))) 6 rfl (Tou.of_grown hg5 (fun j e => by injection e with e; exact e.symm)) hm5 (fun j hj => .inl hj)).tail.tail.tail.tail, (by have h9 := HR.out.2.1.new HD.out.1 (fun v hv => by rw [HL.out] at hv; cases hv); rw [HD.out.2] at h9; exact h9), HK.out.2.2, fun j h => .inl (HR.out.2.2.2.1 j h), rfl, ?_⟩⟩
                  have h1 := HK.out.1
                  have h2 := HR.out.2.2.2.2.2
                  have h3 := HR.out.2.2.2.2.1
                  have h4 := putM_len F ka (ka, kb, xc, 0)
                  omega
              | some v =>
                obtain ⟨va, vb, vc, vs⟩ := v
                rw [hlo] at hk3
                have hl3 : (Instr.lookup FMT (.map (some bF)) (.int .u32 ((ka : Nat) : Int)) true).run Tryd.prog Vb = .ok (.tuple #[.agg #[.int .u32 ((va : Nat) : Int), .int .u32 ((vb : Nat) : Int), .int .u32 ((vc : Nat) : Int), .int .u64 ((vs : Nat) : Int)], .bool true]) Vb := hk3
                have HL := Lib.hid hlo
                have S6 := HS5.out.box #[.int .u32 ((va : Nat) : Int), .int .u32 ((vb : Nat) : Int), .int .u32 ((vc : Nat) : Int), .int .u64 ((vs : Nat) : Int)] 26
                clear hk3 hlo
                by_cases hlt : kb < vb
                · have hd : decide (kb < vb) = true := decide_eq_true hlt
                  have hd2 : (kb : Int) < (vb : Int) := by omega
                  have HLt := Lib.hid hlt
                  clear hlt
                  go_upto_region 13 with fail
                  generalize hVc : World.alloc _ _ = Vc at S6 ⊢
                  obtain ⟨g15, hg15⟩ : ∃ g, g = Vb.heap.size := ⟨_, rfl⟩
                  rw [← hg15] at S6 ⊢
                  clear D10 D11 D13 hl3 hVc hg15
                  have D10 := cells_say (S6.blk 3) _ 0 rfl
                  have D11 := cells_say (S6.blk 2) _ 0 rfl
                  have D15 := cells_say (S6.blk 0) _ 0 rfl
                  simp only [cellsSay, List.drop_zero, Nat.reduceAdd, and_true] at D10 D11 D15
                  have hmF : Mu lfV Vc bF F := S6.at_ 6 rfl
                  have hFl : F.length < maxLen := by
                    have h2 := HR.out.2.2.2.2.2
                    unfold maxLen
                    omega
                  have HS6 := Lib.hid S6
                  clear S6
                  go_wp2_with (at_mapUpdate; go_must (refine step_putU (vE := lfV) rfl _ _ _ rfl fmU rfl hmF hFl ka ka9 rfl (ka, kb, xc, 0) rfl ?_); intro w5 hm5 hg5)
                  go_roundg ((M1.filter fun p => (offG lf (ka, kb)) p.1).length)
                  case measure => exact Nat.lt_of_lt_of_eq HK.out.1 HR.out.2.2.2.2.1
                  case rel =>
                    refine ⟨putM F ka (ka, kb, xc, 0), addP P (ka, kb), _, Lib.hid ⟨(HS6.out.call (t' := thMu lfV bF (putM F ka (ka, kb, xc, 0))) 6 rfl (Tou.of_grown hg5 (fun j e => by injection e with e; exact e.symm)) hm5 (fun j hj => .inl hj)).tail.tail.tail.tail, (by have h9 := HR.out.2.1.new HD.out.1 (fun v hv => by rw [HL.out] at hv; injection hv with hv; rw [← hv]; exact Nat.le_of_lt HLt.out); rw [HD.out.2] at h9; exact h9), HK.out.2.2, fun j h => .inl (HR.out.2.2.2.1 j h), rfl, ?_⟩⟩
                    have h1 := HK.out.1
                    have h2 := HR.out.2.2.2.2.2
                    have h3 := HR.out.2.2.2.2.1
                    have h4 := putM_len F ka (ka, kb, xc, 0)
                    omega
                · have hd : decide (kb < vb) = false := decide_eq_false hlt
                  have hd2 : ¬ (kb : Int) < (vb : Int) := by omega
                  have HLt := Lib.hid hlt
                  clear hlt
                  go_upto_region 13 with fail
                  generalize hVc : World.alloc _ _ = Vc at S6 ⊢
                  obtain ⟨g15, hg15⟩ : ∃ g, g = Vb.heap.size := ⟨_, rfl⟩
                  rw [← hg15] at S6 ⊢
                  clear D10 D11 D13 hl3 hVc hg15
                  have D10 := cells_say (S6.blk 3) _ 0 rfl
                  have D15 := cells_say (S6.blk 0) _ 0 rfl
                  simp only [cellsSay, List.drop_zero, Nat.reduceAdd, and_true] at D10 D15
                  have HS6 := Lib.hid S6
                  clear S6
                  go_wp2_with fail
                  go_roundg ((M1.filter fun p => (offG lf (ka, kb)) p.1).length)
                  case measure => exact Nat.lt_of_lt_of_eq HK.out.1 HR.out.2.2.2.2.1
                  case rel =>
                    refine ⟨F, addP P (ka, kb), _, Lib.hid ⟨HS6.out.tail.tail.tail.tail, HR.out.2.1.low HL.out (Nat.le_of_not_lt HLt.out), HK.out.2.2, fun j h => .inl (HR.out.2.2.2.1 j h), rfl, ?_⟩⟩
                    have h1 := HK.out.1
                    have h2 := HR.out.2.2.2.2.2
                    have h3 := HR.out.2.2.2.2.1
                    skip
                    omega
          | none =>
            rw [hfx] at hk1
            cases hfy : findL m (ka, kb) with
            | some y =>
              obtain ⟨ya, yb, yc, ys⟩ := y
              have hl1 : (Instr.lookup TBT (.map (some bl)) (.agg #[.int .u32 ((ka : Nat) : Int), .int .u32 ((kb : Nat) : Int)]) true).run Tryd.prog V9 = .ok (.tuple #[.agg #[.int .u32 0, .int .u32 0, .int .u32 0, .int .u64 0], .bool false]) V9 := hk1
              have S4 := HS3.out.box #[.int .u32 0, .int .u32 0, .int .u32 0, .int .u64 0] 26
              clear hk1
              go_upto_region 10 with fail
              generalize hVa : World.alloc _ _ = Va at S4 ⊢
              obtain ⟨g11, hg11⟩ : ∃ g, g = V9.heap.size := ⟨_, rfl⟩
              rw [← hg11] at S4 ⊢
              clear D10 hl1
              have D10 := cells_say (S4.blk 1) _ 0 rfl
              simp only [cellsSay, List.drop_zero, Nat.reduceAdd, and_true] at D10
              have hBa := HBoth.out Va (RuG.mu (S4.at_ 2 rfl)) (S4.at_ 3 rfl)
              have hk2 := MuG.look hBa.2 tbU (lfZ Va) (ka, kb) ⟨ka9, kb9⟩
              rw [HTB.out.2.look, hfy] at hk2
              have hl2 : (Instr.lookup TBT (.map (some br)) (.agg #[.int .u32 ((ka : Nat) : Int), .int .u32 ((kb : Nat) : Int)]) true).run Tryd.prog Va = .ok (.tuple #[.agg #[.int .u32 ((ya : Nat) : Int), .int .u32 ((yb : Nat) : Int), .int .u32 ((yc : Nat) : Int), .int .u64 ((ys : Nat) : Int)], .bool true]) Va := hk2
              have HXY := Lib.hid (And.intro hfx hfy)
              have S5 := S4.box #[.int .u32 ((ya : Nat) : Int), .int .u32 ((yb : Nat) : Int), .int .u32 ((yc : Nat) : Int), .int .u64 ((ys : Nat) : Int)] 26
              clear hk2 hBa hfx hfy S4 hVa hg11
              go_upto_region 11 with fail
              generalize hVb : World.alloc _ _ = Vb at S5 ⊢
              obtain ⟨g13, hg13⟩ : ∃ g, g = Va.heap.size := ⟨_, rfl⟩
              rw [← hg13] at S5 ⊢
              clear D10 hl2
              have D11 := cells_say (S5.blk 1) _ 0 rfl
              have D13 := cells_say (S5.blk 0) _ 0 rfl
              simp only [cellsSay, List.drop_zero, Nat.reduceAdd, and_true] at D11 D13
              have HS5 := Lib.hid S5
              clear hVb hg13 S5
              have hD : Dif l m (ka, kb) := fun h => by rw [HXY.out.1, HXY.out.2] at h; cases h
              have hcn : cntL l (ka, kb) = 0 := by unfold cntL; rw [HXY.out.1]; rfl
              have HD := Lib.hid (And.intro hD hcn)
              clear hD hcn
              have hmF : Mu lfV Vb bF F := HS5.out.at_ 5 rfl
              have hk3 := Mu.look hmF fmU (lfZ Vb) ka ka9
              have D10 := cells_say (HS5.out.blk 2) _ 0 rfl
              simp only [cellsSay, List.drop_zero, Nat.reduceAdd, and_true] at D10
              clear hmF
              cases hlo : lookM F ka with
              | none =>
                rw [hlo] at hk3
                have hl3 : (Instr.lookup FMT (.map (some bF)) (.int .u32 ((ka : Nat) : Int)) true).run Tryd.prog Vb = .ok (.tuple #[.agg #[.int .u32 0, .int .u32 0, .int .u32 0, .int .u64 0], .bool false]) Vb := hk3
                have HL := Lib.hid hlo
                have S6 := HS5.out.box #[.int .u32 0, .int .u32 0, .int .u32 0, .int .u64 0] 26
                clear hk3 hlo
                go_upto_region 13 with fail
                generalize hVc : World.alloc _ _ = Vc at S6 ⊢
                obtain ⟨g15, hg15⟩ : ∃ g, g = Vb.heap.size := ⟨_, rfl⟩
                rw [← hg15] at S6 ⊢
                clear D10 D11 D13 hl3 hVc hg15
                have D10 := cells_say (S6.blk 3) _ 0 rfl
                have D11 := cells_say (S6.blk 2) _ 0 rfl
                have D15 := cells_say (S6.blk 0) _ 0 rfl
                simp only [cellsSay, List.drop_zero, Nat.reduceAdd, and_true] at D10 D11 D15
                have hmF : Mu lfV Vc bF F := S6.at_ 6 rfl
                have hFl : F.length < maxLen := by
                  have h2 := HR.out.2.2.2.2.2
                  unfold maxLen
                  omega
                have HS6 := Lib.hid S6
                clear S6
                go_wp2_with (at_mapUpdate; go_must (refine step_putU (vE := lfV) rfl _ _ _ rfl fmU rfl hmF hFl ka ka9 rfl (ka, kb, 0, 0) rfl ?_); intro w5 hm5 hg5)
                go_roundg ((M1.filter fun p => (offG lf (ka, kb)) p.1).length)
                case measure => exact Nat.lt_of_lt_of_eq HK.out.1 HR.out.2.2.2.2.1
                case rel =>
                  refine ⟨putM F ka (ka, kb, 0, 0), addP P (ka, kb), _, Lib.hid ⟨(HS6.out.call (t' := thMu lfV bF (putM F ka (ka, kb, 0, 0))) 6 rfl (Tou.of_grown hg5 (fun j e => by injection e with e; exact e.symm)) hm5 (fun j hj => .inl hj)).tail.tail.tail.tail, (by have h9 := HR.out.2.1.new HD.out.1 (fun v hv => by rw [HL.out] at hv; cases hv); rw [HD.out.2] at h9; exact h9), HK.out.2.2, fun j h => .inl (HR.out.2.2.2.1 j h), rfl, ?_⟩⟩
                  have h1 := HK.out.1
                  have h2 := HR.out.2.2.2.2.2
                  have h3 := HR.out.2.2.2.2.1
                  have h4 := putM_len F ka (ka, kb, 0, 0)
                  omega
              | some v =>
                obtain ⟨va, vb, vc, vs⟩ := v
                rw [hlo] at hk3
                have hl3 : (Instr.lookup FMT (.map (some bF)) (.int .u32 ((ka : Nat) : Int)) true).run Tryd.prog Vb = .ok (.tuple #[.agg #[.int .u32 ((va : Nat) : Int), .int .u32 ((vb : Nat) : Int), .int .u32 ((vc : Nat) : Int), .int .u64 ((vs : Nat) : Int)], .bool true]) Vb := hk3
                have HL := Lib.hid hlo
                have S6 := HS5.out.box #[.int .u32 ((va : Nat) : Int), .int .u32 ((vb : Nat) : Int), .int .u32 ((vc : Nat) : Int), .int .u64 ((vs : Nat) : Int)] 26
                clear hk3 hlo
                by_cases hlt : kb < vb
                · have hd : decide (kb < vb) = true := decide_eq_true hlt
                  have hd2 : (kb : Int) < (vb : Int) := by omega
                  have HLt := Lib.hid hlt
                  clear hlt
                  go_upto_region 13 with fail
                  generalize hVc : World.alloc _ _ = Vc at S6 ⊢
                  obtain ⟨g15, hg15⟩ : ∃ g, g = Vb.heap.size := ⟨_, rfl⟩
                  rw [← hg15] at S6 ⊢
                  clear D10 D11 D13 hl3 hVc hg15
                  have D10 := cells_say (S6.blk 3) _ 0 rfl
                  have D11 := cells_say (S6.blk 2) _ 0 rfl
                  have D15 := cells_say (S6.blk 0) _ 0 rfl
                  simp only [cellsSay, List.drop_zero, Nat.reduceAdd, and_true] at D10 D11 D15
                  have hmF : Mu lfV Vc bF F := S6.at_ 6 rfl
                  have hFl : F.length < maxLen := by
                    have h2 := HR.out.2.2.2.2.2
                    unfold maxLen
                    omega
                  have HS6 := Lib.hid S6
                  clear S6
                  go_wp2_with (at_mapUpdate; go_must (refine step_putU (vE := lfV) rfl _ _ _ rfl fmU rfl hmF hFl ka ka9 rfl (ka, kb, 0, 0) rfl ?_); intro w5 hm5 hg5)
                  go_roundg ((M1.filter fun p => (offG lf (ka, kb)) p.1).length)
                  case measure => exact Nat.lt_of_lt_of_eq HK.out.1 HR.out.2.2.2.2.1
                  case rel =>
                    refine ⟨putM F ka (ka, kb, 0, 0), addP P (ka, kb), _, Lib.hid ⟨(HS6.out.call (t' := thMu lfV bF (putM F ka (ka, kb, 0, 0))) 6 rfl (Tou.of_grown hg5 (fun j e => by injection e with e; exact e.symm)) hm5 (fun j hj => .inl hj)).tail.tail.tail.tail, (by have h9 := HR.out.2.1.new HD.out.1 (fun v hv => by rw [HL.out] at hv; injection hv with hv; rw [← hv]; exact Nat.le_of_lt HLt.out); rw [HD.out.2] at h9; exact h9), HK.out.2.2, fun j h => .inl (HR.out.2.2.2.1 j h), rfl, ?_⟩⟩
                    have h1 := HK.out.1
                    have h2 := HR.out.2.2.2.2.2
                    have h3 := HR.out.2.2.2.2.1
                    have h4 := putM_len F ka (ka, kb, 0, 0)
                    omega
                · have hd : decide (kb < vb) = false := decide_eq_false hlt
                  have hd2 : ¬ (kb : Int) < (vb : Int) := by omega
                  have HLt := Lib.hid hlt
                  clear hlt
                  go_upto_region 13 with fail
                  generalize hVc : World.alloc _ _ = Vc at S6 ⊢
                  obtain ⟨g15, hg15⟩ : ∃ g, g = Vb.heap.size := ⟨_, rfl⟩
                  rw [← hg15] at S6 ⊢
                  clear D10 D11 D13 hl3 hVc hg15
                  have D10 := cells_say (S6.blk 3) _ 0 rfl
                  have D15 := cells_say (S6.blk 0) _ 0 rfl
                  simp only [cellsSay, List.drop_zero, Nat.reduceAdd, and_true] at D10 D15
                  have HS6 := Lib.hid S6
                  clear S6
                  go_wp2_with fail
                  go_roundg ((M1.filter fun p => (offG lf (ka, kb)) p.1).length)
                  case measure => exact Nat.lt_of_lt_of_eq HK.out.1 HR.out.2.2.2.2.1
                  case rel =>
                    refine ⟨F, addP P (ka, kb), _, Lib.hid ⟨HS6.out.tail.tail.tail.tail, HR.out.2.1.low HL.out (Nat.le_of_not_lt HLt.out), HK.out.2.2, fun j h => .inl (HR.out.2.2.2.1 j h), rfl, ?_⟩⟩
                    have h1 := HK.out.1
                    have h2 := HR.out.2.2.2.2.2
                    have h3 := HR.out.2.2.2.2.1
                    skip
                    omega
            | none =>
              rcases HBo.out with h | h
              · exact absurd hfx h
              · exact absurd hfy h
    · have hit2 : ¬ (i : Int) < 2 := by omega
      obtain rfl : i = 2 := by omega
      have hmF : Mu lfV wi bF F := HI.out.1.at_ 2 rfl
      have hF6 : F.length ≤ 8000 := by have := HI.out.2.2.2.2; omega
      have b1 := below_alloc wi (.cells #[.map (some bF)] FMT)
      have HK := Lib.hid (keysU_anyL bF wi)
      have HS := Lib.hid (sortedU_anyL wi.heap.size bF F (by omega) (wi.alloc (.cells #[.map (some bF)] FMT)) (by rw [World.size_alloc]; omega) ((Blk.new wi FMT #[.map (some bF)]).cell 0) ((thMu lfV bF F).below hmF b1))
      have Hb := Lib.hid b1
      have HKe := Lib.hid hmF.keys
      have HNd := Lib.hid hmF.nodup
      clear hmF b1
      go_upto_region 18 with (first | (go_at_call 21; refine HK.out.mono ?_; rintro e w5 ⟨rfl, rfl⟩) | (go_at_call 20; refine HS.out.mono ?_; rintro e w6 ⟨U6, c6, xs, rfl, hp, hr, hrow, b6⟩))
      obtain ⟨xn, hxn⟩ : ∃ n, n = xs.length := ⟨_, rfl⟩
      rw [← hxn] at hrow ⊢
      have hxn8 : xn ≤ 8000 := by rw [hxn, hp.length_eq, List.length_map]; exact hF6
      have hS7 := HI.out.1.go (Hb.out.trans (b6.mono (by rw [World.size_alloc]; omega)))
      have hap : ApR l m (firL F xs) := by
        refine ApR.of HI.out.2.1 (fun k hd => ?_) HNd.out hp hr
        have h1 := HI.out.2.2.1 (by decide)
        have h2 := HI.out.2.2.2.1 (by decide)
        cases e1 : findL l k with
        | some x =>
          obtain ⟨p, hp1, hp2⟩ := findL_mem HTB.out.1 ⟨x, e1⟩
          rw [← hp2]; exact h1 p hp1
        | none =>
          cases e2 : findL m k with
          | some x =>
            obtain ⟨p, hp1, hp2⟩ := findL_mem HTB.out.2 ⟨x, e2⟩
            rw [← hp2]; exact h2 p hp1
          | none => exact absurd (e1.trans e2.symm) hd
      have hin : ∀ x ∈ xs, ∃ v, lookM F x = some v := fun x hx => by
        obtain ⟨p, hp1, rfl⟩ := List.mem_map.1 (hp.subset hx)
        exact ⟨p.2, lookM_of_mem HNd.out hp1⟩
      have hx32 : ∀ x ∈ xs, x < 4294967296 := fun x hx => by
        obtain ⟨p, hp1, rfl⟩ := List.mem_map.1 (hp.subset hx)
        exact HKe.out p hp1
      have HX := Lib.hid (And.intro hxn (And.intro hrow (And.intro hap (And.intro hin hx32))))
      have HS7 := Lib.hid (show Sep w.heap.size w w6 [thMu lfV bF F] from hS7.tail.tail.sub (List.Sublist.cons_cons _ (List.nil_sublist _)))
      have HFs := Lib.hid (And.intro HI.out.2.1 hF6)
      clear hxn hrow hS7 hap hin hx32 hp hr b6 Hb HK HS HKe HNd HI hF6
      go_loopw [17, 19, 91] (fun s17 s19 s91 wj => ∃ (j mm cc : Nat) (U2 : Option Addr), s91 = .int .i64 (j : Nat) ∧ j ≤ xn ∧ s17 = .slice U2 mm cc ∧ mm ≤ j ∧ Hid (mm = ((firL F xs).take j).length ∧ Sep w6.heap.size w6 wj [thR 26 encLf 4 (.slice U2 mm cc) ((firL F xs).take j)]))
        (fun _ _ s91 _ => xn - (intOf s91).toNat)
      case atStart => exact ⟨0, 0, 0, none, by go_num, Nat.zero_le _, rfl, Nat.le_refl _, Lib.hid ⟨rfl, (Sep.nil (Below.refl w6.heap.size w6) (Nat.le_refl _)).addNilR 26 encLf 4⟩⟩
      case round =>
        obtain ⟨j, mm, cc, U2, rfl, hj, rfl, hmm, HJ⟩ := hrel
        obtain ⟨wj, hwj⟩ : ∃ wj, wj = wr := ⟨_, rfl⟩
        rw [← hwj] at HJ ⊢
        clear hwj
        by_cases hjx : j < xn
        · obtain ⟨x, hx⟩ : ∃ x, xs[j]? = some x := ⟨_, List.getElem?_eq_getElem (by rw [← HX.out.1]; exact hjx)⟩
          obtain ⟨gs, hgs, -, hcs⟩ := row_at Tryd.eltU (HX.out.2.1.mono (Nat.zero_le _)) hx
          subst hgs
          have C1 : wj.cell? ⟨gs, j, none⟩ = some (.int .u32 (x : Nat)) := by
            have h1 := hcs 0 _ rfl
            rw [Nat.mul_one, Nat.add_zero] at h1
            exact (HJ.out.2.b.cell (cell_lt h1)).trans h1
          have hxm := List.mem_of_getElem? hx
          obtain ⟨v, hv⟩ := HX.out.2.2.2.1 x hxm
          have hx9 := HX.out.2.2.2.2 x hxm
          obtain ⟨va, vb, vc, vs⟩ := v
          have hlk := Mu.look1 (show Mu lfV wj bF F from (thMu lfV bF F).below (HS7.out.at_ 0 rfl) HJ.out.2.b) fmU (lfZ wj) x hx9
          rw [hv] at hlk
          have hl2 : (Instr.lookup FMT (.map (some bF)) (.int .u32 ((x : Nat) : Int)) false).run Tryd.prog wj = .ok (.agg #[.int .u32 ((va : Nat) : Int), .int .u32 ((vb : Nat) : Int), .int .u32 ((vc : Nat) : Int), .int .u64 ((vs : Nat) : Int)]) wj := hlk
          have hsn : (firL F xs).take (j + 1) = (firL F xs).take j ++ [(va, vb, vc, vs)] := by
            have hg : (firL F xs)[j]? = some (va, vb, vc, vs) := by
              unfold firL
              rw [List.getElem?_map, hx, Option.map_some, hv, Option.getD_some]
            rw [List.take_add_one, hg]
            rfl
          have hjx2 : (j : Int) < (xn : Int) := by omega
          have HSn := Lib.hid hsn
          have HSB := Lib.hid (HJ.out.2.box #[.int .u32 ((va : Nat) : Int), .int .u32 ((vb : Nat) : Int), .int .u32 ((vc : Nat) : Int), .int .u64 ((vs : Nat) : Int)] 26)
          clear hx hcs hxm hv hlk hsn
          go_upto_region 21 with (at_builtin; go_must (refine sep_app1 Tryd.eltLf rfl (.tmp 95) (.tmp 99) rfl 1 (.slice U2 mm cc) ((firL F xs).take j) (by simp [Act.eval, Act.put]) HSB.out rfl wj.heap.size 1 (va, vb, vc, vs) 26 #[.int .u32 ((va : Nat) : Int), .int .u32 ((vb : Nat) : Int), .int .u32 ((vc : Nat) : Int), .int .u64 ((vs : Nat) : Int)] rfl (HSB.out.blk 0) rfl (by unfold maxLen; rw [← HJ.out.1]; omega) (by rw [← HJ.out.1]; omega) ?_); intro g8 c8 w8 hS8; rw [← HJ.out.1] at hS8 ⊢)
          have hS9 := hS8.tail
          simp only [List.set_cons_succ, List.set_cons_zero, List.tail_cons] at hS9
          rw [← HSn.out] at hS9
          have HE := Lib.hid hS9
          clear C1 hl2 HSB hS8 hS9
          go_wp2_with fail
          go_roundw
          case measure => simp [intOf]; omega
          case rel => exact ⟨j + 1, mm + 1, c8, some ⟨g8, 0, none⟩, by go_num, by omega, rfl, by omega, Lib.hid ⟨by rw [HSn.out, List.length_append, ← HJ.out.1]; rfl, HE.out⟩⟩
        · have hjx2 : ¬ (j : Int) < (xn : Int) := by omega
          have hjj : j = xn := by omega
          have HE := Lib.hid (show mm = (firL F xs).length ∧ Sep w6.heap.size w6 wj [thR 26 encLf 4 (.slice U2 mm cc) (firL F xs)] by
            have h1 := HJ.out
            rw [hjj, List.take_of_length_le (l := firL F xs) (by unfold firL; rw [List.length_map, ← HX.out.1]; exact Nat.le_refl _)] at h1
            exact h1)
          clear hjj HJ
          go_wp2_with fail
          go_ret
          exact ⟨U2, cc, firL F xs, by rw [← HE.out.1]; rfl, by rw [← HE.out.1]; exact HE.out.2.rebase HS7.out.b, HX.out.2.2.1⟩
end Go.Proofs.YtiliineopplinaaDoor

/- Layer 26: what a book lacks: the data; the map of known leaves; the closure. -/
set_option linter.unusedSimpArgs false
set_option linter.unusedVariables false
namespace Go.Proofs.YtiliineopplinaaDoor
open Go.RowKit
set_option maxRecDepth 100000

/-- an append of many elements to thing i -/
theorem sep_appN {α : Type} {P : Program} {t e : TypeId} {enc : α → List Value} {sz bytes : Nat} (E : Elt P t e enc sz bytes) {w : World} {ops : Array Oper} {rest : List Oper} {o : Oper} {a : Act} {Q : Exit → Act → World → Prop} (hgd : o.guard = none) (s x : Operand)
    (ho : o.op = .call { callee := .builtin .append, args := #[s, x], argTypes := #[t, t] })
    {B : Nat} {w0 : World} {ts : List Kt} (i : Nat) (v : Value) (L : List α) (hs : a.eval s = v) (h : Sep B w0 w ts) (hi : ts[i]? = some (thR e enc sz v L)) (A : Option Addr) (c : Nat) (l : List α) (hl0 : 0 < l.length)
    (hx : a.eval x = .slice A l.length c) (hb : Rw w enc sz A l) (hlen : L.length + l.length ≤ maxLen) (hbytes : (L.length + l.length) * bytes ≤ 140737488355328)
    (hK : ∀ g' c' w', Sep B w0 w' (ts.set i (thR e enc sz (.slice (some ⟨g', 0, none⟩) (L.length + l.length) c') (L ++ l))) → wpList P ops Q rest (a.put o.dst (.slice (some ⟨g', 0, none⟩) (L.length + l.length) c')) w') : wpList P ops Q (o :: rest) a w := by
  obtain ⟨z, hinfo, hzs⟩ := E.info
  obtain ⟨iv, hiv, hz, hsz, hby⟩ := info_parts hinfo
  have hown : OwnR w 0 e enc sz v L := h.at_ i hi
  obtain ⟨y0, hy0⟩ : ∃ y, l[0]? = some y := ⟨_, List.getElem?_eq_getElem hl0⟩
  obtain ⟨p, o0, hA0, -⟩ := hb 0 y0 hy0
  subst hA0
  refine wpList_append_lies (P := P) w hgd s x t ho 0 e iv z sz bytes E.under hiv hz hsz hby hzs E.pos v L.length (L.flatMap enc) hs hown ⟨p, o0, none⟩ l.length c (l.flatMap enc) hx (flat_length enc sz E.len l) ?_ ?_ hl0 hlen hbytes (Nat.zero_le _) w.heap.size rfl ?_
  · intro j u hj
    obtain ⟨y, hy, hu⟩ := flat_at enc sz E.pos E.len l j u hj
    obtain ⟨p2, o2, hA, hc⟩ := hb _ y hy
    injection hA with e
    injection e with e1 e2
    subst e1 e2
    have h1 := hc _ u hu
    rw [Nat.add_assoc, Nat.mul_comm, Nat.div_add_mod] at h1
    unfold Addr.add
    split
    · rename_i h0; subst h0; simpa using h1
    · exact h1
  · intro u hu
    obtain ⟨y, _, hy⟩ := List.mem_flatMap.1 hu
    exact E.one y u hy
  · intro g' c' w' h2 h3 h4 h5
    refine hK g' c' w' (h.call (t' := thR e enc sz (.slice (some ⟨g', 0, none⟩) (L.length + l.length) c') (L ++ l)) i hi (Tou.of_grown h3 (fun j e => e)) ?_ (fun j hj => ?_))
    · show OwnR w' 0 e enc sz _ (L ++ l)
      unfold OwnR
      rw [List.length_append, List.flatMap_append]
      exact h2
    · injection (show some g' = some j from hj) with hj
      subst hj
      rcases h4 with h4 | h4
      · exact .inl h4
      · exact .inr (by omega)
theorem rw_dropG {α : Type} {w : World} {enc : α → List Value} {sz g : Nat} {l : List α} (h : Rw w enc sz (some ⟨g, 0, none⟩) l) (k : Nat) : Rw w enc sz (some ⟨g, k * sz, none⟩) (l.drop k) := fun i x hi => by
  rw [List.getElem?_drop] at hi
  obtain ⟨p, o, hp, hc⟩ := h (k + i) x hi
  injection hp with hp
  injection hp with e1 e2
  subst e1 e2
  refine ⟨_, _, rfl, fun j v hj => ?_⟩
  have h1 := hc j v hj
  rw [Nat.zero_add, Nat.add_mul] at h1
  exact h1
theorem run_restF (g n c k : Nat) (hk : k < n) (hc : n ≤ c) (w : World) : (Instr.slice 40 (.slice (some ⟨g, 0, none⟩) n c) (some (.int .i64 k)) none none).run Tryd.prog w = .ok (.slice (some ⟨g, k * 11, none⟩) (n - k) (c - k)) w := by
  have hi : (Tryd.prog.info? 59).map (fun i => i.size) = some 11 := by kernel_rfl
  rw [run_slice_l w 40 (some ⟨g, 0, none⟩) n c Tryd.underlying40 .i64 (k : Nat) (by omega) (by omega)]
  have hs : (sizeOf (Tryd.prog.elem 40)).run Tryd.prog w = .ok 11 w := by
    have e : Tryd.prog.elem 40 = 59 := by kernel_rfl
    rw [e]
    obtain ⟨i, h1, h2⟩ := Option.map_eq_some_iff.1 hi
    simp [sizeOf, typeInfo, h1, h2]
  rw [hs]
  simp only [Result.andThen, sliced, Int.toNat_natCast]
  rw [if_neg (by omega)]
  simp [Addr.add] <;> omega
/-! ### known leaves -/
def uE (_ : Unit) : Value := .agg #[]
abbrev KNT : TypeId := 96
theorem knU : Tryd.prog.underlying KNT = some (.map KCl.K 97) := Tryd.underlying96
theorem unZ (w : World) : (zeroValue 97).run Tryd.prog w = .ok (uE ()) w := by kernel_rfl
structure KnI (l : List LfD) (K : List (LfD × Unit)) : Prop where
  look : ∀ x, (lookMG K x).isSome = decide (x ∈ l)
  len : K.length ≤ l.length
theorem KnI.nil : KnI [] [] := ⟨fun x => rfl, Nat.le_refl _⟩
theorem KnI.put {l : List LfD} {K : List (LfD × Unit)} (h : KnI l K) (x : LfD) : KnI (l ++ [x]) (putMG K x ()) := by
  refine ⟨fun y => ?_, ?_⟩
  · rw [look_putG]
    by_cases e : y = x
    · rw [if_pos e, e]; simp
    · rw [if_neg e, h.look y]; simp [e]
  · have h1 := h.len
    unfold putMG
    rw [List.length_append, List.length_singleton]
    split
    · rw [List.length_map]; omega
    · rw [List.length_append, List.length_singleton]; omega
end Go.Proofs.YtiliineopplinaaDoor

/- Layer 26: the closure of Lacks, slices.IndexFunc with it. -/
set_option linter.unusedSimpArgs false
set_option linter.unusedVariables false
namespace Go.Proofs.YtiliineopplinaaDoor
open Go.RowKit
set_option maxRecDepth 100000

/-- a frame's numbers as the closure takes them -/
abbrev frV (se fc cn : Nat) (cb : Bool) (A : Option Addr) (c pl bl : Nat) : Value := .agg #[.int .u8 0, .int .u32 0, .int .u32 (se : Nat), .int .u32 (fc : Nat), .int .u32 0, .int .u32 0, .int .u32 (cn : Nat), .bool cb, .int .u64 0, .slice A pl c, .int .i64 (bl : Nat)]
set_option maxHeartbeats 4000000 in
theorem lk1_any {B : Nat} {w0 w : World} {ts : List Kt} (q1 bK : Nat) (K : List (LfD × Unit)) (h : Sep B w0 w (thMuG KCl uE bK K :: thB q1 KNT #[.map (some bK)] :: ts)) (se fc cn : Nat) (cb : Bool) (A : Option Addr) (c : Nat) (M : List Bool) (hb : Bs w A (pack M)) (hL : M.length ≤ 146000) (h1 : se < 4294967296) (h2 : fc < 4294967296) (h3 : cn < 4294967296) :
    Calls Tryd.prog 28 #[frV se fc cn cb A c (pack M).length M.length, .pointer (some ⟨q1, 0, none⟩)] w fun e w' => e = .returned (.bool (!(lookMG K (se, fc, cn, moreR 0 M)).isSome)) ∧ Below w.heap.size w w' := by
  have hmx : Tryd.prog.follows .mixedOrders = true := by kernel_rfl
  have hZ9 : moreR 0 M < 2305843009213693951 := moreR_lt _ _
  have hLf0 := fun (W : World) (hW : Below w.heap.size w W) => leafOf_any 0 0 se fc 0 0 cn cb 0 A c M W (hb.below hW) hL
  obtain ⟨pl, hpl⟩ : ∃ n, n = (pack M).length := ⟨_, rfl⟩
  obtain ⟨ml, hml⟩ : ∃ n, n = M.length := ⟨_, rfl⟩
  obtain ⟨Z, hZ⟩ : ∃ Z, Z = moreR 0 M := ⟨_, rfl⟩
  rw [← hpl, ← hml, ← hZ] at hLf0
  rw [← hpl, ← hml, ← hZ]
  rw [← hZ] at hZ9
  have HLf0 := Lib.hid hLf0
  obtain ⟨is, his⟩ : ∃ b, b = (lookMG K (se, fc, cn, Z)).isSome := ⟨_, rfl⟩
  rw [← his]
  have hS := h.box #[.int .u8 0, .int .u32 0, .int .u32 (se : Nat), .int .u32 (fc : Nat), .int .u32 0, .int .u32 0, .int .u32 (cn : Nat), .bool cb, .int .u64 0, .slice A pl c, .int .i64 (ml : Nat)] 59
  have bW := below_alloc w (.cells #[.int .u8 0, .int .u32 0, .int .u32 (se : Nat), .int .u32 (fc : Nat), .int .u32 0, .int .u32 0, .int .u32 (cn : Nat), .bool cb, .int .u64 0, .slice A pl c, .int .i64 (ml : Nat)] 59)
  have HI0 := Lib.hid his
  have hzok : lfOkK (se, fc, cn, Z) := ⟨h1, h2, h3, by show Z < _; omega⟩
  have HZ := Lib.hid hzok
  clear hb hL hpl hml hZ hLf0 his hZ9 h hzok
  go_enter Tryd.func28, Tryd.ntmps28
  go_upto_region 1 with fail
  generalize hV : World.alloc _ _ = V at hS bW ⊢
  obtain ⟨g2, hg2⟩ : ∃ g, g = w.heap.size := ⟨_, rfl⟩
  rw [← hg2] at hS ⊢
  obtain ⟨I, hI⟩ : ∃ I : Rec → World → Prop, ∀ E' W, I E' W ↔ Below V.heap.size V W := ⟨_, fun _ _ => Iff.rfl⟩
  have hI0 : I (fun _ => none) V.drew := (hI _ _).2 (Below.refl _ _).drew
  haveI : Nonempty (InvW I) := ⟨⟨_, _, hI0⟩⟩
  have hSy := fun (y : InvW I) => hS.go ((hI _ _).1 y.h)
  have e1 : ∀ y : InvW I, y.W.cell? ⟨q1, 0, none⟩ = some (.map (some bK)) := fun y => ((hSy y).blk 2).cell 0
  have C2 : ∀ y : InvW I, cellsSay y.W g2 0 [.int .u8 0, .int .u32 0, .int .u32 (se : Nat), .int .u32 (fc : Nat), .int .u32 0, .int .u32 0, .int .u32 (cn : Nat), .bool cb, .int .u64 0, .slice A pl c, .int .i64 (ml : Nat)] := fun y => cells_say ((hSy y).blk 0) _ 0 rfl
  simp only [cellsSay, Nat.reduceAdd, and_true] at C2
  have hl3 : ∀ y : InvW I, ∃ u : Value, (Instr.lookup KNT (.map (some bK)) (.agg #[.int .u32 (se : Nat), .int .u32 (fc : Nat), .int .u32 (cn : Nat), .int .u64 (Z : Nat)]) true).run Tryd.prog y.W = .ok (.tuple #[.agg #[], .bool is]) y.W := fun y => ⟨.agg #[], by
    have h1 := MuG.look (show MuG KCl uE y.W bK K from (hSy y).at_ 1 rfl) knU (unZ y.W) (se, fc, cn, Z) HZ.out
    rw [← HI0.out] at h1
    refine h1.trans ?_
    congr 3
    cases lookMG K (se, fc, cn, Z) <;> rfl⟩
  have hl4 : ∀ y : InvW I, (Instr.lookup KNT (.map (some bK)) (.agg #[.int .u32 (se : Nat), .int .u32 (fc : Nat), .int .u32 (cn : Nat), .int .u64 (Z : Nat)]) true).run Tryd.prog y.W = .ok (.tuple #[.agg #[], .bool is]) y.W := fun y => (hl3 y).elim fun _ h => h
  have HI2 := Lib.hid hI
  have HbW := Lib.hid bW
  clear hI hl3 hV hg2 hS hSy bW
  refine wp_region_inv I [[], [], [], [], [], [], [], [], [7]] [2, 7, 8] (fun k v => if k = 2 then v = .agg #[.int .u32 (se : Nat), .int .u32 (fc : Nat), .int .u32 (cn : Nat), .int .u64 (Z : Nat)] else if k = 7 then ∃ g, v = .pointer (some ⟨g, 0, none⟩) else v = undef) hmx (by kernel_rfl) hI0 ?_
  iterate 2 (refine walkJ_one rfl (by kernel_rfl) ?_; go_big_quiet_step (fail); refine wpQuiet_nil ?_)
  refine walkJ_turn rfl rfl ⟨_, rfl⟩ (fun s W1 hs h7 _ => ?_) ?_
  · have hb1 := (HI2.out _ _).1 hs
    refine inv_call (by simp [execOp, go_sem]) ((HLf0.out W1 (HbW.out.trans (hb1.mono HbW.out.size))).mono ?_)
    rintro e w5 ⟨rfl, b5⟩
    exact ⟨_, rfl, rfl, (HI2.out _ _).2 (hb1.trans (b5.mono hb1.size))⟩
  rintro v rfl
  conv => arg 11; simp [Act.put]
  iterate 4 (refine walkJ_one rfl (by kernel_rfl) ?_; go_big_quiet_step (fail); refine wpQuiet_nil ?_)
  refine walkJ_turn rfl rfl ⟨.pointer (some ⟨0, 0, none⟩), 0, rfl⟩ (fun s W1 hs h7 _ => ?_) ?_
  · have hb1 := (HI2.out _ _).1 hs
    have hr : ∀ w' : World, (execOp (Act.eval { tmps := #[], defers := [] }) { dst := none, op := .alloc 97, type := 0, pos := "", after := #[], guard := none }).run Tryd.prog w' = .ok (.value (.pointer (some ⟨w'.heap.size, 0, none⟩))) (w'.alloc (.cells #[] 97)) := fun w' => by simp [execOp, go_sem]
    have hr2 := hr W1
    simp only [execOp] at hr2 ⊢
    exact inv_val (W' := W1.alloc (.cells #[] 97)) (v := .pointer (some ⟨W1.heap.size, 0, none⟩)) hr2 ⟨⟨_, rfl⟩, (HI2.out _ _).2 (hb1.trans ((below_alloc W1 _).mono hb1.size))⟩
  rintro v ⟨g4, rfl⟩
  conv => arg 11; simp [Act.put]
  refine walkJ_turn rfl rfl ⟨_, rfl⟩ (fun s W1 hs h7 _ => ?_) ?_
  · have hb1 := (HI2.out _ _).1 hs
    exact inv_skip (W' := W1) (by simp [execOp, go_sem]) ⟨rfl, (HI2.out _ _).2 hb1⟩
  rintro v rfl
  conv => arg 11; simp [Act.put]
  iterate 1 (refine walkJ_one rfl (by kernel_rfl) ?_; go_big_quiet_step (fail); refine wpQuiet_nil ?_)
  refine walkJ_end ?_
  intro wp hW'
  have HF := Lib.hid ((HI2.out _ _).1 hW')
  clear hW' HI2 hI0 e1 C2 hl4
  go_wp2_with fail
  go_ret
  exact ⟨rfl, HbW.out.trans (HF.out.mono HbW.out.size)⟩
/-- the first chunk whose leaf is not known -/
def lkN (kn : List LfD) (x : Nat) (C : CsT) : Nat := ((List.range (chN C)).takeWhile fun j => decide (leafC x C j ∈ kn)).length
theorem lkN_at {kn : List LfD} {x : Nat} {C : CsT} {i : Nat} (hi : i < chN C) (hn : leafC x C i ∉ kn) (hb : ∀ j, j < i → leafC x C j ∈ kn) : lkN kn x C = i := by
  unfold lkN
  have e : List.range (chN C) = List.range i ++ i :: List.range' (i + 1) (chN C - (i + 1)) := by
    rw [List.range_eq_range', List.range_eq_range']
    obtain ⟨d, hd⟩ : ∃ d, chN C = i + (1 + d) := ⟨chN C - i - 1, by omega⟩
    rw [hd, ← List.range'_append_1, Nat.zero_add, Nat.add_comm 1 d, List.range'_succ, show i + (d + 1) - (i + 1) = d by omega]
  rw [e, List.takeWhile_append_of_pos (fun j hj => decide_eq_true (hb j (List.mem_range.1 hj))), List.takeWhile_cons_of_neg (by simpa using hn), List.append_nil, List.length_range]
theorem lkN_all {kn : List LfD} {x : Nat} {C : CsT} (hb : ∀ j, j < chN C → leafC x C j ∈ kn) : lkN kn x C = chN C := by
  unfold lkN
  have e : (List.range (chN C)).takeWhile (fun j => decide (leafC x C j ∈ kn)) = List.range (chN C) := by
    have h := List.takeWhile_append_of_pos (p := fun j => decide (leafC x C j ∈ kn)) (l₁ := List.range (chN C)) (l₂ := []) (fun j hj => decide_eq_true (hb j (List.mem_range.1 hj)))
    rw [List.append_nil, List.takeWhile_nil, List.append_nil] at h
    exact h
  rw [e, List.length_range]
def IdxO (w : World) (kn : List LfD) (x : Nat) (C : CsT) (e : Ending) (w' : World) : Prop := Below w.heap.size w w' ∧ ((lkN kn x C = chN C ∧ e = .returned (.int .i64 (-1))) ∨ (lkN kn x C < chN C ∧ e = .returned (.int .i64 ((lkN kn x C : Nat) : Int))))
set_option maxHeartbeats 8000000 in
theorem idxL_any {B : Nat} {w0 w : World} {ts : List Kt} (q1 bK : Nat) (K : List (LfD × Unit)) (kn : List LfD) (hK : KnI kn K) (x : Nat) (hx : x < 4294967296) (C : CsT) (oc : OkC1 C) (A : Option Addr) (c tl : Nat) (T : List FrE) (h : Sep B w0 w (thMuG KCl uE bK K :: thB q1 KNT #[.map (some bK)] :: (chT (.slice A tl c) T ++ ts))) (htl : tl = T.length) (hT1 : tl = chN C) (hTf : ∀ j y, T[j]? = some y → y.f = chFr x C j ∧ ChF C j y.f) :
    Calls Tryd.prog 27 #[.slice A tl c, .func (.func 28) #[] #[.pointer (some ⟨q1, 0, none⟩)]] w (IdxO w kn x C) := by
  have hmx : Tryd.prog.follows .mixedOrders = true := by kernel_rfl
  have HH := Lib.hid (And.intro hK (And.intro oc (And.intro h (And.intro htl (And.intro hT1 hTf)))))
  have htl1 : tl ≤ 1001 := by have := oc.few; rw [hT1]; unfold chN; split <;> omega
  clear hK oc h htl hT1 hTf
  go_enter Tryd.func27, Tryd.ntmps27
  go_wp2_with fail
  go_loopw [8] (fun s wr => ∃ k : Nat, k ≤ tl ∧ s = .int .i64 k ∧ Hid (Below w.heap.size w wr ∧ ∀ j, j < k → leafC x C j ∈ kn)) (fun s _ => tl - (intOf s).toNat)
  case atStart => exact ⟨0, Nat.zero_le _, rfl, Lib.hid ⟨Below.refl _ _, fun j hj => absurd hj (Nat.not_lt_zero _)⟩⟩
  case round =>
    obtain ⟨k, hk, rfl, HR⟩ := hrel
    obtain ⟨wj, hwj⟩ : ∃ wj, wj = wr := ⟨_, rfl⟩
    rw [← hwj] at HR ⊢
    clear hwj
    by_cases hlt : k < tl
    · have hSj := HH.out.2.2.1.go HR.out.1
      obtain ⟨L, hL, hLn⟩ := chN_get HH.out.2.1 (k := k) (by rw [← HH.out.2.2.2.2.1]; exact hlt)
      obtain ⟨y, hy⟩ : ∃ y, T[k]? = some y := ⟨_, List.getElem?_eq_getElem (by rw [← HH.out.2.2.2.1]; exact hlt)⟩
      obtain ⟨gf, hgf, -, hc⟩ := row_at Tryd.eltFrE (hSj.at_ (t := thR 59 encFrE 11 (.slice A tl c) T) 2 rfl) hy
      have hbits := hSj.get (t := frB y) (List.mem_cons_of_mem _ (List.mem_cons_of_mem _ (List.mem_append.2 (.inl (List.mem_cons_of_mem _ (List.mem_map.2 ⟨y, List.mem_of_getElem? hy, rfl⟩))))))
      subst hgf
      have hyf := (HH.out.2.2.2.2.2 k y hy).1
      rw [chFr_eq HH.out.2.1 hL hLn] at hyf
      obtain ⟨yf, A3, c3⟩ := y
      replace hyf : yf = ⟨0, 0, x, k, 0, 0, L.length, decide (k + 1 < C.length), 0, pack (bitsL L), ((bitsL L).length : Nat)⟩ := hyf
      subst hyf
      have hb : Bs wj A3 (pack (bitsL L)) := OwnB.bs hbits
      have hLm := List.mem_of_getElem? hL
      have hbl := bits_small (HH.out.2.1.lenL hLm) (HH.out.2.1.incL hLm)
      have hll := HH.out.2.1.lenL hLm
      have hlk := lk1_any q1 bK K hSj x k L.length (decide (k + 1 < C.length)) A3 c3 (bitsL L) hb hbl hx (by omega) (by omega)
      have hlf : leafC x C k = (x, k, L.length, moreR 0 (bitsL L)) := by unfold leafC; rw [hL]; rfl
      rw [← hlf, HH.out.1.look] at hlk
      obtain ⟨pl, hpl⟩ : ∃ n, n = (pack (bitsL L)).length := ⟨_, rfl⟩
      obtain ⟨bl, hbl2⟩ : ∃ n, n = (bitsL L).length := ⟨_, rfl⟩
      obtain ⟨ln, hln⟩ : ∃ n, n = L.length := ⟨_, rfl⟩
      obtain ⟨cb, hcb⟩ : ∃ b, b = decide (k + 1 < C.length) := ⟨_, rfl⟩
      have f0 : wj.cell? ⟨gf, k * 11, none⟩ = some (.int .u8 0) := hc 0 _ rfl
      have f1 : wj.cell? ⟨gf, k * 11 + 1, none⟩ = some (.int .u32 0) := hc 1 _ rfl
      have f2 : wj.cell? ⟨gf, k * 11 + 2, none⟩ = some (.int .u32 (x : Nat)) := hc 2 _ rfl
      have f3 : wj.cell? ⟨gf, k * 11 + 3, none⟩ = some (.int .u32 (k : Nat)) := hc 3 _ rfl
      have f4 : wj.cell? ⟨gf, k * 11 + 4, none⟩ = some (.int .u32 0) := hc 4 _ rfl
      have f5 : wj.cell? ⟨gf, k * 11 + 5, none⟩ = some (.int .u32 0) := hc 5 _ rfl
      have f6 : wj.cell? ⟨gf, k * 11 + 6, none⟩ = some (.int .u32 (ln : Nat)) := by rw [hln]; exact hc 6 _ rfl
      have f7 : wj.cell? ⟨gf, k * 11 + 7, none⟩ = some (.bool cb) := by rw [hcb]; exact hc 7 _ rfl
      have f8 : wj.cell? ⟨gf, k * 11 + 8, none⟩ = some (.int .u64 0) := hc 8 _ rfl
      have f9 : wj.cell? ⟨gf, k * 11 + 9, none⟩ = some (.slice A3 pl c3) := by rw [hpl]; exact hc 9 _ rfl
      have f10 : wj.cell? ⟨gf, k * 11 + 10, none⟩ = some (.int .i64 (bl : Nat)) := by rw [hbl2]; exact hc 10 _ rfl
      rw [← hln, ← hcb, ← hpl, ← hbl2] at hlk
      have HLk := Lib.hid hlk
      have hkl : (k : Int) < (tl : Int) := by omega
      clear hL hLn hy hc hbits hb hLm hbl hll hlf hpl hbl2 hln hcb hSj hlk
      go_wp2_with fail
      refine HLk.out.mono ?_
      rintro e w2 ⟨rfl, b2⟩
      have HB := Lib.hid (HR.out.1.trans (b2.mono HR.out.1.size))
      clear b2 HLk f0 f1 f2 f3 f4 f5 f6 f7 f8 f9 f10
      by_cases hg : leafC x C k ∈ kn
      · rw [decide_eq_true hg]
        have HG := Lib.hid hg
        clear hg
        go_wp2_with fail
        go_roundw
        case measure => simp [intOf]; omega
        case rel => exact ⟨k + 1, by omega, by go_num, Lib.hid ⟨HB.out, fun j hj => by
          rcases Nat.lt_or_ge j k with h1 | h1
          · exact HR.out.2 j h1
          · rw [show j = k by omega]; exact HG.out⟩⟩
      · rw [decide_eq_false hg]
        have hN := lkN_at (by rw [← HH.out.2.2.2.2.1]; exact hlt) hg HR.out.2
        have HG := Lib.hid hN
        clear hg hN
        go_wp2_with fail
        go_ret
        exact ⟨HB.out, .inr ⟨by rw [HG.out, ← HH.out.2.2.2.2.1]; exact hlt, by rw [HG.out]; rfl⟩⟩
    · have hkl : ¬ (k : Int) < (tl : Int) := by omega
      have hkk : k = tl := by omega
      have hN := lkN_all (kn := kn) (x := x) (C := C) (fun j hj => HR.out.2 j (by rw [hkk, HH.out.2.2.2.2.1]; exact hj))
      have HG := Lib.hid hN
      clear hN hkk
      go_wp2_with fail
      go_ret
      exact ⟨HR.out.1, .inl ⟨HG.out, rfl⟩⟩
end Go.Proofs.YtiliineopplinaaDoor

/- Layer 26: Lacks. -/
set_option linter.unusedSimpArgs false
set_option linter.unusedVariables false
namespace Go.Proofs.YtiliineopplinaaDoor
open Go.RowKit
set_option maxRecDepth 100000

/-- the frames that are lacking -/
def lackC (kn : List LfD) (x : Nat) (C : CsT) : List FrD := ((List.range (chN C)).drop (lkN kn x C)).map (chFr x C)
def lackX (kn : List LfD) (D : BD) (xs : List Nat) : List FrD := xs.flatMap fun x => lackC kn x (D.at_ x)
theorem lackX_snoc (kn : List LfD) (D : BD) (xs : List Nat) (x : Nat) : lackX kn D (xs ++ [x]) = lackX kn D xs ++ lackC kn x (D.at_ x) := by unfold lackX; simp
def LkO (kn : List LfD) (D : BD) (w : World) (e : Ending) (w' : World) : Prop := ∃ U c T, e = .returned (.slice U T.length c) ∧ Sep w.heap.size w w' (chT (.slice U T.length c) T) ∧ T.map (fun y => y.f) = lackX kn D (ksD D)
theorem frames_drop {x : Nat} {C : CsT} {T : List FrE} (hl : T.length = chN C) (hf : ∀ j y, T[j]? = some y → y.f = chFr x C j) (i : Nat) : (T.drop i).map (fun y => y.f) = ((List.range (chN C)).drop i).map (chFr x C) := by
  have h : T.map (fun y => y.f) = (List.range (chN C)).map (chFr x C) := by
    refine List.ext_getElem? fun j => ?_
    rw [List.getElem?_map, List.getElem?_map]
    rcases Nat.lt_or_ge j T.length with h1 | h1
    · rw [List.getElem?_eq_getElem h1, List.getElem?_range (by omega), Option.map_some, Option.map_some, hf j _ (List.getElem?_eq_getElem h1)]
    · rw [List.getElem?_eq_none h1, List.getElem?_eq_none (by rw [List.length_range]; omega)]
      rfl
  rw [List.map_drop, List.map_drop, h]
set_option maxHeartbeats 32000000 in
theorem lacks_any {B : Nat} {w0 w : World} {q : Nat} {D : BD} {ts : List Kt} (h : Bk B w0 w q D ts) (V : Option Addr) (c : Nat) (kn : List LfD) (hV : Rw w encLf 4 V kn) (hok : ∀ x ∈ kn, LfOk x) (hl : kn.length ≤ 100000) :
    Calls Tryd.prog 13 #[ptB q, .slice V kn.length c] w (LkO kn D w) := by
  have hmx : Tryd.prog.follows .mixedOrders = true := by kernel_rfl
  have hk64 : (ksD D).length ≤ 64 := by rw [ksD_len]; have h1 := h.okD.few; have h2 := h.okD.mo2; omega
  obtain ⟨ln, hln⟩ : ∃ n, n = kn.length := ⟨_, rfl⟩
  have hln6 : ln ≤ 100000 := by rw [hln]; exact hl
  rw [← hln]
  have HV := Lib.hid (And.intro hV (And.intro hok hln))
  have HB := Lib.hid h
  have hS0 := ((Sep.nil (Below.refl w.heap.size w) (Nat.le_refl _)).cons (t := thMuG KCl uE w.heap.size []) (below_alloc w (.map #[] 0)) (MuG.made w) (fun k hk => by have e : k = w.heap.size := hk; omega)).box #[.map (some w.heap.size)] KNT
  rw [World.size_alloc] at hS0
  have hmm := @run_makeMap Tryd.prog
  clear hV hok hl hln h
  go_enter Tryd.func13, Tryd.ntmps13
  go_wp2_with fail
  generalize hW : World.alloc (World.alloc _ _) _ = W at hS0 ⊢
  obtain ⟨bK, hbK⟩ : ∃ b, b = w.heap.size := ⟨_, rfl⟩
  obtain ⟨g5, hg5⟩ : ∃ b, b = w.heap.size + 1 := ⟨_, rfl⟩
  have hS1 : Sep w.heap.size w W [thMuG KCl uE bK [], thB g5 KNT #[.map (some bK)]] := by rw [hbK, hg5]; exact hS0.permB (List.Perm.swap _ _ _)
  rw [← hg5]
  have HS1 := Lib.hid hS1
  clear hW hS0 hS1 hg5 hbK hmm
  go_loopw [7, 16] (fun s7 s16 wr => ∃ (i : Nat) (K : List (LfD × Unit)), s16 = .int .i64 (i : Nat) ∧ i ≤ ln ∧ Hid (Sep w.heap.size w wr [thMuG KCl uE bK K, thB g5 KNT #[.map (some bK)]] ∧ KnI (kn.take i) K))
    (fun _ s16 _ => ln - (intOf s16).toNat)
  case atStart => exact ⟨0, [], by go_num, Nat.zero_le _, Lib.hid ⟨HS1.out, KnI.nil⟩⟩
  case round =>
    obtain ⟨i, K, rfl, hi, HI⟩ := hrel
    obtain ⟨wi, hwi⟩ : ∃ wi, wi = wr := ⟨_, rfl⟩
    rw [← hwi] at HI ⊢
    clear hwi
    by_cases hit : i < ln
    · obtain ⟨x, hx⟩ : ∃ x, kn[i]? = some x := ⟨_, List.getElem?_eq_getElem (by rw [← HV.out.2.2]; exact hit)⟩
      obtain ⟨p, o, hp, hc⟩ := HV.out.1 i x hx
      subst hp
      have hxo := HV.out.2.1 x (List.mem_of_getElem? hx)
      have hsn : kn.take (i + 1) = kn.take i ++ [x] := by rw [List.take_add_one, hx]; rfl
      obtain ⟨xa, xb, xc, xs⟩ := x
      have old : ∀ j v, (encLf (xa, xb, xc, xs))[j]? = some v → wi.cell? ⟨p, o + i * 4 + j, none⟩ = some v := fun j v hj => (HI.out.1.b.cell (cell_lt (hc j v hj))).trans (hc j v hj)
      have f0 : wi.cell? ⟨p, o + i * 4, none⟩ = some (.int .u32 (xa : Nat)) := old 0 _ rfl
      have f1 : wi.cell? ⟨p, o + i * 4 + 1, none⟩ = some (.int .u32 (xb : Nat)) := old 1 _ rfl
      have f2 : wi.cell? ⟨p, o + i * 4 + 2, none⟩ = some (.int .u32 (xc : Nat)) := old 2 _ rfl
      have f3 : wi.cell? ⟨p, o + i * 4 + 3, none⟩ = some (.int .u64 (xs : Nat)) := old 3 _ rfl
      have hit2 : (i : Int) < (ln : Int) := by omega
      have HX := Lib.hid (And.intro hsn hxo)
      have hS2 := (HI.out.1.box #[.int .u32 (xa : Nat), .int .u32 (xb : Nat), .int .u32 (xc : Nat), .int .u64 (xs : Nat)] 26)
      clear hx hc old hxo hsn
      go_upto_region 5 with fail
      generalize hV2 : World.alloc _ _ = V2 at hS2 ⊢
      obtain ⟨g7, hg7⟩ : ∃ g, g = wi.heap.size := ⟨_, rfl⟩
      rw [← hg7] at hS2 ⊢
      have D7 := cells_say (hS2.blk 0) _ 0 rfl
      have D5 := cells_say (hS2.blk 2) _ 0 rfl
      simp only [cellsSay, List.drop_zero, Nat.reduceAdd, and_true] at D7 D5
      have hm2 : MuG KCl uE V2 bK K := hS2.at_ 1 rfl
      have hMl : K.length < maxLen := by
        have h1 := HI.out.2.len
        rw [List.length_take] at h1
        unfold maxLen
        omega
      have HS2 := Lib.hid hS2
      clear f0 f1 f2 f3 hV2 hg7 hS2
      go_wp2_with (at_mapUpdate; go_must (refine step_putG (KC := KCl) (vE := uE) rfl _ _ _ rfl knU rfl hm2 hMl (xa, xb, xc, xs) HX.out.2 rfl () rfl ?_); intro w3 hm3 hg3)
      go_roundw
      case measure => simp [intOf]; omega
      case rel =>
        have hS5 := HS2.out.call (t' := thMuG KCl uE bK (putMG K (xa, xb, xc, xs) ())) 1 rfl (Tou.of_grown hg3 (fun j e => by injection e with e; exact e.symm)) hm3 (fun j hj => .inl hj)
        exact ⟨i + 1, _, by go_num, by omega, Lib.hid ⟨hS5.tail, by rw [HX.out.1]; exact HI.out.2.put _⟩⟩
    · have hit2 : ¬ (i : Int) < (ln : Int) := by omega
      have hi2 : i = ln := by omega
      have hKn : KnI kn K := by
        have h1 := HI.out.2
        rw [hi2, HV.out.2.2, List.take_length] at h1
        exact h1
      have HKn := Lib.hid hKn
      have HSe := Lib.hid (bk_series (HB.out.go HI.out.1.b))
      have HSi := Lib.hid HI.out.1
      clear hi2 hKn HI
      go_upto_region 9 with (go_at_call 22; refine HSe.out.mono ?_; rintro e w1 ⟨U1, c1, xs, rfl, h1, h2, h3, b1⟩)
      have hxs := ksD_of h1 h2
      rw [← hxs] at hk64
      obtain ⟨n, hn⟩ : ∃ n, n = xs.length := ⟨_, rfl⟩
      rw [← hn] at h3 hk64 ⊢
      have hxk : ∀ x ∈ xs, x < 4294967296 := fun x hx => by
        obtain ⟨p, hp, rfl⟩ := List.mem_map.1 (h1.subset hx)
        exact HB.out.okD.key p hp
      have hSx : Sep w.heap.size w w1 [thMuG KCl uE bK K, thB g5 KNT #[.map (some bK)]] := HSi.out.go b1
      have HX := Lib.hid (And.intro hxs (And.intro hn (And.intro h3 (And.intro hSx hxk))))
      clear h1 h2 hxs hn h3 b1 hxk HSe hSx HSi
      go_loopw [8, 10, 11, 12, 27] (fun s8 s10 s11 s12 s27 wr => ∃ (j m cc : Nat) (U : Option Addr) (T : List FrE), s27 = .int .i64 (j : Nat) ∧ j ≤ n ∧ s8 = .slice U m cc ∧ m ≤ 1001 * j ∧ Hid (m = T.length ∧ T.map (fun y => y.f) = lackX kn D (xs.take j) ∧ Sep w1.heap.size w1 wr (chT (.slice U m cc) T)))
        (fun _ _ _ _ s27 _ => n - (intOf s27).toNat)
      case atStart => exact ⟨0, 0, 0, none, [], by go_num, Nat.zero_le _, rfl, Nat.zero_le _, Lib.hid ⟨rfl, rfl, (Sep.nil (Below.refl w1.heap.size w1) (Nat.le_refl _)).addNilR 59 encFrE 11⟩⟩
      case round =>
        obtain ⟨j, m, cc, U, T, rfl, hj, rfl, hm1, HJ⟩ := hrel
        obtain ⟨wj, hwj⟩ : ∃ wj, wj = wr := ⟨_, rfl⟩
        rw [← hwj] at HJ ⊢
        clear hwj
        by_cases hjn : j < n
        · obtain ⟨x, hx⟩ : ∃ x, xs[j]? = some x := ⟨_, List.getElem?_eq_getElem (by rw [← HX.out.2.1]; exact hjn)⟩
          obtain ⟨gs, hgs, -, hcs⟩ := row_at Tryd.eltU (HX.out.2.2.1.mono (Nat.zero_le _)) hx
          subst hgs
          have hx32 := HX.out.2.2.2.2 x (List.mem_of_getElem? hx)
          have C1 : wj.cell? ⟨gs, j, none⟩ = some (.int .u32 (x : Nat)) := by
            have h1 := hcs 0 _ rfl
            rw [Nat.mul_one, Nat.add_zero] at h1
            exact HJ.out.2.2.old (Nat.le_refl _) h1
          have hbw : Below w.heap.size w wj := HX.out.2.2.2.1.b.trans (HJ.out.2.2.b.mono HX.out.2.2.2.1.b.size)
          obtain ⟨C, hC⟩ : ∃ C, C = D.at_ x := ⟨_, rfl⟩
          have hoc : OkC1 C := by rw [hC]; exact HB.out.okD.at_ x
          have hCh := bk_chunksS (HB.out.go hbw) x hx32
          rw [← hC] at hCh
          have HCh := Lib.hid hCh
          have hjn2 : (j : Int) < (n : Int) := by omega
          have hsn : lackX kn D (xs.take (j + 1)) = lackX kn D (xs.take j) ++ lackC kn x C := by rw [List.take_add_one, hx, hC]; exact lackX_snoc _ _ _ _
          have HC := Lib.hid (And.intro hsn hoc)
          clear hx hcs hbw hC hoc hCh hsn
          go_upto_region 12 with (go_at_call 12; refine HCh.out.mono ?_; rintro e wc ⟨Uc, nc, Tc, rfl, hSc, hTl, hTf⟩; obtain ⟨tl, htl⟩ : ∃ n, n = Tc.length := ⟨_, rfl⟩; rw [← htl] at hSc hTl ⊢; have HTl := Lib.hid (And.intro htl (And.intro hTl hTf)); clear htl hTl hTf)
          have hSn : Sep w.heap.size w wc (thMuG KCl uE bK K :: thB g5 KNT #[.map (some bK)] :: (chT (.slice Uc tl nc) Tc ++ [])) := by
            have h1 := HX.out.2.2.2.1.go (HJ.out.2.2.b.trans (hSc.b.mono HJ.out.2.2.b.size))
            have h2 := HX.out.2.2.2.1.go HJ.out.2.2.b
            have h3 := h2.consL (us := chT (.slice Uc tl nc) Tc) hSc.b (fun t ht => hSc.all t ht) hSc.ap
            rw [List.append_nil]
            exact h3.permB List.perm_append_comm
          have hSj : Sep w1.heap.size w1 wc (chT (.slice Uc tl nc) Tc ++ chT (.slice U m cc) T) := HJ.out.2.2.consL (us := chT (.slice Uc tl nc) Tc) hSc.b (fun t ht => hSc.all t ht) hSc.ap
          have HIx := Lib.hid (idxL_any g5 bK K kn HKn.out x hx32 C HC.out.2 Uc nc tl Tc hSn HTl.out.1 HTl.out.2.1 HTl.out.2.2)
          have htl1 : tl ≤ 1001 := by have := HC.out.2.few; rw [HTl.out.2.1]; unfold chN; split <;> omega
          have HSj := Lib.hid hSj
          clear hSc hSn hSj C1 HCh
          go_upto_region 13 with (go_at_call 27; refine HIx.out.mono ?_; rintro e w2 ⟨b2, hcase⟩; rcases hcase with ⟨hN, rfl⟩ | ⟨hN, rfl⟩)
          · have HS2 := Lib.hid (HSj.out.go b2)
            have HN := Lib.hid hN
            clear b2 hN HIx HSj
            go_wp2_with fail
            go_roundw
            case measure => simp [intOf]; omega
            case rel =>
              refine ⟨j + 1, m, cc, U, T, by go_num, by omega, rfl, by omega, Lib.hid ⟨HJ.out.1, ?_, HS2.out.sub (List.sublist_append_right _ _)⟩⟩
              rw [HC.out.1, HJ.out.2.1]
              have e : lackC kn x C = [] := by
                unfold lackC
                rw [HN.out, List.drop_eq_nil_of_le (by rw [List.length_range]; exact Nat.le_refl _)]
                rfl
              rw [e, List.append_nil]
          · obtain ⟨ii, hii⟩ : ∃ i, i = lkN kn x C := ⟨_, rfl⟩
            rw [← hii] at hN ⊢
            have hi9 : ii < tl := by rw [HTl.out.2.1]; exact hN
            have hS2 := HSj.out.go b2
            have hrowc : OwnR w2 0 59 encFrE 11 (.slice Uc tl nc) Tc := hS2.at_ (t := thR 59 encFrE 11 (.slice Uc tl nc) Tc) 0 rfl
            obtain ⟨Ac, cA, eA, hcA, hRw⟩ := OwnR.row Tryd.eltFrE hrowc
            injection eA with eA1 eA2 eA3
            obtain ⟨gc, rfl⟩ : ∃ gc, Uc = some ⟨gc, 0, none⟩ := by
              rcases hrowc.2 with ⟨h9, h0⟩ | ⟨g9, cap9, cur, h9, _⟩
              · have h1 := HTl.out.1
                omega
              · injection h9 with e1 _ _
                exact ⟨g9, e1⟩
            subst eA1
            subst eA3
            have hRd := rw_dropG hRw ii
            obtain ⟨dl, hdl⟩ : ∃ d, d = (Tc.drop ii).length := ⟨_, rfl⟩
            have hdl2 : dl = tl - ii := by rw [hdl, List.length_drop, ← HTl.out.1]
            have hsr : ∀ w, (Instr.slice 40 (.slice (some ⟨gc, 0, none⟩) tl nc) (some (.int .i64 (ii : Nat))) none none).run Tryd.prog w = .ok (.slice (some ⟨gc, ii * 11, none⟩) dl (nc - ii)) w := fun w => by rw [hdl2]; exact run_restF gc tl nc ii hi9 (by rw [HTl.out.1]; exact hcA) w
            have hi0 : (0 : Int) ≤ (ii : Int) := by omega
            have hS3 : Sep w1.heap.size w1 w2 (thR 59 encFrE 11 (.slice U m cc) T :: (T.map frB ++ (chT (.slice (some ⟨gc, 0, none⟩) tl nc) Tc))) := hS2.permB List.perm_append_comm
            have HS3 := Lib.hid hS3
            have HD := Lib.hid (And.intro hdl (And.intro hRd (And.intro hii hdl2)))
            clear b2 hN HIx HSj hS2 hrowc hcA hRw hRd hdl hdl2 hS3 hii eA2
            go_wp2_with (at_builtin; go_must (refine sep_appN Tryd.eltFrE rfl (.tmp 39) (.tmp 42) rfl 0 (.slice U m cc) T (by simp [Act.eval, Act.put]) HS3.out rfl (some ⟨gc, ii * 11, none⟩) (nc - ii) (Tc.drop ii) (by rw [← HD.out.1, HD.out.2.2.2]; omega) (by rw [← HD.out.1]; simp [Act.eval, Act.put]) HD.out.2.1 (by unfold maxLen; rw [← HJ.out.1, ← HD.out.1, HD.out.2.2.2]; omega) (by rw [← HJ.out.1, ← HD.out.1, HD.out.2.2.2]; omega) ?_); intro g8 c8 w8 hS8; rw [← HJ.out.1, ← HD.out.1] at hS8 ⊢)
            go_roundw
            case measure => simp [intOf]; omega
            case rel =>
              refine ⟨j + 1, m + dl, c8, some ⟨g8, 0, none⟩, T ++ Tc.drop ii, by go_num, by omega, by (try simp), by have := HD.out.2.2.2; omega, Lib.hid ⟨by rw [List.length_append, ← HJ.out.1, ← HD.out.1], ?_, ?_⟩⟩
              · rw [HC.out.1, List.map_append, HJ.out.2.1, frames_drop (by rw [← HTl.out.1]; exact HTl.out.2.1) (fun j y hy => (HTl.out.2.2 j y hy).1) ii]
                unfold lackC
                rw [HD.out.2.2.1]
              · unfold chT
                rw [List.map_append]
                refine hS8.sub (List.Sublist.cons_cons _ (List.Sublist.append (List.Sublist.refl _) ?_))
                exact List.Sublist.cons _ ((List.drop_sublist _ _).map _)
        · have hjn2 : ¬ (j : Int) < (n : Int) := by omega
          have hjj : j = n := by omega
          have HE := Lib.hid (show T.map (fun y => y.f) = lackX kn D (ksD D) by
            have h1 := HJ.out.2.1
            rw [hjj, HX.out.2.1, List.take_length, HX.out.1] at h1
            exact h1)
          clear hjj
          go_wp2_with fail
          go_ret
          exact ⟨U, cc, T, by rw [← HJ.out.1]; rfl, by rw [← HJ.out.1]; exact HJ.out.2.2.rebase HX.out.2.2.2.1.b, HE.out⟩
end Go.Proofs.YtiliineopplinaaDoor

/- Layer 26: the statements' example. -/
set_option linter.unusedSimpArgs false
set_option linter.unusedVariables false
namespace Go.Proofs.YtiliineopplinaaDoor
open Go.RowKit
set_option maxRecDepth 100000

section
variable {B : Nat} {w0 w w' : World} {q p : Nat} {D E : BD} {ts us : List Kt}
theorem Bk2.consL (h : Bk2 B w0 w q D p E ts) (hs : Sep w.heap.size w w' us) : Bk2 B w0 w' q D p E (us ++ ts) := by
  obtain ⟨Y, h1, h2, h3, h4⟩ := h
  exact ⟨Y, h1, h2, h3, (h4.consL hs).perm List.perm_middle⟩
theorem bk2_putD (h : Bk2 B w0 w q D p E ts) (hT : Tab w) (x : Nat) (hx : x < 4294967296) (t : Int) (v : Nat) (hz : in64 t ∧ v < 18446744073709551616) (hn : (E.at_ x).flatten.length < 1000) :
    Calls Tryd.prog 15 #[ptB p, .int .u32 (x : Nat), .agg #[.int .i64 t, .int .u64 (v : Nat)]] w fun e w' => e = .returned (.int .u16 (mayD E x t : Nat)) ∧ Bk2 B w0 w' q D p (putD E x (t, v)) ts := by
  obtain ⟨X, e1, e2, e3, hS⟩ := h.swap
  refine (bk_put hS hT x hx t v hz hn).mono ?_
  rintro e w' ⟨rfl, hB⟩
  exact ⟨rfl, Bk2.swap ⟨X, e1, e2, e3, hB⟩⟩
end
theorem apR_one {l m L : List LfD} (h : ApR l m L) {x c n : Nat} (hd : Dif l m (x, c)) (ho : ∀ k, Dif l m k → k = (x, c)) (hn : cntL l (x, c) = n) : L = [(x, c, n, 0)] := by
  have hv : ∀ v ∈ L, v = (x, c, n, 0) := fun v hv => by
    obtain ⟨h1, h2, h3, -⟩ := h.mem v hv
    have h4 := ho _ h1
    injection h4 with h5 h6
    obtain ⟨a, b, d, s⟩ := v
    simp only at h2 h3 h5 h6
    subst h5 h6 h3
    rw [hn] at h2
    rw [h2]
  obtain ⟨v, hv1, -⟩ := h.all x c hd
  cases L with
  | nil => cases hv1
  | cons a r =>
    cases r with
    | nil => rw [hv a List.mem_cons_self]
    | cons b r =>
      have h1 := List.rel_of_pairwise_cons h.asc (a' := b) List.mem_cons_self
      rw [hv a List.mem_cons_self, hv b (List.mem_cons_of_mem _ List.mem_cons_self)] at h1
      exact absurd h1 (Nat.lt_irrefl _)
def dk0 : BD := ⟨1, 1, []⟩
def dk1 : BD := ⟨1, 1, [(5, [[(1, 2)], []])]⟩
def dkA : BD := ⟨1, 1, [(5, [[(1, 2)], [(2, 2)], []])]⟩
def dkB : BD := ⟨1, 1, [(5, [[(1, 2)], [(2, 3)], []])]⟩
theorem dk_put1 : mayD dk0 5 1 = 0 ∧ putD dk0 5 (1, 2) = dk1 := ⟨by kernel_rfl, by kernel_rfl⟩
theorem dk_put2 : mayD dk1 5 2 = 0 ∧ putD dk1 5 (2, 2) = dkA := ⟨by kernel_rfl, by kernel_rfl⟩
theorem dk_put3 : mayD dk1 5 2 = 0 ∧ putD dk1 5 (2, 3) = dkB := ⟨by kernel_rfl, by kernel_rfl⟩
theorem dk_ksA : ksD dkA = [5] := (ksD_of (D := dkA) (xs := [5]) (List.Perm.refl _) (List.pairwise_singleton _ _)).symm
theorem dk_ksB : ksD dkB = [5] := (ksD_of (D := dkB) (xs := [5]) (List.Perm.refl _) (List.pairwise_singleton _ _)).symm
def dkS0 : Nat := moreR 0 (bitsL [(1, 2)])
def dkS1 : Nat := moreR 0 (bitsL [(2, 2)])
def dkS2 : Nat := moreR 0 (bitsL [(2, 3)])
theorem dk_ne : dkS1 ≠ dkS2 := by
  have h : Nat.beq dkS1 dkS2 = false := by kernel_rfl
  intro e
  rw [e, Nat.beq_refl] at h
  cases h
theorem dk_lvA : leavesD dkA = [(5, 0, 1, dkS0), (5, 1, 1, dkS1)] := by
  unfold leavesD
  rw [dk_ksA]
  kernel_rfl
theorem dk_lvB : leavesD dkB = [(5, 0, 1, dkS0), (5, 1, 1, dkS2)] := by
  unfold leavesD
  rw [dk_ksB]
  kernel_rfl
theorem dk_dif (k : KyD) : Dif [(5, 0, 1, dkS0), (5, 1, 1, dkS1)] [(5, 0, 1, dkS0), (5, 1, 1, dkS2)] k ↔ k = (5, 1) := by
  unfold Dif findL
  simp only [List.find?_cons, List.find?_nil]
  by_cases h0 : ((5 : Nat), (0 : Nat)) = k
  · subst h0; simp
  · by_cases h1 : ((5 : Nat), (1 : Nat)) = k
    · subst h1
      simp
      exact dk_ne
    · simp [h0, h1]
      exact fun e => h1 e.symm
theorem dk_cnt : cntL [(5, 0, 1, dkS0), (5, 1, 1, dkS1)] (5, 1) = 1 := by unfold cntL findL; simp [List.find?_cons]
theorem dk_lack : lackX (leavesD dkB) dkA (ksD dkA) = [chFr 5 (dkA.at_ 5) 1] := by
  rw [dk_ksA]
  show lackC (leavesD dkB) 5 (dkA.at_ 5) ++ [] = _
  have h : lkN (leavesD dkB) 5 (dkA.at_ 5) = 1 := by
    refine lkN_at (by decide) ?_ (fun j hj => ?_)
    · rw [dk_lvB, show leafC 5 (dkA.at_ 5) 1 = (5, 1, 1, dkS1) by kernel_rfl]
      simp
      exact dk_ne
    · obtain rfl : j = 0 := by omega
      rw [dk_lvB, show leafC 5 (dkA.at_ 5) 0 = (5, 0, 1, dkS0) by kernel_rfl]
      simp
  unfold lackC
  rw [h]
  rfl
theorem dk_ok (l : List LfD) (h : ∀ x ∈ l, x.1 = 5 ∧ x.2.1 < 2 ∧ x.2.2.1 = 1 ∧ x.2.2.2 < 2305843009213693951) : ∀ x ∈ l, LfOk x := fun x hx => by
  obtain ⟨h1, h2, h3, h4⟩ := h x hx
  exact ⟨by omega, by omega, by omega, by omega⟩
theorem dk_okA : ∀ x ∈ leavesD dkA, LfOk x := by
  rw [dk_lvA]
  refine dk_ok _ fun x hx => ?_
  simp only [List.mem_cons, List.not_mem_nil, or_false] at hx
  rcases hx with rfl | rfl
  · exact ⟨rfl, by decide, rfl, moreR_lt _ _⟩
  · exact ⟨rfl, by decide, rfl, moreR_lt _ _⟩
theorem dk_okB : ∀ x ∈ leavesD dkB, LfOk x := by
  rw [dk_lvB]
  refine dk_ok _ fun x hx => ?_
  simp only [List.mem_cons, List.not_mem_nil, or_false] at hx
  rcases hx with rfl | rfl
  · exact ⟨rfl, by decide, rfl, moreR_lt _ _⟩
  · exact ⟨rfl, by decide, rfl, moreR_lt _ _⟩
set_option maxHeartbeats 16000000 in
theorem dgKnown_any (w : World) (hT : Tab w) : Calls Tryd.prog 6 #[] w fun e w' => e = .returned (.bool true) ∧ Below w.heap.size w w' := by
  have hmx : Tryd.prog.follows .mixedOrders = true := by kernel_rfl
  have HN := Lib.hid (bk_new (Sep.nil (Below.refl w.heap.size w) (Nat.le_refl _)) 1 1 (by decide) (by decide) (by decide) (by decide))
  have HT := Lib.hid hT
  have b64 : ∀ t : Int, 0 ≤ t → t < 100 → in64 t := fun t h1 h2 => by unfold in64; omega
  clear hT
  go_enter Tryd.func6, Tryd.ntmps6
  go_upto_region 2 with (go_at_call 14; refine HN.out.mono ?_; rintro e w1 ⟨q, rfl, hS0⟩)
  have HN2 := Lib.hid (bk2_new hS0 1 1 (by decide) (by decide) (by decide) (by decide))
  clear HN hS0
  go_upto_region 5 with (go_at_call 14; refine HN2.out.mono ?_; rintro e w2 ⟨p, rfl, hS1⟩)
  have hP := bk2_putD (show Bk2 _ _ _ p dk0 q dk0 [] from hS1.swap) (tabGo HT.out hS1.b) 5 (by decide) 1 2 ⟨b64 1 (by decide) (by decide), by decide⟩ (by decide)
  rw [dk_put1.1, dk_put1.2] at hP
  have HP := Lib.hid hP
  clear hP HN2 hS1
  go_upto_region 6 with (go_at_call 15; refine HP.out.mono ?_; rintro e w3 ⟨rfl, hS2⟩)
  have hP := bk2_putD hS2.swap (tabGo HT.out hS2.b) 5 (by decide) 1 2 ⟨b64 1 (by decide) (by decide), by decide⟩ (by decide)
  rw [dk_put1.1, dk_put1.2] at hP
  clear HP
  have HP := Lib.hid hP
  clear hP hS2
  go_upto_region 7 with (go_at_call 15; refine HP.out.mono ?_; rintro e w4 ⟨rfl, hS3⟩)
  have hP := bk2_putD hS3.swap (tabGo HT.out hS3.b) 5 (by decide) 2 2 ⟨b64 2 (by decide) (by decide), by decide⟩ (by decide)
  rw [dk_put2.1, dk_put2.2] at hP
  clear HP
  have HP := Lib.hid hP
  clear hP hS3
  go_upto_region 8 with (go_at_call 15; refine HP.out.mono ?_; rintro e w5 ⟨rfl, hS4⟩)
  have hP := bk2_putD hS4.swap (tabGo HT.out hS4.b) 5 (by decide) 2 3 ⟨b64 2 (by decide) (by decide), by decide⟩ (by decide)
  rw [dk_put3.1, dk_put3.2] at hP
  clear HP
  have HP := Lib.hid hP
  clear hP hS4
  go_upto_region 9 with (go_at_call 15; refine HP.out.mono ?_; rintro e w6 ⟨rfl, hS5⟩)
  have hL := leaves_any hS5.fst.choose_spec
  have HL := Lib.hid hL
  have HS5 := Lib.hid hS5
  clear hL hS5 HP
  have lA : (leavesD dkA).length = 2 := by rw [dk_lvA]; rfl
  have lB : (leavesD dkB).length = 2 := by rw [dk_lvB]; rfl
  rw [lA] at HL
  go_upto_region 10 with (go_at_call 11; refine HL.out.mono ?_; rintro e w7 ⟨Ux, cx, rfl, hSx⟩)
  have hK7 := HS5.out.consL hSx
  have hL := leaves_any hK7.snd.choose_spec
  rw [lB] at hL
  clear HL
  have HL := Lib.hid hL
  have HK7 := Lib.hid hK7
  clear hL hSx hK7
  have rows : ∀ (W : World) (V : Option Addr) (n c : Nat) (l : List LfD), OwnR W 0 26 encLf 4 (.slice V n c) l → Rw W encLf 4 V l := fun W V n c l h => by
    obtain ⟨A, c2, e, -, hR⟩ := OwnR.row Tryd.eltLf h
    injection e with e1 _ _
    rw [e1]; exact hR
  have HRows := Lib.hid rows
  clear rows
  go_upto_region 11 with (first
    | (go_at_call 11; refine HL.out.mono ?_; rintro e w8 ⟨Uy, cy, rfl, hSy⟩; have HK8 := Lib.hid (HK7.out.consL hSy); clear hSy)
    | (go_at_call 9; refine Calls.mono (show Calls _ _ #[.slice Ux 2 cx, .slice Uy 2 cy] _ (ApO (leavesD dkA) (leavesD dkB) w8) from (by
        have h1 := apart_any Ux cx (leavesD dkA) Uy cy (leavesD dkB) w8 (HRows.out _ _ _ _ _ (HK8.out.sep.at_ (t := thR 26 encLf 4 (.slice Ux 2 cx) (leavesD dkA)) 1 rfl)) (HRows.out _ _ _ _ _ (HK8.out.sep.at_ (t := thR 26 encLf 4 (.slice Uy 2 cy) (leavesD dkB)) 0 rfl)) dk_okA dk_okB (by rw [lA]; decide) (by rw [lB]; decide)
        rw [lA, lB] at h1
        exact h1)) ?_; rintro e w9 ⟨Ul, cl, Ll, rfl, hSl, hap⟩; have HK9 := Lib.hid (HK8.out.consL hSl); clear hSl))
  rw [dk_lvA, dk_lvB] at hap
  have hLl := apR_one hap ((dk_dif _).2 rfl) (fun k hk => (dk_dif k).1 hk) dk_cnt
  subst hLl
  have HL2 := Lib.hid (leaves_any HK9.out.snd.choose_spec)
  rw [lB] at HL2
  clear hap HL HK7 HK8
  go_upto_region 12 with (first
    | (go_at_call 11; refine HL2.out.mono ?_; rintro e wa ⟨Uz, cz, rfl, hSz⟩; have HKa := Lib.hid (HK9.out.consL hSz); clear hSz)
    | (go_at_call 13; refine Calls.mono (show Calls _ _ #[ptB q, .slice Uz 2 cz] _ (LkO (leavesD dkB) dkA wa) from (by
        have h1 := lacks_any HKa.out.fst.choose_spec Uz cz (leavesD dkB) (HRows.out _ _ _ _ _ (HKa.out.sep.at_ (t := thR 26 encLf 4 (.slice Uz 2 cz) (leavesD dkB)) 0 rfl)) dk_okB (by rw [lB]; decide)
        rw [lB] at h1
        exact h1)) ?_; rintro e wb ⟨Uf, cf, Tf, rfl, hSf, hTf⟩; have HKb := Lib.hid (HKa.out.consL hSf); clear hSf))
  rw [dk_lack] at hTf
  obtain ⟨y, rfl⟩ : ∃ y, Tf = [y] := by
    have h1 := congrArg List.length hTf
    rw [List.length_map] at h1
    match Tf, h1 with
    | [y], _ => exact ⟨y, rfl⟩
  have hyf : y.f = chFr 5 (dkA.at_ 5) 1 := by injection hTf
  have hfc : y.f.fc = 1 := by rw [hyf]; kernel_rfl
  have hKb := HKb.out
  obtain ⟨gl, hgl, -, hcl⟩ := row_at Tryd.eltLf (hKb.sep.at_ (t := thR 26 encLf 4 (.slice Ul 1 cl) [(5, 1, 1, 0)]) 3 rfl) (k := 0) (x := (5, 1, 1, 0)) rfl
  obtain ⟨gf, hgf, -, hcf⟩ := row_at Tryd.eltFrE (hKb.sep.at_ (t := thR 59 encFrE 11 (.slice Uf 1 cf) [y]) 0 rfl) (k := 0) (x := y) rfl
  subst hgl
  subst hgf
  have l0 : wb.cell? ⟨gl, 0, none⟩ = some (.int .u32 5) := hcl 0 _ rfl
  have l1 : wb.cell? ⟨gl, 1, none⟩ = some (.int .u32 1) := hcl 1 _ rfl
  have l2 : wb.cell? ⟨gl, 2, none⟩ = some (.int .u32 1) := hcl 2 _ rfl
  have l3 : wb.cell? ⟨gl, 3, none⟩ = some (.int .u64 0) := hcl 3 _ rfl
  have c3 : wb.cell? ⟨gf, 3, none⟩ = some (.int .u32 1) := by
    have h1 := hcf 3 (.int .u32 ((y.f.fc : Nat) : Int)) rfl
    rw [hfc] at h1
    exact h1
  have hQ : ∀ w, (binOp .eql 26 (.agg #[.int .u32 5, .int .u32 1, .int .u32 1, .int .u64 0]) (.agg #[.int .u32 5, .int .u32 1, .int .u32 1, .int .u64 0])).run Tryd.prog w = .ok (.bool true) w := fun w => by
    have h := eqLf_run (5, 1, 1, 0) (5, 1, 1, 0) w
    rw [decide_eq_true rfl] at h
    exact h
  have HRt := Lib.hid (show Calls Tryd.prog 7 #[.slice none 0 0] wb (fun e w' => e = .returned (.int .u64 0) ∧ Below wb.heap.size wb w') from root_any none 0 [] wb (Rw.nil _ _ _ _) (fun x h => by cases h) (by decide))
  have HKc := Lib.hid hKb.b
  clear hTf hyf hfc hKb hcl hcf HKb HKa HK9 HL2
  go_wp2_with (go_at_call 7; refine HRt.out.mono ?_; rintro e wc ⟨rfl, bc⟩)
  go_ret
  exact ⟨rfl, HKc.out.trans (bc.mono HKc.out.size)⟩
end Go.Proofs.YtiliineopplinaaDoor

/- Layer 26: walk of DigestFirst. -/
set_option linter.unusedSimpArgs false
set_option linter.unusedVariables false
namespace Go.Proofs.YtiliineopplinaaDoor
open Go.RowKit
set_option maxRecDepth 100000

theorem asc_uniq : ∀ {xs ys : List KyD}, xs.Pairwise (fun a b => a.1 < b.1) → ys.Pairwise (fun a b => a.1 < b.1) → (∀ k, k ∈ xs ↔ k ∈ ys) → xs = ys
  | [], [], _, _, _ => rfl
  | [], y :: ys, _, _, h => absurd ((h y).2 List.mem_cons_self) (by simp)
  | x :: xs, [], _, _, h => absurd ((h x).1 List.mem_cons_self) (by simp)
  | x :: xs, y :: ys, hx, hy, h => by
    have a1 : ∀ z ∈ xs, x.1 < z.1 := fun z hz => List.rel_of_pairwise_cons hx hz
    have a2 : ∀ z ∈ ys, y.1 < z.1 := fun z hz => List.rel_of_pairwise_cons hy hz
    have e : x = y := by
      rcases List.mem_cons.1 ((h x).1 List.mem_cons_self) with h1 | h1
      · exact h1
      · rcases List.mem_cons.1 ((h y).2 List.mem_cons_self) with h2 | h2
        · exact h2.symm
        · have := a1 y h2
          have := a2 x h1
          omega
    subst e
    have e2 : xs = ys := by
      refine asc_uniq (List.pairwise_cons.1 hx).2 (List.pairwise_cons.1 hy).2 (fun k => ⟨fun hk => ?_, fun hk => ?_⟩)
      · rcases List.mem_cons.1 ((h k).1 (List.mem_cons_of_mem _ hk)) with h1 | h1
        · have := a1 k hk
          rw [h1] at this
          omega
        · exact h1
      · rcases List.mem_cons.1 ((h k).2 (List.mem_cons_of_mem _ hk)) with h1 | h1
        · have := a2 k hk
          rw [h1] at this
          omega
        · exact h1
    rw [e2]
theorem apR_keys {l m L : List LfD} (h : ApR l m L) (k : KyD) : k ∈ L.map (fun v => (v.1, v.2.1)) ↔ Dif l m k ∧ ∀ c, Dif l m (k.1, c) → k.2 ≤ c := by
  constructor
  · intro hk
    obtain ⟨v, hv, rfl⟩ := List.mem_map.1 hk
    obtain ⟨h1, -, -, h4⟩ := h.mem v hv
    exact ⟨h1, h4⟩
  · rintro ⟨h1, h2⟩
    obtain ⟨x, c⟩ := k
    obtain ⟨v, hv, rfl⟩ := h.all x c h1
    obtain ⟨h3, -, -, h4⟩ := h.mem v hv
    have h5 : v.2.1 ≤ c := h4 c h1
    have h6 : c ≤ v.2.1 := h2 _ h3
    exact List.mem_map.2 ⟨v, hv, by rw [show v.2.1 = c by omega]⟩
theorem apR_sym {l m L M : List LfD} (h1 : ApR l m L) (h2 : ApR m l M) : L.map (fun v => (v.1, v.2.1)) = M.map (fun v => (v.1, v.2.1)) := by
  have hs : ∀ k, Dif l m k ↔ Dif m l k := fun k => ⟨fun h e => h e.symm, fun h e => h e.symm⟩
  refine asc_uniq ?_ ?_ (fun k => ?_)
  · rw [List.pairwise_map]; exact h1.asc
  · rw [List.pairwise_map]; exact h2.asc
  · rw [apR_keys h1, apR_keys h2, hs]
    exact and_congr Iff.rfl (forall_congr' fun c => by rw [hs])
set_option maxHeartbeats 16000000 in
theorem digestFirst_walk (V : Option Addr) (c : Nat) (l : List LfD) (U : Option Addr) (d : Nat) (m : List LfD) (w : World) (hV : Rw w encLf 4 V l) (hU : Rw w encLf 4 U m) (hok : ∀ x ∈ l, LfOk x) (hokm : ∀ x ∈ m, LfOk x) (hT : Tab w) :
    Calls Tryd.prog 4 #[.slice V l.length c, .slice U m.length d] w fun e w' => e = .returned (.bool true) ∧ Below w.heap.size w w' := by
  have hmx : Tryd.prog.follows .mixedOrders = true := by kernel_rfl
  obtain ⟨n, hn⟩ : ∃ n, n = l.length := ⟨_, rfl⟩
  obtain ⟨mn, hmn⟩ : ∃ n, n = m.length := ⟨_, rfl⟩
  have HKn := Lib.hid (dgKnown_any w hT)
  have HV := Lib.hid (And.intro hV (And.intro hU (And.intro hok (And.intro hokm (And.intro hn hmn)))))
  rw [← hn, ← hmn]
  clear hV hU hok hokm hT hn hmn
  go_enter Tryd.func4, Tryd.ntmps4
  by_cases h12 : n ≤ 12
  rotate_left
  · have h12b : (12 : Int) < (n : Int) := by omega
    have h12c : 12 < n := by omega
    go_wp2_with (go_at_call 6; refine HKn.out.mono ?_; rintro e w2 ⟨rfl, b2⟩)
    go_ret
    exact ⟨rfl, b2⟩
  have h12b : ¬ (12 : Int) < (n : Int) := by omega
  have h12c : ¬ 12 < n := by omega
  by_cases m12 : mn ≤ 12
  rotate_left
  · have m12b : (12 : Int) < (mn : Int) := by omega
    have m12c : 12 < mn := by omega
    go_wp2_with (go_at_call 6; refine HKn.out.mono ?_; rintro e w2 ⟨rfl, b2⟩)
    go_ret
    exact ⟨rfl, b2⟩
  have m12b : ¬ (12 : Int) < (mn : Int) := by omega
  have m12c : ¬ 12 < mn := by omega
  go_upto_region 3 with (go_at_call 6; refine HKn.out.mono ?_; rintro e w2 ⟨rfl, b2⟩)
  have hA := fun (W : World) (hW : Below w.heap.size w W) => apart_any V c l U d m W (HV.out.1.below hW (Nat.le_refl _)) (HV.out.2.1.below hW (Nat.le_refl _)) HV.out.2.2.1 HV.out.2.2.2.1 (by rw [← HV.out.2.2.2.2.1]; omega) (by rw [← HV.out.2.2.2.2.2]; omega)
  have hA2 := fun (W : World) (hW : Below w.heap.size w W) => apart_any U d m V c l W (HV.out.2.1.below hW (Nat.le_refl _)) (HV.out.1.below hW (Nat.le_refl _)) HV.out.2.2.2.1 HV.out.2.2.1 (by rw [← HV.out.2.2.2.2.2]; omega) (by rw [← HV.out.2.2.2.2.1]; omega)
  rw [← HV.out.2.2.2.2.1, ← HV.out.2.2.2.2.2] at hA hA2
  have HA := Lib.hid (hA w2 b2)
  have HA2 := Lib.hid hA2
  have HB2 := Lib.hid (Sep.nil b2 b2.size)
  clear HKn hA hA2 b2
  go_upto_region 4 with (go_at_call 9; refine HA.out.mono ?_; rintro e w3 ⟨U1, c1, L, rfl, hS1, hap1⟩; obtain ⟨ln, hln⟩ : ∃ n, n = L.length := ⟨_, rfl⟩; rw [← hln] at hS1 ⊢; have HS1 := Lib.hid (HB2.out.consL hS1.b (fun t ht => hS1.all t ht) hS1.ap); have HL := Lib.hid (And.intro hln hap1); clear hS1 hln hap1)
  go_upto_region 5 with (go_at_call 9; refine (HA2.out w3 HS1.out.b).mono ?_; rintro e w4 ⟨U2, c2, M, rfl, hS2, hap2⟩; obtain ⟨ln2, hln2⟩ : ∃ n, n = M.length := ⟨_, rfl⟩; rw [← hln2] at hS2 ⊢; have HS2 := Lib.hid (HS1.out.consL hS2.b (fun t ht => hS2.all t ht) hS2.ap); have HM := Lib.hid (And.intro hln2 hap2); clear hS2 hln2 hap2)
  have hsym := apR_sym HL.out.2 HM.out.2
  have hlen : ln2 = ln := by
    have h1 := congrArg List.length hsym
    rw [List.length_map, List.length_map] at h1
    rw [HL.out.1, HM.out.1, h1]
  have HSy := Lib.hid hsym
  subst hlen
  have HS3 := Lib.hid (show Sep w.heap.size w w4 [thR 26 encLf 4 (.slice U2 ln2 c2) M, thR 26 encLf 4 (.slice U1 ln2 c1) L] from HS2.out)
  have hln9 : ln2 ≤ 9223372036854775807 := by
    have h1 : OwnR w4 0 26 encLf 4 (.slice U1 ln2 c1) L := HS3.out.at_ (t := thR 26 encLf 4 (.slice U1 ln2 c1) L) 1 rfl
    rcases h1.2 with ⟨h9, h0⟩ | ⟨g9, cap9, cur, h9, hb9, hg9, hn9, hm9, _⟩
    · injection h9 with _ e _
      omega
    · have := HL.out.1
      unfold maxLen at hm9
      omega
  clear hsym HA HA2 HS1 HS2 HB2
  go_wp2_with fail
  go_loopw [7] (fun s7 wr => ∃ i : Nat, s7 = .int .i64 (i : Nat) ∧ i ≤ ln2 ∧ Hid (Below w4.heap.size w4 wr))
    (fun s7 _ => ln2 - (intOf s7).toNat)
  case atStart => exact ⟨0, by go_num, Nat.zero_le _, Lib.hid (Below.refl _ _)⟩
  case round =>
    obtain ⟨i, rfl, hi, HW⟩ := hrel
    obtain ⟨wi, hwi⟩ : ∃ wi, wi = wr := ⟨_, rfl⟩
    rw [← hwi] at HW ⊢
    clear hwi
    by_cases hit : i < ln2
    rotate_left
    · have hit2 : ¬ (i : Int) < (ln2 : Int) := by omega
      go_wp2_with fail
      go_ret
      exact ⟨rfl, (HS3.out.go HW.out).b⟩
    · have hit2 : (i : Int) < (ln2 : Int) := by omega
      obtain ⟨x, hx⟩ : ∃ x, L[i]? = some x := ⟨_, List.getElem?_eq_getElem (by rw [← HL.out.1]; exact hit)⟩
      obtain ⟨y, hy⟩ : ∃ y, M[i]? = some y := ⟨_, List.getElem?_eq_getElem (by rw [← HM.out.1]; exact hit)⟩
      have hxy : (x.1, x.2.1) = (y.1, y.2.1) := by
        have h1 : (L.map (fun v => (v.1, v.2.1)))[i]? = some (x.1, x.2.1) := by rw [List.getElem?_map, hx]; rfl
        rw [HSy.out, List.getElem?_map, hy] at h1
        injection h1 with h1
        exact h1.symm
      have hs0 := (HL.out.2.mem x (List.mem_of_getElem? hx)).2.2.1
      obtain ⟨g1, hg1, -, hc1⟩ := row_at Tryd.eltLf (HS3.out.at_ (t := thR 26 encLf 4 (.slice U1 ln2 c1) L) 1 rfl) hx
      obtain ⟨g2, hg2, -, hc2⟩ := row_at Tryd.eltLf (HS3.out.at_ (t := thR 26 encLf 4 (.slice U2 ln2 c2) M) 0 rfl) hy
      subst hg1
      subst hg2
      obtain ⟨xa, xb, xc, xs⟩ := x
      obtain ⟨ya, yb, yc, ys⟩ := y
      injection hxy with e1 e2
      replace e1 : xa = ya := e1
      replace e2 : xb = yb := e2
      replace hs0 : xs = 0 := hs0
      subst e1 e2 hs0
      have up1 : ∀ (z : More) (a : Addr) (v : Value), w4.cell? a = some v → (plus wi z).cell? a = some v := fun z a v h => ((HW.out.trans ((plus_below wi z).mono HW.out.size)).cell (cell_lt h)).trans h
      have f0 : ∀ z : More, (plus wi z).cell? ⟨g1, i * 4, none⟩ = some (.int .u32 (xa : Nat)) := fun z => up1 z _ _ (hc1 0 _ rfl)
      have f1 : ∀ z : More, (plus wi z).cell? ⟨g1, i * 4 + 1, none⟩ = some (.int .u32 (xb : Nat)) := fun z => up1 z _ _ (hc1 1 _ rfl)
      have f3 : ∀ z : More, (plus wi z).cell? ⟨g1, i * 4 + 3, none⟩ = some (.int .u64 0) := fun z => up1 z _ _ (hc1 3 _ rfl)
      have k0 : ∀ z : More, (plus wi z).cell? ⟨g2, i * 4, none⟩ = some (.int .u32 (xa : Nat)) := fun z => up1 z _ _ (hc2 0 _ rfl)
      have k1 : ∀ z : More, (plus wi z).cell? ⟨g2, i * 4 + 1, none⟩ = some (.int .u32 (xb : Nat)) := fun z => up1 z _ _ (hc2 1 _ rfl)
      by_cases hi0 : i = 0
      · subst hi0
        simp only [Nat.zero_mul, Nat.zero_add] at f0 f1 f3 k0 k1
        clear hx hy hc1 hc2 up1
        go_wp2_with fail
        refine wp_region_ext (by kernel_rfl) (by kernel_rfl) ?_
        repeat (go_big_quiet_step (fail))
        refine wpQuiet_nil ?_
        rintro wz ⟨yz, hwz⟩
        have HZ := Lib.hid (HW.out.trans ((show Below wi.heap.size wi wz by rw [hwz]; exact plus_below wi yz).mono HW.out.size))
        clear f0 f1 f3 k0 k1 hwz
        go_wp2_with fail
        go_roundw
        case measure => simp [intOf]; omega
        case rel => exact ⟨1, by go_num, by omega, HZ⟩
      · obtain ⟨x0, hx0⟩ : ∃ x0, L[i - 1]? = some x0 := ⟨_, List.getElem?_eq_getElem (by rw [← HL.out.1]; omega)⟩
        obtain ⟨g3, hg3, -, hc3⟩ := row_at Tryd.eltLf (HS3.out.at_ (t := thR 26 encLf 4 (.slice (some ⟨g1, 0, none⟩) ln2 c1) L) 1 rfl) hx0
        injection hg3 with hg3
        injection hg3 with hg3 _
        subst hg3
        have hlt : x0.1 < xa := by
          obtain ⟨q1, q2⟩ := List.getElem?_eq_some_iff.1 hx0
          obtain ⟨q3, q4⟩ := List.getElem?_eq_some_iff.1 hx
          have h1 := List.pairwise_iff_getElem.1 HL.out.2.asc (i - 1) i q1 q3 (by omega)
          rw [q2, q4] at h1
          exact h1
        obtain ⟨za, zb, zc, zs⟩ := x0
        replace hlt : za < xa := hlt
        have z0 : ∀ z : More, (plus wi z).cell? ⟨g1, (i - 1) * 4, none⟩ = some (.int .u32 (za : Nat)) := fun z => up1 z _ _ (hc3 0 _ rfl)
        have hi1 : (0 : Int) < (i : Int) := by omega
        have hi2 : 0 < i := by omega
        have hi3 : (i : Int) - 1 < (ln2 : Int) := by omega
        have hi4 : (0 : Int) ≤ (i : Int) - 1 := by omega
        have hd1 : decide (xa ≤ za) = false := decide_eq_false (by omega)
        have hd2 : ¬ (xa : Int) ≤ (za : Int) := by omega
        have HI0 := Lib.hid hi0
        clear hx hy hc1 hc2 hc3 hx0 up1 hi0
        go_wp2_with fail
        refine wp_region_ext (by kernel_rfl) (by kernel_rfl) ?_
        repeat (go_big_quiet_step (fail))
        refine wpQuiet_nil ?_
        rintro wz ⟨yz, hwz⟩
        have HZ := Lib.hid (HW.out.trans ((show Below wi.heap.size wi wz by rw [hwz]; exact plus_below wi yz).mono HW.out.size))
        clear f0 f1 f3 k0 k1 z0 hwz
        go_wp2_with fail
        go_roundw
        case measure => simp [intOf]; omega
        case rel => exact ⟨i + 1, by go_num, by omega, HZ⟩
end Go.Proofs.YtiliineopplinaaDoor

/- Layer 26: walk of DigestRoots. -/
set_option linter.unusedSimpArgs false
set_option linter.unusedVariables false
namespace Go.Proofs.YtiliineopplinaaDoor
open Go.RowKit
set_option maxRecDepth 100000

set_option maxHeartbeats 16000000 in
theorem digestRoots_walk (V : Option Addr) (c : Nat) (l : List LfD) (y : LfD) (k : Nat) (w : World) (hV : Rw w encLf 4 V l) (hok : ∀ x ∈ l, LfOk x) (hy : LfOk y) (hk : k < 256) (hT : Tab w) :
    Calls Tryd.prog 3 #[.slice V l.length c, .agg #[.int .u32 ((y.1 : Nat) : Int), .int .u32 ((y.2.1 : Nat) : Int), .int .u32 ((y.2.2.1 : Nat) : Int), .int .u64 ((y.2.2.2 : Nat) : Int)], .int .u8 (k : Nat)] w fun e w' => e = .returned (.bool true) ∧ Below w.heap.size w w' := by
  have hmx : Tryd.prog.follows .mixedOrders = true := by kernel_rfl
  obtain ⟨ya, yb, yc, ys⟩ := y
  obtain ⟨ya9, yb9, yc9, ys9⟩ := hy
  replace ya9 : ya < 4294967296 := ya9
  replace yb9 : yb < 4294967296 := yb9
  replace yc9 : yc < 4294967296 := yc9
  replace ys9 : ys < 18446744073709551616 := ys9
  have hS0 := (Sep.nil (Below.refl w.heap.size w) (Nat.le_refl _)).box #[.int .u32 ((ya : Nat) : Int), .int .u32 ((yb : Nat) : Int), .int .u32 ((yc : Nat) : Int), .int .u64 ((ys : Nat) : Int)] 26
  obtain ⟨n, hn⟩ : ∃ n, n = l.length := ⟨_, rfl⟩
  rw [← hn]
  have HV := Lib.hid (And.intro hV (And.intro hok (And.intro hn hT)))
  obtain ⟨km, hkm⟩ : ∃ m, m = k % 64 := ⟨_, rfl⟩
  have hkm2 : ((k : Nat) : Int) % 64 = (km : Int) := by omega
  have hkm64 : km < 64 := by rw [hkm]; exact Nat.mod_lt _ (by decide)
  obtain ⟨zs, hzs⟩ : ∃ z, z = ys ^^^ (1 <<< km) := ⟨_, rfl⟩
  have hz9 : zs < 18446744073709551616 := by
    rw [hzs]
    have h1 : (1 <<< km : Nat) < 2 ^ 64 := by rw [Nat.one_shiftLeft]; exact Nat.pow_lt_pow_right (by decide) hkm64
    exact Nat.xor_lt_two_pow (n := 64) ys9 h1
  have HZ := Lib.hid (And.intro hzs hkm)
  clear hV hok hn hT hkm hzs
  go_enter Tryd.func3, Tryd.ntmps3
  go_upto_region 1 with fail
  generalize hW : World.alloc _ _ = W at hS0 ⊢
  obtain ⟨g4, hg4⟩ : ∃ g, g = w.heap.size := ⟨_, rfl⟩
  have hS1 : Sep w.heap.size w W [thB g4 26 #[.int .u32 ((ya : Nat) : Int), .int .u32 ((yb : Nat) : Int), .int .u32 ((yc : Nat) : Int), .int .u64 ((ys : Nat) : Int)]] := by rw [hg4]; exact hS0
  rw [← hg4]
  have HKn := Lib.hid (dgKnown_any W (tabGo HV.out.2.2.2 hS1.b))
  have HS0 := Lib.hid hS1
  clear hW hg4 hS0 hS1
  by_cases h12 : n ≤ 12
  rotate_left
  · have h12b : (12 : Int) < (n : Int) := by omega
    have h12c : 12 < n := by omega
    go_wp2_with (go_at_call 6; refine HKn.out.mono ?_; rintro e w2 ⟨rfl, b2⟩)
    go_ret
    exact ⟨rfl, (HS0.out.go b2).b⟩
  have h12b : ¬ (12 : Int) < (n : Int) := by omega
  have h12c : ¬ 12 < n := by omega
  go_upto_region 4 with (go_at_call 6; refine HKn.out.mono ?_; rintro e w2 ⟨rfl, b2⟩)
  have HS2 := Lib.hid (HS0.out.go b2)
  clear HKn HS0 b2
  have hRw : ∀ W : World, Below w.heap.size w W → Rw W encLf 4 V l := fun W hW => HV.out.1.below hW (Nat.le_refl _)
  have HRw := Lib.hid hRw
  clear hRw
  go_upto_region 5 with (at_builtin; go_must (refine appR Tryd.eltLf _ rfl (.tmp 19) (.tmp 20) rfl w2.heap.size (.slice none 0 0) [] rfl (OwnR.nil _ _ _ _ _) V c l (by rw [← HV.out.2.2.1]; rfl) (HRw.out _ HS2.out.b) (by rw [← HV.out.2.2.1]; unfold maxLen; simp <;> omega) (by rw [← HV.out.2.2.1]; simp <;> omega) (Nat.le_refl _) ?_); intro A3 c3 w3 hown3 hb3)
  have ho3 : OwnR w3 w2.heap.size 26 encLf 4 (.slice A3 n c3) l := by rw [HV.out.2.2.1]; simpa using hown3
  have hS3 := HS2.out.cons (t := thR 26 encLf 4 (.slice A3 n c3) l) hb3 (ho3.mono (Nat.zero_le _)) (fun k hk => (World.ownsRow.lt ho3 k hk).1)
  rw [← HV.out.2.2.1]
  have D4 := cells_say (hS3.blk 1) _ 0 rfl
  simp only [cellsSay, List.drop_zero, Nat.reduceAdd, and_true] at D4
  have HS3 := Lib.hid hS3
  have HSB := Lib.hid (hS3.box #[.int .u32 ((ya : Nat) : Int), .int .u32 ((yb : Nat) : Int), .int .u32 ((yc : Nat) : Int), .int .u64 ((ys : Nat) : Int)] 26)
  clear hown3 hb3 ho3 hS3 HS2
  go_upto_region 6 with (at_builtin; go_must (refine sep_app1 Tryd.eltLf rfl (.tmp 22) (.tmp 24) rfl 1 (.slice A3 n c3) l (by simp [Act.eval, Act.put]) HSB.out rfl w3.heap.size 1 (ya, yb, yc, ys) 26 #[.int .u32 ((ya : Nat) : Int), .int .u32 ((yb : Nat) : Int), .int .u32 ((yc : Nat) : Int), .int .u64 ((ys : Nat) : Int)] rfl (HSB.out.blk 0) rfl (by unfold maxLen; rw [← HV.out.2.2.1]; omega) (by rw [← HV.out.2.2.1]; omega) ?_); intro g5 c5 w5 hS5; rw [← HV.out.2.2.1] at hS5 ⊢)
  have hS5' := hS5.tail
  simp only [List.set_cons_succ, List.set_cons_zero, List.tail_cons] at hS5'
  clear D4
  have D4 := cells_say (hS5'.blk 1) _ 0 rfl
  simp only [cellsSay, List.drop_zero, Nat.reduceAdd, and_true] at D4
  have hS6 := hS5'.box #[.int .u32 ((ya : Nat) : Int), .int .u32 ((yb : Nat) : Int), .int .u32 ((yc : Nat) : Int), .int .u64 ((ys : Nat) : Int)] 26
  clear hS5 hS5' HSB HS3
  go_upto_region 7 with fail
  generalize hW6 : World.alloc _ _ = W6 at hS6 ⊢
  obtain ⟨g9, hg9⟩ : ∃ g, g = w5.heap.size := ⟨_, rfl⟩
  rw [← hg9] at hS6 ⊢
  clear D4
  have D9 := cells_say (hS6.blk 0) _ 0 rfl
  simp only [cellsSay, List.drop_zero, Nat.reduceAdd, and_true] at D9
  have HS6 := Lib.hid hS6
  clear hW6 hg9 hS6
  have hzx : bits .xor .u64 (ys : Int) (IntKind.u64.wrap (2 ^ km)) = (zs : Int) := by
    have h1 : (1 <<< km : Nat) < 2 ^ 64 := by rw [Nat.one_shiftLeft]; exact Nat.pow_lt_pow_right (by decide) hkm64
    have h2 : ((2 : Int) ^ km) = (((1 <<< km : Nat)) : Int) := by rw [Nat.one_shiftLeft]; simp
    have h3 : IntKind.u64.wrap (((1 <<< km : Nat)) : Int) = (((1 <<< km : Nat)) : Int) := by
      exact wrap_big _ h1
    rw [h2, h3, xor_int _ _ ys9 h1, HZ.out.1]
  have HZx := Lib.hid hzx
  clear hzx
  go_upto_region 8 with fail
  rw [HZx.out]
  generalize hW8 : World.setCell _ _ _ = W8
  have hS8 := HS6.out.put 0 g9 [(3, .int .u64 ((zs : Nat) : Int))] #[.int .u32 ((ya : Nat) : Int), .int .u32 ((yb : Nat) : Int), .int .u32 ((yc : Nat) : Int), .int .u64 ((zs : Nat) : Int)] hW8
  simp only [List.set_cons_zero] at hS8
  have HS8 := Lib.hid hS8
  clear hS8 hW8 D9 HS6
  go_upto_region 9 with (at_builtin; go_must (refine appR Tryd.eltLf _ rfl (.tmp 35) (.tmp 36) rfl W8.heap.size (.slice none 0 0) [] rfl (OwnR.nil _ _ _ _ _) V c l (by rw [← HV.out.2.2.1]; rfl) (HRw.out _ HS8.out.b) (by rw [← HV.out.2.2.1]; unfold maxLen; simp <;> omega) (by rw [← HV.out.2.2.1]; simp <;> omega) (Nat.le_refl _) ?_); intro A6 c6 w6 hown6 hb6)
  have ho6 : OwnR w6 W8.heap.size 26 encLf 4 (.slice A6 n c6) l := by rw [HV.out.2.2.1]; simpa using hown6
  have hS9 := HS8.out.cons (t := thR 26 encLf 4 (.slice A6 n c6) l) hb6 (ho6.mono (Nat.zero_le _)) (fun k hk => (World.ownsRow.lt ho6 k hk).1)
  rw [← HV.out.2.2.1]
  have D9 := cells_say (hS9.blk 1) _ 0 rfl
  simp only [cellsSay, List.drop_zero, Nat.reduceAdd, and_true] at D9
  have HSB := Lib.hid (hS9.box #[.int .u32 ((ya : Nat) : Int), .int .u32 ((yb : Nat) : Int), .int .u32 ((yc : Nat) : Int), .int .u64 ((zs : Nat) : Int)] 26)
  clear hown6 hb6 ho6 hS9 HS8
  go_upto_region 10 with (at_builtin; go_must (refine sep_app1 Tryd.eltLf rfl (.tmp 38) (.tmp 40) rfl 1 (.slice A6 n c6) l (by simp [Act.eval, Act.put]) HSB.out rfl w6.heap.size 1 (ya, yb, yc, zs) 26 #[.int .u32 ((ya : Nat) : Int), .int .u32 ((yb : Nat) : Int), .int .u32 ((yc : Nat) : Int), .int .u64 ((zs : Nat) : Int)] rfl (HSB.out.blk 0) rfl (by unfold maxLen; rw [← HV.out.2.2.1]; omega) (by rw [← HV.out.2.2.1]; omega) ?_); intro g10 c10 w10 hS10; rw [← HV.out.2.2.1] at hS10 ⊢)
  have hS10' := hS10.tail
  simp only [List.set_cons_succ, List.set_cons_zero, List.tail_cons] at hS10'
  have HS := Lib.hid (show Sep w.heap.size w w10 [thR 26 encLf 4 (.slice (some ⟨g10, 0, none⟩) (n + 1) c10) (l ++ [(ya, yb, yc, zs)]), thB g9 26 #[.int .u32 ((ya : Nat) : Int), .int .u32 ((yb : Nat) : Int), .int .u32 ((yc : Nat) : Int), .int .u64 ((zs : Nat) : Int)], thR 26 encLf 4 (.slice (some ⟨g5, 0, none⟩) (n + 1) c5) (l ++ [(ya, yb, yc, ys)]), thB g4 26 #[.int .u32 ((ya : Nat) : Int), .int .u32 ((yb : Nat) : Int), .int .u32 ((yc : Nat) : Int), .int .u64 ((ys : Nat) : Int)]] from hS10')
  clear hS10 hS10' HSB D9
  have rows : ∀ (W : World) (V : Option Addr) (n c : Nat) (l : List LfD), OwnR W 0 26 encLf 4 (.slice V n c) l → n = l.length ∧ Rw W encLf 4 V l := fun W V n c l h => by
    obtain ⟨A, c2, e, -, hR⟩ := OwnR.row Tryd.eltLf h
    injection e with e1 e2 _
    exact ⟨e2, by rw [e1]; exact hR⟩
  have okY : LfOk (ya, yb, yc, ys) := ⟨ya9, yb9, yc9, ys9⟩
  have okZ : LfOk (ya, yb, yc, zs) := ⟨ya9, yb9, yc9, hz9⟩
  have okA : ∀ s, LfOk (ya, yb, yc, s) → ∀ x ∈ l ++ [(ya, yb, yc, s)], LfOk x := fun s hs x hx => by
    rcases List.mem_append.1 hx with hx | hx
    · exact HV.out.2.1 x hx
    · rw [List.mem_singleton.1 hx]; exact hs
  obtain ⟨Ra, hRa⟩ : ∃ R, R = rootG 0 (l ++ [(ya, yb, yc, ys)]) := ⟨_, rfl⟩
  obtain ⟨Rb, hRb⟩ : ∃ R, R = rootG 0 (l ++ [(ya, yb, yc, zs)]) := ⟨_, rfl⟩
  obtain ⟨Rx, hRx⟩ : ∃ R, R = rootG 0 l := ⟨_, rfl⟩
  obtain ⟨Ry, hRy⟩ : ∃ R, R = rootG 0 [(ya, yb, yc, ys)] := ⟨_, rfl⟩
  have hne : Ra ≠ Rb := by
    rw [hRa, hRb, HZ.out.1]
    exact root_flip l ya yb yc ys km hkm64
  have hjo : Ra = joinR Rx Ry 160 := by rw [hRa, hRx, hRy]; exact root_join l _
  have hx9 : Rx < 18446744073709551616 ∧ Ry < 18446744073709551616 := by
    have h1 := rootG_lt (r := 0) (by decide) l
    have h2 := rootG_lt (r := 0) (by decide) [(ya, yb, yc, ys)]
    rw [hRx, hRy]
    omega
  have hCa : ∀ W, Below w10.heap.size w10 W → Calls Tryd.prog 7 #[.slice (some ⟨g5, 0, none⟩) (n + 1) c5] W fun e w' => e = .returned (.int .u64 ((Ra : Nat) : Int)) ∧ Below W.heap.size W w' := fun W hW => by
    obtain ⟨h1, h2⟩ := rows _ _ _ _ _ ((HS.out.go hW).at_ (t := thR 26 encLf 4 (.slice (some ⟨g5, 0, none⟩) (n + 1) c5) (l ++ [(ya, yb, yc, ys)])) 2 rfl)
    have h3 := root_any _ c5 _ W h2 (okA ys okY) (by rw [← h1]; omega)
    rw [← h1, ← hRa] at h3
    exact h3
  have hCb : ∀ W, Below w10.heap.size w10 W → Calls Tryd.prog 7 #[.slice (some ⟨g10, 0, none⟩) (n + 1) c10] W fun e w' => e = .returned (.int .u64 ((Rb : Nat) : Int)) ∧ Below W.heap.size W w' := fun W hW => by
    obtain ⟨h1, h2⟩ := rows _ _ _ _ _ ((HS.out.go hW).at_ (t := thR 26 encLf 4 (.slice (some ⟨g10, 0, none⟩) (n + 1) c10) (l ++ [(ya, yb, yc, zs)])) 0 rfl)
    have h3 := root_any _ c10 _ W h2 (okA zs okZ) (by rw [← h1]; omega)
    rw [← h1, ← hRb] at h3
    exact h3
  have hCx : ∀ W, Below w10.heap.size w10 W → Calls Tryd.prog 7 #[.slice V n c] W fun e w' => e = .returned (.int .u64 ((Rx : Nat) : Int)) ∧ Below W.heap.size W w' := fun W hW => by
    have h3 := root_any V c l W (HRw.out W (HS.out.go hW).b) HV.out.2.1 (by rw [← HV.out.2.2.1]; omega)
    rw [← HV.out.2.2.1, ← hRx] at h3
    exact h3
  have hCy : ∀ (W : World) (g : Nat), Rw W encLf 4 (some ⟨g, 0, none⟩) [(ya, yb, yc, ys)] → Calls Tryd.prog 7 #[.slice (some ⟨g, 0, none⟩) 1 1] W fun e w' => e = .returned (.int .u64 ((Ry : Nat) : Int)) ∧ Below W.heap.size W w' := fun W g hW => by
    have h3 := root_any _ 1 _ W hW (fun x hx => by rw [List.mem_singleton.1 hx]; exact okY) (by simp)
    rw [← hRy] at h3
    exact h3
  have HC := Lib.hid (And.intro hCa (And.intro hCb (And.intro hCx hCy)))
  have HJ := Lib.hid (And.intro hjo hx9)
  clear hCa hCb hCx hCy okY okZ okA hRa hRb hRx hRy hjo hx9 rows
  go_upto_region 11 with (go_at_call 7; refine (HC.out.1 w10 (Below.refl _ _)).mono ?_; rintro e w11 ⟨rfl, b11⟩)
  obtain ⟨I, hI⟩ : ∃ I : Rec → World → Prop, ∀ E' W, I E' W ↔ (Below w10.heap.size w10 W ∧ ∀ u, E' 4 = some u → ∃ g, u = .slice (some ⟨g, 0, none⟩) 1 1 ∧ Rw W encLf 4 (some ⟨g, 0, none⟩) [(ya, yb, yc, ys)]) := ⟨_, fun _ _ => Iff.rfl⟩
  have hI0 : I (fun _ => none) w11.drew := (hI _ _).2 ⟨b11.drew, fun u h => by cases h⟩
  haveI : Nonempty (InvW I) := ⟨⟨_, _, hI0⟩⟩
  have C4 : ∀ y : InvW I, cellsSay y.W g4 0 [.int .u32 ((ya : Nat) : Int), .int .u32 ((yb : Nat) : Int), .int .u32 ((yc : Nat) : Int), .int .u64 ((ys : Nat) : Int)] := fun y => cells_say ((HS.out.go ((hI _ _).1 y.h).1).blk 3) _ 0 rfl
  simp only [cellsSay, Nat.reduceAdd, and_true] at C4
  have HI2 := Lib.hid hI
  have hg1 : (((Ra : Nat) : Int) == ((Ra : Nat) : Int)) = true := beq_self_eq_true _
  have hg2 : (((Ra : Nat) : Int) != ((Rb : Nat) : Int)) = true := by simp; omega
  clear hI b11
  refine wp_region_inv I [[], [], [], [], [], [4]] [2, 4, 5, 6, 11] (fun k v => if k = 2 then v = .int .u64 ((Rx : Nat) : Int) else if k = 4 then ∃ g, v = .slice (some ⟨g, 0, none⟩) 1 1 else if k = 5 then v = .int .u64 ((Ry : Nat) : Int) else if k = 6 then v = .int .u64 ((Ra : Nat) : Int) else v = .int .u64 ((Rb : Nat) : Int)) hmx (by kernel_rfl) hI0 ?_
  iterate 2 (refine walkJ_one rfl (by kernel_rfl) ?_; go_big_quiet_step (fail); refine wpQuiet_nil ?_)
  refine walkJ_turn rfl rfl ⟨_, rfl⟩ (fun s W1 hs h7 _ => ?_) ?_
  · obtain ⟨hb1, h4⟩ := (HI2.out _ _).1 hs
    refine inv_call (by simp [execOp, go_sem]) ((HC.out.2.2.1 W1 hb1).mono ?_)
    rintro e w5 ⟨rfl, b5⟩
    refine ⟨_, rfl, rfl, (HI2.out _ _).2 ⟨hb1.trans (b5.mono hb1.size), fun u hu => ?_⟩⟩
    rw [recSet_ne (by decide)] at hu
    obtain ⟨g, q1, q2⟩ := h4 u hu
    exact ⟨g, q1, q2.below b5 (Nat.le_refl _)⟩
  rintro v rfl
  conv => arg 11; simp [Act.put]
  iterate 1 (refine walkJ_one rfl (by kernel_rfl) ?_; go_big_quiet_step (fail); refine wpQuiet_nil ?_)
  refine walkJ_turn rfl rfl ⟨.slice (some ⟨0, 0, none⟩) 1 1, 0, rfl⟩ (fun s W1 hs h7 _ => ?_) ?_
  · obtain ⟨hb1, h4⟩ := (HI2.out _ _).1 hs
    refine inv_val (W' := W1.alloc (.cells #[.int .u32 ((ya : Nat) : Int), .int .u32 ((yb : Nat) : Int), .int .u32 ((yc : Nat) : Int), .int .u64 ((ys : Nat) : Int)] 26)) (v := .slice (some ⟨W1.heap.size, 0, none⟩) 1 1) (by simp [execOp, go_sem]) ⟨⟨_, rfl⟩, (HI2.out _ _).2 ⟨hb1.trans ((below_alloc W1 _).mono hb1.size), fun u hu => ?_⟩⟩
    rw [recSet_same] at hu
    injection hu with hu
    refine ⟨_, hu.symm, fun i x hi => ?_⟩
    have hbk := Blk.new W1 26 #[.int .u32 ((ya : Nat) : Int), .int .u32 ((yb : Nat) : Int), .int .u32 ((yc : Nat) : Int), .int .u64 ((ys : Nat) : Int)]
    obtain rfl : i = 0 := by have := (List.getElem?_eq_some_iff.1 hi).1; simp at this; omega
    injection hi with hi
    subst hi
    refine ⟨_, _, rfl, fun j v hj => ?_⟩
    match j, hj with
    | 0, hj => injection hj with hj; rw [← hj]; exact hbk.cell 0
    | 1, hj => injection hj with hj; rw [← hj]; exact hbk.cell 1
    | 2, hj => injection hj with hj; rw [← hj]; exact hbk.cell 2
    | 3, hj => injection hj with hj; rw [← hj]; exact hbk.cell 3
    | j + 4, hj => simp [encLf] at hj
  rintro v ⟨g48, rfl⟩
  conv => arg 11; simp [Act.put]
  refine walkJ_turn rfl rfl ⟨_, rfl⟩ (fun s W1 hs h7 hch => ?_) ?_
  · obtain ⟨hb1, h4⟩ := (HI2.out _ _).1 hs
    obtain ⟨g, q1, q2⟩ := h4 _ ((hch 4 (by simp)).trans rfl)
    injection q1 with q1 _ _
    injection q1 with q1
    injection q1 with q1 _
    subst q1
    refine inv_call (by simp [execOp, go_sem]) ((HC.out.2.2.2 W1 g48 q2).mono ?_)
    rintro e w5 ⟨rfl, b5⟩
    refine ⟨_, rfl, rfl, (HI2.out _ _).2 ⟨hb1.trans (b5.mono hb1.size), fun u hu => ?_⟩⟩
    rw [recSet_ne (by decide)] at hu
    obtain ⟨g, q1, q2⟩ := h4 u hu
    exact ⟨g, q1, q2.below b5 (Nat.le_refl _)⟩
  rintro v rfl
  conv => arg 11; simp [Act.put]
  refine walkJ_turn rfl rfl ⟨_, rfl⟩ (fun s W1 hs h7 _ => ?_) ?_
  · obtain ⟨hb1, h4⟩ := (HI2.out _ _).1 hs
    refine inv_call (by simp [execOp, go_sem]) ((refJoin_num Rx Ry 160 W1 HJ.out.2.1 HJ.out.2.2 ⟨by decide, by decide⟩).mono ?_)
    rintro e w5 ⟨rfl, rfl⟩
    refine ⟨_, rfl, by rw [HJ.out.1]; rfl, (HI2.out _ _).2 ⟨hb1, fun u hu => ?_⟩⟩
    rw [recSet_ne (by decide)] at hu
    exact h4 u hu
  rintro v rfl
  conv => arg 11; simp [Act.put]
  iterate 4 (refine walkJ_one rfl (by kernel_rfl) ?_; go_big_quiet_step (fail); refine wpQuiet_nil ?_)
  refine walkJ_turn rfl rfl ⟨_, rfl⟩ (fun s W1 hs h7 _ => ?_) ?_
  · obtain ⟨hb1, h4⟩ := (HI2.out _ _).1 hs
    refine inv_call (by simp [execOp, go_sem]) ((HC.out.2.1 W1 hb1).mono ?_)
    rintro e w5 ⟨rfl, b5⟩
    refine ⟨_, rfl, rfl, (HI2.out _ _).2 ⟨hb1.trans (b5.mono hb1.size), fun u hu => ?_⟩⟩
    rw [recSet_ne (by decide)] at hu
    obtain ⟨g, q1, q2⟩ := h4 u hu
    exact ⟨g, q1, q2.below b5 (Nat.le_refl _)⟩
  rintro v rfl
  conv => arg 11; simp [Act.put]
  iterate 3 (refine walkJ_one rfl (by kernel_rfl) ?_; go_big_quiet_step (fail); refine wpQuiet_nil ?_)
  refine walkJ_end ?_
  intro wp hW'
  have HF := Lib.hid ((HI2.out _ _).1 hW').1
  clear hW' HI2 hI0 C4
  go_wp2_with fail
  go_ret
  exact ⟨rfl, HS.out.b.trans (HF.out.mono HS.out.b.size)⟩
end Go.Proofs.YtiliineopplinaaDoor
