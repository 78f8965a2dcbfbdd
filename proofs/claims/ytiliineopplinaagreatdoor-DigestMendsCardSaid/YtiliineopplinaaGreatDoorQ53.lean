/- Joined: Dg4, Dg5, Dg6, Dg7, Dg8, Dg9, Dg10, Dg12, Dg13, Dg15, Dg16, Dg17, Dg18, Dg19. -/
import Derived.Test.YtiliineopplinaaGreatDoorQ52
import Derived.Test.YtiliineopplinaaGreatDoorQ27
import Derived.Test.YtiliineopplinaaGreatDoorQ51
import Derived.Deep.AppendLies
import Derived.Test.YtiliineopplinaaGreatDoorQ10
import Derived.Test.YtiliineopplinaaGreatDoorQ45
import Derived.Test.YtiliineopplinaaGreatDoorQ48
set_option linter.unusedSimpArgs false
set_option linter.unusedVariables false
set_option linter.unusedSimpArgs false
set_option linter.unusedVariables false
namespace Go.Proofs.YtiliineopplinaaGreatDoor
open Go.RowKit
set_option maxRecDepth 100000
abbrev TBT : TypeId := 90
theorem tbU : Tryz.prog.underlying TBT = some (.map KCy.K 57) := Tryz.underlying90
theorem lfZ (w : World) : (zeroValue 57).run Tryz.prog w = .ok (lfV (0, 0, 0, 0)) w := by kernel_rfl
def findL (l : List LfD) (k : KyD) : Option LfD := l.find? fun x => decide ((x.1, x.2.1) = k)
theorem findL_snoc (l : List LfD) (x : LfD) (k : KyD) : findL (l ++ [x]) k = (findL l k).or (if (x.1, x.2.1) = k then some x else none) := by
 unfold findL
 rw [List.find?_append]
 congr 1
 rw [List.find?_cons]
 by_cases h : (x.1, x.2.1) = k
 ·rw [decide_eq_true h, if_pos h]
 ·rw [decide_eq_false h, if_neg h]; rfl
structure TabI (l : List LfD) (M : List (KyD × LfD)) : Prop where
 look : ∀ k, lookMG M k = findL l k
 len : M.length ≤ l.length
theorem TabI.nil : TabI [] [] := ⟨fun k => rfl, Nat.le_refl _⟩
theorem TabI.old {l : List LfD} {M : List (KyD × LfD)} (h : TabI l M) {x y : LfD} (hy : lookMG M (x.1, x.2.1) = some y) : TabI (l ++ [x]) M := by
 refine ⟨fun k => ?_, by rw [List.length_append]; have := h.len; omega⟩
 rw [findL_snoc, ← h.look k]
 by_cases e : (x.1, x.2.1) = k
 ·rw [← e, hy]; rfl
 ·rw [if_neg e]; cases lookMG M k <;> rfl
theorem TabI.new {l : List LfD} {M : List (KyD × LfD)} (h : TabI l M) {x : LfD} (hy : lookMG M (x.1, x.2.1) = none) : TabI (l ++ [x]) (putMG M (x.1, x.2.1) x) := by
 refine ⟨fun k => ?_, ?_⟩
 ·rw [findL_snoc, look_putG, ← h.look k]
  by_cases e : (x.1, x.2.1) = k
  ·rw [← e, hy]; simp
  ·rw [if_neg (fun e2 => e e2.symm), if_neg e]; cases lookMG M k <;> rfl
 ·unfold putMG
  rw [hy, if_neg (by decide), List.length_append, List.length_append]
  have := h.len
  simp only [List.length_singleton]
  omega
set_option maxHeartbeats 16000000 in
theorem table_any (V : Option Addr) (c : Nat) (l : List LfD) (w : World) (hV : Rw w encLf 4 V l) (hok : ∀ x ∈ l, LfOk x) (hl : l.length ≤ 1000000) :
  Calls Tryz.prog 25 #[.slice V l.length c] w fun e w' => ∃ b M, e = .returned (.map (some b)) ∧ Sep w.heap.size w w' [thMuG KCy lfV b M] ∧ TabI l M := by
 have hmx : Tryz.prog.follows .mixedOrders = true := by kernel_rfl
 obtain ⟨n, hn⟩ : ∃ n, n = l.length := ⟨_, rfl⟩
 have hn6 : n ≤ 1000000 := by rw [hn]; exact hl
 rw [← hn]
 have HV := Lib.hid (And.intro hV (And.intro hok hn))
 have hS0 := (Sep.nil (Below.refl w.heap.size w) (Nat.le_refl _)).cons (t := thMuG KCy lfV w.heap.size []) (below_alloc w (.map #[] 0)) (MuG.made w) (fun k hk => by have e : k = w.heap.size := hk; omega)
 clear hV hok hl hn
 have hmm := @run_makeMap Tryz.prog
 go_enter Tryz.func25, Tryz.ntmps25
 go_wp2_with fail
 generalize hW : World.alloc _ _ = W at hS0 ⊢
 obtain ⟨b, hb⟩ : ∃ b, b = w.heap.size := ⟨_, rfl⟩
 have hS1 : Sep w.heap.size w W [thMuG KCy lfV b []] := by rw [hb]; exact hS0
 rw [← hb]
 have HS1 := Lib.hid hS1
 clear hW hS0 hS1 hb hmm
 go_loopw [5, 6, 7, 8, 12] (fun s5 s6 s7 s8 s12 wr => ∃ (i : Nat) (M : List (KyD × LfD)), s12 = .int .i64 (i : Nat) ∧ i ≤ n ∧ Hid (Sep w.heap.size w wr [thMuG KCy lfV b M] ∧ TabI (l.take i) M))
  (fun _ _ _ _ s12 _ => n - (intOf s12).toNat)
 case atStart => exact ⟨0, [], by go_num, Nat.zero_le _, Lib.hid ⟨HS1.out, TabI.nil⟩⟩
 case round =>
  obtain ⟨i, M, rfl, hi, HI⟩ := hrel
  obtain ⟨wi, hwi⟩ : ∃ wi, wi = wr := ⟨_, rfl⟩
  rw [← hwi] at HI ⊢
  clear hwi
  by_cases hit : i < n
  ·obtain ⟨x, hx⟩ : ∃ x, l[i]? = some x := ⟨_, List.getElem?_eq_getElem (by rw [← HV.out.2.2]; exact hit)⟩
   obtain ⟨p, o, hp, hc⟩ := HV.out.1 i x hx
   subst hp
   have hxo := HV.out.2.1 x (List.mem_of_getElem? hx)
   have hsn : l.take (i + 1) = l.take i ++ [x] := by rw [List.take_add_one, hx]; rfl
   obtain ⟨xa, xb, xc, xs⟩ := x
   have old : ∀ j v, (encLf (xa, xb, xc, xs))[j]? = some v → wi.cell? ⟨p, o + i * 4 + j, none⟩ = some v := fun j v hj => (HI.out.1.b.cell (cell_lt (hc j v hj))).trans (hc j v hj)
   have f0 : wi.cell? ⟨p, o + i * 4, none⟩ = some (.int .u32 (xa : Nat)) := old 0 _ rfl
   have f1 : wi.cell? ⟨p, o + i * 4 + 1, none⟩ = some (.int .u32 (xb : Nat)) := old 1 _ rfl
   have f2 : wi.cell? ⟨p, o + i * 4 + 2, none⟩ = some (.int .u32 (xc : Nat)) := old 2 _ rfl
   have f3 : wi.cell? ⟨p, o + i * 4 + 3, none⟩ = some (.int .u64 (xs : Nat)) := old 3 _ rfl
   have hit2 : (i : Int) < (n : Int) := by omega
   have HX := Lib.hid (And.intro hsn hxo)
   have hS2 := (HI.out.1.box #[.int .u32 (xa : Nat), .int .u32 (xb : Nat), .int .u32 (xc : Nat), .int .u64 (xs : Nat)] 57)
   have D5 := cells_say (hS2.blk 0) _ 0 rfl
   simp only [cellsSay, List.drop_zero, Nat.reduceAdd, and_true] at D5
   clear hx hc old hxo hsn
   go_upto_region 5 with fail
   generalize hV2 : World.alloc _ _ = V2 at hS2 D5 ⊢
   obtain ⟨g5, hg5⟩ : ∃ g, g = wi.heap.size := ⟨_, rfl⟩
   rw [← hg5] at hS2 D5 ⊢
   have hS3 := hS2.box #[.int .u32 (xa : Nat), .int .u32 (xb : Nat)] 94
   clear f0 f1 f2 f3 hV2 hg5
   go_upto_region 6 with fail
   generalize hV3 : World.alloc _ _ = V3 at hS3 ⊢
   obtain ⟨g6, hg6⟩ : ∃ g, g = V2.heap.size := ⟨_, rfl⟩
   rw [← hg6] at hS3 ⊢
   have D6 := cells_say (hS3.blk 0) _ 0 rfl
   clear D5
   have D5 := cells_say (hS3.blk 1) _ 0 rfl
   simp only [cellsSay, List.drop_zero, Nat.reduceAdd, and_true] at D5 D6
   have hlk := MuG.look (show MuG KCy lfV V3 b M from hS3.at_ 2 rfl) tbU (lfZ V3) (xa, xb) ⟨HX.out.2.1, HX.out.2.2.1⟩
   have HS3 := Lib.hid hS3
   clear hS2 hS3 hV3 hg6
   cases hlo : lookMG M (xa, xb) with
   | some y =>
    obtain ⟨ya, yb, yc, ys⟩ := y
    rw [hlo] at hlk
    have hl2 : (Instr.lookup TBT (.map (some b)) (.agg #[.int .u32 ((xa : Nat) : Int), .int .u32 ((xb : Nat) : Int)]) true).run Tryz.prog V3 = .ok (.tuple #[.agg #[.int .u32 ((ya : Nat) : Int), .int .u32 ((yb : Nat) : Int), .int .u32 ((yc : Nat) : Int), .int .u64 ((ys : Nat) : Int)], .bool true]) V3 := hlk
    have HL := Lib.hid hlo
    have hS4 := HS3.out.box #[.int .u32 ((ya : Nat) : Int), .int .u32 ((yb : Nat) : Int), .int .u32 ((yc : Nat) : Int), .int .u64 ((ys : Nat) : Int)] 57
    have HS4 := Lib.hid hS4
    clear hlk hlo hS4
    go_wp2_with fail
    go_roundw
    case measure => simp [intOf]; omega
    case rel => exact ⟨i + 1, M, by go_num, by omega, Lib.hid ⟨HS4.out.tail.tail.tail, by rw [HX.out.1]; exact HI.out.2.old HL.out⟩⟩
   | none =>
    rw [hlo] at hlk
    have hl2 : (Instr.lookup TBT (.map (some b)) (.agg #[.int .u32 ((xa : Nat) : Int), .int .u32 ((xb : Nat) : Int)]) true).run Tryz.prog V3 = .ok (.tuple #[.agg #[.int .u32 0, .int .u32 0, .int .u32 0, .int .u64 0], .bool false]) V3 := hlk
    have HL := Lib.hid hlo
    have hS4 := HS3.out.box #[.int .u32 0, .int .u32 0, .int .u32 0, .int .u64 0] 57
    have hMl : M.length < maxLen := by
     have h1 := HI.out.2.len
     rw [List.length_take] at h1
     unfold maxLen
     omega
    clear hlk hlo
    go_upto_region 8 with fail
    generalize hV4 : World.alloc _ _ = V4 at hS4 ⊢
    obtain ⟨g7, hg7⟩ : ∃ g, g = V3.heap.size := ⟨_, rfl⟩
    rw [← hg7] at hS4 ⊢
    clear D5 D6 hl2
    have D6 := cells_say (hS4.blk 1) _ 0 rfl
    have D5 := cells_say (hS4.blk 2) _ 0 rfl
    simp only [cellsSay, List.drop_zero, Nat.reduceAdd, and_true] at D5 D6
    have hm2 : MuG KCy lfV V4 b M := hS4.at_ 3 rfl
    have hk2 : KCy.ok (xa, xb) := ⟨HX.out.2.1, HX.out.2.2.1⟩
    have HS4 := Lib.hid hS4
    clear hV4 hg7 hS4
    go_wp2_with (at_mapUpdate; go_must (refine step_putG (KC := KCy) (vE := lfV) rfl _ _ _ rfl tbU rfl hm2 hMl (xa, xb) hk2 rfl (xa, xb, xc, xs) rfl ?_); intro w3 hm3 hg3)
    go_roundw
    case measure => simp [intOf]; omega
    case rel =>
     have hS5 := HS4.out.call (t' := thMuG KCy lfV b (putMG M (xa, xb) (xa, xb, xc, xs))) 3 rfl (Tou.of_grown hg3 (fun j e => by injection e with e; exact e.symm)) hm3 (fun j hj => .inl hj)
     exact ⟨i + 1, _, by go_num, by omega, Lib.hid ⟨hS5.tail.tail.tail, by rw [HX.out.1]; exact HI.out.2.new HL.out⟩⟩
  ·have hit2 : ¬ (i : Int) < (n : Int) := by omega
   have hi2 : i = n := by omega
   have HE := Lib.hid (show TabI l M by
    have h1 := HI.out.2
    rw [hi2, HV.out.2.2, List.take_length] at h1
    exact h1)
   clear hi2
   go_wp2_with fail
   go_ret
   exact ⟨b, rfl, M, HI.out.1, HE.out⟩
end Go.Proofs.YtiliineopplinaaGreatDoor
set_option linter.unusedSimpArgs false
set_option linter.unusedVariables false
namespace Go.Proofs.YtiliineopplinaaGreatDoor
open Go.RowKit
set_option maxRecDepth 100000
def Dif (l m : List LfD) (k : KyD) : Prop := findL l k ≠ findL m k
def cntL (l : List LfD) (k : KyD) : Nat := ((findL l k).map fun x => x.2.2.1).getD 0
def addP (P : KyD → Prop) (k : KyD) : KyD → Prop := fun j => P j ∨ j = k
structure FirI (l m : List LfD) (P : KyD → Prop) (F : List (Nat × LfD)) : Prop where
 none_ : ∀ x, lookM F x = none → ∀ c, P (x, c) → ¬ Dif l m (x, c)
 some_ : ∀ x v, lookM F x = some v → v.1 = x ∧ v.2.2.1 = cntL l (x, v.2.1) ∧ v.2.2.2 = 0 ∧ P (x, v.2.1) ∧ Dif l m (x, v.2.1) ∧ ∀ c, P (x, c) → Dif l m (x, c) → v.2.1 ≤ c
section
variable {l m : List LfD} {P : KyD → Prop} {F : List (Nat × LfD)} {x c : Nat}
theorem FirI.nil (l m : List LfD) : FirI l m (fun _ => False) [] := ⟨fun x _ c h => h.elim, fun x v h => by cases h⟩
theorem FirI.same (h : FirI l m P F) {k : KyD} (hd : ¬ Dif l m k) : FirI l m (addP P k) F := by
 refine ⟨fun x hx c hc => ?_, fun x v hv => ?_⟩
 ·rcases hc with hc | hc
  ·exact h.none_ x hx c hc
  ·rw [hc]; exact hd
 ·obtain ⟨h1, h2, h3, h4, h5, h6⟩ := h.some_ x v hv
  refine ⟨h1, h2, h3, .inl h4, h5, fun c hc hdc => ?_⟩
  rcases hc with hc | hc
  ·exact h6 c hc hdc
  ·rw [hc] at hdc; exact absurd hdc hd
theorem FirI.low (h : FirI l m P F) {v : LfD} (hv : lookM F x = some v) (hc : v.2.1 ≤ c) : FirI l m (addP P (x, c)) F := by
 refine ⟨fun y hy d hd => ?_, fun y u hu => ?_⟩
 ·rcases hd with hd | hd
  ·exact h.none_ y hy d hd
  ·injection hd with e1 e2
   rw [e1, hv] at hy
   cases hy
 ·obtain ⟨h1, h2, h3, h4, h5, h6⟩ := h.some_ y u hu
  refine ⟨h1, h2, h3, .inl h4, h5, fun d hd hdd => ?_⟩
  rcases hd with hd | hd
  ·exact h6 d hd hdd
  ·injection hd with e1 e2
   rw [e1, hv] at hu
   injection hu with hu
   rw [← hu, e2]
   exact hc
theorem FirI.new (h : FirI l m P F) (hd : Dif l m (x, c)) (hv : ∀ v, lookM F x = some v → c ≤ v.2.1) : FirI l m (addP P (x, c)) (putM F x (x, c, cntL l (x, c), 0)) := by
 refine ⟨fun y hy d hdd => ?_, fun y u hu => ?_⟩
 ·rw [look_put] at hy
  by_cases e : y = x
  ·rw [if_pos e] at hy; cases hy
  ·rw [if_neg e] at hy
   rcases hdd with hdd | hdd
   ·exact h.none_ y hy d hdd
   ·injection hdd with e1 e2
    exact absurd e1 e
 ·rw [look_put] at hu
  by_cases e : y = x
  ·rw [if_pos e] at hu
   injection hu with hu
   subst hu
   subst e
   refine ⟨rfl, rfl, rfl, .inr rfl, hd, fun d hdp hdd => ?_⟩
   show c ≤ d
   rcases hdp with hdp | hdp
   ·cases hl : lookM F y with
    | none => exact absurd hdd (h.none_ y hl d hdp)
    | some v =>
     have h1 := hv v hl
     have h2 := (h.some_ y v hl).2.2.2.2.2 d hdp hdd
     omega
   ·injection hdp with _ e2
    omega
  ·rw [if_neg e] at hu
   obtain ⟨h1, h2, h3, h4, h5, h6⟩ := h.some_ y u hu
   refine ⟨h1, h2, h3, .inl h4, h5, fun d hdp hdd => ?_⟩
   rcases hdp with hdp | hdp
   ·exact h6 d hdp hdd
   ·injection hdp with e1 _
    exact absurd e1 e
theorem putM_len (F : List (Nat × LfD)) (x : Nat) (a : LfD) : (putM F x a).length ≤ F.length + 1 := by
 unfold putM
 split <;> simp
end
structure ApR (l m L : List LfD) : Prop where
 asc : L.Pairwise fun a b => a.1 < b.1
 mem : ∀ v ∈ L, Dif l m (v.1, v.2.1) ∧ v.2.2.1 = cntL l (v.1, v.2.1) ∧ v.2.2.2 = 0 ∧ ∀ c, Dif l m (v.1, c) → v.2.1 ≤ c
 all : ∀ x c, Dif l m (x, c) → ∃ v ∈ L, v.1 = x
def firL (F : List (Nat × LfD)) (xs : List Nat) : List LfD := xs.map fun x => (lookM F x).getD (0, 0, 0, 0)
theorem ApR.of {l m : List LfD} {P : KyD → Prop} {F : List (Nat × LfD)} (h : FirI l m P F) (hP : ∀ k, Dif l m k → P k) (hn : (F.map Prod.fst).Nodup) {xs : List Nat} (hp : xs.Perm (F.map Prod.fst)) (hr : xs.Pairwise (· ≤ ·)) : ApR l m (firL F xs) := by
 have hin : ∀ x ∈ xs, ∃ v, lookM F x = some v := fun x hx => by
  obtain ⟨p, hp1, rfl⟩ := List.mem_map.1 (hp.subset hx)
  exact ⟨p.2, lookM_of_mem hn hp1⟩
 have hnd : xs.Nodup := hp.symm.nodup hn
 refine ⟨?_, fun v hv => ?_, fun x c hd => ?_⟩
 ·unfold firL
  rw [List.pairwise_map]
  refine ((hr.and hnd).imp_of_mem ?_)
  rintro a b ha hb ⟨h1, h2⟩
  obtain ⟨va, ea⟩ := hin a ha
  obtain ⟨vb, eb⟩ := hin b hb
  rw [ea, eb, Option.getD_some, Option.getD_some, (h.some_ a va ea).1, (h.some_ b vb eb).1]
  omega
 ·obtain ⟨x, hx, rfl⟩ := List.mem_map.1 hv
  obtain ⟨v, e⟩ := hin x hx
  rw [e, Option.getD_some]
  obtain ⟨h1, h2, h3, h4, h5, h6⟩ := h.some_ x v e
  rw [h1]
  exact ⟨h5, h2, h3, fun c hc => h6 c (hP _ hc) hc⟩
 ·cases e : lookM F x with
  | none => exact absurd hd (h.none_ x e c (hP _ hd))
  | some v =>
   refine ⟨v, List.mem_map.2 ⟨x, ?_, by rw [e]; rfl⟩, (h.some_ x v e).1⟩
   exact hp.symm.subset (List.mem_map_of_mem (f := Prod.fst) (lookM_mem e))
theorem eqInLf_run (a b : LfD) (w : World) : (Op.equalIn 10000 57 (.agg #[.int .u32 (a.1 : Nat), .int .u32 (a.2.1 : Nat), .int .u32 (a.2.2.1 : Nat), .int .u64 (a.2.2.2 : Nat)]) (.agg #[.int .u32 (b.1 : Nat), .int .u32 (b.2.1 : Nat), .int .u32 (b.2.2.1 : Nat), .int .u64 (b.2.2.2 : Nat)])).run Tryz.prog w = .ok (decide (a = b)) w := by
 have u1 := Tryz.underlying35
 have u2 := Tryz.underlying38
 have hS : Tryz.prog.underlying 57 = some (.struct (Tryz.prog.fieldsOf 57)) := by kernel_rfl
 have hp : Tryz.prog.stoodInHeld 57 = false := by kernel_rfl
 obtain ⟨a1, a2, a3, a4⟩ := a
 obtain ⟨b1, b2, b3, b4⟩ := b
 rw [show (10000 : Nat) = 9999 + 1 from rfl, run_equalIn_agg w 9999 57 _ _ hS hp]
 simp only [Program.fieldsOf, Tryz.underlying57]
 go_simp
 by_cases h : a1 = b1
 rotate_left
 ·simp [h] <;> (intros; omega)
 subst h
 by_cases h : a2 = b2
 rotate_left
 ·simp [h] <;> (intros; omega)
 subst h
 by_cases h : a3 = b3
 rotate_left
 ·simp [h] <;> (intros; omega)
 subst h
 by_cases h : a4 = b4
 rotate_left
 ·simp [h] <;> (intros; omega)
 subst h
 simp
theorem eqLf_run (a b : LfD) (w : World) : (binOp .eql 57 (.agg #[.int .u32 (a.1 : Nat), .int .u32 (a.2.1 : Nat), .int .u32 (a.2.2.1 : Nat), .int .u64 (a.2.2.2 : Nat)]) (.agg #[.int .u32 (b.1 : Nat), .int .u32 (b.2.1 : Nat), .int .u32 (b.2.2.1 : Nat), .int .u64 (b.2.2.2 : Nat)])).run Tryz.prog w = .ok (.bool (decide (a = b))) w := by
 rw [run_eql_struct, eqInLf_run a b]; rfl
theorem leftG_less {κ : Type} [DecidableEq κ] {α : Type} {M : List (κ × α)} {lf : κ → Bool} {k : κ} {c : α} (h : (k, c) ∈ M) (hl : lf k = true) : (M.filter fun p => offG lf k p.1).length < (M.filter fun p => lf p.1).length := by
 have e : (M.filter fun p => offG lf k p.1) = (M.filter fun p => lf p.1).filter fun p => !(p.1 == k) := by rw [List.filter_filter]; congr 1; funext p; exact Bool.and_comm _ _
 rw [e]
 refine List.length_filter_lt_length_iff_exists.2 ⟨(k, c), List.mem_filter.2 ⟨h, hl⟩, by simp⟩
end Go.Proofs.YtiliineopplinaaGreatDoor
set_option linter.unusedSimpArgs false
set_option linter.unusedVariables false
namespace Go.Proofs.YtiliineopplinaaGreatDoor
open Go.RowKit
set_option maxRecDepth 100000
def ApO (l m : List LfD) (w : World) (e : Ending) (w' : World) : Prop := ∃ U c L, e = .returned (.slice U L.length c) ∧ Sep w.heap.size w w' [thR 57 encLf 4 (.slice U L.length c) L] ∧ ApR l m L
theorem findL_mem {l : List LfD} {ML : List (KyD × LfD)} (h : TabI l ML) {k : KyD} (hk : ∃ x, findL l k = some x) : ∃ p ∈ ML, p.1 = k := by
 obtain ⟨x, hx⟩ := hk
 rw [← h.look k] at hx
 exact ⟨(k, x), lookG_mem hx, rfl⟩
set_option maxHeartbeats 64000000 in
theorem apart_any (V : Option Addr) (c : Nat) (l : List LfD) (U : Option Addr) (d : Nat) (m : List LfD) (w : World) (hV : Rw w encLf 4 V l) (hU : Rw w encLf 4 U m) (hok : ∀ x ∈ l, LfOk x) (hokm : ∀ x ∈ m, LfOk x) (hl : l.length ≤ 4000) (hm : m.length ≤ 4000) :
  Calls Tryz.prog 11 #[.slice V l.length c, .slice U m.length d] w (ApO l m w) := by
 have hmx : Tryz.prog.follows .mixedOrders = true := by kernel_rfl
 obtain ⟨ln, hln⟩ : ∃ n, n = l.length := ⟨_, rfl⟩
 obtain ⟨mn, hmn⟩ : ∃ n, n = m.length := ⟨_, rfl⟩
 have hT1 := fun (W : World) (hW : Below w.heap.size w W) => table_any V c l W (hV.below hW (Nat.le_refl _)) hok (by omega)
 have hT2 := fun (W : World) (hW : Below w.heap.size w W) => table_any U d m W (hU.below hW (Nat.le_refl _)) hokm (by omega)
 rw [← hln] at hT1 ⊢
 rw [← hmn] at hT2 ⊢
 have HT1 := Lib.hid hT1
 have HT2 := Lib.hid hT2
 have HV := Lib.hid (And.intro hok (And.intro hokm (And.intro hl (And.intro hm (And.intro hln hmn)))))
 have hS0 := (Sep.nil (Below.refl w.heap.size w) (Nat.le_refl _)).cons (t := thMu lfV w.heap.size []) (below_alloc w (.map #[] 0)) (Mu.made w) (fun k hk => by have e : k = w.heap.size := hk; omega)
 have hmm := @run_makeMap Tryz.prog
 clear hV hU hok hokm hl hm hln hmn hT1 hT2
 go_enter Tryz.func11, Tryz.ntmps11
 go_upto_region 2 with fail
 generalize hW : World.alloc _ _ = W at hS0 ⊢
 obtain ⟨bF, hbF⟩ : ∃ b, b = w.heap.size := ⟨_, rfl⟩
 have hS1 : Sep w.heap.size w W [thMu lfV bF []] := by rw [hbF]; exact hS0
 rw [← hbF]
 have HS1 := Lib.hid hS1
 have HTa := Lib.hid (HT1.out W hS1.b)
 clear hW hS0 hS1 hbF hmm HT1
 go_upto_region 3 with (first
  | (go_at_call 25; refine HTa.out.mono ?_; rintro e w2 ⟨bl, ML, rfl, hSl, hTl⟩; have HS2 := Lib.hid (HS1.out.consL (us := [thMuG KCy lfV bl ML]) hSl.b (fun t ht => hSl.all t ht) hSl.ap); clear hSl HTa)
  | (go_at_call 25; refine (HT2.out _ HS2.out.b).mono ?_; rintro e w3 ⟨br, MR, rfl, hSr, hTr⟩; have HS3 := Lib.hid (HS2.out.consL (us := [thMuG KCy lfV br MR]) hSr.b (fun t ht => hSr.all t ht) hSr.ap); clear hSr))
 have HTB := Lib.hid (And.intro hTl hTr)
 have HS4 := Lib.hid (show Sep w.heap.size w w3 [thMuG KCy lfV bl ML, thMuG KCy lfV br MR, thMu lfV bF []] from HS3.out.permB (List.Perm.swap _ _ _))
 clear HS1 HS2 HS3 hTl hTr HT2
 go_upto_region 4 with fail
 have hS5 := HS4.out.box #[.map (some bl), .map (some br)] 90
 generalize hV4 : World.alloc _ _ = V4 at hS5 ⊢
 obtain ⟨g27, hg27⟩ : ∃ g, g = w3.heap.size := ⟨_, rfl⟩
 rw [← hg27] at hS5 ⊢
 have HS5 := Lib.hid (show Sep w.heap.size w V4 [thMuG KCy lfV bl ML, thMuG KCy lfV br MR, thMu lfV bF [], thB g27 90 #[.map (some bl), .map (some br)]] from hS5.permB (List.perm_append_singleton _ _).symm)
 clear hS5 hV4 hg27 HS4
 go_loopw [9, 10, 11, 12, 13, 14, 15, 16, 29] (fun s9 s10 s11 s12 s13 s14 s15 s16 s29 wr => ∃ (i : Nat) (F : List (Nat × LfD)) (P : KyD → Prop), s29 = .int .i64 (i : Nat) ∧ i ≤ 2 ∧ Hid (Sep w.heap.size w wr [thMuG KCy lfV bl ML, thMuG KCy lfV br MR, thMu lfV bF F, thB g27 90 #[.map (some bl), .map (some br)]] ∧ FirI l m P F ∧ (1 ≤ i → ∀ p ∈ ML, P p.1) ∧ (2 ≤ i → ∀ p ∈ MR, P p.1) ∧ F.length ≤ 4000 * i))
  (fun _ _ _ _ _ _ _ _ s29 _ => 2 - (intOf s29).toNat)
 case atStart => exact ⟨0, [], _, by go_num, Nat.zero_le _, Lib.hid ⟨HS5.out, FirI.nil l m, fun h => absurd h (by decide), fun h => absurd h (by decide), Nat.le_refl _⟩⟩
 case round =>
  obtain ⟨i, F, P, rfl, hi, HI⟩ := hrel
  obtain ⟨wi, hwi⟩ : ∃ wi, wi = wr := ⟨_, rfl⟩
  rw [← hwi] at HI ⊢
  clear hwi HS5
  by_cases hit : i < 2
  ·have hit2 : (i : Int) < 2 := by omega
   obtain ⟨b1, M1, b2, M2, h12, hS6, C1⟩ : ∃ b1 M1 b2 M2, ((b1 = bl ∧ M1 = ML ∧ b2 = br ∧ M2 = MR ∧ i = 0) ∨ (b1 = br ∧ M1 = MR ∧ b2 = bl ∧ M2 = ML ∧ i = 1)) ∧ Sep w.heap.size w wi [thMuG KCy lfV b1 M1, thMuG KCy lfV b2 M2, thMu lfV bF F, thB g27 90 #[.map (some bl), .map (some br)]] ∧ wi.cell? ⟨g27, i, none⟩ = some (.map (some b1)) := by
    rcases (show i = 0 ∨ i = 1 by omega) with rfl | rfl
    ·exact ⟨bl, ML, br, MR, .inl ⟨rfl, rfl, rfl, rfl, rfl⟩, HI.out.1, (HI.out.1.blk 3).cell 0⟩
    ·exact ⟨br, MR, bl, ML, .inr ⟨rfl, rfl, rfl, rfl, rfl⟩, HI.out.1.permB (List.Perm.swap _ _ _), (HI.out.1.blk 3).cell 1⟩
   have hM1 : M1.length ≤ 4000 := by
    have h1 := HTB.out.1.len
    have h2 := HTB.out.2.len
    have h3 := HV.out.2.2.1
    have h4 := HV.out.2.2.2.1
    rcases h12 with h | h
    ·rw [h.2.1]; omega
    ·rw [h.2.1]; omega
   have hmu : MuG KCy lfV wi b1 M1 := hS6.at_ 0 rfl
   have HBoth := Lib.hid (fun (W : World) (h1 : MuG KCy lfV W b1 M1) (h2 : MuG KCy lfV W b2 M2) => (show MuG KCy lfV W bl ML ∧ MuG KCy lfV W br MR by
    rcases h12 with ⟨rfl, rfl, rfl, rfl, -⟩ | ⟨rfl, rfl, rfl, rfl, -⟩
    ·exact ⟨h1, h2⟩
    ·exact ⟨h2, h1⟩))
   have H12 := Lib.hid h12
   have HS6 := Lib.hid hS6
   obtain ⟨P0, hP0⟩ : ∃ Q, Q = P := ⟨_, rfl⟩
   have HF0 := Lib.hid HI.out.2
   rw [← hP0] at HF0
   clear hP0
   clear hS6 h12 HI
   go_upto_region 6 with fail
   go_wp2_with (at_range; go_must (refine step_rangeG (KC := KCy) (vE := lfV) rfl _ rfl tbU rfl hmu ?_); intro w1 hru hg1 hs1)
   go_frame
   obtain ⟨r, hr⟩ : ∃ r, r = wi.heap.size := ⟨_, rfl⟩
   rw [← hr] at hru ⊢
   have hS7 : Sep w.heap.size w w1 [thRuG KCy lfV b1 r M1 (fun _ => true), thMuG KCy lfV b2 M2, thMu lfV bF F, thB g27 90 #[.map (some bl), .map (some br)]] :=
    HS6.out.call (t' := thRuG KCy lfV b1 r M1 (fun _ => true)) 0 rfl (Tou.of_grown hg1 (fun j e => by cases e)) hru (fun j hj => by
     rcases hj with hj | hj
     ·exact .inl hj
     ·exact .inr (by rw [hj, hr]; exact Nat.le_refl _))
   have HS7 := Lib.hid hS7
   clear hS7 hr hru hg1 hs1 hmu C1
   go_loopg [10, 11, 12, 13, 14, 15, 16] ((M1.filter fun p => (fun _ => true : KyD → Bool) p.1).length) (fun gh s10 s11 s12 s13 s14 s15 s16 wr => ∃ (F : List (Nat × LfD)) (P : KyD → Prop) (lf : KyD → Bool), Hid (Sep w.heap.size w wr [thRuG KCy lfV b1 r M1 lf, thMuG KCy lfV b2 M2, thMu lfV bF F, thB g27 90 #[.map (some bl), .map (some br)]] ∧ FirI l m P F ∧ (∀ p ∈ M1, lf p.1 = false → P p.1) ∧ (∀ j, P0 j → P j) ∧ (M1.filter fun p => lf p.1).length = gh ∧ F.length + gh ≤ 4000 * i + 4000))
   case atStart => exact ⟨F, P0, _, Lib.hid ⟨HS7.out, HF0.out.1, fun p hp h => (by cases h), fun j h => h, rfl, by
    have h1 := HF0.out.2.2.2
    have h2 : (M1.filter fun p => (fun _ => true : KyD → Bool) p.1).length ≤ M1.length := List.length_filter_le _ _
    omega⟩⟩
   case round =>
    obtain ⟨F, P, lf, HR⟩ := hrel
    clear HS7
    obtain ⟨wj, hwj⟩ : ∃ wj, wj = wr := ⟨_, rfl⟩
    rw [← hwj] at HR ⊢
    clear hwj
    have hru : RuG KCy lfV wj b1 r M1 lf := HR.out.1.at_ 0 rfl
    go_wp2_with (at_next; go_must (refine step_nextG (KC := KCy) (vE := lfV) rfl _ rfl rfl hru ?_ ?_))
    ·intro hl0
     have HD : Hid (∀ p ∈ M1, lf p.1 = false) := Lib.hid fun p hp => hl0 p.1.1 p.1.2 p.2.1 p.2.2.1 p.2.2.2.1 p.2.2.2.2 hp
     clear hl0 hru
     go_wp2_with fail
     go_roundw
     case measure => simp [intOf]; omega
     case rel =>
      have hS8 : Sep w.heap.size w wj [thMuG KCy lfV b1 M1, thMuG KCy lfV b2 M2, thMu lfV bF F, thB g27 90 #[.map (some bl), .map (some br)]] := HR.out.1.call (t' := thMuG KCy lfV b1 M1) 0 rfl (Tou.refl _ _) (RuG.mu (HR.out.1.at_ 0 rfl)) (fun j hj => .inl (.inl hj))
      have hlen : F.length ≤ 4000 * (i + 1) := by have := HR.out.2.2.2.2.2; omega
      have hall : ∀ p ∈ M1, P p.1 := fun p hp => HR.out.2.2.1 p hp (HD.out p hp)
      rcases H12.out with ⟨e1, e2, e3, e4, e5⟩ | ⟨e1, e2, e3, e4, e5⟩
      ·subst e1 e2 e3 e4 e5
       exact ⟨1, F, P, by go_num, by omega, Lib.hid ⟨hS8, HR.out.2.1, fun _ => hall, fun h => absurd h (by decide), hlen⟩⟩
      ·subst e1 e2 e3 e4 e5
       exact ⟨2, F, P, by go_num, by omega, Lib.hid ⟨hS8.permB (List.Perm.swap _ _ _), HR.out.2.1, fun _ p hp => HR.out.2.2.2.1 _ (HF0.out.2.1 (by decide) p hp), fun _ => hall, hlen⟩⟩
    ·intro ka kb ca cb cc cs w2 hm hlk hru2 hg2 hs2 hen
     have S2 : Sep w.heap.size w w2 [thRuG KCy lfV b1 r M1 (offG lf (ka, kb)), thMuG KCy lfV b2 M2, thMu lfV bF F, thB g27 90 #[.map (some bl), .map (some br)]] :=
      HR.out.1.call (t' := thRuG KCy lfV b1 r M1 (offG lf (ka, kb))) 0 rfl (Tou.of_grown hg2 (fun j e => by injection e with e; exact .inr e.symm)) hru2 (fun j hj => .inl hj)
     have hkok : ka < 4294967296 ∧ kb < 4294967296 := (RuG.mu hru).keys _ hm
     have hless := leftG_less hm hlk
     have hKin : ∃ p ∈ M1, p.1 = (ka, kb) := ⟨_, hm, rfl⟩
     have hPn : ∀ p ∈ M1, (offG lf (ka, kb)) p.1 = false → addP P (ka, kb) p.1 := fun p hp h => by
      rcases offG_false h with e | e
      ·exact .inl (HR.out.2.2.1 p hp e)
      ·exact .inr e
     have HK := Lib.hid (And.intro hless (And.intro hKin hPn))
     have hen2 : (Instr.entry (.pointer (some ⟨r, 0, none⟩))).run Tryz.prog w2 = .ok (.tuple #[.agg #[.int .u32 ((ka : Nat) : Int), .int .u32 ((kb : Nat) : Int)], .agg #[.int .u32 ((ca : Nat) : Int), .int .u32 ((cb : Nat) : Int), .int .u32 ((cc : Nat) : Int), .int .u64 ((cs : Nat) : Int)]]) w2 := hen
     obtain ⟨ka9, kb9⟩ := hkok
     have S3 := S2.box #[.int .u32 ((ka : Nat) : Int), .int .u32 ((kb : Nat) : Int)] 94
     clear hru hm hlk hru2 hg2 hs2 hen hless hKin hPn S2
     go_upto_region 9 with fail
     generalize hV9 : World.alloc _ _ = V9 at S3 ⊢
     obtain ⟨g10, hg10⟩ : ∃ g, g = w2.heap.size := ⟨_, rfl⟩
     rw [← hg10] at S3 ⊢
     have D10 := cells_say (S3.blk 0) _ 0 rfl
     simp only [cellsSay, List.drop_zero, Nat.reduceAdd, and_true] at D10
     have hB9 := HBoth.out V9 (RuG.mu (S3.at_ 1 rfl)) (S3.at_ 2 rfl)
     have hk1 := MuG.look hB9.1 tbU (lfZ V9) (ka, kb) ⟨ka9, kb9⟩
     rw [HTB.out.1.look] at hk1
     have HS3 := Lib.hid S3
     clear hen2 hV9 hg10 hB9 S3
     have hboth : findL l (ka, kb) ≠ none ∨ findL m (ka, kb) ≠ none := by
      obtain ⟨p, hp, hpk⟩ := HK.out.2.1
      have hnd : ∀ (ll : List LfD) (MM : List (KyD × LfD)), TabI ll MM → p ∈ MM → findL ll (ka, kb) ≠ none := fun ll MM hT hp2 e => by
       rw [← hT.look] at e
       exact lookG_none.1 e p hp2 hpk
      rcases H12.out with ⟨-, e2, -⟩ | ⟨-, e2, -⟩
      ·exact .inl (hnd l ML HTB.out.1 (by rw [← e2]; exact hp))
      ·exact .inr (hnd m MR HTB.out.2 (by rw [← e2]; exact hp))
     have HBo := Lib.hid hboth
     clear hboth
     cases hfx : findL l (ka, kb) with
     | some x =>
      obtain ⟨xa, xb, xc, xs⟩ := x
      rw [hfx] at hk1
      cases hfy : findL m (ka, kb) with
      | some y =>
       obtain ⟨ya, yb, yc, ys⟩ := y
       have hl1 : (Instr.lookup TBT (.map (some bl)) (.agg #[.int .u32 ((ka : Nat) : Int), .int .u32 ((kb : Nat) : Int)]) true).run Tryz.prog V9 = .ok (.tuple #[.agg #[.int .u32 ((xa : Nat) : Int), .int .u32 ((xb : Nat) : Int), .int .u32 ((xc : Nat) : Int), .int .u64 ((xs : Nat) : Int)], .bool true]) V9 := hk1
       have S4 := HS3.out.box #[.int .u32 ((xa : Nat) : Int), .int .u32 ((xb : Nat) : Int), .int .u32 ((xc : Nat) : Int), .int .u64 ((xs : Nat) : Int)] 57
       clear hk1
       go_upto_region 10 with fail
       generalize hVa : World.alloc _ _ = Va at S4 ⊢
       obtain ⟨g11, hg11⟩ : ∃ g, g = V9.heap.size := ⟨_, rfl⟩
       rw [← hg11] at S4 ⊢
       clear D10 hl1
       have D10 := cells_say (S4.blk 1) _ 0 rfl
       simp only [cellsSay, List.drop_zero, Nat.reduceAdd, and_true] at D10
       have hBa := HBoth.out Va (RuG.mu (S4.at_ 2 rfl)) (S4.at_ 3 rfl)
       have hk2 := MuG.look hBa.2 tbU (lfZ Va) (ka, kb) ⟨ka9, kb9⟩
       rw [HTB.out.2.look, hfy] at hk2
       have hl2 : (Instr.lookup TBT (.map (some br)) (.agg #[.int .u32 ((ka : Nat) : Int), .int .u32 ((kb : Nat) : Int)]) true).run Tryz.prog Va = .ok (.tuple #[.agg #[.int .u32 ((ya : Nat) : Int), .int .u32 ((yb : Nat) : Int), .int .u32 ((yc : Nat) : Int), .int .u64 ((ys : Nat) : Int)], .bool true]) Va := hk2
       have HXY := Lib.hid (And.intro hfx hfy)
       have S5 := S4.box #[.int .u32 ((ya : Nat) : Int), .int .u32 ((yb : Nat) : Int), .int .u32 ((yc : Nat) : Int), .int .u64 ((ys : Nat) : Int)] 57
       clear hk2 hBa hfx hfy S4 hVa hg11
       go_upto_region 11 with fail
       generalize hVb : World.alloc _ _ = Vb at S5 ⊢
       obtain ⟨g13, hg13⟩ : ∃ g, g = Va.heap.size := ⟨_, rfl⟩
       rw [← hg13] at S5 ⊢
       clear D10 hl2
       have D11 := cells_say (S5.blk 1) _ 0 rfl
       have D13 := cells_say (S5.blk 0) _ 0 rfl
       simp only [cellsSay, List.drop_zero, Nat.reduceAdd, and_true] at D11 D13
       have HS5 := Lib.hid S5
       clear hVb hg13 S5
       have hQ := eqLf_run (xa, xb, xc, xs) (ya, yb, yc, ys)
       simp only at hQ
       by_cases hxy : (xa, xb, xc, xs) = (ya, yb, yc, ys)
       ·rw [decide_eq_true hxy] at hQ
        have hnd : ¬ Dif l m (ka, kb) := fun h => h (by rw [HXY.out.1, HXY.out.2, hxy])
        have HN := Lib.hid hnd
        clear hnd hxy
        go_wp2_with fail
        go_roundg ((M1.filter fun p => (offG lf (ka, kb)) p.1).length)
        case measure => exact Nat.lt_of_lt_of_eq HK.out.1 HR.out.2.2.2.2.1
        case rel =>
         refine ⟨F, addP P (ka, kb), _, Lib.hid ⟨HS5.out.tail.tail.tail, HR.out.2.1.same HN.out, HK.out.2.2, fun j h => .inl (HR.out.2.2.2.1 j h), rfl, ?_⟩⟩
         have h1 := HK.out.1
         have h2 := HR.out.2.2.2.2.2
         have h3 := HR.out.2.2.2.2.1
         skip
         omega
       ·rw [decide_eq_false hxy] at hQ
        have hD : Dif l m (ka, kb) := fun h => hxy (by rw [HXY.out.1, HXY.out.2] at h; injection h)
        have hcn : cntL l (ka, kb) = xc := by unfold cntL; rw [HXY.out.1]; rfl
        have HD := Lib.hid (And.intro hD hcn)
        clear hD hcn hxy
        have hmF : Mu lfV Vb bF F := HS5.out.at_ 5 rfl
        have hk3 := Mu.look hmF fmU (lfZ Vb) ka ka9
        have D10 := cells_say (HS5.out.blk 2) _ 0 rfl
        simp only [cellsSay, List.drop_zero, Nat.reduceAdd, and_true] at D10
        clear hmF
        cases hlo : lookM F ka with
        | none =>
         rw [hlo] at hk3
         have hl3 : (Instr.lookup FMT (.map (some bF)) (.int .u32 ((ka : Nat) : Int)) true).run Tryz.prog Vb = .ok (.tuple #[.agg #[.int .u32 0, .int .u32 0, .int .u32 0, .int .u64 0], .bool false]) Vb := hk3
         have HL := Lib.hid hlo
         have S6 := HS5.out.box #[.int .u32 0, .int .u32 0, .int .u32 0, .int .u64 0] 57
         clear hk3 hlo
         go_upto_region 13 with fail
         generalize hVc : World.alloc _ _ = Vc at S6 ⊢
         obtain ⟨g15, hg15⟩ : ∃ g, g = Vb.heap.size := ⟨_, rfl⟩
         rw [← hg15] at S6 ⊢
         clear D10 D11 D13 hl3 hVc hg15
         have D10 := cells_say (S6.blk 3) _ 0 rfl
         have D11 := cells_say (S6.blk 2) _ 0 rfl
         have D15 := cells_say (S6.blk 0) _ 0 rfl
         simp only [cellsSay, List.drop_zero, Nat.reduceAdd, and_true] at D10 D11 D15
         have hmF : Mu lfV Vc bF F := S6.at_ 6 rfl
         have hFl : F.length < maxLen := by
          have h2 := HR.out.2.2.2.2.2
          unfold maxLen
          omega
         have HS6 := Lib.hid S6
         clear S6
         go_wp2_with (at_mapUpdate; go_must (refine step_putU (vE := lfV) rfl _ _ _ rfl fmU rfl hmF hFl ka ka9 rfl (ka, kb, xc, 0) rfl ?_); intro w5 hm5 hg5)
         go_roundg ((M1.filter fun p => (offG lf (ka, kb)) p.1).length)
         case measure => exact Nat.lt_of_lt_of_eq HK.out.1 HR.out.2.2.2.2.1
         case rel =>
          refine ⟨putM F ka (ka, kb, xc, 0), addP P (ka, kb), _, Lib.hid ⟨(HS6.out.call (t' := thMu lfV bF (putM F ka (ka, kb, xc, 0))) 6 rfl (Tou.of_grown hg5 (fun j e => by injection e with e; exact e.symm)) hm5 (fun j hj => .inl hj)).tail.tail.tail.tail, (by have h9 := HR.out.2.1.new HD.out.1 (fun v hv => by rw [HL.out] at hv; cases hv); rw [HD.out.2] at h9; exact h9), HK.out.2.2, fun j h => .inl (HR.out.2.2.2.1 j h), rfl, ?_⟩⟩
          have h1 := HK.out.1
          have h2 := HR.out.2.2.2.2.2
          have h3 := HR.out.2.2.2.2.1
          have h4 := putM_len F ka (ka, kb, xc, 0)
          omega
        | some v =>
         obtain ⟨va, vb, vc, vs⟩ := v
         rw [hlo] at hk3
         have hl3 : (Instr.lookup FMT (.map (some bF)) (.int .u32 ((ka : Nat) : Int)) true).run Tryz.prog Vb = .ok (.tuple #[.agg #[.int .u32 ((va : Nat) : Int), .int .u32 ((vb : Nat) : Int), .int .u32 ((vc : Nat) : Int), .int .u64 ((vs : Nat) : Int)], .bool true]) Vb := hk3
         have HL := Lib.hid hlo
         have S6 := HS5.out.box #[.int .u32 ((va : Nat) : Int), .int .u32 ((vb : Nat) : Int), .int .u32 ((vc : Nat) : Int), .int .u64 ((vs : Nat) : Int)] 57
         clear hk3 hlo
         by_cases hlt : kb < vb
         ·have hd : decide (kb < vb) = true := decide_eq_true hlt
          have hd2 : (kb : Int) < (vb : Int) := by omega
          have HLt := Lib.hid hlt
          clear hlt
          go_upto_region 13 with fail
          generalize hVc : World.alloc _ _ = Vc at S6 ⊢
          obtain ⟨g15, hg15⟩ : ∃ g, g = Vb.heap.size := ⟨_, rfl⟩
          rw [← hg15] at S6 ⊢
          clear D10 D11 D13 hl3 hVc hg15
          have D10 := cells_say (S6.blk 3) _ 0 rfl
          have D11 := cells_say (S6.blk 2) _ 0 rfl
          have D15 := cells_say (S6.blk 0) _ 0 rfl
          simp only [cellsSay, List.drop_zero, Nat.reduceAdd, and_true] at D10 D11 D15
          have hmF : Mu lfV Vc bF F := S6.at_ 6 rfl
          have hFl : F.length < maxLen := by
           have h2 := HR.out.2.2.2.2.2
           unfold maxLen
           omega
          have HS6 := Lib.hid S6
          clear S6
          go_wp2_with (at_mapUpdate; go_must (refine step_putU (vE := lfV) rfl _ _ _ rfl fmU rfl hmF hFl ka ka9 rfl (ka, kb, xc, 0) rfl ?_); intro w5 hm5 hg5)
          go_roundg ((M1.filter fun p => (offG lf (ka, kb)) p.1).length)
          case measure => exact Nat.lt_of_lt_of_eq HK.out.1 HR.out.2.2.2.2.1
          case rel =>
           refine ⟨putM F ka (ka, kb, xc, 0), addP P (ka, kb), _, Lib.hid ⟨(HS6.out.call (t' := thMu lfV bF (putM F ka (ka, kb, xc, 0))) 6 rfl (Tou.of_grown hg5 (fun j e => by injection e with e; exact e.symm)) hm5 (fun j hj => .inl hj)).tail.tail.tail.tail, (by have h9 := HR.out.2.1.new HD.out.1 (fun v hv => by rw [HL.out] at hv; injection hv with hv; rw [← hv]; exact Nat.le_of_lt HLt.out); rw [HD.out.2] at h9; exact h9), HK.out.2.2, fun j h => .inl (HR.out.2.2.2.1 j h), rfl, ?_⟩⟩
           have h1 := HK.out.1
           have h2 := HR.out.2.2.2.2.2
           have h3 := HR.out.2.2.2.2.1
           have h4 := putM_len F ka (ka, kb, xc, 0)
           omega
         ·have hd : decide (kb < vb) = false := decide_eq_false hlt
          have hd2 : ¬ (kb : Int) < (vb : Int) := by omega
          have HLt := Lib.hid hlt
          clear hlt
          go_upto_region 13 with fail
          generalize hVc : World.alloc _ _ = Vc at S6 ⊢
          obtain ⟨g15, hg15⟩ : ∃ g, g = Vb.heap.size := ⟨_, rfl⟩
          rw [← hg15] at S6 ⊢
          clear D10 D11 D13 hl3 hVc hg15
          have D10 := cells_say (S6.blk 3) _ 0 rfl
          have D15 := cells_say (S6.blk 0) _ 0 rfl
          simp only [cellsSay, List.drop_zero, Nat.reduceAdd, and_true] at D10 D15
          have HS6 := Lib.hid S6
          clear S6
          go_wp2_with fail
          go_roundg ((M1.filter fun p => (offG lf (ka, kb)) p.1).length)
          case measure => exact Nat.lt_of_lt_of_eq HK.out.1 HR.out.2.2.2.2.1
          case rel =>
           refine ⟨F, addP P (ka, kb), _, Lib.hid ⟨HS6.out.tail.tail.tail.tail, HR.out.2.1.low HL.out (Nat.le_of_not_lt HLt.out), HK.out.2.2, fun j h => .inl (HR.out.2.2.2.1 j h), rfl, ?_⟩⟩
           have h1 := HK.out.1
           have h2 := HR.out.2.2.2.2.2
           have h3 := HR.out.2.2.2.2.1
           skip
           omega
      | none =>
       have hl1 : (Instr.lookup TBT (.map (some bl)) (.agg #[.int .u32 ((ka : Nat) : Int), .int .u32 ((kb : Nat) : Int)]) true).run Tryz.prog V9 = .ok (.tuple #[.agg #[.int .u32 ((xa : Nat) : Int), .int .u32 ((xb : Nat) : Int), .int .u32 ((xc : Nat) : Int), .int .u64 ((xs : Nat) : Int)], .bool true]) V9 := hk1
       have S4 := HS3.out.box #[.int .u32 ((xa : Nat) : Int), .int .u32 ((xb : Nat) : Int), .int .u32 ((xc : Nat) : Int), .int .u64 ((xs : Nat) : Int)] 57
       clear hk1
       go_upto_region 10 with fail
       generalize hVa : World.alloc _ _ = Va at S4 ⊢
       obtain ⟨g11, hg11⟩ : ∃ g, g = V9.heap.size := ⟨_, rfl⟩
       rw [← hg11] at S4 ⊢
       clear D10 hl1
       have D10 := cells_say (S4.blk 1) _ 0 rfl
       simp only [cellsSay, List.drop_zero, Nat.reduceAdd, and_true] at D10
       have hBa := HBoth.out Va (RuG.mu (S4.at_ 2 rfl)) (S4.at_ 3 rfl)
       have hk2 := MuG.look hBa.2 tbU (lfZ Va) (ka, kb) ⟨ka9, kb9⟩
       rw [HTB.out.2.look, hfy] at hk2
       have hl2 : (Instr.lookup TBT (.map (some br)) (.agg #[.int .u32 ((ka : Nat) : Int), .int .u32 ((kb : Nat) : Int)]) true).run Tryz.prog Va = .ok (.tuple #[.agg #[.int .u32 0, .int .u32 0, .int .u32 0, .int .u64 0], .bool false]) Va := hk2
       have HXY := Lib.hid (And.intro hfx hfy)
       have S5 := S4.box #[.int .u32 0, .int .u32 0, .int .u32 0, .int .u64 0] 57
       clear hk2 hBa hfx hfy S4 hVa hg11
       go_upto_region 11 with fail
       generalize hVb : World.alloc _ _ = Vb at S5 ⊢
       obtain ⟨g13, hg13⟩ : ∃ g, g = Va.heap.size := ⟨_, rfl⟩
       rw [← hg13] at S5 ⊢
       clear D10 hl2
       have D11 := cells_say (S5.blk 1) _ 0 rfl
       have D13 := cells_say (S5.blk 0) _ 0 rfl
       simp only [cellsSay, List.drop_zero, Nat.reduceAdd, and_true] at D11 D13
       have HS5 := Lib.hid S5
       clear hVb hg13 S5
       have hD : Dif l m (ka, kb) := fun h => by rw [HXY.out.1, HXY.out.2] at h; cases h
       have hcn : cntL l (ka, kb) = xc := by unfold cntL; rw [HXY.out.1]; rfl
       have HD := Lib.hid (And.intro hD hcn)
       clear hD hcn
       have hmF : Mu lfV Vb bF F := HS5.out.at_ 5 rfl
       have hk3 := Mu.look hmF fmU (lfZ Vb) ka ka9
       have D10 := cells_say (HS5.out.blk 2) _ 0 rfl
       simp only [cellsSay, List.drop_zero, Nat.reduceAdd, and_true] at D10
       clear hmF
       cases hlo : lookM F ka with
       | none =>
        rw [hlo] at hk3
        have hl3 : (Instr.lookup FMT (.map (some bF)) (.int .u32 ((ka : Nat) : Int)) true).run Tryz.prog Vb = .ok (.tuple #[.agg #[.int .u32 0, .int .u32 0, .int .u32 0, .int .u64 0], .bool false]) Vb := hk3
        have HL := Lib.hid hlo
        have S6 := HS5.out.box #[.int .u32 0, .int .u32 0, .int .u32 0, .int .u64 0] 57
        clear hk3 hlo
        go_upto_region 13 with fail
        generalize hVc : World.alloc _ _ = Vc at S6 ⊢
        obtain ⟨g15, hg15⟩ : ∃ g, g = Vb.heap.size := ⟨_, rfl⟩
        rw [← hg15] at S6 ⊢
        clear D10 D11 D13 hl3 hVc hg15
        have D10 := cells_say (S6.blk 3) _ 0 rfl
        have D11 := cells_say (S6.blk 2) _ 0 rfl
        have D15 := cells_say (S6.blk 0) _ 0 rfl
        simp only [cellsSay, List.drop_zero, Nat.reduceAdd, and_true] at D10 D11 D15
        have hmF : Mu lfV Vc bF F := S6.at_ 6 rfl
        have hFl : F.length < maxLen := by
         have h2 := HR.out.2.2.2.2.2
         unfold maxLen
         omega
        have HS6 := Lib.hid S6
        clear S6
        go_wp2_with (at_mapUpdate; go_must (refine step_putU (vE := lfV) rfl _ _ _ rfl fmU rfl hmF hFl ka ka9 rfl (ka, kb, xc, 0) rfl ?_); intro w5 hm5 hg5)
        go_roundg ((M1.filter fun p => (offG lf (ka, kb)) p.1).length)
        case measure => exact Nat.lt_of_lt_of_eq HK.out.1 HR.out.2.2.2.2.1
        case rel =>
         refine ⟨putM F ka (ka, kb, xc, 0), addP P (ka, kb), _, Lib.hid ⟨(HS6.out.call (t' := thMu lfV bF (putM F ka (ka, kb, xc, 0))) 6 rfl (Tou.of_grown hg5 (fun j e => by injection e with e; exact e.symm)) hm5 (fun j hj => .inl hj)).tail.tail.tail.tail, (by have h9 := HR.out.2.1.new HD.out.1 (fun v hv => by rw [HL.out] at hv; cases hv); rw [HD.out.2] at h9; exact h9), HK.out.2.2, fun j h => .inl (HR.out.2.2.2.1 j h), rfl, ?_⟩⟩
         have h1 := HK.out.1
         have h2 := HR.out.2.2.2.2.2
         have h3 := HR.out.2.2.2.2.1
         have h4 := putM_len F ka (ka, kb, xc, 0)
         omega
       | some v =>
        obtain ⟨va, vb, vc, vs⟩ := v
        rw [hlo] at hk3
        have hl3 : (Instr.lookup FMT (.map (some bF)) (.int .u32 ((ka : Nat) : Int)) true).run Tryz.prog Vb = .ok (.tuple #[.agg #[.int .u32 ((va : Nat) : Int), .int .u32 ((vb : Nat) : Int), .int .u32 ((vc : Nat) : Int), .int .u64 ((vs : Nat) : Int)], .bool true]) Vb := hk3
        have HL := Lib.hid hlo
        have S6 := HS5.out.box #[.int .u32 ((va : Nat) : Int), .int .u32 ((vb : Nat) : Int), .int .u32 ((vc : Nat) : Int), .int .u64 ((vs : Nat) : Int)] 57
        clear hk3 hlo
        by_cases hlt : kb < vb
        ·have hd : decide (kb < vb) = true := decide_eq_true hlt
         have hd2 : (kb : Int) < (vb : Int) := by omega
         have HLt := Lib.hid hlt
         clear hlt
         go_upto_region 13 with fail
         generalize hVc : World.alloc _ _ = Vc at S6 ⊢
         obtain ⟨g15, hg15⟩ : ∃ g, g = Vb.heap.size := ⟨_, rfl⟩
         rw [← hg15] at S6 ⊢
         clear D10 D11 D13 hl3 hVc hg15
         have D10 := cells_say (S6.blk 3) _ 0 rfl
         have D11 := cells_say (S6.blk 2) _ 0 rfl
         have D15 := cells_say (S6.blk 0) _ 0 rfl
         simp only [cellsSay, List.drop_zero, Nat.reduceAdd, and_true] at D10 D11 D15
         have hmF : Mu lfV Vc bF F := S6.at_ 6 rfl
         have hFl : F.length < maxLen := by
          have h2 := HR.out.2.2.2.2.2
          unfold maxLen
          omega
         have HS6 := Lib.hid S6
         clear S6
         go_wp2_with (at_mapUpdate; go_must (refine step_putU (vE := lfV) rfl _ _ _ rfl fmU rfl hmF hFl ka ka9 rfl (ka, kb, xc, 0) rfl ?_); intro w5 hm5 hg5)
         go_roundg ((M1.filter fun p => (offG lf (ka, kb)) p.1).length)
         case measure => exact Nat.lt_of_lt_of_eq HK.out.1 HR.out.2.2.2.2.1
         case rel =>
          refine ⟨putM F ka (ka, kb, xc, 0), addP P (ka, kb), _, Lib.hid ⟨(HS6.out.call (t' := thMu lfV bF (putM F ka (ka, kb, xc, 0))) 6 rfl (Tou.of_grown hg5 (fun j e => by injection e with e; exact e.symm)) hm5 (fun j hj => .inl hj)).tail.tail.tail.tail, (by have h9 := HR.out.2.1.new HD.out.1 (fun v hv => by rw [HL.out] at hv; injection hv with hv; rw [← hv]; exact Nat.le_of_lt HLt.out); rw [HD.out.2] at h9; exact h9), HK.out.2.2, fun j h => .inl (HR.out.2.2.2.1 j h), rfl, ?_⟩⟩
          have h1 := HK.out.1
          have h2 := HR.out.2.2.2.2.2
          have h3 := HR.out.2.2.2.2.1
          have h4 := putM_len F ka (ka, kb, xc, 0)
          omega
        ·have hd : decide (kb < vb) = false := decide_eq_false hlt
         have hd2 : ¬ (kb : Int) < (vb : Int) := by omega
         have HLt := Lib.hid hlt
         clear hlt
         go_upto_region 13 with fail
         generalize hVc : World.alloc _ _ = Vc at S6 ⊢
         obtain ⟨g15, hg15⟩ : ∃ g, g = Vb.heap.size := ⟨_, rfl⟩
         rw [← hg15] at S6 ⊢
         clear D10 D11 D13 hl3 hVc hg15
         have D10 := cells_say (S6.blk 3) _ 0 rfl
         have D15 := cells_say (S6.blk 0) _ 0 rfl
         simp only [cellsSay, List.drop_zero, Nat.reduceAdd, and_true] at D10 D15
         have HS6 := Lib.hid S6
         clear S6
         go_wp2_with fail
         go_roundg ((M1.filter fun p => (offG lf (ka, kb)) p.1).length)
         case measure => exact Nat.lt_of_lt_of_eq HK.out.1 HR.out.2.2.2.2.1
         case rel =>
          refine ⟨F, addP P (ka, kb), _, Lib.hid ⟨HS6.out.tail.tail.tail.tail, HR.out.2.1.low HL.out (Nat.le_of_not_lt HLt.out), HK.out.2.2, fun j h => .inl (HR.out.2.2.2.1 j h), rfl, ?_⟩⟩
          have h1 := HK.out.1
          have h2 := HR.out.2.2.2.2.2
          have h3 := HR.out.2.2.2.2.1
          skip
          omega
     | none =>
      rw [hfx] at hk1
      cases hfy : findL m (ka, kb) with
      | some y =>
       obtain ⟨ya, yb, yc, ys⟩ := y
       have hl1 : (Instr.lookup TBT (.map (some bl)) (.agg #[.int .u32 ((ka : Nat) : Int), .int .u32 ((kb : Nat) : Int)]) true).run Tryz.prog V9 = .ok (.tuple #[.agg #[.int .u32 0, .int .u32 0, .int .u32 0, .int .u64 0], .bool false]) V9 := hk1
       have S4 := HS3.out.box #[.int .u32 0, .int .u32 0, .int .u32 0, .int .u64 0] 57
       clear hk1
       go_upto_region 10 with fail
       generalize hVa : World.alloc _ _ = Va at S4 ⊢
       obtain ⟨g11, hg11⟩ : ∃ g, g = V9.heap.size := ⟨_, rfl⟩
       rw [← hg11] at S4 ⊢
       clear D10 hl1
       have D10 := cells_say (S4.blk 1) _ 0 rfl
       simp only [cellsSay, List.drop_zero, Nat.reduceAdd, and_true] at D10
       have hBa := HBoth.out Va (RuG.mu (S4.at_ 2 rfl)) (S4.at_ 3 rfl)
       have hk2 := MuG.look hBa.2 tbU (lfZ Va) (ka, kb) ⟨ka9, kb9⟩
       rw [HTB.out.2.look, hfy] at hk2
       have hl2 : (Instr.lookup TBT (.map (some br)) (.agg #[.int .u32 ((ka : Nat) : Int), .int .u32 ((kb : Nat) : Int)]) true).run Tryz.prog Va = .ok (.tuple #[.agg #[.int .u32 ((ya : Nat) : Int), .int .u32 ((yb : Nat) : Int), .int .u32 ((yc : Nat) : Int), .int .u64 ((ys : Nat) : Int)], .bool true]) Va := hk2
       have HXY := Lib.hid (And.intro hfx hfy)
       have S5 := S4.box #[.int .u32 ((ya : Nat) : Int), .int .u32 ((yb : Nat) : Int), .int .u32 ((yc : Nat) : Int), .int .u64 ((ys : Nat) : Int)] 57
       clear hk2 hBa hfx hfy S4 hVa hg11
       go_upto_region 11 with fail
       generalize hVb : World.alloc _ _ = Vb at S5 ⊢
       obtain ⟨g13, hg13⟩ : ∃ g, g = Va.heap.size := ⟨_, rfl⟩
       rw [← hg13] at S5 ⊢
       clear D10 hl2
       have D11 := cells_say (S5.blk 1) _ 0 rfl
       have D13 := cells_say (S5.blk 0) _ 0 rfl
       simp only [cellsSay, List.drop_zero, Nat.reduceAdd, and_true] at D11 D13
       have HS5 := Lib.hid S5
       clear hVb hg13 S5
       have hD : Dif l m (ka, kb) := fun h => by rw [HXY.out.1, HXY.out.2] at h; cases h
       have hcn : cntL l (ka, kb) = 0 := by unfold cntL; rw [HXY.out.1]; rfl
       have HD := Lib.hid (And.intro hD hcn)
       clear hD hcn
       have hmF : Mu lfV Vb bF F := HS5.out.at_ 5 rfl
       have hk3 := Mu.look hmF fmU (lfZ Vb) ka ka9
       have D10 := cells_say (HS5.out.blk 2) _ 0 rfl
       simp only [cellsSay, List.drop_zero, Nat.reduceAdd, and_true] at D10
       clear hmF
       cases hlo : lookM F ka with
       | none =>
        rw [hlo] at hk3
        have hl3 : (Instr.lookup FMT (.map (some bF)) (.int .u32 ((ka : Nat) : Int)) true).run Tryz.prog Vb = .ok (.tuple #[.agg #[.int .u32 0, .int .u32 0, .int .u32 0, .int .u64 0], .bool false]) Vb := hk3
        have HL := Lib.hid hlo
        have S6 := HS5.out.box #[.int .u32 0, .int .u32 0, .int .u32 0, .int .u64 0] 57
        clear hk3 hlo
        go_upto_region 13 with fail
        generalize hVc : World.alloc _ _ = Vc at S6 ⊢
        obtain ⟨g15, hg15⟩ : ∃ g, g = Vb.heap.size := ⟨_, rfl⟩
        rw [← hg15] at S6 ⊢
        clear D10 D11 D13 hl3 hVc hg15
        have D10 := cells_say (S6.blk 3) _ 0 rfl
        have D11 := cells_say (S6.blk 2) _ 0 rfl
        have D15 := cells_say (S6.blk 0) _ 0 rfl
        simp only [cellsSay, List.drop_zero, Nat.reduceAdd, and_true] at D10 D11 D15
        have hmF : Mu lfV Vc bF F := S6.at_ 6 rfl
        have hFl : F.length < maxLen := by
         have h2 := HR.out.2.2.2.2.2
         unfold maxLen
         omega
        have HS6 := Lib.hid S6
        clear S6
        go_wp2_with (at_mapUpdate; go_must (refine step_putU (vE := lfV) rfl _ _ _ rfl fmU rfl hmF hFl ka ka9 rfl (ka, kb, 0, 0) rfl ?_); intro w5 hm5 hg5)
        go_roundg ((M1.filter fun p => (offG lf (ka, kb)) p.1).length)
        case measure => exact Nat.lt_of_lt_of_eq HK.out.1 HR.out.2.2.2.2.1
        case rel =>
         refine ⟨putM F ka (ka, kb, 0, 0), addP P (ka, kb), _, Lib.hid ⟨(HS6.out.call (t' := thMu lfV bF (putM F ka (ka, kb, 0, 0))) 6 rfl (Tou.of_grown hg5 (fun j e => by injection e with e; exact e.symm)) hm5 (fun j hj => .inl hj)).tail.tail.tail.tail, (by have h9 := HR.out.2.1.new HD.out.1 (fun v hv => by rw [HL.out] at hv; cases hv); rw [HD.out.2] at h9; exact h9), HK.out.2.2, fun j h => .inl (HR.out.2.2.2.1 j h), rfl, ?_⟩⟩
         have h1 := HK.out.1
         have h2 := HR.out.2.2.2.2.2
         have h3 := HR.out.2.2.2.2.1
         have h4 := putM_len F ka (ka, kb, 0, 0)
         omega
       | some v =>
        obtain ⟨va, vb, vc, vs⟩ := v
        rw [hlo] at hk3
        have hl3 : (Instr.lookup FMT (.map (some bF)) (.int .u32 ((ka : Nat) : Int)) true).run Tryz.prog Vb = .ok (.tuple #[.agg #[.int .u32 ((va : Nat) : Int), .int .u32 ((vb : Nat) : Int), .int .u32 ((vc : Nat) : Int), .int .u64 ((vs : Nat) : Int)], .bool true]) Vb := hk3
        have HL := Lib.hid hlo
        have S6 := HS5.out.box #[.int .u32 ((va : Nat) : Int), .int .u32 ((vb : Nat) : Int), .int .u32 ((vc : Nat) : Int), .int .u64 ((vs : Nat) : Int)] 57
        clear hk3 hlo
        by_cases hlt : kb < vb
        ·have hd : decide (kb < vb) = true := decide_eq_true hlt
         have hd2 : (kb : Int) < (vb : Int) := by omega
         have HLt := Lib.hid hlt
         clear hlt
         go_upto_region 13 with fail
         generalize hVc : World.alloc _ _ = Vc at S6 ⊢
         obtain ⟨g15, hg15⟩ : ∃ g, g = Vb.heap.size := ⟨_, rfl⟩
         rw [← hg15] at S6 ⊢
         clear D10 D11 D13 hl3 hVc hg15
         have D10 := cells_say (S6.blk 3) _ 0 rfl
         have D11 := cells_say (S6.blk 2) _ 0 rfl
         have D15 := cells_say (S6.blk 0) _ 0 rfl
         simp only [cellsSay, List.drop_zero, Nat.reduceAdd, and_true] at D10 D11 D15
         have hmF : Mu lfV Vc bF F := S6.at_ 6 rfl
         have hFl : F.length < maxLen := by
          have h2 := HR.out.2.2.2.2.2
          unfold maxLen
          omega
         have HS6 := Lib.hid S6
         clear S6
         go_wp2_with (at_mapUpdate; go_must (refine step_putU (vE := lfV) rfl _ _ _ rfl fmU rfl hmF hFl ka ka9 rfl (ka, kb, 0, 0) rfl ?_); intro w5 hm5 hg5)
         go_roundg ((M1.filter fun p => (offG lf (ka, kb)) p.1).length)
         case measure => exact Nat.lt_of_lt_of_eq HK.out.1 HR.out.2.2.2.2.1
         case rel =>
          refine ⟨putM F ka (ka, kb, 0, 0), addP P (ka, kb), _, Lib.hid ⟨(HS6.out.call (t' := thMu lfV bF (putM F ka (ka, kb, 0, 0))) 6 rfl (Tou.of_grown hg5 (fun j e => by injection e with e; exact e.symm)) hm5 (fun j hj => .inl hj)).tail.tail.tail.tail, (by have h9 := HR.out.2.1.new HD.out.1 (fun v hv => by rw [HL.out] at hv; injection hv with hv; rw [← hv]; exact Nat.le_of_lt HLt.out); rw [HD.out.2] at h9; exact h9), HK.out.2.2, fun j h => .inl (HR.out.2.2.2.1 j h), rfl, ?_⟩⟩
          have h1 := HK.out.1
          have h2 := HR.out.2.2.2.2.2
          have h3 := HR.out.2.2.2.2.1
          have h4 := putM_len F ka (ka, kb, 0, 0)
          omega
        ·have hd : decide (kb < vb) = false := decide_eq_false hlt
         have hd2 : ¬ (kb : Int) < (vb : Int) := by omega
         have HLt := Lib.hid hlt
         clear hlt
         go_upto_region 13 with fail
         generalize hVc : World.alloc _ _ = Vc at S6 ⊢
         obtain ⟨g15, hg15⟩ : ∃ g, g = Vb.heap.size := ⟨_, rfl⟩
         rw [← hg15] at S6 ⊢
         clear D10 D11 D13 hl3 hVc hg15
         have D10 := cells_say (S6.blk 3) _ 0 rfl
         have D15 := cells_say (S6.blk 0) _ 0 rfl
         simp only [cellsSay, List.drop_zero, Nat.reduceAdd, and_true] at D10 D15
         have HS6 := Lib.hid S6
         clear S6
         go_wp2_with fail
         go_roundg ((M1.filter fun p => (offG lf (ka, kb)) p.1).length)
         case measure => exact Nat.lt_of_lt_of_eq HK.out.1 HR.out.2.2.2.2.1
         case rel =>
          refine ⟨F, addP P (ka, kb), _, Lib.hid ⟨HS6.out.tail.tail.tail.tail, HR.out.2.1.low HL.out (Nat.le_of_not_lt HLt.out), HK.out.2.2, fun j h => .inl (HR.out.2.2.2.1 j h), rfl, ?_⟩⟩
          have h1 := HK.out.1
          have h2 := HR.out.2.2.2.2.2
          have h3 := HR.out.2.2.2.2.1
          skip
          omega
      | none =>
       rcases HBo.out with h | h
       ·exact absurd hfx h
       ·exact absurd hfy h
  ·have hit2 : ¬ (i : Int) < 2 := by omega
   obtain rfl : i = 2 := by omega
   have hmF : Mu lfV wi bF F := HI.out.1.at_ 2 rfl
   have hF6 : F.length ≤ 8000 := by have := HI.out.2.2.2.2; omega
   have b1 := below_alloc wi (.cells #[.map (some bF)] FMT)
   have HK := Lib.hid (keysU_anyL bF wi)
   have HS := Lib.hid (sortedU_anyL wi.heap.size bF F (by omega) (wi.alloc (.cells #[.map (some bF)] FMT)) (by rw [World.size_alloc]; omega) ((Blk.new wi FMT #[.map (some bF)]).cell 0) ((thMu lfV bF F).below hmF b1))
   have Hb := Lib.hid b1
   have HKe := Lib.hid hmF.keys
   have HNd := Lib.hid hmF.nodup
   clear hmF b1
   go_upto_region 18 with (first | (go_at_call 27; refine HK.out.mono ?_; rintro e w5 ⟨rfl, rfl⟩) | (go_at_call 26; refine HS.out.mono ?_; rintro e w6 ⟨U6, c6, xs, rfl, hp, hr, hrow, b6⟩))
   obtain ⟨xn, hxn⟩ : ∃ n, n = xs.length := ⟨_, rfl⟩
   rw [← hxn] at hrow ⊢
   have hxn8 : xn ≤ 8000 := by rw [hxn, hp.length_eq, List.length_map]; exact hF6
   have hS7 := HI.out.1.go (Hb.out.trans (b6.mono (by rw [World.size_alloc]; omega)))
   have hap : ApR l m (firL F xs) := by
    refine ApR.of HI.out.2.1 (fun k hd => ?_) HNd.out hp hr
    have h1 := HI.out.2.2.1 (by decide)
    have h2 := HI.out.2.2.2.1 (by decide)
    cases e1 : findL l k with
    | some x =>
     obtain ⟨p, hp1, hp2⟩ := findL_mem HTB.out.1 ⟨x, e1⟩
     rw [← hp2]; exact h1 p hp1
    | none =>
     cases e2 : findL m k with
     | some x =>
      obtain ⟨p, hp1, hp2⟩ := findL_mem HTB.out.2 ⟨x, e2⟩
      rw [← hp2]; exact h2 p hp1
     | none => exact absurd (e1.trans e2.symm) hd
   have hin : ∀ x ∈ xs, ∃ v, lookM F x = some v := fun x hx => by
    obtain ⟨p, hp1, rfl⟩ := List.mem_map.1 (hp.subset hx)
    exact ⟨p.2, lookM_of_mem HNd.out hp1⟩
   have hx32 : ∀ x ∈ xs, x < 4294967296 := fun x hx => by
    obtain ⟨p, hp1, rfl⟩ := List.mem_map.1 (hp.subset hx)
    exact HKe.out p hp1
   have HX := Lib.hid (And.intro hxn (And.intro hrow (And.intro hap (And.intro hin hx32))))
   have HS7 := Lib.hid (show Sep w.heap.size w w6 [thMu lfV bF F] from hS7.tail.tail.sub (List.Sublist.cons_cons _ (List.nil_sublist _)))
   have HFs := Lib.hid (And.intro HI.out.2.1 hF6)
   clear hxn hrow hS7 hap hin hx32 hp hr b6 Hb HK HS HKe HNd HI hF6
   go_loopw [17, 19, 91] (fun s17 s19 s91 wj => ∃ (j mm cc : Nat) (U2 : Option Addr), s91 = .int .i64 (j : Nat) ∧ j ≤ xn ∧ s17 = .slice U2 mm cc ∧ mm ≤ j ∧ Hid (mm = ((firL F xs).take j).length ∧ Sep w6.heap.size w6 wj [thR 57 encLf 4 (.slice U2 mm cc) ((firL F xs).take j)]))
    (fun _ _ s91 _ => xn - (intOf s91).toNat)
   case atStart => exact ⟨0, 0, 0, none, by go_num, Nat.zero_le _, rfl, Nat.le_refl _, Lib.hid ⟨rfl, (Sep.nil (Below.refl w6.heap.size w6) (Nat.le_refl _)).addNilR 57 encLf 4⟩⟩
   case round =>
    obtain ⟨j, mm, cc, U2, rfl, hj, rfl, hmm, HJ⟩ := hrel
    obtain ⟨wj, hwj⟩ : ∃ wj, wj = wr := ⟨_, rfl⟩
    rw [← hwj] at HJ ⊢
    clear hwj
    by_cases hjx : j < xn
    ·obtain ⟨x, hx⟩ : ∃ x, xs[j]? = some x := ⟨_, List.getElem?_eq_getElem (by rw [← HX.out.1]; exact hjx)⟩
     obtain ⟨gs, hgs, -, hcs⟩ := row_at Tryz.eltU (HX.out.2.1.mono (Nat.zero_le _)) hx
     subst hgs
     have C1 : wj.cell? ⟨gs, j, none⟩ = some (.int .u32 (x : Nat)) := by
      have h1 := hcs 0 _ rfl
      rw [Nat.mul_one, Nat.add_zero] at h1
      exact (HJ.out.2.b.cell (cell_lt h1)).trans h1
     have hxm := List.mem_of_getElem? hx
     obtain ⟨v, hv⟩ := HX.out.2.2.2.1 x hxm
     have hx9 := HX.out.2.2.2.2 x hxm
     obtain ⟨va, vb, vc, vs⟩ := v
     have hlk := Mu.look1 (show Mu lfV wj bF F from (thMu lfV bF F).below (HS7.out.at_ 0 rfl) HJ.out.2.b) fmU (lfZ wj) x hx9
     rw [hv] at hlk
     have hl2 : (Instr.lookup FMT (.map (some bF)) (.int .u32 ((x : Nat) : Int)) false).run Tryz.prog wj = .ok (.agg #[.int .u32 ((va : Nat) : Int), .int .u32 ((vb : Nat) : Int), .int .u32 ((vc : Nat) : Int), .int .u64 ((vs : Nat) : Int)]) wj := hlk
     have hsn : (firL F xs).take (j + 1) = (firL F xs).take j ++ [(va, vb, vc, vs)] := by
      have hg : (firL F xs)[j]? = some (va, vb, vc, vs) := by
       unfold firL
       rw [List.getElem?_map, hx, Option.map_some, hv, Option.getD_some]
      rw [List.take_add_one, hg]
      rfl
     have hjx2 : (j : Int) < (xn : Int) := by omega
     have HSn := Lib.hid hsn
     have HSB := Lib.hid (HJ.out.2.box #[.int .u32 ((va : Nat) : Int), .int .u32 ((vb : Nat) : Int), .int .u32 ((vc : Nat) : Int), .int .u64 ((vs : Nat) : Int)] 57)
     clear hx hcs hxm hv hlk hsn
     go_upto_region 21 with (at_builtin; go_must (refine sep_app1 Tryz.eltLf rfl (.tmp 95) (.tmp 99) rfl 1 (.slice U2 mm cc) ((firL F xs).take j) (by simp [Act.eval, Act.put]) HSB.out rfl wj.heap.size 1 (va, vb, vc, vs) 57 #[.int .u32 ((va : Nat) : Int), .int .u32 ((vb : Nat) : Int), .int .u32 ((vc : Nat) : Int), .int .u64 ((vs : Nat) : Int)] rfl (HSB.out.blk 0) rfl (by unfold maxLen; rw [← HJ.out.1]; omega) (by rw [← HJ.out.1]; omega) ?_); intro g8 c8 w8 hS8; rw [← HJ.out.1] at hS8 ⊢)
     have hS9 := hS8.tail
     simp only [List.set_cons_succ, List.set_cons_zero, List.tail_cons] at hS9
     rw [← HSn.out] at hS9
     have HE := Lib.hid hS9
     clear C1 hl2 HSB hS8 hS9
     go_wp2_with fail
     go_roundw
     case measure => simp [intOf]; omega
     case rel => exact ⟨j + 1, mm + 1, c8, some ⟨g8, 0, none⟩, by go_num, by omega, rfl, by omega, Lib.hid ⟨by rw [HSn.out, List.length_append, ← HJ.out.1]; rfl, HE.out⟩⟩
    ·have hjx2 : ¬ (j : Int) < (xn : Int) := by omega
     have hjj : j = xn := by omega
     have HE := Lib.hid (show mm = (firL F xs).length ∧ Sep w6.heap.size w6 wj [thR 57 encLf 4 (.slice U2 mm cc) (firL F xs)] by
      have h1 := HJ.out
      rw [hjj, List.take_of_length_le (l := firL F xs) (by unfold firL; rw [List.length_map, ← HX.out.1]; exact Nat.le_refl _)] at h1
      exact h1)
     clear hjj HJ
     go_wp2_with fail
     go_ret
     exact ⟨U2, cc, firL F xs, by rw [← HE.out.1]; rfl, by rw [← HE.out.1]; exact HE.out.2.rebase HS7.out.b, HX.out.2.2.1⟩
end Go.Proofs.YtiliineopplinaaGreatDoor
set_option linter.unusedSimpArgs false
set_option linter.unusedVariables false
namespace Go.Proofs.YtiliineopplinaaGreatDoor
open Go.RowKit
set_option maxRecDepth 100000
theorem sep_appN {α : Type} {P : Program} {t e : TypeId} {enc : α → List Value} {sz bytes : Nat} (E : Elt P t e enc sz bytes) {w : World} {ops : Array Oper} {rest : List Oper} {o : Oper} {a : Act} {Q : Exit → Act → World → Prop} (hgd : o.guard = none) (s x : Operand)
  (ho : o.op = .call { callee := .builtin .append, args := #[s, x], argTypes := #[t, t] })
  {B : Nat} {w0 : World} {ts : List Kt} (i : Nat) (v : Value) (L : List α) (hs : a.eval s = v) (h : Sep B w0 w ts) (hi : ts[i]? = some (thR e enc sz v L)) (A : Option Addr) (c : Nat) (l : List α) (hl0 : 0 < l.length)
  (hx : a.eval x = .slice A l.length c) (hb : Rw w enc sz A l) (hlen : L.length + l.length ≤ maxLen) (hbytes : (L.length + l.length) * bytes ≤ 140737488355328)
  (hK : ∀ g' c' w', Sep B w0 w' (ts.set i (thR e enc sz (.slice (some ⟨g', 0, none⟩) (L.length + l.length) c') (L ++ l))) → wpList P ops Q rest (a.put o.dst (.slice (some ⟨g', 0, none⟩) (L.length + l.length) c')) w') : wpList P ops Q (o :: rest) a w := by
 obtain ⟨z, hinfo, hzs⟩ := E.info
 obtain ⟨iv, hiv, hz, hsz, hby⟩ := info_parts hinfo
 have hown : OwnR w 0 e enc sz v L := h.at_ i hi
 obtain ⟨y0, hy0⟩ : ∃ y, l[0]? = some y := ⟨_, List.getElem?_eq_getElem hl0⟩
 obtain ⟨p, o0, hA0, -⟩ := hb 0 y0 hy0
 subst hA0
 refine wpList_append_lies (P := P) w hgd s x t ho 0 e iv z sz bytes E.under hiv hz hsz hby hzs E.pos v L.length (L.flatMap enc) hs hown ⟨p, o0, none⟩ l.length c (l.flatMap enc) hx (flat_length enc sz E.len l) ?_ ?_ hl0 hlen hbytes (Nat.zero_le _) w.heap.size rfl ?_
 ·intro j u hj
  obtain ⟨y, hy, hu⟩ := flat_at enc sz E.pos E.len l j u hj
  obtain ⟨p2, o2, hA, hc⟩ := hb _ y hy
  injection hA with e
  injection e with e1 e2
  subst e1 e2
  have h1 := hc _ u hu
  rw [Nat.add_assoc, Nat.mul_comm, Nat.div_add_mod] at h1
  unfold Addr.add
  split
  ·rename_i h0; subst h0; simpa using h1
  ·exact h1
 ·intro u hu
  obtain ⟨y, _, hy⟩ := List.mem_flatMap.1 hu
  exact E.one y u hy
 ·intro g' c' w' h2 h3 h4 h5
  refine hK g' c' w' (h.call (t' := thR e enc sz (.slice (some ⟨g', 0, none⟩) (L.length + l.length) c') (L ++ l)) i hi (Tou.of_grown h3 (fun j e => e)) ?_ (fun j hj => ?_))
  ·show OwnR w' 0 e enc sz _ (L ++ l)
   unfold OwnR
   rw [List.length_append, List.flatMap_append]
   exact h2
  ·injection (show some g' = some j from hj) with hj
   subst hj
   rcases h4 with h4 | h4
   ·exact .inl h4
   ·exact .inr (by omega)
theorem rw_dropG {α : Type} {w : World} {enc : α → List Value} {sz g : Nat} {l : List α} (h : Rw w enc sz (some ⟨g, 0, none⟩) l) (k : Nat) : Rw w enc sz (some ⟨g, k * sz, none⟩) (l.drop k) := fun i x hi => by
 rw [List.getElem?_drop] at hi
 obtain ⟨p, o, hp, hc⟩ := h (k + i) x hi
 injection hp with hp
 injection hp with e1 e2
 subst e1 e2
 refine ⟨_, _, rfl, fun j v hj => ?_⟩
 have h1 := hc j v hj
 rw [Nat.zero_add, Nat.add_mul] at h1
 exact h1
theorem run_restF (g n c k : Nat) (hk : k < n) (hc : n ≤ c) (w : World) : (Instr.slice 28 (.slice (some ⟨g, 0, none⟩) n c) (some (.int .i64 k)) none none).run Tryz.prog w = .ok (.slice (some ⟨g, k * 11, none⟩) (n - k) (c - k)) w := by
 have hi : (Tryz.prog.info? 43).map (fun i => i.size) = some 11 := by kernel_rfl
 rw [run_slice_l w 28 (some ⟨g, 0, none⟩) n c Tryz.underlying28 .i64 (k : Nat) (by omega) (by omega)]
 have hs : (sizeOf (Tryz.prog.elem 28)).run Tryz.prog w = .ok 11 w := by
  have e : Tryz.prog.elem 28 = 43 := by kernel_rfl
  rw [e]
  obtain ⟨i, h1, h2⟩ := Option.map_eq_some_iff.1 hi
  simp [sizeOf, typeInfo, h1, h2]
 rw [hs]
 simp only [Result.andThen, sliced, Int.toNat_natCast]
 rw [if_neg (by omega)]
 simp [Addr.add] <;> omega
def uE (_ : Unit) : Value := .agg #[]
abbrev KNT : TypeId := 60
theorem knU : Tryz.prog.underlying KNT = some (.map KCl.K 61) := Tryz.underlying60
theorem unZ (w : World) : (zeroValue 61).run Tryz.prog w = .ok (uE ()) w := by kernel_rfl
structure KnI (l : List LfD) (K : List (LfD × Unit)) : Prop where
 look : ∀ x, (lookMG K x).isSome = decide (x ∈ l)
 len : K.length ≤ l.length
theorem KnI.nil : KnI [] [] := ⟨fun x => rfl, Nat.le_refl _⟩
theorem KnI.put {l : List LfD} {K : List (LfD × Unit)} (h : KnI l K) (x : LfD) : KnI (l ++ [x]) (putMG K x ()) := by
 refine ⟨fun y => ?_, ?_⟩
 ·rw [look_putG]
  by_cases e : y = x
  ·rw [if_pos e, e]; simp
  ·rw [if_neg e, h.look y]; simp [e]
 ·have h1 := h.len
  unfold putMG
  rw [List.length_append, List.length_singleton]
  split
  ·rw [List.length_map]; omega
  ·rw [List.length_append, List.length_singleton]; omega
end Go.Proofs.YtiliineopplinaaGreatDoor
set_option linter.unusedSimpArgs false
set_option linter.unusedVariables false
namespace Go.Proofs.YtiliineopplinaaGreatDoor
open Go.RowKit
set_option maxRecDepth 100000
abbrev frV (se fc cn : Nat) (cb : Bool) (A : Option Addr) (c pl bl : Nat) : Value := .agg #[.int .u8 0, .int .u32 0, .int .u32 (se : Nat), .int .u32 (fc : Nat), .int .u32 0, .int .u32 0, .int .u32 (cn : Nat), .bool cb, .int .u64 0, .slice A pl c, .int .i64 (bl : Nat)]
set_option maxHeartbeats 4000000 in
theorem lk1_any {B : Nat} {w0 w : World} {ts : List Kt} (q1 bK : Nat) (K : List (LfD × Unit)) (h : Sep B w0 w (thMuG KCl uE bK K :: thB q1 KNT #[.map (some bK)] :: ts)) (se fc cn : Nat) (cb : Bool) (A : Option Addr) (c : Nat) (M : List Bool) (hb : Bs w A (pack M)) (hL : M.length ≤ 146000) (h1 : se < 4294967296) (h2 : fc < 4294967296) (h3 : cn < 4294967296) :
  Calls Tryz.prog 18 #[frV se fc cn cb A c (pack M).length M.length, .pointer (some ⟨q1, 0, none⟩)] w fun e w' => e = .returned (.bool (!(lookMG K (se, fc, cn, moreR 0 M)).isSome)) ∧ Below w.heap.size w w' := by
 have hmx : Tryz.prog.follows .mixedOrders = true := by kernel_rfl
 have hZ9 : moreR 0 M < 2305843009213693951 := moreR_lt _ _
 have hLf0 := fun (W : World) (hW : Below w.heap.size w W) => leafOf_any 0 0 se fc 0 0 cn cb 0 A c M W (hb.below hW) hL
 obtain ⟨pl, hpl⟩ : ∃ n, n = (pack M).length := ⟨_, rfl⟩
 obtain ⟨ml, hml⟩ : ∃ n, n = M.length := ⟨_, rfl⟩
 obtain ⟨Z, hZ⟩ : ∃ Z, Z = moreR 0 M := ⟨_, rfl⟩
 rw [← hpl, ← hml, ← hZ] at hLf0
 rw [← hpl, ← hml, ← hZ]
 rw [← hZ] at hZ9
 have HLf0 := Lib.hid hLf0
 obtain ⟨is, his⟩ : ∃ b, b = (lookMG K (se, fc, cn, Z)).isSome := ⟨_, rfl⟩
 rw [← his]
 have hS := h.box #[.int .u8 0, .int .u32 0, .int .u32 (se : Nat), .int .u32 (fc : Nat), .int .u32 0, .int .u32 0, .int .u32 (cn : Nat), .bool cb, .int .u64 0, .slice A pl c, .int .i64 (ml : Nat)] 43
 have bW := below_alloc w (.cells #[.int .u8 0, .int .u32 0, .int .u32 (se : Nat), .int .u32 (fc : Nat), .int .u32 0, .int .u32 0, .int .u32 (cn : Nat), .bool cb, .int .u64 0, .slice A pl c, .int .i64 (ml : Nat)] 43)
 have HI0 := Lib.hid his
 have hzok : lfOkK (se, fc, cn, Z) := ⟨h1, h2, h3, by show Z < _; omega⟩
 have HZ := Lib.hid hzok
 clear hb hL hpl hml hZ hLf0 his hZ9 h hzok
 go_enter Tryz.func18, Tryz.ntmps18
 go_upto_region 1 with fail
 generalize hV : World.alloc _ _ = V at hS bW ⊢
 obtain ⟨g2, hg2⟩ : ∃ g, g = w.heap.size := ⟨_, rfl⟩
 rw [← hg2] at hS ⊢
 obtain ⟨I, hI⟩ : ∃ I : Rec → World → Prop, ∀ E' W, I E' W ↔ Below V.heap.size V W := ⟨_, fun _ _ => Iff.rfl⟩
 have hI0 : I (fun _ => none) V.drew := (hI _ _).2 (Below.refl _ _).drew
 haveI : Nonempty (InvW I) := ⟨⟨_, _, hI0⟩⟩
 have hSy := fun (y : InvW I) => hS.go ((hI _ _).1 y.h)
 have e1 : ∀ y : InvW I, y.W.cell? ⟨q1, 0, none⟩ = some (.map (some bK)) := fun y => ((hSy y).blk 2).cell 0
 have C2 : ∀ y : InvW I, cellsSay y.W g2 0 [.int .u8 0, .int .u32 0, .int .u32 (se : Nat), .int .u32 (fc : Nat), .int .u32 0, .int .u32 0, .int .u32 (cn : Nat), .bool cb, .int .u64 0, .slice A pl c, .int .i64 (ml : Nat)] := fun y => cells_say ((hSy y).blk 0) _ 0 rfl
 simp only [cellsSay, Nat.reduceAdd, and_true] at C2
 have hl3 : ∀ y : InvW I, ∃ u : Value, (Instr.lookup KNT (.map (some bK)) (.agg #[.int .u32 (se : Nat), .int .u32 (fc : Nat), .int .u32 (cn : Nat), .int .u64 (Z : Nat)]) true).run Tryz.prog y.W = .ok (.tuple #[.agg #[], .bool is]) y.W := fun y => ⟨.agg #[], by
  have h1 := MuG.look (show MuG KCl uE y.W bK K from (hSy y).at_ 1 rfl) knU (unZ y.W) (se, fc, cn, Z) HZ.out
  rw [← HI0.out] at h1
  refine h1.trans ?_
  congr 3
  cases lookMG K (se, fc, cn, Z) <;> rfl⟩
 have hl4 : ∀ y : InvW I, (Instr.lookup KNT (.map (some bK)) (.agg #[.int .u32 (se : Nat), .int .u32 (fc : Nat), .int .u32 (cn : Nat), .int .u64 (Z : Nat)]) true).run Tryz.prog y.W = .ok (.tuple #[.agg #[], .bool is]) y.W := fun y => (hl3 y).elim fun _ h => h
 have HI2 := Lib.hid hI
 have HbW := Lib.hid bW
 clear hI hl3 hV hg2 hS hSy bW
 refine wp_region_inv I [[], [], [], [], [], [], [], [], [7]] [2, 7, 8] (fun k v => if k = 2 then v = .agg #[.int .u32 (se : Nat), .int .u32 (fc : Nat), .int .u32 (cn : Nat), .int .u64 (Z : Nat)] else if k = 7 then ∃ g, v = .pointer (some ⟨g, 0, none⟩) else v = undef) hmx (by kernel_rfl) hI0 ?_
 iterate 2 (refine walkJ_one rfl (by kernel_rfl) ?_; go_big_quiet_step (fail); refine wpQuiet_nil ?_)
 refine walkJ_turn rfl rfl ⟨_, rfl⟩ (fun s W1 hs h7 _ => ?_) ?_
 ·have hb1 := (HI2.out _ _).1 hs
  refine inv_call (by simp [execOp, go_sem]) ((HLf0.out W1 (HbW.out.trans (hb1.mono HbW.out.size))).mono ?_)
  rintro e w5 ⟨rfl, b5⟩
  exact ⟨_, rfl, rfl, (HI2.out _ _).2 (hb1.trans (b5.mono hb1.size))⟩
 rintro v rfl
 conv => arg 11; simp [Act.put]
 iterate 4 (refine walkJ_one rfl (by kernel_rfl) ?_; go_big_quiet_step (fail); refine wpQuiet_nil ?_)
 refine walkJ_turn rfl rfl ⟨.pointer (some ⟨0, 0, none⟩), 0, rfl⟩ (fun s W1 hs h7 _ => ?_) ?_
 ·have hb1 := (HI2.out _ _).1 hs
  have hr : ∀ w' : World, (execOp (Act.eval { tmps := #[], defers := [] }) { dst := none, op := .alloc 61, type := 0, pos := "", after := #[], guard := none }).run Tryz.prog w' = .ok (.value (.pointer (some ⟨w'.heap.size, 0, none⟩))) (w'.alloc (.cells #[] 61)) := fun w' => by simp [execOp, go_sem]
  have hr2 := hr W1
  simp only [execOp] at hr2 ⊢
  exact inv_val (W' := W1.alloc (.cells #[] 61)) (v := .pointer (some ⟨W1.heap.size, 0, none⟩)) hr2 ⟨⟨_, rfl⟩, (HI2.out _ _).2 (hb1.trans ((below_alloc W1 _).mono hb1.size))⟩
 rintro v ⟨g4, rfl⟩
 conv => arg 11; simp [Act.put]
 refine walkJ_turn rfl rfl ⟨_, rfl⟩ (fun s W1 hs h7 _ => ?_) ?_
 ·have hb1 := (HI2.out _ _).1 hs
  exact inv_skip (W' := W1) (by simp [execOp, go_sem]) ⟨rfl, (HI2.out _ _).2 hb1⟩
 rintro v rfl
 conv => arg 11; simp [Act.put]
 iterate 1 (refine walkJ_one rfl (by kernel_rfl) ?_; go_big_quiet_step (fail); refine wpQuiet_nil ?_)
 refine walkJ_end ?_
 intro wp hW'
 have HF := Lib.hid ((HI2.out _ _).1 hW')
 clear hW' HI2 hI0 e1 C2 hl4
 go_wp2_with fail
 go_ret
 exact ⟨rfl, HbW.out.trans (HF.out.mono HbW.out.size)⟩
def lkN (kn : List LfD) (x : Nat) (C : CsT) : Nat := ((List.range (chN C)).takeWhile fun j => decide (leafC x C j ∈ kn)).length
theorem lkN_at {kn : List LfD} {x : Nat} {C : CsT} {i : Nat} (hi : i < chN C) (hn : leafC x C i ∉ kn) (hb : ∀ j, j < i → leafC x C j ∈ kn) : lkN kn x C = i := by
 unfold lkN
 have e : List.range (chN C) = List.range i ++ i :: List.range' (i + 1) (chN C - (i + 1)) := by
  rw [List.range_eq_range', List.range_eq_range']
  obtain ⟨d, hd⟩ : ∃ d, chN C = i + (1 + d) := ⟨chN C - i - 1, by omega⟩
  rw [hd, ← List.range'_append_1, Nat.zero_add, Nat.add_comm 1 d, List.range'_succ, show i + (d + 1) - (i + 1) = d by omega]
 rw [e, List.takeWhile_append_of_pos (fun j hj => decide_eq_true (hb j (List.mem_range.1 hj))), List.takeWhile_cons_of_neg (by simpa using hn), List.append_nil, List.length_range]
theorem lkN_all {kn : List LfD} {x : Nat} {C : CsT} (hb : ∀ j, j < chN C → leafC x C j ∈ kn) : lkN kn x C = chN C := by
 unfold lkN
 have e : (List.range (chN C)).takeWhile (fun j => decide (leafC x C j ∈ kn)) = List.range (chN C) := by
  have h := List.takeWhile_append_of_pos (p := fun j => decide (leafC x C j ∈ kn)) (l₁ := List.range (chN C)) (l₂ := []) (fun j hj => decide_eq_true (hb j (List.mem_range.1 hj)))
  rw [List.append_nil, List.takeWhile_nil, List.append_nil] at h
  exact h
 rw [e, List.length_range]
def IdxO (w : World) (kn : List LfD) (x : Nat) (C : CsT) (e : Ending) (w' : World) : Prop := Below w.heap.size w w' ∧ ((lkN kn x C = chN C ∧ e = .returned (.int .i64 (-1))) ∨ (lkN kn x C < chN C ∧ e = .returned (.int .i64 ((lkN kn x C : Nat) : Int))))
set_option maxHeartbeats 8000000 in
theorem idxL_any {B : Nat} {w0 w : World} {ts : List Kt} (q1 bK : Nat) (K : List (LfD × Unit)) (kn : List LfD) (hK : KnI kn K) (x : Nat) (hx : x < 4294967296) (C : CsT) (oc : OkC1 C) (A : Option Addr) (c tl : Nat) (T : List FrE) (h : Sep B w0 w (thMuG KCl uE bK K :: thB q1 KNT #[.map (some bK)] :: (chT (.slice A tl c) T ++ ts))) (htl : tl = T.length) (hT1 : tl = chN C) (hTf : ∀ j y, T[j]? = some y → y.f = chFr x C j ∧ ChF C j y.f) :
  Calls Tryz.prog 17 #[.slice A tl c, .func (.func 18) #[] #[.pointer (some ⟨q1, 0, none⟩)]] w (IdxO w kn x C) := by
 have hmx : Tryz.prog.follows .mixedOrders = true := by kernel_rfl
 have HH := Lib.hid (And.intro hK (And.intro oc (And.intro h (And.intro htl (And.intro hT1 hTf)))))
 have htl1 : tl ≤ 1001 := by have := oc.few; rw [hT1]; unfold chN; split <;> omega
 clear hK oc h htl hT1 hTf
 go_enter Tryz.func17, Tryz.ntmps17
 go_wp2_with fail
 go_loopw [8] (fun s wr => ∃ k : Nat, k ≤ tl ∧ s = .int .i64 k ∧ Hid (Below w.heap.size w wr ∧ ∀ j, j < k → leafC x C j ∈ kn)) (fun s _ => tl - (intOf s).toNat)
 case atStart => exact ⟨0, Nat.zero_le _, rfl, Lib.hid ⟨Below.refl _ _, fun j hj => absurd hj (Nat.not_lt_zero _)⟩⟩
 case round =>
  obtain ⟨k, hk, rfl, HR⟩ := hrel
  obtain ⟨wj, hwj⟩ : ∃ wj, wj = wr := ⟨_, rfl⟩
  rw [← hwj] at HR ⊢
  clear hwj
  by_cases hlt : k < tl
  ·have hSj := HH.out.2.2.1.go HR.out.1
   obtain ⟨L, hL, hLn⟩ := chN_get HH.out.2.1 (k := k) (by rw [← HH.out.2.2.2.2.1]; exact hlt)
   obtain ⟨y, hy⟩ : ∃ y, T[k]? = some y := ⟨_, List.getElem?_eq_getElem (by rw [← HH.out.2.2.2.1]; exact hlt)⟩
   obtain ⟨gf, hgf, -, hc⟩ := row_at Tryz.eltFrE (hSj.at_ (t := thR 43 encFrE 11 (.slice A tl c) T) 2 rfl) hy
   have hbits := hSj.get (t := frB y) (List.mem_cons_of_mem _ (List.mem_cons_of_mem _ (List.mem_append.2 (.inl (List.mem_cons_of_mem _ (List.mem_map.2 ⟨y, List.mem_of_getElem? hy, rfl⟩))))))
   subst hgf
   have hyf := (HH.out.2.2.2.2.2 k y hy).1
   rw [chFr_eq HH.out.2.1 hL hLn] at hyf
   obtain ⟨yf, A3, c3⟩ := y
   replace hyf : yf = ⟨0, 0, x, k, 0, 0, L.length, decide (k + 1 < C.length), 0, pack (bitsL L), ((bitsL L).length : Nat)⟩ := hyf
   subst hyf
   have hb : Bs wj A3 (pack (bitsL L)) := OwnB.bs hbits
   have hLm := List.mem_of_getElem? hL
   have hbl := bits_small (HH.out.2.1.lenL hLm) (HH.out.2.1.incL hLm)
   have hll := HH.out.2.1.lenL hLm
   have hlk := lk1_any q1 bK K hSj x k L.length (decide (k + 1 < C.length)) A3 c3 (bitsL L) hb hbl hx (by omega) (by omega)
   have hlf : leafC x C k = (x, k, L.length, moreR 0 (bitsL L)) := by unfold leafC; rw [hL]; rfl
   rw [← hlf, HH.out.1.look] at hlk
   obtain ⟨pl, hpl⟩ : ∃ n, n = (pack (bitsL L)).length := ⟨_, rfl⟩
   obtain ⟨bl, hbl2⟩ : ∃ n, n = (bitsL L).length := ⟨_, rfl⟩
   obtain ⟨ln, hln⟩ : ∃ n, n = L.length := ⟨_, rfl⟩
   obtain ⟨cb, hcb⟩ : ∃ b, b = decide (k + 1 < C.length) := ⟨_, rfl⟩
   have f0 : wj.cell? ⟨gf, k * 11, none⟩ = some (.int .u8 0) := hc 0 _ rfl
   have f1 : wj.cell? ⟨gf, k * 11 + 1, none⟩ = some (.int .u32 0) := hc 1 _ rfl
   have f2 : wj.cell? ⟨gf, k * 11 + 2, none⟩ = some (.int .u32 (x : Nat)) := hc 2 _ rfl
   have f3 : wj.cell? ⟨gf, k * 11 + 3, none⟩ = some (.int .u32 (k : Nat)) := hc 3 _ rfl
   have f4 : wj.cell? ⟨gf, k * 11 + 4, none⟩ = some (.int .u32 0) := hc 4 _ rfl
   have f5 : wj.cell? ⟨gf, k * 11 + 5, none⟩ = some (.int .u32 0) := hc 5 _ rfl
   have f6 : wj.cell? ⟨gf, k * 11 + 6, none⟩ = some (.int .u32 (ln : Nat)) := by rw [hln]; exact hc 6 _ rfl
   have f7 : wj.cell? ⟨gf, k * 11 + 7, none⟩ = some (.bool cb) := by rw [hcb]; exact hc 7 _ rfl
   have f8 : wj.cell? ⟨gf, k * 11 + 8, none⟩ = some (.int .u64 0) := hc 8 _ rfl
   have f9 : wj.cell? ⟨gf, k * 11 + 9, none⟩ = some (.slice A3 pl c3) := by rw [hpl]; exact hc 9 _ rfl
   have f10 : wj.cell? ⟨gf, k * 11 + 10, none⟩ = some (.int .i64 (bl : Nat)) := by rw [hbl2]; exact hc 10 _ rfl
   rw [← hln, ← hcb, ← hpl, ← hbl2] at hlk
   have HLk := Lib.hid hlk
   have hkl : (k : Int) < (tl : Int) := by omega
   clear hL hLn hy hc hbits hb hLm hbl hll hlf hpl hbl2 hln hcb hSj hlk
   go_wp2_with fail
   refine HLk.out.mono ?_
   rintro e w2 ⟨rfl, b2⟩
   have HB := Lib.hid (HR.out.1.trans (b2.mono HR.out.1.size))
   clear b2 HLk f0 f1 f2 f3 f4 f5 f6 f7 f8 f9 f10
   by_cases hg : leafC x C k ∈ kn
   ·rw [decide_eq_true hg]
    have HG := Lib.hid hg
    clear hg
    go_wp2_with fail
    go_roundw
    case measure => simp [intOf]; omega
    case rel => exact ⟨k + 1, by omega, by go_num, Lib.hid ⟨HB.out, fun j hj => by
     rcases Nat.lt_or_ge j k with h1 | h1
     ·exact HR.out.2 j h1
     ·rw [show j = k by omega]; exact HG.out⟩⟩
   ·rw [decide_eq_false hg]
    have hN := lkN_at (by rw [← HH.out.2.2.2.2.1]; exact hlt) hg HR.out.2
    have HG := Lib.hid hN
    clear hg hN
    go_wp2_with fail
    go_ret
    exact ⟨HB.out, .inr ⟨by rw [HG.out, ← HH.out.2.2.2.2.1]; exact hlt, by rw [HG.out]; rfl⟩⟩
  ·have hkl : ¬ (k : Int) < (tl : Int) := by omega
   have hkk : k = tl := by omega
   have hN := lkN_all (kn := kn) (x := x) (C := C) (fun j hj => HR.out.2 j (by rw [hkk, HH.out.2.2.2.2.1]; exact hj))
   have HG := Lib.hid hN
   clear hN hkk
   go_wp2_with fail
   go_ret
   exact ⟨HR.out.1, .inl ⟨HG.out, rfl⟩⟩
end Go.Proofs.YtiliineopplinaaGreatDoor
set_option linter.unusedSimpArgs false
set_option linter.unusedVariables false
namespace Go.Proofs.YtiliineopplinaaGreatDoor
open Go.RowKit
set_option maxRecDepth 100000
def lackC (kn : List LfD) (x : Nat) (C : CsT) : List FrD := ((List.range (chN C)).drop (lkN kn x C)).map (chFr x C)
def lackX (kn : List LfD) (D : BD) (xs : List Nat) : List FrD := xs.flatMap fun x => lackC kn x (D.at_ x)
theorem lackX_snoc (kn : List LfD) (D : BD) (xs : List Nat) (x : Nat) : lackX kn D (xs ++ [x]) = lackX kn D xs ++ lackC kn x (D.at_ x) := by unfold lackX; simp
theorem lackC_len (kn : List LfD) (x : Nat) (C : CsT) : (lackC kn x C).length ≤ chN C := by unfold lackC; rw [List.length_map, List.length_drop, List.length_range]; omega
theorem lackX_len {kn : List LfD} {D : BD} (hD : OkD D) : ∀ xs : List Nat, (lackX kn D xs).length ≤ 1001 * xs.length
 | [] => Nat.zero_le _
 | x :: xs => by
  have h1 := lackX_len (kn := kn) hD xs
  have h2 : chN (D.at_ x) ≤ 1001 := by have := (hD.at_ x).few; unfold chN; split <;> omega
  have h3 := lackC_len kn x (D.at_ x)
  show (lackC kn x (D.at_ x) ++ lackX kn D xs).length ≤ _
  rw [List.length_append, List.length_cons]
  omega
def LkO (kn : List LfD) (D : BD) (w : World) (e : Ending) (w' : World) : Prop := ∃ U c T, e = .returned (.slice U T.length c) ∧ Sep w.heap.size w w' (chT (.slice U T.length c) T) ∧ T.map (fun y => y.f) = lackX kn D (ksD D)
theorem frames_drop {x : Nat} {C : CsT} {T : List FrE} (hl : T.length = chN C) (hf : ∀ j y, T[j]? = some y → y.f = chFr x C j) (i : Nat) : (T.drop i).map (fun y => y.f) = ((List.range (chN C)).drop i).map (chFr x C) := by
 have h : T.map (fun y => y.f) = (List.range (chN C)).map (chFr x C) := by
  refine List.ext_getElem? fun j => ?_
  rw [List.getElem?_map, List.getElem?_map]
  rcases Nat.lt_or_ge j T.length with h1 | h1
  ·rw [List.getElem?_eq_getElem h1, List.getElem?_range (by omega), Option.map_some, Option.map_some, hf j _ (List.getElem?_eq_getElem h1)]
  ·rw [List.getElem?_eq_none h1, List.getElem?_eq_none (by rw [List.length_range]; omega)]
   rfl
 rw [List.map_drop, List.map_drop, h]
set_option maxHeartbeats 32000000 in
theorem lacks_any {B : Nat} {w0 w : World} {q : Nat} {D : BD} {ts : List Kt} (h : Bk B w0 w q D ts) (V : Option Addr) (c : Nat) (kn : List LfD) (hV : Rw w encLf 4 V kn) (hok : ∀ x ∈ kn, LfOk x) (hl : kn.length ≤ 100000) :
  Calls Tryz.prog 6 #[ptB q, .slice V kn.length c] w (LkO kn D w) := by
 have hmx : Tryz.prog.follows .mixedOrders = true := by kernel_rfl
 have hk64 : (ksD D).length ≤ 64 := by rw [ksD_len]; have h1 := h.okD.few; have h2 := h.okD.mo2; omega
 obtain ⟨ln, hln⟩ : ∃ n, n = kn.length := ⟨_, rfl⟩
 have hln6 : ln ≤ 100000 := by rw [hln]; exact hl
 rw [← hln]
 have HV := Lib.hid (And.intro hV (And.intro hok hln))
 have HB := Lib.hid h
 have hS0 := ((Sep.nil (Below.refl w.heap.size w) (Nat.le_refl _)).cons (t := thMuG KCl uE w.heap.size []) (below_alloc w (.map #[] 0)) (MuG.made w) (fun k hk => by have e : k = w.heap.size := hk; omega)).box #[.map (some w.heap.size)] KNT
 rw [World.size_alloc] at hS0
 have hmm := @run_makeMap Tryz.prog
 clear hV hok hl hln h
 go_enter Tryz.func6, Tryz.ntmps6
 go_wp2_with fail
 generalize hW : World.alloc (World.alloc _ _) _ = W at hS0 ⊢
 obtain ⟨bK, hbK⟩ : ∃ b, b = w.heap.size := ⟨_, rfl⟩
 obtain ⟨g5, hg5⟩ : ∃ b, b = w.heap.size + 1 := ⟨_, rfl⟩
 have hS1 : Sep w.heap.size w W [thMuG KCl uE bK [], thB g5 KNT #[.map (some bK)]] := by rw [hbK, hg5]; exact hS0.permB (List.Perm.swap _ _ _)
 rw [← hg5]
 have HS1 := Lib.hid hS1
 clear hW hS0 hS1 hg5 hbK hmm
 go_loopw [7, 16] (fun s7 s16 wr => ∃ (i : Nat) (K : List (LfD × Unit)), s16 = .int .i64 (i : Nat) ∧ i ≤ ln ∧ Hid (Sep w.heap.size w wr [thMuG KCl uE bK K, thB g5 KNT #[.map (some bK)]] ∧ KnI (kn.take i) K))
  (fun _ s16 _ => ln - (intOf s16).toNat)
 case atStart => exact ⟨0, [], by go_num, Nat.zero_le _, Lib.hid ⟨HS1.out, KnI.nil⟩⟩
 case round =>
  obtain ⟨i, K, rfl, hi, HI⟩ := hrel
  obtain ⟨wi, hwi⟩ : ∃ wi, wi = wr := ⟨_, rfl⟩
  rw [← hwi] at HI ⊢
  clear hwi
  by_cases hit : i < ln
  ·obtain ⟨x, hx⟩ : ∃ x, kn[i]? = some x := ⟨_, List.getElem?_eq_getElem (by rw [← HV.out.2.2]; exact hit)⟩
   obtain ⟨p, o, hp, hc⟩ := HV.out.1 i x hx
   subst hp
   have hxo := HV.out.2.1 x (List.mem_of_getElem? hx)
   have hsn : kn.take (i + 1) = kn.take i ++ [x] := by rw [List.take_add_one, hx]; rfl
   obtain ⟨xa, xb, xc, xs⟩ := x
   have old : ∀ j v, (encLf (xa, xb, xc, xs))[j]? = some v → wi.cell? ⟨p, o + i * 4 + j, none⟩ = some v := fun j v hj => (HI.out.1.b.cell (cell_lt (hc j v hj))).trans (hc j v hj)
   have f0 : wi.cell? ⟨p, o + i * 4, none⟩ = some (.int .u32 (xa : Nat)) := old 0 _ rfl
   have f1 : wi.cell? ⟨p, o + i * 4 + 1, none⟩ = some (.int .u32 (xb : Nat)) := old 1 _ rfl
   have f2 : wi.cell? ⟨p, o + i * 4 + 2, none⟩ = some (.int .u32 (xc : Nat)) := old 2 _ rfl
   have f3 : wi.cell? ⟨p, o + i * 4 + 3, none⟩ = some (.int .u64 (xs : Nat)) := old 3 _ rfl
   have hit2 : (i : Int) < (ln : Int) := by omega
   have HX := Lib.hid (And.intro hsn hxo)
   have hS2 := (HI.out.1.box #[.int .u32 (xa : Nat), .int .u32 (xb : Nat), .int .u32 (xc : Nat), .int .u64 (xs : Nat)] 57)
   clear hx hc old hxo hsn
   go_upto_region 5 with fail
   generalize hV2 : World.alloc _ _ = V2 at hS2 ⊢
   obtain ⟨g7, hg7⟩ : ∃ g, g = wi.heap.size := ⟨_, rfl⟩
   rw [← hg7] at hS2 ⊢
   have D7 := cells_say (hS2.blk 0) _ 0 rfl
   have D5 := cells_say (hS2.blk 2) _ 0 rfl
   simp only [cellsSay, List.drop_zero, Nat.reduceAdd, and_true] at D7 D5
   have hm2 : MuG KCl uE V2 bK K := hS2.at_ 1 rfl
   have hMl : K.length < maxLen := by
    have h1 := HI.out.2.len
    rw [List.length_take] at h1
    unfold maxLen
    omega
   have HS2 := Lib.hid hS2
   clear f0 f1 f2 f3 hV2 hg7 hS2
   go_wp2_with (at_mapUpdate; go_must (refine step_putG (KC := KCl) (vE := uE) rfl _ _ _ rfl knU rfl hm2 hMl (xa, xb, xc, xs) HX.out.2 rfl () rfl ?_); intro w3 hm3 hg3)
   go_roundw
   case measure => simp [intOf]; omega
   case rel =>
    have hS5 := HS2.out.call (t' := thMuG KCl uE bK (putMG K (xa, xb, xc, xs) ())) 1 rfl (Tou.of_grown hg3 (fun j e => by injection e with e; exact e.symm)) hm3 (fun j hj => .inl hj)
    exact ⟨i + 1, _, by go_num, by omega, Lib.hid ⟨hS5.tail, by rw [HX.out.1]; exact HI.out.2.put _⟩⟩
  ·have hit2 : ¬ (i : Int) < (ln : Int) := by omega
   have hi2 : i = ln := by omega
   have hKn : KnI kn K := by
    have h1 := HI.out.2
    rw [hi2, HV.out.2.2, List.take_length] at h1
    exact h1
   have HKn := Lib.hid hKn
   have HSe := Lib.hid (bk_series (HB.out.go HI.out.1.b))
   have HSi := Lib.hid HI.out.1
   clear hi2 hKn HI
   go_upto_region 9 with (go_at_call 15; refine HSe.out.mono ?_; rintro e w1 ⟨U1, c1, xs, rfl, h1, h2, h3, b1⟩)
   have hxs := ksD_of h1 h2
   rw [← hxs] at hk64
   obtain ⟨n, hn⟩ : ∃ n, n = xs.length := ⟨_, rfl⟩
   rw [← hn] at h3 hk64 ⊢
   have hxk : ∀ x ∈ xs, x < 4294967296 := fun x hx => by
    obtain ⟨p, hp, rfl⟩ := List.mem_map.1 (h1.subset hx)
    exact HB.out.okD.key p hp
   have hSx : Sep w.heap.size w w1 [thMuG KCl uE bK K, thB g5 KNT #[.map (some bK)]] := HSi.out.go b1
   have HX := Lib.hid (And.intro hxs (And.intro hn (And.intro h3 (And.intro hSx hxk))))
   clear h1 h2 hxs hn h3 b1 hxk HSe hSx HSi
   go_loopw [8, 10, 11, 12, 27] (fun s8 s10 s11 s12 s27 wr => ∃ (j m cc : Nat) (U : Option Addr) (T : List FrE), s27 = .int .i64 (j : Nat) ∧ j ≤ n ∧ s8 = .slice U m cc ∧ m ≤ 1001 * j ∧ Hid (m = T.length ∧ T.map (fun y => y.f) = lackX kn D (xs.take j) ∧ Sep w1.heap.size w1 wr (chT (.slice U m cc) T)))
    (fun _ _ _ _ s27 _ => n - (intOf s27).toNat)
   case atStart => exact ⟨0, 0, 0, none, [], by go_num, Nat.zero_le _, rfl, Nat.zero_le _, Lib.hid ⟨rfl, rfl, (Sep.nil (Below.refl w1.heap.size w1) (Nat.le_refl _)).addNilR 43 encFrE 11⟩⟩
   case round =>
    obtain ⟨j, m, cc, U, T, rfl, hj, rfl, hm1, HJ⟩ := hrel
    obtain ⟨wj, hwj⟩ : ∃ wj, wj = wr := ⟨_, rfl⟩
    rw [← hwj] at HJ ⊢
    clear hwj
    by_cases hjn : j < n
    ·obtain ⟨x, hx⟩ : ∃ x, xs[j]? = some x := ⟨_, List.getElem?_eq_getElem (by rw [← HX.out.2.1]; exact hjn)⟩
     obtain ⟨gs, hgs, -, hcs⟩ := row_at Tryz.eltU (HX.out.2.2.1.mono (Nat.zero_le _)) hx
     subst hgs
     have hx32 := HX.out.2.2.2.2 x (List.mem_of_getElem? hx)
     have C1 : wj.cell? ⟨gs, j, none⟩ = some (.int .u32 (x : Nat)) := by
      have h1 := hcs 0 _ rfl
      rw [Nat.mul_one, Nat.add_zero] at h1
      exact HJ.out.2.2.old (Nat.le_refl _) h1
     have hbw : Below w.heap.size w wj := HX.out.2.2.2.1.b.trans (HJ.out.2.2.b.mono HX.out.2.2.2.1.b.size)
     obtain ⟨C, hC⟩ : ∃ C, C = D.at_ x := ⟨_, rfl⟩
     have hoc : OkC1 C := by rw [hC]; exact HB.out.okD.at_ x
     have hCh := bk_chunksS (HB.out.go hbw) x hx32
     rw [← hC] at hCh
     have HCh := Lib.hid hCh
     have hjn2 : (j : Int) < (n : Int) := by omega
     have hsn : lackX kn D (xs.take (j + 1)) = lackX kn D (xs.take j) ++ lackC kn x C := by rw [List.take_add_one, hx, hC]; exact lackX_snoc _ _ _ _
     have HC := Lib.hid (And.intro hsn hoc)
     clear hx hcs hbw hC hoc hCh hsn
     go_upto_region 12 with (go_at_call 16; refine HCh.out.mono ?_; rintro e wc ⟨Uc, nc, Tc, rfl, hSc, hTl, hTf⟩; obtain ⟨tl, htl⟩ : ∃ n, n = Tc.length := ⟨_, rfl⟩; rw [← htl] at hSc hTl ⊢; have HTl := Lib.hid (And.intro htl (And.intro hTl hTf)); clear htl hTl hTf)
     have hSn : Sep w.heap.size w wc (thMuG KCl uE bK K :: thB g5 KNT #[.map (some bK)] :: (chT (.slice Uc tl nc) Tc ++ [])) := by
      have h1 := HX.out.2.2.2.1.go (HJ.out.2.2.b.trans (hSc.b.mono HJ.out.2.2.b.size))
      have h2 := HX.out.2.2.2.1.go HJ.out.2.2.b
      have h3 := h2.consL (us := chT (.slice Uc tl nc) Tc) hSc.b (fun t ht => hSc.all t ht) hSc.ap
      rw [List.append_nil]
      exact h3.permB List.perm_append_comm
     have hSj : Sep w1.heap.size w1 wc (chT (.slice Uc tl nc) Tc ++ chT (.slice U m cc) T) := HJ.out.2.2.consL (us := chT (.slice Uc tl nc) Tc) hSc.b (fun t ht => hSc.all t ht) hSc.ap
     have HIx := Lib.hid (idxL_any g5 bK K kn HKn.out x hx32 C HC.out.2 Uc nc tl Tc hSn HTl.out.1 HTl.out.2.1 HTl.out.2.2)
     have htl1 : tl ≤ 1001 := by have := HC.out.2.few; rw [HTl.out.2.1]; unfold chN; split <;> omega
     have HSj := Lib.hid hSj
     clear hSc hSn hSj C1 HCh
     go_upto_region 13 with (go_at_call 17; refine HIx.out.mono ?_; rintro e w2 ⟨b2, hcase⟩; rcases hcase with ⟨hN, rfl⟩ | ⟨hN, rfl⟩)
     ·have HS2 := Lib.hid (HSj.out.go b2)
      have HN := Lib.hid hN
      clear b2 hN HIx HSj
      go_wp2_with fail
      go_roundw
      case measure => simp [intOf]; omega
      case rel =>
       refine ⟨j + 1, m, cc, U, T, by go_num, by omega, rfl, by omega, Lib.hid ⟨HJ.out.1, ?_, HS2.out.sub (List.sublist_append_right _ _)⟩⟩
       rw [HC.out.1, HJ.out.2.1]
       have e : lackC kn x C = [] := by
        unfold lackC
        rw [HN.out, List.drop_eq_nil_of_le (by rw [List.length_range]; exact Nat.le_refl _)]
        rfl
       rw [e, List.append_nil]
     ·obtain ⟨ii, hii⟩ : ∃ i, i = lkN kn x C := ⟨_, rfl⟩
      rw [← hii] at hN ⊢
      have hi9 : ii < tl := by rw [HTl.out.2.1]; exact hN
      have hS2 := HSj.out.go b2
      have hrowc : OwnR w2 0 43 encFrE 11 (.slice Uc tl nc) Tc := hS2.at_ (t := thR 43 encFrE 11 (.slice Uc tl nc) Tc) 0 rfl
      obtain ⟨Ac, cA, eA, hcA, hRw⟩ := OwnR.row Tryz.eltFrE hrowc
      injection eA with eA1 eA2 eA3
      obtain ⟨gc, rfl⟩ : ∃ gc, Uc = some ⟨gc, 0, none⟩ := by
       rcases hrowc.2 with ⟨h9, h0⟩ | ⟨g9, cap9, cur, h9, _⟩
       ·have h1 := HTl.out.1
        omega
       ·injection h9 with e1 _ _
        exact ⟨g9, e1⟩
      subst eA1
      subst eA3
      have hRd := rw_dropG hRw ii
      obtain ⟨dl, hdl⟩ : ∃ d, d = (Tc.drop ii).length := ⟨_, rfl⟩
      have hdl2 : dl = tl - ii := by rw [hdl, List.length_drop, ← HTl.out.1]
      have hsr : ∀ w, (Instr.slice 28 (.slice (some ⟨gc, 0, none⟩) tl nc) (some (.int .i64 (ii : Nat))) none none).run Tryz.prog w = .ok (.slice (some ⟨gc, ii * 11, none⟩) dl (nc - ii)) w := fun w => by rw [hdl2]; exact run_restF gc tl nc ii hi9 (by rw [HTl.out.1]; exact hcA) w
      have hi0 : (0 : Int) ≤ (ii : Int) := by omega
      have hS3 : Sep w1.heap.size w1 w2 (thR 43 encFrE 11 (.slice U m cc) T :: (T.map frB ++ (chT (.slice (some ⟨gc, 0, none⟩) tl nc) Tc))) := hS2.permB List.perm_append_comm
      have HS3 := Lib.hid hS3
      have HD := Lib.hid (And.intro hdl (And.intro hRd (And.intro hii hdl2)))
      clear b2 hN HIx HSj hS2 hrowc hcA hRw hRd hdl hdl2 hS3 hii eA2
      go_wp2_with (at_builtin; go_must (refine sep_appN Tryz.eltFrE rfl (.tmp 39) (.tmp 42) rfl 0 (.slice U m cc) T (by simp [Act.eval, Act.put]) HS3.out rfl (some ⟨gc, ii * 11, none⟩) (nc - ii) (Tc.drop ii) (by rw [← HD.out.1, HD.out.2.2.2]; omega) (by rw [← HD.out.1]; simp [Act.eval, Act.put]) HD.out.2.1 (by unfold maxLen; rw [← HJ.out.1, ← HD.out.1, HD.out.2.2.2]; omega) (by rw [← HJ.out.1, ← HD.out.1, HD.out.2.2.2]; omega) ?_); intro g8 c8 w8 hS8; rw [← HJ.out.1, ← HD.out.1] at hS8 ⊢)
      go_roundw
      case measure => simp [intOf]; omega
      case rel =>
       refine ⟨j + 1, m + dl, c8, some ⟨g8, 0, none⟩, T ++ Tc.drop ii, by go_num, by omega, by (try simp), by have := HD.out.2.2.2; omega, Lib.hid ⟨by rw [List.length_append, ← HJ.out.1, ← HD.out.1], ?_, ?_⟩⟩
       ·rw [HC.out.1, List.map_append, HJ.out.2.1, frames_drop (by rw [← HTl.out.1]; exact HTl.out.2.1) (fun j y hy => (HTl.out.2.2 j y hy).1) ii]
        unfold lackC
        rw [HD.out.2.2.1]
       ·unfold chT
        rw [List.map_append]
        refine hS8.sub (List.Sublist.cons_cons _ (List.Sublist.append (List.Sublist.refl _) ?_))
        exact List.Sublist.cons _ ((List.drop_sublist _ _).map _)
    ·have hjn2 : ¬ (j : Int) < (n : Int) := by omega
     have hjj : j = n := by omega
     have HE := Lib.hid (show T.map (fun y => y.f) = lackX kn D (ksD D) by
      have h1 := HJ.out.2.1
      rw [hjj, HX.out.2.1, List.take_length, HX.out.1] at h1
      exact h1)
     clear hjj
     go_wp2_with fail
     go_ret
     exact ⟨U, cc, T, by rw [← HJ.out.1]; rfl, by rw [← HJ.out.1]; exact HJ.out.2.2.rebase HX.out.2.2.2.1.b, HE.out⟩
end Go.Proofs.YtiliineopplinaaGreatDoor
set_option linter.unusedSimpArgs false
set_option linter.unusedVariables false
namespace Go.Proofs.YtiliineopplinaaGreatDoor
open Go.RowKit
set_option maxRecDepth 100000
section
variable {B : Nat} {w0 w w' : World} {q p : Nat} {D E : BD} {ts us : List Kt}
theorem Bk2.consL (h : Bk2 B w0 w q D p E ts) (hs : Sep w.heap.size w w' us) : Bk2 B w0 w' q D p E (us ++ ts) := by
 obtain ⟨Y, h1, h2, h3, h4⟩ := h
 exact ⟨Y, h1, h2, h3, (h4.consL hs).perm List.perm_middle⟩
theorem bk2_putD (h : Bk2 B w0 w q D p E ts) (hT : Tab w) (x : Nat) (hx : x < 4294967296) (t : Int) (v : Nat) (hz : in64 t ∧ v < 18446744073709551616) (hn : (E.at_ x).flatten.length < 1000) :
  Calls Tryz.prog 14 #[ptB p, .int .u32 (x : Nat), .agg #[.int .i64 t, .int .u64 (v : Nat)]] w fun e w' => e = .returned (.int .u16 (mayD E x t : Nat)) ∧ Bk2 B w0 w' q D p (putD E x (t, v)) ts := by
 obtain ⟨X, e1, e2, e3, hS⟩ := h.swap
 refine (bk_put hS hT x hx t v hz hn).mono ?_
 rintro e w' ⟨rfl, hB⟩
 exact ⟨rfl, Bk2.swap ⟨X, e1, e2, e3, hB⟩⟩
end
theorem apR_one {l m L : List LfD} (h : ApR l m L) {x c n : Nat} (hd : Dif l m (x, c)) (ho : ∀ k, Dif l m k → k = (x, c)) (hn : cntL l (x, c) = n) : L = [(x, c, n, 0)] := by
 have hv : ∀ v ∈ L, v = (x, c, n, 0) := fun v hv => by
  obtain ⟨h1, h2, h3, -⟩ := h.mem v hv
  have h4 := ho _ h1
  injection h4 with h5 h6
  obtain ⟨a, b, d, s⟩ := v
  simp only at h2 h3 h5 h6
  subst h5 h6 h3
  rw [hn] at h2
  rw [h2]
 obtain ⟨v, hv1, -⟩ := h.all x c hd
 cases L with
 | nil => cases hv1
 | cons a r =>
  cases r with
  | nil => rw [hv a List.mem_cons_self]
  | cons b r =>
   have h1 := List.rel_of_pairwise_cons h.asc (a' := b) List.mem_cons_self
   rw [hv a List.mem_cons_self, hv b (List.mem_cons_of_mem _ List.mem_cons_self)] at h1
   exact absurd h1 (Nat.lt_irrefl _)
def dk0 : BD := ⟨1, 1, []⟩
def dk1 : BD := ⟨1, 1, [(5, [[(1, 2)], []])]⟩
def dkA : BD := ⟨1, 1, [(5, [[(1, 2)], [(2, 2)], []])]⟩
def dkB : BD := ⟨1, 1, [(5, [[(1, 2)], [(2, 3)], []])]⟩
theorem dk_put1 : mayD dk0 5 1 = 0 ∧ putD dk0 5 (1, 2) = dk1 := ⟨by kernel_rfl, by kernel_rfl⟩
theorem dk_put2 : mayD dk1 5 2 = 0 ∧ putD dk1 5 (2, 2) = dkA := ⟨by kernel_rfl, by kernel_rfl⟩
theorem dk_put3 : mayD dk1 5 2 = 0 ∧ putD dk1 5 (2, 3) = dkB := ⟨by kernel_rfl, by kernel_rfl⟩
theorem dk_ksA : ksD dkA = [5] := (ksD_of (D := dkA) (xs := [5]) (List.Perm.refl _) (List.pairwise_singleton _ _)).symm
theorem dk_ksB : ksD dkB = [5] := (ksD_of (D := dkB) (xs := [5]) (List.Perm.refl _) (List.pairwise_singleton _ _)).symm
def dkS0 : Nat := moreR 0 (bitsL [(1, 2)])
def dkS1 : Nat := moreR 0 (bitsL [(2, 2)])
def dkS2 : Nat := moreR 0 (bitsL [(2, 3)])
theorem dk_ne : dkS1 ≠ dkS2 := by
 have h : Nat.beq dkS1 dkS2 = false := by kernel_rfl
 intro e
 rw [e, Nat.beq_refl] at h
 cases h
theorem dk_lvA : leavesD dkA = [(5, 0, 1, dkS0), (5, 1, 1, dkS1)] := by
 unfold leavesD
 rw [dk_ksA]
 kernel_rfl
theorem dk_lvB : leavesD dkB = [(5, 0, 1, dkS0), (5, 1, 1, dkS2)] := by
 unfold leavesD
 rw [dk_ksB]
 kernel_rfl
theorem dk_dif (k : KyD) : Dif [(5, 0, 1, dkS0), (5, 1, 1, dkS1)] [(5, 0, 1, dkS0), (5, 1, 1, dkS2)] k ↔ k = (5, 1) := by
 unfold Dif findL
 simp only [List.find?_cons, List.find?_nil]
 by_cases h0 : ((5 : Nat), (0 : Nat)) = k
 ·subst h0; simp
 ·by_cases h1 : ((5 : Nat), (1 : Nat)) = k
  ·subst h1
   simp
   exact dk_ne
  ·simp [h0, h1]
   exact fun e => h1 e.symm
theorem dk_cnt : cntL [(5, 0, 1, dkS0), (5, 1, 1, dkS1)] (5, 1) = 1 := by unfold cntL findL; simp [List.find?_cons]
theorem dk_lack : lackX (leavesD dkB) dkA (ksD dkA) = [chFr 5 (dkA.at_ 5) 1] := by
 rw [dk_ksA]
 show lackC (leavesD dkB) 5 (dkA.at_ 5) ++ [] = _
 have h : lkN (leavesD dkB) 5 (dkA.at_ 5) = 1 := by
  refine lkN_at (by decide) ?_ (fun j hj => ?_)
  ·rw [dk_lvB, show leafC 5 (dkA.at_ 5) 1 = (5, 1, 1, dkS1) by kernel_rfl]
   simp
   exact dk_ne
  ·obtain rfl : j = 0 := by omega
   rw [dk_lvB, show leafC 5 (dkA.at_ 5) 0 = (5, 0, 1, dkS0) by kernel_rfl]
   simp
 unfold lackC
 rw [h]
 rfl
theorem dk_ok (l : List LfD) (h : ∀ x ∈ l, x.1 = 5 ∧ x.2.1 < 2 ∧ x.2.2.1 = 1 ∧ x.2.2.2 < 2305843009213693951) : ∀ x ∈ l, LfOk x := fun x hx => by
 obtain ⟨h1, h2, h3, h4⟩ := h x hx
 exact ⟨by omega, by omega, by omega, by omega⟩
theorem dk_okA : ∀ x ∈ leavesD dkA, LfOk x := by
 rw [dk_lvA]
 refine dk_ok _ fun x hx => ?_
 simp only [List.mem_cons, List.not_mem_nil, or_false] at hx
 rcases hx with rfl | rfl
 ·exact ⟨rfl, by decide, rfl, moreR_lt _ _⟩
 ·exact ⟨rfl, by decide, rfl, moreR_lt _ _⟩
theorem dk_okB : ∀ x ∈ leavesD dkB, LfOk x := by
 rw [dk_lvB]
 refine dk_ok _ fun x hx => ?_
 simp only [List.mem_cons, List.not_mem_nil, or_false] at hx
 rcases hx with rfl | rfl
 ·exact ⟨rfl, by decide, rfl, moreR_lt _ _⟩
 ·exact ⟨rfl, by decide, rfl, moreR_lt _ _⟩
set_option maxHeartbeats 16000000 in
theorem dgKnown_any (w : World) (hT : Tab w) : Calls Tryz.prog 4 #[] w fun e w' => e = .returned (.bool true) ∧ Below w.heap.size w w' := by
 have hmx : Tryz.prog.follows .mixedOrders = true := by kernel_rfl
 have HN := Lib.hid (bk_new (Sep.nil (Below.refl w.heap.size w) (Nat.le_refl _)) 1 1 (by decide) (by decide) (by decide) (by decide))
 have HT := Lib.hid hT
 have b64 : ∀ t : Int, 0 ≤ t → t < 100 → in64 t := fun t h1 h2 => by unfold in64; omega
 clear hT
 go_enter Tryz.func4, Tryz.ntmps4
 go_upto_region 2 with (go_at_call 13; refine HN.out.mono ?_; rintro e w1 ⟨q, rfl, hS0⟩)
 have HN2 := Lib.hid (bk2_new hS0 1 1 (by decide) (by decide) (by decide) (by decide))
 clear HN hS0
 go_upto_region 5 with (go_at_call 13; refine HN2.out.mono ?_; rintro e w2 ⟨p, rfl, hS1⟩)
 have hP := bk2_putD (show Bk2 _ _ _ p dk0 q dk0 [] from hS1.swap) (tabGo HT.out hS1.b) 5 (by decide) 1 2 ⟨b64 1 (by decide) (by decide), by decide⟩ (by decide)
 rw [dk_put1.1, dk_put1.2] at hP
 have HP := Lib.hid hP
 clear hP HN2 hS1
 go_upto_region 6 with (go_at_call 14; refine HP.out.mono ?_; rintro e w3 ⟨rfl, hS2⟩)
 have hP := bk2_putD hS2.swap (tabGo HT.out hS2.b) 5 (by decide) 1 2 ⟨b64 1 (by decide) (by decide), by decide⟩ (by decide)
 rw [dk_put1.1, dk_put1.2] at hP
 clear HP
 have HP := Lib.hid hP
 clear hP hS2
 go_upto_region 7 with (go_at_call 14; refine HP.out.mono ?_; rintro e w4 ⟨rfl, hS3⟩)
 have hP := bk2_putD hS3.swap (tabGo HT.out hS3.b) 5 (by decide) 2 2 ⟨b64 2 (by decide) (by decide), by decide⟩ (by decide)
 rw [dk_put2.1, dk_put2.2] at hP
 clear HP
 have HP := Lib.hid hP
 clear hP hS3
 go_upto_region 8 with (go_at_call 14; refine HP.out.mono ?_; rintro e w5 ⟨rfl, hS4⟩)
 have hP := bk2_putD hS4.swap (tabGo HT.out hS4.b) 5 (by decide) 2 3 ⟨b64 2 (by decide) (by decide), by decide⟩ (by decide)
 rw [dk_put3.1, dk_put3.2] at hP
 clear HP
 have HP := Lib.hid hP
 clear hP hS4
 go_upto_region 9 with (go_at_call 14; refine HP.out.mono ?_; rintro e w6 ⟨rfl, hS5⟩)
 have hL := leaves_any hS5.fst.choose_spec
 have HL := Lib.hid hL
 have HS5 := Lib.hid hS5
 clear hL hS5 HP
 have lA : (leavesD dkA).length = 2 := by rw [dk_lvA]; rfl
 have lB : (leavesD dkB).length = 2 := by rw [dk_lvB]; rfl
 rw [lA] at HL
 go_upto_region 10 with (go_at_call 7; refine HL.out.mono ?_; rintro e w7 ⟨Ux, cx, rfl, hSx⟩)
 have hK7 := HS5.out.consL hSx
 have hL := leaves_any hK7.snd.choose_spec
 rw [lB] at hL
 clear HL
 have HL := Lib.hid hL
 have HK7 := Lib.hid hK7
 clear hL hSx hK7
 have rows : ∀ (W : World) (V : Option Addr) (n c : Nat) (l : List LfD), OwnR W 0 57 encLf 4 (.slice V n c) l → Rw W encLf 4 V l := fun W V n c l h => by
  obtain ⟨A, c2, e, -, hR⟩ := OwnR.row Tryz.eltLf h
  injection e with e1 _ _
  rw [e1]; exact hR
 have HRows := Lib.hid rows
 clear rows
 go_upto_region 11 with (first
  | (go_at_call 7; refine HL.out.mono ?_; rintro e w8 ⟨Uy, cy, rfl, hSy⟩; have HK8 := Lib.hid (HK7.out.consL hSy); clear hSy)
  | (go_at_call 11; refine Calls.mono (show Calls _ _ #[.slice Ux 2 cx, .slice Uy 2 cy] _ (ApO (leavesD dkA) (leavesD dkB) w8) from (by
    have h1 := apart_any Ux cx (leavesD dkA) Uy cy (leavesD dkB) w8 (HRows.out _ _ _ _ _ (HK8.out.sep.at_ (t := thR 57 encLf 4 (.slice Ux 2 cx) (leavesD dkA)) 1 rfl)) (HRows.out _ _ _ _ _ (HK8.out.sep.at_ (t := thR 57 encLf 4 (.slice Uy 2 cy) (leavesD dkB)) 0 rfl)) dk_okA dk_okB (by rw [lA]; decide) (by rw [lB]; decide)
    rw [lA, lB] at h1
    exact h1)) ?_; rintro e w9 ⟨Ul, cl, Ll, rfl, hSl, hap⟩; have HK9 := Lib.hid (HK8.out.consL hSl); clear hSl))
 rw [dk_lvA, dk_lvB] at hap
 have hLl := apR_one hap ((dk_dif _).2 rfl) (fun k hk => (dk_dif k).1 hk) dk_cnt
 subst hLl
 have HL2 := Lib.hid (leaves_any HK9.out.snd.choose_spec)
 rw [lB] at HL2
 clear hap HL HK7 HK8
 go_upto_region 12 with (first
  | (go_at_call 7; refine HL2.out.mono ?_; rintro e wa ⟨Uz, cz, rfl, hSz⟩; have HKa := Lib.hid (HK9.out.consL hSz); clear hSz)
  | (go_at_call 6; refine Calls.mono (show Calls _ _ #[ptB q, .slice Uz 2 cz] _ (LkO (leavesD dkB) dkA wa) from (by
    have h1 := lacks_any HKa.out.fst.choose_spec Uz cz (leavesD dkB) (HRows.out _ _ _ _ _ (HKa.out.sep.at_ (t := thR 57 encLf 4 (.slice Uz 2 cz) (leavesD dkB)) 0 rfl)) dk_okB (by rw [lB]; decide)
    rw [lB] at h1
    exact h1)) ?_; rintro e wb ⟨Uf, cf, Tf, rfl, hSf, hTf⟩; have HKb := Lib.hid (HKa.out.consL hSf); clear hSf))
 rw [dk_lack] at hTf
 obtain ⟨y, rfl⟩ : ∃ y, Tf = [y] := by
  have h1 := congrArg List.length hTf
  rw [List.length_map] at h1
  match Tf, h1 with
  | [y], _ => exact ⟨y, rfl⟩
 have hyf : y.f = chFr 5 (dkA.at_ 5) 1 := by injection hTf
 have hfc : y.f.fc = 1 := by rw [hyf]; kernel_rfl
 have hKb := HKb.out
 obtain ⟨gl, hgl, -, hcl⟩ := row_at Tryz.eltLf (hKb.sep.at_ (t := thR 57 encLf 4 (.slice Ul 1 cl) [(5, 1, 1, 0)]) 3 rfl) (k := 0) (x := (5, 1, 1, 0)) rfl
 obtain ⟨gf, hgf, -, hcf⟩ := row_at Tryz.eltFrE (hKb.sep.at_ (t := thR 43 encFrE 11 (.slice Uf 1 cf) [y]) 0 rfl) (k := 0) (x := y) rfl
 subst hgl
 subst hgf
 have l0 : wb.cell? ⟨gl, 0, none⟩ = some (.int .u32 5) := hcl 0 _ rfl
 have l1 : wb.cell? ⟨gl, 1, none⟩ = some (.int .u32 1) := hcl 1 _ rfl
 have l2 : wb.cell? ⟨gl, 2, none⟩ = some (.int .u32 1) := hcl 2 _ rfl
 have l3 : wb.cell? ⟨gl, 3, none⟩ = some (.int .u64 0) := hcl 3 _ rfl
 have c3 : wb.cell? ⟨gf, 3, none⟩ = some (.int .u32 1) := by
  have h1 := hcf 3 (.int .u32 ((y.f.fc : Nat) : Int)) rfl
  rw [hfc] at h1
  exact h1
 have hQ : ∀ w, (binOp .eql 57 (.agg #[.int .u32 5, .int .u32 1, .int .u32 1, .int .u64 0]) (.agg #[.int .u32 5, .int .u32 1, .int .u32 1, .int .u64 0])).run Tryz.prog w = .ok (.bool true) w := fun w => by
  have h := eqLf_run (5, 1, 1, 0) (5, 1, 1, 0) w
  rw [decide_eq_true rfl] at h
  exact h
 have HRt := Lib.hid (show Calls Tryz.prog 12 #[.slice none 0 0] wb (fun e w' => e = .returned (.int .u64 0) ∧ Below wb.heap.size wb w') from root_any none 0 [] wb (Rw.nil _ _ _ _) (fun x h => by cases h) (by decide))
 have HKc := Lib.hid hKb.b
 clear hTf hyf hfc hKb hcl hcf HKb HKa HK9 HL2
 go_wp2_with (go_at_call 12; refine HRt.out.mono ?_; rintro e wc ⟨rfl, bc⟩)
 go_ret
 exact ⟨rfl, HKc.out.trans (bc.mono HKc.out.size)⟩
end Go.Proofs.YtiliineopplinaaGreatDoor
set_option linter.unusedSimpArgs false
set_option linter.unusedVariables false
namespace Go.Proofs.YtiliineopplinaaGreatDoor
open Go.RowKit
set_option maxRecDepth 100000
theorem asc_uniq : ∀ {xs ys : List KyD}, xs.Pairwise (fun a b => a.1 < b.1) → ys.Pairwise (fun a b => a.1 < b.1) → (∀ k, k ∈ xs ↔ k ∈ ys) → xs = ys
 | [], [], _, _, _ => rfl
 | [], y :: ys, _, _, h => absurd ((h y).2 List.mem_cons_self) (by simp)
 | x :: xs, [], _, _, h => absurd ((h x).1 List.mem_cons_self) (by simp)
 | x :: xs, y :: ys, hx, hy, h => by
  have a1 : ∀ z ∈ xs, x.1 < z.1 := fun z hz => List.rel_of_pairwise_cons hx hz
  have a2 : ∀ z ∈ ys, y.1 < z.1 := fun z hz => List.rel_of_pairwise_cons hy hz
  have e : x = y := by
   rcases List.mem_cons.1 ((h x).1 List.mem_cons_self) with h1 | h1
   ·exact h1
   ·rcases List.mem_cons.1 ((h y).2 List.mem_cons_self) with h2 | h2
    ·exact h2.symm
    ·have := a1 y h2
     have := a2 x h1
     omega
  subst e
  have e2 : xs = ys := by
   refine asc_uniq (List.pairwise_cons.1 hx).2 (List.pairwise_cons.1 hy).2 (fun k => ⟨fun hk => ?_, fun hk => ?_⟩)
   ·rcases List.mem_cons.1 ((h k).1 (List.mem_cons_of_mem _ hk)) with h1 | h1
    ·have := a1 k hk
     rw [h1] at this
     omega
    ·exact h1
   ·rcases List.mem_cons.1 ((h k).2 (List.mem_cons_of_mem _ hk)) with h1 | h1
    ·have := a2 k hk
     rw [h1] at this
     omega
    ·exact h1
  rw [e2]
end Go.Proofs.YtiliineopplinaaGreatDoor
set_option linter.unusedSimpArgs false
set_option linter.unusedVariables false
namespace Go.Proofs.YtiliineopplinaaGreatDoor
open Go.RowKit
set_option maxRecDepth 100000
theorem chN_flat {C : CsT} (oc : OkC1 C) : chN C ≤ C.flatten.length := by
 have h1 : ∀ C : CsT, (∀ L ∈ C, L ≠ []) → C.length ≤ C.flatten.length := by
  intro C
  induction C with
  | nil => intro _; exact Nat.le_refl _
  | cons L C ih =>
   intro h
   have h2 := ih fun M hM => h M (List.mem_cons_of_mem _ hM)
   have h3 : 1 ≤ L.length := by
    have h4 := h L List.mem_cons_self
    cases L with
    | nil => exact absurd rfl h4
    | cons a L => simp
   rw [List.flatten_cons, List.length_append, List.length_cons]
   omega
 have h2 : (C.take (chN C)).length ≤ (C.take (chN C)).flatten.length := h1 _ fun L hL => by
  obtain ⟨i, hi⟩ := List.getElem?_of_mem hL
  have h3 : i < chN C := by have := (List.getElem?_eq_some_iff.1 hi).1; rw [List.length_take] at this; omega
  obtain ⟨M, hM, hne⟩ := chN_get oc h3
  rw [List.getElem?_take, if_pos h3, hM] at hi
  injection hi with hi
  rw [← hi]
  exact hne
 rw [ch_flat oc.ne, List.length_take, Nat.min_eq_left (by unfold chN; split <;> omega)] at h2
 exact h2
def sumN (D : BD) (xs : List Nat) : Nat := (xs.map fun x => chN (D.at_ x)).sum
theorem sumN_len (D : BD) : ∀ xs : List Nat, (leavesX D xs).length = sumN D xs
 | [] => rfl
 | x :: xs => by
  show (leavesC x (D.at_ x) ++ leavesX D xs).length = _
  rw [List.length_append, leavesC_len, sumN_len D xs]
  rfl
theorem sumN_le {D : BD} {n : Nat} : ∀ {xs : List Nat}, (∀ x ∈ xs, chN (D.at_ x) ≤ n) → sumN D xs ≤ n * xs.length
 | [], _ => Nat.zero_le _
 | x :: xs, h => by
  have h1 := sumN_le (xs := xs) fun y hy => h y (List.mem_cons_of_mem _ hy)
  have h2 := h x List.mem_cons_self
  show chN (D.at_ x) + sumN D xs ≤ n * (xs.length + 1)
  rw [Nat.mul_add, Nat.mul_one]
  omega
theorem apR_self {l L : List LfD} (h : ApR l l L) : L = [] := by
 cases L with
 | nil => rfl
 | cons v L => exact absurd rfl (h.mem v List.mem_cons_self).1
theorem leaf_key {D : BD} {y : LfD} (h : y ∈ leavesD D) : y.1 ∈ ksD D ∧ y.2.1 < chN (D.at_ y.1) ∧ y = leafC y.1 (D.at_ y.1) y.2.1 := by
 obtain ⟨x, hx, h1⟩ := List.mem_flatMap.1 h
 obtain ⟨k, hk, rfl⟩ := List.mem_map.1 h1
 exact ⟨hx, List.mem_range.1 hk, rfl⟩
theorem leaves_ok {sz k : Nat} {D : BD} (h : LaI sz k D) (hk : k ≤ 1000) : ∀ x ∈ leavesD D, LfOk x := fun y hy => by
 obtain ⟨h1, h2, h3⟩ := leaf_key hy
 obtain ⟨x, c, n, s⟩ := y
 replace h1 : x ∈ ksD D := h1
 replace h2 : c < chN (D.at_ x) := h2
 obtain ⟨p, hp, rfl⟩ := ksD_mem.1 h1
 have h4 := h.ok.key p hp
 have h5 := chN_flat (h.ok.at_ p.1)
 have h6 := h.len p.1
 obtain ⟨L, hL, -⟩ := chN_get (h.ok.at_ p.1) h2
 have h7 : L.length ≤ (D.at_ p.1).flatten.length := (sub_flat (List.mem_of_getElem? hL)).length_le
 unfold leafC at h3
 rw [hL, Option.getD_some] at h3
 injection h3 with _ h3
 injection h3 with _ h3
 injection h3 with h3 h8
 replace h3 : n = L.length := h3
 replace h8 : s = moreR 0 (bitsL L) := h8
 have h9 : s < 2305843009213693951 := by rw [h8]; exact moreR_lt _ _
 exact ⟨h4, show c < 4294967296 by omega, show n < 4294967296 by omega, show s < 18446744073709551616 by omega⟩
theorem leaves_few {sz k : Nat} {D : BD} (h : LaI sz k D) (hk : k ≤ 60) : (leavesD D).length ≤ 3840 := by
 unfold leavesD
 rw [sumN_len]
 have h1 : sumN D (ksD D) ≤ 60 * (ksD D).length := sumN_le fun x _ => by
  have h5 := chN_flat (h.ok.at_ x)
  have h6 := h.len x
  omega
 rw [ksD_len] at h1
 have h2 := h.ok.few
 have h3 := h.ok.mo2
 omega
end Go.Proofs.YtiliineopplinaaGreatDoor
set_option linter.unusedSimpArgs false
set_option linter.unusedVariables false
namespace Go.Proofs.YtiliineopplinaaGreatDoor
open Go.RowKit
set_option maxRecDepth 100000
def FrC (E C : CsT) : Prop := ∃ L R, C = E.dropLast ++ L :: R ∧ lastL E <+: L
theorem FrC.refl {C : CsT} (h : C ≠ []) : FrC C C := ⟨lastL C, [], (cs_split h).symm, List.prefix_refl _⟩
theorem FrC.put {C : CsT} (ch : Nat) (z : Sm) : FrC C (putCs ch C z) := by
 unfold putCs setLast
 by_cases h : (lastL C).length + 1 = ch
 ·exact ⟨lastL C ++ [z], [[]], by rw [decide_eq_true h]; rfl, List.prefix_append _ _⟩
 ·exact ⟨lastL C ++ [z], [], by rw [decide_eq_false h]; rfl, List.prefix_append _ _⟩
theorem FrC.trans {A B C : CsT} (h1 : FrC A B) (h2 : FrC B C) : FrC A C := by
 obtain ⟨L, R, e1, p1⟩ := h1
 obtain ⟨M, S, e2, p2⟩ := h2
 rcases List.eq_nil_or_concat R with hR | ⟨R', r, hR⟩
 ·subst hR
  have e3 : B.dropLast = A.dropLast := by rw [e1, List.dropLast_concat]
  have e4 : lastL B = L := by unfold lastL; rw [e1, List.getLast?_concat]; rfl
  rw [e3] at e2
  rw [e4] at p2
  exact ⟨M, S, e2, p1.trans p2⟩
 ·rw [List.concat_eq_append] at hR
  subst hR
  have e3 : B.dropLast = A.dropLast ++ L :: R' := by
   rw [e1, show A.dropLast ++ L :: (R' ++ [r]) = (A.dropLast ++ L :: R') ++ [r] by simp, List.dropLast_concat]
  rw [e3] at e2
  exact ⟨L, R' ++ M :: S, by rw [e2]; simp, p1⟩
theorem laS_front {D : BD} (h : OkD D) (o : OB) (x : Nat) : FrC (D.at_ x) ((laS D o).at_ x) := by
 unfold laS
 rw [at_put]
 split
 ·rename_i k
  rw [k.1]
  exact FrC.put _ _
 ·exact FrC.refl (h.at_ x).ne
theorem laD_front {sz : Nat} (h1 : 1 ≤ sz) (h2 : sz ≤ 24) (l : List OB) (hok : ∀ o ∈ l, OkOB o) (hl : l.length ≤ 900) (n x : Nat) : ∀ k, n + k ≤ l.length → FrC ((laD sz (l.take n)).at_ x) ((laD sz (l.take (n + k))).at_ x)
 | 0, hk => FrC.refl ((laD_ok h1 h2 l hok n (by omega) (by omega)).ok.at_ x).ne
 | k + 1, hk => by
  have hi := laD_front h1 h2 l hok hl n x k (by omega)
  obtain ⟨o, ho⟩ : ∃ o, l[n + k]? = some o := ⟨_, List.getElem?_eq_getElem (by omega)⟩
  rw [← Nat.add_assoc, laD_succ sz l ho]
  exact hi.trans (laS_front (laD_ok h1 h2 l hok (n + k) (by omega) (by omega)).ok o x)
theorem lack_front {sz k k2 : Nat} {E D : BD} (hE : LaI sz k E) (hD : LaI sz k2 D) {x : Nat} (hx : x ∈ ksD D) (hkE : x ∈ ksD E ∨ E.at_ x = [[]]) (hF : FrC (E.at_ x) (D.at_ x)) :
  (lkN (leavesD E) x (D.at_ x) = chN (D.at_ x) ∧ D.at_ x = E.at_ x) ∨ (lkN (leavesD E) x (D.at_ x) = (E.at_ x).length - 1 ∧ (E.at_ x).length - 1 < chN (D.at_ x)) := by
 obtain ⟨L, R, e1, p1⟩ := hF
 have oE := hE.ok.at_ x
 have oD := hD.ok.at_ x
 have hfull := hD.full x
 have hlast := hE.last x
 obtain ⟨C, hC⟩ : ∃ C, C = D.at_ x := ⟨_, rfl⟩
 obtain ⟨A, hA⟩ : ∃ A, A = E.at_ x := ⟨_, rfl⟩
 rw [← hC] at e1 oD hfull ⊢
 rw [← hA] at e1 p1 oE hlast ⊢
 obtain ⟨e, he⟩ : ∃ e, e = A.length - 1 := ⟨_, rfl⟩
 have hAl : A.dropLast.length = e := by rw [List.length_dropLast, he]
 have hAlen : A.length = e + 1 := by
  have : A.length ≠ 0 := fun h => oE.ne (List.length_eq_zero_iff.1 h)
  omega
 have hCe : C[e]? = some L := by rw [e1, List.getElem?_append_right (by omega), hAl, Nat.sub_self]; rfl
 have hCj : ∀ j, j < e → C[j]? = A[j]? := fun j hj => by
  rw [e1, List.getElem?_append_left (by omega), List.getElem?_dropLast, if_pos (by omega)]
 have hCl : e < C.length := (List.getElem?_eq_some_iff.1 hCe).1
 have hCn : C.length - 1 ≤ chN C := by unfold chN; split <;> omega
 have hAn : e ≤ chN A ∧ chN A ≤ e + 1 := by unfold chN; split <;> omega
 have hAe : A[e]? = some (lastL A) := by
  have h1 : A = A.dropLast ++ [lastL A] := (cs_split oE.ne).symm
  rw [h1, List.getElem?_append_right (by omega), hAl, Nat.sub_self]
  rw [← h1]; rfl
 have hin : ∀ j, j < chN A → C[j]? = A[j]? → leafC x C j ∈ leavesD E := fun j hj hh => by
  have hk : x ∈ ksD E := by
   rcases hkE with h | h
   ·exact h
   ·rw [← hA] at h
    rw [h] at hj
    exact absurd hj (by unfold chN lastL; simp)
  refine List.mem_flatMap.2 ⟨x, hk, List.mem_map.2 ⟨j, List.mem_range.2 (by rw [← hA]; exact hj), ?_⟩⟩
  unfold leafC
  rw [← hA, hh]
 by_cases hq : lastL A = L
 ·
  have hR : R = [] := by
   cases R with
   | nil => rfl
   | cons r R =>
    have h1 : L ∈ C.dropLast := by
     rw [e1, List.dropLast_append_of_ne_nil (by simp), List.dropLast_cons_of_ne_nil (by simp)]
     simp
    have h2 := hfull L h1
    rw [← hq] at h2
    omega
  have hCA : C = A := by rw [e1, hR, ← hq, cs_split oE.ne]
  refine Or.inl ⟨lkN_all fun j hj => hin j (by rw [← hCA]; exact hj) (by rw [hCA]), hCA⟩
 ·refine Or.inr ?_
  rw [← he]
  have hLne : L ≠ [] := fun h => by
   rw [h] at p1
   exact hq (by rw [h]; exact List.prefix_nil.1 p1)
  have hec : e < chN C := by
   rcases Nat.lt_or_ge (e + 1) C.length with h | h
   ·omega
   ·have h2 := last_at hCe (by omega)
    unfold chN
    rw [h2, if_neg hLne]
    exact hCl
  refine ⟨lkN_at hec (fun hm => ?_) fun j hj => hin j (by omega) (hCj j hj), hec⟩
  obtain ⟨h1, h2, h3⟩ := leaf_key hm
  have h4 : (leafC x C e).1 = x := rfl
  have h5 : (leafC x C e).2.1 = e := rfl
  rw [h4, h5, ← hA] at h2 h3
  unfold leafC at h3
  rw [hCe, hAe, Option.getD_some, Option.getD_some] at h3
  injection h3 with _ h3
  injection h3 with _ h3
  injection h3 with h3 _
  exact hq (p1.eq_of_length h3.symm)
end Go.Proofs.YtiliineopplinaaGreatDoor
set_option linter.unusedSimpArgs false
set_option linter.unusedVariables false
namespace Go.Proofs.YtiliineopplinaaGreatDoor
open Go.RowKit
set_option maxRecDepth 100000
theorem mend_old {A : CsT} {j : Nat} (hA : A ≠ []) (hl : A.length = j + 1) {f : FrD} (h1 : f.fc = j) (h2 : f.fb = 0) (h3 : f.fn = 0) : oldC A f = some [] := by
 unfold oldC
 rw [h1, h2, h3]
 split
 ·rename_i h
  unfold endC at h
  simp only [Prod.mk.injEq] at h
  have h4 : lastL A = [] := List.length_eq_zero_iff.1 h.2.2.symm
  rw [h4]
  rfl
 ·rw [if_pos (by rw [hl]; rfl)]
theorem mend_main {x : Nat} {C : CsT} (oc : OkC1 C) (hx : x < 4294967296) {ch : Nat} (hch24 : ch ≤ 24) (hle : ∀ L ∈ C, L.length ≤ ch) {j : Nat} {L : List Sm} (hL : C[j]? = some L) (hne : L ≠ []) {E : BD} (hE : E.at_ x ≠ []) (hd : (E.at_ x).dropLast = C.take j) (hEl : (E.at_ x).length = j + 1) (hch : E.ch = ch) (hfu : fullD E x = false) :
  fitD E (chFr x C j) = (0, L) ∧ (chFr x C j).se = x ∧ (chFr x C j).ok ∧ (chFr x C j).l.length ≤ 1000 ∧ takeD E (chFr x C j) = ⟨E.mo, E.ch, putM E.M x (C.take j ++ (if decide (j + 1 < C.length) then [L, []] else [L]))⟩ := by
 have hm := List.mem_of_getElem? hL
 have hlch := hle L hm
 have hinc := oc.incL hm
 have hfew := oc.few
 have hjl := (List.getElem?_eq_some_iff.1 hL).1
 have hpos : 0 < L.length := List.length_pos_iff.2 hne
 have hbk : (bitsL L).length ≤ 146 * L.length := (rows_ok L ec0 ok0 (Int.le_refl _) (by show (0 : Int) + _ ≤ _; omega) hinc).2.2.1
 have hrise : RiseC ec0 L := rise_of hinc (oc.riseL hm) (by omega)
 have hall : allC (pack (bitsL L)) (((bitsL L).length : Nat) : Int) = (rcS 0 ec0 L, 0) := allC_laid hinc hrise (by omega)
 rw [chFr_eq oc hL hne]
 have hfit : fitD E ⟨0, 0, x, j, 0, 0, L.length, decide (j + 1 < C.length), 0, pack (bitsL L), ((bitsL L).length : Nat)⟩ = (0, L) := by
  unfold fitD
  rw [hfu, if_neg (by decide), hch]
  unfold fitC
  rw [mend_old hE hEl rfl rfl rfl]
  show fitJ _ _ _ _ = _
  unfold fitJ
  rw [if_neg (by rw [sound_pack]; decide), Int.toNat_natCast, bits_pack, List.nil_append, hall]
  unfold fitR
  have hop : opensB (E.at_ x) (((rcS 0 ec0 L).map smpR).head?.getD (0, 0)).1 = true := by
   rw [rcS_smp]
   cases hg : (E.at_ x).dropLast.flatten.getLast? with
   | none => exact opensB_none hg
   | some y =>
    rw [opensB_some hg, decide_eq_true_eq]
    rw [hd] at hg
    have hy : y ∈ (C.take j).flatten := List.mem_of_getLast? hg
    obtain ⟨s, L', rfl⟩ : ∃ s L', L = s :: L' := by
     cases L with
     | nil => exact absurd rfl hne
     | cons s L' => exact ⟨s, L', rfl⟩
    show y.1 < s.1
    have h2 := (List.getElem?_eq_some_iff.1 hL).2
    have e : C = C.take j ++ (s :: L') :: C.drop (j + 1) := by rw [← h2]; simp
    have hr2 := oc.rise
    rw [e, List.flatten_append, List.flatten_cons] at hr2
    exact (List.pairwise_append.1 hr2).2.2 y hy s (by simp)
  rw [if_pos ⟨rfl, by rw [rcS_length], by show 0 < L.length; exact hpos, by rw [rcS_length]; exact hlch, hop⟩, rcS_smp]
 refine ⟨hfit, rfl, ?_, ?_, ?_⟩
 ·refine ⟨by show 0 < 256; decide, by show 0 < 4294967296; decide, hx, by show j < _; omega, by show 0 < 4294967296; decide, by show 0 < 4294967296; decide, by show L.length < _; omega, by show 0 < 18446744073709551616; decide, ?_, ?_⟩
  ·show (-9223372036854775808 : Int) ≤ ((bitsL L).length : Nat); omega
  ·show (((bitsL L).length : Nat) : Int) ≤ 9223372036854775807; omega
 ·show (pack (bitsL L)).length ≤ 1000
  rw [pack_length]
  unfold nb
  omega
 ·unfold takeD
  rw [hfit, if_pos rfl]
  show BD.mk E.mo E.ch (putM E.M x (setLast (E.at_ x) L (decide (j + 1 < C.length)))) = _
  unfold setLast
  rw [hd]
end Go.Proofs.YtiliineopplinaaGreatDoor
set_option linter.unusedSimpArgs false
set_option linter.unusedVariables false
namespace Go.Proofs.YtiliineopplinaaGreatDoor
open Go.RowKit
set_option maxRecDepth 100000
theorem nodup_sub : ∀ {xs ys : List Nat}, xs.Nodup → (∀ x ∈ xs, x ∈ ys) → xs.length ≤ ys.length
 | [], ys, _, _ => Nat.zero_le _
 | x :: xs, ys, h, hs => by
  have hx := hs x List.mem_cons_self
  have h1 : xs.length ≤ (ys.erase x).length := nodup_sub (List.nodup_cons.1 h).2 fun y hy => by
   have hne : y ≠ x := fun e => (List.nodup_cons.1 h).1 (by rw [← e]; exact hy)
   exact (List.mem_erase_of_ne hne).2 (hs y (List.mem_cons_of_mem _ hy))
  rw [List.length_erase_of_mem hx] at h1
  have h2 : 0 < ys.length := List.length_pos_of_mem hx
  rw [List.length_cons]
  omega
def Good : BD → List FrD → Prop
 | _, [] => True
 | B, f :: F => ((fitD B f).1 = 0 ∧ f.se < 4294967296 ∧ f.ok ∧ f.l.length ≤ 1000 ∧ (B.at_ f.se).flatten.length + 24 ≤ 1000) ∧ Good (takeD B f) F
theorem Good.append : ∀ {B : BD} {F G : List FrD}, Good B F → Good (F.foldl takeD B) G → Good B (F ++ G)
 | _, [], _, _, h => h
 | B, f :: F, G, h1, h2 => ⟨h1.1, Good.append (B := takeD B f) h1.2 h2⟩
theorem Good.at_ : ∀ {B : BD} {F : List FrD} {i : Nat} {f : FrD}, Good B F → F[i]? = some f → (fitD ((F.take i).foldl takeD B) f).1 = 0 ∧ f.se < 4294967296 ∧ f.ok ∧ f.l.length ≤ 1000 ∧ (((F.take i).foldl takeD B).at_ f.se).flatten.length + 24 ≤ 1000
 | _, [], i, f, _, h => by cases h
 | B, g :: F, 0, f, h1, h => by
  injection h with h
  subst h
  exact h1.1
 | B, g :: F, i + 1, f, h1, h => Good.at_ (B := takeD B g) (F := F) (i := i) h1.2 h
theorem fold_succ {B : BD} {F : List FrD} {i : Nat} {f : FrD} (h : F[i]? = some f) : (F.take (i + 1)).foldl takeD B = takeD ((F.take i).foldl takeD B) f := by
 have hi := (List.getElem?_eq_some_iff.1 h).1
 rw [List.take_succ_eq_append_getElem hi, (List.getElem?_eq_some_iff.1 h).2, List.foldl_append]
 rfl
structure MB (D B : BD) : Prop where
 mo : B.mo = D.mo
 ch : B.ch = D.ch
 nd : (B.M.map Prod.fst).Nodup
 sub : ∀ y ∈ B.M.map Prod.fst, y ∈ D.M.map Prod.fst
theorem MB.full {D B : BD} (h : MB D B) (hD : OkD D) {x : Nat} (hx : x ∈ D.M.map Prod.fst) : fullD B x = false := by
 unfold fullD
 rw [decide_eq_false_iff_not]
 rintro ⟨h1, h2⟩
 rw [Option.isNone_iff_eq_none, lookM_none] at h1
 have h3 : (x :: B.M.map Prod.fst).length ≤ (D.M.map Prod.fst).length := nodup_sub (List.nodup_cons.2 ⟨fun hm => by
  obtain ⟨p, hp, e⟩ := List.mem_map.1 hm
  exact h1 p hp e, h.nd⟩) fun y hy => by
  rcases List.mem_cons.1 hy with rfl | hy
  ·exact hx
  ·exact h.sub y hy
 rw [List.length_cons, List.length_map, List.length_map] at h3
 have h4 := hD.few
 have h5 := h.mo
 omega
theorem MB.put {D B : BD} (h : MB D B) {x : Nat} (hx : x ∈ D.M.map Prod.fst) (A : CsT) : MB D ⟨B.mo, B.ch, putM B.M x A⟩ := by
 refine ⟨h.mo, h.ch, nodup_put h.nd x A, fun y hy => ?_⟩
 obtain ⟨p, hp, rfl⟩ := List.mem_map.1 hy
 rcases mem_put hp with rfl | hp
 ·exact hx
 ·exact h.sub _ (List.mem_map_of_mem hp)
theorem at_putM (B : BD) (x y : Nat) (A : CsT) : (BD.mk B.mo B.ch (putM B.M x A)).at_ y = if y = x then A else B.at_ y := by
 unfold BD.at_
 rw [look_put]
 split <;> rfl
structure MI (C A : CsT) (j : Nat) : Prop where
 ne : A ≠ []
 len : A.length = j + 1
 drop : A.dropLast = C.take j
 last : (lastL A).length ≤ 24
theorem mend_run {sz k : Nat} {D : BD} (hD : LaI sz k D) (h24 : sz ≤ 24) (hk : k ≤ 900) {x : Nat} (hx : x ∈ D.M.map Prod.fst) : ∀ (d j : Nat) (B : BD), j + d = chN (D.at_ x) → 0 < d → MB D B → MI (D.at_ x) (B.at_ x) j →
  Good B ((List.range' j d).map (chFr x (D.at_ x))) ∧ MB D (((List.range' j d).map (chFr x (D.at_ x))).foldl takeD B) ∧ (((List.range' j d).map (chFr x (D.at_ x))).foldl takeD B).at_ x = D.at_ x ∧ ∀ y, y ≠ x → (((List.range' j d).map (chFr x (D.at_ x))).foldl takeD B).at_ y = B.at_ y
 | 0, j, B, _, h0, _, _ => absurd h0 (Nat.lt_irrefl 0)
 | d + 1, j, B, hjd, _, hB, hM => by
  have oc := hD.ok.at_ x
  have hfull := hD.full x
  have hlast := hD.last x
  have hlen := hD.len x
  have hx32 : x < 4294967296 := by
   obtain ⟨p, hp, e⟩ := List.mem_map.1 hx
   rw [← e]
   exact hD.ok.key p hp
  obtain ⟨C, hC⟩ : ∃ C, C = D.at_ x := ⟨_, rfl⟩
  rw [← hC] at hjd hM oc hfull hlast hlen ⊢
  have hj : j < chN C := by omega
  obtain ⟨L, hL, hne⟩ := chN_get oc hj
  have hjl := (List.getElem?_eq_some_iff.1 hL).1
  have hle : ∀ L ∈ C, L.length ≤ sz := fun L hL => by
   rw [← cs_split oc.ne] at hL
   rcases List.mem_append.1 hL with h | h
   ·rw [hfull L h]; exact Nat.le_refl _
   ·rw [List.mem_singleton.1 h]; omega
  obtain ⟨f1, f2, f3, f4, f5⟩ := mend_main oc hx32 h24 hle hL hne hM.ne hM.drop hM.len (by rw [hB.ch, hD.ch]) (hB.full hD.ok hx)
  have hfl : (B.at_ x).flatten.length + 24 ≤ 1000 := by
   rw [cs_flat hM.ne, hM.drop, List.length_append]
   have h1 : (C.take j).flatten.length ≤ C.flatten.length := by
    conv => rhs; rw [← List.take_append_drop j C, List.flatten_append, List.length_append]
    omega
   have h2 := hM.last
   omega
  have hg : (fitD B (chFr x C j)).1 = 0 ∧ (chFr x C j).se < 4294967296 ∧ (chFr x C j).ok ∧ (chFr x C j).l.length ≤ 1000 ∧ (B.at_ (chFr x C j).se).flatten.length + 24 ≤ 1000 := ⟨by rw [f1], by rw [f2]; exact hx32, f3, f4, by rw [f2]; exact hfl⟩
  rw [List.range'_succ, List.map_cons, List.foldl_cons]
  have hB2 : MB D (takeD B (chFr x C j)) := by rw [f5]; exact hB.put hx _
  have hat2 : (takeD B (chFr x C j)).at_ x = C.take j ++ (if decide (j + 1 < C.length) then [L, []] else [L]) := by rw [f5, at_putM, if_pos rfl]
  have hot2 : ∀ y, y ≠ x → (takeD B (chFr x C j)).at_ y = B.at_ y := fun y hy => by rw [f5, at_putM, if_neg hy]
  have htk : C.take j ++ [L] = C.take (j + 1) := by rw [List.take_succ_eq_append_getElem hjl, (List.getElem?_eq_some_iff.1 hL).2]
  by_cases hc : j + 1 < C.length
  ·rw [decide_eq_true hc] at hat2
   have hat3 : (takeD B (chFr x C j)).at_ x = C.take (j + 1) ++ [[]] := by rw [hat2, ← htk]; simp
   rcases Nat.eq_zero_or_pos d with hd | hd
   ·subst hd
    refine ⟨⟨hg, trivial⟩, hB2, ?_, hot2⟩
    show (takeD B (chFr x C j)).at_ x = C
    rw [hat3]
    have h1 : chN C = j + 1 := by omega
    have h2 : lastL C = [] ∧ C.length = j + 2 := by
     unfold chN at h1
     split at h1
     ·rename_i h; exact ⟨h, by omega⟩
     ·omega
    have h3 := cs_split oc.ne
    rw [h2.1, List.dropLast_eq_take, h2.2] at h3
    exact h3
   ·obtain ⟨r1, r2, r3, r4⟩ := mend_run hD h24 hk hx d (j + 1) (takeD B (chFr x C j)) (by rw [← hC]; omega) hd hB2 (by
     rw [← hC, hat3]
     refine ⟨by simp, by rw [List.length_append, List.length_take, List.length_singleton]; omega, by rw [List.dropLast_concat], ?_⟩
     unfold lastL
     rw [List.getLast?_concat]
     exact Nat.zero_le _)
    rw [← hC] at r1 r2 r3 r4
    exact ⟨⟨hg, r1⟩, r2, r3, fun y hy => (r4 y hy).trans (hot2 y hy)⟩
  ·have hCl : C.length = j + 1 := by omega
   rw [decide_eq_false hc] at hat2
   have hat3 : (takeD B (chFr x C j)).at_ x = C := by
    rw [hat2]
    show C.take j ++ [L] = C
    rw [htk, ← hCl, List.take_length]
   have hd : d = 0 := by unfold chN at hjd; split at hjd <;> omega
   subst hd
   exact ⟨⟨hg, trivial⟩, hB2, hat3, hot2⟩
structure MS (D E B : BD) (P : Nat → Prop) : Prop where
 mb : MB D B
 done_ : ∀ y, P y → B.at_ y = D.at_ y
 rest : ∀ y, ¬ P y → B.at_ y = E.at_ y
theorem range_drop (n j : Nat) : (List.range n).drop j = List.range' j (n - j) := by
 apply List.ext_getElem
 ·simp
 ·intro i h1 h2
  simp
theorem mend_series {sz k k2 : Nat} {E D : BD} (hE : LaI sz k E) (hD : LaI sz k2 D) (h24 : sz ≤ 24) (hk2 : k2 ≤ 900) {x : Nat} (hx : x ∈ ksD D) (hF : FrC (E.at_ x) (D.at_ x)) {P : Nat → Prop} (hP : ¬ P x) {B : BD} (h : MS D E B P) :
  Good B (lackC (leavesD E) x (D.at_ x)) ∧ MS D E ((lackC (leavesD E) x (D.at_ x)).foldl takeD B) (fun y => P y ∨ y = x) := by
 have hkE : x ∈ ksD E ∨ E.at_ x = [[]] := by
  cases e : lookM E.M x with
  | none => exact Or.inr (by unfold BD.at_; rw [e]; rfl)
  | some A => exact Or.inl (ksD_mem.2 ⟨_, lookM_mem e, rfl⟩)
 unfold lackC
 rw [range_drop]
 rcases lack_front hE hD hx hkE hF with ⟨h1, h2⟩ | ⟨h1, h2⟩
 ·rw [h1, Nat.sub_self]
  refine ⟨trivial, h.mb, fun y hy => ?_, fun y hy => h.rest y fun h => hy (Or.inl h)⟩
  rcases hy with hy | rfl
  ·exact h.done_ y hy
  ·exact (h.rest _ hP).trans h2.symm
 ·have oE := hE.ok.at_ x
  have hAlen : (E.at_ x).length = (E.at_ x).length - 1 + 1 := by
   have : (E.at_ x).length ≠ 0 := fun h => oE.ne (List.length_eq_zero_iff.1 h)
   omega
  have hl := hE.last x
  obtain ⟨L, R, e1, p1⟩ := hF
  have hM : MI (D.at_ x) (B.at_ x) ((E.at_ x).length - 1) := by
   rw [h.rest x hP]
   refine ⟨oE.ne, hAlen, ?_, by omega⟩
   rw [e1]
   exact (List.take_left' (by rw [List.length_dropLast])).symm
  rw [h1]
  have hxm : x ∈ D.M.map Prod.fst := (ksD_perm D).subset hx
  obtain ⟨r1, r2, r3, r4⟩ := mend_run hD h24 hk2 hxm (chN (D.at_ x) - ((E.at_ x).length - 1)) ((E.at_ x).length - 1) B (by omega) (by omega) h.mb hM
  refine ⟨r1, r2, fun y hy => ?_, fun y hy => ?_⟩
  ·by_cases e : y = x
   ·subst e; exact r3
   ·exact (r4 y e).trans (h.done_ y (hy.resolve_right e))
  ·have e : y ≠ x := fun e => hy (Or.inr e)
   exact (r4 y e).trans (h.rest y fun h => hy (Or.inl h))
theorem mend_all {sz k k2 : Nat} {E D : BD} (hE : LaI sz k E) (hD : LaI sz k2 D) (h24 : sz ≤ 24) (hk2 : k2 ≤ 900) (hF : ∀ x, FrC (E.at_ x) (D.at_ x)) : ∀ (xs : List Nat) (P : Nat → Prop) (B : BD), xs.Nodup → (∀ x ∈ xs, x ∈ ksD D ∧ ¬ P x) → MS D E B P →
  Good B (lackX (leavesD E) D xs) ∧ MS D E ((lackX (leavesD E) D xs).foldl takeD B) (fun y => P y ∨ y ∈ xs)
 | [], P, B, _, _, h => ⟨trivial, h.mb, fun y hy => h.done_ y (hy.resolve_right (by simp)), fun y hy => h.rest y fun h => hy (Or.inl h)⟩
 | x :: xs, P, B, hn, hx, h => by
  obtain ⟨h1, h2⟩ := hx x List.mem_cons_self
  obtain ⟨g1, m1⟩ := mend_series hE hD h24 hk2 h1 (hF x) h2 h
  obtain ⟨g2, m2⟩ := mend_all hE hD h24 hk2 hF xs (fun y => P y ∨ y = x) _ (List.nodup_cons.1 hn).2 (fun y hy => ⟨(hx y (List.mem_cons_of_mem _ hy)).1, fun h => by
   rcases h with h | rfl
   ·exact (hx y (List.mem_cons_of_mem _ hy)).2 h
   ·exact (List.nodup_cons.1 hn).1 hy⟩) m1
  have e : lackX (leavesD E) D (x :: xs) = lackC (leavesD E) x (D.at_ x) ++ lackX (leavesD E) D xs := rfl
  rw [e, List.foldl_append]
  refine ⟨g1.append g2, m2.mb, fun y hy => m2.done_ y ?_, fun y hy => m2.rest y fun h => hy ?_⟩
  ·rcases hy with hy | hy
   ·exact Or.inl (Or.inl hy)
   ·rcases List.mem_cons.1 hy with rfl | hy
    ·exact Or.inl (Or.inr rfl)
    ·exact Or.inr hy
  ·rcases h with (h | rfl) | h
   ·exact Or.inl h
   ·exact Or.inr List.mem_cons_self
   ·exact Or.inr (List.mem_cons_of_mem _ h)
end Go.Proofs.YtiliineopplinaaGreatDoor
set_option linter.unusedSimpArgs false
set_option linter.unusedVariables false
namespace Go.Proofs.YtiliineopplinaaGreatDoor
open Go.RowKit
set_option maxRecDepth 100000
theorem key_at {X : BD} (h : OkD X) (y : Nat) : y ∈ X.M.map Prod.fst ↔ (X.at_ y).flatten ≠ [] := by
 constructor
 ·intro hy
  obtain ⟨p, hp, rfl⟩ := List.mem_map.1 hy
  rw [at_of_mem h hp]
  exact h.some_ p hp
 ·intro hf
  cases e : lookM X.M y with
  | none => exact absurd (by unfold BD.at_; rw [e]; rfl) hf
  | some A => exact List.mem_map_of_mem (f := Prod.fst) (lookM_mem e)
theorem FrC.some {E C : CsT} (hE : E ≠ []) (h : FrC E C) (hf : E.flatten ≠ []) : C.flatten ≠ [] := by
 obtain ⟨L, R, e, p⟩ := h
 intro h0
 rw [e, List.flatten_append, List.flatten_cons] at h0
 have h1 := List.append_eq_nil_iff.1 h0
 have h2 := List.append_eq_nil_iff.1 h1.2
 rw [h2.1] at p
 exact hf (by rw [cs_flat hE, h1.1, List.prefix_nil.1 p]; rfl)
theorem mend_sub {E D : BD} (hE : OkD E) (hD : OkD D) (hF : ∀ x, FrC (E.at_ x) (D.at_ x)) : ∀ y ∈ E.M.map Prod.fst, y ∈ D.M.map Prod.fst := fun y hy => (key_at hD y).2 ((hF y).some (hE.at_ y).ne ((key_at hE y).1 hy))
theorem mend_start {sz k k2 : Nat} {E D : BD} (hE : LaI sz k E) (hD : LaI sz k2 D) (hF : ∀ x, FrC (E.at_ x) (D.at_ x)) : MS D E E (fun _ => False) :=
 ⟨⟨by rw [hE.mo, hD.mo], by rw [hE.ch, hD.ch], hE.ok.nd, mend_sub hE.ok hD.ok hF⟩, fun y h => h.elim, fun y _ => rfl⟩
theorem ks_strict {X : BD} (h : OkD X) : ((ksD X).map fun x => ((x, 0) : KyD)).Pairwise fun a b => a.1 < b.1 := by
 rw [List.pairwise_map]
 have hnd : (ksD X).Nodup := (ksD_perm X).symm.nodup h.nd
 exact ((ksD_rise X).and hnd).imp fun {a b} hab => by obtain ⟨q1, q2⟩ := hab; show a < b; omega
theorem mend_end {sz k k2 : Nat} {E D B : BD} (hE : LaI sz k E) (hD : LaI sz k2 D) (hF : ∀ x, FrC (E.at_ x) (D.at_ x)) (h : MS D E B (fun y => y ∈ ksD D)) (hB : OkD B) : (∀ y, B.at_ y = D.at_ y) ∧ leavesD B = leavesD D := by
 have hat : ∀ y, B.at_ y = D.at_ y := fun y => by
  by_cases hy : y ∈ ksD D
  ·exact h.done_ y hy
  ·have hy1 : y ∉ D.M.map Prod.fst := fun hm => hy ((ksD_perm D).symm.subset hm)
   have hy2 : y ∉ E.M.map Prod.fst := fun hm => hy1 (mend_sub hE.ok hD.ok hF y hm)
   have none_ : ∀ X : BD, y ∉ X.M.map Prod.fst → X.at_ y = [[]] := fun X hX => by
    cases e : lookM X.M y with
    | none => unfold BD.at_; rw [e]; rfl
    | some A => exact absurd (List.mem_map_of_mem (f := Prod.fst) (lookM_mem e)) hX
   rw [h.rest y hy, none_ E hy2, none_ D hy1]
 have hks : ksD B = ksD D := by
  have h1 : (ksD B).map (fun x => ((x, 0) : KyD)) = (ksD D).map fun x => ((x, 0) : KyD) := asc_uniq (ks_strict hB) (ks_strict hD.ok) fun z => by
   rw [List.mem_map, List.mem_map]
   have h2 : ∀ x, x ∈ ksD B ↔ x ∈ ksD D := fun x => by
    rw [(ksD_perm B).mem_iff, (ksD_perm D).mem_iff, key_at hB, key_at hD.ok, hat]
   constructor
   ·rintro ⟨x, hx, e⟩; exact ⟨x, (h2 x).1 hx, e⟩
   ·rintro ⟨x, hx, e⟩; exact ⟨x, (h2 x).2 hx, e⟩
  have h3 := congrArg (List.map Prod.fst) h1
  rw [List.map_map, List.map_map] at h3
  simpa [Function.comp_def] using h3
 refine ⟨hat, ?_⟩
 unfold leavesD leavesX
 rw [hks]
 congr 1
 funext x
 rw [hat]
theorem mend_data {sz k k2 : Nat} {E D : BD} (hE : LaI sz k E) (hD : LaI sz k2 D) (h24 : sz ≤ 24) (hk2 : k2 ≤ 900) (hF : ∀ x, FrC (E.at_ x) (D.at_ x)) : Good E (lackX (leavesD E) D (ksD D)) ∧ ∀ B, B = (lackX (leavesD E) D (ksD D)).foldl takeD E → OkD B → (∀ y, B.at_ y = D.at_ y) ∧ leavesD B = leavesD D := by
 obtain ⟨h1, h2⟩ := mend_all hE hD h24 hk2 hF (ksD D) (fun _ => False) E ((ksD_perm D).symm.nodup hD.ok.nd) (fun x hx => ⟨hx, id⟩) (mend_start hE hD hF)
 refine ⟨h1, fun B hB ok => mend_end hE hD hF ?_ ok⟩
 rw [hB]
 exact ⟨h2.mb, fun y hy => h2.done_ y (Or.inr hy), fun y hy => h2.rest y fun h => hy (h.resolve_left id)⟩
theorem Rw.takeN {α : Type} {w : World} {enc : α → List Value} {sz : Nat} {V : Option Addr} {l : List α} (h : Rw w enc sz V l) (k : Nat) : Rw w enc sz V (l.take k) := fun i x hi => h i x (by
 rw [List.getElem?_take] at hi
 split at hi
 ·exact hi
 ·cases hi)
theorem run_frontO (V : Option Addr) (n c k : Nat) (hk : k ≤ n) (hc : n ≤ c) (w : World) : (Instr.slice 22 (.slice V n c) none (some (.int .i64 (k : Nat))) none).run Tryz.prog w = .ok (.slice V k c) w := by
 have hi : (Tryz.prog.info? 59).map (fun i => i.size) = some 17 := by kernel_rfl
 have hs : (sizeOf (Tryz.prog.elem 22)).run Tryz.prog w = .ok 17 w := by
  have e : Tryz.prog.elem 22 = 59 := by kernel_rfl
  rw [e]
  obtain ⟨i, h1, h2⟩ := Option.map_eq_some_iff.1 hi
  simp [sizeOf, typeInfo, h1, h2]
 rw [run_slice_h w 22 V n c Tryz.underlying22 .i64 (k : Nat) (by omega) (by omega), hs]
 simp only [Result.andThen, sliced, Int.toNat_natCast, Nat.zero_mul, Nat.sub_zero]
 congr 2
 cases V with
 | none => simp
 | some a =>
  simp only [Option.map_some]
  first | rfl | (split <;> first | rfl | simp [Addr.add])
end Go.Proofs.YtiliineopplinaaGreatDoor
set_option linter.unusedSimpArgs false
set_option linter.unusedVariables false
namespace Go.Proofs.YtiliineopplinaaGreatDoor
open Go.RowKit
set_option maxRecDepth 100000
set_option maxHeartbeats 8000000 in
theorem digestMends_walk (size : Int) (V : Option Addr) (c : Nat) (l : List OB) (ka : Int) (w : World) (hsz : in64 size) (hV : Rw w encOB 17 V l) (hlc : l.length ≤ c) (hok : ∀ o ∈ l, OkOB o) (hka : in64 ka) (hT : Tab w) :
  Calls Tryz.prog 3 #[.int .i64 size, .slice V l.length c, .int .i64 ka] w fun e w' => e = .returned (.bool true) ∧ Below w.heap.size w w' := by
 have hmx : Tryz.prog.follows .mixedOrders = true := by kernel_rfl
 have HKn := Lib.hid (dgKnown_any w hT)
 have HV := Lib.hid (And.intro hsz (And.intro hV (And.intro hok hT)))
 obtain ⟨n, hn⟩ : ∃ n, n = l.length := ⟨_, rfl⟩
 have HN := Lib.hid hn
 rw [← hn] at hlc ⊢
 clear hsz hV hok hT hn
 unfold in64 at hka
 go_enter Tryz.func3, Tryz.ntmps3
 by_cases h60 : n ≤ 50
 rotate_left
 ·have h60b : (50 : Int) < (n : Int) := by omega
  have h60c : 50 < n := by omega
  go_wp2_with (go_at_call 4; refine HKn.out.mono ?_; rintro e w2 ⟨rfl, b2⟩)
  go_ret
  exact ⟨rfl, b2⟩
 have h60b : ¬ (50 : Int) < (n : Int) := by omega
 have h60c : ¬ 50 < n := by omega
 go_upto_region 3 with (go_at_call 4; refine HKn.out.mono ?_; rintro e w2 ⟨rfl, b2⟩)
 have HLy := Lib.hid (bLay_any (Sep.nil b2 b2.size) HV.out.2.2.2 (Nat.le_refl _) size HV.out.1 V c l HV.out.2.1 HV.out.2.2.1 (by rw [← HN.out]; omega))
 rw [← HN.out] at HLy
 clear b2 HKn
 go_upto_region 4 with (go_at_call 5; refine HLy.out.mono ?_; rintro e w3 ⟨q, T, A, cc, rfl, hTD, hB⟩)
 have hsz1 : 1 ≤ laSz size ∧ laSz size ≤ 24 := by unfold laSz; omega
 obtain ⟨D, hD⟩ : ∃ D, D = laD (laSz size) l := ⟨_, rfl⟩
 have hLa : LaI (laSz size) l.length D := by
  have := laD_ok hsz1.1 hsz1.2 l HV.out.2.2.1 l.length (Nat.le_refl _) (by rw [← HN.out]; omega)
  rw [List.take_length, ← hD] at this
  exact this
 rw [← HN.out] at hLa
 rw [← hD] at hTD hB
 rw [List.append_nil] at hB
 obtain ⟨tn, htn⟩ : ∃ n, n = T.length := ⟨_, rfl⟩
 rw [← htn] at hB ⊢
 obtain ⟨X, hXq, hXD, hXok, hSX⟩ := hB
 have HX := Lib.hid (And.intro hXq (And.intro hXD hXok))
 have HSX := Lib.hid hSX
 have HL := Lib.hid (And.intro hLa (And.intro hTD htn))
 have HD := Lib.hid hD
 have htn64 : tn ≤ 64 := by
  have h1 := hLa.ok.few
  have h2 := hLa.ok.mo2
  have h3 := congrArg List.length hTD
  rw [List.length_map, allD_len] at h3
  omega
 clear hLa hTD htn hXq hXD hXok hSX HLy hD
 go_upto_region 5 with fail
 obtain ⟨nn, hnn, hnn2⟩ : ∃ nn : Nat, max ka 0 % ((n : Int) + 1) = (nn : Int) ∧ nn ≤ n := by
  have h1 := Int.emod_nonneg (max ka 0) (show ((n : Int) + 1) ≠ 0 by omega)
  have h2 := Int.emod_lt_of_pos (max ka 0) (show (0 : Int) < (n : Int) + 1 by omega)
  exact ⟨(max ka 0 % ((n : Int) + 1)).toNat, by omega, by omega⟩
 rw [hnn]
 clear hnn
 have hsl : ∀ w, (Instr.slice 22 (.slice V n c) none (some (.int .i64 (nn : Nat))) none).run Tryz.prog w = .ok (.slice V nn c) w := fun w => run_frontO V n c nn hnn2 hlc w
 have htl : (l.take nn).length = nn := by rw [List.length_take, ← HN.out]; omega
 have hLy2 := bLay_any HSX.out HV.out.2.2.2 (Nat.le_refl _) size HV.out.1 V c (l.take nn) (HV.out.2.1.takeN nn) (fun o ho => HV.out.2.2.1 o (List.mem_of_mem_take ho)) (by rw [htl]; omega)
 rw [htl] at hLy2
 obtain ⟨E, hE⟩ : ∃ E, E = laD (laSz size) (l.take nn) := ⟨_, rfl⟩
 rw [← hE] at hLy2
 have hLaE : LaI (laSz size) nn E := by
  have := laD_ok hsz1.1 hsz1.2 l HV.out.2.2.1 nn (by rw [← HN.out]; omega) (by omega)
  rw [← hE] at this
  exact this
 have hFr : ∀ x, FrC (E.at_ x) (D.at_ x) := fun x => by
  have h1 := laD_front hsz1.1 hsz1.2 l HV.out.2.2.1 (by rw [← HN.out]; omega) nn x (n - nn) (by rw [← HN.out]; omega)
  rw [show nn + (n - nn) = l.length by rw [← HN.out]; omega, List.take_length, ← HD.out, ← hE] at h1
  exact h1
 have hMd := mend_data hLaE HL.out.1 hsz1.2 (by omega) hFr
 have HLy2 := Lib.hid hLy2
 have HM := Lib.hid (And.intro hLaE hMd)
 clear hLy2 hLaE hFr hMd hE htl HSX HD hsz1
 go_upto_region 8 with (go_at_call 5; refine HLy2.out.mono ?_; rintro e w4 ⟨p, T2, A2, cc2, rfl, -, hB2⟩)
 have hK0 : Bk2 w.heap.size w w4 p E q D (laT (.slice A tn cc) T) :=
  Bk2.sub (ts := laT (.slice A tn cc) T ++ laT (.slice A2 T2.length cc2) T2) ⟨X, HX.out.1, HX.out.2.1, HX.out.2.2, hB2.perm (List.perm_middle.trans (List.Perm.cons _ List.perm_append_comm))⟩ (List.sublist_append_left _ _)
 have HK0 := Lib.hid hK0.swap
 clear hK0 hB2 HX HLy2 hsl
 obtain ⟨LE, hLE⟩ : ∃ L, L = leavesD E := ⟨_, rfl⟩
 obtain ⟨len_, hlen⟩ : ∃ k, k = LE.length := ⟨_, rfl⟩
 have hlv := leaves_any HK0.out.snd.choose_spec
 rw [← hLE, ← hlen] at hlv
 have HLv := Lib.hid hlv
 have hlen4 : len_ ≤ 3840 := by rw [hlen, hLE]; exact leaves_few HM.out.1 (by omega)
 have hokE : ∀ x ∈ LE, LfOk x := by rw [hLE]; exact leaves_ok HM.out.1 (by omega)
 have hLk : ∀ (W : World) (U : Option Addr) (cu : Nat), Below w4.heap.size w4 W → Rw W encLf 4 U LE → Calls Tryz.prog 6 #[ptB q, .slice U len_ cu] W (LkO LE D W) := fun W U cu hW hR => by
  have h3 := lacks_any (HK0.out.go hW).fst.choose_spec U cu LE hR hokE (by rw [← hlen]; omega)
  rw [← hlen] at h3
  exact h3
 have HLk := Lib.hid hLk
 have HLE := Lib.hid (And.intro hLE hlen)
 clear hLE hlen hlv hokE hLk
 go_wp2_with (first | (go_at_call 7; refine HLv.out.mono ?_; rintro e w5 ⟨U5, c5, rfl, hS5⟩; have HW5 := Lib.hid (And.intro hS5.b (hS5.at_ (t := thR 57 encLf 4 (.slice U5 len_ c5) LE) 0 rfl)); clear hS5) | (go_at_call 6; refine (HLk.out w5 U5 c5 HW5.out.1 (by obtain ⟨A9, c9, e9, -, hR⟩ := OwnR.row Tryz.eltLf HW5.out.2; injection e9 with e1 _ _; rw [e1]; exact hR)).mono ?_; rintro e w6 ⟨U6, c6, F, rfl, hS6, hF6⟩; obtain ⟨tf, htf⟩ : ∃ k, k = F.length := ⟨_, rfl⟩; rw [← htf] at hS6 ⊢; have HW6 := Lib.hid (And.intro htf (And.intro hS6 hF6)); clear htf hS6 hF6))
 obtain ⟨FL, hFL⟩ : ∃ L, L = lackX (leavesD E) D (ksD D) := ⟨_, rfl⟩
 have hFm : F.map (fun y => y.f) = FL := by rw [hFL, ← HLE.out.1]; exact HW6.out.2.2
 have hMd := HM.out.2
 rw [← hFL] at hMd
 have HMd := Lib.hid hMd
 have HF := Lib.hid (And.intro HW6.out.1 hFm)
 have HK6 := Lib.hid ((HK0.out.go HW5.out.1).consL HW6.out.2.1)
 have htf9 : tf ≤ 64064 := by
  have h1 := lackX_len (kn := leavesD E) HL.out.1.ok (ksD D)
  rw [← hFL, ← hFm, List.length_map, ← HW6.out.1, ksD_len] at h1
  have h2 := HL.out.1.ok.few
  have h3 := HL.out.1.ok.mo2
  omega
 clear hFL hFm hMd HW5 HW6 HLv HLk HLE HK0 hlen4 HM
 go_loopw [13] (fun s13 wr => ∃ i : Nat, s13 = .int .i64 (i : Nat) ∧ i ≤ tf ∧ Hid (Bk2 w.heap.size w wr q D p ((FL.take i).foldl takeD E) (chT (.slice U6 tf c6) F ++ laT (.slice A tn cc) T)))
  (fun s13 _ => tf - (intOf s13).toNat)
 case atStart => exact ⟨0, by go_num, Nat.zero_le _, HK6⟩
 case round =>
  obtain ⟨i, rfl, hi, HBi⟩ := hrel
  obtain ⟨wi, hwi⟩ : ∃ wi, wi = wr := ⟨_, rfl⟩
  rw [← hwi] at HBi ⊢
  clear hwi HK6
  by_cases hit : i < tf
  ·obtain ⟨y, hy⟩ : ∃ y, F[i]? = some y := ⟨_, List.getElem?_eq_getElem (by rw [← HF.out.1]; exact hit)⟩
   have hyF : FL[i]? = some y.f := by rw [← HF.out.2, List.getElem?_map, hy]; rfl
   obtain ⟨g1, g2, g3, g4, g5⟩ := HMd.out.1.at_ hyF
   have hfs := fold_succ (B := E) hyF
   obtain ⟨gf, hgf, -, hc⟩ := row_at Tryz.eltFrE (HBi.out.sep.at_ (t := thR 43 encFrE 11 (.slice U6 tf c6) F) 0 rfl) hy
   have hbits := HBi.out.sep.get (t := frB y) (List.mem_append_left _ (List.mem_cons_of_mem _ (List.mem_map.2 ⟨y, List.mem_of_getElem? hy, rfl⟩)))
   subst hgf
   obtain ⟨B1, hB1⟩ : ∃ B, B = (FL.take i).foldl takeD E := ⟨_, rfl⟩
   rw [← hB1] at HBi g1 g5 hfs
   obtain ⟨⟨kd, ep, se, fc, fb, fn, cn, cl, sm, fl, fnn⟩, A3, c3⟩ := y
   have hb : Bs wi A3 fl := OwnB.bs hbits
   have htk := bk2_take HBi.out (tabGo HV.out.2.2.2 HBi.out.b) _ g3 A3 c3 hb g4 g5
   rw [g1, ← hfs] at htk
   simp only [frC] at htk
   obtain ⟨fll, hfll⟩ : ∃ k, k = fl.length := ⟨_, rfl⟩
   rw [← hfll] at htk
   have HTk := Lib.hid htk
   have f0 : wi.cell? ⟨gf, i * 11, none⟩ = some (.int .u8 ((kd : Nat) : Int)) := hc 0 _ rfl
   have f1 : wi.cell? ⟨gf, i * 11 + 1, none⟩ = some (.int .u32 ((ep : Nat) : Int)) := hc 1 _ rfl
   have f2 : wi.cell? ⟨gf, i * 11 + 2, none⟩ = some (.int .u32 ((se : Nat) : Int)) := hc 2 _ rfl
   have f3 : wi.cell? ⟨gf, i * 11 + 3, none⟩ = some (.int .u32 ((fc : Nat) : Int)) := hc 3 _ rfl
   have f4 : wi.cell? ⟨gf, i * 11 + 4, none⟩ = some (.int .u32 ((fb : Nat) : Int)) := hc 4 _ rfl
   have f5 : wi.cell? ⟨gf, i * 11 + 5, none⟩ = some (.int .u32 ((fn : Nat) : Int)) := hc 5 _ rfl
   have f6 : wi.cell? ⟨gf, i * 11 + 6, none⟩ = some (.int .u32 ((cn : Nat) : Int)) := hc 6 _ rfl
   have f7 : wi.cell? ⟨gf, i * 11 + 7, none⟩ = some (.bool cl) := hc 7 _ rfl
   have f8 : wi.cell? ⟨gf, i * 11 + 8, none⟩ = some (.int .u64 ((sm : Nat) : Int)) := hc 8 _ rfl
   have f9 : wi.cell? ⟨gf, i * 11 + 9, none⟩ = some (.slice A3 fll c3) := by rw [hfll]; exact hc 9 _ rfl
   have f10 : wi.cell? ⟨gf, i * 11 + 10, none⟩ = some (.int .i64 fnn) := hc 10 _ rfl
   have hit2 : (i : Int) < (tf : Int) := by omega
   clear hy hyF g1 g2 g3 g4 g5 hfs hc hbits hb htk hfll hB1
   go_wp2_with (go_at_call 8; refine HTk.out.mono ?_; rintro e w7 ⟨rfl, hK7⟩; have HK7 := Lib.hid hK7; clear hK7)
   go_roundw
   case measure => simp [intOf]; omega
   case rel => exact ⟨i + 1, by go_num, by omega, HK7⟩
  ·have hie : i = tf := by omega
   have hit2 : ¬ (i : Int) < (tf : Int) := by omega
   have hfull : FL.take i = FL := List.take_of_length_le (by rw [← HF.out.2, List.length_map, ← HF.out.1]; omega)
   rw [hfull] at HBi
   obtain ⟨hat, hlvs⟩ := HMd.out.2 _ rfl HBi.out.okD.2
   obtain ⟨B1, hB1⟩ : ∃ B, B = FL.foldl takeD E := ⟨_, rfl⟩
   rw [← hB1] at HBi hat hlvs
   have HAt := Lib.hid (And.intro hat hlvs)
   clear hfull hie hat hlvs hB1 HMd
   go_wp2_with fail
   go_loopw [14] (fun s14 wr => ∃ i : Nat, s14 = .int .i64 (i : Nat) ∧ i ≤ tn ∧ Hid (Bk2 w.heap.size w wr q D p B1 (chT (.slice U6 tf c6) F ++ laT (.slice A tn cc) T)))
    (fun s14 _ => tn - (intOf s14).toNat)
   case atStart => exact ⟨0, by go_num, Nat.zero_le _, HBi⟩
   case round =>
    obtain ⟨j, rfl, hj, HBr⟩ := hrel
    obtain ⟨wo, hwo⟩ : ∃ wo, wo = wr := ⟨_, rfl⟩
    rw [← hwo] at HBr ⊢
    clear hwo HBi
    by_cases hjt : j < tn
    ·obtain ⟨y0, hy0⟩ : ∃ y, T[j]? = some y := ⟨_, List.getElem?_eq_getElem (by rw [← HL.out.2.2]; exact hjt)⟩
     have hk := la_key HL.out.1 HL.out.2.1 hy0
     have thIn : ∀ W, Bk2 w.heap.size w W q D p B1 (chT (.slice U6 tf c6) F ++ laT (.slice A tn cc) T) → OwnR W 0 48 encSe 2 (.slice A tn cc) T := fun W h => h.sep.get (t := thR 48 encSe 2 (.slice A tn cc) T) (List.mem_append_right _ List.mem_cons_self)
     obtain ⟨gr, hgr, -, -⟩ := row_at Tryz.eltSe (thIn _ HBr.out) hy0
     subst hgr
     obtain ⟨id, hid⟩ : ∃ x, x = y0.id := ⟨_, rfl⟩
     rw [← hid] at hk
     have hid64 : id < 64 := hk.1
     have hfl : (D.at_ id).flatten.length ≤ 50 := by
      have h1 := HL.out.1.len id
      omega
     have hyn : y0.n = y0.L.length ∧ y0.L.length ≤ 50 := by
      have hr := HBr.out.sep.get (t := seT y0) (List.mem_append_right _ (List.mem_cons_of_mem _ (List.mem_map.2 ⟨y0, List.mem_of_getElem? hy0, rfl⟩)))
      obtain ⟨A2, c2, e2, -, -⟩ := OwnR.row Tryz.eltS hr
      injection e2 with _ e3 _
      exact ⟨e3, by rw [← hk.2.1]; exact hfl⟩
     obtain ⟨yl, hyl⟩ : ∃ x, x = y0.L.length := ⟨_, rfl⟩
     have hyl60 : yl ≤ 50 := by rw [hyl]; exact hyn.2
     have cells : ∀ W : World, Bk2 w.heap.size w W q D p B1 (chT (.slice U6 tf c6) F ++ laT (.slice (some ⟨gr, 0, none⟩) tn cc) T) → W.cell? ⟨gr, j * 2, none⟩ = some (.int .u32 (id : Nat)) ∧ W.cell? ⟨gr, j * 2 + 1, none⟩ = some (.slice y0.A yl y0.c) ∧ Rw W smp 2 y0.A y0.L := fun W hW => by
      refine ⟨?_, ?_, ?_⟩
      ·rw [hid]
       exact row_cellE Tryz.eltSe (thIn W hW) hy0 0 _ rfl
      ·rw [hyl, ← hyn.1]
       exact row_cellE Tryz.eltSe (thIn W hW) hy0 1 _ rfl
      ·have hr := hW.sep.get (t := seT y0) (List.mem_append_right _ (List.mem_cons_of_mem _ (List.mem_map.2 ⟨y0, List.mem_of_getElem? hy0, rfl⟩)))
       obtain ⟨A2, c2, e2, -, h3⟩ := OwnR.row Tryz.eltS hr
       injection e2 with e4 _ _
       rw [e4]
       exact h3
     have HCe := Lib.hid cells
     have HC := Lib.hid (And.intro hk hyl)
     clear hy0 hid hk hfl hyn hyl cells thIn
     have hit2 : (j : Int) < (tn : Int) := by omega
     go_upto_region 17 with fail
     obtain ⟨I, hI⟩ : ∃ I : Rec → World → Prop, ∀ E' W, I E' W ↔ (Bk2 w.heap.size w W q D p B1 (chT (.slice U6 tf c6) F ++ laT (.slice (some ⟨gr, 0, none⟩) tn cc) T) ∧ ∀ u, E' 6 = some u → ∃ U n, u = .slice U yl n ∧ Rw W smp 2 U y0.L) := ⟨_, fun _ _ => Iff.rfl⟩
     have hI0 : I (fun _ => none) wo.drew := (hI _ _).2 ⟨HBr.out.go (Below.refl _ _).drew, fun u h => by cases h⟩
     haveI : Nonempty (InvW I) := ⟨⟨_, _, hI0⟩⟩
     have e1 := fun (y : InvW I) => (HCe.out y.W ((hI _ _).1 y.h).1).1
     have e2 := fun (y : InvW I) => (HCe.out y.W ((hI _ _).1 y.h).1).2.1
     have HI2 := Lib.hid hI
     clear hI
     refine wp_region_inv I [[], [], [], [], [], [], [], [], [], [], [], [], [6]] [3, 6, 9, 12] (fun k2 v => if k2 = 12 then v = .bool true else if k2 = 6 then ∃ U n, v = .slice U yl n else v = .pointer (some ⟨gr, j * 2, none⟩)) hmx (by kernel_rfl) hI0 ?_
     iterate 3 (refine walkJ_one rfl (by kernel_rfl) ?_; go_big_quiet_step (fail); refine wpQuiet_nil ?_)
     refine walkJ_turn rfl rfl ⟨_, rfl⟩ (fun s W1 hs h7 _ => ?_) ?_
     ·obtain ⟨h, h2⟩ := (HI2.out _ _).1 hs
      exact inv_val (W' := W1) (v := .pointer (some ⟨gr, j * 2, none⟩)) (by simp [execOp, go_sem, hit2]) ⟨rfl, (HI2.out _ _).2 ⟨h, fun u hu => h2 u (by rw [recSet_ne (by decide)] at hu; exact hu)⟩⟩
     rintro v rfl
     conv => arg 11; simp [Act.put]
     iterate 2 (refine walkJ_one rfl (by kernel_rfl) ?_; go_big_quiet_step (fail); refine wpQuiet_nil ?_)
     refine walkJ_turn rfl rfl ⟨_, none, 0, rfl⟩ (fun s W1 hs h7 _ => ?_) ?_
     ·obtain ⟨h, -⟩ := (HI2.out _ _).1 hs
      have hsm := bk_samples h.snd.choose_spec (tabGo HV.out.2.2.2 h.b) id (by omega)
      rw [HAt.out.1, HC.out.1.2.1, ← HC.out.2] at hsm
      refine inv_call (by simp [execOp, go_sem]) (hsm.mono ?_)
      rintro e w5 ⟨U, n5, rfl, ho, b5⟩
      refine ⟨_, rfl, ⟨U, n5, rfl⟩, (HI2.out _ _).2 ⟨h.go b5, fun u hu => ?_⟩⟩
      rw [recSet_same] at hu
      injection hu with hu
      obtain ⟨U2, n2, e3, -, h3⟩ := OwnR.row Tryz.eltS ho
      injection e3 with e4 _ _
      exact ⟨U, n5, hu.symm, by rw [e4]; exact h3⟩
     rintro v ⟨U5, n5, rfl⟩
     conv => arg 11; simp [Act.put]
     iterate 2 (refine walkJ_one rfl (by kernel_rfl) ?_; go_big_quiet_step (fail); refine wpQuiet_nil ?_)
     refine walkJ_turn rfl rfl ⟨_, rfl⟩ (fun s W1 hs h7 _ => ?_) ?_
     ·obtain ⟨h, h2⟩ := (HI2.out _ _).1 hs
      exact inv_val (W' := W1) (v := .pointer (some ⟨gr, j * 2, none⟩)) (by simp [execOp, go_sem, hit2]) ⟨rfl, (HI2.out _ _).2 ⟨h, fun u hu => h2 u (by rw [recSet_ne (by decide)] at hu; exact hu)⟩⟩
     rintro v rfl
     conv => arg 11; simp [Act.put]
     iterate 2 (refine walkJ_one rfl (by kernel_rfl) ?_; go_big_quiet_step (fail); refine wpQuiet_nil ?_)
     refine walkJ_turn rfl rfl ⟨_, rfl⟩ (fun s W1 hs h7 hch => ?_) ?_
     ·obtain ⟨h, h2⟩ := (HI2.out _ _).1 hs
      obtain ⟨U6', n6, e6, hU6⟩ := h2 _ ((hch 6 (by simp)).trans rfl)
      injection e6 with e7 _ e8
      rw [← e7] at hU6
      refine inv_call (by simp [execOp, go_sem]) ((csame_eq U5 y0.A yl n5 y0.c y0.L W1 HC.out.2 hU6 (HCe.out _ h).2.2 (by rw [← HC.out.2]; omega)).mono ?_)
      rintro e w6' ⟨rfl, b6⟩
      refine ⟨_, rfl, rfl, (HI2.out _ _).2 ⟨h.go b6, fun u hu => ?_⟩⟩
      rw [recSet_ne (by decide)] at hu
      obtain ⟨U7, n7, e7, h7⟩ := h2 u hu
      exact ⟨U7, n7, e7, h7.below b6 (Nat.le_refl _)⟩
     rintro v rfl
     conv => arg 11; simp [Act.put]
     iterate 1 (refine walkJ_one rfl (by kernel_rfl) ?_; go_big_quiet_step (fail); refine wpQuiet_nil ?_)
     refine walkJ_end ?_
     intro wp hW'
     have HBp := Lib.hid ((HI2.out _ _).1 hW').1
     clear e1 e2 hW' HI2 hI0 HBr
     go_wp2_with fail
     go_roundw
     case measure => simp [intOf]; omega
     case rel => exact ⟨j + 1, by go_num, by omega, HBp⟩
    ·have hit2 : ¬ (j : Int) < (tn : Int) := by omega
     obtain ⟨LD, hLD⟩ : ∃ L, L = leavesD D := ⟨_, rfl⟩
     obtain ⟨ln, hln⟩ : ∃ k, k = LD.length := ⟨_, rfl⟩
     have hln4 : ln ≤ 3840 := by rw [hln, hLD]; exact leaves_few HL.out.1 (by omega)
     have hokL : ∀ x ∈ LD, LfOk x := by rw [hLD]; exact leaves_ok HL.out.1 (by omega)
     have hC1 : ∀ W, Below wo.heap.size wo W → Calls Tryz.prog 7 #[ptB q] W fun e w' => (∃ U cx, e = .returned (.slice U ln cx) ∧ Rw w' encLf 4 U LD) ∧ Below W.heap.size W w' := fun W hW => by
      have h3 := leaves_any (HBr.out.go hW).fst.choose_spec
      rw [← hLD, ← hln] at h3
      refine h3.mono ?_
      rintro e w' ⟨U, cx, rfl, hS⟩
      obtain ⟨A9, c9, e9, -, hR⟩ := OwnR.row Tryz.eltLf (hS.at_ (t := thR 57 encLf 4 (.slice U ln cx) LD) 0 rfl)
      injection e9 with e1 _ _
      exact ⟨⟨U, cx, rfl, by rw [e1]; exact hR⟩, hS.b⟩
     have hC2 : ∀ W, Below wo.heap.size wo W → Calls Tryz.prog 7 #[ptB p] W fun e w' => (∃ U cx, e = .returned (.slice U ln cx) ∧ Rw w' encLf 4 U LD) ∧ Below W.heap.size W w' := fun W hW => by
      have h3 := leaves_any (HBr.out.go hW).snd.choose_spec
      rw [HAt.out.2, ← hLD, ← hln] at h3
      refine h3.mono ?_
      rintro e w' ⟨U, cx, rfl, hS⟩
      obtain ⟨A9, c9, e9, -, hR⟩ := OwnR.row Tryz.eltLf (hS.at_ (t := thR 57 encLf 4 (.slice U ln cx) LD) 0 rfl)
      injection e9 with e1 _ _
      exact ⟨⟨U, cx, rfl, by rw [e1]; exact hR⟩, hS.b⟩
     have hC3 : ∀ (W : World) (U1 U2 : Option Addr) (c1 c2 : Nat), Rw W encLf 4 U1 LD → Rw W encLf 4 U2 LD → Calls Tryz.prog 11 #[.slice U1 ln c1, .slice U2 ln c2] W fun e w' => (∃ U cx, e = .returned (.slice U 0 cx)) ∧ Below W.heap.size W w' := fun W U1 U2 c1 c2 hR1 hR2 => by
      have h3 := apart_any U1 c1 LD U2 c2 LD W hR1 hR2 hokL hokL (by rw [← hln]; omega) (by rw [← hln]; omega)
      rw [← hln] at h3
      refine h3.mono ?_
      rintro e w' ⟨U, cx, L, rfl, hS, hA⟩
      rw [apR_self hA]
      exact ⟨⟨U, cx, rfl⟩, hS.b⟩
     obtain ⟨Rt, hRt⟩ : ∃ R, R = rootG 0 LD := ⟨_, rfl⟩
     have hC4 : ∀ (W : World) (U1 : Option Addr) (c1 : Nat), Rw W encLf 4 U1 LD → Calls Tryz.prog 12 #[.slice U1 ln c1] W fun e w' => e = .returned (.int .u64 ((Rt : Nat) : Int)) ∧ Below W.heap.size W w' := fun W U1 c1 hR1 => by
      have h3 := root_any U1 c1 LD W hR1 hokL (by rw [← hln]; omega)
      rw [← hln, ← hRt] at h3
      exact h3
     have HC := Lib.hid (And.intro hC1 (And.intro hC2 (And.intro hC3 hC4)))
     have hW0 := Lib.hid (Below.refl wo.heap.size wo)
     clear hC1 hC2 hC3 hC4 hRt hokL hLD hln hj hjt
     have hrt : (((Rt : Nat) : Int) == ((Rt : Nat) : Int)) = true := beq_self_eq_true _
     go_wp2_with (first | (go_at_call 7; first | (refine (HC.out.2.1 w15 HW15.out).mono ?_; rintro e w16 ⟨⟨U16, c16, rfl, hR16⟩, b16⟩; have HR16 := Lib.hid hR16; have HW16 := Lib.hid (HW15.out.trans (b16.mono HW15.out.size)); clear hR16 b16) | (refine (HC.out.1 w13 HW13.out).mono ?_; rintro e w14 ⟨⟨U14, c14, rfl, hR14⟩, b14⟩; have HR14 := Lib.hid hR14; have HW14 := Lib.hid (HW13.out.trans (b14.mono HW13.out.size)); clear hR14 b14) | (refine (HC.out.2.1 w11 HW11.out).mono ?_; rintro e w12 ⟨⟨U12, c12, rfl, hR12⟩, b12⟩; have HR12 := Lib.hid (And.intro (HR11.out.below b12 (Nat.le_refl _)) hR12); have HW12 := Lib.hid (HW11.out.trans (b12.mono HW11.out.size)); clear hR12 b12) | (refine (HC.out.1 wo hW0.out).mono ?_; rintro e w11 ⟨⟨U11, c11, rfl, hR11⟩, b11⟩; have HR11 := Lib.hid hR11; have HW11 := Lib.hid (hW0.out.trans (b11.mono hW0.out.size)); clear hR11 b11)) | (go_at_call 11; refine (HC.out.2.2.1 w12 U11 U12 c11 c12 HR12.out.1 HR12.out.2).mono ?_; rintro e w13 ⟨⟨U13, c13, rfl⟩, b13⟩; have HW13 := Lib.hid (HW12.out.trans (b13.mono HW12.out.size)); clear b13) | (go_at_call 12; first | (refine (HC.out.2.2.2 w16 U16 c16 HR16.out).mono ?_; rintro e w17 ⟨rfl, b17⟩; have HW17 := Lib.hid (HW16.out.trans (b17.mono HW16.out.size)); clear b17) | (refine (HC.out.2.2.2 w14 U14 c14 HR14.out).mono ?_; rintro e w15 ⟨rfl, b15⟩; have HW15 := Lib.hid (HW14.out.trans (b15.mono HW14.out.size)); clear b15)))
     go_ret
     exact ⟨rfl, (HBr.out.go HW17.out).b⟩
end Go.Proofs.YtiliineopplinaaGreatDoor
