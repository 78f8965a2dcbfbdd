/- Joined: Nw1. -/
import Derived.Test.YtanenfbfcbkdhaaQ5
import Derived.Test.YtanenfbfcbkdhaaQ7
import Derived.Deep.DeepCutAuto
set_option linter.unusedSimpArgs false
set_option linter.unusedVariables false
/- Layer 19: datagrams under way, and how they lie; a copy of one. -/
set_option linter.unusedSimpArgs false
set_option linter.unusedVariables false
namespace Go.Proofs.Ytanenfbfcbkdhaa
open Go.RowKit
set_option maxRecDepth 100000

theorem bsays {w : World} {g : Nat} {t : TypeId} {cs : Array Value} (h : Blk w g t cs) : cellsSay w g 0 cs.toList := cells_say h _ 0 rfl
/-- a datagram: its side, its bytes and where they lie, was it bent -/
structure Ng where
  sd : Nat
  b : List UInt8
  A : Option Addr
  c : Nat
  bent : Bool
def vaG (g : Ng) : Value := .slice g.A g.b.length g.c
/-- as net's datagram, as api's Gram -/
def encD (g : Ng) : List Value := [.int .u8 (g.sd : Nat), vaG g, .bool g.bent]
def encG (g : Ng) : List Value := [.int .u8 (g.sd : Nat), vaG g]
theorem Try.eltD : Elt Try.prog 48 53 encD 3 40 := ⟨Try.underlying48, ⟨.agg #[.int .u8 0, .slice none 0 0, .bool false], by kernel_rfl, rfl⟩, by decide, fun _ => rfl, fun x v h => by
  simp [encD, vaG] at h; rcases h with rfl | rfl | rfl <;> rfl⟩
theorem Try.eltG : Elt Try.prog 41 33 encG 2 32 := ⟨Try.underlying41, ⟨.agg #[.int .u8 0, .slice none 0 0], by kernel_rfl, rfl⟩, by decide, fun _ => rfl, fun x v h => by
  simp [encG, vaG] at h; rcases h with rfl | rfl <;> rfl⟩
/-- a network -/
structure Nt (w : World) (q : Nat) (V : Value) (T : List Ng) : Prop where
  bx : Blk w q 50 #[V]
  gl : Gl (·.b) vaG w 53 encD 3 V T
  nq : ∀ k, footG vaG V T k → k ≠ q
/-- what a call on it may touch -/
def ftN (q : Nat) (V : Value) (T : List Ng) : Nat → Prop := fun k => k = q ∨ footG vaG V T k
theorem Nt.below {w w' : World} {q : Nat} {V : Value} {T : List Ng} (h : Nt w q V T) (b : Below w.heap.size w w') : Nt w' q V T := ⟨h.bx.below b h.bx.lt, h.gl.below b, h.nq⟩
theorem Nt.kept {w w' : World} {q : Nat} {V : Value} {T : List Ng} {F : Nat → Prop} (h : Nt w q V T) (t : Tou F w w') (hF : ∀ k, ftN q V T k → ¬ F k) : Nt w' q V T :=
  ⟨t.blk h.bx (hF q (.inl rfl)), h.gl.kept t (fun k hk => hF k (.inr hk)), h.nq⟩
theorem Nt.lt {w : World} {q : Nat} {V : Value} {T : List Ng} (h : Nt w q V T) : ∀ k, ftN q V T k → k < w.heap.size := fun k hk => by
  rcases hk with rfl | hk
  · exact h.bx.lt
  · exact h.gl.lt k hk
/-- the row's slice -/
theorem Nt.slice {w : World} {q : Nat} {V : Value} {T : List Ng} (h : Nt w q V T) : (V = .slice none 0 0 ∧ T = []) ∨ ∃ g cap, V = .slice (some ⟨g, 0, none⟩) T.length cap ∧ T.length ≤ cap := by
  rcases h.gl.row.2 with ⟨rfl, h0⟩ | ⟨g, cap, cur, rfl, _, _, hn, _⟩
  · exact .inl ⟨rfl, List.eq_nil_of_length_eq_zero h0⟩
  · exact .inr ⟨g, cap, rfl, hn⟩

set_option maxHeartbeats 4000000 in
theorem ncopied_any (sd : Nat) (b : List UInt8) (A : Option Addr) (c : Nat) (bent : Bool) (w : World) (hA : Bs w A b) (hb : 0 < b.length) (hL : b.length ≤ 100000) :
    Calls Try.prog 29 #[.agg #[.int .u8 (sd : Nat), .slice A b.length c, .bool bent]] w fun e w' => ∃ A' c', e = .returned (.agg #[.int .u8 (sd : Nat), .slice A' b.length c', .bool bent]) ∧ Hid (OwnB w' w.heap.size (.slice A' b.length c') b ∧ Below w.heap.size w w') := by
  obtain ⟨p, o, rfl⟩ : ∃ p o, A = some ⟨p, o, none⟩ := by
    obtain ⟨x, hx⟩ : ∃ x, b[0]? = some x := ⟨_, List.getElem?_eq_getElem hb⟩
    obtain ⟨p, o, h1, -⟩ := hA 0 x hx
    exact ⟨p, o, h1⟩
  have s1 : ∀ (u : World) o, (u.alloc o).heap.size = u.heap.size + 1 := fun u o => by simp
  have hK := ((Qs.zero w).box #[.int .u8 (sd : Nat), .slice (some ⟨p, o, none⟩) b.length c, .bool bent] 53).box #[.int .u8 0, .slice none 0 0, .bool false] 53
  simp only [s1] at hK
  obtain ⟨W, hW⟩ : ∃ W, W = (w.alloc (.cells #[.int .u8 (sd : Nat), .slice (some ⟨p, o, none⟩) b.length c, .bool bent] 53)).alloc (.cells #[.int .u8 0, .slice none 0 0, .bool false] 53) := ⟨_, rfl⟩
  rw [← hW] at hK
  have HK := Lib.hid hK
  have HC := Lib.hid (clone_bytes ⟨p, o, none⟩ c b W (hA.below (HK.out.top 2)) hL)
  clear hK s1 hA
  have C := HK.out.says
  simp only [sayAll, cellsSay, qB, qW, qO, Nat.reduceAdd, and_true, true_and] at C
  go_enter Try.func29, Try.ntmps29
  go_upto_region 1 with fail
  rw [← hW]
  clear hW
  go_wp2_with fail
  refine HC.out.mono ?_
  clear HC
  rintro e w1 ⟨A1, c1, rfl, H1⟩
  obtain ⟨o1, b1⟩ := H1.out
  have hz := HK.out.blk 0
  have hz2 := hz.lt
  replace HK := Lib.hid ((HK.out.go b1).own_ o1)
  clear H1 o1 b1 C hz
  have C := HK.out.says
  simp only [sayAll, cellsSay, qB, qW, qO, Nat.reduceAdd, and_true, true_and] at C
  go_upto_region 2 with fail
  generalize hW2 : World.setCell _ _ _ = W2
  have HKn := HK.out.put 2 w.heap.size [(1, .slice A1 b.length c1)] #[.int .u8 (sd : Nat), .slice A1 b.length c1, .bool bent] (by simp only [apBut, apAll, qB, qW, qO, and_true, true_and]; omega)
  rw [show sets _ w.heap.size [(1, .slice A1 b.length c1)] = W2 from hW2] at HKn
  replace HK := Lib.hid HKn
  simp only [List.set] at HK
  clear hW2 HKn C
  have C := HK.out.says
  simp only [sayAll, cellsSay, qB, qW, qO, Nat.reduceAdd, and_true, true_and] at C
  go_wp2_with fail
  generalize hW2 : World.setCell _ _ _ = W3
  have HKn := HK.out.put 1 (w.heap.size + 1) [(0, .int .u8 (sd : Nat)), (1, .slice A1 b.length c1), (2, .bool bent)] #[.int .u8 (sd : Nat), .slice A1 b.length c1, .bool bent] (by simp only [apBut, apAll, qB, qW, qO, and_true, true_and]; omega)
  rw [show sets _ (w.heap.size + 1) [(0, .int .u8 (sd : Nat)), (1, .slice A1 b.length c1), (2, .bool bent)] = W3 from hW2] at HKn
  replace HK := Lib.hid HKn
  simp only [List.set] at HK
  clear hW2 HKn C
  have C := HK.out.says
  simp only [sayAll, cellsSay, qB, qW, qO, Nat.reduceAdd, and_true, true_and] at C
  refine bodyPost_ret (v := .agg #[.int .u8 (sd : Nat), .slice A1 b.length c1, .bool bent]) (by simp [results, Try.results29, go_sem, C]) rfl ⟨A1, c1, rfl, Lib.hid ⟨(HK.out.own 0).mono (by omega), HK.out.top 3⟩⟩

/-- the index is none -/
theorem nat_no (q n : Nat) (A : Option Addr) (c : Nat) (i : Int) (w : World) (hq : Blk w q 50 #[.slice A n c]) (hi : i < 0 ∨ (n : Int) ≤ i) :
    Calls Try.prog 21 #[.pointer (some ⟨q, 0, none⟩), .int .i64 i] w fun e w' => e = .returned (.pointer none) ∧ w' = w := by
  have C := bsays hq
  simp only [cellsSay, Nat.reduceAdd, and_true] at C
  clear hq
  by_cases h0 : i < 0
  · have h1 : decide (i < 0) = true := decide_eq_true h0
    clear hi
    go_enter Try.func21, Try.ntmps21
    go_wp2_with fail
    go_ret
    exact ⟨rfl, rfl⟩
  · have h1 : decide (i < 0) = false := decide_eq_false h0
    have h2 : decide ((n : Int) ≤ i) = true := decide_eq_true (by omega)
    clear hi h0
    go_enter Try.func21, Try.ntmps21
    go_wp2_with fail
    go_ret
    exact ⟨rfl, rfl⟩
theorem nat_yes (q n g : Nat) (c : Nat) (i : Nat) (w : World) (hq : Blk w q 50 #[.slice (some ⟨g, 0, none⟩) n c]) (hi : i < n) :
    Calls Try.prog 21 #[.pointer (some ⟨q, 0, none⟩), .int .i64 (i : Nat)] w fun e w' => e = .returned (.pointer (some ⟨g, i * 3, none⟩)) ∧ w' = w := by
  have C := bsays hq
  simp only [cellsSay, Nat.reduceAdd, and_true] at C
  have h1 : decide ((i : Int) < 0) = false := decide_eq_false (by omega)
  have h2 : decide ((n : Int) ≤ (i : Int)) = false := decide_eq_false (by omega)
  have h2' : decide (n ≤ i) = false := decide_eq_false (by omega)
  have h3 : (i : Int) < (n : Int) := by omega
  clear hq
  go_enter Try.func21, Try.ntmps21
  go_wp2_with fail
  go_ret
  exact ⟨rfl, rfl⟩

end Go.Proofs.Ytanenfbfcbkdhaa
