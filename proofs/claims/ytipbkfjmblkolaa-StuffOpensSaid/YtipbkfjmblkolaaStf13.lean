/- The document's Open; StuffOpens. -/
import Derived.Test.YtipbkfjmblkolaaStf12
namespace Go.Proofs.Ytipbkfjmblkolaa
open Go.RowKit

/-- the document's Open's answer -/
def ROpenP (l : List UInt8) (base : Nat) (e : Ending) (w : World) : Prop :=
  ((∀ o r, l ≠ encL o ++ 0 :: r) ∧ e = .returned (.tuple #[.slice none 0 0, .int .i64 0, .int .i64 90])) ∨
  (∃ o r A n c, l = encL o ++ 0 :: r ∧ e = .returned (.tuple #[.slice A n c, .int .i64 ((wrapL o).length : Nat), .int .i64 0]) ∧ n = o.length ∧ OwnB w base (.slice A n c) o)
theorem ROpenP.bad {l : List UInt8} {base : Nat} {w : World} (h : ∀ o r, l ≠ encL o ++ 0 :: r) : ROpenP l base (.returned (.tuple #[.slice none 0 0, .int .i64 0, .int .i64 90])) w := .inl ⟨h, rfl⟩

set_option maxRecDepth 100000 in
set_option maxHeartbeats 2000000 in
theorem refOpen_noz (A : Option Addr) (c : Nat) (l : List UInt8) (w : World) (hl : Bs w A l) (hn : l.length ≤ 100000) (hz : NoZ l) :
    Calls Try.prog 22 #[.slice A l.length c] w fun e w' => ROpenP l w.heap.size e w' ∧ Below w.heap.size w w' := by
  have HB := Lib.hid (bad_miss hz)
  have Hz := Lib.hid hz
  clear hz
  go_enter Try.func22, Try.ntmps22
  go_wp2_with fail
  go_loop [5] (fun s => ∃ k : Nat, k ≤ l.length ∧ s = .int .i64 k) (fun s => l.length - (intOf s).toNat)
  case atStart => exact ⟨0, Nat.zero_le _, rfl⟩
  case round =>
    obtain ⟨k, hk, rfl⟩ := hrel
    rcases Nat.lt_or_ge k l.length with hlt | hge
    · have q1 : decide ((k : Int) < l.length) = true := decide_eq_true (by omega)
      have q2 : decide (k < l.length) = true := decide_eq_true hlt
      have e1 : IntKind.i64.wrap ((k : Int) + 1) = ((k + 1 : Nat) : Int) := by rw [IntKind.wrap_i64]; omega
      obtain ⟨p, o, rfl, hcell⟩ := hl k l[k] (List.getElem?_eq_getElem hlt)
      have hx0 : l[k].toNat ≠ 0 := fun h => Hz.out l[k] (List.getElem_mem hlt) (UInt8.toNat_inj.1 h)
      unfold bv at hcell
      obtain ⟨y, hy⟩ : ∃ y : Nat, y = l[k].toNat := ⟨_, rfl⟩
      rw [← hy] at hcell hx0
      have r3 : ((y : Int) == 0) = false := beq_eq_false_iff_ne.2 (by omega)
      have r4 : ((y : Int) != 0) = true := by simp; omega
      clear hy
      go_wp2_with fail
      go_round
      case rel => exact ⟨k + 1, hlt, by go_num⟩
      case measure => simp [intOf]; omega
    · obtain rfl : k = l.length := by omega
      have q1 : decide ((l.length : Int) < l.length) = false := by simp
      go_wp2_with fail
      go_ret3
      exact ⟨.bad HB.out, Below.refl _ _⟩

/-- the first loop comes to the first nought -/
theorem hit_cell {w : World} {A : Option Addr} {l a r : List UInt8} (hl : Bs w A l) (hra : l = a ++ 0 :: r) (k : Nat) (hk : k ≤ a.length) :
    ∃ p o, A = some ⟨p, o, none⟩ ∧ ∃ y : UInt8, w.cell? ⟨p, o + k, none⟩ = some (.int .u8 y.toNat) ∧ (k < a.length → a[k]? = some y) ∧ (k = a.length → y = 0) := by
  have hkl : k < l.length := by rw [hra]; simp; omega
  obtain ⟨p, o, hA, hc⟩ := hl k l[k] (List.getElem?_eq_getElem hkl)
  refine ⟨p, o, hA, l[k], hc, fun h => ?_, fun h => ?_⟩
  · have h2 : l[k]? = a[k]? := by rw [hra, List.getElem?_append_left h]
    rw [← h2]; exact List.getElem?_eq_getElem hkl
  · subst hra
    simp [h]

set_option maxRecDepth 100000 in
set_option maxHeartbeats 2000000 in
theorem refOpen_empty (A : Option Addr) (c : Nat) (r : List UInt8) (w : World) (hl : Bs w A (0 :: r)) (hn : (0 :: r).length ≤ 100000) :
    Calls Try.prog 22 #[.slice A (0 :: r).length c] w fun e w' => ROpenP (0 :: r) w.heap.size e w' ∧ Below w.heap.size w w' := by
  have HB := Lib.hid (bad_hit (l := 0 :: r) (a := []) (r := r) rfl (fun x h => by cases h) fun o => not_dec_nil o)
  obtain ⟨N, hN⟩ : ∃ N, N = (0 :: r).length := ⟨_, rfl⟩
  have hN0 : 0 < N := by rw [hN]; simp
  have q1 : decide ((0 : Int) < N) = true := decide_eq_true (by omega)
  have q3 : ((0 : Int) == N) = false := beq_eq_false_iff_ne.2 (by omega)
  obtain ⟨p, o, rfl, hcell⟩ := hl 0 0 rfl
  unfold bv at hcell
  have hcell : w.cell? ⟨p, o, none⟩ = some (.int .u8 0) := hcell
  rw [← hN]
  clear hN hn
  go_enter Try.func22, Try.ntmps22
  go_wp2_with fail
  go_loop [5] (fun s => s = .int .i64 0) (fun _ => 0)
  case atStart => rfl
  case round =>
    obtain rfl := hrel
    go_wp2_with fail
    go_ret3
    exact ⟨.bad HB.out, Below.refl _ _⟩

theorem dec_walk {n : UInt8} {t a O : List UInt8} (HD : ∀ o, Dec a o ↔ ∃ o', Dec (n :: t) o' ∧ o = O ++ o') (h1 : t.length + 1 = n.toNat) : ∀ o, Dec a o → o = O ++ t.take (n.toNat - 1) := fun o h => by
  obtain ⟨o', h', rfl⟩ := (HD o).1 h
  rcases ((dec_step n t o').1 h').2 with ⟨_, _, rfl⟩ | ⟨_, h3, _⟩ | ⟨_, h3, _⟩
  · rfl
  · omega
  · omega

/-- what is known at a place of the second loop: a: the code; p: the place; O: what has come -/
def OpenAt (a : List UInt8) (p : Nat) (O : List UInt8) : Prop :=
  (p < a.length ∧ ∀ o, Dec a o ↔ ∃ o', Dec (a.drop p) o' ∧ o = O ++ o') ∨ (p = a.length ∧ ∀ o, Dec a o → o = O)

theorem openAt_bad {a : List UInt8} {p : Nat} {O : List UInt8} (h : OpenAt a p O) (hp : p < a.length) {n : UInt8} (hn : a[p]? = some n) (hb : a.length < p + n.toNat) : ∀ o, ¬ Dec a o := fun o ho => by
  rcases h with ⟨_, HD⟩ | ⟨h, _⟩
  · obtain ⟨o', h', _⟩ := (HD o).1 ho
    have e : a.drop p = n :: a.drop (p + 1) := by
      rw [List.drop_eq_getElem_cons hp]
      rw [List.getElem?_eq_getElem hp] at hn
      injection hn with hn
      rw [hn]
    rw [e] at h'
    have := ((dec_step n _ o').1 h').1
    rw [List.length_drop] at this
    omega
  · omega
/-- one round -/
theorem openAt_step {a : List UInt8} {p : Nat} {O : List UInt8} (h : OpenAt a p O) (hp : p < a.length) {n : UInt8} (hn : a[p]? = some n) (h0 : n ≠ 0) (hb : p + n.toNat ≤ a.length) :
    OpenAt a (p + n.toNat) (if n.toNat < 255 ∧ p + n.toNat < a.length then O ++ (a.drop (p + 1)).take (n.toNat - 1) ++ [0] else O ++ (a.drop (p + 1)).take (n.toNat - 1)) := by
  rcases h with ⟨_, HD⟩ | ⟨h, _⟩
  · have e : a.drop p = n :: a.drop (p + 1) := by
      rw [List.drop_eq_getElem_cons hp]
      rw [List.getElem?_eq_getElem hp] at hn
      injection hn with hn
      rw [hn]
    rw [e] at HD
    have hn1 : 1 ≤ n.toNat := by
      rcases Nat.eq_zero_or_pos n.toNat with h | h
      · exact absurd (UInt8.toNat_inj.1 h) h0
      · exact h
    have hd : (a.drop (p + 1)).drop (n.toNat - 1) = a.drop (p + n.toNat) := by rw [List.drop_drop]; congr 1; omega
    have hl : (a.drop (p + 1)).length = a.length - (p + 1) := List.length_drop
    rcases Nat.lt_or_ge (p + n.toNat) a.length with h1 | h1
    · refine .inl ⟨h1, ?_⟩
      by_cases h2 : n.toNat < 255
      · rw [if_pos ⟨h2, h1⟩, ← hd]
        exact dec_go HD (by omega) (by omega)
      · rw [if_neg (fun h => h2 h.1), ← hd]
        exact dec_full HD (by omega) (by omega)
    · refine .inr ⟨by omega, ?_⟩
      rw [if_neg (fun h => by omega)]
      exact dec_walk HD (by omega)
  · omega

end Go.Proofs.Ytipbkfjmblkolaa
