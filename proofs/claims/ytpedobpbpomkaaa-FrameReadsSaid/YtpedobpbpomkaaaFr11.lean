/- Layer 7: what reads numbers, of the program; Clone of bytes. -/
import Derived.Test.YtpedobpbpomkaaaFr10
import Derived.Lib.SliceRun
set_option linter.unusedSimpArgs false
set_option linter.unusedVariables false
namespace Go.Proofs.Ytpedobpbpomkaaa
open Go.RowKit
set_option maxRecDepth 100000

/-- bytes, and how many of them are read -/
structure Nx (w : World) (q1 q2 : Nat) (V : Value) (at_ : Nat) : Prop where
  bx : Blk w q1 26 #[V]
  ix : Blk w q2 3 #[.int .i64 (at_ : Nat)]
  ne : q1 ≠ q2
theorem Nx.below {w w' : World} {q1 q2 : Nat} {V : Value} {at_ : Nat} (h : Nx w q1 q2 V at_) (b : Below w.heap.size w w') : Nx w' q1 q2 V at_ := ⟨h.bx.below b h.bx.lt, h.ix.below b h.ix.lt, h.ne⟩
theorem or_byte7 (n : Nat) (x : UInt8) : 256 * n ||| x.toNat = 256 * n + x.toNat := by
  have := Nat.two_pow_add_eq_or_of_lt (i := 8) (b := x.toNat) (by have := x.toNat_lt; omega) n
  simpa using this.symm

set_option maxHeartbeats 2000000 in
theorem fnext_any (wd at_ q1 q2 : Nat) (A : Option Addr) (c : Nat) (l : List UInt8) (w : World) (hN : Nx w q1 q2 (.slice A l.length c) at_) (hA : Bs w A l) (hwd : wd ≤ 8) (hw0 : 0 < wd) (hl : at_ + wd ≤ l.length) (hc : l.length ≤ c) (hL : l.length ≤ 100000) :
    Calls Try.prog 55 #[.int .i64 (wd : Nat), .pointer (some ⟨q1, 0, none⟩), .pointer (some ⟨q2, 0, none⟩)] w fun e w' => e = .returned (.int .u64 (num (part l at_ wd) : Nat)) ∧ Nx w' q1 q2 (.slice A l.length c) (at_ + wd) ∧ w.grownBy w' (some q2) := by
  obtain ⟨p, o, rfl⟩ := hA.cutZ (by omega)
  obtain ⟨R, hR⟩ : ∃ R, R = num (part l at_ wd) := ⟨_, rfl⟩
  rw [← hR]
  have HR := Lib.hid hR
  have HA := Lib.hid hA
  have HN := Lib.hid hN
  have C := And.intro (blk_says hN.bx) (blk_says hN.ix)
  simp only [cellsSay, Nat.reduceAdd, and_true] at C
  have hwe : IntKind.i64.wrap ((at_ : Int) + (wd : Int)) = ((at_ + wd : Nat) : Int) := by rw [IntKind.wrap_i64]; omega
  obtain ⟨z, hz⟩ : ∃ z, z = at_ + wd := ⟨_, rfl⟩
  rw [← hz] at hwe
  have h1 : (z : Int) ≤ c := by omega
  have h2 : at_ ≤ z := by omega
  have h3 : (at_ : Int) ≤ z := by omega
  have h4 : z ≤ c := by omega
  have h5 : at_ < c := by omega
  have h6 : z - at_ = wd := by omega
  have h7 : (z : Int) - at_ = wd := by omega
  have hl2 := hl
  have HZ := Lib.hid (And.intro hz (And.intro hl h6))
  clear hR hA hN hz hl
  go_enter Try.func55, Try.ntmps55
  go_wp2_with fail
  clear h6 h7
  go_loopw [5, 15] (fun s5 s15 wr => ∃ (k n : Nat), k ≤ wd ∧ s15 = .int .i64 k ∧ s5 = .int .u64 n ∧ Hid (n = num ((part l at_ wd).take k)) ∧ w = wr)
    (fun _ s15 _ => wd - (intOf s15).toNat)
  case atStart => exact ⟨0, 0, Nat.zero_le _, rfl, rfl, Lib.hid rfl, rfl⟩
  case round =>
    obtain ⟨k, n, hk, rfl, rfl, HNn, rfl⟩ := hrel
    by_cases hlt : k < wd
    · have hil : at_ + k < l.length := by omega
      have hkw : (k : Int) < wd := by omega
      obtain ⟨p', o', hP, hcl⟩ := HA.out (at_ + k) l[at_ + k] (List.getElem?_eq_getElem hil)
      injection hP with e1
      injection e1 with e1 e2 _
      subst e1; subst e2
      have hpk : (part l at_ wd)[k]? = some l[at_ + k] := by
        unfold part
        rw [List.getElem?_take, if_pos hlt, List.getElem?_drop]
        exact List.getElem?_eq_getElem hil
      have hst := num_snoc hpk
      rw [← HNn.out] at hst
      have hlt8 := num_lt ((part l at_ wd).take (k + 1))
      obtain ⟨x, hx⟩ : ∃ x, x = l[at_ + k] := ⟨_, rfl⟩
      rw [← hx] at hcl hst
      obtain ⟨n', hn'⟩ : ∃ n', n' = num ((part l at_ wd).take (k + 1)) := ⟨_, rfl⟩
      rw [← hn'] at hst hlt8
      have hk8 : ((part l at_ wd).take (k + 1)).length ≤ 8 := by rw [List.length_take, part_len hl2]; omega
      have hb64 : n' < 18446744073709551616 := Nat.lt_of_lt_of_le hlt8 (Nat.le_trans (Nat.pow_le_pow_right (by decide) hk8) (by decide))
      have hxl := x.toNat_lt
      have f0 : IntKind.u64.wrap ((x.toNat : Nat) : Int) = (x.toNat : Int) := by rw [IntKind.wrap_u64]; omega
      obtain ⟨m, hm⟩ : ∃ m, m = 256 * n := ⟨_, rfl⟩
      have f1 : IntKind.u64.wrap ((n : Int) * 2 ^ 8) = (m : Int) := by rw [IntKind.wrap_u64]; omega
      have f1b : IntKind.u64.wrap ((n : Int) * 256) = (m : Int) := by rw [IntKind.wrap_u64]; omega
      have f2 : bits .or .u64 (m : Int) (x.toNat : Int) = (n' : Int) := by rw [or_big _ _ (by omega) (by omega), hm, or_byte7, hst]
      have HN' := Lib.hid hn'
      unfold bv at hcl
      have hoe : o + at_ + k = o + (at_ + k) := by omega
      have hcl2 : w.cell? ⟨p, o + at_ + k, none⟩ = some (.int .u8 (x.toNat : Nat)) := by rw [hoe]; exact hcl
      clear hpk hst hlt8 hx hn' hb64 hm hk8 hoe hcl
      go_wp2_with fail
      go_roundw
      case measure => simp [intOf]; omega
      case rel => exact ⟨k + 1, n', by omega, by go_num, rfl, HN', by first | rfl | trivial⟩
    · obtain rfl : k = wd := by omega
      have hn := HNn.out
      rw [List.take_of_length_le (by rw [part_len hl2]; exact Nat.le_refl _), ← HR.out] at hn
      have HNR := Lib.hid hn
      clear hn
      go_wp2_with fail
      go_ret
      refine ⟨by rw [← HNR.out]; rfl, ⟨HN.out.bx.far _ _ (fun e => HN.out.ne e), ?_, HN.out.ne⟩, grown_set w q2 0 _⟩
      have := HN.out.ix.set 0 (.int .i64 (z : Nat))
      rw [HZ.out.1] at this
      rw [HZ.out.1]
      exact this

theorem numbers_new (A : Option Addr) (n c : Nat) (w : World) :
    Calls Try.prog 39 #[.slice A n c] w fun e w' => ∃ q1 q2, e = .returned (.func (.func 55) #[] #[.pointer (some ⟨q1, 0, none⟩), .pointer (some ⟨q2, 0, none⟩)]) ∧ Hid (Nx w' q1 q2 (.slice A n c) 0 ∧ w.heap.size ≤ q1 ∧ w.heap.size ≤ q2 ∧ Below w.heap.size w w') := by
  go_enter Try.func39, Try.ntmps39
  go_wp2_with fail
  refine bodyPost_ret (v := .func (.func 55) #[] #[.pointer (some ⟨w.heap.size, 0, none⟩), .pointer (some ⟨w.heap.size + 1, 0, none⟩)]) (by simp [results, Try.results39, go_sem]) rfl ?_
  refine ⟨w.heap.size, w.heap.size + 1, rfl, Lib.hid ⟨⟨?_, ?_, by omega⟩, Nat.le_refl _, Nat.le_succ _, below_alloc2 w _ _⟩⟩
  · exact (Blk.new w _ _).below (below_alloc _ _) (by simp)
  · have := Blk.new (w.alloc (.cells #[.slice A n c] 26)) 3 #[.int .i64 0]
    rw [World.size_alloc] at this
    exact this

theorem clone_bytes (ad : Addr) (c : Nat) (l : List UInt8) (w : World) (hA : Bs w (some ad) l) (hL : l.length ≤ 100000) :
    Calls Try.prog 41 #[.slice (some ad) l.length c] w fun e w' => ∃ A' c', e = .returned (.slice A' l.length c') ∧ Hid (OwnB w' w.heap.size (.slice A' l.length c') l ∧ Below w.heap.size w w') := by
  have HA := Lib.hid hA
  have HO := Lib.hid (own_built w [] (base := w.heap.size) (Nat.le_refl _) (by simp))
  have hnil : (binOp .eql 26 (.slice (some ad) l.length c) (.slice none 0 0)).run Try.prog w = .ok (.bool false) w := Go.Lib.run_eql_slice_nil w _ _ _ _ _ _ _ (by rfl)
  clear hA
  go_enter Try.func41, Try.ntmps41
  go_wp2_with (at_builtin; go_must (refine appAll _ rfl (.tmp 5) (.tmp 6) rfl w.heap.size _ [] rfl HO.out (some ad) c l rfl (HA.out.below (below_alloc w _)) (by simp; omega) (by simp) ?_); intro A2 c2 w2 hown2 hb2)
  go_ret
  simp only [List.length_nil, Nat.zero_add, List.nil_append] at hown2 ⊢
  exact ⟨A2, c2, rfl, Lib.hid ⟨hown2, ((Below.refl w.heap.size w).alloc (Nat.le_refl _) _).trans hb2⟩⟩

end Go.Proofs.Ytpedobpbpomkaaa
