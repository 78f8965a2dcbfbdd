/- Joined: Fr11, Nt9, Nt101, Nt102, Nt103, Nt104. -/
import Derived.Test.YtpedobpbpomkaaaQ16
import Derived.Lib.SliceRun
import Derived.Test.YtpedobpbpomkaaaQ15
set_option linter.unusedSimpArgs false
set_option linter.unusedVariables false
/- Layer 7: what reads numbers, of the program; Clone of bytes. -/
set_option linter.unusedSimpArgs false
set_option linter.unusedVariables false
namespace Go.Proofs.Ytpedobpbpomkaaa
open Go.RowKit
set_option maxRecDepth 100000

/-- bytes, and how many of them are read -/
structure Nx (w : World) (q1 q2 : Nat) (V : Value) (at_ : Nat) : Prop where
  bx : Blk w q1 26 #[V]
  ix : Blk w q2 3 #[.int .i64 (at_ : Nat)]
  ne : q1 ≠ q2
theorem Nx.below {w w' : World} {q1 q2 : Nat} {V : Value} {at_ : Nat} (h : Nx w q1 q2 V at_) (b : Below w.heap.size w w') : Nx w' q1 q2 V at_ := ⟨h.bx.below b h.bx.lt, h.ix.below b h.ix.lt, h.ne⟩
theorem or_byte7 (n : Nat) (x : UInt8) : 256 * n ||| x.toNat = 256 * n + x.toNat := by
  have := Nat.two_pow_add_eq_or_of_lt (i := 8) (b := x.toNat) (by have := x.toNat_lt; omega) n
  simpa using this.symm

set_option maxHeartbeats 2000000 in
theorem fnext_any (wd at_ q1 q2 : Nat) (A : Option Addr) (c : Nat) (l : List UInt8) (w : World) (hN : Nx w q1 q2 (.slice A l.length c) at_) (hA : Bs w A l) (hwd : wd ≤ 8) (hw0 : 0 < wd) (hl : at_ + wd ≤ l.length) (hc : l.length ≤ c) (hL : l.length ≤ 100000) :
    Calls Try.prog 55 #[.int .i64 (wd : Nat), .pointer (some ⟨q1, 0, none⟩), .pointer (some ⟨q2, 0, none⟩)] w fun e w' => e = .returned (.int .u64 (num (part l at_ wd) : Nat)) ∧ Nx w' q1 q2 (.slice A l.length c) (at_ + wd) ∧ w.grownBy w' (some q2) := by
  obtain ⟨p, o, rfl⟩ := hA.cutZ (by omega)
  obtain ⟨R, hR⟩ : ∃ R, R = num (part l at_ wd) := ⟨_, rfl⟩
  rw [← hR]
  have HR := Lib.hid hR
  have HA := Lib.hid hA
  have HN := Lib.hid hN
  have C := And.intro (blk_says hN.bx) (blk_says hN.ix)
  simp only [cellsSay, Nat.reduceAdd, and_true] at C
  have hwe : IntKind.i64.wrap ((at_ : Int) + (wd : Int)) = ((at_ + wd : Nat) : Int) := by rw [IntKind.wrap_i64]; omega
  obtain ⟨z, hz⟩ : ∃ z, z = at_ + wd := ⟨_, rfl⟩
  rw [← hz] at hwe
  have h1 : (z : Int) ≤ c := by omega
  have h2 : at_ ≤ z := by omega
  have h3 : (at_ : Int) ≤ z := by omega
  have h4 : z ≤ c := by omega
  have h5 : at_ < c := by omega
  have h6 : z - at_ = wd := by omega
  have h7 : (z : Int) - at_ = wd := by omega
  have hl2 := hl
  have HZ := Lib.hid (And.intro hz (And.intro hl h6))
  clear hR hA hN hz hl
  go_enter Try.func55, Try.ntmps55
  go_wp2_with fail
  clear h6 h7
  go_loopw [5, 15] (fun s5 s15 wr => ∃ (k n : Nat), k ≤ wd ∧ s15 = .int .i64 k ∧ s5 = .int .u64 n ∧ Hid (n = num ((part l at_ wd).take k)) ∧ w = wr)
    (fun _ s15 _ => wd - (intOf s15).toNat)
  case atStart => exact ⟨0, 0, Nat.zero_le _, rfl, rfl, Lib.hid rfl, rfl⟩
  case round =>
    obtain ⟨k, n, hk, rfl, rfl, HNn, rfl⟩ := hrel
    by_cases hlt : k < wd
    · have hil : at_ + k < l.length := by omega
      have hkw : (k : Int) < wd := by omega
      obtain ⟨p', o', hP, hcl⟩ := HA.out (at_ + k) l[at_ + k] (List.getElem?_eq_getElem hil)
      injection hP with e1
      injection e1 with e1 e2 _
      subst e1; subst e2
      have hpk : (part l at_ wd)[k]? = some l[at_ + k] := by
        unfold part
        rw [List.getElem?_take, if_pos hlt, List.getElem?_drop]
        exact List.getElem?_eq_getElem hil
      have hst := num_snoc hpk
      rw [← HNn.out] at hst
      have hlt8 := num_lt ((part l at_ wd).take (k + 1))
      obtain ⟨x, hx⟩ : ∃ x, x = l[at_ + k] := ⟨_, rfl⟩
      rw [← hx] at hcl hst
      obtain ⟨n', hn'⟩ : ∃ n', n' = num ((part l at_ wd).take (k + 1)) := ⟨_, rfl⟩
      rw [← hn'] at hst hlt8
      have hk8 : ((part l at_ wd).take (k + 1)).length ≤ 8 := by rw [List.length_take, part_len hl2]; omega
      have hb64 : n' < 18446744073709551616 := Nat.lt_of_lt_of_le hlt8 (Nat.le_trans (Nat.pow_le_pow_right (by decide) hk8) (by decide))
      have hxl := x.toNat_lt
      have f0 : IntKind.u64.wrap ((x.toNat : Nat) : Int) = (x.toNat : Int) := by rw [IntKind.wrap_u64]; omega
      obtain ⟨m, hm⟩ : ∃ m, m = 256 * n := ⟨_, rfl⟩
      have f1 : IntKind.u64.wrap ((n : Int) * 2 ^ 8) = (m : Int) := by rw [IntKind.wrap_u64]; omega
      have f1b : IntKind.u64.wrap ((n : Int) * 256) = (m : Int) := by rw [IntKind.wrap_u64]; omega
      have f2 : bits .or .u64 (m : Int) (x.toNat : Int) = (n' : Int) := by rw [or_big _ _ (by omega) (by omega), hm, or_byte7, hst]
      have HN' := Lib.hid hn'
      unfold bv at hcl
      have hoe : o + at_ + k = o + (at_ + k) := by omega
      have hcl2 : w.cell? ⟨p, o + at_ + k, none⟩ = some (.int .u8 (x.toNat : Nat)) := by rw [hoe]; exact hcl
      clear hpk hst hlt8 hx hn' hb64 hm hk8 hoe hcl
      go_wp2_with fail
      go_roundw
      case measure => simp [intOf]; omega
      case rel => exact ⟨k + 1, n', by omega, by go_num, rfl, HN', by first | rfl | trivial⟩
    · obtain rfl : k = wd := by omega
      have hn := HNn.out
      rw [List.take_of_length_le (by rw [part_len hl2]; exact Nat.le_refl _), ← HR.out] at hn
      have HNR := Lib.hid hn
      clear hn
      go_wp2_with fail
      go_ret
      refine ⟨by rw [← HNR.out]; rfl, ⟨HN.out.bx.far _ _ (fun e => HN.out.ne e), ?_, HN.out.ne⟩, grown_set w q2 0 _⟩
      have := HN.out.ix.set 0 (.int .i64 (z : Nat))
      rw [HZ.out.1] at this
      rw [HZ.out.1]
      exact this

theorem numbers_new (A : Option Addr) (n c : Nat) (w : World) :
    Calls Try.prog 39 #[.slice A n c] w fun e w' => ∃ q1 q2, e = .returned (.func (.func 55) #[] #[.pointer (some ⟨q1, 0, none⟩), .pointer (some ⟨q2, 0, none⟩)]) ∧ Hid (Nx w' q1 q2 (.slice A n c) 0 ∧ w.heap.size ≤ q1 ∧ w.heap.size ≤ q2 ∧ Below w.heap.size w w') := by
  go_enter Try.func39, Try.ntmps39
  go_wp2_with fail
  refine bodyPost_ret (v := .func (.func 55) #[] #[.pointer (some ⟨w.heap.size, 0, none⟩), .pointer (some ⟨w.heap.size + 1, 0, none⟩)]) (by simp [results, Try.results39, go_sem]) rfl ?_
  refine ⟨w.heap.size, w.heap.size + 1, rfl, Lib.hid ⟨⟨?_, ?_, by omega⟩, Nat.le_refl _, Nat.le_succ _, below_alloc2 w _ _⟩⟩
  · exact (Blk.new w _ _).below (below_alloc _ _) (by simp)
  · have := Blk.new (w.alloc (.cells #[.slice A n c] 26)) 3 #[.int .i64 0]
    rw [World.size_alloc] at this
    exact this

theorem clone_bytes (ad : Addr) (c : Nat) (l : List UInt8) (w : World) (hA : Bs w (some ad) l) (hL : l.length ≤ 100000) :
    Calls Try.prog 41 #[.slice (some ad) l.length c] w fun e w' => ∃ A' c', e = .returned (.slice A' l.length c') ∧ Hid (OwnB w' w.heap.size (.slice A' l.length c') l ∧ Below w.heap.size w w') := by
  have HA := Lib.hid hA
  have HO := Lib.hid (own_built w [] (base := w.heap.size) (Nat.le_refl _) (by simp))
  have hnil : (binOp .eql 26 (.slice (some ad) l.length c) (.slice none 0 0)).run Try.prog w = .ok (.bool false) w := Go.Lib.run_eql_slice_nil w _ _ _ _ _ _ _ (by rfl)
  clear hA
  go_enter Try.func41, Try.ntmps41
  go_wp2_with (at_builtin; go_must (refine appAll _ rfl (.tmp 5) (.tmp 6) rfl w.heap.size _ [] rfl HO.out (some ad) c l rfl (HA.out.below (below_alloc w _)) (by simp; omega) (by simp) ?_); intro A2 c2 w2 hown2 hb2)
  go_ret
  simp only [List.length_nil, Nat.zero_add, List.nil_append] at hown2 ⊢
  exact ⟨A2, c2, rfl, Lib.hid ⟨hown2, ((Below.refl w.heap.size w).alloc (Nat.le_refl _) _).trans hb2⟩⟩

end Go.Proofs.Ytpedobpbpomkaaa

/- Layer 11: the document's Decode, of any bytes; the program's reader. -/
set_option linter.unusedSimpArgs false
set_option linter.unusedVariables false
namespace Go.Proofs.Ytpedobpbpomkaaa
open Go.RowKit
set_option maxRecDepth 100000

theorem rndec_any (A : Option Addr) (c : Nat) (l : List UInt8) (w : World) (hA : Bs w A l) (hc : l.length ≤ c) (hL : l.length ≤ 100000) :
    Calls Try.prog 28 #[.slice A l.length c] w fun e w' => ∃ A' c', e = .returned (.tuple #[.agg (noC (decN l).1 A' c'), .int .i64 ((decN l).2 : Nat)]) ∧ Hid (OwnB w' w.heap.size (.slice A' (decN l).1.l.length c') (decN l).1.l ∧ Below w.heap.size w w') := by
  rcases hl : l[0]? with _ | x0
  · have h0 : l = [] := by
      cases l with
      | nil => rfl
      | cons a t => simp at hl
    subst h0
    rw [decN_nil]
    refine (rndec_nil A c w).mono ?_
    rintro e w' ⟨rfl, hb⟩
    exact ⟨none, 0, rfl, Lib.hid ⟨OwnB.nil _ _, hb⟩⟩
  · by_cases h1 : x0.toNat = 1
    · exact rndec_k1 A c l w hA hc hL x0 hl h1
    by_cases h2 : x0.toNat = 2
    · exact rndec_k2 A c l w hA hc hL x0 hl h2
    by_cases h3 : x0.toNat = 3
    · exact rndec_k3 A c l w hA hc hL x0 hl h3
    by_cases h4 : x0.toNat = 4
    · exact rndec_k4 A c l w hA hc hL x0 hl h4
    exact rndec_ko A c l w hA hc hL x0 hl ⟨h1, h2, h3, h4⟩

theorem nnum_short (q size n : Nat) (A : Option Addr) (c : Nat) (w : World) (hq : Blk w q 78 #[.slice A n c]) (hs : n < size) (hz : size ≤ 8) :
    Calls Try.prog 56 #[.pointer (some ⟨q, 0, none⟩), .int .i64 (size : Nat)] w fun e w' => e = .panicked [{ v := .iface 75 (.agg #[]), recovered := false }] ∧ w' = w := by
  have C := blk_says hq
  simp only [cellsSay, Nat.reduceAdd, and_true] at C
  have h1 : decide ((n : Int) < (size : Int)) = true := by simp; omega
  have h2 : decide (n < size) = true := by simp; omega
  clear hq hs
  go_enter Try.func56, Try.ntmps56
  go_wp2_with fail
  exact ⟨rfl, rfl, rfl⟩

set_option maxHeartbeats 2000000 in
theorem nnum_long (q size p f c : Nat) (L : List UInt8) (w : World) (hq : Blk w q 78 #[.slice (some ⟨p, f, none⟩) L.length c]) (hA : Bs w (some ⟨p, f, none⟩) L) (hs : size ≤ L.length) (hc : L.length ≤ c) (h0 : 0 < size) (hz : size ≤ 8) (hL : L.length ≤ 100000) :
    Calls Try.prog 56 #[.pointer (some ⟨q, 0, none⟩), .int .i64 (size : Nat)] w fun e w' => e = .returned (.int .u64 (num (L.take size) : Nat)) ∧ Hid (w' = w.setCell ⟨q, 0, none⟩ (.slice (if c = size then some ⟨p, f, none⟩ else some ⟨p, f + size, none⟩) (L.length - size) (c - size))) := by
  have C := blk_says hq
  simp only [cellsSay, Nat.reduceAdd, and_true] at C
  have h1 : decide ((L.length : Int) < (size : Int)) = false := by simp; omega
  have h2 : decide (L.length < size) = false := by simp; omega
  have h3 : ¬ (c : Int) < (size : Int) := by omega
  have h4 : size ≤ c := by omega
  have h5 : (size : Int) ≤ (c : Int) := by omega
  have h6 : ¬ (L.length : Int) < (size : Int) := by omega
  have h7 : ¬ L.length < size := by omega
  obtain ⟨R, hR⟩ : ∃ R, R = num (L.take size) := ⟨_, rfl⟩
  rw [← hR]
  have HR := Lib.hid hR
  have HA := Lib.hid hA
  have HL := Lib.hid (And.intro hs (And.intro hc hL))
  have hLs : (size : Int) ≤ (L.length : Int) := by omega
  clear hq hA hR
  by_cases hcs : c = size
  · have HCs := Lib.hid hcs
    subst hcs
    go_enter Try.func56, Try.ntmps56
    go_wp2_with fail
    go_loopw [5, 24] (fun s5 s24 wr => ∃ (k n : Nat), k ≤ c ∧ s24 = .int .i64 k ∧ s5 = .int .u64 n ∧ Hid (n = num (L.take k)) ∧ w = wr)
      (fun _ s24 _ => c - (intOf s24).toNat)
    case atStart => exact ⟨0, 0, Nat.zero_le _, rfl, rfl, Lib.hid rfl, rfl⟩
    case round =>
      obtain ⟨k, n, hk, rfl, rfl, HN, rfl⟩ := hrel
      by_cases hlt : k < c
      · have hkl : k < L.length := by omega
        have hkw : (k : Int) < c := by omega
        obtain ⟨p', f', hP, hcl⟩ := HA.out k L[k] (List.getElem?_eq_getElem hkl)
        injection hP with e1
        injection e1 with e1 e2 _
        subst e1; subst e2
        have hst := num_snoc (List.getElem?_eq_getElem hkl)
        rw [← HN.out] at hst
        have hlt8 := num_lt (L.take (k + 1))
        obtain ⟨x, hx⟩ : ∃ x, x = L[k] := ⟨_, rfl⟩
        rw [← hx] at hcl hst
        obtain ⟨n', hn'⟩ : ∃ n', n' = num (L.take (k + 1)) := ⟨_, rfl⟩
        rw [← hn'] at hst hlt8
        have hk8 : (L.take (k + 1)).length ≤ 8 := by rw [List.length_take]; omega
        have hb64 : n' < 18446744073709551616 := Nat.lt_of_lt_of_le hlt8 (Nat.le_trans (Nat.pow_le_pow_right (by decide) hk8) (by decide))
        have hxl := x.toNat_lt
        have f0 : IntKind.u64.wrap ((x.toNat : Nat) : Int) = (x.toNat : Int) := by rw [IntKind.wrap_u64]; omega
        obtain ⟨m, hm⟩ : ∃ m, m = 256 * n := ⟨_, rfl⟩
        have f1 : IntKind.u64.wrap ((n : Int) * 2 ^ 8) = (m : Int) := by rw [IntKind.wrap_u64]; omega
        have f1b : IntKind.u64.wrap ((n : Int) * 256) = (m : Int) := by rw [IntKind.wrap_u64]; omega
        have f2 : bits .or .u64 (m : Int) (x.toNat : Int) = (n' : Int) := by rw [or_big _ _ (by omega) (by omega), hm, or_byte7, hst]
        have HN' := Lib.hid hn'
        unfold bv at hcl
        clear hst hlt8 hx hn' hb64 hm hk8
        go_wp2_with fail
        go_roundw
        case measure => simp [intOf]; omega
        case rel => exact ⟨k + 1, n', by omega, by go_num, rfl, HN', by first | rfl | trivial⟩
      · obtain rfl : k = c := by omega
        have hn := HN.out
        rw [← HR.out] at hn
        have HNR := Lib.hid hn
        clear hn
        go_wp2_with fail
        go_ret
        refine ⟨by rw [← HNR.out]; rfl, Lib.hid rfl⟩
  · have HCs := Lib.hid hcs
    have hcl : size < c := by omega
    have hcli : (size : Int) < (c : Int) := by omega
    go_enter Try.func56, Try.ntmps56
    go_wp2_with fail
    go_loopw [5, 24] (fun s5 s24 wr => ∃ (k n : Nat), k ≤ size ∧ s24 = .int .i64 k ∧ s5 = .int .u64 n ∧ Hid (n = num (L.take k)) ∧ w = wr)
      (fun _ s24 _ => size - (intOf s24).toNat)
    case atStart => exact ⟨0, 0, Nat.zero_le _, rfl, rfl, Lib.hid rfl, rfl⟩
    case round =>
      obtain ⟨k, n, hk, rfl, rfl, HN, rfl⟩ := hrel
      by_cases hlt : k < size
      · have hkl : k < L.length := by omega
        have hkw : (k : Int) < size := by omega
        obtain ⟨p', f', hP, hcl⟩ := HA.out k L[k] (List.getElem?_eq_getElem hkl)
        injection hP with e1
        injection e1 with e1 e2 _
        subst e1; subst e2
        have hst := num_snoc (List.getElem?_eq_getElem hkl)
        rw [← HN.out] at hst
        have hlt8 := num_lt (L.take (k + 1))
        obtain ⟨x, hx⟩ : ∃ x, x = L[k] := ⟨_, rfl⟩
        rw [← hx] at hcl hst
        obtain ⟨n', hn'⟩ : ∃ n', n' = num (L.take (k + 1)) := ⟨_, rfl⟩
        rw [← hn'] at hst hlt8
        have hk8 : (L.take (k + 1)).length ≤ 8 := by rw [List.length_take]; omega
        have hb64 : n' < 18446744073709551616 := Nat.lt_of_lt_of_le hlt8 (Nat.le_trans (Nat.pow_le_pow_right (by decide) hk8) (by decide))
        have hxl := x.toNat_lt
        have f0 : IntKind.u64.wrap ((x.toNat : Nat) : Int) = (x.toNat : Int) := by rw [IntKind.wrap_u64]; omega
        obtain ⟨m, hm⟩ : ∃ m, m = 256 * n := ⟨_, rfl⟩
        have f1 : IntKind.u64.wrap ((n : Int) * 2 ^ 8) = (m : Int) := by rw [IntKind.wrap_u64]; omega
        have f1b : IntKind.u64.wrap ((n : Int) * 256) = (m : Int) := by rw [IntKind.wrap_u64]; omega
        have f2 : bits .or .u64 (m : Int) (x.toNat : Int) = (n' : Int) := by rw [or_big _ _ (by omega) (by omega), hm, or_byte7, hst]
        have HN' := Lib.hid hn'
        unfold bv at hcl
        clear hst hlt8 hx hn' hb64 hm hk8
        go_wp2_with fail
        go_roundw
        case measure => simp [intOf]; omega
        case rel => exact ⟨k + 1, n', by omega, by go_num, rfl, HN', by first | rfl | trivial⟩
      · obtain rfl : k = size := by omega
        have hn := HN.out
        rw [← HR.out] at hn
        have HNR := Lib.hid hn
        clear hn
        go_wp2_with fail
        go_ret
        refine ⟨by rw [← HNR.out]; rfl, Lib.hid rfl⟩

/-- a reader: its bytes lie in what was there at first -/
structure Rd (w0 w : World) (q : Nat) (L : List UInt8) : Prop where
  bx : ∃ (A : Option Addr) (c : Nat), Blk w q 78 #[.slice A L.length c] ∧ Bs w0 A L ∧ L.length ≤ c ∧ (0 < L.length → ∃ p f, A = some ⟨p, f, none⟩)
  top : Below w0.heap.size w0 w
  far : w0.heap.size ≤ q
theorem Rd.below {w0 w w' : World} {q : Nat} {L : List UInt8} (h : Rd w0 w q L) (b : Below w.heap.size w w') : Rd w0 w' q L := by
  obtain ⟨A, c, h1, h2, h3⟩ := h.bx
  exact ⟨⟨A, c, h1.below b h1.lt, h2, h3⟩, h.top.trans (b.mono h.top.size), h.far⟩
theorem Rd.kept {w0 w w' : World} {q g : Nat} {L : List UInt8} (h : Rd w0 w q L) (b : w.grownBy w' (some g)) (hg : g ≠ q) (hb : w0.heap.size ≤ g) : Rd w0 w' q L := by
  obtain ⟨A, c, h1, h2, h3⟩ := h.bx
  exact ⟨⟨A, c, h1.kept b (by intro e; injection e with e; exact hg e), h2, h3⟩, h.top.grown b h.top.size (fun k e => by cases e; exact hb), h.far⟩
theorem nnum_no {w0 w : World} {q : Nat} {L : List UInt8} (h : Rd w0 w q L) (size : Nat) (hs : L.length < size) (hz : size ≤ 8) :
    Calls Try.prog 56 #[.pointer (some ⟨q, 0, none⟩), .int .i64 (size : Nat)] w fun e w' => e = .panicked [{ v := .iface 75 (.agg #[]), recovered := false }] ∧ w' = w := by
  obtain ⟨A, c, h1, h2, h3⟩ := h.bx
  exact nnum_short q size _ A c w h1 hs hz
theorem nnum_yes {w0 w : World} {q : Nat} {L : List UInt8} (h : Rd w0 w q L) (size : Nat) (hs : size ≤ L.length) (h0 : 0 < size) (hz : size ≤ 8) (hL : L.length ≤ 100000) :
    Calls Try.prog 56 #[.pointer (some ⟨q, 0, none⟩), .int .i64 (size : Nat)] w fun e w' => e = .returned (.int .u64 (num (L.take size) : Nat)) ∧ Hid (Rd w0 w' q (L.drop size) ∧ w.grownBy w' (some q)) := by
  obtain ⟨A, c, h1, h2, h3, h4⟩ := h.bx
  obtain ⟨p, f, rfl⟩ := h4 (by omega)
  refine (nnum_long q size p f c L w h1 (h2.below h.top) hs h3 h0 hz hL).mono ?_
  rintro e w' ⟨rfl, H⟩
  have hw := H.out
  subst hw
  refine ⟨rfl, Lib.hid ⟨⟨⟨(if c = size then some ⟨p, f, none⟩ else some ⟨p, f + size, none⟩), c - size, ?_, ?_, by rw [List.length_drop]; omega, fun _ => ?_⟩, h.top.setCell h.far _, h.far⟩, grown_set w q 0 _⟩⟩
  · have := h1.set 0 (.slice (if c = size then some ⟨p, f, none⟩ else some ⟨p, f + size, none⟩) (L.length - size) (c - size))
    rw [List.length_drop]
    exact this
  · by_cases hk : c = size
    · rw [if_pos hk, List.drop_of_length_le (by omega)]; exact Bs.nil _ _
    · rw [if_neg hk]
      intro j b hj
      rw [List.getElem?_drop] at hj
      obtain ⟨p', f', hP, hC⟩ := h2 (size + j) b hj
      injection hP with e1
      injection e1 with e1 e2 _
      subst e1; subst e2
      exact ⟨p, f + size, rfl, by rw [Nat.add_assoc]; exact hC⟩
  · split <;> exact ⟨_, _, rfl⟩

theorem nword_no {w0 w : World} {q : Nat} {L : List UInt8} (h : Rd w0 w q L) (hs : L.length < 4) :
    Calls Try.prog 57 #[.pointer (some ⟨q, 0, none⟩)] w fun e w' => e = .panicked [{ v := .iface 75 (.agg #[]), recovered := false }] ∧ w' = w := by
  have HC := Lib.hid (nnum_no h 4 hs (by decide))
  clear h hs
  go_enter Try.func57, Try.ntmps57
  go_wp2_with fail
  refine HC.out.mono ?_
  rintro e w1 ⟨rfl, h1⟩
  have H1 := Lib.hid h1
  clear h1
  go_wp2_with fail
  exact ⟨rfl, rfl, H1.out⟩
theorem nword_yes {w0 w : World} {q : Nat} {L : List UInt8} (h : Rd w0 w q L) (hs : 4 ≤ L.length) (hL : L.length ≤ 100000) :
    Calls Try.prog 57 #[.pointer (some ⟨q, 0, none⟩)] w fun e w' => e = .returned (.int .u32 (num (L.take 4) : Nat)) ∧ Hid (Rd w0 w' q (L.drop 4) ∧ w.grownBy w' (some q)) := by
  have hC := nnum_yes h 4 hs (by decide) (by decide) hL
  have hlt := num_lt (L.take 4)
  have hl4 : (L.take 4).length = 4 := by rw [List.length_take]; omega
  rw [hl4] at hlt
  obtain ⟨n, hn⟩ : ∃ n, n = num (L.take 4) := ⟨_, rfl⟩
  rw [← hn] at hC hlt ⊢
  have u4 : IntKind.u32.wrap (n : Int) = (n : Int) := by rw [IntKind.wrap_u32]; omega
  have HC := Lib.hid hC
  clear hC hlt hl4 hn h hs
  go_enter Try.func57, Try.ntmps57
  go_wp2_with fail
  refine HC.out.mono ?_
  rintro e w1 ⟨rfl, H1⟩
  go_wp2_with fail
  go_ret
  exact ⟨rfl, H1⟩

end Go.Proofs.Ytpedobpbpomkaaa

/- Layer 11: the program's reader reads a note, kind 1. -/
set_option linter.unusedSimpArgs false
set_option linter.unusedVariables false
namespace Go.Proofs.Ytpedobpbpomkaaa
open Go.RowKit
set_option maxRecDepth 100000

set_option maxHeartbeats 8000000 in
theorem nnote_k1 {w0 w : World} {q : Nat} {l : List UInt8} (h : Rd w0 w q l) (hL : l.length ≤ 100000) (h1 : 1 ≤ l.length) (hk : num (part l 0 1) = 1) :
    Calls Try.prog 48 #[.pointer (some ⟨q, 0, none⟩)] w fun e w' => (l.length < 5 ∧ e = .panicked [{ v := .iface 75 (.agg #[]), recovered := false }] ∧ Hid (w.grownBy w' (some q) ∧ Below w0.heap.size w0 w')) ∨ (5 ≤ l.length ∧ e = .returned (.tuple #[.agg (noC { parN l with l := [] } none 0), .int .u64 0]) ∧ Hid (Rd w0 w' q (l.drop 5) ∧ w.grownBy w' (some q))) := by
  have hql : q < w.heap.size := by obtain ⟨A, c, h1, -⟩ := h.bx; exact h1.lt
  obtain ⟨kd, hkd⟩ : ∃ v, v = num (part l 0 1) := ⟨_, rfl⟩
  have b_kd : kd < 256 := by rw [hkd]; exact part_lt l 0 1
  obtain ⟨ep, hep⟩ : ∃ v, v = num (part l 1 4) := ⟨_, rfl⟩
  have b_ep : ep < 4294967296 := by rw [hep]; exact part_lt l 1 4
  obtain rfl : kd = 1 := by rw [hkd, hk]
  have u_kd : IntKind.u8.wrap (1 : Int) = 1 := by rw [IntKind.wrap_u8]; omega
  have hD : { parN l with l := [] } = (⟨1, ep, 0, 0, 0, 0, 0, 0, 0, false, [], 0⟩ : NoD) := by
    unfold parN
    rw [hk, ← hep]
    rfl
  rw [hD]
  simp only [noC, List.length_nil]
  have hp_kd : num ((l.drop 0).take 1) = 1 := hk
  have hp_ep : num ((l.drop 1).take 4) = ep := hep.symm
  have HP := Lib.hid (And.intro hp_kd (hp_ep))
  have HG0 := Lib.hid (World.grownBy.refl w (some q))
  have hRd0 : Rd w0 w q (l.drop 0) := h
  have HRd := Lib.hid hRd0
  have hw0 : w0.heap.size ≤ w.heap.size := h.top.size
  clear hRd0 h hD hk hp_kd hp_ep hkd hep b_kd b_ep
  obtain ⟨g, hg⟩ : ∃ g, g = w.heap.size := ⟨_, rfl⟩
  obtain ⟨W, hW1⟩ : ∃ W, W = w.alloc (.cells #[.int .u8 0, .int .u32 0, .int .u32 0, .int .i64 0, .int .u64 0, .int .u32 0, .int .u32 0, .int .u32 0, .int .u32 0, .bool false, .slice none 0 0, .int .i64 0] 50) := ⟨_, rfl⟩
  have HB : Hid (Blk W g 50 #[.int .u8 0, .int .u32 0, .int .u32 0, .int .i64 0, .int .u64 0, .int .u32 0, .int .u32 0, .int .u32 0, .int .u32 0, .bool false, .slice none 0 0, .int .i64 0]) := Lib.hid (by rw [hW1, hg]; exact Blk.new w _ _)
  have hbw : Below w.heap.size w W := by rw [hW1]; exact below_alloc w _
  replace HRd := Lib.hid (HRd.out.below hbw)
  have HG : Hid (w.grownBy W (some q)) := Lib.hid (grown_below hbw _)
  clear HG0 hbw
  go_enter Try.func48, Try.ntmps48
  rw [← hg] at hql hw0
  go_upto_region 1 with fail
  rw [← hW1, ← hg]
  clear hW1
  have hgq : g ≠ q := by omega
  have HQ := Lib.hid (And.intro hgq (And.intro hw0 (Nat.le_of_eq hg.symm)))
  clear hgq hw0 hql hg
  have C := blk_says HB.out
  simp only [cellsSay, Nat.reduceAdd, and_true] at C
  have hC := nnum_yes HRd.out 1 (by rw [List.length_drop]; omega) (by decide) (by decide) (by rw [List.length_drop]; omega)
  rw [HP.out.1, List.drop_drop] at hC
  simp only [Nat.reduceAdd, Nat.zero_add] at hC
  have HC := Lib.hid hC
  clear hC
  go_wp2_with fail
  refine HC.out.mono ?_
  clear HC
  rintro e W1 ⟨rfl, HR⟩
  replace HB := Lib.hid (HB.out.kept HR.out.2 (by intro e; injection e with e; exact HQ.out.1 e.symm))
  replace HG := Lib.hid (grown_trans HG.out HR.out.2)
  replace HRd := Lib.hid HR.out.1
  clear HR C
  have C := blk_says HB.out
  simp only [cellsSay, Nat.reduceAdd, and_true] at C
  go_upto_region 2 with fail
  generalize hW : World.setCell _ _ _ = V54
  have hb := Blk.sets [(0, .int .u8 1)] HB.out
  rw [show sets _ g [(0, .int .u8 1)] = V54 from hW] at hb
  have hgr : World.grownBy W1 V54 (some g) := by rw [← show sets W1 g [(0, .int .u8 1)] = V54 from hW]; exact grown_sets g _ _
  replace HB := Lib.hid (show Blk V54 g 50 #[.int .u8 1, .int .u32 0, .int .u32 0, .int .i64 0, .int .u64 0, .int .u32 0, .int .u32 0, .int .u32 0, .int .u32 0, .bool false, .slice none 0 0, .int .i64 0] from hb)
  replace HG := Lib.hid (World.grownBy.andThen HG.out hgr (fun k e => .inl (by cases e; exact HQ.out.2.2)))
  replace HRd := Lib.hid (HRd.out.kept hgr HQ.out.1 (Nat.le_trans HQ.out.2.1 (Nat.le_refl _)))
  clear hW hb hgr C
  have C := blk_says HB.out
  simp only [cellsSay, Nat.reduceAdd, and_true] at C
  by_cases hl1 : l.length < 5
  · have HC := Lib.hid (nword_no HRd.out (by rw [List.length_drop]; omega))
    go_wp2_with fail
    refine HC.out.mono ?_
    rintro e wz ⟨rfl, hz⟩
    have Hz := Lib.hid hz
    clear hz
    go_wp2_with fail
    refine ⟨rfl, Or.inl ⟨by omega, rfl, Lib.hid ?_⟩⟩
    rw [Hz.out]
    exact ⟨HG.out, HRd.out.top⟩
  have hC := nword_yes HRd.out (by rw [List.length_drop]; omega) (by rw [List.length_drop]; omega)
  rw [HP.out.2, List.drop_drop] at hC
  simp only [Nat.reduceAdd, Nat.zero_add] at hC
  have HC := Lib.hid hC
  clear hC
  go_wp2_with fail
  refine HC.out.mono ?_
  clear HC
  rintro e W2 ⟨rfl, HR⟩
  replace HB := Lib.hid (HB.out.kept HR.out.2 (by intro e; injection e with e; exact HQ.out.1 e.symm))
  replace HG := Lib.hid (grown_trans HG.out HR.out.2)
  replace HRd := Lib.hid HR.out.1
  clear HR C
  have C := blk_says HB.out
  simp only [cellsSay, Nat.reduceAdd, and_true] at C
  go_upto_region 4 with fail
  generalize hW : World.setCell _ _ _ = V91
  have hb := Blk.sets [(1, .int .u32 (ep : Nat))] HB.out
  rw [show sets _ g [(1, .int .u32 (ep : Nat))] = V91 from hW] at hb
  have hgr : World.grownBy W2 V91 (some g) := by rw [← show sets W2 g [(1, .int .u32 (ep : Nat))] = V91 from hW]; exact grown_sets g _ _
  replace HB := Lib.hid (show Blk V91 g 50 #[.int .u8 1, .int .u32 (ep : Nat), .int .u32 0, .int .i64 0, .int .u64 0, .int .u32 0, .int .u32 0, .int .u32 0, .int .u32 0, .bool false, .slice none 0 0, .int .i64 0] from hb)
  replace HG := Lib.hid (World.grownBy.andThen HG.out hgr (fun k e => .inl (by cases e; exact HQ.out.2.2)))
  replace HRd := Lib.hid (HRd.out.kept hgr HQ.out.1 (Nat.le_trans HQ.out.2.1 (Nat.le_refl _)))
  clear hW hb hgr C
  have C := blk_says HB.out
  simp only [cellsSay, Nat.reduceAdd, and_true] at C
  go_wp2_with fail
  generalize hW : World.setCell _ _ _ = Wn
  have hb := Blk.sets [(0, .int .u8 1), (1, .int .u32 (ep : Nat)), (2, .int .u32 0), (3, .int .i64 0), (4, .int .u64 0), (5, .int .u32 0), (6, .int .u32 0), (7, .int .u32 0), (8, .int .u32 0), (9, .bool false), (10, .slice none 0 0), (11, .int .i64 0)] HB.out
  rw [show sets _ g [(0, .int .u8 1), (1, .int .u32 (ep : Nat)), (2, .int .u32 0), (3, .int .i64 0), (4, .int .u64 0), (5, .int .u32 0), (6, .int .u32 0), (7, .int .u32 0), (8, .int .u32 0), (9, .bool false), (10, .slice none 0 0), (11, .int .i64 0)] = Wn from hW] at hb
  have hgr : World.grownBy V91 Wn (some g) := by rw [← show sets V91 g [(0, .int .u8 1), (1, .int .u32 (ep : Nat)), (2, .int .u32 0), (3, .int .i64 0), (4, .int .u64 0), (5, .int .u32 0), (6, .int .u32 0), (7, .int .u32 0), (8, .int .u32 0), (9, .bool false), (10, .slice none 0 0), (11, .int .i64 0)] = Wn from hW]; exact grown_sets g _ _
  replace HB := Lib.hid (show Blk Wn g 50 #[.int .u8 1, .int .u32 (ep : Nat), .int .u32 0, .int .i64 0, .int .u64 0, .int .u32 0, .int .u32 0, .int .u32 0, .int .u32 0, .bool false, .slice none 0 0, .int .i64 0] from hb)
  replace HG := Lib.hid (World.grownBy.andThen HG.out hgr (fun k e => .inl (by cases e; exact HQ.out.2.2)))
  replace HRd := Lib.hid (HRd.out.kept hgr HQ.out.1 (Nat.le_trans HQ.out.2.1 (Nat.le_refl _)))
  clear hW hb hgr C
  have C := blk_says HB.out
  simp only [cellsSay, Nat.reduceAdd, and_true] at C
  refine bodyPost_ret (v := .tuple #[.agg #[.int .u8 1, .int .u32 (ep : Nat), .int .u32 0, .int .i64 0, .int .u64 0, .int .u32 0, .int .u32 0, .int .u32 0, .int .u32 0, .bool false, .slice none 0 0, .int .i64 0], .int .u64 0]) (by simp [results, Try.results48, go_sem, C]) rfl (Or.inr ⟨by omega, rfl, Lib.hid ⟨HRd.out, HG.out⟩⟩)

end Go.Proofs.Ytpedobpbpomkaaa

/- Layer 11: the program's reader reads a note, kind 2. -/
set_option linter.unusedSimpArgs false
set_option linter.unusedVariables false
namespace Go.Proofs.Ytpedobpbpomkaaa
open Go.RowKit
set_option maxRecDepth 100000

set_option maxHeartbeats 8000000 in
theorem nnote_k2 {w0 w : World} {q : Nat} {l : List UInt8} (h : Rd w0 w q l) (hL : l.length ≤ 100000) (h1 : 1 ≤ l.length) (hk : num (part l 0 1) = 2) :
    Calls Try.prog 48 #[.pointer (some ⟨q, 0, none⟩)] w fun e w' => (l.length < 21 ∧ e = .panicked [{ v := .iface 75 (.agg #[]), recovered := false }] ∧ Hid (w.grownBy w' (some q) ∧ Below w0.heap.size w0 w')) ∨ (21 ≤ l.length ∧ e = .returned (.tuple #[.agg (noC { parN l with l := [] } none 0), .int .u64 0]) ∧ Hid (Rd w0 w' q (l.drop 21) ∧ w.grownBy w' (some q))) := by
  have hql : q < w.heap.size := by obtain ⟨A, c, h1, -⟩ := h.bx; exact h1.lt
  obtain ⟨kd, hkd⟩ : ∃ v, v = num (part l 0 1) := ⟨_, rfl⟩
  have b_kd : kd < 256 := by rw [hkd]; exact part_lt l 0 1
  obtain ⟨se, hse⟩ : ∃ v, v = num (part l 1 4) := ⟨_, rfl⟩
  have b_se : se < 4294967296 := by rw [hse]; exact part_lt l 1 4
  obtain ⟨t5, ht5⟩ : ∃ v, v = num (part l 5 8) := ⟨_, rfl⟩
  have b_t5 : t5 < 18446744073709551616 := by rw [ht5]; exact part_lt l 5 8
  obtain ⟨v13, hv13⟩ : ∃ v, v = num (part l 13 8) := ⟨_, rfl⟩
  have b_v13 : v13 < 18446744073709551616 := by rw [hv13]; exact part_lt l 13 8
  obtain rfl : kd = 2 := by rw [hkd, hk]
  have u_kd : IntKind.u8.wrap (2 : Int) = 2 := by rw [IntKind.wrap_u8]; omega
  have u_t5 : IntKind.i64.wrap (t5 : Int) = i64 t5 := i64_wrap b_t5
  obtain ⟨ts, hts⟩ : ∃ t, t = i64 t5 := ⟨_, rfl⟩
  rw [← hts] at u_t5
  have hD : { parN l with l := [] } = (⟨2, 0, se, ts, v13, 0, 0, 0, 0, false, [], 0⟩ : NoD) := by
    unfold parN
    rw [hk, ← hse, ← ht5, ← hv13, ← hts]
    rfl
  rw [hD]
  simp only [noC, List.length_nil]
  have hp_kd : num ((l.drop 0).take 1) = 2 := hk
  have hp_se : num ((l.drop 1).take 4) = se := hse.symm
  have hp_t5 : num ((l.drop 5).take 8) = t5 := ht5.symm
  have hp_v13 : num ((l.drop 13).take 8) = v13 := hv13.symm
  have HP := Lib.hid (And.intro hp_kd ( And.intro hp_se ( And.intro hp_t5 (hp_v13))))
  have HG0 := Lib.hid (World.grownBy.refl w (some q))
  have hRd0 : Rd w0 w q (l.drop 0) := h
  have HRd := Lib.hid hRd0
  have hw0 : w0.heap.size ≤ w.heap.size := h.top.size
  clear hRd0 h hD hk hp_kd hp_se hp_t5 hp_v13 hkd hse ht5 hv13 b_kd b_se b_t5 b_v13 hts
  obtain ⟨g, hg⟩ : ∃ g, g = w.heap.size := ⟨_, rfl⟩
  obtain ⟨W, hW1⟩ : ∃ W, W = w.alloc (.cells #[.int .u8 0, .int .u32 0, .int .u32 0, .int .i64 0, .int .u64 0, .int .u32 0, .int .u32 0, .int .u32 0, .int .u32 0, .bool false, .slice none 0 0, .int .i64 0] 50) := ⟨_, rfl⟩
  have HB : Hid (Blk W g 50 #[.int .u8 0, .int .u32 0, .int .u32 0, .int .i64 0, .int .u64 0, .int .u32 0, .int .u32 0, .int .u32 0, .int .u32 0, .bool false, .slice none 0 0, .int .i64 0]) := Lib.hid (by rw [hW1, hg]; exact Blk.new w _ _)
  have hbw : Below w.heap.size w W := by rw [hW1]; exact below_alloc w _
  replace HRd := Lib.hid (HRd.out.below hbw)
  have HG : Hid (w.grownBy W (some q)) := Lib.hid (grown_below hbw _)
  clear HG0 hbw
  go_enter Try.func48, Try.ntmps48
  rw [← hg] at hql hw0
  go_upto_region 1 with fail
  rw [← hW1, ← hg]
  clear hW1
  have hgq : g ≠ q := by omega
  have HQ := Lib.hid (And.intro hgq (And.intro hw0 (Nat.le_of_eq hg.symm)))
  clear hgq hw0 hql hg
  have C := blk_says HB.out
  simp only [cellsSay, Nat.reduceAdd, and_true] at C
  have hC := nnum_yes HRd.out 1 (by rw [List.length_drop]; omega) (by decide) (by decide) (by rw [List.length_drop]; omega)
  rw [HP.out.1, List.drop_drop] at hC
  simp only [Nat.reduceAdd, Nat.zero_add] at hC
  have HC := Lib.hid hC
  clear hC
  go_wp2_with fail
  refine HC.out.mono ?_
  clear HC
  rintro e W1 ⟨rfl, HR⟩
  replace HB := Lib.hid (HB.out.kept HR.out.2 (by intro e; injection e with e; exact HQ.out.1 e.symm))
  replace HG := Lib.hid (grown_trans HG.out HR.out.2)
  replace HRd := Lib.hid HR.out.1
  clear HR C
  have C := blk_says HB.out
  simp only [cellsSay, Nat.reduceAdd, and_true] at C
  go_upto_region 2 with fail
  generalize hW : World.setCell _ _ _ = V63
  have hb := Blk.sets [(0, .int .u8 2)] HB.out
  rw [show sets _ g [(0, .int .u8 2)] = V63 from hW] at hb
  have hgr : World.grownBy W1 V63 (some g) := by rw [← show sets W1 g [(0, .int .u8 2)] = V63 from hW]; exact grown_sets g _ _
  replace HB := Lib.hid (show Blk V63 g 50 #[.int .u8 2, .int .u32 0, .int .u32 0, .int .i64 0, .int .u64 0, .int .u32 0, .int .u32 0, .int .u32 0, .int .u32 0, .bool false, .slice none 0 0, .int .i64 0] from hb)
  replace HG := Lib.hid (World.grownBy.andThen HG.out hgr (fun k e => .inl (by cases e; exact HQ.out.2.2)))
  replace HRd := Lib.hid (HRd.out.kept hgr HQ.out.1 (Nat.le_trans HQ.out.2.1 (Nat.le_refl _)))
  clear hW hb hgr C
  have C := blk_says HB.out
  simp only [cellsSay, Nat.reduceAdd, and_true] at C
  by_cases hl1 : l.length < 5
  · have HC := Lib.hid (nword_no HRd.out (by rw [List.length_drop]; omega))
    go_wp2_with fail
    refine HC.out.mono ?_
    rintro e wz ⟨rfl, hz⟩
    have Hz := Lib.hid hz
    clear hz
    go_wp2_with fail
    refine ⟨rfl, Or.inl ⟨by omega, rfl, Lib.hid ?_⟩⟩
    rw [Hz.out]
    exact ⟨HG.out, HRd.out.top⟩
  have hC := nword_yes HRd.out (by rw [List.length_drop]; omega) (by rw [List.length_drop]; omega)
  rw [HP.out.2.1, List.drop_drop] at hC
  simp only [Nat.reduceAdd, Nat.zero_add] at hC
  have HC := Lib.hid hC
  clear hC
  go_wp2_with fail
  refine HC.out.mono ?_
  clear HC
  rintro e W2 ⟨rfl, HR⟩
  replace HB := Lib.hid (HB.out.kept HR.out.2 (by intro e; injection e with e; exact HQ.out.1 e.symm))
  replace HG := Lib.hid (grown_trans HG.out HR.out.2)
  replace HRd := Lib.hid HR.out.1
  clear HR C
  have C := blk_says HB.out
  simp only [cellsSay, Nat.reduceAdd, and_true] at C
  go_upto_region 6 with fail
  generalize hW : World.setCell _ _ _ = V100
  have hb := Blk.sets [(2, .int .u32 (se : Nat))] HB.out
  rw [show sets _ g [(2, .int .u32 (se : Nat))] = V100 from hW] at hb
  have hgr : World.grownBy W2 V100 (some g) := by rw [← show sets W2 g [(2, .int .u32 (se : Nat))] = V100 from hW]; exact grown_sets g _ _
  replace HB := Lib.hid (show Blk V100 g 50 #[.int .u8 2, .int .u32 0, .int .u32 (se : Nat), .int .i64 0, .int .u64 0, .int .u32 0, .int .u32 0, .int .u32 0, .int .u32 0, .bool false, .slice none 0 0, .int .i64 0] from hb)
  replace HG := Lib.hid (World.grownBy.andThen HG.out hgr (fun k e => .inl (by cases e; exact HQ.out.2.2)))
  replace HRd := Lib.hid (HRd.out.kept hgr HQ.out.1 (Nat.le_trans HQ.out.2.1 (Nat.le_refl _)))
  clear hW hb hgr C
  have C := blk_says HB.out
  simp only [cellsSay, Nat.reduceAdd, and_true] at C
  by_cases hl5 : l.length < 13
  · have HC := Lib.hid (nnum_no HRd.out 8 (by rw [List.length_drop]; omega) (by decide))
    go_wp2_with fail
    refine HC.out.mono ?_
    rintro e wz ⟨rfl, hz⟩
    have Hz := Lib.hid hz
    clear hz
    go_wp2_with fail
    refine ⟨rfl, Or.inl ⟨by omega, rfl, Lib.hid ?_⟩⟩
    rw [Hz.out]
    exact ⟨HG.out, HRd.out.top⟩
  have hC := nnum_yes HRd.out 8 (by rw [List.length_drop]; omega) (by decide) (by decide) (by rw [List.length_drop]; omega)
  rw [HP.out.2.2.1, List.drop_drop] at hC
  simp only [Nat.reduceAdd, Nat.zero_add] at hC
  have HC := Lib.hid hC
  clear hC
  go_wp2_with fail
  refine HC.out.mono ?_
  clear HC
  rintro e W3 ⟨rfl, HR⟩
  replace HB := Lib.hid (HB.out.kept HR.out.2 (by intro e; injection e with e; exact HQ.out.1 e.symm))
  replace HG := Lib.hid (grown_trans HG.out HR.out.2)
  replace HRd := Lib.hid HR.out.1
  clear HR C
  have C := blk_says HB.out
  simp only [cellsSay, Nat.reduceAdd, and_true] at C
  by_cases hl13 : l.length < 21
  · have HC := Lib.hid (nnum_no HRd.out 8 (by rw [List.length_drop]; omega) (by decide))
    go_wp2_with fail
    refine HC.out.mono ?_
    rintro e wz ⟨rfl, hz⟩
    have Hz := Lib.hid hz
    clear hz
    go_wp2_with fail
    refine ⟨rfl, Or.inl ⟨by omega, rfl, Lib.hid ?_⟩⟩
    rw [Hz.out]
    exact ⟨HG.out, HRd.out.top⟩
  have hC := nnum_yes HRd.out 8 (by rw [List.length_drop]; omega) (by decide) (by decide) (by rw [List.length_drop]; omega)
  rw [HP.out.2.2.2, List.drop_drop] at hC
  simp only [Nat.reduceAdd, Nat.zero_add] at hC
  have HC := Lib.hid hC
  clear hC
  go_wp2_with fail
  refine HC.out.mono ?_
  clear HC
  rintro e W4 ⟨rfl, HR⟩
  replace HB := Lib.hid (HB.out.kept HR.out.2 (by intro e; injection e with e; exact HQ.out.1 e.symm))
  replace HG := Lib.hid (grown_trans HG.out HR.out.2)
  replace HRd := Lib.hid HR.out.1
  clear HR C
  have C := blk_says HB.out
  simp only [cellsSay, Nat.reduceAdd, and_true] at C
  go_upto_region 8 with fail
  generalize hW : World.setCell _ _ _ = V163
  have hb := Blk.sets [(3, .int .i64 ts), (4, .int .u64 (v13 : Nat))] HB.out
  rw [show sets _ g [(3, .int .i64 ts), (4, .int .u64 (v13 : Nat))] = V163 from hW] at hb
  have hgr : World.grownBy W4 V163 (some g) := by rw [← show sets W4 g [(3, .int .i64 ts), (4, .int .u64 (v13 : Nat))] = V163 from hW]; exact grown_sets g _ _
  replace HB := Lib.hid (show Blk V163 g 50 #[.int .u8 2, .int .u32 0, .int .u32 (se : Nat), .int .i64 ts, .int .u64 (v13 : Nat), .int .u32 0, .int .u32 0, .int .u32 0, .int .u32 0, .bool false, .slice none 0 0, .int .i64 0] from hb)
  replace HG := Lib.hid (World.grownBy.andThen HG.out hgr (fun k e => .inl (by cases e; exact HQ.out.2.2)))
  replace HRd := Lib.hid (HRd.out.kept hgr HQ.out.1 (Nat.le_trans HQ.out.2.1 (Nat.le_refl _)))
  clear hW hb hgr C
  have C := blk_says HB.out
  simp only [cellsSay, Nat.reduceAdd, and_true] at C
  go_wp2_with fail
  generalize hW : World.setCell _ _ _ = Wn
  have hb := Blk.sets [(0, .int .u8 2), (1, .int .u32 0), (2, .int .u32 (se : Nat)), (3, .int .i64 ts), (4, .int .u64 (v13 : Nat)), (5, .int .u32 0), (6, .int .u32 0), (7, .int .u32 0), (8, .int .u32 0), (9, .bool false), (10, .slice none 0 0), (11, .int .i64 0)] HB.out
  rw [show sets _ g [(0, .int .u8 2), (1, .int .u32 0), (2, .int .u32 (se : Nat)), (3, .int .i64 ts), (4, .int .u64 (v13 : Nat)), (5, .int .u32 0), (6, .int .u32 0), (7, .int .u32 0), (8, .int .u32 0), (9, .bool false), (10, .slice none 0 0), (11, .int .i64 0)] = Wn from hW] at hb
  have hgr : World.grownBy V163 Wn (some g) := by rw [← show sets V163 g [(0, .int .u8 2), (1, .int .u32 0), (2, .int .u32 (se : Nat)), (3, .int .i64 ts), (4, .int .u64 (v13 : Nat)), (5, .int .u32 0), (6, .int .u32 0), (7, .int .u32 0), (8, .int .u32 0), (9, .bool false), (10, .slice none 0 0), (11, .int .i64 0)] = Wn from hW]; exact grown_sets g _ _
  replace HB := Lib.hid (show Blk Wn g 50 #[.int .u8 2, .int .u32 0, .int .u32 (se : Nat), .int .i64 ts, .int .u64 (v13 : Nat), .int .u32 0, .int .u32 0, .int .u32 0, .int .u32 0, .bool false, .slice none 0 0, .int .i64 0] from hb)
  replace HG := Lib.hid (World.grownBy.andThen HG.out hgr (fun k e => .inl (by cases e; exact HQ.out.2.2)))
  replace HRd := Lib.hid (HRd.out.kept hgr HQ.out.1 (Nat.le_trans HQ.out.2.1 (Nat.le_refl _)))
  clear hW hb hgr C
  have C := blk_says HB.out
  simp only [cellsSay, Nat.reduceAdd, and_true] at C
  refine bodyPost_ret (v := .tuple #[.agg #[.int .u8 2, .int .u32 0, .int .u32 (se : Nat), .int .i64 ts, .int .u64 (v13 : Nat), .int .u32 0, .int .u32 0, .int .u32 0, .int .u32 0, .bool false, .slice none 0 0, .int .i64 0], .int .u64 0]) (by simp [results, Try.results48, go_sem, C]) rfl (Or.inr ⟨by omega, rfl, Lib.hid ⟨HRd.out, HG.out⟩⟩)

end Go.Proofs.Ytpedobpbpomkaaa

/- Layer 11: the program's reader reads a note, kind 3. -/
set_option linter.unusedSimpArgs false
set_option linter.unusedVariables false
namespace Go.Proofs.Ytpedobpbpomkaaa
open Go.RowKit
set_option maxRecDepth 100000

set_option maxHeartbeats 8000000 in
theorem nnote_k3 {w0 w : World} {q : Nat} {l : List UInt8} (h : Rd w0 w q l) (hL : l.length ≤ 100000) (h1 : 1 ≤ l.length) (hk : num (part l 0 1) = 3) :
    Calls Try.prog 48 #[.pointer (some ⟨q, 0, none⟩)] w fun e w' => (l.length < 17 ∧ e = .panicked [{ v := .iface 75 (.agg #[]), recovered := false }] ∧ Hid (w.grownBy w' (some q) ∧ Below w0.heap.size w0 w')) ∨ (17 ≤ l.length ∧ e = .returned (.tuple #[.agg (noC { parN l with l := [] } none 0), .int .u64 0]) ∧ Hid (Rd w0 w' q (l.drop 17) ∧ w.grownBy w' (some q))) := by
  have hql : q < w.heap.size := by obtain ⟨A, c, h1, -⟩ := h.bx; exact h1.lt
  obtain ⟨kd, hkd⟩ : ∃ v, v = num (part l 0 1) := ⟨_, rfl⟩
  have b_kd : kd < 256 := by rw [hkd]; exact part_lt l 0 1
  obtain ⟨se, hse⟩ : ∃ v, v = num (part l 1 4) := ⟨_, rfl⟩
  have b_se : se < 4294967296 := by rw [hse]; exact part_lt l 1 4
  obtain ⟨a5, ha5⟩ : ∃ v, v = num (part l 5 4) := ⟨_, rfl⟩
  have b_a5 : a5 < 4294967296 := by rw [ha5]; exact part_lt l 5 4
  obtain ⟨a9, ha9⟩ : ∃ v, v = num (part l 9 4) := ⟨_, rfl⟩
  have b_a9 : a9 < 4294967296 := by rw [ha9]; exact part_lt l 9 4
  obtain ⟨a13, ha13⟩ : ∃ v, v = num (part l 13 4) := ⟨_, rfl⟩
  have b_a13 : a13 < 4294967296 := by rw [ha13]; exact part_lt l 13 4
  obtain rfl : kd = 3 := by rw [hkd, hk]
  have u_kd : IntKind.u8.wrap (3 : Int) = 3 := by rw [IntKind.wrap_u8]; omega
  have hD : { parN l with l := [] } = (⟨3, 0, se, 0, 0, a5, a9, a13, 0, false, [], 0⟩ : NoD) := by
    unfold parN
    rw [hk, ← hse, ← ha5, ← ha9, ← ha13]
    rfl
  rw [hD]
  simp only [noC, List.length_nil]
  have hp_kd : num ((l.drop 0).take 1) = 3 := hk
  have hp_se : num ((l.drop 1).take 4) = se := hse.symm
  have hp_a5 : num ((l.drop 5).take 4) = a5 := ha5.symm
  have hp_a9 : num ((l.drop 9).take 4) = a9 := ha9.symm
  have hp_a13 : num ((l.drop 13).take 4) = a13 := ha13.symm
  have HP := Lib.hid (And.intro hp_kd ( And.intro hp_se ( And.intro hp_a5 ( And.intro hp_a9 (hp_a13)))))
  have HG0 := Lib.hid (World.grownBy.refl w (some q))
  have hRd0 : Rd w0 w q (l.drop 0) := h
  have HRd := Lib.hid hRd0
  have hw0 : w0.heap.size ≤ w.heap.size := h.top.size
  clear hRd0 h hD hk hp_kd hp_se hp_a5 hp_a9 hp_a13 hkd hse ha5 ha9 ha13 b_kd b_se b_a5 b_a9 b_a13
  obtain ⟨g, hg⟩ : ∃ g, g = w.heap.size := ⟨_, rfl⟩
  obtain ⟨W, hW1⟩ : ∃ W, W = w.alloc (.cells #[.int .u8 0, .int .u32 0, .int .u32 0, .int .i64 0, .int .u64 0, .int .u32 0, .int .u32 0, .int .u32 0, .int .u32 0, .bool false, .slice none 0 0, .int .i64 0] 50) := ⟨_, rfl⟩
  have HB : Hid (Blk W g 50 #[.int .u8 0, .int .u32 0, .int .u32 0, .int .i64 0, .int .u64 0, .int .u32 0, .int .u32 0, .int .u32 0, .int .u32 0, .bool false, .slice none 0 0, .int .i64 0]) := Lib.hid (by rw [hW1, hg]; exact Blk.new w _ _)
  have hbw : Below w.heap.size w W := by rw [hW1]; exact below_alloc w _
  replace HRd := Lib.hid (HRd.out.below hbw)
  have HG : Hid (w.grownBy W (some q)) := Lib.hid (grown_below hbw _)
  clear HG0 hbw
  go_enter Try.func48, Try.ntmps48
  rw [← hg] at hql hw0
  go_upto_region 1 with fail
  rw [← hW1, ← hg]
  clear hW1
  have hgq : g ≠ q := by omega
  have HQ := Lib.hid (And.intro hgq (And.intro hw0 (Nat.le_of_eq hg.symm)))
  clear hgq hw0 hql hg
  have C := blk_says HB.out
  simp only [cellsSay, Nat.reduceAdd, and_true] at C
  have hC := nnum_yes HRd.out 1 (by rw [List.length_drop]; omega) (by decide) (by decide) (by rw [List.length_drop]; omega)
  rw [HP.out.1, List.drop_drop] at hC
  simp only [Nat.reduceAdd, Nat.zero_add] at hC
  have HC := Lib.hid hC
  clear hC
  go_wp2_with fail
  refine HC.out.mono ?_
  clear HC
  rintro e W1 ⟨rfl, HR⟩
  replace HB := Lib.hid (HB.out.kept HR.out.2 (by intro e; injection e with e; exact HQ.out.1 e.symm))
  replace HG := Lib.hid (grown_trans HG.out HR.out.2)
  replace HRd := Lib.hid HR.out.1
  clear HR C
  have C := blk_says HB.out
  simp only [cellsSay, Nat.reduceAdd, and_true] at C
  go_upto_region 2 with fail
  generalize hW : World.setCell _ _ _ = V63
  have hb := Blk.sets [(0, .int .u8 3)] HB.out
  rw [show sets _ g [(0, .int .u8 3)] = V63 from hW] at hb
  have hgr : World.grownBy W1 V63 (some g) := by rw [← show sets W1 g [(0, .int .u8 3)] = V63 from hW]; exact grown_sets g _ _
  replace HB := Lib.hid (show Blk V63 g 50 #[.int .u8 3, .int .u32 0, .int .u32 0, .int .i64 0, .int .u64 0, .int .u32 0, .int .u32 0, .int .u32 0, .int .u32 0, .bool false, .slice none 0 0, .int .i64 0] from hb)
  replace HG := Lib.hid (World.grownBy.andThen HG.out hgr (fun k e => .inl (by cases e; exact HQ.out.2.2)))
  replace HRd := Lib.hid (HRd.out.kept hgr HQ.out.1 (Nat.le_trans HQ.out.2.1 (Nat.le_refl _)))
  clear hW hb hgr C
  have C := blk_says HB.out
  simp only [cellsSay, Nat.reduceAdd, and_true] at C
  by_cases hl1 : l.length < 5
  · have HC := Lib.hid (nword_no HRd.out (by rw [List.length_drop]; omega))
    go_wp2_with fail
    refine HC.out.mono ?_
    rintro e wz ⟨rfl, hz⟩
    have Hz := Lib.hid hz
    clear hz
    go_wp2_with fail
    refine ⟨rfl, Or.inl ⟨by omega, rfl, Lib.hid ?_⟩⟩
    rw [Hz.out]
    exact ⟨HG.out, HRd.out.top⟩
  have hC := nword_yes HRd.out (by rw [List.length_drop]; omega) (by rw [List.length_drop]; omega)
  rw [HP.out.2.1, List.drop_drop] at hC
  simp only [Nat.reduceAdd, Nat.zero_add] at hC
  have HC := Lib.hid hC
  clear hC
  go_wp2_with fail
  refine HC.out.mono ?_
  clear HC
  rintro e W2 ⟨rfl, HR⟩
  replace HB := Lib.hid (HB.out.kept HR.out.2 (by intro e; injection e with e; exact HQ.out.1 e.symm))
  replace HG := Lib.hid (grown_trans HG.out HR.out.2)
  replace HRd := Lib.hid HR.out.1
  clear HR C
  have C := blk_says HB.out
  simp only [cellsSay, Nat.reduceAdd, and_true] at C
  go_upto_region 6 with fail
  generalize hW : World.setCell _ _ _ = V100
  have hb := Blk.sets [(2, .int .u32 (se : Nat))] HB.out
  rw [show sets _ g [(2, .int .u32 (se : Nat))] = V100 from hW] at hb
  have hgr : World.grownBy W2 V100 (some g) := by rw [← show sets W2 g [(2, .int .u32 (se : Nat))] = V100 from hW]; exact grown_sets g _ _
  replace HB := Lib.hid (show Blk V100 g 50 #[.int .u8 3, .int .u32 0, .int .u32 (se : Nat), .int .i64 0, .int .u64 0, .int .u32 0, .int .u32 0, .int .u32 0, .int .u32 0, .bool false, .slice none 0 0, .int .i64 0] from hb)
  replace HG := Lib.hid (World.grownBy.andThen HG.out hgr (fun k e => .inl (by cases e; exact HQ.out.2.2)))
  replace HRd := Lib.hid (HRd.out.kept hgr HQ.out.1 (Nat.le_trans HQ.out.2.1 (Nat.le_refl _)))
  clear hW hb hgr C
  have C := blk_says HB.out
  simp only [cellsSay, Nat.reduceAdd, and_true] at C
  by_cases hl5 : l.length < 9
  · have HC := Lib.hid (nword_no HRd.out (by rw [List.length_drop]; omega))
    go_wp2_with fail
    refine HC.out.mono ?_
    rintro e wz ⟨rfl, hz⟩
    have Hz := Lib.hid hz
    clear hz
    go_wp2_with fail
    refine ⟨rfl, Or.inl ⟨by omega, rfl, Lib.hid ?_⟩⟩
    rw [Hz.out]
    exact ⟨HG.out, HRd.out.top⟩
  have hC := nword_yes HRd.out (by rw [List.length_drop]; omega) (by rw [List.length_drop]; omega)
  rw [HP.out.2.2.1, List.drop_drop] at hC
  simp only [Nat.reduceAdd, Nat.zero_add] at hC
  have HC := Lib.hid hC
  clear hC
  go_wp2_with fail
  refine HC.out.mono ?_
  clear HC
  rintro e W3 ⟨rfl, HR⟩
  replace HB := Lib.hid (HB.out.kept HR.out.2 (by intro e; injection e with e; exact HQ.out.1 e.symm))
  replace HG := Lib.hid (grown_trans HG.out HR.out.2)
  replace HRd := Lib.hid HR.out.1
  clear HR C
  have C := blk_says HB.out
  simp only [cellsSay, Nat.reduceAdd, and_true] at C
  by_cases hl9 : l.length < 13
  · have HC := Lib.hid (nword_no HRd.out (by rw [List.length_drop]; omega))
    go_wp2_with fail
    refine HC.out.mono ?_
    rintro e wz ⟨rfl, hz⟩
    have Hz := Lib.hid hz
    clear hz
    go_wp2_with fail
    refine ⟨rfl, Or.inl ⟨by omega, rfl, Lib.hid ?_⟩⟩
    rw [Hz.out]
    exact ⟨HG.out, HRd.out.top⟩
  have hC := nword_yes HRd.out (by rw [List.length_drop]; omega) (by rw [List.length_drop]; omega)
  rw [HP.out.2.2.2.1, List.drop_drop] at hC
  simp only [Nat.reduceAdd, Nat.zero_add] at hC
  have HC := Lib.hid hC
  clear hC
  go_wp2_with fail
  refine HC.out.mono ?_
  clear HC
  rintro e W4 ⟨rfl, HR⟩
  replace HB := Lib.hid (HB.out.kept HR.out.2 (by intro e; injection e with e; exact HQ.out.1 e.symm))
  replace HG := Lib.hid (grown_trans HG.out HR.out.2)
  replace HRd := Lib.hid HR.out.1
  clear HR C
  have C := blk_says HB.out
  simp only [cellsSay, Nat.reduceAdd, and_true] at C
  by_cases hl13 : l.length < 17
  · have HC := Lib.hid (nword_no HRd.out (by rw [List.length_drop]; omega))
    go_wp2_with fail
    refine HC.out.mono ?_
    rintro e wz ⟨rfl, hz⟩
    have Hz := Lib.hid hz
    clear hz
    go_wp2_with fail
    refine ⟨rfl, Or.inl ⟨by omega, rfl, Lib.hid ?_⟩⟩
    rw [Hz.out]
    exact ⟨HG.out, HRd.out.top⟩
  have hC := nword_yes HRd.out (by rw [List.length_drop]; omega) (by rw [List.length_drop]; omega)
  rw [HP.out.2.2.2.2, List.drop_drop] at hC
  simp only [Nat.reduceAdd, Nat.zero_add] at hC
  have HC := Lib.hid hC
  clear hC
  go_wp2_with fail
  refine HC.out.mono ?_
  clear HC
  rintro e W5 ⟨rfl, HR⟩
  replace HB := Lib.hid (HB.out.kept HR.out.2 (by intro e; injection e with e; exact HQ.out.1 e.symm))
  replace HG := Lib.hid (grown_trans HG.out HR.out.2)
  replace HRd := Lib.hid HR.out.1
  clear HR C
  have C := blk_says HB.out
  simp only [cellsSay, Nat.reduceAdd, and_true] at C
  go_upto_region 10 with fail
  generalize hW : World.setCell _ _ _ = V189
  have hb := Blk.sets [(5, .int .u32 (a5 : Nat)), (6, .int .u32 (a9 : Nat)), (7, .int .u32 (a13 : Nat))] HB.out
  rw [show sets _ g [(5, .int .u32 (a5 : Nat)), (6, .int .u32 (a9 : Nat)), (7, .int .u32 (a13 : Nat))] = V189 from hW] at hb
  have hgr : World.grownBy W5 V189 (some g) := by rw [← show sets W5 g [(5, .int .u32 (a5 : Nat)), (6, .int .u32 (a9 : Nat)), (7, .int .u32 (a13 : Nat))] = V189 from hW]; exact grown_sets g _ _
  replace HB := Lib.hid (show Blk V189 g 50 #[.int .u8 3, .int .u32 0, .int .u32 (se : Nat), .int .i64 0, .int .u64 0, .int .u32 (a5 : Nat), .int .u32 (a9 : Nat), .int .u32 (a13 : Nat), .int .u32 0, .bool false, .slice none 0 0, .int .i64 0] from hb)
  replace HG := Lib.hid (World.grownBy.andThen HG.out hgr (fun k e => .inl (by cases e; exact HQ.out.2.2)))
  replace HRd := Lib.hid (HRd.out.kept hgr HQ.out.1 (Nat.le_trans HQ.out.2.1 (Nat.le_refl _)))
  clear hW hb hgr C
  have C := blk_says HB.out
  simp only [cellsSay, Nat.reduceAdd, and_true] at C
  go_wp2_with fail
  generalize hW : World.setCell _ _ _ = Wn
  have hb := Blk.sets [(0, .int .u8 3), (1, .int .u32 0), (2, .int .u32 (se : Nat)), (3, .int .i64 0), (4, .int .u64 0), (5, .int .u32 (a5 : Nat)), (6, .int .u32 (a9 : Nat)), (7, .int .u32 (a13 : Nat)), (8, .int .u32 0), (9, .bool false), (10, .slice none 0 0), (11, .int .i64 0)] HB.out
  rw [show sets _ g [(0, .int .u8 3), (1, .int .u32 0), (2, .int .u32 (se : Nat)), (3, .int .i64 0), (4, .int .u64 0), (5, .int .u32 (a5 : Nat)), (6, .int .u32 (a9 : Nat)), (7, .int .u32 (a13 : Nat)), (8, .int .u32 0), (9, .bool false), (10, .slice none 0 0), (11, .int .i64 0)] = Wn from hW] at hb
  have hgr : World.grownBy V189 Wn (some g) := by rw [← show sets V189 g [(0, .int .u8 3), (1, .int .u32 0), (2, .int .u32 (se : Nat)), (3, .int .i64 0), (4, .int .u64 0), (5, .int .u32 (a5 : Nat)), (6, .int .u32 (a9 : Nat)), (7, .int .u32 (a13 : Nat)), (8, .int .u32 0), (9, .bool false), (10, .slice none 0 0), (11, .int .i64 0)] = Wn from hW]; exact grown_sets g _ _
  replace HB := Lib.hid (show Blk Wn g 50 #[.int .u8 3, .int .u32 0, .int .u32 (se : Nat), .int .i64 0, .int .u64 0, .int .u32 (a5 : Nat), .int .u32 (a9 : Nat), .int .u32 (a13 : Nat), .int .u32 0, .bool false, .slice none 0 0, .int .i64 0] from hb)
  replace HG := Lib.hid (World.grownBy.andThen HG.out hgr (fun k e => .inl (by cases e; exact HQ.out.2.2)))
  replace HRd := Lib.hid (HRd.out.kept hgr HQ.out.1 (Nat.le_trans HQ.out.2.1 (Nat.le_refl _)))
  clear hW hb hgr C
  have C := blk_says HB.out
  simp only [cellsSay, Nat.reduceAdd, and_true] at C
  refine bodyPost_ret (v := .tuple #[.agg #[.int .u8 3, .int .u32 0, .int .u32 (se : Nat), .int .i64 0, .int .u64 0, .int .u32 (a5 : Nat), .int .u32 (a9 : Nat), .int .u32 (a13 : Nat), .int .u32 0, .bool false, .slice none 0 0, .int .i64 0], .int .u64 0]) (by simp [results, Try.results48, go_sem, C]) rfl (Or.inr ⟨by omega, rfl, Lib.hid ⟨HRd.out, HG.out⟩⟩)

end Go.Proofs.Ytpedobpbpomkaaa

/- Layer 11: the program's reader reads a note, kind 4. -/
set_option linter.unusedSimpArgs false
set_option linter.unusedVariables false
namespace Go.Proofs.Ytpedobpbpomkaaa
open Go.RowKit
set_option maxRecDepth 100000

set_option maxHeartbeats 8000000 in
theorem nnote_k4 {w0 w : World} {q : Nat} {l : List UInt8} (h : Rd w0 w q l) (hL : l.length ≤ 100000) (h1 : 1 ≤ l.length) (hk : num (part l 0 1) ≠ 1 ∧ num (part l 0 1) ≠ 2 ∧ num (part l 0 1) ≠ 3) :
    Calls Try.prog 48 #[.pointer (some ⟨q, 0, none⟩)] w fun e w' => (l.length < 24 ∧ e = .panicked [{ v := .iface 75 (.agg #[]), recovered := false }] ∧ Hid (w.grownBy w' (some q) ∧ Below w0.heap.size w0 w')) ∨ (24 ≤ l.length ∧ e = .returned (.tuple #[.agg (noC { parN l with l := [] } none 0), .int .u64 (num (part l 21 1) : Nat)]) ∧ Hid (Rd w0 w' q (l.drop 24) ∧ w.grownBy w' (some q))) := by
  have hql : q < w.heap.size := by obtain ⟨A, c, h1, -⟩ := h.bx; exact h1.lt
  obtain ⟨kd, hkd⟩ : ∃ v, v = num (part l 0 1) := ⟨_, rfl⟩
  have b_kd : kd < 256 := by rw [hkd]; exact part_lt l 0 1
  obtain ⟨se, hse⟩ : ∃ v, v = num (part l 1 4) := ⟨_, rfl⟩
  have b_se : se < 4294967296 := by rw [hse]; exact part_lt l 1 4
  obtain ⟨a5, ha5⟩ : ∃ v, v = num (part l 5 4) := ⟨_, rfl⟩
  have b_a5 : a5 < 4294967296 := by rw [ha5]; exact part_lt l 5 4
  obtain ⟨a9, ha9⟩ : ∃ v, v = num (part l 9 4) := ⟨_, rfl⟩
  have b_a9 : a9 < 4294967296 := by rw [ha9]; exact part_lt l 9 4
  obtain ⟨a13, ha13⟩ : ∃ v, v = num (part l 13 4) := ⟨_, rfl⟩
  have b_a13 : a13 < 4294967296 := by rw [ha13]; exact part_lt l 13 4
  obtain ⟨cn, hcn⟩ : ∃ v, v = num (part l 17 4) := ⟨_, rfl⟩
  have b_cn : cn < 4294967296 := by rw [hcn]; exact part_lt l 17 4
  obtain ⟨cb, hcb⟩ : ∃ v, v = num (part l 21 1) := ⟨_, rfl⟩
  have b_cb : cb < 256 := by rw [hcb]; exact part_lt l 21 1
  obtain ⟨m, hm⟩ : ∃ v, v = num (part l 22 2) := ⟨_, rfl⟩
  have b_m : m < 65536 := by rw [hm]; exact part_lt l 22 2
  have u_kd : IntKind.u8.wrap (kd : Int) = kd := by rw [IntKind.wrap_u8]; omega
  have u_m : IntKind.i64.wrap (m : Int) = (m : Int) := by rw [IntKind.wrap_i64]; omega
  obtain ⟨cl, hcl⟩ : ∃ b, ((cb : Int) == 1) = b := ⟨_, rfl⟩
  have hD : { parN l with l := [] } = (⟨kd, 0, se, 0, 0, a5, a9, a13, cn, cl, [], (m : Nat)⟩ : NoD) := by
    unfold parN
    have hcl2 : decide (cb = 1) = cl := by rw [← hcl, Bool.eq_iff_iff, decide_eq_true_iff, beq_iff_eq]; omega
    simp only [hk.1, hk.2.1, hk.2.2, if_false]
    rw [← hkd, ← hse, ← ha5, ← ha9, ← ha13, ← hcn, ← hm, ← hcb, hcl2]
  rw [hD]
  rw [← hcb]
  rw [← hkd] at hk
  simp only [noC, List.length_nil]
  have hp_kd : num ((l.drop 0).take 1) = kd := hkd.symm
  have hp_se : num ((l.drop 1).take 4) = se := hse.symm
  have hp_a5 : num ((l.drop 5).take 4) = a5 := ha5.symm
  have hp_a9 : num ((l.drop 9).take 4) = a9 := ha9.symm
  have hp_a13 : num ((l.drop 13).take 4) = a13 := ha13.symm
  have hp_cn : num ((l.drop 17).take 4) = cn := hcn.symm
  have hp_cb : num ((l.drop 21).take 1) = cb := hcb.symm
  have hp_m : num ((l.drop 22).take 2) = m := hm.symm
  have hk1 : (((kd : Nat) : Int) == 1) = false := beq_eq_false_iff_ne.2 (by omega)
  have hk2 : (((kd : Nat) : Int) == 2) = false := beq_eq_false_iff_ne.2 (by omega)
  have hk3 : (((kd : Nat) : Int) == 3) = false := beq_eq_false_iff_ne.2 (by omega)
  have HP := Lib.hid (And.intro hp_kd ( And.intro hp_se ( And.intro hp_a5 ( And.intro hp_a9 ( And.intro hp_a13 ( And.intro hp_cn ( And.intro hp_cb (hp_m))))))))
  have HCl := Lib.hid hcl
  have HG0 := Lib.hid (World.grownBy.refl w (some q))
  have hRd0 : Rd w0 w q (l.drop 0) := h
  have HRd := Lib.hid hRd0
  have hw0 : w0.heap.size ≤ w.heap.size := h.top.size
  clear hRd0 h hD hk hp_kd hp_se hp_a5 hp_a9 hp_a13 hp_cn hp_cb hp_m hkd hse ha5 ha9 ha13 hcn hcb hm b_kd b_se b_a5 b_a9 b_a13 b_cn b_cb b_m hcl
  obtain ⟨g, hg⟩ : ∃ g, g = w.heap.size := ⟨_, rfl⟩
  obtain ⟨W, hW1⟩ : ∃ W, W = w.alloc (.cells #[.int .u8 0, .int .u32 0, .int .u32 0, .int .i64 0, .int .u64 0, .int .u32 0, .int .u32 0, .int .u32 0, .int .u32 0, .bool false, .slice none 0 0, .int .i64 0] 50) := ⟨_, rfl⟩
  have HB : Hid (Blk W g 50 #[.int .u8 0, .int .u32 0, .int .u32 0, .int .i64 0, .int .u64 0, .int .u32 0, .int .u32 0, .int .u32 0, .int .u32 0, .bool false, .slice none 0 0, .int .i64 0]) := Lib.hid (by rw [hW1, hg]; exact Blk.new w _ _)
  have hbw : Below w.heap.size w W := by rw [hW1]; exact below_alloc w _
  replace HRd := Lib.hid (HRd.out.below hbw)
  have HG : Hid (w.grownBy W (some q)) := Lib.hid (grown_below hbw _)
  clear HG0 hbw
  go_enter Try.func48, Try.ntmps48
  rw [← hg] at hql hw0
  go_upto_region 1 with fail
  rw [← hW1, ← hg]
  clear hW1
  have hgq : g ≠ q := by omega
  have HQ := Lib.hid (And.intro hgq (And.intro hw0 (Nat.le_of_eq hg.symm)))
  clear hgq hw0 hql hg
  have C := blk_says HB.out
  simp only [cellsSay, Nat.reduceAdd, and_true] at C
  have hC := nnum_yes HRd.out 1 (by rw [List.length_drop]; omega) (by decide) (by decide) (by rw [List.length_drop]; omega)
  rw [HP.out.1, List.drop_drop] at hC
  simp only [Nat.reduceAdd, Nat.zero_add] at hC
  have HC := Lib.hid hC
  clear hC
  go_wp2_with fail
  refine HC.out.mono ?_
  clear HC
  rintro e W1 ⟨rfl, HR⟩
  replace HB := Lib.hid (HB.out.kept HR.out.2 (by intro e; injection e with e; exact HQ.out.1 e.symm))
  replace HG := Lib.hid (grown_trans HG.out HR.out.2)
  replace HRd := Lib.hid HR.out.1
  clear HR C
  have C := blk_says HB.out
  simp only [cellsSay, Nat.reduceAdd, and_true] at C
  go_upto_region 2 with fail
  generalize hW : World.setCell _ _ _ = V80
  have hb := Blk.sets [(0, .int .u8 (kd : Nat))] HB.out
  rw [show sets _ g [(0, .int .u8 (kd : Nat))] = V80 from hW] at hb
  have hgr : World.grownBy W1 V80 (some g) := by rw [← show sets W1 g [(0, .int .u8 (kd : Nat))] = V80 from hW]; exact grown_sets g _ _
  replace HB := Lib.hid (show Blk V80 g 50 #[.int .u8 (kd : Nat), .int .u32 0, .int .u32 0, .int .i64 0, .int .u64 0, .int .u32 0, .int .u32 0, .int .u32 0, .int .u32 0, .bool false, .slice none 0 0, .int .i64 0] from hb)
  replace HG := Lib.hid (World.grownBy.andThen HG.out hgr (fun k e => .inl (by cases e; exact HQ.out.2.2)))
  replace HRd := Lib.hid (HRd.out.kept hgr HQ.out.1 (Nat.le_trans HQ.out.2.1 (Nat.le_refl _)))
  clear hW hb hgr C
  have C := blk_says HB.out
  simp only [cellsSay, Nat.reduceAdd, and_true] at C
  by_cases hl1 : l.length < 5
  · have HC := Lib.hid (nword_no HRd.out (by rw [List.length_drop]; omega))
    go_wp2_with fail
    refine HC.out.mono ?_
    rintro e wz ⟨rfl, hz⟩
    have Hz := Lib.hid hz
    clear hz
    go_wp2_with fail
    refine ⟨rfl, Or.inl ⟨by omega, rfl, Lib.hid ?_⟩⟩
    rw [Hz.out]
    exact ⟨HG.out, HRd.out.top⟩
  have hC := nword_yes HRd.out (by rw [List.length_drop]; omega) (by rw [List.length_drop]; omega)
  rw [HP.out.2.1, List.drop_drop] at hC
  simp only [Nat.reduceAdd, Nat.zero_add] at hC
  have HC := Lib.hid hC
  clear hC
  go_wp2_with fail
  refine HC.out.mono ?_
  clear HC
  rintro e W2 ⟨rfl, HR⟩
  replace HB := Lib.hid (HB.out.kept HR.out.2 (by intro e; injection e with e; exact HQ.out.1 e.symm))
  replace HG := Lib.hid (grown_trans HG.out HR.out.2)
  replace HRd := Lib.hid HR.out.1
  clear HR C
  have C := blk_says HB.out
  simp only [cellsSay, Nat.reduceAdd, and_true] at C
  go_upto_region 6 with fail
  generalize hW : World.setCell _ _ _ = V117
  have hb := Blk.sets [(2, .int .u32 (se : Nat))] HB.out
  rw [show sets _ g [(2, .int .u32 (se : Nat))] = V117 from hW] at hb
  have hgr : World.grownBy W2 V117 (some g) := by rw [← show sets W2 g [(2, .int .u32 (se : Nat))] = V117 from hW]; exact grown_sets g _ _
  replace HB := Lib.hid (show Blk V117 g 50 #[.int .u8 (kd : Nat), .int .u32 0, .int .u32 (se : Nat), .int .i64 0, .int .u64 0, .int .u32 0, .int .u32 0, .int .u32 0, .int .u32 0, .bool false, .slice none 0 0, .int .i64 0] from hb)
  replace HG := Lib.hid (World.grownBy.andThen HG.out hgr (fun k e => .inl (by cases e; exact HQ.out.2.2)))
  replace HRd := Lib.hid (HRd.out.kept hgr HQ.out.1 (Nat.le_trans HQ.out.2.1 (Nat.le_refl _)))
  clear hW hb hgr C
  have C := blk_says HB.out
  simp only [cellsSay, Nat.reduceAdd, and_true] at C
  by_cases hl5 : l.length < 9
  · have HC := Lib.hid (nword_no HRd.out (by rw [List.length_drop]; omega))
    go_wp2_with fail
    refine HC.out.mono ?_
    rintro e wz ⟨rfl, hz⟩
    have Hz := Lib.hid hz
    clear hz
    go_wp2_with fail
    refine ⟨rfl, Or.inl ⟨by omega, rfl, Lib.hid ?_⟩⟩
    rw [Hz.out]
    exact ⟨HG.out, HRd.out.top⟩
  have hC := nword_yes HRd.out (by rw [List.length_drop]; omega) (by rw [List.length_drop]; omega)
  rw [HP.out.2.2.1, List.drop_drop] at hC
  simp only [Nat.reduceAdd, Nat.zero_add] at hC
  have HC := Lib.hid hC
  clear hC
  go_wp2_with fail
  refine HC.out.mono ?_
  clear HC
  rintro e W3 ⟨rfl, HR⟩
  replace HB := Lib.hid (HB.out.kept HR.out.2 (by intro e; injection e with e; exact HQ.out.1 e.symm))
  replace HG := Lib.hid (grown_trans HG.out HR.out.2)
  replace HRd := Lib.hid HR.out.1
  clear HR C
  have C := blk_says HB.out
  simp only [cellsSay, Nat.reduceAdd, and_true] at C
  by_cases hl9 : l.length < 13
  · have HC := Lib.hid (nword_no HRd.out (by rw [List.length_drop]; omega))
    go_wp2_with fail
    refine HC.out.mono ?_
    rintro e wz ⟨rfl, hz⟩
    have Hz := Lib.hid hz
    clear hz
    go_wp2_with fail
    refine ⟨rfl, Or.inl ⟨by omega, rfl, Lib.hid ?_⟩⟩
    rw [Hz.out]
    exact ⟨HG.out, HRd.out.top⟩
  have hC := nword_yes HRd.out (by rw [List.length_drop]; omega) (by rw [List.length_drop]; omega)
  rw [HP.out.2.2.2.1, List.drop_drop] at hC
  simp only [Nat.reduceAdd, Nat.zero_add] at hC
  have HC := Lib.hid hC
  clear hC
  go_wp2_with fail
  refine HC.out.mono ?_
  clear HC
  rintro e W4 ⟨rfl, HR⟩
  replace HB := Lib.hid (HB.out.kept HR.out.2 (by intro e; injection e with e; exact HQ.out.1 e.symm))
  replace HG := Lib.hid (grown_trans HG.out HR.out.2)
  replace HRd := Lib.hid HR.out.1
  clear HR C
  have C := blk_says HB.out
  simp only [cellsSay, Nat.reduceAdd, and_true] at C
  by_cases hl13 : l.length < 17
  · have HC := Lib.hid (nword_no HRd.out (by rw [List.length_drop]; omega))
    go_wp2_with fail
    refine HC.out.mono ?_
    rintro e wz ⟨rfl, hz⟩
    have Hz := Lib.hid hz
    clear hz
    go_wp2_with fail
    refine ⟨rfl, Or.inl ⟨by omega, rfl, Lib.hid ?_⟩⟩
    rw [Hz.out]
    exact ⟨HG.out, HRd.out.top⟩
  have hC := nword_yes HRd.out (by rw [List.length_drop]; omega) (by rw [List.length_drop]; omega)
  rw [HP.out.2.2.2.2.1, List.drop_drop] at hC
  simp only [Nat.reduceAdd, Nat.zero_add] at hC
  have HC := Lib.hid hC
  clear hC
  go_wp2_with fail
  refine HC.out.mono ?_
  clear HC
  rintro e W5 ⟨rfl, HR⟩
  replace HB := Lib.hid (HB.out.kept HR.out.2 (by intro e; injection e with e; exact HQ.out.1 e.symm))
  replace HG := Lib.hid (grown_trans HG.out HR.out.2)
  replace HRd := Lib.hid HR.out.1
  clear HR C
  have C := blk_says HB.out
  simp only [cellsSay, Nat.reduceAdd, and_true] at C
  go_upto_region 10 with fail
  generalize hW : World.setCell _ _ _ = V206
  have hb := Blk.sets [(5, .int .u32 (a5 : Nat)), (6, .int .u32 (a9 : Nat)), (7, .int .u32 (a13 : Nat))] HB.out
  rw [show sets _ g [(5, .int .u32 (a5 : Nat)), (6, .int .u32 (a9 : Nat)), (7, .int .u32 (a13 : Nat))] = V206 from hW] at hb
  have hgr : World.grownBy W5 V206 (some g) := by rw [← show sets W5 g [(5, .int .u32 (a5 : Nat)), (6, .int .u32 (a9 : Nat)), (7, .int .u32 (a13 : Nat))] = V206 from hW]; exact grown_sets g _ _
  replace HB := Lib.hid (show Blk V206 g 50 #[.int .u8 (kd : Nat), .int .u32 0, .int .u32 (se : Nat), .int .i64 0, .int .u64 0, .int .u32 (a5 : Nat), .int .u32 (a9 : Nat), .int .u32 (a13 : Nat), .int .u32 0, .bool false, .slice none 0 0, .int .i64 0] from hb)
  replace HG := Lib.hid (World.grownBy.andThen HG.out hgr (fun k e => .inl (by cases e; exact HQ.out.2.2)))
  replace HRd := Lib.hid (HRd.out.kept hgr HQ.out.1 (Nat.le_trans HQ.out.2.1 (Nat.le_refl _)))
  clear hW hb hgr C
  have C := blk_says HB.out
  simp only [cellsSay, Nat.reduceAdd, and_true] at C
  by_cases hl17 : l.length < 21
  · have HC := Lib.hid (nword_no HRd.out (by rw [List.length_drop]; omega))
    go_wp2_with fail
    refine HC.out.mono ?_
    rintro e wz ⟨rfl, hz⟩
    have Hz := Lib.hid hz
    clear hz
    go_wp2_with fail
    refine ⟨rfl, Or.inl ⟨by omega, rfl, Lib.hid ?_⟩⟩
    rw [Hz.out]
    exact ⟨HG.out, HRd.out.top⟩
  have hC := nword_yes HRd.out (by rw [List.length_drop]; omega) (by rw [List.length_drop]; omega)
  rw [HP.out.2.2.2.2.2.1, List.drop_drop] at hC
  simp only [Nat.reduceAdd, Nat.zero_add] at hC
  have HC := Lib.hid hC
  clear hC
  go_wp2_with fail
  refine HC.out.mono ?_
  clear HC
  rintro e W6 ⟨rfl, HR⟩
  replace HB := Lib.hid (HB.out.kept HR.out.2 (by intro e; injection e with e; exact HQ.out.1 e.symm))
  replace HG := Lib.hid (grown_trans HG.out HR.out.2)
  replace HRd := Lib.hid HR.out.1
  clear HR C
  have C := blk_says HB.out
  simp only [cellsSay, Nat.reduceAdd, and_true] at C
  go_upto_region 13 with fail
  generalize hW : World.setCell _ _ _ = V243
  have hb := Blk.sets [(8, .int .u32 (cn : Nat))] HB.out
  rw [show sets _ g [(8, .int .u32 (cn : Nat))] = V243 from hW] at hb
  have hgr : World.grownBy W6 V243 (some g) := by rw [← show sets W6 g [(8, .int .u32 (cn : Nat))] = V243 from hW]; exact grown_sets g _ _
  replace HB := Lib.hid (show Blk V243 g 50 #[.int .u8 (kd : Nat), .int .u32 0, .int .u32 (se : Nat), .int .i64 0, .int .u64 0, .int .u32 (a5 : Nat), .int .u32 (a9 : Nat), .int .u32 (a13 : Nat), .int .u32 (cn : Nat), .bool false, .slice none 0 0, .int .i64 0] from hb)
  replace HG := Lib.hid (World.grownBy.andThen HG.out hgr (fun k e => .inl (by cases e; exact HQ.out.2.2)))
  replace HRd := Lib.hid (HRd.out.kept hgr HQ.out.1 (Nat.le_trans HQ.out.2.1 (Nat.le_refl _)))
  clear hW hb hgr C
  have C := blk_says HB.out
  simp only [cellsSay, Nat.reduceAdd, and_true] at C
  by_cases hl21 : l.length < 22
  · have HC := Lib.hid (nnum_no HRd.out 1 (by rw [List.length_drop]; omega) (by decide))
    go_wp2_with fail
    refine HC.out.mono ?_
    rintro e wz ⟨rfl, hz⟩
    have Hz := Lib.hid hz
    clear hz
    go_wp2_with fail
    refine ⟨rfl, Or.inl ⟨by omega, rfl, Lib.hid ?_⟩⟩
    rw [Hz.out]
    exact ⟨HG.out, HRd.out.top⟩
  have hC := nnum_yes HRd.out 1 (by rw [List.length_drop]; omega) (by decide) (by decide) (by rw [List.length_drop]; omega)
  rw [HP.out.2.2.2.2.2.2.1, List.drop_drop] at hC
  simp only [Nat.reduceAdd, Nat.zero_add] at hC
  have HC := Lib.hid hC
  clear hC
  go_wp2_with fail
  refine HC.out.mono ?_
  clear HC
  rintro e W7 ⟨rfl, HR⟩
  replace HB := Lib.hid (HB.out.kept HR.out.2 (by intro e; injection e with e; exact HQ.out.1 e.symm))
  replace HG := Lib.hid (grown_trans HG.out HR.out.2)
  replace HRd := Lib.hid HR.out.1
  clear HR C
  have C := blk_says HB.out
  simp only [cellsSay, Nat.reduceAdd, and_true] at C
  go_upto_region 15 with fail
  have hcl := HCl.out
  rw [hcl]
  clear hcl
  generalize hW : World.setCell _ _ _ = V283
  have hb := Blk.sets [(9, .bool cl)] HB.out
  rw [show sets _ g [(9, .bool cl)] = V283 from hW] at hb
  have hgr : World.grownBy W7 V283 (some g) := by rw [← show sets W7 g [(9, .bool cl)] = V283 from hW]; exact grown_sets g _ _
  replace HB := Lib.hid (show Blk V283 g 50 #[.int .u8 (kd : Nat), .int .u32 0, .int .u32 (se : Nat), .int .i64 0, .int .u64 0, .int .u32 (a5 : Nat), .int .u32 (a9 : Nat), .int .u32 (a13 : Nat), .int .u32 (cn : Nat), .bool cl, .slice none 0 0, .int .i64 0] from hb)
  replace HG := Lib.hid (World.grownBy.andThen HG.out hgr (fun k e => .inl (by cases e; exact HQ.out.2.2)))
  replace HRd := Lib.hid (HRd.out.kept hgr HQ.out.1 (Nat.le_trans HQ.out.2.1 (Nat.le_refl _)))
  clear hW hb hgr C
  have C := blk_says HB.out
  simp only [cellsSay, Nat.reduceAdd, and_true] at C
  by_cases hl22 : l.length < 24
  · have HC := Lib.hid (nnum_no HRd.out 2 (by rw [List.length_drop]; omega) (by decide))
    go_wp2_with fail
    refine HC.out.mono ?_
    rintro e wz ⟨rfl, hz⟩
    have Hz := Lib.hid hz
    clear hz
    go_wp2_with fail
    refine ⟨rfl, Or.inl ⟨by omega, rfl, Lib.hid ?_⟩⟩
    rw [Hz.out]
    exact ⟨HG.out, HRd.out.top⟩
  have hC := nnum_yes HRd.out 2 (by rw [List.length_drop]; omega) (by decide) (by decide) (by rw [List.length_drop]; omega)
  rw [HP.out.2.2.2.2.2.2.2, List.drop_drop] at hC
  simp only [Nat.reduceAdd, Nat.zero_add] at hC
  have HC := Lib.hid hC
  clear hC
  go_wp2_with fail
  refine HC.out.mono ?_
  clear HC
  rintro e W8 ⟨rfl, HR⟩
  replace HB := Lib.hid (HB.out.kept HR.out.2 (by intro e; injection e with e; exact HQ.out.1 e.symm))
  replace HG := Lib.hid (grown_trans HG.out HR.out.2)
  replace HRd := Lib.hid HR.out.1
  clear HR C
  have C := blk_says HB.out
  simp only [cellsSay, Nat.reduceAdd, and_true] at C
  go_upto_region 16 with fail
  generalize hW : World.setCell _ _ _ = V320
  have hb := Blk.sets [(11, .int .i64 (m : Nat))] HB.out
  rw [show sets _ g [(11, .int .i64 (m : Nat))] = V320 from hW] at hb
  have hgr : World.grownBy W8 V320 (some g) := by rw [← show sets W8 g [(11, .int .i64 (m : Nat))] = V320 from hW]; exact grown_sets g _ _
  replace HB := Lib.hid (show Blk V320 g 50 #[.int .u8 (kd : Nat), .int .u32 0, .int .u32 (se : Nat), .int .i64 0, .int .u64 0, .int .u32 (a5 : Nat), .int .u32 (a9 : Nat), .int .u32 (a13 : Nat), .int .u32 (cn : Nat), .bool cl, .slice none 0 0, .int .i64 (m : Nat)] from hb)
  replace HG := Lib.hid (World.grownBy.andThen HG.out hgr (fun k e => .inl (by cases e; exact HQ.out.2.2)))
  replace HRd := Lib.hid (HRd.out.kept hgr HQ.out.1 (Nat.le_trans HQ.out.2.1 (Nat.le_refl _)))
  clear hW hb hgr C
  have C := blk_says HB.out
  simp only [cellsSay, Nat.reduceAdd, and_true] at C
  go_wp2_with fail
  generalize hW : World.setCell _ _ _ = Wn
  have hb := Blk.sets [(0, .int .u8 (kd : Nat)), (1, .int .u32 0), (2, .int .u32 (se : Nat)), (3, .int .i64 0), (4, .int .u64 0), (5, .int .u32 (a5 : Nat)), (6, .int .u32 (a9 : Nat)), (7, .int .u32 (a13 : Nat)), (8, .int .u32 (cn : Nat)), (9, .bool cl), (10, .slice none 0 0), (11, .int .i64 (m : Nat))] HB.out
  rw [show sets _ g [(0, .int .u8 (kd : Nat)), (1, .int .u32 0), (2, .int .u32 (se : Nat)), (3, .int .i64 0), (4, .int .u64 0), (5, .int .u32 (a5 : Nat)), (6, .int .u32 (a9 : Nat)), (7, .int .u32 (a13 : Nat)), (8, .int .u32 (cn : Nat)), (9, .bool cl), (10, .slice none 0 0), (11, .int .i64 (m : Nat))] = Wn from hW] at hb
  have hgr : World.grownBy V320 Wn (some g) := by rw [← show sets V320 g [(0, .int .u8 (kd : Nat)), (1, .int .u32 0), (2, .int .u32 (se : Nat)), (3, .int .i64 0), (4, .int .u64 0), (5, .int .u32 (a5 : Nat)), (6, .int .u32 (a9 : Nat)), (7, .int .u32 (a13 : Nat)), (8, .int .u32 (cn : Nat)), (9, .bool cl), (10, .slice none 0 0), (11, .int .i64 (m : Nat))] = Wn from hW]; exact grown_sets g _ _
  replace HB := Lib.hid (show Blk Wn g 50 #[.int .u8 (kd : Nat), .int .u32 0, .int .u32 (se : Nat), .int .i64 0, .int .u64 0, .int .u32 (a5 : Nat), .int .u32 (a9 : Nat), .int .u32 (a13 : Nat), .int .u32 (cn : Nat), .bool cl, .slice none 0 0, .int .i64 (m : Nat)] from hb)
  replace HG := Lib.hid (World.grownBy.andThen HG.out hgr (fun k e => .inl (by cases e; exact HQ.out.2.2)))
  replace HRd := Lib.hid (HRd.out.kept hgr HQ.out.1 (Nat.le_trans HQ.out.2.1 (Nat.le_refl _)))
  clear hW hb hgr C
  have C := blk_says HB.out
  simp only [cellsSay, Nat.reduceAdd, and_true] at C
  refine bodyPost_ret (v := .tuple #[.agg #[.int .u8 (kd : Nat), .int .u32 0, .int .u32 (se : Nat), .int .i64 0, .int .u64 0, .int .u32 (a5 : Nat), .int .u32 (a9 : Nat), .int .u32 (a13 : Nat), .int .u32 (cn : Nat), .bool cl, .slice none 0 0, .int .i64 (m : Nat)], .int .u64 (cb : Nat)]) (by simp [results, Try.results48, go_sem, C]) rfl (Or.inr ⟨by omega, rfl, Lib.hid ⟨HRd.out, HG.out⟩⟩)

end Go.Proofs.Ytpedobpbpomkaaa
