/- Layer 19: Bend of the program. -/
import Derived.Test.YtanenfbfcbkdhaaNw5
import Derived.Laws.BitsAllLaws
set_option linter.unusedSimpArgs false
set_option linter.unusedVariables false
namespace Go.Proofs.Ytanenfbfcbkdhaa
open Go.RowKit
set_option maxRecDepth 100000

theorem flat_set1 {α : Type} (enc : α → List Value) (sz : Nat) (hlen : ∀ x, (enc x).length = sz) (l : List α) (i j : Nat) (x y : α) (u : Value) (hi : l[i]? = some x) (hj : j < sz) (hy : enc y = (enc x).set j u) : (l.flatMap enc).set (i * sz + j) u = (l.set i y).flatMap enc := by
  obtain ⟨hil, hix⟩ := List.getElem?_eq_some_iff.1 hi
  have h1 : l = l.take i ++ x :: l.drop (i + 1) := by rw [← hix]; simp
  have h2 : l.set i y = l.take i ++ y :: l.drop (i + 1) := List.set_eq_take_append_cons_drop .. |>.trans (by rw [if_pos hil])
  have h3 : ((l.take i).flatMap enc).length = i * sz := by rw [flat_length enc sz hlen, List.length_take, Nat.min_eq_left (Nat.le_of_lt hil)]
  rw [h2]
  conv => lhs; rw [h1]
  rw [List.flatMap_append, List.flatMap_cons, List.flatMap_append, List.flatMap_cons, List.set_append, if_neg (by omega), h3, List.set_append, if_pos (by rw [hlen]; omega), hy, show i * sz + j - i * sz = j by omega]
theorem OwnR.turn {α : Type} {P : Program} {t e : TypeId} {enc : α → List Value} {sz bytes : Nat} (E : Elt P t e enc sz bytes) {w : World} {base g n c : Nat} {l : List α} (h : OwnR w base e enc sz (.slice (some ⟨g, 0, none⟩) n c) l) (hn : n = l.length) (i j : Nat) (x y : α) (u : Value) (hi : l[i]? = some x) (hj : j < sz) (hy : enc y = (enc x).set j u) : OwnR (w.setCell ⟨g, i * sz + j, none⟩ u) base e enc sz (.slice (some ⟨g, 0, none⟩) n c) (l.set i y) := by
  subst hn
  have h1 := (World.ownsRow.stored h (i * sz + j) u).1
  unfold OwnR
  rw [List.length_set, ← flat_set1 enc sz E.len l i j x y u hi hj hy]
  exact h1

/-- a byte bent -/
def bendB (b : List UInt8) (a x : Nat) : List UInt8 := b.set a ((b.getD a 0) ^^^ UInt8.ofNat x)
def bendG (g : Ng) (a x : Nat) : Ng := ⟨g.sd, bendB g.b a x, g.A, g.c, true⟩
theorem bendB_len (b : List UInt8) (a x : Nat) : (bendB b a x).length = b.length := List.length_set ..
def mayBend (L : List Dg) (i a : Int) (x : Nat) : Bool := isD L.length i && decide (0 ≤ a ∧ a < (((L[i.toNat]?).map (·.b.length)).getD 0 : Nat) ∧ x ≠ 0)
def bendD (L : List Dg) (i a : Int) (x : Nat) : List Dg := if mayBend L i a x = true then (match L[i.toNat]? with | some d => L.set i.toNat ⟨d.sd, bendB d.b a.toNat x, true⟩ | none => L) else L

set_option maxHeartbeats 8000000 in
theorem nbend_yes (q : Nat) (V : Value) (T : List Ng) (j a x : Nat) (y : Ng) (w : World) (h : Nt w q V T) (hy : T[j]? = some y) (hk : okT T) (ha : a < y.b.length) (hx : x ≠ 0) (hx2 : x < 256) :
    Calls Try.prog 19 #[.pointer (some ⟨q, 0, none⟩), .int .i64 (j : Nat), .int .i64 (a : Nat), .int .u8 (x : Nat)] w fun e w' => e = .returned (.bool true) ∧ Hid (NtTo w q V T w' V (T.set j (bendG y a x))) := by
  have hj : j < T.length := (List.getElem?_eq_some_iff.1 hy).1
  obtain ⟨g, cap, hV, hcap⟩ : ∃ g cap, V = .slice (some ⟨g, 0, none⟩) T.length cap ∧ T.length ≤ cap := by
    rcases h.slice with ⟨rfl, rfl⟩ | h1
    · simp at hj
    · exact h1
  subst hV
  obtain ⟨kb, hkb⟩ : ∃ kb, y.A = some ⟨kb, 0, none⟩ := by
    have h1 := h.gl.el y (List.mem_of_getElem? hy)
    obtain ⟨g', cp, h2, -, -⟩ := World.ownsRow.form h1 (show 0 < y.b.length by omega)
    simp only [vaG] at h2
    injection h2 with h3
    exact ⟨g', h3⟩
  have hO : OwnB w 0 (.slice (some ⟨kb, 0, none⟩) y.b.length y.c) y.b := by
    have h1 := h.gl.el y (List.mem_of_getElem? hy)
    simp only [vaG, hkb] at h1
    exact h1
  have C1 := h.elem hy
  rw [hkb] at C1
  have cb : w.cell? ⟨kb, a, none⟩ = some (.int .u8 ((y.b.getD a 0).toNat : Nat)) := by
    rw [hO.cell a ha, List.getD_eq_getElem?_getD, List.getElem?_eq_getElem ha]; rfl
  have fb := hO.frozen a
  obtain ⟨p, hp⟩ : ∃ p, p = (y.b.getD a 0).toNat := ⟨_, rfl⟩
  rw [← hp] at cb
  obtain ⟨r, hr⟩ : ∃ r, r = ((y.b.getD a 0) ^^^ UInt8.ofNat x).toNat := ⟨_, rfl⟩
  have fx : bits .xor .u8 (p : Int) (x : Int) = (r : Int) := by
    rw [u8_xor_nat p x (by rw [hp]; exact UInt8.toNat_lt _) hx2, hr, hp, UInt8.toNat_xor, show (UInt8.ofNat x).toNat = x from by simp [UInt8.toNat_ofNat']; omega]
  have Hr := Lib.hid hr
  clear hp hr
  have HA := Lib.hid (nat_yes q T.length g cap j w h.bx hj)
  obtain ⟨n, hn⟩ : ∃ n, n = y.b.length := ⟨_, rfl⟩
  rw [← hn] at C1
  have k1 : decide ((a : Int) < 0) = false := decide_eq_false (by omega)
  have k2 : decide ((n : Int) ≤ (a : Int)) = false := decide_eq_false (by omega)
  have k3 : ((x : Int) == 0) = false := beq_eq_false_iff_ne.2 (by omega)
  have k4 : decide (n ≤ a) = false := decide_eq_false (by omega)
  have k5 : (a : Int) < (n : Int) := by omega
  have k6 : (0 : Int) ≤ (a : Int) := by omega
  have HH := Lib.hid (And.intro h (And.intro hO (And.intro hkb (And.intro hn (And.intro hy (And.intro ha hj))))))
  have hgk : g ≠ kb := fun e => h.gl.ne y (List.mem_of_getElem? hy) kb (by simp [vaG, hkb, Value.ownBlock]) (by rw [← e]; rfl)
  clear h hO hkb hn hy hj ha
  go_enter Try.func19, Try.ntmps19
  go_wp2_with fail
  refine HA.out.mono ?_
  rintro e w1 ⟨rfl, hw⟩
  rw [hw]
  clear hw
  go_wp2_with fail
  go_ret
  have HH2 := HH.out
  obtain ⟨h, hO, hkb, hn, hy, ha, hj⟩ := HH2
  have hym := List.mem_of_getElem? hy
  obtain ⟨y1, hy1⟩ : ∃ y1 : Ng, y1 = ⟨y.sd, bendB y.b a x, y.A, y.c, y.bent⟩ := ⟨_, rfl⟩
  have hva1 : vaG y1 = vaG y := by rw [hy1]; simp only [vaG, bendB_len]
  have henc1 : encD y1 = encD y := by unfold encD; rw [hva1, hy1]
  have t1 : Tou (fun k => (vaG y).ownBlock = some k) w (w.setCell ⟨kb, a, none⟩ (.int .u8 r)) := Tou.set kb a _ (by simp [vaG, hkb, Value.ownBlock])
  have hb1 : OwnB (w.setCell ⟨kb, a, none⟩ (.int .u8 r)) 0 (vaG y) y1.b := by
    have h1 := hO.set a ((y.b.getD a 0) ^^^ UInt8.ofNat x)
    rw [hy1]
    simp only [vaG, hkb, bendB]
    rw [show (Value.int .u8 (r : Int)) = bv ((y.b.getD a 0) ^^^ UInt8.ofNat x) by rw [Hr.out]]
    exact h1
  have G1 := h.gl.bytes hy t1 hb1 henc1 hva1
  obtain ⟨W1, hW1⟩ : ∃ W1, W1 = w.setCell ⟨kb, a, none⟩ (.int .u8 r) := ⟨_, rfl⟩
  rw [← hW1] at G1 t1 hb1 ⊢
  have t2 : Tou (fun k => (Value.slice (some ⟨g, 0, none⟩) T.length cap).ownBlock = some k) W1 (W1.setCell ⟨g, j * 3 + 2, none⟩ (.bool true)) := Tou.set g _ _ rfl
  have hy2 : (T.set j y1)[j]? = some y1 := by rw [List.getElem?_set_self hj]
  have r2 := G1.row.turn Try.eltD (by simp) j 2 y1 (bendG y a x) (.bool true) hy2 (by omega) (by rw [hy1]; simp [encD, bendG, vaG, bendB_len])
  have G2 := G1.cells_ hy2 t2 r2 (by rw [hy1]; simp only [vaG, bendG]) (by rw [hy1]; simp only [bendG])
  rw [List.set_set] at G2
  have hf : ∀ k, footG vaG (.slice (some ⟨g, 0, none⟩) T.length cap) (T.set j (bendG y a x)) k → footG vaG (.slice (some ⟨g, 0, none⟩) T.length cap) T k := fun k hk => by
    rcases hk with hk | ⟨t, ht, hk⟩
    · exact .inl hk
    · rcases List.mem_or_eq_of_mem_set ht with h3 | rfl
      · exact .inr ⟨t, h3, hk⟩
      · exact .inr ⟨y, hym, by simp only [vaG, bendG, bendB_len] at hk ⊢; exact hk⟩
  have tt : Tou (ftN q (.slice (some ⟨g, 0, none⟩) T.length cap) T) w (W1.setCell ⟨g, j * 3 + 2, none⟩ (.bool true)) := (t1.mono (fun k _ hk => .inr (.inr ⟨y, hym, hk⟩))).trans (t2.mono (fun k _ hk => .inr (.inl hk))) (fun _ _ e => e)
  refine ⟨rfl, Lib.hid ⟨⟨?_, G2, fun k hk => h.nq k (hf k hk)⟩, tt, fun k hk => ?_⟩⟩
  · have b1 : Blk W1 q 50 #[.slice (some ⟨g, 0, none⟩) T.length cap] := t1.blk h.bx (fun e => h.nq q (.inr ⟨y, hym, e⟩) rfl)
    exact t2.blk b1 (fun e => h.nq q (.inl e) rfl)
  · rcases hk with rfl | hk
    · exact .inl (.inl rfl)
    · exact .inl (.inr (hf k hk))

theorem nbend_no (q : Nat) (V : Value) (T : List Ng) (i a : Int) (x : Nat) (w : World) (h : Nt w q V T) (hm : mayBend (T.map Ng.d) i a x = false) :
    Calls Try.prog 19 #[.pointer (some ⟨q, 0, none⟩), .int .i64 i, .int .i64 a, .int .u8 (x : Nat)] w fun e w' => e = .returned (.bool false) ∧ w' = w := by
  obtain ⟨A0, c0, hV⟩ := h.ex
  by_cases hi : 0 ≤ i ∧ i < (T.length : Int)
  · obtain ⟨j, rfl⟩ := Int.eq_ofNat_of_zero_le hi.1
    have hj : j < T.length := by omega
    obtain ⟨y, hy⟩ : ∃ y, T[j]? = some y := ⟨_, List.getElem?_eq_getElem hj⟩
    have hm2 : ¬ (0 ≤ a ∧ a < (y.b.length : Int) ∧ x ≠ 0) := fun e => by
      unfold mayBend at hm
      rw [List.length_map, show isD T.length (j : Int) = true from decide_eq_true hi, Int.toNat_natCast, List.getElem?_map, hy, Bool.true_and] at hm
      exact of_decide_eq_false hm e
    rcases h.slice with ⟨rfl, rfl⟩ | ⟨g, cap, rfl, _⟩
    · simp at hj
    · have C1 := h.elem hy
      have HA := Lib.hid (nat_yes q T.length g cap j w h.bx hj)
      obtain ⟨n, hn⟩ : ∃ n, n = y.b.length := ⟨_, rfl⟩
      rw [← hn] at C1 hm2
      clear h hy hm hn hV hi hj
      by_cases h0 : a < 0
      · have k1 : decide (a < 0) = true := decide_eq_true h0
        clear hm2 h0
        go_enter Try.func19, Try.ntmps19
        go_wp2_with fail
        refine HA.out.mono ?_
        rintro e w1 ⟨rfl, hw⟩
        rw [hw]
        clear hw
        go_wp2_with fail
        go_ret
        exact ⟨rfl, rfl⟩
      · have k1 : decide (a < 0) = false := decide_eq_false h0
        by_cases h3 : (n : Int) ≤ a
        · have k2 : decide ((n : Int) ≤ a) = true := decide_eq_true h3
          clear hm2 h0 h3
          go_enter Try.func19, Try.ntmps19
          go_wp2_with fail
          refine HA.out.mono ?_
          rintro e w1 ⟨rfl, hw⟩
          rw [hw]
          clear hw
          go_wp2_with fail
          go_ret
          exact ⟨rfl, rfl⟩
        · have k2 : decide ((n : Int) ≤ a) = false := decide_eq_false h3
          obtain rfl : x = 0 := by
            apply Classical.byContradiction
            intro e
            exact hm2 ⟨by omega, by omega, e⟩
          clear hm2 h0 h3
          go_enter Try.func19, Try.ntmps19
          go_wp2_with fail
          refine HA.out.mono ?_
          rintro e w1 ⟨rfl, hw⟩
          rw [hw]
          clear hw
          go_wp2_with fail
          go_ret
          exact ⟨rfl, rfl⟩
  · subst hV
    have HA := Lib.hid (nat_no q T.length A0 c0 i w h.bx (by omega))
    clear h hi hm
    go_enter Try.func19, Try.ntmps19
    go_wp2_with fail
    refine HA.out.mono ?_
    rintro e w1 ⟨rfl, hw⟩
    rw [hw]
    clear hw
    go_wp2_with fail
    go_ret
    exact ⟨rfl, rfl⟩

theorem nbend_any (q : Nat) (V : Value) (T : List Ng) (i a : Int) (x : Nat) (w : World) (h : Nt w q V T) (hk : okT T) (hx : x < 256) :
    Calls Try.prog 19 #[.pointer (some ⟨q, 0, none⟩), .int .i64 i, .int .i64 a, .int .u8 (x : Nat)] w fun e w' => e = .returned (.bool (mayBend (T.map Ng.d) i a x)) ∧ ∃ V' T', Hid (NtTo w q V T w' V' T' ∧ okT T' ∧ T'.map Ng.d = bendD (T.map Ng.d) i a x) := by
  cases hm : mayBend (T.map Ng.d) i a x with
  | false =>
    refine (nbend_no q V T i a x w h hm).mono ?_
    rintro e w1 ⟨rfl, rfl⟩
    exact ⟨rfl, V, T, Lib.hid ⟨NtTo.same h (Below.refl _ _), hk, by unfold bendD; rw [hm]; rfl⟩⟩
  | true =>
    have hm2 := hm
    unfold mayBend at hm2
    rw [List.length_map] at hm2
    have hi : 0 ≤ i ∧ i < (T.length : Int) := by
      have := (Bool.and_eq_true_iff.1 hm2).1
      exact of_decide_eq_true this
    have h3 := of_decide_eq_true (Bool.and_eq_true_iff.1 hm2).2
    obtain ⟨j, rfl⟩ := Int.eq_ofNat_of_zero_le hi.1
    have hj : j < T.length := by omega
    obtain ⟨y, hy⟩ : ∃ y, T[j]? = some y := ⟨_, List.getElem?_eq_getElem hj⟩
    rw [Int.toNat_natCast, List.getElem?_map, hy] at h3
    obtain ⟨k, rfl⟩ := Int.eq_ofNat_of_zero_le h3.1
    have h4 : k < y.b.length := by have := h3.2.1; simp [Ng.d] at this; omega
    refine (nbend_yes q V T j k x y w h hy hk h4 h3.2.2 hx).mono ?_
    rintro e w1 ⟨rfl, k1⟩
    refine ⟨rfl, V, _, Lib.hid ⟨k1.out, fun t ht => ?_, ?_⟩⟩
    · rcases List.mem_or_eq_of_mem_set ht with h5 | rfl
      · exact hk t h5
      · have := hk y (List.mem_of_getElem? hy)
        simpa [bendG, bendB_len] using this
    · unfold bendD
      rw [if_pos hm, Int.toNat_natCast, List.getElem?_map, hy, Int.toNat_natCast, List.map_set]
      rfl

end Go.Proofs.Ytanenfbfcbkdhaa
