/- Joined: Nw6, Nw7. -/
import Derived.Test.YtanenfbfcbkdhaaQ12
import Derived.Laws.BitsAllLaws
set_option linter.unusedSimpArgs false
set_option linter.unusedVariables false
/- Layer 19: Bend of the program. -/
set_option linter.unusedSimpArgs false
set_option linter.unusedVariables false
namespace Go.Proofs.Ytanenfbfcbkdhaa
open Go.RowKit
set_option maxRecDepth 100000

theorem flat_set1 {α : Type} (enc : α → List Value) (sz : Nat) (hlen : ∀ x, (enc x).length = sz) (l : List α) (i j : Nat) (x y : α) (u : Value) (hi : l[i]? = some x) (hj : j < sz) (hy : enc y = (enc x).set j u) : (l.flatMap enc).set (i * sz + j) u = (l.set i y).flatMap enc := by
  obtain ⟨hil, hix⟩ := List.getElem?_eq_some_iff.1 hi
  have h1 : l = l.take i ++ x :: l.drop (i + 1) := by rw [← hix]; simp
  have h2 : l.set i y = l.take i ++ y :: l.drop (i + 1) := List.set_eq_take_append_cons_drop .. |>.trans (by rw [if_pos hil])
  have h3 : ((l.take i).flatMap enc).length = i * sz := by rw [flat_length enc sz hlen, List.length_take, Nat.min_eq_left (Nat.le_of_lt hil)]
  rw [h2]
  conv => lhs; rw [h1]
  rw [List.flatMap_append, List.flatMap_cons, List.flatMap_append, List.flatMap_cons, List.set_append, if_neg (by omega), h3, List.set_append, if_pos (by rw [hlen]; omega), hy, show i * sz + j - i * sz = j by omega]
theorem OwnR.turn {α : Type} {P : Program} {t e : TypeId} {enc : α → List Value} {sz bytes : Nat} (E : Elt P t e enc sz bytes) {w : World} {base g n c : Nat} {l : List α} (h : OwnR w base e enc sz (.slice (some ⟨g, 0, none⟩) n c) l) (hn : n = l.length) (i j : Nat) (x y : α) (u : Value) (hi : l[i]? = some x) (hj : j < sz) (hy : enc y = (enc x).set j u) : OwnR (w.setCell ⟨g, i * sz + j, none⟩ u) base e enc sz (.slice (some ⟨g, 0, none⟩) n c) (l.set i y) := by
  subst hn
  have h1 := (World.ownsRow.stored h (i * sz + j) u).1
  unfold OwnR
  rw [List.length_set, ← flat_set1 enc sz E.len l i j x y u hi hj hy]
  exact h1

/-- a byte bent -/
def bendB (b : List UInt8) (a x : Nat) : List UInt8 := b.set a ((b.getD a 0) ^^^ UInt8.ofNat x)
def bendG (g : Ng) (a x : Nat) : Ng := ⟨g.sd, bendB g.b a x, g.A, g.c, true⟩
theorem bendB_len (b : List UInt8) (a x : Nat) : (bendB b a x).length = b.length := List.length_set ..
def mayBend (L : List Dg) (i a : Int) (x : Nat) : Bool := isD L.length i && decide (0 ≤ a ∧ a < (((L[i.toNat]?).map (·.b.length)).getD 0 : Nat) ∧ x ≠ 0)
def bendD (L : List Dg) (i a : Int) (x : Nat) : List Dg := if mayBend L i a x = true then (match L[i.toNat]? with | some d => L.set i.toNat ⟨d.sd, bendB d.b a.toNat x, true⟩ | none => L) else L

set_option maxHeartbeats 8000000 in
theorem nbend_yes (q : Nat) (V : Value) (T : List Ng) (j a x : Nat) (y : Ng) (w : World) (h : Nt w q V T) (hy : T[j]? = some y) (hk : okT T) (ha : a < y.b.length) (hx : x ≠ 0) (hx2 : x < 256) :
    Calls Try.prog 19 #[.pointer (some ⟨q, 0, none⟩), .int .i64 (j : Nat), .int .i64 (a : Nat), .int .u8 (x : Nat)] w fun e w' => e = .returned (.bool true) ∧ Hid (NtTo w q V T w' V (T.set j (bendG y a x))) := by
  have hj : j < T.length := (List.getElem?_eq_some_iff.1 hy).1
  obtain ⟨g, cap, hV, hcap⟩ : ∃ g cap, V = .slice (some ⟨g, 0, none⟩) T.length cap ∧ T.length ≤ cap := by
    rcases h.slice with ⟨rfl, rfl⟩ | h1
    · simp at hj
    · exact h1
  subst hV
  obtain ⟨kb, hkb⟩ : ∃ kb, y.A = some ⟨kb, 0, none⟩ := by
    have h1 := h.gl.el y (List.mem_of_getElem? hy)
    obtain ⟨g', cp, h2, -, -⟩ := World.ownsRow.form h1 (show 0 < y.b.length by omega)
    simp only [vaG] at h2
    injection h2 with h3
    exact ⟨g', h3⟩
  have hO : OwnB w 0 (.slice (some ⟨kb, 0, none⟩) y.b.length y.c) y.b := by
    have h1 := h.gl.el y (List.mem_of_getElem? hy)
    simp only [vaG, hkb] at h1
    exact h1
  have C1 := h.elem hy
  rw [hkb] at C1
  have cb : w.cell? ⟨kb, a, none⟩ = some (.int .u8 ((y.b.getD a 0).toNat : Nat)) := by
    rw [hO.cell a ha, List.getD_eq_getElem?_getD, List.getElem?_eq_getElem ha]; rfl
  have fb := hO.frozen a
  obtain ⟨p, hp⟩ : ∃ p, p = (y.b.getD a 0).toNat := ⟨_, rfl⟩
  rw [← hp] at cb
  obtain ⟨r, hr⟩ : ∃ r, r = ((y.b.getD a 0) ^^^ UInt8.ofNat x).toNat := ⟨_, rfl⟩
  have fx : bits .xor .u8 (p : Int) (x : Int) = (r : Int) := by
    rw [u8_xor_nat p x (by rw [hp]; exact UInt8.toNat_lt _) hx2, hr, hp, UInt8.toNat_xor, show (UInt8.ofNat x).toNat = x from by simp [UInt8.toNat_ofNat']; omega]
  have Hr := Lib.hid hr
  clear hp hr
  have HA := Lib.hid (nat_yes q T.length g cap j w h.bx hj)
  obtain ⟨n, hn⟩ : ∃ n, n = y.b.length := ⟨_, rfl⟩
  rw [← hn] at C1
  have k1 : decide ((a : Int) < 0) = false := decide_eq_false (by omega)
  have k2 : decide ((n : Int) ≤ (a : Int)) = false := decide_eq_false (by omega)
  have k3 : ((x : Int) == 0) = false := beq_eq_false_iff_ne.2 (by omega)
  have k4 : decide (n ≤ a) = false := decide_eq_false (by omega)
  have k5 : (a : Int) < (n : Int) := by omega
  have k6 : (0 : Int) ≤ (a : Int) := by omega
  have HH := Lib.hid (And.intro h (And.intro hO (And.intro hkb (And.intro hn (And.intro hy (And.intro ha hj))))))
  have hgk : g ≠ kb := fun e => h.gl.ne y (List.mem_of_getElem? hy) kb (by simp [vaG, hkb, Value.ownBlock]) (by rw [← e]; rfl)
  clear h hO hkb hn hy hj ha
  go_enter Try.func19, Try.ntmps19
  go_wp2_with fail
  refine HA.out.mono ?_
  rintro e w1 ⟨rfl, hw⟩
  rw [hw]
  clear hw
  go_wp2_with fail
  go_ret
  have HH2 := HH.out
  obtain ⟨h, hO, hkb, hn, hy, ha, hj⟩ := HH2
  have hym := List.mem_of_getElem? hy
  obtain ⟨y1, hy1⟩ : ∃ y1 : Ng, y1 = ⟨y.sd, bendB y.b a x, y.A, y.c, y.bent⟩ := ⟨_, rfl⟩
  have hva1 : vaG y1 = vaG y := by rw [hy1]; simp only [vaG, bendB_len]
  have henc1 : encD y1 = encD y := by unfold encD; rw [hva1, hy1]
  have t1 : Tou (fun k => (vaG y).ownBlock = some k) w (w.setCell ⟨kb, a, none⟩ (.int .u8 r)) := Tou.set kb a _ (by simp [vaG, hkb, Value.ownBlock])
  have hb1 : OwnB (w.setCell ⟨kb, a, none⟩ (.int .u8 r)) 0 (vaG y) y1.b := by
    have h1 := hO.set a ((y.b.getD a 0) ^^^ UInt8.ofNat x)
    rw [hy1]
    simp only [vaG, hkb, bendB]
    rw [show (Value.int .u8 (r : Int)) = bv ((y.b.getD a 0) ^^^ UInt8.ofNat x) by rw [Hr.out]]
    exact h1
  have G1 := h.gl.bytes hy t1 hb1 henc1 hva1
  obtain ⟨W1, hW1⟩ : ∃ W1, W1 = w.setCell ⟨kb, a, none⟩ (.int .u8 r) := ⟨_, rfl⟩
  rw [← hW1] at G1 t1 hb1 ⊢
  have t2 : Tou (fun k => (Value.slice (some ⟨g, 0, none⟩) T.length cap).ownBlock = some k) W1 (W1.setCell ⟨g, j * 3 + 2, none⟩ (.bool true)) := Tou.set g _ _ rfl
  have hy2 : (T.set j y1)[j]? = some y1 := by rw [List.getElem?_set_self hj]
  have r2 := G1.row.turn Try.eltD (by simp) j 2 y1 (bendG y a x) (.bool true) hy2 (by omega) (by rw [hy1]; simp [encD, bendG, vaG, bendB_len])
  have G2 := G1.cells_ hy2 t2 r2 (by rw [hy1]; simp only [vaG, bendG]) (by rw [hy1]; simp only [bendG])
  rw [List.set_set] at G2
  have hf : ∀ k, footG vaG (.slice (some ⟨g, 0, none⟩) T.length cap) (T.set j (bendG y a x)) k → footG vaG (.slice (some ⟨g, 0, none⟩) T.length cap) T k := fun k hk => by
    rcases hk with hk | ⟨t, ht, hk⟩
    · exact .inl hk
    · rcases List.mem_or_eq_of_mem_set ht with h3 | rfl
      · exact .inr ⟨t, h3, hk⟩
      · exact .inr ⟨y, hym, by simp only [vaG, bendG, bendB_len] at hk ⊢; exact hk⟩
  have tt : Tou (ftN q (.slice (some ⟨g, 0, none⟩) T.length cap) T) w (W1.setCell ⟨g, j * 3 + 2, none⟩ (.bool true)) := (t1.mono (fun k _ hk => .inr (.inr ⟨y, hym, hk⟩))).trans (t2.mono (fun k _ hk => .inr (.inl hk))) (fun _ _ e => e)
  refine ⟨rfl, Lib.hid ⟨⟨?_, G2, fun k hk => h.nq k (hf k hk)⟩, tt, fun k hk => ?_⟩⟩
  · have b1 : Blk W1 q 50 #[.slice (some ⟨g, 0, none⟩) T.length cap] := t1.blk h.bx (fun e => h.nq q (.inr ⟨y, hym, e⟩) rfl)
    exact t2.blk b1 (fun e => h.nq q (.inl e) rfl)
  · rcases hk with rfl | hk
    · exact .inl (.inl rfl)
    · exact .inl (.inr (hf k hk))

theorem nbend_no (q : Nat) (V : Value) (T : List Ng) (i a : Int) (x : Nat) (w : World) (h : Nt w q V T) (hm : mayBend (T.map Ng.d) i a x = false) :
    Calls Try.prog 19 #[.pointer (some ⟨q, 0, none⟩), .int .i64 i, .int .i64 a, .int .u8 (x : Nat)] w fun e w' => e = .returned (.bool false) ∧ w' = w := by
  obtain ⟨A0, c0, hV⟩ := h.ex
  by_cases hi : 0 ≤ i ∧ i < (T.length : Int)
  · obtain ⟨j, rfl⟩ := Int.eq_ofNat_of_zero_le hi.1
    have hj : j < T.length := by omega
    obtain ⟨y, hy⟩ : ∃ y, T[j]? = some y := ⟨_, List.getElem?_eq_getElem hj⟩
    have hm2 : ¬ (0 ≤ a ∧ a < (y.b.length : Int) ∧ x ≠ 0) := fun e => by
      unfold mayBend at hm
      rw [List.length_map, show isD T.length (j : Int) = true from decide_eq_true hi, Int.toNat_natCast, List.getElem?_map, hy, Bool.true_and] at hm
      exact of_decide_eq_false hm e
    rcases h.slice with ⟨rfl, rfl⟩ | ⟨g, cap, rfl, _⟩
    · simp at hj
    · have C1 := h.elem hy
      have HA := Lib.hid (nat_yes q T.length g cap j w h.bx hj)
      obtain ⟨n, hn⟩ : ∃ n, n = y.b.length := ⟨_, rfl⟩
      rw [← hn] at C1 hm2
      clear h hy hm hn hV hi hj
      by_cases h0 : a < 0
      · have k1 : decide (a < 0) = true := decide_eq_true h0
        clear hm2 h0
        go_enter Try.func19, Try.ntmps19
        go_wp2_with fail
        refine HA.out.mono ?_
        rintro e w1 ⟨rfl, hw⟩
        rw [hw]
        clear hw
        go_wp2_with fail
        go_ret
        exact ⟨rfl, rfl⟩
      · have k1 : decide (a < 0) = false := decide_eq_false h0
        by_cases h3 : (n : Int) ≤ a
        · have k2 : decide ((n : Int) ≤ a) = true := decide_eq_true h3
          clear hm2 h0 h3
          go_enter Try.func19, Try.ntmps19
          go_wp2_with fail
          refine HA.out.mono ?_
          rintro e w1 ⟨rfl, hw⟩
          rw [hw]
          clear hw
          go_wp2_with fail
          go_ret
          exact ⟨rfl, rfl⟩
        · have k2 : decide ((n : Int) ≤ a) = false := decide_eq_false h3
          obtain rfl : x = 0 := by
            apply Classical.byContradiction
            intro e
            exact hm2 ⟨by omega, by omega, e⟩
          clear hm2 h0 h3
          go_enter Try.func19, Try.ntmps19
          go_wp2_with fail
          refine HA.out.mono ?_
          rintro e w1 ⟨rfl, hw⟩
          rw [hw]
          clear hw
          go_wp2_with fail
          go_ret
          exact ⟨rfl, rfl⟩
  · subst hV
    have HA := Lib.hid (nat_no q T.length A0 c0 i w h.bx (by omega))
    clear h hi hm
    go_enter Try.func19, Try.ntmps19
    go_wp2_with fail
    refine HA.out.mono ?_
    rintro e w1 ⟨rfl, hw⟩
    rw [hw]
    clear hw
    go_wp2_with fail
    go_ret
    exact ⟨rfl, rfl⟩

theorem nbend_any (q : Nat) (V : Value) (T : List Ng) (i a : Int) (x : Nat) (w : World) (h : Nt w q V T) (hk : okT T) (hx : x < 256) :
    Calls Try.prog 19 #[.pointer (some ⟨q, 0, none⟩), .int .i64 i, .int .i64 a, .int .u8 (x : Nat)] w fun e w' => e = .returned (.bool (mayBend (T.map Ng.d) i a x)) ∧ ∃ V' T', Hid (NtTo w q V T w' V' T' ∧ okT T' ∧ T'.map Ng.d = bendD (T.map Ng.d) i a x) := by
  cases hm : mayBend (T.map Ng.d) i a x with
  | false =>
    refine (nbend_no q V T i a x w h hm).mono ?_
    rintro e w1 ⟨rfl, rfl⟩
    exact ⟨rfl, V, T, Lib.hid ⟨NtTo.same h (Below.refl _ _), hk, by unfold bendD; rw [hm]; rfl⟩⟩
  | true =>
    have hm2 := hm
    unfold mayBend at hm2
    rw [List.length_map] at hm2
    have hi : 0 ≤ i ∧ i < (T.length : Int) := by
      have := (Bool.and_eq_true_iff.1 hm2).1
      exact of_decide_eq_true this
    have h3 := of_decide_eq_true (Bool.and_eq_true_iff.1 hm2).2
    obtain ⟨j, rfl⟩ := Int.eq_ofNat_of_zero_le hi.1
    have hj : j < T.length := by omega
    obtain ⟨y, hy⟩ : ∃ y, T[j]? = some y := ⟨_, List.getElem?_eq_getElem hj⟩
    rw [Int.toNat_natCast, List.getElem?_map, hy] at h3
    obtain ⟨k, rfl⟩ := Int.eq_ofNat_of_zero_le h3.1
    have h4 : k < y.b.length := by have := h3.2.1; simp [Ng.d] at this; omega
    refine (nbend_yes q V T j k x y w h hy hk h4 h3.2.2 hx).mono ?_
    rintro e w1 ⟨rfl, k1⟩
    refine ⟨rfl, V, _, Lib.hid ⟨k1.out, fun t ht => ?_, ?_⟩⟩
    · rcases List.mem_or_eq_of_mem_set ht with h5 | rfl
      · exact hk t h5
      · have := hk y (List.mem_of_getElem? hy)
        simpa [bendG, bendB_len] using this
    · unfold bendD
      rw [if_pos hm, Int.toNat_natCast, List.getElem?_map, hy, Int.toNat_natCast, List.map_set]
      rfl

end Go.Proofs.Ytanenfbfcbkdhaa

/- Layer 19: Grams of the program. -/
set_option linter.unusedSimpArgs false
set_option linter.unusedVariables false
namespace Go.Proofs.Ytanenfbfcbkdhaa
open Go.RowKit
set_option maxRecDepth 100000

/-- api's grams, each with bytes of its own -/
abbrev Gg (w : World) (R : Value) (L : List Ng) : Prop := Gl (·.b) vaG w 33 encG 2 R L

theorem Try.gramOf (u v z : Value) (w : World) : (Instr.field 53 (.agg #[u, v, z]) 0).run Try.prog w = .ok (.agg #[u, v]) w := by kernel_rfl
set_option maxHeartbeats 8000000 in
theorem ngrams_any (q : Nat) (V : Value) (T : List Ng) (w : World) (h : Nt w q V T) (hk : okT T) (hT : T.length ≤ 1000000) :
    Calls Try.prog 16 #[.pointer (some ⟨q, 0, none⟩)] w fun e w' => ∃ R c L, e = .returned (.slice R T.length c) ∧ Hid (Gg w' (.slice R T.length c) L ∧ L.map Ng.d = T.map Ng.d ∧ Below w.heap.size w w' ∧ ∀ k, footG vaG (.slice R T.length c) L k → w.heap.size ≤ k) := by
  obtain ⟨A0, c0, hV⟩ := h.ex
  subst hV
  obtain ⟨n, hn⟩ : ∃ n, n = T.length := ⟨_, rfl⟩
  rw [← hn] at h ⊢
  have C := bsays h.bx
  simp only [cellsSay, Nat.reduceAdd, and_true] at C
  have HN := Lib.hid h
  have Hn := Lib.hid hn
  have Hk := Lib.hid hk
  have hn6 : n ≤ 1000000 := by omega
  clear h hn hk
  go_enter Try.func16, Try.ntmps16
  go_wp2_with fail
  go_loopw [3, 11] (fun s3 s11 wr => ∃ k : Nat, ∃ (R : Option Addr) (c : Nat), k ≤ n ∧ s3 = .slice R k c ∧ s11 = .int .i64 k ∧ Hid (∃ L, L.map Ng.d = (T.take k).map Ng.d ∧ OwnR wr w.heap.size 33 encG 2 (.slice R k c) L ∧ Gg wr (.slice R k c) L ∧ Below w.heap.size w wr ∧ ∀ j, footG vaG (.slice R k c) L j → w.heap.size ≤ j))
    (fun _ s11 _ => n - (intOf s11).toNat)
  case atStart => exact ⟨0, none, 0, Nat.zero_le _, rfl, rfl, Lib.hid ⟨[], rfl, OwnR.nil _ _ _ _ _, Gl.nil _ _ _ _ _ _, Below.refl _ _, fun j hj => by rcases hj with hj | ⟨t, ht, _⟩ <;> simp_all [Value.ownBlock]⟩⟩
  case round =>
    obtain ⟨k, R, c, hkn, rfl, rfl, HR⟩ := hrel
    by_cases hlt : k < n
    · obtain ⟨x, hx⟩ : ∃ x, T[k]? = some x := ⟨_, List.getElem?_eq_getElem (by rw [← Hn.out]; exact hlt)⟩
      obtain ⟨g, hg⟩ : ∃ g, A0 = some ⟨g, 0, none⟩ := by
        rcases HN.out.slice with ⟨h1, h2⟩ | ⟨g, cap, h1, _⟩
        · have := Hn.out; rw [h2] at this; simp at this; omega
        · injection h1 with h1; exact ⟨g, h1⟩
      subst hg
      obtain ⟨L, l1, l2, l3, l4, l5⟩ := HR.out
      have hkx := Hk.out x (List.mem_of_getElem? hx)
      have CE := (HN.out.elem hx)
      have C1 : wr.cell? ⟨g, k * 3, none⟩ = some (.int .u8 (x.sd : Nat)) ∧ wr.cell? ⟨g, k * 3 + 1, none⟩ = some (.slice x.A x.b.length x.c) ∧ wr.cell? ⟨g, k * 3 + 2, none⟩ = some (.bool x.bent) := by
        have hgw : g < w.heap.size := HN.out.gl.lt g (.inl rfl)
        exact ⟨(l4.cell hgw).trans CE.1, (l4.cell hgw).trans CE.2.1, (l4.cell hgw).trans CE.2.2.1⟩
      have hkl : (k : Int) < (n : Int) := by omega
      have hk0 : (0 : Int) ≤ (k : Int) := by omega
      have HX := Lib.hid hx
      have HL := Lib.hid (And.intro l1 (And.intro l2 (And.intro l3 (And.intro l4 l5))))
      have HB := Lib.hid ((HN.out.bytes hx).below l4)
      clear CE l1 l2 l3 l4 l5 HR hx
      have kA := fun W => keepA W
      go_upto_region 5 with fail
      obtain ⟨Wb, hWb⟩ : ∃ Wb, Wb = wr.alloc (.cells #[.int .u8 (x.sd : Nat), .slice x.A x.b.length x.c, .bool x.bent] 53) := ⟨_, rfl⟩
      have hb0 : Below wr.heap.size wr Wb := by rw [hWb]; exact below_alloc _ _
      have D : Wb.cell? ⟨wr.heap.size, 0, none⟩ = some (.int .u8 (x.sd : Nat)) ∧ Wb.cell? ⟨wr.heap.size, 1, none⟩ = some (.slice x.A x.b.length x.c) ∧ Wb.cell? ⟨wr.heap.size, 2, none⟩ = some (.bool x.bent) := by
        rw [hWb]
        exact ⟨(Blk.new wr _ _).cell 0, (Blk.new wr _ _).cell 1, (Blk.new wr _ _).cell 2⟩
      rw [← hWb]
      have HB0 := Lib.hid hb0
      have HC := Lib.hid (ncopied_any x.sd x.b x.A x.c x.bent Wb (HB.out.below hb0) hkx.1 (by omega))
      clear hWb hb0 C1 kA
      go_wp2_with fail
      refine HC.out.mono ?_
      rintro e w8 ⟨A8, c8, rfl, h8⟩
      obtain ⟨l1, l2, l3, l4, l5⟩ := HL.out
      have hLl : L.length = k := by
        have := congrArg List.length l1
        rw [List.length_map, List.length_map, List.length_take, ← Hn.out] at this
        omega
      obtain ⟨o8, b8⟩ := h8.out
      have hb9 : Below wr.heap.size wr w8 := on1 HB0.out b8
      have hR := (l2.below hb9).alloc (.cells #[.int .u8 (x.sd : Nat), .slice A8 x.b.length c8] 33)
      have hb10 : Below wr.heap.size wr (w8.alloc (.cells #[.int .u8 (x.sd : Nat), .slice A8 x.b.length c8] 33)) := hb9.alloc hb9.size _
      have hz10 := hb10.size
      have hz4 := l4.size
      have HL2 := Lib.hid (And.intro l1 (And.intro l2 (And.intro l3 (And.intro l4 (And.intro l5 (And.intro o8 hb10))))))
      have HR2 := Lib.hid hR
      have h5n : L.length + 1 ≤ maxLen := by unfold maxLen; have := Hn.out; omega
      have h6n : (L.length + 1) * 32 ≤ 140737488355328 := by have := Hn.out; omega
      have hz8 : wr.heap.size + 1 ≤ Wb.heap.size := by
        have := cell_lt D.1
        simp at this
        omega
      have HZ8 := Lib.hid hz8
      clear D HL HB HC h8 o8 b8 hb9 hR hb10 hz10 l1 l2 l3 l4 l5 hz8
      have hfd := Try.gramOf (.int .u8 (x.sd : Nat)) (.slice A8 x.b.length c8) (.bool x.bent) w8
      go_upto_region 6 with (at_builtin; go_must (refine appR1L Try.eltG _ rfl (.tmp 15) (.tmp 19) rfl w.heap.size (.slice R k c) L rfl HR2.out w8.heap.size 1 ⟨x.sd, x.b, A8, c8, x.bent⟩ _ _ rfl (Blk.new w8 _ _) rfl h5n h6n (by have := HL2.out.2.2.2.1.size; have := HL2.out.2.2.2.2.2.2.size; omega) ?_); intro g2 c2 w2 hown2 hgr2 hor2 hlt2)
      obtain ⟨l1, l2, l3, l4, l5, o8, hb10⟩ := HL2.out
      have hl8 : ∀ j, (Value.slice (some ⟨g2, 0, none⟩) (k + 1) c2).ownBlock = some j → (Value.slice R k c).ownBlock = some j ∨ (w8.alloc (.cells #[.int .u8 (x.sd : Nat), .slice A8 x.b.length c8] 33)).heap.size ≤ j := fun j e => by
        have e2 : g2 = j := by simpa [Value.ownBlock] using e
        subst e2
        rcases hor2 with h9 | h9
        · exact .inl h9
        · exact .inr (Nat.le_of_eq h9.symm)
      have hx8 : ∀ j, (vaG (⟨x.sd, x.b, A8, c8, x.bent⟩ : Ng)).ownBlock = some j → wr.heap.size ≤ j := fun j e => by
        have h9 := (World.ownsRow.lt o8 j e).1
        have := HZ8.out
        omega
      rw [hLl] at hown2
      have G2 : Gg w2 (.slice (some ⟨g2, 0, none⟩) (k + 1) c2) (L ++ [(⟨x.sd, x.b, A8, c8, x.bent⟩ : Ng)]) := l3.snoc (x := (⟨x.sd, x.b, A8, c8, x.bent⟩ : Ng)) hb10 (hown2.mono (Nat.zero_le _)) hgr2 hl8 ((o8.mono (Nat.zero_le _)).below (below_alloc _ _)) hx8
      have b2 : Below w.heap.size w w2 := Below.grown (on1 l4 hb10) hgr2 (on1 l4 hb10).size (fun j e => l5 j (.inl e))
      have f2 : ∀ j, footG vaG (.slice (some ⟨g2, 0, none⟩) (k + 1) c2) (L ++ [(⟨x.sd, x.b, A8, c8, x.bent⟩ : Ng)]) j → w.heap.size ≤ j := fun j hj => by
        rcases footG_snoc (x := (⟨x.sd, x.b, A8, c8, x.bent⟩ : Ng)) (V := .slice R k c) (V2 := .slice (some ⟨g2, 0, none⟩) (k + 1) c2) (B := wr.heap.size) (fun k e => (hl8 k e).imp id (fun h => Nat.le_trans hb10.size h)) hx8 j hj with h9 | h9
        · exact l5 j h9
        · exact Nat.le_trans l4.size h9
      have m2 : (L ++ [(⟨x.sd, x.b, A8, c8, x.bent⟩ : Ng)]).map Ng.d = (T.take (k + 1)).map Ng.d := by
        rw [List.take_add_one, HX.out, List.map_append, List.map_append, l1]
        rfl
      have HE := Lib.hid (show ∃ L, L.map Ng.d = (T.take (k + 1)).map Ng.d ∧ OwnR w2 w.heap.size 33 encG 2 (.slice (some ⟨g2, 0, none⟩) (k + 1) c2) L ∧ Gg w2 (.slice (some ⟨g2, 0, none⟩) (k + 1) c2) L ∧ Below w.heap.size w w2 ∧ ∀ j, footG vaG (.slice (some ⟨g2, 0, none⟩) (k + 1) c2) L j → w.heap.size ≤ j from ⟨_, m2, hown2, G2, b2, f2⟩)
      clear l1 l2 l3 l4 l5 o8 hb10 hl8 hx8 G2 b2 f2 m2 hown2 hgr2 hor2 hlt2 hLl HL2 HR2 hfd
      go_wp2_with fail
      go_roundw
      case measure => simp [intOf]; omega
      case rel => exact ⟨k + 1, some ⟨g2, 0, none⟩, c2, by omega, rfl, by go_num, HE⟩
    · obtain rfl : k = n := by omega
      obtain ⟨L, l1, l2, l3, l4, l5⟩ := HR.out
      have HEND := Lib.hid (show Gg wr (.slice R k c) L ∧ L.map Ng.d = T.map Ng.d ∧ Below w.heap.size w wr ∧ ∀ j, footG vaG (.slice R k c) L j → w.heap.size ≤ j from ⟨l3, by rw [l1, Hn.out, List.take_length], l4, l5⟩)
      clear l1 l2 l3 l4 l5 HR
      have hkk : ¬ ((k : Int) < (k : Int)) := by omega
      go_wp2_with fail
      go_ret
      exact ⟨R, c, rfl, L, HEND⟩

end Go.Proofs.Ytanenfbfcbkdhaa
