/- Joined: Nw11, Nd8, Ne1, Ne3, Ne4, Ne2. -/
import Derived.Test.YtanenfbfcbkdhaaQ14
set_option linter.unusedSimpArgs false
set_option linter.unusedVariables false
/- Layer 19: walk of NetTwice, the main way. -/
set_option linter.unusedSimpArgs false
set_option linter.unusedVariables false
namespace Go.Proofs.Ytanenfbfcbkdhaa
open Go.RowKit
set_option maxRecDepth 100000

set_option maxHeartbeats 8000000 in
theorem netTwice_main (A : Option Addr) (c : Nat) (b : List UInt8) (to_ : Nat) (V : Option Addr) (cv : Nat) (l : List OpN) (w : World) (hA : Bs w A b) (hV : Rw w encOp 6 V l) (hl : l.length ≤ maxLen) (ho : ∀ o ∈ l, o.ok w) (hto : to_ < 256) (hk : ¬ (heavyL l = true ∨ b.length < 1 ∨ 4096 < b.length)) :
    Calls Try.prog 3 #[.slice A b.length c, .int .u8 (to_ : Nat), .slice V l.length cv] w fun e w' => e = .returned (.bool true) ∧ Below w.heap.size w w' := by
  have hh : heavyL l = false := by
    cases h : heavyL l
    · rfl
    · exact absurd (.inl h) hk
  have HH := Lib.hid (nheavy_any V cv l w hV hl (fun o h => (ho o h).2.2.2.1))
  rw [hh] at HH
  have HK := Lib.hid (nknown_any w)
  obtain ⟨n, hn⟩ : ∃ n, n = b.length := ⟨_, rfl⟩
  obtain ⟨m, hm⟩ : ∃ m, m = l.length := ⟨_, rfl⟩
  have hm80 : m ≤ 80 := by rw [hm]; exact (heavyL_no hh).1
  rw [← hm] at HH
  rw [← hn, ← hm]
  rw [← hn] at hk
  obtain ⟨t2, ht2⟩ : ∃ t2 : Nat, t2 = to_ % 2 := ⟨_, rfl⟩
  have f0 : (to_ : Int) % 2 = (t2 : Int) := by rw [ht2]; omega
  have ht1 : t2 = 0 ∨ t2 = 1 := by omega
  have d1 : decide ((n : Int) < 1) = false := decide_eq_false (by omega)
  have d2 : decide ((4096 : Int) < (n : Int)) = false := decide_eq_false (by omega)
  have hms : maySend t2 b = true := decide_eq_true ⟨ht1, by omega, by omega⟩
  have HI := Lib.hid (And.intro hA (And.intro hV (And.intro ho (And.intro hn (And.intro hm hms)))))
  clear hl hA hV ho hn hm hms hk hh ht2 ht1
  go_enter Try.func3, Try.ntmps3
  go_wp2_with fail
  refine HH.out.mono ?_
  rintro e w1 ⟨rfl, hw⟩
  rw [hw]
  clear hw HH
  go_wp2_with fail
  refine HK.out.mono ?_
  rintro e w1 ⟨rfl, b1⟩
  clear HK
  have HB1 := Lib.hid b1
  clear b1
  go_wp2_with fail
  refine (nnew_any w1).mono ?_
  rintro e w2 ⟨rfl, n2, b2⟩
  obtain ⟨q, hq⟩ : ∃ q, q = w1.heap.size := ⟨_, rfl⟩
  rw [← hq] at n2 ⊢
  have H2 := Lib.hid (show NS w.heap.size w w2 q (.slice none 0 0) [] from ⟨on1 HB1.out b2, (on1 HB1.out b2).size, n2, fun t h => by simp at h, fun k hk => by
    rcases hk with rfl | hk | ⟨t, ht, _⟩
    · rw [hq]; exact HB1.out.size
    · simp [Value.ownBlock] at hk
    · simp at ht⟩)
  clear n2 b2 hq
  go_wp2_with fail
  have HC := Lib.hid (nsend_any q _ [] t2 b A c w2 H2.out.nt H2.out.ok (H2.out.bs (Nat.le_refl _) HI.out.1) (by simp))
  rw [← HI.out.2.2.2.1] at HC
  refine HC.out.mono ?_
  rintro e w3 ⟨rfl, V3, T3, h3⟩
  rw [show (maySend t2 b && decide (([] : List Ng).length < 4096)) = true by rw [HI.out.2.2.2.2.2]; rfl]
  have hm3 : T3.map Ng.d = [⟨t2, b, false⟩] := by rw [h3.out.2.2]; unfold sendD; rw [if_pos HI.out.2.2.2.2.2]; rfl
  have H3 := Lib.hid (show NS w.heap.size w w3 q V3 T3 ∧ T3.map Ng.d = [⟨t2, b, false⟩] ∧ T3.length = 1 from ⟨H2.out.to h3.out.1 h3.out.2.1, hm3, len_of hm3⟩)
  clear h3 hm3 HC H2
  have HC := Lib.hid (ntwice_any q V3 T3 0 w3 H3.out.1.nt H3.out.1.ok (by rw [H3.out.2.2]; omega))
  go_wp2_with fail
  refine HC.out.mono ?_
  rintro e w4 ⟨rfl, V4, T4, h4⟩
  rw [H3.out.2.2, show (isD 1 0 && decide (1 < 4096)) = true by decide]
  have hm4 : T4.map Ng.d = [⟨t2, b, false⟩, ⟨t2, b, false⟩] := by rw [h4.out.2.2, H3.out.2.1]; rfl
  have H4 := Lib.hid (show NS w.heap.size w w4 q V4 T4 ∧ T4.map Ng.d = [⟨t2, b, false⟩, ⟨t2, b, false⟩] from ⟨H3.out.1.to h4.out.1 h4.out.2.1, hm4⟩)
  clear h4 hm4 HC H3
  go_wp2_with fail
  go_loopw [10] (fun s wr => ∃ k : Nat, k ≤ m ∧ s = .int .i64 k ∧ Hid (∃ V T r, NS w.heap.size w wr q V T ∧ T.map Ng.d = ⟨t2, b, false⟩ :: ⟨t2, b, false⟩ :: r ∧ r.length ≤ k)) (fun s _ => m - (intOf s).toNat)
  case atStart => exact ⟨0, Nat.zero_le _, rfl, Lib.hid ⟨V4, T4, [], H4.out.1, H4.out.2, Nat.zero_le _⟩⟩
  case round =>
    obtain ⟨k, hk, rfl, HR⟩ := hrel
    by_cases hlt : k < m
    · obtain ⟨o, ho⟩ : ∃ o, l[k]? = some o := ⟨_, List.getElem?_eq_getElem (by rw [← HI.out.2.2.2.2.1]; exact hlt)⟩
      obtain ⟨V5, T5, r5, h5, m5, l5⟩ := HR.out
      obtain ⟨p, f, hVe, hc⟩ := HI.out.2.1 k o ho
      subst hVe
      have hok := HI.out.2.2.1 o (List.mem_of_getElem? ho)
      have c1 := (h5.b.cell (cell_lt (hc 1 _ rfl))).trans (hc 1 _ rfl)
      have c2 := (h5.b.cell (cell_lt (hc 2 _ rfl))).trans (hc 2 _ rfl)
      have hd5 := h5.go (Below.refl wr.heap.size wr).drew
      have HC := Lib.hid (nsend_any q V5 T5 o.sd o.b o.A o.c wr.drew hd5.nt hd5.ok (hd5.bs (Nat.le_refl _) hok.2.2.1) (by rw [len_of m5]; simp; omega))
      have hkl : (k : Int) < (m : Int) := by omega
      have hk0 : (0 : Int) ≤ (k : Int) := by omega
      have H5 := Lib.hid (And.intro hd5 (And.intro m5 l5))
      clear hc h5 hd5 m5 l5 hok ho HR
      go_upto_region 11 with fail
      go_still_tail 11, (by kernel_rfl)
      change wpList _ _ _ _ _ wr.drew
      obtain ⟨wd, hwd⟩ : ∃ wd, wd = wr.drew := ⟨_, rfl⟩
      rw [← hwd] at HC H5 ⊢
      clear hwd c1 c2
      go_wp2_with fail
      refine HC.out.mono ?_
      rintro e w6 ⟨rfl, V6, T6, h6⟩
      obtain ⟨r6, e6, l6⟩ := sendD_two ⟨t2, b, false⟩ r5 o.sd o.b
      have HN := Lib.hid (show ∃ V T r, NS w.heap.size w w6 q V T ∧ T.map Ng.d = ⟨t2, b, false⟩ :: ⟨t2, b, false⟩ :: r ∧ r.length ≤ k + 1 from ⟨V6, T6, r6, H5.out.1.to h6.out.1 h6.out.2.1, by rw [h6.out.2.2, H5.out.2.1, e6], by have := H5.out.2.2; omega⟩)
      clear h6 e6 l6 HC H5
      go_wp2_with fail
      go_roundw
      case measure => simp [intOf]; omega
      case rel => exact ⟨k + 1, by omega, by go_num, HN⟩
    · obtain rfl : k = m := by omega
      obtain ⟨V5, T5, r5, h5, m5, l5⟩ := HR.out
      have hkk : ¬ ((k : Int) < (k : Int)) := by omega
      obtain ⟨x0, x1, T6, hT⟩ : ∃ x0 x1 T6, T5 = x0 :: x1 :: T6 := by
        match T5, len_of m5 with
        | x0 :: x1 :: T6, _ => exact ⟨x0, x1, T6, rfl⟩
        | [x0], h => simp at h
        | [], h => simp at h
      subst hT
      obtain ⟨s0, b0, A0, c0, g0⟩ := x0
      obtain ⟨s1, b1, A1, c1, g1⟩ := x1
      simp only [List.map_cons, List.cons.injEq, Ng.d, Dg.mk.injEq] at m5
      obtain ⟨⟨a1, a2, a3⟩, ⟨a4, a5, a6⟩, m6⟩ := m5
      have a1' := a1.symm
      have a2' := a2.symm
      have a4' := a4.symm
      have a5' := a5.symm
      clear a1 a2 a4 a5
      subst a1' a2' a3 a4' a5' a6
      have HC := Lib.hid (ntake_yes q V5 (⟨t2, b, A0, c0, false⟩ :: ⟨t2, b, A1, c1, false⟩ :: T6) 1 ⟨t2, b, A1, c1, false⟩ wr h5.nt rfl h5.ok (by have := len_of m6; simp; omega))
      rw [← HI.out.2.2.2.1] at HC
      have H5 := Lib.hid h5
      have hT6 : T6.length ≤ 1000 := by have := len_of m6; omega
      clear h5 l5 HR m6
      go_wp2_with fail
      refine HC.out.mono ?_
      rintro e w6 ⟨rfl, V6, h6⟩
      have H6 := Lib.hid (And.intro (H5.out.to h6.out.1 h6.out.2.1) h6.out.2.2)
      clear h6 HC H5
      obtain ⟨W6, hW6⟩ : ∃ W6, W6 = w6.alloc (.cells #[.int .u8 (t2 : Nat), .slice A1 n c1] 33) := ⟨_, rfl⟩
      go_upto_region 13 with fail
      rw [← hW6]
      have hz6 : W6.heap.size = w6.heap.size + 1 := by rw [hW6]; simp
      have hb6 : Below w6.heap.size w6 W6 := by rw [hW6]; exact below_alloc _ _
      have hB6 : Blk W6 w6.heap.size 33 #[.int .u8 (t2 : Nat), .slice A1 n c1] := by rw [hW6]; exact Blk.new _ _ _
      have X6 := H6.out.1.go hb6
      have HC := Lib.hid (ntake_yes q V6 (⟨t2, b, A0, c0, false⟩ :: T6) 0 ⟨t2, b, A0, c0, false⟩ W6 X6.nt rfl X6.ok (by simp; omega))
      rw [← HI.out.2.2.2.1] at HC
      have HB6 := Lib.hid (And.intro X6 (And.intro hb6 (And.intro hB6 hz6)))
      clear hW6 hz6 hb6 hB6 X6
      go_wp2_with fail
      refine HC.out.mono ?_
      rintro e w7 ⟨rfl, V7, h7⟩
      have H7 := Lib.hid (And.intro (HB6.out.1.to h7.out.1 h7.out.2.1) (And.intro h7.out.1.tou h7.out.2.2))
      clear h7 HC
      obtain ⟨W7, hW7⟩ : ∃ W7, W7 = w7.alloc (.cells #[.int .u8 (t2 : Nat), .slice A0 n c0] 33) := ⟨_, rfl⟩
      go_upto_region 14 with fail
      rw [← hW7]
      have hb7 : Below w7.heap.size w7 W7 := by rw [hW7]; exact below_alloc _ _
      have B7 : Blk W7 w7.heap.size 33 #[.int .u8 (t2 : Nat), .slice A0 n c0] := by rw [hW7]; exact Blk.new _ _ _
      have hB7 : Blk w7 w6.heap.size 33 #[.int .u8 (t2 : Nat), .slice A1 n c1] := H7.out.2.1.blk HB6.out.2.2.1 (fun hk => by have := H6.out.1.nt.lt _ hk; omega)
      have B6 := hB7.below hb7 hB7.lt
      have o1 : OwnB W7 0 (.slice A1 b.length c1) b := OwnB.below (H7.out.2.1.row (H6.out.2.1.below HB6.out.2.1) (fun k hk => H6.out.2.2 k hk)) hb7
      have o0 : OwnB W7 0 (.slice A0 b.length c0) b := H7.out.2.2.1.below hb7
      have X7 := H7.out.1.go hb7
      have sA := str_of (X7.bs (Nat.le_refl _) HI.out.1) c
      have s1 := str_of o1.bs c1
      have s0 := str_of o0.bs c0
      rw [← HI.out.2.2.2.1] at sA s1 s0
      have D6 := bsays B6
      have D7 := bsays B7
      simp only [cellsSay, Nat.reduceAdd, and_true] at D6 D7
      have HEND := Lib.hid X7.b
      clear hW7 hb7 B7 hB7 B6 o1 o0 X7
      go_wp2_with fail
      go_ret
      exact ⟨by simp, HEND.out⟩

theorem netTwice_walk (A : Option Addr) (c : Nat) (b : List UInt8) (to_ : Nat) (V : Option Addr) (cv : Nat) (l : List OpN) (w : World) (hA : Bs w A b) (hb : b.length ≤ maxLen) (hto : to_ < 256) (hV : Rw w encOp 6 V l) (hl : l.length ≤ maxLen) (ho : ∀ o ∈ l, o.ok w) :
    Calls Try.prog 3 #[.slice A b.length c, .int .u8 (to_ : Nat), .slice V l.length cv] w fun e w' => e = .returned (.bool true) ∧ Below w.heap.size w w' := by
  by_cases hk : heavyL l = true ∨ b.length < 1 ∨ 4096 < b.length
  · exact netTwice_known A c b to_ V cv l w hV hl hb ho hk
  · exact netTwice_main A c b to_ V cv l w hA hV hl ho hto hk

end Go.Proofs.Ytanenfbfcbkdhaa

/- Layer 19: walk of NetDoes. -/
set_option linter.unusedSimpArgs false
set_option linter.unusedVariables false
namespace Go.Proofs.Ytanenfbfcbkdhaa
open Go.RowKit
set_option maxRecDepth 100000

theorem Du.start {B : Nat} {w0 w1 w2 : World} {q : Nat} (b : Below B w0 w1) (hB : B ≤ w1.heap.size) (hn : Nt w1 q (.slice none 0 0) []) (hq : B ≤ q) (b2 : Below w1.heap.size w1 w2) (hr : Rn w2 w1.heap.size (.slice none 0 0) (.slice none 0 0) []) : Du B w0 w2 q w1.heap.size [] [] [] := by
  have s1 : Sep B w0 w1 [thN q (.slice none 0 0) []] := ⟨b, hB, fun t ht => by
    rw [List.mem_singleton] at ht
    subst ht
    refine ⟨hn, fun k hk => ?_⟩
    rcases hk with rfl | hk | ⟨t, ht, _⟩
    · exact hq
    · simp [Value.ownBlock] at hk
    · simp at ht, List.pairwise_singleton _ _⟩
  have s2 := s1.cons (t := thQ w1.heap.size (.slice none 0 0) (.slice none 0 0) []) b2 hr (fun k hk => by
    rcases hk with rfl | (hk | ⟨t, ht, _⟩) | hk
    · exact Nat.le_refl _
    · simp [Value.ownBlock] at hk
    · simp at ht
    · simp [Value.ownBlock] at hk)
  exact ⟨_, _, _, _, _, s2.perm (List.Perm.swap _ _ _), fun t h => by simp at h, fun t h => by simp at h, rfl, rfl⟩
theorem len_map_of {T T' : List Ng} (h : T.map Ng.d = T'.map Ng.d) : T.length = T'.length := by
  have := congrArg List.length h
  rw [List.length_map, List.length_map] at this
  exact this
theorem gm_of {T T' : List Ng} (h : T.map Ng.d = T'.map Ng.d) : T.map Ng.gm = T'.map Ng.gm := by
  have e : ∀ T : List Ng, T.map Ng.gm = (T.map Ng.d).map (fun d => (d.sd, d.b)) := fun T => by rw [List.map_map]; rfl
  rw [e, e, h]

theorem netDoes_known (V : Option Addr) (cv : Nat) (l : List OpN) (w : World) (hV : Rw w encOp 6 V l) (hl : l.length ≤ maxLen) (ho : ∀ o ∈ l, o.ok w) (hh : heavyL l = true) :
    Calls Try.prog 4 #[.slice V l.length cv] w fun e w' => e = .returned (.bool true) ∧ Below w.heap.size w w' := by
  have HH := Lib.hid (nheavy_any V cv l w hV hl (fun o h => (ho o h).2.2.2.1))
  have HK := Lib.hid (nknown_any w)
  rw [hh] at HH
  clear hV hl ho hh
  go_enter Try.func4, Try.ntmps4
  go_wp2_with fail
  refine HH.out.mono ?_
  rintro e w1 ⟨rfl, hw⟩
  rw [hw]
  clear hw
  go_wp2_with fail
  refine HK.out.mono ?_
  rintro e w1 ⟨rfl, k⟩
  have Hk := Lib.hid k
  clear k
  go_wp2_with fail
  go_ret
  exact ⟨rfl, Hk.out⟩

set_option maxHeartbeats 8000000 in
theorem netDoes_main (V : Option Addr) (cv : Nat) (l : List OpN) (w : World) (hV : Rw w encOp 6 V l) (hl : l.length ≤ maxLen) (ho : ∀ o ∈ l, o.ok w) (hh : heavyL l = false) :
    Calls Try.prog 4 #[.slice V l.length cv] w fun e w' => e = .returned (.bool true) ∧ Below w.heap.size w w' := by
  have hmx : Try.prog.follows .mixedOrders = true := by kernel_rfl
  have HH := Lib.hid (nheavy_any V cv l w hV hl (fun o h => (ho o h).2.2.2.1))
  rw [hh] at HH
  have HK := Lib.hid (nknown_any w)
  obtain ⟨m, hm⟩ : ∃ m, m = l.length := ⟨_, rfl⟩
  have hm80 : m ≤ 80 := by rw [hm]; exact (heavyL_no hh).1
  have hb5 := (heavyL_no hh).2
  rw [← hm] at HH ⊢
  have HI := Lib.hid (And.intro hV (And.intro ho (And.intro hm hb5)))
  clear hl hV ho hm hb5 hh
  go_enter Try.func4, Try.ntmps4
  go_wp2_with fail
  refine HH.out.mono ?_
  rintro e w1 ⟨rfl, hw⟩
  rw [hw]
  clear hw HH
  go_wp2_with fail
  refine HK.out.mono ?_
  rintro e w1 ⟨rfl, b1⟩
  clear HK
  have HB1 := Lib.hid b1
  clear b1
  go_wp2_with fail
  refine (nnew_any w1).mono ?_
  rintro e w2 ⟨rfl, n2, b2⟩
  obtain ⟨q, hq⟩ : ∃ q, q = w1.heap.size := ⟨_, rfl⟩
  rw [← hq] at n2 ⊢
  have H2 := Lib.hid (And.intro n2 (And.intro b2 hq))
  clear n2 b2 hq
  go_wp2_with fail
  refine (rnnew_any w2).mono ?_
  rintro e w3 ⟨rfl, n3, b3⟩
  have D3 := Lib.hid (Du.start (on1 HB1.out H2.out.2.1) (on1 HB1.out H2.out.2.1).size H2.out.1 (by rw [H2.out.2.2]; exact HB1.out.size) b3 n3)
  obtain ⟨q', hq'⟩ : ∃ q', q' = w2.heap.size := ⟨_, rfl⟩
  rw [← hq'] at D3 ⊢
  clear n3 b3 hq' H2
  go_wp2_with fail
  go_loopw [5] (fun s wr => ∃ k : Nat, k ≤ m ∧ s = .int .i64 k ∧ Hid (∃ L, L.length ≤ k ∧ Du w.heap.size w wr q q' [] L L)) (fun s _ => m - (intOf s).toNat)
  case atStart => exact ⟨0, Nat.zero_le _, rfl, Lib.hid ⟨[], Nat.le_refl _, D3.out⟩⟩
  case round =>
    obtain ⟨k, hk, rfl, HR⟩ := hrel
    by_cases hlt : k < m
    · obtain ⟨o, ho⟩ : ∃ o, l[k]? = some o := ⟨_, List.getElem?_eq_getElem (by rw [← HI.out.2.2.1]; exact hlt)⟩
      obtain ⟨L, hL, h5⟩ := HR.out
      obtain ⟨p, f, hVe, hc⟩ := HI.out.1 k o ho
      subst hVe
      have hok := HI.out.2.1 o (List.mem_of_getElem? ho)
      have c0 := (h5.b.cell (cell_lt (hc 0 _ rfl))).trans (hc 0 _ rfl)
      have c1 := (h5.b.cell (cell_lt (hc 1 _ rfl))).trans (hc 1 _ rfl)
      have c2 := (h5.b.cell (cell_lt (hc 2 _ rfl))).trans (hc 2 _ rfl)
      have c3 := (h5.b.cell (cell_lt (hc 3 _ rfl))).trans (hc 3 _ rfl)
      have c4 := (h5.b.cell (cell_lt (hc 4 _ rfl))).trans (hc 4 _ rfl)
      have c5 := (h5.b.cell (cell_lt (hc 5 _ rfl))).trans (hc 5 _ rfl)
      simp only [Nat.add_zero] at c0
      have HC := Lib.hid (does_same o h5 hok (Nat.le_refl _) (HI.out.2.2.2 o (List.mem_of_getElem? ho)) (by omega))
      unfold aggO at HC
      have hkl : (k : Int) < (m : Int) := by omega
      have hk0 : (0 : Int) ≤ (k : Int) := by omega
      have HL := Lib.hid (show (stepD L o).length ≤ k + 1 by have := stepD_len L o; omega)
      obtain ⟨M, hM⟩ : ∃ M, M = stepD L o := ⟨_, rfl⟩
      rw [← hM] at HC HL
      rename World => wo
      clear hc h5 hok ho HR hL hM D3
      go_wp2_with fail
      refine HC.out.mono ?_
      rintro e w5 ⟨b, rfl, h5⟩
      obtain rfl : b = true := h5.out.1 rfl
      obtain ⟨VN, T, VL, VB, T', hs, o1, o2, e1, e2⟩ := h5.out.2
      clear h5 HC c0 c1 c2 c3 c4 c5
      obtain ⟨⟨AL, cL, hVL, -, -⟩, -⟩ := Rn.shape (hs.at_ 1 rfl)
      subst hVL
      go_upto_region 11 with fail
      obtain ⟨n, hn⟩ : ∃ n, n = T'.length := ⟨_, rfl⟩
      have hTn : T.length = n := by rw [hn]; exact len_map_of (e1.trans e2.symm)
      have hn6 : n ≤ 1000 := by have h9 := congrArg List.length e1; rw [List.length_map] at h9; have := HL.out; omega
      rw [← hn] at hs
      have CR := bsays (show Rn w5 q' (.slice AL n cL) VB T' from hs.at_ 1 rfl).bx
      simp only [cellsSay, Nat.reduceAdd, and_true] at CR
      have HN : Hid (Nt w5 q VN T) := Lib.hid (hs.at_ 0 rfl)
      have HRn : Hid (Rn w5 q' (.slice AL n cL) VB T') := Lib.hid (hs.at_ 1 rfl)
      have HS := Lib.hid (And.intro hs (And.intro o1 (And.intro o2 (And.intro e1 (And.intro e2 (And.intro hn hTn))))))
      clear hs o1 o2 e1 e2 hn hTn
      obtain ⟨I, hI⟩ : ∃ I : Rec → World → Prop, ∀ E W, I E W ↔ (Below w5.heap.size w5 W ∧ ∀ v, E 4 = some v → ∃ R c Lg, v = .slice R n c ∧ Lg.length = n ∧ Gs W R Lg ∧ Lg.map Ng.d = M) := ⟨_, fun _ _ => Iff.rfl⟩
      have hI0 : I (fun _ => none) w5.drew := (hI _ _).2 ⟨(Below.refl w5.heap.size w5).drew, fun v h => by cases h⟩
      haveI : Nonempty (InvW I) := ⟨⟨_, _, hI0⟩⟩
      have e0 : ∀ x : InvW I, x.W.cell? ⟨q', 0, none⟩ = some (.slice AL n cL) := fun x => (((hI _ _).1 x.h).1.cell HRn.out.bx.lt).trans CR.1
      have HI2 := Lib.hid hI
      clear hI
      refine wp_region_inv I [[], [], [], [], [], [], [], [], [], [4]] [4, 6, 9] (fun k v => if k = 4 then ∃ R c, v = .slice R n c else if k = 6 then v = .pointer (some ⟨q', 0, none⟩) else v = .bool true) hmx (by kernel_rfl) hI0 ?_
      iterate 4 (refine walkJ_one rfl (by kernel_rfl) ?_; go_big_quiet_step (fail); refine wpQuiet_nil ?_)
      refine walkJ_turn rfl rfl ⟨.slice none n 0, none, 0, rfl⟩ (fun s W1 hs h7 _ => ?_) ?_
      · have h := (HI2.out _ _).1 hs
        have hc := ngrams_any q VN T W1 (HN.out.below h.1) HS.out.2.1 (by rw [HS.out.2.2.2.2.2.2]; omega)
        rw [HS.out.2.2.2.2.2.2] at hc
        refine inv_call (by simp [execOp, go_sem]) (hc.mono ?_)
        rintro e w1 ⟨R, c, Lg, rfl, h9⟩
        obtain ⟨g1, g2, g3, -⟩ := h9.out
        refine ⟨_, rfl, ⟨R, c, rfl⟩, (HI2.out _ _).2 ⟨on1 h.1 g3, fun v hv => ?_⟩⟩
        injection hv with hv
        exact ⟨R, c, Lg, hv.symm, (len_map_of g2).trans HS.out.2.2.2.2.2.2, gs_of g1, g2.trans HS.out.2.2.2.1⟩
      rintro v ⟨R, c, rfl⟩
      conv => arg 11; simp [Act.put]
      iterate 1 (refine walkJ_one rfl (by kernel_rfl) ?_; go_big_quiet_step (fail); refine wpQuiet_nil ?_)
      refine walkJ_turn rfl rfl ⟨_, rfl⟩ (fun s W1 hs h7 _ => ?_) ?_
      · refine inv_val (W' := W1) (v := .pointer (some ⟨q', 0, none⟩)) (by simp [execOp, go_sem]) ⟨rfl, (HI2.out _ _).2 ?_⟩
        have h := (HI2.out _ _).1 hs
        exact ⟨h.1, fun v hv => h.2 v hv⟩
      rintro v rfl
      conv => arg 11; simp [Act.put]
      iterate 2 (refine walkJ_one rfl (by kernel_rfl) ?_; go_big_quiet_step (fail); refine wpQuiet_nil ?_)
      refine walkJ_turn rfl rfl ⟨_, rfl⟩ (fun s W1 hs h7 hch => ?_) ?_
      · have h := (HI2.out _ _).1 hs
        obtain ⟨R1, c1, Lg, hv, hl, hG, hd⟩ := h.2 _ (hch 4 (by decide))
        injection hv with hv1 _ hv2
        subst hv1 hv2
        have hc := rsame_any R AL c cL Lg T' W1 hG (gs_of (HRn.out.below h.1).gl) (by rw [hl]; omega) (by rw [← HS.out.2.2.2.2.2.1]; omega)
        rw [hl, ← HS.out.2.2.2.2.2.1, decide_eq_true (gm_of (hd.trans HS.out.2.2.2.2.1.symm))] at hc
        refine inv_call (by simp [execOp, go_sem]) (hc.mono ?_)
        rintro e w1 ⟨rfl, h9⟩
        exact ⟨_, rfl, rfl, (HI2.out _ _).2 ⟨on1 h.1 h9, fun v hv => by
          obtain ⟨R2, c2, Lg2, a1, a2, a3, a4⟩ := h.2 v hv
          exact ⟨R2, c2, Lg2, a1, a2, a3.below h9, a4⟩⟩⟩
      rintro v rfl
      conv => arg 11; simp [Act.put]
      iterate 2 (refine walkJ_one rfl (by kernel_rfl) ?_; go_big_quiet_step (fail); refine wpQuiet_nil ?_)
      refine walkJ_end ?_
      intro W6 hW6
      have hb6 := ((HI2.out _ _).1 hW6).1
      have hs6 := HS.out.1.go hb6
      have C6 := bsays (show Rn W6 q' (.slice AL n cL) VB T' from hs6.at_ 1 rfl).bx
      simp only [cellsSay, Nat.reduceAdd, and_true] at C6
      have N6 := Lib.hid (show Nt W6 q VN T from hs6.at_ 0 rfl)
      have R6 := Lib.hid (show Rn W6 q' (.slice AL n cL) VB T' from hs6.at_ 1 rfl)
      have D6 : Hid (Du w.heap.size w W6 q q' [] M M) := Lib.hid ⟨_, _, _, _, _, hs6, HS.out.2.1, HS.out.2.2.1, HS.out.2.2.2.1, HS.out.2.2.2.2.1⟩
      clear hb6 hs6 hW6 HI2 e0 hI0 CR this
      have hnw : n ≤ 1000 := hn6
      go_wp2_with fail
      go_loopw [7] (fun s w7 => ∃ i : Int, -1 ≤ i ∧ i ≤ (n : Int) + 1 ∧ s = .int .i64 i ∧ w7 = W6) (fun s _ => (n + 2 : Nat) - (intOf s + 1).toNat)
      case atStart => exact ⟨-1, by omega, by omega, rfl, rfl⟩
      case round =>
        obtain ⟨i, hi1, hi2, rfl, hw⟩ := hrel
        rw [hw]
        clear hw
        by_cases hin : i ≤ (n : Int)
        · have kle : decide (i ≤ (n : Int)) = true := decide_eq_true hin
          have HA := Lib.hid (nbent_any q VN T i W6 N6.out)
          have HB := Lib.hid (rbent_any q' (.slice AL n cL) VB T' i W6 R6.out)
          rw [HS.out.2.2.2.2.2.2, HS.out.2.2.2.1] at HA
          rw [← HS.out.2.2.2.2.2.1, HS.out.2.2.2.2.1] at HB
          obtain ⟨b, hb⟩ : ∃ b, b = (isD n i && ((M[i.toNat]?.map Dg.bent).getD false)) := ⟨_, rfl⟩
          rw [← hb] at HA HB
          have kbb : (b != b) = false := by cases b <;> rfl
          clear hb
          go_wp2_with fail
          refine HA.out.mono ?_
          rintro e w8 ⟨rfl, hw⟩
          rw [hw]
          clear hw
          go_wp2_with fail
          refine HB.out.mono ?_
          rintro e w8 ⟨rfl, hw⟩
          rw [hw]
          clear hw
          go_wp2_with fail
          go_roundw
          case measure => simp [intOf]; omega
          case rel => exact ⟨i + 1, by omega, by omega, by go_num, by trivial⟩
        · have kle : decide (i ≤ (n : Int)) = false := decide_eq_false hin
          go_wp2_with fail
          go_roundw
          case measure => simp [intOf]; omega
          case rel => exact ⟨k + 1, by omega, by go_num, Lib.hid ⟨M, HL.out, D6.out⟩⟩
    · obtain rfl : k = m := by omega
      obtain ⟨L, hL, h5⟩ := HR.out
      have HE := Lib.hid h5.b
      have hkk : ¬ ((k : Int) < (k : Int)) := by omega
      clear h5 HR
      go_wp2_with fail
      go_ret
      exact ⟨rfl, HE.out⟩

theorem netDoes_walk (V : Option Addr) (cv : Nat) (l : List OpN) (w : World) (hV : Rw w encOp 6 V l) (hl : l.length ≤ maxLen) (ho : ∀ o ∈ l, o.ok w) :
    Calls Try.prog 4 #[.slice V l.length cv] w fun e w' => e = .returned (.bool true) ∧ Below w.heap.size w w' := by
  cases hh : heavyL l with
  | true => exact netDoes_known V cv l w hV hl ho hh
  | false => exact netDoes_main V cv l w hV hl ho hh

end Go.Proofs.Ytanenfbfcbkdhaa

/- Layer 19: the program's network alone, with other things. -/
set_option linter.unusedSimpArgs false
set_option linter.unusedVariables false
namespace Go.Proofs.Ytanenfbfcbkdhaa
open Go.RowKit
set_option maxRecDepth 100000

/-- grams, each with bytes of its own -/
abbrev thS (V : Value) (S : List Ng) : Kt := thG (γ := Ng) (·.b) vaG 33 encG 2 V S
def Su (B : Nat) (w0 w : World) (q : Nat) (ts : List Kt) (L : List Dg) : Prop := ∃ V T, Sep B w0 w (thN q V T :: ts) ∧ okT T ∧ T.map Ng.d = L
section
variable {B : Nat} {w0 w w' w2 : World} {q q' : Nat} {ts us : List Kt} {t : Kt} {L L' L1 : List Dg}
theorem Su.go (h : Su B w0 w q ts L) (b : Below w.heap.size w w') : Su B w0 w' q ts L := by
  obtain ⟨V, T, hs, h1⟩ := h
  exact ⟨V, T, hs.go b, h1⟩
theorem Su.drew (h : Su B w0 w q ts L) : Su B w0 w.drew q ts L := h.go (Below.refl w.heap.size w).drew
theorem Su.get (h : Su B w0 w q ts L) (i : Nat) (e : ts[i]? = some t) : t.P w := by
  obtain ⟨V, T, h0, h1⟩ := h
  exact h0.at_ (i + 1) (by simpa using e)
theorem Su.b (h : Su B w0 w q ts L) : Below B w0 w := by
  obtain ⟨V, T, h0, h1⟩ := h
  exact h0.b
theorem Su.sz (h : Su B w0 w q ts L) : B ≤ w.heap.size := by
  obtain ⟨V, T, h0, h1⟩ := h
  exact h0.sz
theorem Su.bs (h : Su B w0 w q ts L) (hB : w0.heap.size ≤ B) {A : Option Addr} {l : List UInt8} (b : Bs w0 A l) : Bs w A l := by
  obtain ⟨V, T, h0, h1⟩ := h
  exact h0.bs hB b
theorem Su.old (h : Su B w0 w q ts L) (hB : w0.heap.size ≤ B) {a : Addr} {v : Value} (c : w0.cell? a = some v) : w.cell? a = some v := by
  obtain ⟨V, T, h0, h1⟩ := h
  exact h0.old hB c
theorem Su.cons (h : Su B w0 w q ts L) (b : Below w.heap.size w w') (hP : t.P w') (hF : ∀ k, t.F k → w.heap.size ≤ k) : Su B w0 w' q (t :: ts) L := by
  obtain ⟨V, T, h0, h1⟩ := h
  exact ⟨V, T, (h0.cons b hP hF).perm (List.Perm.swap _ _ _), h1⟩
theorem Su.sub (h : Su B w0 w q ts L) (hs : us.Sublist ts) : Su B w0 w q us L := by
  obtain ⟨V, T, h0, h1⟩ := h
  exact ⟨V, T, h0.sub (hs.cons_cons _), h1⟩
theorem Su.tail (h : Su B w0 w q (t :: ts) L) : Su B w0 w q ts L := h.sub (List.sublist_cons_self t ts)
theorem Su.call (h : Su B w0 w q ts L) (i : Nat) {t' : Kt} (e : ts[i]? = some t) (hT : Tou t.F w w') (hP : t'.P w') (hN : ∀ k, t'.F k → t.F k ∨ w.heap.size ≤ k) : Su B w0 w' q (ts.set i t') L := by
  obtain ⟨V, T, h0, h1⟩ := h
  exact ⟨V, T, h0.call (i + 1) (by simpa using e) hT hP hN, h1⟩
/-- with a document's network, new -/
theorem Su.duo (h : Su B w0 w q ts L) (b2 : Below w.heap.size w w2) (hr : Rn w2 w.heap.size (.slice none 0 0) (.slice none 0 0) []) : Du B w0 w2 q w.heap.size ts L [] := by
  obtain ⟨V, T, h0, h1, h2⟩ := h
  have s2 := h0.cons (t := thQ w.heap.size (.slice none 0 0) (.slice none 0 0) []) b2 hr (fun k hk => by
    rcases hk with rfl | (hk | ⟨t, ht, _⟩) | hk
    · exact Nat.le_refl _
    · simp [Value.ownBlock] at hk
    · simp at ht
    · simp [Value.ownBlock] at hk)
  exact ⟨_, _, _, _, _, s2.perm (List.Perm.swap _ _ _), h1, fun t h => by simp at h, h2, rfl⟩
theorem Du.solo (h : Du B w0 w q q' ts L L') : Su B w0 w q ts L := by
  obtain ⟨V, T, VL, VB, T', hs, o1, o2, e1, e2⟩ := h
  exact ⟨V, T, hs.sub ((List.sublist_cons_self _ _).cons_cons _), o1, e1⟩
theorem Su.start {w1 : World} (b : Below B w0 w1) (hB : B ≤ w1.heap.size) (hn : Nt w1 q (.slice none 0 0) []) (hq : B ≤ q) : Su B w0 w1 q [] [] :=
  ⟨_, _, ⟨b, hB, fun t ht => by
    rw [List.mem_singleton] at ht
    subst ht
    refine ⟨hn, fun k hk => ?_⟩
    rcases hk with rfl | hk | ⟨t, ht, _⟩
    · exact hq
    · simp [Value.ownBlock] at hk
    · simp at ht, List.pairwise_singleton _ _⟩, fun t h => by simp at h, rfl⟩
theorem su_nsend (h : Su B w0 w q ts L) (sd : Nat) (b : List UInt8) (A : Option Addr) (c : Nat) (hA : Bs w A b) (hL : L.length ≤ 1000000) :
    Calls Try.prog 10 #[.pointer (some ⟨q, 0, none⟩), .int .u8 (sd : Nat), .slice A b.length c] w fun e w' => e = .returned (.bool (maySend sd b && decide (L.length < 4096))) ∧ Su B w0 w' q ts (sendD L sd b) := by
  obtain ⟨V, T, hs, o1, rfl⟩ := h
  rw [List.length_map] at hL ⊢
  refine (nsend_any q V T sd b A c w (hs.at_ 0 rfl) o1 hA hL).mono ?_
  rintro e w1 ⟨rfl, V1, T1, k⟩
  exact ⟨rfl, V1, T1, hs.call (t' := thN q V1 T1) 0 rfl k.out.1.tou k.out.1.nt k.out.1.new, k.out.2.1, k.out.2.2⟩
theorem su_ngrams (h : Su B w0 w q ts L) (hL : L.length ≤ 1000000) :
    Calls Try.prog 16 #[.pointer (some ⟨q, 0, none⟩)] w fun e w' => ∃ R c T, e = .returned (.slice R L.length c) ∧ T.map Ng.d = L ∧ Below w.heap.size w w' ∧ Su B w0 w' q (thS (.slice R L.length c) T :: ts) L := by
  have h0 := h
  obtain ⟨V, T, hs, o1, rfl⟩ := h
  rw [List.length_map] at hL ⊢
  refine (ngrams_any q V T w (hs.at_ 0 rfl) o1 hL).mono ?_
  rintro e w1 ⟨R, c, Lg, rfl, k⟩
  obtain ⟨g1, g2, g3, g4⟩ := k.out
  exact ⟨R, c, Lg, rfl, g2, g3, h0.cons (t := thS (.slice R T.length c) Lg) g3 g1 g4⟩
theorem su_nbent (h : Su B w0 w q ts L) (i : Int) :
    Calls Try.prog 17 #[.pointer (some ⟨q, 0, none⟩), .int .i64 i] w fun e w' => e = .returned (.bool (isD L.length i && ((L[i.toNat]?.map Dg.bent).getD false))) ∧ w' = w := by
  obtain ⟨V, T, hs, o1, rfl⟩ := h
  rw [List.length_map]
  exact nbent_any q V T i w (hs.at_ 0 rfl)
end

/-- what is not bent was sent -/
def known7 (L : List Dg) (S : List Ng) : Prop := ∀ d ∈ L, d.bent = false → (d.sd, d.b) ∈ S.map Ng.gm
theorem known7.send {L : List Dg} {S : List Ng} (h : known7 L S) {sd : Nat} {b : List UInt8} {x : Ng} (hx : x.gm = (sd, b)) : known7 (sendD L sd b) (S ++ [x]) := fun d hd hb => by
  rw [List.map_append, List.mem_append]
  unfold sendD addD at hd
  have key : d ∈ L ∨ d = ⟨sd, b, false⟩ := by
    split at hd
    · split at hd
      · simpa using hd
      · exact .inl hd
    · exact .inl hd
  rcases key with h1 | rfl
  · exact .inl (h d h1 hb)
  · exact .inr (by simp [hx])
theorem known7.sub {L L' : List Dg} {S : List Ng} (h : known7 L S) (hs : ∀ d ∈ L', d ∈ L ∨ d.bent = true) : known7 L' S := fun d hd hb => by
  rcases hs d hd with h1 | h1
  · exact h d h1 hb
  · rw [hb] at h1; cases h1
theorem sendD_not {L : List Dg} {sd : Nat} {b : List UInt8} (h : (maySend sd b && decide (L.length < 4096)) = false) : sendD L sd b = L := by
  unfold sendD addD
  rw [Bool.and_eq_false_iff] at h
  split
  · rename_i h1
    rw [h1] at h
    rcases h with h | h
    · cases h
    · rw [if_neg (of_decide_eq_false h)]
  · rfl
theorem known7.step {L : List Dg} {S : List Ng} (h : known7 L S) (o : OpN) (hk : 3 < o.kd % 8) : known7 (stepD L o) S := by
  refine h.sub fun d hd => ?_
  rcases (show o.kd % 8 = 4 ∨ o.kd % 8 = 5 ∨ (o.kd % 8 = 6 ∨ o.kd % 8 = 7) by omega) with h1 | h1 | h1
  · rw [stepD_of h1] at hd
    replace hd : d ∈ dropD L o.i := hd
    unfold dropD at hd
    split at hd
    · exact .inl (List.mem_of_mem_eraseIdx hd)
    · exact .inl hd
  · rw [stepD_of h1] at hd
    replace hd : d ∈ twiceD L o.i := hd
    unfold twiceD at hd
    split at hd
    · split at hd
      · rename_i x hx
        unfold addD at hd
        split at hd
        · rw [List.mem_append, List.mem_singleton] at hd
          rcases hd with h2 | rfl
          · exact .inl h2
          · exact .inl (List.mem_of_getElem? hx)
        · exact .inl hd
      · exact .inl hd
    · exact .inl hd
  · have h2 : stepD L o = bendD L o.i o.at_ o.x := by
      rcases h1 with h1 | h1
      · rw [stepD_of h1]; rfl
      · rw [stepD_of h1]; rfl
    rw [h2] at hd
    unfold bendD at hd
    split at hd
    · split at hd
      · rcases List.mem_or_eq_of_mem_set hd with h3 | rfl
        · exact .inl h3
        · exact .inr rfl
      · exact .inl hd
    · exact .inl hd

end Go.Proofs.Ytanenfbfcbkdhaa

/- Layer 19: what NetTakes wants of the program's network alone. -/
set_option linter.unusedSimpArgs false
set_option linter.unusedVariables false
namespace Go.Proofs.Ytanenfbfcbkdhaa
open Go.RowKit
set_option maxRecDepth 100000
section
variable {B : Nat} {w0 w w' w2 : World} {q q' : Nat} {ts us : List Kt} {t : Kt} {L L' L1 : List Dg}
theorem su_ntake_yes (h : Su B w0 w q ts L) (j : Nat) (d : Dg) (hd : L[j]? = some d) (hL : L.length ≤ 1000000) :
    Calls Try.prog 12 #[.pointer (some ⟨q, 0, none⟩), .int .i64 (j : Nat)] w fun e w' => ∃ A c, e = .returned (.tuple #[.agg #[.int .u8 (d.sd : Nat), .slice A d.b.length c], .bool true]) ∧ Su B w0 w' q (thO (.slice A d.b.length c) d.b :: ts) (L.eraseIdx j) := by
  obtain ⟨V, T, hs, o1, rfl⟩ := h
  rw [List.length_map] at hL
  rw [List.getElem?_map, Option.map_eq_some_iff] at hd
  obtain ⟨x, hx, rfl⟩ := hd
  refine (ntake_yes q V T j x w (hs.at_ 0 rfl) hx o1 hL).mono ?_
  rintro e w1 ⟨rfl, V1, k⟩
  obtain ⟨k1, k2, k3, k4⟩ := k.out
  exact ⟨x.A, x.c, rfl, V1, _, (hs.split (t' := thN q V1 (T.eraseIdx j)) (t2 := thO (vaG x) x.b) 0 rfl k1.tou k1.nt k3 k1.new (fun k hk => .inl (.inr (foot_of hx k hk))) (fun k h1 h2 => k4 k h2 h1)).perm (List.Perm.swap _ _ _), k2, map_erase _ _ _⟩
theorem su_ntake_no (h : Su B w0 w q ts L) (i : Int) (hi : isD L.length i = false) :
    Calls Try.prog 12 #[.pointer (some ⟨q, 0, none⟩), .int .i64 i] w fun e w' => e = .returned (.tuple #[.agg #[.int .u8 0, .slice none 0 0], .bool false]) ∧ Su B w0 w' q ts L := by
  have h0 := h
  obtain ⟨V, T, hs, o1, rfl⟩ := h
  rw [List.length_map] at hi
  refine (ntake_no q V T i w (hs.at_ 0 rfl) (of_decide_eq_false hi)).mono ?_
  rintro e w1 ⟨rfl, k⟩
  exact ⟨rfl, h0.go k⟩
/-- a byte of one of the grams is stored into -/
theorem su_flip {V : Value} {T : List Ng} (h : Su B w0 w q (thS V T :: ts) L) {k j gA n c : Nat} {x : Ng} (hx : T[k]? = some x) (hA : x.A = some ⟨gA, 0, none⟩) (v : UInt8) :
    Su B w0 (w.setCell ⟨gA, j, none⟩ (bv v)) q (thS V (T.set k ⟨x.sd, x.b.set j v, x.A, x.c, x.bent⟩) :: ts) L := by
  have hG : Gl (γ := Ng) (·.b) vaG w 33 encG 2 V T := h.get (t := thS V T) 0 rfl
  have hm := List.mem_of_getElem? hx
  have hO := hG.el x hm
  have hob : (vaG x).ownBlock = some gA := by simp [vaG, hA, Value.ownBlock]
  obtain ⟨y, hy⟩ : ∃ y : Ng, y = ⟨x.sd, x.b.set j v, x.A, x.c, x.bent⟩ := ⟨_, rfl⟩
  have hva : vaG y = vaG x := by rw [hy]; simp only [vaG, List.length_set]
  have henc : encG y = encG x := by unfold encG; rw [hva, hy]
  have hb : OwnB (w.setCell ⟨gA, j, none⟩ (bv v)) 0 (vaG x) y.b := by
    rw [hy]
    simp only [vaG, hA] at hO ⊢
    exact hO.set j v
  have G2 := hG.bytes (y := y) hx (Tou.set gA j (bv v) hob) hb henc hva
  rw [← hy]
  refine h.call (t' := thS V (T.set k y)) 0 rfl (Tou.set gA j _ (.inr ⟨x, hm, hob⟩)) G2 (fun k2 hk => .inl ?_)
  rcases hk with hk | ⟨t, ht, hk⟩
  · exact .inl hk
  · rcases List.mem_or_eq_of_mem_set ht with h3 | rfl
    · exact .inr ⟨t, h3, hk⟩
    · rw [hva] at hk; exact .inr ⟨x, hm, hk⟩
theorem Su.box (h : Su B w0 w q ts L) (cs : Array Value) (t : TypeId) : Su B w0 (w.alloc (.cells cs t)) q (thB w.heap.size t cs :: ts) L :=
  h.cons (below_alloc w _) (Blk.new w t cs) (fun k e => by subst e; exact Nat.le_refl _)
theorem Su.blk (h : Su B w0 w q ts L) (i : Nat) {g : Nat} {t : TypeId} {cs : Array Value} (e : ts[i]? = some (thB g t cs) := by rfl) : Blk w g t cs := h.get i e
theorem Su.own (h : Su B w0 w q ts L) (i : Nat) {v : Value} {l : List UInt8} (e : ts[i]? = some (thO v l) := by rfl) : OwnB w 0 v l := h.get i e
theorem Su.okL (h : Su B w0 w q ts L) : ∀ d ∈ L, 0 < d.b.length ∧ d.b.length ≤ 4096 := fun d hd => by
  obtain ⟨V, T, h0, h1, rfl⟩ := h
  obtain ⟨x, hx, rfl⟩ := List.mem_map.1 hd
  exact h1 x hx
theorem Su.gl (h : Su B w0 w q ts L) (i : Nat) {V : Value} {S : List Ng} (e : ts[i]? = some (thS V S) := by rfl) : Gl (γ := Ng) (·.b) vaG w 33 encG 2 V S := h.get i e
end
/-- grams that another row has the bytes of -/
abbrev thW (V : Value) (W : List Ng) : Kt := thR 33 encG 2 V W
/-- 'append(want, x)', x's bytes another one's -/
theorem su_want {B : Nat} {w0 w w8 w5 : World} {q : Nat} {ts : List Kt} {L : List Dg} {V : Value} {W : List Ng} {x : Ng} {g c : Nat} (h : Su B w0 w q (thW V W :: ts) L) (b : Below w.heap.size w w8) (hr : OwnR w5 0 33 encG 2 (.slice (some ⟨g, 0, none⟩) (W.length + 1) c) (W ++ [x])) (hg : w8.grownBy w5 V.ownBlock) (hor : V.ownBlock = some g ∨ g = w8.heap.size) :
    Su B w0 w5 q (thW (.slice (some ⟨g, 0, none⟩) (W.length + 1) c) (W ++ [x]) :: ts) L := by
  refine h.call (t' := thW (.slice (some ⟨g, 0, none⟩) (W.length + 1) c) (W ++ [x])) 0 rfl ((Tou.of_below b : Tou (fun k => V.ownBlock = some k) _ _).trans (Tou.of_grown (F := fun k => V.ownBlock = some k) hg (fun k e => e)) (fun j _ h => h)) hr (fun k hk => ?_)
  have e2 : g = k := by
    have hk : (Value.slice (some ⟨g, 0, none⟩) (W.length + 1) c).ownBlock = some k := hk
    simpa [Value.ownBlock] using hk
  subst e2
  rcases hor with h9 | h9
  · exact .inl h9
  · exact .inr (by rw [h9]; exact b.size)

end Go.Proofs.Ytanenfbfcbkdhaa

/- Layer 19: walk of NetTakes. -/
set_option linter.unusedSimpArgs false
set_option linter.unusedVariables false
namespace Go.Proofs.Ytanenfbfcbkdhaa
open Go.RowKit
set_option maxRecDepth 100000

theorem netTakes_known (V : Option Addr) (cv : Nat) (l : List OpN) (i : Int) (w : World) (hV : Rw w encOp 6 V l) (hl : l.length ≤ maxLen) (ho : ∀ o ∈ l, o.ok w) (hh : heavyL l = true) :
    Calls Try.prog 6 #[.slice V l.length cv, .int .i64 i] w fun e w' => e = .returned (.bool true) ∧ Below w.heap.size w w' := by
  have HH := Lib.hid (nheavy_any V cv l w hV hl (fun o h => (ho o h).2.2.2.1))
  have HK := Lib.hid (nknown_any w)
  rw [hh] at HH
  clear hV hl ho hh
  go_enter Try.func6, Try.ntmps6
  go_wp2_with fail
  refine HH.out.mono ?_
  rintro e w1 ⟨rfl, hw⟩
  rw [hw]
  clear hw
  go_wp2_with fail
  refine HK.out.mono ?_
  rintro e w1 ⟨rfl, k⟩
  have Hk := Lib.hid k
  clear k
  go_wp2_with fail
  go_ret
  exact ⟨rfl, Hk.out⟩

/-- what Take left: which one is gone, what it handed out -/
def Tk19 (B : Nat) (w0 w : World) (q : Nat) (nL : Nat) (i : Int) (R1 : Option Addr) (c1 : Nat) (T1 : List Ng) (ga : Nat) (isb : Bool) (gs : Nat) (Ag : Option Addr) (ng cg jj : Nat) : Prop :=
  ∃ gb : List UInt8, ng = gb.length ∧ Su B w0 w q [thB ga 33 #[.int .u8 (gs : Nat), .slice Ag ng cg], thO (.slice Ag ng cg) gb, thS (.slice R1 nL c1) T1] ((T1.map Ng.d).eraseIdx jj) ∧ isb = decide (jj < nL) ∧ (∀ k : Nat, k < nL → ((k : Int) = i ↔ k = jj)) ∧ ∀ x, T1[jj]? = some x → gs = x.sd ∧ gb = x.b

set_option maxHeartbeats 16000000 in
theorem netTakes_main (V : Option Addr) (cv : Nat) (l : List OpN) (i : Int) (w : World) (hV : Rw w encOp 6 V l) (hl : l.length ≤ maxLen) (ho : ∀ o ∈ l, o.ok w) (hh : heavyL l = false) :
    Calls Try.prog 6 #[.slice V l.length cv, .int .i64 i] w fun e w' => e = .returned (.bool true) ∧ Below w.heap.size w w' := by
  have hmx : Try.prog.follows .mixedOrders = true := by kernel_rfl
  have HH := Lib.hid (nheavy_any V cv l w hV hl (fun o h => (ho o h).2.2.2.1))
  rw [hh] at HH
  have HK := Lib.hid (nknown_any w)
  obtain ⟨m, hm⟩ : ∃ m, m = l.length := ⟨_, rfl⟩
  have hm80 : m ≤ 80 := by rw [hm]; exact (heavyL_no hh).1
  rw [← hm] at HH ⊢
  have HI := Lib.hid (And.intro hV (And.intro ho hm))
  clear hl hV ho hm hh
  go_enter Try.func6, Try.ntmps6
  go_wp2_with fail
  refine HH.out.mono ?_
  rintro e w1 ⟨rfl, hw⟩
  rw [hw]
  clear hw HH
  go_wp2_with fail
  refine HK.out.mono ?_
  rintro e w1 ⟨rfl, b1⟩
  clear HK
  have HB1 := Lib.hid b1
  clear b1
  go_wp2_with fail
  refine (nnew_any w1).mono ?_
  rintro e w2 ⟨rfl, n2, b2⟩
  obtain ⟨q, hq⟩ : ∃ q, q = w1.heap.size := ⟨_, rfl⟩
  rw [← hq] at n2 ⊢
  have S2 := Lib.hid (Su.start (on1 HB1.out b2) (on1 HB1.out b2).size n2 (by rw [hq]; exact HB1.out.size))
  clear n2 b2 hq
  go_wp2_with fail
  go_loopw [6] (fun s wr => ∃ k : Nat, k ≤ m ∧ s = .int .i64 k ∧ Hid (∃ L, L.length ≤ k ∧ Su w.heap.size w wr q [] L)) (fun s _ => m - (intOf s).toNat)
  case atStart => exact ⟨0, Nat.zero_le _, rfl, Lib.hid ⟨[], Nat.le_refl _, S2.out⟩⟩
  case round =>
    obtain ⟨k, hk, rfl, HR⟩ := hrel
    clear S2
    by_cases hlt : k < m
    · obtain ⟨o, ho⟩ : ∃ o, l[k]? = some o := ⟨_, List.getElem?_eq_getElem (by rw [← HI.out.2.2]; exact hlt)⟩
      obtain ⟨L, hL, h5⟩ := HR.out
      obtain ⟨p, f, hVe, hc⟩ := HI.out.1 k o ho
      subst hVe
      have hok := HI.out.2.1 o (List.mem_of_getElem? ho)
      have c1 := h5.old (Nat.le_refl _) (hc 1 _ rfl)
      have c2 := h5.old (Nat.le_refl _) (hc 2 _ rfl)
      have hd5 := h5.drew
      obtain ⟨t2, ht2⟩ : ∃ t2 : Nat, t2 = o.sd % 2 := ⟨_, rfl⟩
      have f0 : (o.sd : Int) % 2 = (t2 : Int) := by rw [ht2]; omega
      have HF0 := Lib.hid f0
      have HC := Lib.hid (su_nsend hd5 t2 o.b o.A o.c (hd5.bs (Nat.le_refl _) hok.2.2.1) (by omega))
      have hkl : (k : Int) < (m : Int) := by omega
      have hk0 : (0 : Int) ≤ (k : Int) := by omega
      have HL := Lib.hid (show (sendD L t2 o.b).length ≤ k + 1 by have := sendD_len L t2 o.b; omega)
      obtain ⟨M, hM⟩ : ∃ M, M = sendD L t2 o.b := ⟨_, rfl⟩
      rw [← hM] at HC HL
      clear hc h5 hd5 hok ho HR hL ht2 hM
      go_upto_region 9 with fail
      go_still_tail 12, (by kernel_rfl)
      change wpList _ _ _ _ _ wr.drew
      obtain ⟨wd, hwd⟩ : ∃ wd, wd = wr.drew := ⟨_, rfl⟩
      rw [← hwd] at HC ⊢
      clear hwd c1 c2 f0
      go_wp2_with fail
      rw [HF0.out]
      refine HC.out.mono ?_
      rintro e w6 ⟨rfl, h6⟩
      have H6 := Lib.hid h6
      clear h6 HC
      go_wp2_with fail
      go_roundw
      case measure => simp [intOf]; omega
      case rel => exact ⟨k + 1, by omega, by go_num, Lib.hid ⟨M, HL.out, H6.out⟩⟩
    · obtain rfl : k = m := by omega
      have hkk : ¬ ((k : Int) < (k : Int)) := by omega
      obtain ⟨L, hL, h5⟩ := HR.out
      obtain ⟨nL, hnL⟩ : ∃ nL, nL = L.length := ⟨_, rfl⟩
      have hnL6 : nL ≤ 1000 := by omega
      have hc := su_ngrams h5 (by omega)
      rw [← hnL] at hc
      have HC := Lib.hid hc
      have HLn := Lib.hid hnL
      clear hc hL h5 HR hnL
      rename World => w5
      go_wp2_with fail
      refine HC.out.mono ?_
      rintro e w6 ⟨R1, c1, T1, rfl, m6, -, s6⟩
      have H6 := Lib.hid (And.intro m6 s6)
      have hc := su_ngrams s6 (by rw [← HLn.out]; omega)
      rw [← HLn.out] at hc
      replace HC := Lib.hid hc
      clear m6 s6 hc
      go_wp2_with fail
      refine HC.out.mono ?_
      rintro e w7 ⟨R2, c2, T2, rfl, m7, -, s7⟩
      have H7 := Lib.hid (And.intro m7 s7)
      clear m7 s7 HC
      go_wp2_with fail
      go_loopw [9] (fun s wr => ∃ k : Nat, k ≤ nL ∧ s = .int .i64 k ∧ Hid (∃ T : List Ng, T.length = nL ∧ (∀ x ∈ T, x.b.length ≤ 4096) ∧ Su w.heap.size w wr q [thS (.slice R2 nL c2) T, thS (.slice R1 nL c1) T1] L)) (fun s _ => nL - (intOf s).toNat)
      case atStart =>
        refine ⟨0, Nat.zero_le _, rfl, Lib.hid ⟨T2, ?_, ?_, H7.out.2⟩⟩
        · rw [HLn.out, ← H7.out.1, List.length_map]
        · intro x hx
          exact (H7.out.2.okL x.d (by rw [← H7.out.1]; exact List.mem_map.2 ⟨x, hx, rfl⟩)).2
      case round =>
        obtain ⟨k2, hk2, rfl, HR⟩ := hrel
        clear H7
        by_cases hlt2 : k2 < nL
        · have hkl2 : (k2 : Int) < (nL : Int) := by omega
          have hk02 : (0 : Int) ≤ (k2 : Int) := by omega
          rename World => w8
          go_wp2_with fail
          go_loopw [10] (fun s wr => ∃ j : Nat, j ≤ 4096 ∧ s = .int .i64 j ∧ Hid (∃ T : List Ng, T.length = nL ∧ (∀ x ∈ T, x.b.length ≤ 4096) ∧ Su w.heap.size w wr q [thS (.slice R2 nL c2) T, thS (.slice R1 nL c1) T1] L)) (fun s _ => 4096 - (intOf s).toNat)
          case atStart => exact ⟨0, Nat.zero_le _, rfl, HR⟩
          case round =>
            obtain ⟨j, hj, rfl, HR2⟩ := hrel
            clear HR
            obtain ⟨T, hT, hb4, hS⟩ := HR2.out
            obtain ⟨x, hx⟩ : ∃ x, T[k2]? = some x := ⟨_, List.getElem?_eq_getElem (by rw [hT]; exact hlt2)⟩
            have hG := hS.gl 0
            obtain ⟨A0, c0, hv, -, hr⟩ := OwnR.row Try.eltG hG.row
            injection hv with e1 e2 e3
            subst e1
            clear e2 e3
            obtain ⟨p, f, rfl, hc⟩ := hr k2 x hx
            have d1 := hc 1 _ rfl
            simp only [vaG] at d1
            obtain ⟨nb, hnb⟩ : ∃ nb, nb = x.b.length := ⟨_, rfl⟩
            have hb4x := hb4 x (List.mem_of_getElem? hx)
            rw [← hnb] at d1 hb4x
            by_cases hlt3 : j < nb
            · have hO := hG.el x (List.mem_of_getElem? hx)
              obtain ⟨gA, hgA⟩ : ∃ gA, x.A = some ⟨gA, 0, none⟩ := by
                obtain ⟨g', cp, h9, -⟩ := OwnB.form hO (by omega)
                simp only [vaG] at h9
                injection h9 with h9 _ _
                exact ⟨g', h9⟩
              simp only [vaG] at hO
              rw [hgA] at d1 hO
              obtain ⟨y, hy⟩ : ∃ y, y = x.b[j]'(by omega) := ⟨_, rfl⟩
              have cb : wr.cell? ⟨gA, j, none⟩ = some (.int .u8 (y.toNat : Nat)) := by rw [hO.cell j (by omega), hy]
              have fb := hO.frozen j
              obtain ⟨yp, hyp⟩ : ∃ p, p = y.toNat := ⟨_, rfl⟩
              rw [← hyp] at cb
              obtain ⟨r, hr2⟩ : ∃ r, r = (y ^^^ (255 : UInt8)).toNat := ⟨_, rfl⟩
              have fx : bits .xor .u8 (yp : Int) 255 = (r : Int) := by
                have h9 := u8_xor_nat yp 255 (by rw [hyp]; exact UInt8.toNat_lt _) (by omega)
                rw [show ((255 : Nat) : Int) = 255 from rfl] at h9
                rw [h9, hr2, hyp, UInt8.toNat_xor]; rfl
              have hjl : (j : Int) < (nb : Int) := by omega
              have hj0 : (0 : Int) ≤ (j : Int) := by omega
              have hF := fun v : UInt8 => su_flip (j := j) (n := nb) (c := x.c) hS.drew hx hgA v
              have HD2 := Lib.hid (And.intro hF (And.intro hr2 (And.intro hT (And.intro hb4 hx))))
              clear hO hy hyp hr2 hF hT hb4 hx hS hG hc hr hnb hgA HR2
              have kA := fun W => keepA W
              go_upto_region 18 with fail
              go_region
              all_goals
                go_wp2_with fail
                go_roundw
                case measure => simp [intOf]; omega
                case rel =>
                  obtain ⟨hF, hr2, hT, hb4, hx⟩ := HD2.out
                  have hf := hF (y ^^^ 255)
                  rw [show bv (y ^^^ (255 : UInt8)) = (Value.int .u8 (r : Int)) by rw [hr2]] at hf
                  refine ⟨j + 1, by omega, by go_num, Lib.hid ⟨T.set k2 ⟨x.sd, x.b.set j (y ^^^ 255), x.A, x.c, x.bent⟩, by rw [List.length_set]; exact hT, fun z hz => ?_, hf⟩⟩
                  rcases List.mem_or_eq_of_mem_set hz with h3 | rfl
                  · exact hb4 z h3
                  · show (x.b.set j _).length ≤ _
                    rw [List.length_set]
                    exact hb4 x (List.mem_of_getElem? hx)
            · have hjj : ¬ ((j : Int) < (nb : Int)) := by omega
              have HN := Lib.hid (And.intro hT (And.intro hb4 hS))
              clear hT hb4 hS hG hc hr hnb hx HR2
              go_wp2_with fail
              go_roundw
              case measure => simp [intOf]; omega
              case rel => exact ⟨k2 + 1, by omega, by go_num, Lib.hid ⟨T, HN.out.1, HN.out.2.1, HN.out.2.2⟩⟩
        · obtain rfl : k2 = nL := by omega
          have hkk2 : ¬ ((k2 : Int) < (k2 : Int)) := by omega
          have HS := Lib.hid (show Su w.heap.size w wr q [thS (.slice R1 k2 c1) T1] L by
            obtain ⟨T, hT, hb4, hS⟩ := HR.out
            exact hS.tail)
          have HT := Lib.hid (show T1.map Ng.d = L ∧ T1.length = k2 from ⟨H6.out.1, by rw [HLn.out, ← H6.out.1, List.length_map]⟩)
          clear HR H6
          rename World => w8
          go_upto_region 19 with fail
          go_cut [11, 12] (fun s11 s12 wx => ∃ (ga : Nat) (isb : Bool) (gs : Nat) (Ag : Option Addr) (ng cg jj : Nat), s11 = .pointer (some ⟨ga, 0, none⟩) ∧ s12 = .bool isb ∧ Hid (Tk19 w.heap.size w wx q k2 i R1 c1 T1 ga isb gs Ag ng cg jj))
          case first =>
            cases hi : isD L.length i with
            | false =>
              have HC := Lib.hid (su_ntake_no HS.out i hi)
              have HZ := Lib.hid (of_decide_eq_false hi)
              clear hi
              go_wp2_with fail
              refine HC.out.mono ?_
              rintro e w9 ⟨rfl, h9⟩
              have H9 := Lib.hid h9
              clear h9 HC
              go_wp2_with fail
              go_meet
              have hsu := (H9.out.cons (t := thO (.slice none 0 0) []) (Below.refl _ _) (OwnB.nil _ _) (fun k e => by
                have e : (Value.slice none 0 0).ownBlock = some k := e
                simp [Value.ownBlock] at e)).box #[.int .u8 0, .slice none 0 0] 33
              have hl9 := HLn.out
              refine ⟨w9.heap.size, false, 0, none, 0, 0, k2, rfl, rfl, Lib.hid ⟨[], rfl, ?_, (decide_eq_false (by omega)).symm, fun k hk => ⟨fun e => absurd ⟨by omega, by omega⟩ HZ.out, fun e => by omega⟩, fun x hx => by
                have := (List.getElem?_eq_some_iff.1 hx).1
                have := HT.out.2
                omega⟩⟩
              rw [HT.out.1, List.eraseIdx_of_length_le (by omega)]
              exact hsu
            | true =>
              have hi2 := of_decide_eq_true hi
              obtain ⟨j, rfl⟩ := Int.eq_ofNat_of_zero_le hi2.1
              have hl9 := HLn.out
              obtain ⟨d, hd⟩ : ∃ d, L[j]? = some d := ⟨_, List.getElem?_eq_getElem (by omega)⟩
              have HC := Lib.hid (su_ntake_yes HS.out j d hd (by omega))
              obtain ⟨ng, hng⟩ : ∃ ng, ng = d.b.length := ⟨_, rfl⟩
              rw [← hng] at HC
              have HZ := Lib.hid (And.intro hi2.2 (And.intro hd (And.intro hng hl9)))
              clear hi hi2 hl9 hd hng
              go_wp2_with fail
              refine HC.out.mono ?_
              rintro e w9 ⟨Ag, cg, rfl, h9⟩
              have H9 := Lib.hid h9
              clear h9 HC
              go_wp2_with fail
              go_meet
              obtain ⟨hi2, hd, hng, hl9⟩ := HZ.out
              refine ⟨w9.heap.size, true, d.sd, Ag, ng, cg, j, rfl, rfl, Lib.hid ⟨d.b, hng, ?_, (decide_eq_true (by omega)).symm, fun k hk => by omega, fun x hx => ?_⟩⟩
              · rw [HT.out.1]
                exact H9.out.box _ _
              · rw [← HT.out.1, List.getElem?_map, hx] at hd
                injection hd with hd
                rw [← hd]
                exact ⟨rfl, rfl⟩
          case rest =>
            obtain ⟨ga, isb, gs, Ag, ng, cg, jj, rfl, rfl, HK⟩ := hcut
            clear HS
            go_wp2_with fail
            go_loopw [13, 14, 15] (fun s13 s14 s15 wr => ∃ (k : Nat) (Aw : Option Addr) (nw cw : Nat) (b : Bool), k ≤ k2 ∧ nw ≤ k ∧ s15 = .int .i64 k ∧ s14 = .bool b ∧ s13 = .slice Aw nw cw ∧ Hid (b = decide (jj < k) ∧ nw = ((T1.take k).eraseIdx jj).length ∧ ∃ gb : List UInt8, ng = gb.length ∧ (∀ x, T1[jj]? = some x → gs = x.sd ∧ gb = x.b) ∧ Su w.heap.size w wr q [thW (.slice Aw nw cw) ((T1.take k).eraseIdx jj), thB ga 33 #[.int .u8 (gs : Nat), .slice Ag ng cg], thO (.slice Ag ng cg) gb, thS (.slice R1 k2 c1) T1] ((T1.map Ng.d).eraseIdx jj))) (fun _ _ s _ => k2 - (intOf s).toNat)
            case atStart =>
              obtain ⟨gb, hgb, hsu, hib, hkj, hx⟩ := HK.out
              refine ⟨0, none, 0, 0, false, Nat.zero_le _, Nat.le_refl _, rfl, rfl, rfl, Lib.hid ⟨by simp, by simp, gb, hgb, hx, ?_⟩⟩
              exact hsu.cons (t := thW (.slice none 0 0) []) (Below.refl _ _) (OwnR.nil _ _ _ _ _) (fun k e => by
                have e : (Value.slice none 0 0).ownBlock = some k := e
                simp [Value.ownBlock] at e)
            case round =>
              obtain ⟨k, Aw, nw, cw, b, hk, hnw, rfl, rfl, rfl, HR⟩ := hrel
              by_cases hlt3 : k < k2
              · obtain ⟨x, hx⟩ : ∃ x, T1[k]? = some x := ⟨_, List.getElem?_eq_getElem (by rw [HT.out.2]; exact hlt3)⟩
                obtain ⟨hb, hnW, gb, hgb, hxj, hS⟩ := HR.out
                have hkj := (HK.out.choose_spec.2.2.2.1 k hlt3)
                have hG : Gl (γ := Ng) (·.b) vaG wr 33 encG 2 (.slice R1 k2 c1) T1 := hS.gl 3
                obtain ⟨A0, c0, hv, -, hr⟩ := OwnR.row Try.eltG hG.row
                injection hv with e1 e2 e3
                subst e1
                clear e2 e3
                obtain ⟨p, f, rfl, hc⟩ := hr k x hx
                have d0 := hc 0 _ rfl
                have d1 := hc 1 _ rfl
                simp only [vaG, Nat.add_zero] at d0 d1
                have hkl3 : (k : Int) < (k2 : Int) := by omega
                have hk03 : (0 : Int) ≤ (k : Int) := by omega
                by_cases hkjj : k = jj
                · have ei : ((k : Int) == i) = true := beq_iff_eq.2 (hkj.2 hkjj)
                  subst hkjj
                  obtain ⟨hgs, hgbx⟩ := hxj x hx
                  have D := bsays (hS.blk 1)
                  simp only [cellsSay, Nat.reduceAdd, and_true] at D
                  have s1 := fun nq => str_of ((OwnB.bs (hS.own 2)).below (below_drewN (Below.refl _ wr) nq)) cg
                  have s2 := fun nq => str_of ((OwnB.bs (hG.el x (List.mem_of_getElem? hx))).below (below_drewN (Below.refl _ wr) nq)) x.c
                  rw [← hgb] at s1
                  have g1 : ((gs : Int) == (x.sd : Int)) = true := beq_iff_eq.2 (by omega)
                  have g2 : (gb == x.b) = true := beq_iff_eq.2 hgbx
                  have HN := Lib.hid (And.intro hS (And.intro hnW (And.intro hgb (And.intro hxj hx))))
                  clear hS hnW hgb hxj hx hkj hG hr hc hgs hgbx hb HR
                  go_wp2_with fail
                  go_quiet (fail)
                  go_wp2_with fail
                  go_roundw
                  case measure => simp [intOf]; omega
                  case rel =>
                    obtain ⟨hS, hnW, hgb, hxj, hx⟩ := HN.out
                    refine ⟨k + 1, Aw, nw, cw, true, by omega, by omega, by go_num, rfl, rfl, Lib.hid ⟨(decide_eq_true (by omega)).symm, ?_, gb, hgb, hxj, ?_⟩⟩
                    · rw [take_erase_eq hx]; exact hnW
                    · rw [take_erase_eq hx]; exact hS.go (below_drewN (Below.refl _ _) nq)
                · have ei : ((k : Int) == i) = false := beq_eq_false_iff_ne.2 (fun e => hkjj (hkj.1 e))
                  have hb8 : Below wr.heap.size wr (wr.alloc (.cells #[.int .u8 (x.sd : Nat), .slice x.A x.b.length x.c] 33)) := below_alloc _ _
                  have hrow : OwnR wr 0 33 encG 2 (.slice Aw nw cw) ((T1.take k).eraseIdx jj) := hS.get (t := thW (.slice Aw nw cw) ((T1.take k).eraseIdx jj)) 0 rfl
                  obtain ⟨W, hW⟩ : ∃ W, W = (T1.take k).eraseIdx jj := ⟨_, rfl⟩
                  have hW2 : (T1.take (k + 1)).eraseIdx jj = W ++ [x] := by rw [hW]; exact take_erase_lt hx hkjj
                  rw [← hW] at hrow hnW hS
                  have HR1 := Lib.hid (OwnR.below hrow hb8)
                  have hwl : W.length ≤ 1000 := by rw [← hnW]; omega
                  have HN := Lib.hid (And.intro hS (And.intro hnW (And.intro hgb (And.intro hxj (And.intro hb8 (And.intro hW2 hb))))))
                  clear hS hnW hgb hxj hx hkj hG hr hc HR hb8 hrow hW hW2 hb
                  go_upto_region 24 with (at_builtin; go_must (refine appR1L Try.eltG _ rfl (.tmp 116) (.tmp 121) rfl 0 (.slice Aw nw cw) W rfl HR1.out wr.heap.size 1 x _ _ rfl (Blk.new wr _ _) rfl (by unfold maxLen; omega) (by omega) (Nat.zero_le _) ?_); intro g5 c5 w5 hown5 hgr5 hor5 hlt5)
                  obtain ⟨hS, hnW, hgb, hxj, hb8, hW2, hb⟩ := HN.out
                  have H5 := Lib.hid (su_want hS hb8 hown5 hgr5 hor5)
                  clear hown5 hgr5 hor5 hlt5 hS hb8 hgb hxj hW2 hb
                  go_wp2_with fail
                  go_roundw
                  case measure => simp [intOf]; omega
                  case rel =>
                    obtain ⟨hS, -, hgb, hxj, hb8, hW2, hb⟩ := HN.out
                    have hfin : Hid (b = decide (jj < k + 1) ∧ W.length + 1 = ((T1.take (k + 1)).eraseIdx jj).length ∧ ∃ gb : List UInt8, ng = gb.length ∧ (∀ x, T1[jj]? = some x → gs = x.sd ∧ gb = x.b) ∧ Su w.heap.size w w5 q [thW (.slice (some ⟨g5, 0, none⟩) (W.length + 1) c5) ((T1.take (k + 1)).eraseIdx jj), thB ga 33 #[.int .u8 (gs : Nat), .slice Ag ng cg], thO (.slice Ag ng cg) gb, thS (.slice (some ⟨p, f, none⟩) k2 c1) T1] ((T1.map Ng.d).eraseIdx jj)) := by
                      refine Lib.hid ⟨?_, ?_, gb, hgb, hxj, ?_⟩
                      · rw [hb]; exact decide_eq_decide.2 (by omega)
                      · rw [hW2]; simp
                      · rw [hW2]; exact H5.out
                    first
                      | exact ⟨k + 1, some ⟨g5, 0, none⟩, W.length + 1, c5, b, by omega, by omega, by go_num, rfl, rfl, hfin⟩
                      | ((repeat apply Exists.intro); exact ⟨⟨k + 1, some ⟨g5, 0, none⟩, W.length + 1, c5, b, by omega, by omega, by go_num, rfl, rfl, hfin⟩, rfl⟩)
              · obtain rfl : k = k2 := by omega
                have hkk3 : ¬ ((k : Int) < (k : Int)) := by omega
                obtain ⟨hb, hnW, gb, hgb, hxj, hS⟩ := HR.out
                obtain rfl : isb = b := HK.out.choose_spec.2.2.1.trans hb.symm
                have kbb : (isb == isb) = true := by cases isb <;> rfl
                rw [List.take_of_length_le (Nat.le_of_eq HT.out.2)] at hnW hS
                have hn9 : ((T1.map Ng.d).eraseIdx jj).length ≤ 1000 := by
                  have h9 := List.length_eraseIdx_le (T1.map Ng.d) jj
                  rw [List.length_map, HT.out.2] at h9
                  omega
                have hc := su_ngrams hS (by omega)
                obtain ⟨n9, hn9e⟩ : ∃ n9, n9 = ((T1.map Ng.d).eraseIdx jj).length := ⟨_, rfl⟩
                rw [← hn9e] at hc hn9
                have HC := Lib.hid hc
                have HN := Lib.hid (And.intro hn9e hnW)
                clear hb hnW hgb hxj hS HR hc hn9e
                go_wp2_with fail
                refine HC.out.mono ?_
                rintro e w9 ⟨R9, c9, T9, rfl, m9, -, s9⟩
                have hG9 : Gs w9 R9 T9 := gs_of (s9.gl 0)
                have hG1 : Gl (γ := Ng) (·.b) vaG w9 33 encG 2 (.slice R1 k c1) T1 := s9.gl 4
                have hrow : OwnR w9 0 33 encG 2 (.slice Aw nw cw) (T1.eraseIdx jj) := s9.get (t := thW (.slice Aw nw cw) (T1.eraseIdx jj)) 1 rfl
                have hGw : Gs w9 Aw (T1.eraseIdx jj) := by
                  obtain ⟨A0, c0, hv, -, hr⟩ := OwnR.row Try.eltG hrow
                  injection hv with e1 e2 e3
                  subst e1
                  clear e2 e3
                  exact ⟨hr, fun x hx => OwnB.bs (hG1.el x (List.mem_of_mem_eraseIdx hx))⟩
                have hl9 : T9.length = n9 := by rw [HN.out.1, ← m9, List.length_map]
                have hc := rsame_any R9 Aw c9 cw T9 (T1.eraseIdx jj) w9 hG9 hGw (by omega) (by rw [← HN.out.2]; omega)
                rw [hl9, ← HN.out.2, decide_eq_true (gm_of (m9.trans (map_erase Ng.d T1 jj).symm))] at hc
                have HC2 := Lib.hid hc
                have HB9 := Lib.hid s9.b
                clear hG9 hG1 hrow hGw hl9 hc s9 m9 HC
                go_wp2_with fail
                refine HC2.out.mono ?_
                rintro e w10 ⟨rfl, h10⟩
                have H10 := Lib.hid h10
                clear h10 HC2
                go_wp2_with fail
                go_ret
                exact ⟨by simp, on1 HB9.out H10.out⟩

theorem netTakes_walk (V : Option Addr) (cv : Nat) (l : List OpN) (i : Int) (w : World) (hV : Rw w encOp 6 V l) (hl : l.length ≤ maxLen) (ho : ∀ o ∈ l, o.ok w) :
    Calls Try.prog 6 #[.slice V l.length cv, .int .i64 i] w fun e w' => e = .returned (.bool true) ∧ Below w.heap.size w w' := by
  cases hh : heavyL l with
  | true => exact netTakes_known V cv l i w hV hl ho hh
  | false => exact netTakes_main V cv l i w hV hl ho hh

end Go.Proofs.Ytanenfbfcbkdhaa

/- Layer 19: walk of NetKeeps. -/
set_option linter.unusedSimpArgs false
set_option linter.unusedVariables false
namespace Go.Proofs.Ytanenfbfcbkdhaa
open Go.RowKit
set_option maxRecDepth 100000

theorem netKeeps_known (V : Option Addr) (cv : Nat) (l : List OpN) (w : World) (hV : Rw w encOp 6 V l) (hl : l.length ≤ maxLen) (ho : ∀ o ∈ l, o.ok w) (hh : heavyL l = true) :
    Calls Try.prog 5 #[.slice V l.length cv] w fun e w' => e = .returned (.bool true) ∧ Below w.heap.size w w' := by
  have HH := Lib.hid (nheavy_any V cv l w hV hl (fun o h => (ho o h).2.2.2.1))
  have HK := Lib.hid (nknown_any w)
  rw [hh] at HH
  clear hV hl ho hh
  go_enter Try.func5, Try.ntmps5
  go_wp2_with fail
  refine HH.out.mono ?_
  rintro e w1 ⟨rfl, hw⟩
  rw [hw]
  clear hw
  go_wp2_with fail
  refine HK.out.mono ?_
  rintro e w1 ⟨rfl, k⟩
  have Hk := Lib.hid k
  clear k
  go_wp2_with fail
  go_ret
  exact ⟨rfl, Hk.out⟩

/-- what stands at a round's begin -/
def Kp19 (B : Nat) (w0 w : World) (q : Nat) (k ns : Nat) (A : Option Addr) (c : Nat) : Prop := ∃ L S, L.length ≤ k ∧ ns = S.length ∧ Su B w0 w q [thS (.slice A ns c) S] L ∧ known7 L S

/-- ahead of, between and behind the two calls of a round's last step -/
def In15 (B : Nat) (w0 : World) (q : Nat) (ts : List Kt) (L L1 : List Dg) (E : Rec) (W : World) : Prop := match E 6 with
  | some _ => Su B w0 W q ts L1
  | none => match E 1 with
    | none => Su B w0 W q ts L
    | some v => ∃ q', v = .pointer (some ⟨q', 0, none⟩) ∧ Du B w0 W q q' ts L []
theorem In15.b {B : Nat} {w0 W : World} {q : Nat} {ts : List Kt} {L L1 : List Dg} {E : Rec} (h : In15 B w0 q ts L L1 E W) : Below B w0 W := by
  unfold In15 at h
  split at h
  · exact h.b
  · split at h
    · exact h.b
    · obtain ⟨q', -, h⟩ := h
      exact h.b
theorem In15.at0 {B : Nat} {w0 W : World} {q : Nat} {ts : List Kt} {L L1 : List Dg} {E : Rec} (h : In15 B w0 q ts L L1 E W) (h1 : E 1 = none) (h6 : E 6 = none) : Su B w0 W q ts L := by
  unfold In15 at h
  rw [h6, h1] at h
  exact h
theorem In15.at6 {B : Nat} {w0 W : World} {q : Nat} {ts : List Kt} {L L1 : List Dg} {E : Rec} (h : In15 B w0 q ts L L1 E W) {v : Value} (h6 : E 6 = some v) : Su B w0 W q ts L1 := by
  unfold In15 at h
  rw [h6] at h
  exact h
theorem In15.at1 {B : Nat} {w0 W : World} {q : Nat} {ts : List Kt} {L L1 : List Dg} {E : Rec} (h : In15 B w0 q ts L L1 E W) {v : Value} (h1 : E 1 = some v) (h6 : E 6 = none) : ∃ q', v = .pointer (some ⟨q', 0, none⟩) ∧ Du B w0 W q q' ts L [] := by
  unfold In15 at h
  rw [h6, h1] at h
  exact h

set_option maxHeartbeats 16000000 in
theorem netKeeps_main (V : Option Addr) (cv : Nat) (l : List OpN) (w : World) (hV : Rw w encOp 6 V l) (hl : l.length ≤ maxLen) (ho : ∀ o ∈ l, o.ok w) (hh : heavyL l = false) :
    Calls Try.prog 5 #[.slice V l.length cv] w fun e w' => e = .returned (.bool true) ∧ Below w.heap.size w w' := by
  have hmx : Try.prog.follows .mixedOrders = true := by kernel_rfl
  have HH := Lib.hid (nheavy_any V cv l w hV hl (fun o h => (ho o h).2.2.2.1))
  rw [hh] at HH
  have HK := Lib.hid (nknown_any w)
  obtain ⟨m, hm⟩ : ∃ m, m = l.length := ⟨_, rfl⟩
  have hm80 : m ≤ 80 := by rw [hm]; exact (heavyL_no hh).1
  have hb5 := (heavyL_no hh).2
  rw [← hm] at HH ⊢
  have HI := Lib.hid (And.intro hV (And.intro ho (And.intro hm hb5)))
  clear hl hV ho hm hb5 hh
  go_enter Try.func5, Try.ntmps5
  go_wp2_with fail
  refine HH.out.mono ?_
  rintro e w1 ⟨rfl, hw⟩
  rw [hw]
  clear hw HH
  go_wp2_with fail
  refine HK.out.mono ?_
  rintro e w1 ⟨rfl, b1⟩
  clear HK
  have HB1 := Lib.hid b1
  clear b1
  go_wp2_with fail
  refine (nnew_any w1).mono ?_
  rintro e w2 ⟨rfl, n2, b2⟩
  obtain ⟨q, hq⟩ : ∃ q, q = w1.heap.size := ⟨_, rfl⟩
  rw [← hq] at n2 ⊢
  have hs2 := Su.start (on1 HB1.out b2) (on1 HB1.out b2).size n2 (by rw [hq]; exact HB1.out.size)
  have S2 := Lib.hid (hs2.cons (t := thS (.slice none 0 0) []) (Below.refl _ _) (Gl.nil _ _ _ _ _ _) (fun k hk => by
    rcases hk with hk | ⟨t, ht, _⟩
    · simp [Value.ownBlock] at hk
    · simp at ht))
  clear n2 b2 hq hs2
  go_wp2_with fail
  go_loopw [4, 5] (fun s4 s5 wr => ∃ (k ns : Nat) (A : Option Addr) (c : Nat), k ≤ m ∧ ns ≤ k ∧ s5 = .int .i64 k ∧ s4 = .slice A ns c ∧ Hid (Kp19 w.heap.size w wr q (2 * k) ns A c)) (fun _ s _ => m - (intOf s).toNat)
  case atStart => exact ⟨0, 0, none, 0, Nat.zero_le _, Nat.le_refl _, rfl, rfl, Lib.hid ⟨[], [], Nat.le_refl _, rfl, S2.out, fun d hd => by simp at hd⟩⟩
  case round =>
    obtain ⟨k, ns, A, c, hk, hns, rfl, rfl, HR⟩ := hrel
    clear S2
    by_cases hlt : k < m
    · obtain ⟨o, ho⟩ : ∃ o, l[k]? = some o := ⟨_, List.getElem?_eq_getElem (by rw [← HI.out.2.2.1]; exact hlt)⟩
      obtain ⟨p, f, hVe, hc⟩ := HI.out.1 k o ho
      subst hVe
      have hok := HI.out.2.1 o (List.mem_of_getElem? ho)
      have hb5 := HI.out.2.2.2 o (List.mem_of_getElem? ho)
      obtain ⟨L, S, hL, hnS, hS, hKn⟩ := HR.out
      have g0 := (hc 0 _ rfl)
      have g1 := (hc 1 _ rfl)
      have g2 := (hc 2 _ rfl)
      have g3 := (hc 3 _ rfl)
      have g4 := (hc 4 _ rfl)
      have g5 := (hc 5 _ rfl)
      simp only [Nat.add_zero] at g0
      obtain ⟨kk, hkd⟩ : ∃ kk, kk = o.kd % 8 := ⟨_, rfl⟩
      have f0 : (o.kd : Int) % 8 = (kk : Int) := by omega
      obtain ⟨nb, hnb⟩ : ∃ nb, nb = o.b.length := ⟨_, rfl⟩
      rw [← hnb] at g2
      have hkl : (k : Int) < (m : Int) := by omega
      have hk0 : (0 : Int) ≤ (k : Int) := by omega
      have HG := Lib.hid (And.intro g0 (And.intro g1 (And.intro g2 (And.intro g3 (And.intro g4 g5)))))
      have HO := Lib.hid (And.intro hok (And.intro hb5 (And.intro hkd hnb)))
      have HS := Lib.hid (And.intro hL (And.intro hnS (And.intro hS hKn)))
      rename World => wo
      clear hc hok hb5 ho HR hL hnS hS hKn g0 g1 g2 g3 g4 g5 hkd hnb
      go_upto_region 10 with fail
      go_cut [47] (fun s47 wx => ∃ b : Bool, s47 = .bool b ∧ Hid (∃ L1, L1.length ≤ 2 * k + 1 ∧ Su w.heap.size w wx q [thS (.slice A ns c) S] L1 ∧ (b = false → known7 L1 S) ∧ (b = true → ∀ x : Ng, x.gm = (o.sd, o.b) → known7 L1 (S ++ [x]))))
      case first =>
        by_cases hk3 : kk < 3
        · have d3 : decide ((kk : Int) < 3) = true := decide_eq_true (by omega)
          obtain ⟨I, hI⟩ : ∃ I : Rec → World → Prop, ∀ E W, I E W ↔ Su w.heap.size w W q [thS (.slice A ns c) S] (pickR (E 19) L (sendD L o.sd o.b)) := ⟨_, fun _ _ => Iff.rfl⟩
          have hI0 : I (fun _ => none) wo.drew := (hI _ _).2 HS.out.2.2.1.drew
          haveI : Nonempty (InvW I) := ⟨⟨_, _, hI0⟩⟩
          have e0 : ∀ x : InvW I, x.W.cell? ⟨p, f + k * 6, none⟩ = some (.int .u8 (o.kd : Nat)) := fun x => ((hI _ _).1 x.h).old (Nat.le_refl _) HG.out.1
          have e1 : ∀ x : InvW I, x.W.cell? ⟨p, f + k * 6 + 1, none⟩ = some (.int .u8 (o.sd : Nat)) := fun x => ((hI _ _).1 x.h).old (Nat.le_refl _) HG.out.2.1
          have e2 : ∀ x : InvW I, x.W.cell? ⟨p, f + k * 6 + 2, none⟩ = some (.slice o.A nb o.c) := fun x => ((hI _ _).1 x.h).old (Nat.le_refl _) HG.out.2.2.1
          have HI2 := Lib.hid hI
          obtain ⟨b, hb⟩ : ∃ b, b = (maySend o.sd o.b && decide (L.length < 4096)) := ⟨_, rfl⟩
          have Hb := Lib.hid hb
          clear hI hb
          refine wp_region_inv I [] [19] (fun k v => v = .bool b) hmx (by kernel_rfl) hI0 ?_
          iterate 19 (refine walkJ_one rfl (by kernel_rfl) ?_; go_big_quiet_step (fail); refine wpQuiet_nil ?_)
          refine walkJ_turn rfl rfl ⟨_, rfl⟩ (fun s W1 hs h7 _ => ?_) ?_
          · have h := (HI2.out _ _).1 hs
            rw [show s 19 = none from h7] at h
            have hc := su_nsend h o.sd o.b o.A o.c (h.bs (Nat.le_refl _) HO.out.1.2.2.1) (by have := HS.out.1; show L.length ≤ _; omega)
            rw [← HO.out.2.2.2] at hc
            refine inv_call (by simp [execOp, go_sem]) (hc.mono ?_)
            rintro e w1 ⟨rfl, k⟩
            exact ⟨_, rfl, by rw [Hb.out]; rfl, (HI2.out _ _).2 k⟩
          rintro v rfl
          conv => arg 11; simp [Act.put]
          iterate 1 (refine walkJ_one rfl (by kernel_rfl) ?_; go_big_quiet_step (fail); refine wpQuiet_nil ?_)
          refine walkJ_end ?_
          intro W3 hW3
          have D3 : Hid (Su w.heap.size w W3 q [thS (.slice A ns c) S] (sendD L o.sd o.b)) := Lib.hid ((HI2.out _ _).1 hW3)
          clear e0 e1 e2 hI0 hW3 HI2
          have HLn := Lib.hid (sendD_len L o.sd o.b)
          go_wp2_with fail
          go_meet
          exact ⟨b, rfl, Lib.hid ⟨_, by have := HLn.out; have := HS.out.1; omega, D3.out, fun h => by rw [sendD_not (Hb.out.symm.trans h)]; exact HS.out.2.2.2, fun _ x hx => HS.out.2.2.2.send hx⟩⟩
        · have d3 : decide ((kk : Int) < 3) = false := decide_eq_false (by omega)
          have e0 := HS.out.2.2.1.old (Nat.le_refl _) HG.out.1
          go_quiet (fail)
          go_wp2_with fail
          go_meet
          exact ⟨false, rfl, Lib.hid ⟨L, by have := HS.out.1; omega, HS.out.2.2.1.go (below_drewN (Below.refl _ _) nq), fun _ => HS.out.2.2.2, fun h => by cases h⟩⟩
      case rest =>
        obtain ⟨b, rfl, HR⟩ := hcut
        obtain ⟨L1, hL1, hS1, hF1, hT1⟩ := HR.out
        have hnS := HS.out.2.1
        have D3 := Lib.hid (And.intro hL1 (And.intro hS1 (And.intro hF1 (And.intro hT1 hnS))))
        clear HR hL1 hS1 hF1 hT1 hnS HS
        rename World => W3
        go_upto_if 47 with fail
        go_cut [4, 6] (fun s4 s6 wx => ∃ (ns : Nat) (A : Option Addr) (c : Nat), ns ≤ k + 1 ∧ s4 = .slice A ns c ∧ Hid (Kp19 w.heap.size w wx q (2 * k + 1) ns A c))
        case first =>
          cases b with
          | false =>
            go_wp2_with fail
            go_meet
            exact ⟨ns, A, c, by omega, rfl, Lib.hid ⟨L1, S, D3.out.1, D3.out.2.2.2.2, D3.out.2.1, D3.out.2.2.1 (by trivial)⟩⟩
          | true =>
            have c1 := D3.out.2.1.old (Nat.le_refl _) HG.out.2.1
            have c2 := D3.out.2.1.old (Nat.le_refl _) HG.out.2.2.1
            go_upto_region 13 with (at_builtin; go_must (refine appAllL _ rfl (.tmp 48) (.tmp 53) rfl W3.heap.size (.slice none 0 0) [] rfl (OwnB.nil _ _) o.A o.c o.b (by rw [← HO.out.2.2.2]; rfl) (D3.out.2.1.bs (Nat.le_refl _) HO.out.1.2.2.1) (by simp; have := HO.out.2.1; omega) (Nat.le_refl _) ?_); intro A4 c4 w4 hown4 hg4 hl4)
            have b4 := below_none hg4
            simp only [List.length_nil, Nat.zero_add, List.nil_append] at hown4
            rw [← HO.out.2.2.2] at hown4 ⊢
            have hGl : Gl (γ := Ng) (·.b) vaG W3 33 encG 2 (.slice A ns c) S := D3.out.2.1.get (t := thS (.slice A ns c) S) 0 rfl
            have hb8 : Below W3.heap.size W3 (w4.alloc (.cells #[.int .u8 (o.sd : Nat), .slice A4 nb c4] 33)) := b4.alloc b4.size _
            have HR1 := Lib.hid (hGl.row.below hb8)
            have d1 := (b4.cell (cell_lt c1)).trans c1
            obtain ⟨x, hx⟩ : ∃ x : Ng, x = ⟨o.sd, o.b, A4, c4, false⟩ := ⟨_, rfl⟩
            have henc : encG x = [.int .u8 (o.sd : Nat), .slice A4 nb c4] := by rw [hx]; simp only [encG, vaG]; rw [← HO.out.2.2.2]
            have hnv : ∀ j, (vaG x).ownBlock = some j → W3.heap.size ≤ j := fun j e => by
              rw [hx] at e
              simp only [vaG] at e
              rw [← HO.out.2.2.2] at e
              exact (World.ownsRow.lt hown4 j e).1
            have hox : OwnB (w4.alloc (.cells #[.int .u8 (o.sd : Nat), .slice A4 nb c4] 33)) 0 (vaG x) x.b := by
              rw [hx]
              simp only [vaG]
              rw [← HO.out.2.2.2]
              exact (hown4.mono (Nat.zero_le _)).below (below_alloc _ _)
            have HX := Lib.hid (And.intro henc (And.intro hnv (And.intro hox (And.intro hGl (And.intro hb8 (show x.gm = (o.sd, o.b) by rw [hx]; rfl))))))
            have hsl : S.length ≤ 100 := by rw [← D3.out.2.2.2.2]; omega
            clear hg4 hl4 hown4 b4 c1 c2 hx henc hnv hox hGl hb8
            go_upto_region 14 with (at_builtin; go_must (refine appR1L Try.eltG _ rfl (.tmp 55) (.tmp 63) rfl 0 (.slice A ns c) S rfl HR1.out w4.heap.size 1 x _ _ rfl (Blk.new w4 _ _) (by rw [HX.out.1]) (by unfold maxLen; omega) (by omega) (Nat.zero_le _) ?_); intro g5 c5 w5 hown5 hgr5 hor5 hlt5)
            go_meet
            obtain ⟨x1, x2, x3, x4, x5, x6⟩ := HX.out
            have hV5 : ∀ j, (Value.slice (some ⟨g5, 0, none⟩) (S.length + 1) c5).ownBlock = some j → (Value.slice A ns c).ownBlock = some j ∨ (w4.alloc (.cells #[.int .u8 (o.sd : Nat), .slice A4 nb c4] 33)).heap.size ≤ j := fun j e => by
              have e2 : g5 = j := by simpa [Value.ownBlock] using e
              subst e2
              rcases hor5 with h9 | h9
              · exact .inl h9
              · exact .inr (Nat.le_of_eq h9.symm)
            have G5 : Gl (γ := Ng) (·.b) vaG w5 33 encG 2 (.slice (some ⟨g5, 0, none⟩) (S.length + 1) c5) (S ++ [x]) := x4.snoc (x := x) x5 hown5 hgr5 hV5 x3 x2
            have t5 : Tou (footG vaG (.slice A ns c) S) W3 w5 := (Tou.of_below x5 : Tou (footG vaG (.slice A ns c) S) _ _).trans (Tou.of_grown (r := (Value.slice A ns c).ownBlock) hgr5 (F := footG vaG (.slice A ns c) S) (fun k e => .inl e)) (fun j _ h => h)
            have n5 := footG_snoc (x := x) (V := .slice A ns c) (T := S) (V2 := .slice (some ⟨g5, 0, none⟩) (S.length + 1) c5) (B := W3.heap.size) (fun k e => (hV5 k e).imp id (fun h => Nat.le_trans x5.size h)) x2
            have hsn := D3.out.2.2.2.2
            refine ⟨S.length + 1, some ⟨g5, 0, none⟩, c5, by omega, rfl, Lib.hid ⟨L1, S ++ [x], D3.out.1, by simp, D3.out.2.1.call (t' := thS (.slice (some ⟨g5, 0, none⟩) (S.length + 1) c5) (S ++ [x])) 0 rfl t5 G5 n5, D3.out.2.2.2.1 (by trivial) x x6⟩⟩
        case rest =>
          obtain ⟨ns, A, c, hns1, rfl, HR⟩ := hcut
          obtain ⟨L, S, hL, hnS, hS, hKn⟩ := HR.out
          have HS := Lib.hid (And.intro hL (And.intro hnS (And.intro hS hKn)))
          clear HR hL hnS hS hKn D3
          rename World => W4
          have c0 := HS.out.2.2.1.old (Nat.le_refl _) HG.out.1
          go_upto_if 71 with fail
          clear c0
          go_cut [6] (fun s6 wx => Hid (Kp19 w.heap.size w wx q (2 * k + 2) ns A c))
          case first =>
            by_cases hk3 : 3 < kk
            · have d3 : decide ((3 : Int) < (kk : Int)) = true := decide_eq_true (by omega)
              go_upto_region 15 with fail
              obtain ⟨I, hI⟩ : ∃ I : Rec → World → Prop, ∀ E W, I E W ↔ In15 w.heap.size w q [thS (.slice A ns c) S] L (stepD L o) E W := ⟨_, fun _ _ => Iff.rfl⟩
              have hI0 : I (fun _ => none) W4.drew := (hI _ _).2 HS.out.2.2.1.drew
              haveI : Nonempty (InvW I) := ⟨⟨_, _, hI0⟩⟩
              have hcl : ∀ (x : InvW I) (a : Addr) (v : Value), w.cell? a = some v → x.W.cell? a = some v := fun x a v h => (((hI _ _).1 x.h).b.cell (cell_lt h)).trans h
              have e0 := fun x : InvW I => hcl x _ _ HG.out.1
              have e1 := fun x : InvW I => hcl x _ _ HG.out.2.1
              have e2 := fun x : InvW I => hcl x _ _ HG.out.2.2.1
              have e3 := fun x : InvW I => hcl x _ _ HG.out.2.2.2.1
              have e4 := fun x : InvW I => hcl x _ _ HG.out.2.2.2.2.1
              have e5 := fun x : InvW I => hcl x _ _ HG.out.2.2.2.2.2
              have HI2 := Lib.hid hI
              clear hI hcl
              refine wp_region_inv I [[], [], [], [], [], [], [1]] [1, 6] (fun k v => if k = 1 then ∃ q', v = .pointer (some ⟨q', 0, none⟩) else ∃ b, v = .bool b) hmx (by kernel_rfl) hI0 ?_
              iterate 1 (refine walkJ_one rfl (by kernel_rfl) ?_; go_big_quiet_step (fail); refine wpQuiet_nil ?_)
              refine walkJ_turn rfl rfl ⟨.pointer (some ⟨0, 0, none⟩), 0, rfl⟩ (fun s W1 hs h7 _ => ?_) ?_
              · have h := (HI2.out _ _).1 hs
                have h7 : s 1 = none := h7
                refine inv_call (by simp [execOp, go_sem]) ((rnnew_any W1).mono ?_)
                rintro e w1 ⟨rfl, k1, k2⟩
                refine ⟨_, rfl, ⟨_, rfl⟩, (HI2.out _ _).2 ?_⟩
                cases h6 : s 6 with
                | none =>
                  unfold In15
                  rw [show recSet s (0 + 1) (.pointer (some ⟨W1.heap.size, 0, none⟩)) 6 = none from h6]
                  exact ⟨_, rfl, (h.at0 h7 h6).duo k2 k1⟩
                | some v =>
                  unfold In15
                  rw [show recSet s (0 + 1) (.pointer (some ⟨W1.heap.size, 0, none⟩)) 6 = some v from h6]
                  exact (h.at6 h6).go k2
              rintro v ⟨q', rfl⟩
              conv => arg 11; simp [Act.put]
              iterate 4 (refine walkJ_one rfl (by kernel_rfl) ?_; go_big_quiet_step (fail); refine wpQuiet_nil ?_)
              refine walkJ_turn rfl rfl ⟨.bool true, true, rfl⟩ (fun s W1 hs h7 hch => ?_) ?_
              · have h := (HI2.out _ _).1 hs
                obtain ⟨q2, hq2, hD⟩ := h.at1 (hch 1 (by decide)) h7
                injection hq2 with hq2
                injection hq2 with hq2
                injection hq2 with hq2 _ _
                subst hq2
                have hc := does_late o hD HO.out.1.2.2.2.2.2.2 (by rw [← HO.out.2.2.1]; exact hk3) (by have := HS.out.1; omega) (by simp)
                unfold aggO at hc
                rw [← HO.out.2.2.2] at hc
                refine inv_call (by simp [execOp, go_sem]) (hc.mono ?_)
                rintro e w1 ⟨b, rfl, hd⟩
                exact ⟨_, rfl, ⟨b, rfl⟩, (HI2.out _ _).2 hd.out.2.solo⟩
              rintro v ⟨b, rfl⟩
              conv => arg 11; simp [Act.put]
              refine walkJ_end ?_
              intro W5 hW5
              have D5 := Lib.hid ((HI2.out _ _).1 hW5 |>.at6 (by rfl))
              clear e0 e1 e2 e3 e4 e5 hI0 hW5 HI2
              go_wp2_with fail
              go_meet
              exact Lib.hid ⟨_, S, by have := HS.out.1; have := stepD_len L o; omega, HS.out.2.1, D5.out, HS.out.2.2.2.step o (by rw [← HO.out.2.2.1]; exact hk3)⟩
            · have d3 : decide ((3 : Int) < (kk : Int)) = false := decide_eq_false (by omega)
              go_wp2_with fail
              go_meet
              exact Lib.hid ⟨L, S, by have := HS.out.1; omega, HS.out.2.1, HS.out.2.2.1, HS.out.2.2.2⟩
          case rest =>
            clear HS
            obtain ⟨L, S, hL, hnS, hS, hKn⟩ := hcut.out
            have hc := su_ngrams hS (by omega)
            obtain ⟨nL, hnL⟩ : ∃ nL, nL = L.length := ⟨_, rfl⟩
            have hnL6 : nL ≤ 1000 := by omega
            rw [← hnL] at hc
            have HC := Lib.hid hc
            have HS := Lib.hid (And.intro hL (And.intro hnS (And.intro hS (And.intro hKn hnL))))
            clear hc hL hnS hS hKn hnL hcut
            go_wp2_with fail
            refine HC.out.mono ?_
            rintro e W7 ⟨R, c7, T7, rfl, m7, b7, s7⟩
            have H7 := Lib.hid (And.intro m7 s7)
            have GX : Hid (Gs W7 R T7) := Lib.hid (gs_of (s7.get (t := thS (.slice R nL c7) T7) 0 rfl))
            have GY : Hid (Gs W7 A S) := Lib.hid (gs_of (s7.get (t := thS (.slice A ns c) S) 1 rfl))
            clear m7 s7 b7 HC
            go_wp2_with fail
            go_loopw [8] (fun s wr => ∃ k2 : Nat, k2 ≤ nL ∧ s = .int .i64 k2 ∧ Hid (Below W7.heap.size W7 wr)) (fun s _ => nL - (intOf s).toNat)
            case atStart => exact ⟨0, Nat.zero_le _, rfl, Lib.hid (Below.refl _ _)⟩
            case round =>
              obtain ⟨k2, hk2, rfl, HB⟩ := hrel
              rename World => w8
              by_cases hlt2 : k2 < nL
              · obtain ⟨d, hd⟩ : ∃ d, L[k2]? = some d := ⟨_, List.getElem?_eq_getElem (by rw [← HS.out.2.2.2.2]; exact hlt2)⟩
                have hx0 := hd
                rw [← H7.out.1, List.getElem?_map, Option.map_eq_some_iff] at hx0
                obtain ⟨x, hx, hxd⟩ := hx0
                have HA := Lib.hid (su_nbent (H7.out.2.go HB.out) (k2 : Int))
                rw [← HS.out.2.2.2.2, Int.toNat_natCast, hd, show isD nL (k2 : Int) = true from decide_eq_true ⟨by omega, by omega⟩] at HA
                simp only [Option.map_some, Option.getD_some, Bool.true_and] at HA
                obtain ⟨bt, hbt⟩ : ∃ bt, bt = d.bent := ⟨_, rfl⟩
                rw [← hbt] at HA
                have HX := Lib.hid (And.intro hx (And.intro hxd (And.intro hbt (List.mem_of_getElem? hd))))
                have hkl2 : (k2 : Int) < (nL : Int) := by omega
                have hk02 : (0 : Int) ≤ (k2 : Int) := by omega
                clear hd hx hxd hbt
                go_wp2_with fail
                refine HA.out.mono ?_
                rintro e w9 ⟨rfl, hw⟩
                rw [hw]
                clear hw HA
                go_wp2_with fail
                go_loopw [9, 10] (fun s9 s10 wr => ∃ (j : Nat) (b : Bool), j ≤ ns ∧ s10 = .int .i64 j ∧ s9 = .bool b ∧ Hid (Below W7.heap.size W7 wr ∧ (b = true ↔ bt = true ∨ x.gm ∈ (S.take j).map Ng.gm))) (fun _ s _ => ns - (intOf s).toNat)
                case atStart => exact ⟨0, bt, Nat.zero_le _, rfl, rfl, Lib.hid ⟨HB.out, by simp⟩⟩
                case round =>
                  obtain ⟨j, b, hj, rfl, rfl, HR⟩ := hrel
                  by_cases hlt3 : j < ns
                  · obtain ⟨y, hy⟩ : ∃ y, S[j]? = some y := ⟨_, List.getElem?_eq_getElem (by rw [← HS.out.2.1]; exact hlt3)⟩
                    have hGx := GX.out.below HR.out.1
                    have hGy := GY.out.below HR.out.1
                    obtain ⟨p1, f1, rfl, hcx⟩ := hGx.row k2 x HX.out.1
                    obtain ⟨p2, f2, rfl, hcy⟩ := hGy.row j y hy
                    have c0 := hcx 0 _ rfl
                    have c1 := hcx 1 _ rfl
                    have d0 := hcy 0 _ rfl
                    have d1 := hcy 1 _ rfl
                    simp only [Nat.add_zero] at c0 d0
                    have s1 := fun nq => str_of ((hGx.by_ x (List.mem_of_getElem? HX.out.1)).below (below_drewN (Below.refl _ wr) nq)) x.c
                    have s2 := fun nq => str_of ((hGy.by_ y (List.mem_of_getElem? hy)).below (below_drewN (Below.refl _ wr) nq)) y.c
                    simp only [vaG] at c1 d1
                    have hjl : (j : Int) < (ns : Int) := by omega
                    have hj0 : (0 : Int) ≤ (j : Int) := by omega
                    have HN : Hid (∀ b' : Bool, (b' = true ↔ (b = true ∨ y.gm = x.gm)) → (b' = true ↔ bt = true ∨ x.gm ∈ (S.take (j + 1)).map Ng.gm)) := Lib.hid (fun b' h => by
                      rw [h, HR.out.2, List.take_add_one, hy, List.map_append, List.mem_append]
                      show _ ∨ _ ↔ _ ∨ _ ∨ x.gm ∈ [y.gm]
                      rw [List.mem_singleton]
                      constructor
                      · rintro ((h | h) | h)
                        · exact .inl h
                        · exact .inr (.inl h)
                        · exact .inr (.inr h.symm)
                      · rintro (h | h | h)
                        · exact .inl (.inl h)
                        · exact .inl (.inr h)
                        · exact .inr h.symm)
                    clear hcx hcy hy hGx hGy
                    cases b with
                    | true =>
                      have HE := Lib.hid (HN.out true (by simp))
                      go_wp2_with fail
                      go_quiet (fail)
                      go_wp2_with fail
                      go_roundw
                      case measure => simp [intOf]; omega
                      case rel => exact ⟨j + 1, true, by omega, by go_num, rfl, Lib.hid ⟨below_drewN HR.out.1 nq, by first | exact HE.out | simpa using HE.out⟩⟩
                    | false =>
                      by_cases hs : y.sd = x.sd
                      · have e1 : ((y.sd : Int) == (x.sd : Int)) = true := beq_iff_eq.2 (by omega)
                        by_cases hb : y.b = x.b
                        · have e2 : (y.b == x.b) = true := beq_iff_eq.2 hb
                          have HE := Lib.hid (HN.out true (by simp only [true_iff]; right; unfold Ng.gm; rw [hs, hb]))
                          clear hs hb
                          go_wp2_with fail
                          go_quiet (fail)
                          go_wp2_with fail
                          go_roundw
                          case measure => simp [intOf]; omega
                          case rel => exact ⟨j + 1, true, by omega, by go_num, rfl, Lib.hid ⟨below_drewN HR.out.1 nq, by first | exact HE.out | simpa using HE.out⟩⟩
                        · have e2 : (y.b == x.b) = false := beq_eq_false_iff_ne.2 hb
                          have HE := Lib.hid (HN.out false (by simp only [Bool.false_eq_true, false_iff, not_or]; exact ⟨by simp, fun e => hb (congrArg Prod.snd e)⟩))
                          clear hs hb
                          go_wp2_with fail
                          go_quiet (fail)
                          go_wp2_with fail
                          go_roundw
                          case measure => simp [intOf]; omega
                          case rel => exact ⟨j + 1, false, by omega, by go_num, rfl, Lib.hid ⟨below_drewN HR.out.1 nq, by first | exact HE.out | simpa using HE.out⟩⟩
                      · have e1 : ((y.sd : Int) == (x.sd : Int)) = false := beq_eq_false_iff_ne.2 (by omega)
                        have HE := Lib.hid (HN.out false (by simp only [Bool.false_eq_true, false_iff, not_or]; exact ⟨by simp, fun e => hs (congrArg Prod.fst e)⟩))
                        clear hs
                        go_wp2_with fail
                        go_quiet (fail)
                        go_wp2_with fail
                        go_roundw
                        case measure => simp [intOf]; omega
                        case rel => exact ⟨j + 1, false, by omega, by go_num, rfl, Lib.hid ⟨below_drewN HR.out.1 nq, by first | exact HE.out | simpa using HE.out⟩⟩
                  · obtain rfl : j = ns := by omega
                    have hjj : ¬ ((j : Int) < (j : Int)) := by omega
                    obtain rfl : b = true := by
                      refine HR.out.2.2 ?_
                      cases hb : bt with
                      | true => exact .inl rfl
                      | false =>
                        right
                        rw [List.take_of_length_le (Nat.le_of_eq HS.out.2.1.symm)]
                        have h9 := HS.out.2.2.2.1 d HX.out.2.2.2 (by rw [← HX.out.2.2.1]; exact hb)
                        rw [← HX.out.2.1] at h9
                        exact h9
                    go_wp2_with fail
                    go_roundw
                    case measure => simp [intOf]; omega
                    case rel => exact ⟨k2 + 1, by omega, by go_num, Lib.hid HR.out.1⟩
              · obtain rfl : k2 = nL := by omega
                have hkk2 : ¬ ((k2 : Int) < (k2 : Int)) := by omega
                go_wp2_with fail
                go_roundw
                case measure => simp [intOf]; omega
                case rel => exact ⟨k + 1, ns, A, c, by omega, by omega, by go_num, rfl, Lib.hid ⟨L, S, by have := HS.out.1; omega, HS.out.2.1, (H7.out.2.go HB.out).tail, HS.out.2.2.2.1⟩⟩
    · obtain rfl : k = m := by omega
      obtain ⟨L, S, hL, hnS, hS, hKn⟩ := HR.out
      have HE := Lib.hid hS.b
      have hkk : ¬ ((k : Int) < (k : Int)) := by omega
      clear HR hL hnS hS hKn
      go_wp2_with fail
      go_ret
      exact ⟨rfl, HE.out⟩

theorem netKeeps_walk (V : Option Addr) (cv : Nat) (l : List OpN) (w : World) (hV : Rw w encOp 6 V l) (hl : l.length ≤ maxLen) (ho : ∀ o ∈ l, o.ok w) :
    Calls Try.prog 5 #[.slice V l.length cv] w fun e w' => e = .returned (.bool true) ∧ Below w.heap.size w w' := by
  cases hh : heavyL l with
  | true => exact netKeeps_known V cv l w hV hl ho hh
  | false => exact netKeeps_main V cv l w hV hl ho hh

end Go.Proofs.Ytanenfbfcbkdhaa
