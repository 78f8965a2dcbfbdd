/- Layer 19: walk of NetTwice, the main way. -/
import Derived.Test.YtanenfbfcbkdhaaNw10
set_option linter.unusedSimpArgs false
set_option linter.unusedVariables false
namespace Go.Proofs.Ytanenfbfcbkdhaa
open Go.RowKit
set_option maxRecDepth 100000

set_option maxHeartbeats 8000000 in
theorem netTwice_main (A : Option Addr) (c : Nat) (b : List UInt8) (to_ : Nat) (V : Option Addr) (cv : Nat) (l : List OpN) (w : World) (hA : Bs w A b) (hV : Rw w encOp 6 V l) (hl : l.length ≤ maxLen) (ho : ∀ o ∈ l, o.ok w) (hto : to_ < 256) (hk : ¬ (heavyL l = true ∨ b.length < 1 ∨ 4096 < b.length)) :
    Calls Try.prog 3 #[.slice A b.length c, .int .u8 (to_ : Nat), .slice V l.length cv] w fun e w' => e = .returned (.bool true) ∧ Below w.heap.size w w' := by
  have hh : heavyL l = false := by
    cases h : heavyL l
    · rfl
    · exact absurd (.inl h) hk
  have HH := Lib.hid (nheavy_any V cv l w hV hl (fun o h => (ho o h).2.2.2.1))
  rw [hh] at HH
  have HK := Lib.hid (nknown_any w)
  obtain ⟨n, hn⟩ : ∃ n, n = b.length := ⟨_, rfl⟩
  obtain ⟨m, hm⟩ : ∃ m, m = l.length := ⟨_, rfl⟩
  have hm80 : m ≤ 80 := by rw [hm]; exact (heavyL_no hh).1
  rw [← hm] at HH
  rw [← hn, ← hm]
  rw [← hn] at hk
  obtain ⟨t2, ht2⟩ : ∃ t2 : Nat, t2 = to_ % 2 := ⟨_, rfl⟩
  have f0 : (to_ : Int) % 2 = (t2 : Int) := by rw [ht2]; omega
  have ht1 : t2 = 0 ∨ t2 = 1 := by omega
  have d1 : decide ((n : Int) < 1) = false := decide_eq_false (by omega)
  have d2 : decide ((4096 : Int) < (n : Int)) = false := decide_eq_false (by omega)
  have hms : maySend t2 b = true := decide_eq_true ⟨ht1, by omega, by omega⟩
  have HI := Lib.hid (And.intro hA (And.intro hV (And.intro ho (And.intro hn (And.intro hm hms)))))
  clear hl hA hV ho hn hm hms hk hh ht2 ht1
  go_enter Try.func3, Try.ntmps3
  go_wp2_with fail
  refine HH.out.mono ?_
  rintro e w1 ⟨rfl, hw⟩
  rw [hw]
  clear hw HH
  go_wp2_with fail
  refine HK.out.mono ?_
  rintro e w1 ⟨rfl, b1⟩
  clear HK
  have HB1 := Lib.hid b1
  clear b1
  go_wp2_with fail
  refine (nnew_any w1).mono ?_
  rintro e w2 ⟨rfl, n2, b2⟩
  obtain ⟨q, hq⟩ : ∃ q, q = w1.heap.size := ⟨_, rfl⟩
  rw [← hq] at n2 ⊢
  have H2 := Lib.hid (show NS w.heap.size w w2 q (.slice none 0 0) [] from ⟨on1 HB1.out b2, (on1 HB1.out b2).size, n2, fun t h => by simp at h, fun k hk => by
    rcases hk with rfl | hk | ⟨t, ht, _⟩
    · rw [hq]; exact HB1.out.size
    · simp [Value.ownBlock] at hk
    · simp at ht⟩)
  clear n2 b2 hq
  go_wp2_with fail
  have HC := Lib.hid (nsend_any q _ [] t2 b A c w2 H2.out.nt H2.out.ok (H2.out.bs (Nat.le_refl _) HI.out.1) (by simp))
  rw [← HI.out.2.2.2.1] at HC
  refine HC.out.mono ?_
  rintro e w3 ⟨rfl, V3, T3, h3⟩
  rw [show (maySend t2 b && decide (([] : List Ng).length < 4096)) = true by rw [HI.out.2.2.2.2.2]; rfl]
  have hm3 : T3.map Ng.d = [⟨t2, b, false⟩] := by rw [h3.out.2.2]; unfold sendD; rw [if_pos HI.out.2.2.2.2.2]; rfl
  have H3 := Lib.hid (show NS w.heap.size w w3 q V3 T3 ∧ T3.map Ng.d = [⟨t2, b, false⟩] ∧ T3.length = 1 from ⟨H2.out.to h3.out.1 h3.out.2.1, hm3, len_of hm3⟩)
  clear h3 hm3 HC H2
  have HC := Lib.hid (ntwice_any q V3 T3 0 w3 H3.out.1.nt H3.out.1.ok (by rw [H3.out.2.2]; omega))
  go_wp2_with fail
  refine HC.out.mono ?_
  rintro e w4 ⟨rfl, V4, T4, h4⟩
  rw [H3.out.2.2, show (isD 1 0 && decide (1 < 4096)) = true by decide]
  have hm4 : T4.map Ng.d = [⟨t2, b, false⟩, ⟨t2, b, false⟩] := by rw [h4.out.2.2, H3.out.2.1]; rfl
  have H4 := Lib.hid (show NS w.heap.size w w4 q V4 T4 ∧ T4.map Ng.d = [⟨t2, b, false⟩, ⟨t2, b, false⟩] from ⟨H3.out.1.to h4.out.1 h4.out.2.1, hm4⟩)
  clear h4 hm4 HC H3
  go_wp2_with fail
  go_loopw [10] (fun s wr => ∃ k : Nat, k ≤ m ∧ s = .int .i64 k ∧ Hid (∃ V T r, NS w.heap.size w wr q V T ∧ T.map Ng.d = ⟨t2, b, false⟩ :: ⟨t2, b, false⟩ :: r ∧ r.length ≤ k)) (fun s _ => m - (intOf s).toNat)
  case atStart => exact ⟨0, Nat.zero_le _, rfl, Lib.hid ⟨V4, T4, [], H4.out.1, H4.out.2, Nat.zero_le _⟩⟩
  case round =>
    obtain ⟨k, hk, rfl, HR⟩ := hrel
    by_cases hlt : k < m
    · obtain ⟨o, ho⟩ : ∃ o, l[k]? = some o := ⟨_, List.getElem?_eq_getElem (by rw [← HI.out.2.2.2.2.1]; exact hlt)⟩
      obtain ⟨V5, T5, r5, h5, m5, l5⟩ := HR.out
      obtain ⟨p, f, hVe, hc⟩ := HI.out.2.1 k o ho
      subst hVe
      have hok := HI.out.2.2.1 o (List.mem_of_getElem? ho)
      have c1 := (h5.b.cell (cell_lt (hc 1 _ rfl))).trans (hc 1 _ rfl)
      have c2 := (h5.b.cell (cell_lt (hc 2 _ rfl))).trans (hc 2 _ rfl)
      have hd5 := h5.go (Below.refl wr.heap.size wr).drew
      have HC := Lib.hid (nsend_any q V5 T5 o.sd o.b o.A o.c wr.drew hd5.nt hd5.ok (hd5.bs (Nat.le_refl _) hok.2.2.1) (by rw [len_of m5]; simp; omega))
      have hkl : (k : Int) < (m : Int) := by omega
      have hk0 : (0 : Int) ≤ (k : Int) := by omega
      have H5 := Lib.hid (And.intro hd5 (And.intro m5 l5))
      clear hc h5 hd5 m5 l5 hok ho HR
      go_upto_region 11 with fail
      go_still_tail 11, (by kernel_rfl)
      change wpList _ _ _ _ _ wr.drew
      obtain ⟨wd, hwd⟩ : ∃ wd, wd = wr.drew := ⟨_, rfl⟩
      rw [← hwd] at HC H5 ⊢
      clear hwd c1 c2
      go_wp2_with fail
      refine HC.out.mono ?_
      rintro e w6 ⟨rfl, V6, T6, h6⟩
      obtain ⟨r6, e6, l6⟩ := sendD_two ⟨t2, b, false⟩ r5 o.sd o.b
      have HN := Lib.hid (show ∃ V T r, NS w.heap.size w w6 q V T ∧ T.map Ng.d = ⟨t2, b, false⟩ :: ⟨t2, b, false⟩ :: r ∧ r.length ≤ k + 1 from ⟨V6, T6, r6, H5.out.1.to h6.out.1 h6.out.2.1, by rw [h6.out.2.2, H5.out.2.1, e6], by have := H5.out.2.2; omega⟩)
      clear h6 e6 l6 HC H5
      go_wp2_with fail
      go_roundw
      case measure => simp [intOf]; omega
      case rel => exact ⟨k + 1, by omega, by go_num, HN⟩
    · obtain rfl : k = m := by omega
      obtain ⟨V5, T5, r5, h5, m5, l5⟩ := HR.out
      have hkk : ¬ ((k : Int) < (k : Int)) := by omega
      obtain ⟨x0, x1, T6, hT⟩ : ∃ x0 x1 T6, T5 = x0 :: x1 :: T6 := by
        match T5, len_of m5 with
        | x0 :: x1 :: T6, _ => exact ⟨x0, x1, T6, rfl⟩
        | [x0], h => simp at h
        | [], h => simp at h
      subst hT
      obtain ⟨s0, b0, A0, c0, g0⟩ := x0
      obtain ⟨s1, b1, A1, c1, g1⟩ := x1
      simp only [List.map_cons, List.cons.injEq, Ng.d, Dg.mk.injEq] at m5
      obtain ⟨⟨a1, a2, a3⟩, ⟨a4, a5, a6⟩, m6⟩ := m5
      have a1' := a1.symm
      have a2' := a2.symm
      have a4' := a4.symm
      have a5' := a5.symm
      clear a1 a2 a4 a5
      subst a1' a2' a3 a4' a5' a6
      have HC := Lib.hid (ntake_yes q V5 (⟨t2, b, A0, c0, false⟩ :: ⟨t2, b, A1, c1, false⟩ :: T6) 1 ⟨t2, b, A1, c1, false⟩ wr h5.nt rfl h5.ok (by have := len_of m6; simp; omega))
      rw [← HI.out.2.2.2.1] at HC
      have H5 := Lib.hid h5
      have hT6 : T6.length ≤ 1000 := by have := len_of m6; omega
      clear h5 l5 HR m6
      go_wp2_with fail
      refine HC.out.mono ?_
      rintro e w6 ⟨rfl, V6, h6⟩
      have H6 := Lib.hid (And.intro (H5.out.to h6.out.1 h6.out.2.1) h6.out.2.2)
      clear h6 HC H5
      obtain ⟨W6, hW6⟩ : ∃ W6, W6 = w6.alloc (.cells #[.int .u8 (t2 : Nat), .slice A1 n c1] 33) := ⟨_, rfl⟩
      go_upto_region 13 with fail
      rw [← hW6]
      have hz6 : W6.heap.size = w6.heap.size + 1 := by rw [hW6]; simp
      have hb6 : Below w6.heap.size w6 W6 := by rw [hW6]; exact below_alloc _ _
      have hB6 : Blk W6 w6.heap.size 33 #[.int .u8 (t2 : Nat), .slice A1 n c1] := by rw [hW6]; exact Blk.new _ _ _
      have X6 := H6.out.1.go hb6
      have HC := Lib.hid (ntake_yes q V6 (⟨t2, b, A0, c0, false⟩ :: T6) 0 ⟨t2, b, A0, c0, false⟩ W6 X6.nt rfl X6.ok (by simp; omega))
      rw [← HI.out.2.2.2.1] at HC
      have HB6 := Lib.hid (And.intro X6 (And.intro hb6 (And.intro hB6 hz6)))
      clear hW6 hz6 hb6 hB6 X6
      go_wp2_with fail
      refine HC.out.mono ?_
      rintro e w7 ⟨rfl, V7, h7⟩
      have H7 := Lib.hid (And.intro (HB6.out.1.to h7.out.1 h7.out.2.1) (And.intro h7.out.1.tou h7.out.2.2))
      clear h7 HC
      obtain ⟨W7, hW7⟩ : ∃ W7, W7 = w7.alloc (.cells #[.int .u8 (t2 : Nat), .slice A0 n c0] 33) := ⟨_, rfl⟩
      go_upto_region 14 with fail
      rw [← hW7]
      have hb7 : Below w7.heap.size w7 W7 := by rw [hW7]; exact below_alloc _ _
      have B7 : Blk W7 w7.heap.size 33 #[.int .u8 (t2 : Nat), .slice A0 n c0] := by rw [hW7]; exact Blk.new _ _ _
      have hB7 : Blk w7 w6.heap.size 33 #[.int .u8 (t2 : Nat), .slice A1 n c1] := H7.out.2.1.blk HB6.out.2.2.1 (fun hk => by have := H6.out.1.nt.lt _ hk; omega)
      have B6 := hB7.below hb7 hB7.lt
      have o1 : OwnB W7 0 (.slice A1 b.length c1) b := OwnB.below (H7.out.2.1.row (H6.out.2.1.below HB6.out.2.1) (fun k hk => H6.out.2.2 k hk)) hb7
      have o0 : OwnB W7 0 (.slice A0 b.length c0) b := H7.out.2.2.1.below hb7
      have X7 := H7.out.1.go hb7
      have sA := str_of (X7.bs (Nat.le_refl _) HI.out.1) c
      have s1 := str_of o1.bs c1
      have s0 := str_of o0.bs c0
      rw [← HI.out.2.2.2.1] at sA s1 s0
      have D6 := bsays B6
      have D7 := bsays B7
      simp only [cellsSay, Nat.reduceAdd, and_true] at D6 D7
      have HEND := Lib.hid X7.b
      clear hW7 hb7 B7 hB7 B6 o1 o0 X7
      go_wp2_with fail
      go_ret
      exact ⟨by simp, HEND.out⟩

theorem netTwice_walk (A : Option Addr) (c : Nat) (b : List UInt8) (to_ : Nat) (V : Option Addr) (cv : Nat) (l : List OpN) (w : World) (hA : Bs w A b) (hb : b.length ≤ maxLen) (hto : to_ < 256) (hV : Rw w encOp 6 V l) (hl : l.length ≤ maxLen) (ho : ∀ o ∈ l, o.ok w) :
    Calls Try.prog 3 #[.slice A b.length c, .int .u8 (to_ : Nat), .slice V l.length cv] w fun e w' => e = .returned (.bool true) ∧ Below w.heap.size w w' := by
  by_cases hk : heavyL l = true ∨ b.length < 1 ∨ 4096 < b.length
  · exact netTwice_known A c b to_ V cv l w hV hl hb ho hk
  · exact netTwice_main A c b to_ V cv l w hA hV hl ho hto hk

end Go.Proofs.Ytanenfbfcbkdhaa
