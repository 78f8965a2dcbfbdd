/- Joined: Nw8, Nw9, Nw10, Nr1, Nr2, Nr3, Nr4, Nr5, Nr6, Nd1, Nd2, Nd3, Nd4, Nd5, Nd6, Nd7. -/
import Derived.Test.YtanenfbfcbkdhaaQ13
import Derived.Test.YtanenfbfcbkdhaaQ11
import Derived.Test.YtanenfbfcbkdhaaQ6
import Derived.BigQuiet
import Derived.Test.YtanenfbfcbkdhaaQ5
set_option linter.unusedSimpArgs false
set_option linter.unusedVariables false
/- Layer 19: known and heavy. -/
set_option linter.unusedSimpArgs false
set_option linter.unusedVariables false
namespace Go.Proofs.Ytanenfbfcbkdhaa
open Go.RowKit
set_option maxRecDepth 100000

theorem len_of {T : List Ng} {L : List Dg} (h : T.map Ng.d = L) : T.length = L.length := by rw [← h, List.length_map]

set_option maxHeartbeats 8000000 in
theorem nknown_any (w : World) : Calls Try.prog 8 #[] w fun e w' => e = .returned (.bool true) ∧ Below w.heap.size w w' := by
  have hmx : Try.prog.follows .mixedOrders = true := by kernel_rfl
  go_enter Try.func8, Try.ntmps8
  go_wp2_with fail
  refine (nnew_any w).mono ?_
  rintro e w1 ⟨rfl, n1, b1⟩
  obtain ⟨q, hq⟩ : ∃ q, q = w.heap.size := ⟨_, rfl⟩
  rw [← hq] at n1 ⊢
  have H1 := Lib.hid (And.intro n1 b1)
  have Hq := Lib.hid hq
  clear n1 b1 hq
  obtain ⟨W1, hW1⟩ : ∃ W1, W1 = w1.alloc (.cells #[.int .u8 7] 5) := ⟨_, rfl⟩
  have hBs : Bs W1 (some ⟨w1.heap.size, 0, none⟩) [7] := by rw [hW1]; exact (own_built w1 [7] (base := 0) (Nat.zero_le _) (by simp)).bs
  have hb1 : Below w1.heap.size w1 W1 := by rw [hW1]; exact below_alloc _ _
  have HB := Lib.hid (And.intro hBs hb1)
  have HC := Lib.hid (nsend_any q _ [] 1 [7] (some ⟨w1.heap.size, 0, none⟩) 1 W1 (H1.out.1.below hb1) (fun t h => by simp at h) hBs (by simp))
  clear hBs hb1
  go_wp2_with fail
  rw [← hW1]
  clear hW1
  refine HC.out.mono ?_
  rintro e w2 ⟨rfl, V2, T2, h2⟩
  rw [show (maySend 1 [7] && decide (([] : List Ng).length < 4096)) = true by decide]
  have H2 := Lib.hid (show NtTo W1 q _ [] w2 V2 T2 ∧ okT T2 ∧ T2.map Ng.d = [⟨1, [7], false⟩] ∧ T2.length = 1 from ⟨h2.out.1, h2.out.2.1, h2.out.2.2, len_of h2.out.2.2⟩)
  clear h2 HC
  have HC := Lib.hid (ntwice_any q V2 T2 0 w2 H2.out.1.nt H2.out.2.1 (by rw [H2.out.2.2.2]; omega))
  go_wp2_with fail
  refine HC.out.mono ?_
  rintro e w3 ⟨rfl, V3, T3, h3⟩
  rw [H2.out.2.2.2, show (isD 1 0 && decide (1 < 4096)) = true by decide]
  have hm3 : T3.map Ng.d = [⟨1, [7], false⟩, ⟨1, [7], false⟩] := by rw [h3.out.2.2, H2.out.2.2.1]; rfl
  have H3 := Lib.hid (show NtTo w2 q V2 T2 w3 V3 T3 ∧ okT T3 ∧ T3.map Ng.d = [⟨1, [7], false⟩, ⟨1, [7], false⟩] ∧ T3.length = 2 from ⟨h3.out.1, h3.out.2.1, hm3, len_of hm3⟩)
  clear h3 hm3 HC
  have HC := Lib.hid (nbend_any q V3 T3 1 0 1 w3 H3.out.1.nt H3.out.2.1 (by omega))
  go_wp2_with fail
  refine HC.out.mono ?_
  rintro e w4 ⟨rfl, V4, T4, h4⟩
  rw [H3.out.2.2.1, show mayBend [⟨1, [7], false⟩, ⟨1, [7], false⟩] 1 0 1 = true by decide]
  have hm4 : T4.map Ng.d = [⟨1, [7], false⟩, ⟨1, [6], true⟩] := by rw [h4.out.2.2, H3.out.2.2.1]; rfl
  have H4 := Lib.hid (show NtTo w3 q V3 T3 w4 V4 T4 ∧ okT T4 ∧ T4.map Ng.d = [⟨1, [7], false⟩, ⟨1, [6], true⟩] ∧ T4.length = 2 from ⟨h4.out.1, h4.out.2.1, hm4, len_of hm4⟩)
  clear h4 hm4 HC
  have HC := Lib.hid (ngrams_any q V4 T4 w4 H4.out.1.nt H4.out.2.1 (by rw [H4.out.2.2.2]; omega))
  go_wp2_with fail
  refine HC.out.mono ?_
  rintro e w5 ⟨R, c, L, rfl, h5⟩
  rw [H4.out.2.2.2] at h5 ⊢
  obtain ⟨g5, m5, b5, -⟩ := h5.out
  rw [H4.out.2.2.1] at m5
  have H5 := Lib.hid (And.intro g5 (And.intro m5 b5))
  clear h5 HC g5 m5 b5
  go_wp2_with fail
  obtain ⟨x0, x1, hL⟩ : ∃ x0 x1, L = [x0, x1] := by
    have := len_of H5.out.2.1
    match L, this with
    | [a, b], _ => exact ⟨a, b, rfl⟩
  subst hL
  have hm5 := H5.out.2.1
  simp only [List.map_cons, List.map_nil, List.cons.injEq, and_true] at hm5
  have hb0 : x0.b = [7] := congrArg Dg.b hm5.1
  have hb1 : x1.b = [6] := congrArg Dg.b hm5.2
  obtain ⟨A, c', hv, -, hR⟩ := OwnR.row Try.eltG H5.out.1.row
  injection hv with e1 _ _
  subst e1
  obtain ⟨gr, o0, hA, hc0⟩ := hR 0 x0 rfl
  obtain ⟨gr1, o1, hA1, hc1⟩ := hR 1 x1 rfl
  have hgo : o0 = 0 := by
    rcases H5.out.1.row.2 with ⟨h9, _⟩ | ⟨g9, cap9, cur, h9, _⟩
    · injection h9 with h9 _ _; rw [h9] at hA; cases hA
    · injection h9 with h9 _ _; rw [h9] at hA; injection hA with hA; injection hA with _ h8 _; exact h8.symm
  subst hgo
  rw [hA] at hA1
  injection hA1 with hA1
  injection hA1 with h8 h9 _
  subst h8 h9 hA
  have c0 := hc0 1 _ rfl
  have c1 := hc1 1 _ rfl
  simp only [vaG, hb0, hb1, Nat.zero_mul, Nat.zero_add, Nat.one_mul, Nat.reduceAdd, Nat.reduceMul, List.length_cons, List.length_nil] at c0 c1
  have e0 : ∀ y : More, (plus w5 y).cell? ⟨gr, 1, none⟩ = some (.slice x0.A 1 x0.c) := fun y => (plus_cell w5 y _ (by rw [c0]; rfl)).trans c0
  have e1 : ∀ y : More, (plus w5 y).cell? ⟨gr, 3, none⟩ = some (.slice x1.A 1 x1.c) := fun y => (plus_cell w5 y _ (by rw [c1]; rfl)).trans c1
  have s0 : ∀ y : More, (convert 22 9 (.slice x0.A 1 x0.c)).run Try.prog (plus w5 y) = .ok (.string ⟨#[7]⟩) (plus w5 y) := fun y => by
    have h9 := str_of (OwnB.bs (H5.out.1.el x0 (by simp)) |>.below (plus_below w5 y)) x0.c
    rw [hb0] at h9
    exact h9
  have s1 : ∀ y : More, (convert 22 9 (.slice x1.A 1 x1.c)).run Try.prog (plus w5 y) = .ok (.string ⟨#[6]⟩) (plus w5 y) := fun y => by
    have h9 := str_of (OwnB.bs (H5.out.1.el x1 (by simp)) |>.below (plus_below w5 y)) x1.c
    rw [hb1] at h9
    exact h9
  have HBt : Hid (∀ (y : More) (i : Int), Calls Try.prog 17 #[.pointer (some ⟨q, 0, none⟩), .int .i64 i] (plus w5 y) fun e w' => e = .returned (.bool (isD 2 i && (([(⟨1, [7], false⟩ : Dg), ⟨1, [6], true⟩][i.toNat]?).map Dg.bent).getD false)) ∧ w' = plus w5 y) := Lib.hid (fun y i => by
    have h9 := nbent_any q V4 T4 i (plus w5 y) ((H4.out.1.nt.below H5.out.2.2).below (plus_below w5 y))
    rw [H4.out.2.2.2, H4.out.2.2.1] at h9
    exact h9)
  have bs1 : ∀ {W : World} {g : Nat} (x : UInt8), Blk W g 5 #[.int .u8 (x.toNat : Nat)] → Bs W (some ⟨g, 0, none⟩) [x] := fun x h => fun i b hi => by
    rcases i with _ | i
    · simp at hi; subst hi; exact ⟨_, 0, rfl, h.cell 0⟩
    · simp at hi
  clear hc0 hc1 hR hm5 hb0 hb1 c0 c1
  refine wp_region_fresh (List.replicate 19 none ++ [some 18] ++ List.replicate 9 none ++ [some 28]) [18, 28, 34, 38] (fun k V z => if k = 18 then ∃ g, V = .slice (some ⟨g, 0, none⟩) 1 1 ∧ Blk z g 5 #[.int .u8 7] else if k = 28 then ∃ g, V = .slice (some ⟨g, 0, none⟩) 1 1 ∧ Blk z g 5 #[.int .u8 6] else if k = 34 then V = .bool true else V = .bool false) hmx (by kernel_rfl) (by kernel_rfl) ?_
  iterate 18 (refine walkF_one none w5 rfl (by kernel_rfl) ?_; go_big_quiet_step (fail); refine wpQuiet_nil ?_)
  refine walkF_make none w5 rfl rfl rfl (by kernel_rfl) (fun x => ?_) ?_
  · refine grow_val (w' := (plus w5 x).alloc (.cells #[.int .u8 7] 5)) (v := .slice (some ⟨(plus w5 x).heap.size, 0, none⟩) 1 1) ?_ (below_alloc _ _) ⟨_, rfl, Blk.new _ _ _⟩
    simp [execOp, go_sem]
  rintro v1 z1 ⟨g1, rfl, hg⟩ gz
  conv => arg 11; simp [Act.put]
  have s8 : ∀ x : More, (convert 22 9 (.slice (some ⟨g1, 0, none⟩) 1 1)).run Try.prog (plus z1 x) = .ok (.string ⟨#[7]⟩) (plus z1 x) := fun x => str_of (bs1 (7 : UInt8) (hg.below (plus_below z1 x) hg.lt)) 1
  refine walkF_one (some 18) z1 rfl (by kernel_rfl) ?_
  go_big_quiet_step (fail)
  refine wpQuiet_nil ?_
  clear s8 gz
  iterate 8 (refine walkF_one none w5 rfl (by kernel_rfl) ?_; go_big_quiet_step (fail); refine wpQuiet_nil ?_)
  refine walkF_make none w5 rfl rfl rfl (by kernel_rfl) (fun x => ?_) ?_
  · refine grow_val (w' := (plus w5 x).alloc (.cells #[.int .u8 6] 5)) (v := .slice (some ⟨(plus w5 x).heap.size, 0, none⟩) 1 1) ?_ (below_alloc _ _) ⟨_, rfl, Blk.new _ _ _⟩
    simp [execOp, go_sem]
  rintro v2 z2 ⟨g2, rfl, hg⟩ gz
  conv => arg 11; simp [Act.put]
  have s8 : ∀ x : More, (convert 22 9 (.slice (some ⟨g2, 0, none⟩) 1 1)).run Try.prog (plus z2 x) = .ok (.string ⟨#[6]⟩) (plus z2 x) := fun x => str_of (bs1 (6 : UInt8) (hg.below (plus_below z2 x) hg.lt)) 1
  refine walkF_one (some 28) z2 rfl (by kernel_rfl) ?_
  go_big_quiet_step (fail)
  refine wpQuiet_nil ?_
  clear s8 gz
  iterate 4 (refine walkF_one none w5 rfl (by kernel_rfl) ?_; go_big_quiet_step (fail); refine wpQuiet_nil ?_)
  refine walkF_make none w5 rfl rfl rfl (by kernel_rfl) (fun x => ?_) ?_
  · refine grow_call ?_ ((HBt.out x 1).mono ?_)
    · simp [execOp, go_sem]
    · rintro e w6 ⟨rfl, rfl⟩
      exact ⟨_, rfl, Below.refl _ _, rfl⟩
  rintro v6 z6 hv6 gz
  obtain rfl : v6 = .bool true := hv6
  conv => arg 11; simp [Act.put]
  clear gz
  iterate 3 (refine walkF_one none w5 rfl (by kernel_rfl) ?_; go_big_quiet_step (fail); refine wpQuiet_nil ?_)
  refine walkF_make none w5 rfl rfl rfl (by kernel_rfl) (fun x => ?_) ?_
  · refine grow_call ?_ ((HBt.out x 0).mono ?_)
    · simp [execOp, go_sem]
    · rintro e w6 ⟨rfl, rfl⟩
      exact ⟨_, rfl, Below.refl _ _, rfl⟩
  rintro v6 z6 hv6 gz
  obtain rfl : v6 = .bool false := hv6
  conv => arg 11; simp [Act.put]
  clear gz
  iterate 3 (refine walkF_one none w5 rfl (by kernel_rfl) ?_; go_big_quiet_step (fail); refine wpQuiet_nil ?_)
  refine walkF_end ?_
  intro w' h0 hE
  clear hE s0 s1 e0 e1
  have HE := Lib.hid h0
  clear h0
  go_wp2_with fail
  go_ret
  have N4 := (((NtTo.same H1.out.1 HB.out.2).trans H2.out.1).trans H3.out.1).trans H4.out.1
  have b4 := N4.tou.under H1.out.2 (fun k hk => by
    rcases hk with rfl | hk | ⟨t, ht, _⟩
    · exact Nat.le_of_eq Hq.out.symm
    · simp [Value.ownBlock] at hk
    · simp at ht) H1.out.2.size
  exact ⟨rfl, on1 (on1 b4 H5.out.2.2) HE.out⟩

end Go.Proofs.Ytanenfbfcbkdhaa

/- Layer 19: heavy. -/
set_option linter.unusedSimpArgs false
set_option linter.unusedVariables false
namespace Go.Proofs.Ytanenfbfcbkdhaa
open Go.RowKit
set_option maxRecDepth 100000

/-- what heavy says -/
def heavyL (l : List OpN) : Bool := decide (80 < l.length) || l.any fun o => decide (5000 < o.b.length)
theorem heavyL_no {l : List OpN} (h : heavyL l = false) : l.length ≤ 80 ∧ ∀ o ∈ l, o.b.length ≤ 5000 := by
  unfold heavyL at h
  rw [Bool.or_eq_false_iff] at h
  refine ⟨by have := of_decide_eq_false h.1; omega, fun o ho => ?_⟩
  have := List.any_eq_false.1 h.2 o ho
  simp at this
  omega

set_option maxHeartbeats 2000000 in
theorem nheavy_any (V : Option Addr) (c : Nat) (l : List OpN) (w : World) (hV : Rw w encOp 6 V l) (hl : l.length ≤ maxLen) (hb : ∀ o ∈ l, o.b.length ≤ maxLen) :
    Calls Try.prog 7 #[.slice V l.length c] w fun e w' => e = .returned (.bool (heavyL l)) ∧ w' = w := by
  obtain ⟨n, hn⟩ : ∃ n, n = l.length := ⟨_, rfl⟩
  rw [← hn]
  by_cases h80 : 80 < n
  · have hd : decide ((80 : Int) < (n : Int)) = true := decide_eq_true (by omega)
    have he : heavyL l = true := by unfold heavyL; rw [← hn, decide_eq_true h80]; rfl
    rw [he]
    clear hV hl hb he hn
    go_enter Try.func7, Try.ntmps7
    go_wp2_with fail
    go_ret
    exact ⟨rfl, rfl⟩
  · have hd : decide ((80 : Int) < (n : Int)) = false := decide_eq_false (by omega)
    have hn80 : n ≤ 80 := by omega
    have HV := Lib.hid hV
    have Hn := Lib.hid hn
    have Hb := Lib.hid hb
    have hdn : Hid (decide (80 < l.length) = false) := Lib.hid (by rw [← hn]; exact decide_eq_false h80)
    clear hV hl hb hn h80
    go_enter Try.func7, Try.ntmps7
    go_wp2_with fail
    go_loopw [3] (fun s wr => ∃ k : Nat, k ≤ n ∧ s = .int .i64 k ∧ Hid (wr = w ∧ ∀ o ∈ l.take k, o.b.length ≤ 5000)) (fun s _ => n - (intOf s).toNat)
    case atStart => exact ⟨0, Nat.zero_le _, rfl, Lib.hid ⟨rfl, by simp⟩⟩
    case round =>
      obtain ⟨k, hk, rfl, HR⟩ := hrel
      by_cases hlt : k < n
      · obtain ⟨o, ho⟩ : ∃ o, l[k]? = some o := ⟨_, List.getElem?_eq_getElem (by rw [← Hn.out]; exact hlt)⟩
        obtain ⟨p, f, rfl, hc⟩ := HV.out k o ho
        have c2 := hc 2 _ rfl
        rw [← HR.out.1] at c2
        obtain ⟨b, hbn⟩ : ∃ b, b = o.b.length := ⟨_, rfl⟩
        rw [← hbn] at c2
        have hbm : b ≤ maxLen := by rw [hbn]; exact Hb.out o (List.mem_of_getElem? ho)
        have hkl : (k : Int) < (n : Int) := by omega
        by_cases h5 : 5000 < b
        · have hd2 : decide ((5000 : Int) < (b : Int)) = true := decide_eq_true (by omega)
          have he : Hid (heavyL l = true) := Lib.hid (by
            unfold heavyL
            rw [Bool.or_eq_true]
            right
            exact List.any_eq_true.2 ⟨o, List.mem_of_getElem? ho, decide_eq_true (by rw [← hbn]; exact h5)⟩)
          clear hc h5 hbn
          go_wp2_with fail
          go_ret
          exact ⟨by simp [he.out], HR.out.1⟩
        · have hd2 : decide ((5000 : Int) < (b : Int)) = false := decide_eq_false (by omega)
          have HN : Hid (∀ o ∈ l.take (k + 1), o.b.length ≤ 5000) := Lib.hid (fun x hx => by
            rw [List.take_add_one, ho, List.mem_append] at hx
            rcases hx with h1 | h1
            · exact HR.out.2 x h1
            · simp at h1; subst h1; rw [← hbn]; omega)
          clear hc h5 hbn
          go_wp2_with fail
          go_roundw
          case measure => simp [intOf]; omega
          case rel => exact ⟨k + 1, by omega, by go_num, Lib.hid ⟨HR.out.1, HN.out⟩⟩
      · obtain rfl : k = n := by omega
        have he : Hid (heavyL l = false) := Lib.hid (by
          unfold heavyL
          rw [hdn.out, Bool.false_or]
          apply List.any_eq_false.2
          intro x hx
          have := HR.out.2 x (by rw [Hn.out, List.take_length]; exact hx)
          simp; omega)
        have hkk : ¬ ((k : Int) < (k : Int)) := by omega
        go_wp2_with fail
        go_ret
        exact ⟨by simp [he.out], HR.out.1⟩

end Go.Proofs.Ytanenfbfcbkdhaa

/- Layer 19: walk of NetTwice. -/
set_option linter.unusedSimpArgs false
set_option linter.unusedVariables false
namespace Go.Proofs.Ytanenfbfcbkdhaa
open Go.RowKit
set_option maxRecDepth 100000

/-- a network of the call's own -/
structure NS (B : Nat) (w0 W : World) (q : Nat) (V : Value) (T : List Ng) : Prop where
  b : Below B w0 W
  sz : B ≤ W.heap.size
  nt : Nt W q V T
  ok : okT T
  ft : ∀ k, ftN q V T k → B ≤ k
section
variable {B : Nat} {w0 W W' : World} {q : Nat} {V V' : Value} {T T' : List Ng}
theorem NS.to (h : NS B w0 W q V T) (t : NtTo W q V T W' V' T') (ok : okT T') : NS B w0 W' q V' T' :=
  ⟨t.tou.under h.b h.ft h.sz, Nat.le_trans h.sz t.tou.size, t.nt, ok, fun k hk => (t.new k hk).elim (h.ft k) (fun e => Nat.le_trans h.sz e)⟩
theorem NS.go (h : NS B w0 W q V T) (b : Below W.heap.size W W') : NS B w0 W' q V T := h.to (NtTo.same h.nt b) h.ok
theorem NS.bs (h : NS B w0 W q V T) (hB : w0.heap.size ≤ B) {A : Option Addr} {l : List UInt8} (b : Bs w0 A l) : Bs W A l := fun i x hi => by
  obtain ⟨p, o, hA, hc⟩ := b i x hi
  exact ⟨p, o, hA, (h.b.cell (Nat.lt_of_lt_of_le (cell_lt hc) hB)).trans hc⟩
end
theorem sendD_two (d : Dg) (r : List Dg) (sd : Nat) (b : List UInt8) : ∃ r', sendD (d :: d :: r) sd b = d :: d :: r' ∧ r'.length ≤ r.length + 1 := by
  unfold sendD addD
  split
  · split
    · exact ⟨r ++ [⟨sd, b, false⟩], by simp, by simp⟩
    · exact ⟨r, rfl, by omega⟩
  · exact ⟨r, rfl, by omega⟩

theorem netTwice_known (A : Option Addr) (c : Nat) (b : List UInt8) (to_ : Nat) (V : Option Addr) (cv : Nat) (l : List OpN) (w : World) (hV : Rw w encOp 6 V l) (hl : l.length ≤ maxLen) (hb : b.length ≤ maxLen) (ho : ∀ o ∈ l, o.ok w) (hk : heavyL l = true ∨ b.length < 1 ∨ 4096 < b.length) :
    Calls Try.prog 3 #[.slice A b.length c, .int .u8 (to_ : Nat), .slice V l.length cv] w fun e w' => e = .returned (.bool true) ∧ Below w.heap.size w w' := by
  have HH := Lib.hid (nheavy_any V cv l w hV hl (fun o h => (ho o h).2.2.2.1))
  have HK := Lib.hid (nknown_any w)
  obtain ⟨n, hn⟩ : ∃ n, n = b.length := ⟨_, rfl⟩
  rw [← hn] at hk ⊢
  clear hV hl hb ho hn
  cases hh : heavyL l with
  | true =>
    rw [hh] at HH
    clear hk hh
    go_enter Try.func3, Try.ntmps3
    go_wp2_with fail
    refine HH.out.mono ?_
    rintro e w1 ⟨rfl, hw⟩
    rw [hw]
    clear hw
    go_wp2_with fail
    refine HK.out.mono ?_
    rintro e w1 ⟨rfl, k⟩
    have Hk := Lib.hid k
    clear k
    go_wp2_with fail
    go_ret
    exact ⟨rfl, Hk.out⟩
  | false =>
    rw [hh] at HH hk
    by_cases h1 : n < 1
    · have hd : decide ((n : Int) < 1) = true := decide_eq_true (by omega)
      clear hk hh h1
      go_enter Try.func3, Try.ntmps3
      go_wp2_with fail
      refine HH.out.mono ?_
      rintro e w1 ⟨rfl, hw⟩
      rw [hw]
      clear hw
      go_wp2_with fail
      refine HK.out.mono ?_
      rintro e w1 ⟨rfl, k⟩
      have Hk := Lib.hid k
      clear k
      go_wp2_with fail
      go_ret
      exact ⟨rfl, Hk.out⟩
    · have hd : decide ((n : Int) < 1) = false := decide_eq_false (by omega)
      have hd2 : decide ((4096 : Int) < (n : Int)) = true := decide_eq_true (by
        rcases hk with h9 | h9 | h9
        · cases h9
        · omega
        · omega)
      clear hk hh h1
      go_enter Try.func3, Try.ntmps3
      go_wp2_with fail
      refine HH.out.mono ?_
      rintro e w1 ⟨rfl, hw⟩
      rw [hw]
      clear hw
      go_wp2_with fail
      refine HK.out.mono ?_
      rintro e w1 ⟨rfl, k⟩
      have Hk := Lib.hid k
      clear k
      go_wp2_with fail
      go_ret
      exact ⟨rfl, Hk.out⟩

end Go.Proofs.Ytanenfbfcbkdhaa

/- Layer 19: the document's network: how it lies, New, is, Bent, add. -/
set_option linter.unusedSimpArgs false
set_option linter.unusedVariables false
namespace Go.Proofs.Ytanenfbfcbkdhaa
open Go.RowKit
set_option maxRecDepth 100000

def encT (g : Ng) : List Value := [.bool g.bent]
theorem Try.eltT : Elt Try.prog 43 4 encT 1 1 := ⟨Try.underlying43, ⟨.bool false, by kernel_rfl, rfl⟩, by decide, fun _ => rfl, fun x v h => by
  simp [encT] at h; rcases h with rfl; rfl⟩
/-- the document's network -/
structure Rn (w : World) (q : Nat) (VL VB : Value) (T : List Ng) : Prop where
  bx : Blk w q 45 #[VL, VB]
  gl : Gl (·.b) vaG w 33 encG 2 VL T
  bo : OwnR w 0 4 encT 1 VB T
  nq : ∀ k, footG vaG VL T k → k ≠ q
  bq : VB.ownBlock ≠ some q
  nb : ∀ k, footG vaG VL T k → VB.ownBlock ≠ some k
def ftR (q : Nat) (VL VB : Value) (T : List Ng) : Nat → Prop := fun k => k = q ∨ footG vaG VL T k ∨ VB.ownBlock = some k
structure RnTo (w : World) (q : Nat) (VL VB : Value) (T : List Ng) (w' : World) (VL' VB' : Value) (T' : List Ng) : Prop where
  nt : Rn w' q VL' VB' T'
  tou : Tou (ftR q VL VB T) w w'
  new : ∀ k, ftR q VL' VB' T' k → ftR q VL VB T k ∨ w.heap.size ≤ k
section
variable {w w' w1 w2 : World} {q : Nat} {VL VB VL1 VB1 VL2 VB2 : Value} {T T1 T2 : List Ng}
theorem Rn.kept {F : Nat → Prop} (h : Rn w q VL VB T) (t : Tou F w w') (hF : ∀ k, ftR q VL VB T k → ¬ F k) : Rn w' q VL VB T :=
  ⟨t.blk h.bx (hF q (.inl rfl)), h.gl.kept t (fun k hk => hF k (.inr (.inl hk))), t.row h.bo (fun k hk => hF k (.inr (.inr hk))), h.nq, h.bq, h.nb⟩
theorem Rn.below (h : Rn w q VL VB T) (b : Below w.heap.size w w') : Rn w' q VL VB T := h.kept (F := fun _ => False) (Tou.of_below b) (fun _ _ e => e)
theorem Rn.lt (h : Rn w q VL VB T) : ∀ k, ftR q VL VB T k → k < w.heap.size := fun k hk => by
  rcases hk with rfl | hk | hk
  · exact h.bx.lt
  · exact h.gl.lt k hk
  · exact (World.ownsRow.lt h.bo k hk).2
theorem RnTo.same (h : Rn w q VL VB T) (b : Below w.heap.size w w') : RnTo w q VL VB T w' VL VB T := ⟨h.below b, (Tou.of_below b : Tou (ftR q VL VB T) w w'), fun _ hk => .inl hk⟩
theorem RnTo.trans (h : RnTo w q VL VB T w1 VL1 VB1 T1) (k : RnTo w1 q VL1 VB1 T1 w2 VL2 VB2 T2) : RnTo w q VL VB T w2 VL2 VB2 T2 :=
  ⟨k.nt, h.tou.trans k.tou (fun j hj hk => (h.new j hk).elim id (fun e => absurd hj (by omega))), fun j hj => by
    rcases k.new j hj with h1 | h1
    · exact h.new j h1
    · exact .inr (Nat.le_trans h.tou.size h1)⟩
theorem Rn.shape (h : Rn w q VL VB T) : (∃ A c, VL = .slice A T.length c ∧ T.length ≤ c ∧ Rw w encG 2 A T) ∧ ∃ A c, VB = .slice A T.length c ∧ T.length ≤ c ∧ Rw w encT 1 A T := ⟨OwnR.row Try.eltG h.gl.row, OwnR.row Try.eltT h.bo⟩
theorem Rn.bytes (h : Rn w q VL VB T) {i : Nat} {x : Ng} (hi : T[i]? = some x) : Bs w x.A x.b := OwnB.bs (h.gl.el x (List.mem_of_getElem? hi))
theorem below_none (h : w.grownBy w' none) : Below w.heap.size w w' := Below.grown (Below.refl _ _) h (Nat.le_refl _) (fun k e => by cases e)
end

theorem rnnew_any (w : World) : Calls Try.prog 13 #[] w fun e w' => e = .returned (.pointer (some ⟨w.heap.size, 0, none⟩)) ∧ Rn w' w.heap.size (.slice none 0 0) (.slice none 0 0) [] ∧ Below w.heap.size w w' := by
  have h : Rn (w.alloc (.cells #[.slice none 0 0, .slice none 0 0] 45)) w.heap.size (.slice none 0 0) (.slice none 0 0) [] := ⟨Blk.new _ _ _, Gl.nil _ _ _ _ _ _, OwnR.nil _ _ _ _ _, fun k hk => by rcases hk with hk | ⟨t, ht, _⟩ <;> simp_all [Value.ownBlock], by simp [Value.ownBlock], fun k hk => by simp [Value.ownBlock]⟩
  have H := Lib.hid (And.intro h (below_alloc w (.cells #[.slice none 0 0, .slice none 0 0] 45)))
  clear h
  go_enter Try.func13, Try.ntmps13
  go_wp2_with fail
  go_ret
  exact ⟨rfl, H.out⟩

theorem ris_any (q n : Nat) (AL : Option Addr) (cL : Nat) (VB : Value) (i : Int) (w : World) (h : Blk w q 45 #[.slice AL n cL, VB]) :
    Calls Try.prog 30 #[.pointer (some ⟨q, 0, none⟩), .int .i64 i] w fun e w' => e = .returned (.bool (isD n i)) ∧ w' = w := by
  have C := bsays h
  simp only [cellsSay, Nat.reduceAdd, and_true] at C
  clear h
  by_cases h0 : 0 ≤ i
  · by_cases h1 : i < (n : Int)
    · rw [show isD n i = true from decide_eq_true ⟨h0, h1⟩]
      have k1 : decide (0 ≤ i) = true := decide_eq_true h0
      have k2 : decide (i < (n : Int)) = true := decide_eq_true h1
      clear h0 h1
      go_enter Try.func30, Try.ntmps30
      go_wp2_with fail
      go_ret
      exact ⟨rfl, rfl⟩
    · rw [show isD n i = false from decide_eq_false (fun e => h1 e.2)]
      have k1 : decide (0 ≤ i) = true := decide_eq_true h0
      have k2 : decide (i < (n : Int)) = false := decide_eq_false h1
      clear h0 h1
      go_enter Try.func30, Try.ntmps30
      go_wp2_with fail
      go_ret
      exact ⟨rfl, rfl⟩
  · rw [show isD n i = false from decide_eq_false (fun e => h0 e.1)]
    have k1 : decide (0 ≤ i) = false := decide_eq_false h0
    clear h0
    go_enter Try.func30, Try.ntmps30
    go_wp2_with fail
    go_ret
    exact ⟨rfl, rfl⟩

theorem rbent_any (q : Nat) (VL VB : Value) (T : List Ng) (i : Int) (w : World) (h : Rn w q VL VB T) :
    Calls Try.prog 18 #[.pointer (some ⟨q, 0, none⟩), .int .i64 i] w fun e w' => e = .returned (.bool (isD T.length i && ((T.map Ng.d)[i.toNat]?.map Dg.bent).getD false)) ∧ w' = w := by
  obtain ⟨⟨AL, cL, rfl, -, -⟩, AB, cB, rfl, -, hR⟩ := h.shape
  have HI := Lib.hid (ris_any q T.length AL cL (.slice AB T.length cB) i w h.bx)
  have C := bsays h.bx
  simp only [cellsSay, Nat.reduceAdd, and_true] at C
  by_cases hi : 0 ≤ i ∧ i < (T.length : Int)
  · obtain ⟨j, rfl⟩ := Int.eq_ofNat_of_zero_le hi.1
    have hj : j < T.length := by omega
    obtain ⟨x, hx⟩ : ∃ x, T[j]? = some x := ⟨_, List.getElem?_eq_getElem hj⟩
    have e0 : isD T.length (j : Int) = true := decide_eq_true hi
    have e1 : (isD T.length (j : Int) && ((T.map Ng.d)[(j : Int).toNat]?.map Dg.bent).getD false) = x.bent := by
      rw [e0, Int.toNat_natCast, List.getElem?_map, hx]
      rfl
    rw [e1]
    rw [e0] at HI
    obtain ⟨p, o, rfl, hc⟩ := hR j x hx
    have c0 := hc 0 _ rfl
    simp only [Nat.mul_one, Nat.add_zero] at c0
    have hk1 : (0 : Int) ≤ (j : Int) := by omega
    have hk2 : (j : Int) < (T.length : Int) := by omega
    clear h hx hi e1 e0 hR hc
    go_enter Try.func18, Try.ntmps18
    go_wp2_with fail
    refine HI.out.mono ?_
    rintro e w1 ⟨rfl, hw⟩
    rw [hw]
    clear hw
    go_wp2_with fail
    go_ret
    exact ⟨rfl, rfl⟩
  · have e1 : isD T.length i = false := decide_eq_false hi
    rw [e1] at HI ⊢
    clear h hi e1 hR
    go_enter Try.func18, Try.ntmps18
    go_wp2_with fail
    refine HI.out.mono ?_
    rintro e w1 ⟨rfl, hw⟩
    rw [hw]
    clear hw
    go_wp2_with fail
    go_ret
    exact ⟨by simp, rfl⟩

end Go.Proofs.Ytanenfbfcbkdhaa

/- Layer 19: the document's add. -/
set_option linter.unusedSimpArgs false
set_option linter.unusedVariables false
namespace Go.Proofs.Ytanenfbfcbkdhaa
open Go.RowKit
set_option maxRecDepth 100000

set_option maxHeartbeats 8000000 in
theorem radd_any (q sd : Nat) (b : List UInt8) (A : Option Addr) (c : Nat) (bent : Bool) (VL VB : Value) (T : List Ng) (w : World) (h : Rn w q VL VB T) (hA : Bs w A b) (hL : b.length ≤ 100000) (hT : T.length ≤ 1000000) :
    Calls Try.prog 31 #[.pointer (some ⟨q, 0, none⟩), .int .u8 (sd : Nat), .slice A b.length c, .bool bent] w fun e w' => e = .returned (.tuple #[]) ∧ ∃ VL' VB' A' c', Hid (RnTo w q VL VB T w' VL' VB' (T ++ [⟨sd, b, A', c', bent⟩])) := by
  obtain ⟨⟨AL, cL, hVL, -, -⟩, AB, cB, hVB, -, -⟩ := h.shape
  subst hVL hVB
  obtain ⟨m, hm⟩ : ∃ m, m = T.length := ⟨_, rfl⟩
  have hm6 : m ≤ 1000000 := by omega
  rw [← hm] at h ⊢
  have hq := h.bx.lt
  have HK := Lib.hid (((Qs.nil w).cons (k := qU (ftR q (.slice AL m cL) (.slice AB m cB) T) w) (Tou.refl _ _)).cons (k := qB _ _ _) h.bx)
  have HN := Lib.hid h
  have Hm := Lib.hid hm
  have HA := Lib.hid hA
  clear h hm hA hT
  go_enter Try.func31, Try.ntmps31
  go_upto_region 2 with (at_builtin; go_must (refine appAllL _ rfl (.tmp 9) (.tmp 10) rfl w.heap.size (.slice none 0 0) [] rfl (OwnB.nil _ _) A c b rfl HA.out (by simp; omega) (Nat.le_refl _) ?_); intro A1 c1 w1 hown1 hg1 hl1)
  have b1 := below_none hg1
  simp only [List.length_nil, Nat.zero_add, List.nil_append] at hown1
  have H1 := Lib.hid (And.intro hown1 b1)
  have HK1 := Lib.hid ((HK.out.go b1).alloc (.cells #[.int .u8 (sd : Nat), .slice A1 b.length c1] 33))
  have C := (HK.out.go b1).says
  simp only [sayAll, cellsSay, qB, qU, Nat.reduceAdd, and_true, true_and] at C
  have HR1 := Lib.hid ((HN.out.gl.row.below b1).alloc (.cells #[.int .u8 (sd : Nat), .slice A1 b.length c1] 33))
  clear hown1 hg1 hl1 b1 HK
  go_upto_region 3 with (at_builtin; go_must (refine appR1L Try.eltG _ rfl (.tmp 16) (.tmp 20) rfl 0 (.slice AL m cL) T rfl HR1.out w1.heap.size 1 ⟨sd, b, A1, c1, bent⟩ _ _ rfl (Blk.new w1 _ _) rfl (by unfold maxLen; have := Hm.out; omega) (by have := Hm.out; omega) (Nat.zero_le _) ?_); intro g2 c2 w2 hown2 hgr2 hor2 hlt2; have HK2 := Lib.hid (HK1.out.grow hgr2 (fun k e => by have h2 := HN.out.nq k (.inl e); simp only [apAll, qB, qU, and_true]; exact ⟨fun e => h2 e.symm, .inl (.inr (.inl (.inl e)))⟩)); have C2 := HK2.out.says; simp only [sayAll, cellsSay, qB, qU, Nat.reduceAdd, and_true, true_and] at C2)
  generalize hW3 : World.setCell _ _ _ = W3
  have K3 := HK2.out.putTo 0 q [(0, .slice (some ⟨g2, 0, none⟩) (T.length + 1) c2)] #[.slice (some ⟨g2, 0, none⟩) (T.length + 1) c2, .slice AB m cB] hW3 (by simp only [apBut, apAll, qB, qU, ftR, true_or, and_true])
  simp only [List.set] at K3
  have hb8 : Below w.heap.size w (w1.alloc (.cells #[.int .u8 (sd : Nat), .slice A1 b.length c1] 33)) := H1.out.2.alloc H1.out.2.size _
  have hV2 : ∀ k, (Value.slice (some ⟨g2, 0, none⟩) (T.length + 1) c2).ownBlock = some k → (Value.slice AL m cL).ownBlock = some k ∨ (w1.alloc (.cells #[.int .u8 (sd : Nat), .slice A1 b.length c1] 33)).heap.size ≤ k := fun k e => by
    have e2 : g2 = k := by simpa [Value.ownBlock] using e
    subst e2
    rcases hor2 with h9 | h9
    · exact .inl h9
    · exact .inr (Nat.le_of_eq h9.symm)
  obtain ⟨x8, hx8⟩ : ∃ x8 : Ng, x8 = ⟨sd, b, A1, c1, bent⟩ := ⟨_, rfl⟩
  rw [← hx8] at hown2
  have hx : ∀ k, (vaG x8).ownBlock = some k → w.heap.size ≤ k := fun k e => by
    rw [hx8] at e
    exact (World.ownsRow.lt H1.out.1 k e).1
  have hox : OwnB (w1.alloc (.cells #[.int .u8 (sd : Nat), .slice A1 b.length c1] 33)) 0 (vaG x8) x8.b := by
    rw [hx8]
    exact (H1.out.1.mono (Nat.zero_le _)).below (below_alloc _ _)
  have G2 : Gl (·.b) vaG w2 33 encG 2 (.slice (some ⟨g2, 0, none⟩) (T.length + 1) c2) (T ++ [x8]) := HN.out.gl.snoc (x := x8) hb8 hown2 hgr2 hV2 hox hx
  have hnew : ∀ k, footG vaG (.slice (some ⟨g2, 0, none⟩) (T.length + 1) c2) (T ++ [x8]) k → footG vaG (.slice AL m cL) T k ∨ w.heap.size ≤ k := footG_snoc (fun k e => (hV2 k e).imp id (fun h => Nat.le_trans hb8.size h)) hx
  have hnq : ∀ k, footG vaG (.slice (some ⟨g2, 0, none⟩) (T.length + 1) c2) (T ++ [x8]) k → k ≠ q := fun k hk e => by
    rcases hnew k hk with h9 | h9
    · exact HN.out.nq k h9 e
    · omega
  have tq : Tou (fun k => k = q) w2 W3 := by rw [← hW3]; exact Tou.set q 0 _ rfl
  have G3 : Gl (·.b) vaG W3 33 encG 2 (.slice (some ⟨g2, 0, none⟩) (T.length + 1) c2) (T ++ [x8]) := G2.kept tq hnq
  have hBlt : ∀ k, (Value.slice AB m cB).ownBlock = some k → k < w.heap.size := fun k hk => HN.out.lt k (.inr (.inr hk))
  have R2 : OwnR w2 0 4 encT 1 (.slice AB m cB) T := (Tou.of_grown (F := fun k => (Value.slice AL m cL).ownBlock = some k) hgr2 (fun k e => e)).row (HN.out.bo.below hb8) (fun k hk e => HN.out.nb k (.inl e) hk)
  have R3 : OwnR W3 0 4 encT 1 (.slice AB m cB) T := tq.row R2 (fun k hk e => HN.out.bq (by rw [← e]; exact hk))
  have HG := Lib.hid (And.intro G3 (And.intro hnew (And.intro hnq (And.intro hBlt hx8))))
  have HK3 := Lib.hid (K3.alloc (.cells #[.bool bent] 4))
  have HR3 := Lib.hid (R3.alloc (.cells #[.bool bent] 4))
  have C3 := K3.says
  simp only [sayAll, cellsSay, qB, qU, Nat.reduceAdd, and_true, true_and] at C3
  have hzs : w.heap.size ≤ W3.heap.size := C3.2
  clear hW3 K3 hb8 hV2 hx8 hown2 hx hox G2 hnew hnq tq G3 hBlt R2 R3 hgr2 hor2 hlt2 C C2 HK2 HK1 HR1
  obtain ⟨V2, hV2⟩ : ∃ V2 : Value, V2 = .slice (some ⟨g2, 0, none⟩) (T.length + 1) c2 := ⟨_, rfl⟩
  go_wp2_with (at_builtin; go_must (refine appR1L Try.eltT _ rfl (.tmp 28) (.tmp 30) rfl 0 (.slice AB m cB) T rfl HR3.out W3.heap.size 1 x8 _ _ rfl (Blk.new W3 _ _) (by rw [HG.out.2.2.2.2]; rfl) (by unfold maxLen; have := Hm.out; omega) (by have := Hm.out; omega) (Nat.zero_le _) ?_); intro g5 c5 w5 hown5 hgr5 hor5 hlt5; have HK5 := Lib.hid (HK3.out.grow hgr5 (fun k e => by have h2 := HN.out.bq; simp only [apAll, qB, qU, and_true]; exact ⟨fun e2 => h2 (by rw [e2]; exact e), .inl (.inr (.inr e))⟩)); have C5 := HK5.out.says; simp only [sayAll, cellsSay, qB, qU, Nat.reduceAdd, and_true, true_and] at C5)
  generalize hW6 : World.setCell _ _ _ = W6
  have K6 := HK5.out.putTo 0 q [(1, .slice (some ⟨g5, 0, none⟩) (T.length + 1) c5)] #[.slice (some ⟨g2, 0, none⟩) (T.length + 1) c2, .slice (some ⟨g5, 0, none⟩) (T.length + 1) c5] hW6 (by simp only [apBut, apAll, qB, qU, ftR, true_or, and_true])
  simp only [List.set] at K6
  obtain ⟨G3, hnew, hnq, hBlt, hx8⟩ := HG.out
  have tB : Tou (fun k => (Value.slice AB m cB).ownBlock = some k) (W3.alloc (.cells #[.bool bent] 4)) w5 := Tou.of_grown hgr5 (fun k e => e)
  have tq : Tou (fun k => k = q) w5 W6 := by rw [← hW6]; exact Tou.set q 1 _ rfl
  have hnb : ∀ k, footG vaG (.slice (some ⟨g2, 0, none⟩) (T.length + 1) c2) (T ++ [x8]) k → (Value.slice AB m cB).ownBlock ≠ some k := fun k hk e => by
    rcases hnew k hk with h9 | h9
    · exact HN.out.nb k h9 e
    · have := hBlt k e; omega
  have G6 := ((G3.below (below_alloc W3 (.cells #[.bool bent] 4))).kept tB hnb).kept tq hnq
  have hV5 : ∀ k, (Value.slice (some ⟨g5, 0, none⟩) (T.length + 1) c5).ownBlock = some k → (Value.slice AB m cB).ownBlock = some k ∨ W3.heap.size ≤ k := fun k e => by
    have e2 : g5 = k := by simpa [Value.ownBlock] using e
    subst e2
    rcases hor5 with h9 | h9
    · exact .inl h9
    · refine .inr ?_
      rw [h9]; simp
  have hg5q : (Value.slice (some ⟨g5, 0, none⟩) (T.length + 1) c5).ownBlock ≠ some q := fun e => by
    rcases hV5 q e with h9 | h9
    · exact HN.out.bq h9
    · omega
  have R6 : OwnR W6 0 4 encT 1 (.slice (some ⟨g5, 0, none⟩) (T.length + 1) c5) (T ++ [x8]) := tq.row hown5 (fun k hk e => hg5q (by rw [← e]; exact hk))
  have hnb6 : ∀ k, footG vaG (.slice (some ⟨g2, 0, none⟩) (T.length + 1) c2) (T ++ [x8]) k → (Value.slice (some ⟨g5, 0, none⟩) (T.length + 1) c5).ownBlock ≠ some k := fun k hk e => by
    rcases hV5 k e with h9 | h9
    · exact hnb k hk h9
    · have := G3.lt k hk; omega
  rw [hx8] at G6 R6 hnb6 hnq hnew
  have HEND := Lib.hid (show RnTo w q (.slice AL m cL) (.slice AB m cB) T W6 (.slice (some ⟨g2, 0, none⟩) (T.length + 1) c2) (.slice (some ⟨g5, 0, none⟩) (T.length + 1) c5) (T ++ [⟨sd, b, A1, c1, bent⟩]) from ⟨⟨K6.blk 0, G6, R6, hnq, hg5q, hnb6⟩, K6.tou 1, fun k hk => by
    rcases hk with rfl | hk | hk
    · exact .inl (.inl rfl)
    · exact (hnew k hk).imp (fun h => .inr (.inl h)) id
    · exact (hV5 k hk).imp (fun h => .inr (.inr h)) (fun h => Nat.le_trans hzs h)⟩)
  go_end0
  exact ⟨rfl, _, _, _, _, HEND⟩

end Go.Proofs.Ytanenfbfcbkdhaa

/- Layer 19: the document's Send and Twice. -/
set_option linter.unusedSimpArgs false
set_option linter.unusedVariables false
namespace Go.Proofs.Ytanenfbfcbkdhaa
open Go.RowKit
set_option maxRecDepth 100000

/-- what a call that turns the document's network leaves -/
def RnOut (w : World) (q : Nat) (VL VB : Value) (T : List Ng) (w' : World) (L' : List Dg) : Prop := ∃ VL' VB' T', Hid (RnTo w q VL VB T w' VL' VB' T' ∧ okT T' ∧ T'.map Ng.d = L')

theorem radd_out (q sd : Nat) (b : List UInt8) (A : Option Addr) (c : Nat) (bent : Bool) (VL VB : Value) (T : List Ng) (w : World) (h : Rn w q VL VB T) (hk : okT T) (hA : Bs w A b) (hb : 0 < b.length) (hL : b.length ≤ 4096) (hT : T.length < 4096) :
    Calls Try.prog 31 #[.pointer (some ⟨q, 0, none⟩), .int .u8 (sd : Nat), .slice A b.length c, .bool bent] w fun e w' => e = .returned (.tuple #[]) ∧ RnOut w q VL VB T w' (addD (T.map Ng.d) ⟨sd, b, bent⟩) := by
  refine (radd_any q sd b A c bent VL VB T w h hA (by omega) (by omega)).mono ?_
  rintro e w1 ⟨rfl, VL', VB', A', c', k⟩
  exact ⟨rfl, VL', VB', _, Lib.hid ⟨k.out, hk.snoc ⟨hb, hL⟩, by unfold addD; rw [List.length_map, if_pos hT, List.map_append]; rfl⟩⟩
theorem RnOut.same {w w' : World} {q : Nat} {VL VB : Value} {T : List Ng} {L : List Dg} (h : Rn w q VL VB T) (hk : okT T) (b : Below w.heap.size w w') (hL : T.map Ng.d = L) : RnOut w q VL VB T w' L := ⟨VL, VB, T, Lib.hid ⟨RnTo.same h b, hk, hL⟩⟩

set_option maxHeartbeats 4000000 in
theorem rsend_any (q sd : Nat) (b : List UInt8) (A : Option Addr) (c : Nat) (VL VB : Value) (T : List Ng) (w : World) (h : Rn w q VL VB T) (hk : okT T) (hA : Bs w A b) (hT2 : T.length ≤ 1000000) :
    Calls Try.prog 28 #[.pointer (some ⟨q, 0, none⟩), .int .u8 (sd : Nat), .slice A b.length c] w fun e w' => e = .returned (.bool (maySend sd b && decide (T.length < 4096))) ∧ RnOut w q VL VB T w' (sendD (T.map Ng.d) sd b) := by
  obtain ⟨⟨AL, cL, hVL, -, -⟩, AB, cB, hVB, -, -⟩ := h.shape
  subst hVL hVB
  have C := bsays h.bx
  simp only [cellsSay, Nat.reduceAdd, and_true] at C
  by_cases hm : maySend sd b = true
  · have hm2 : (sd = 0 ∨ sd = 1) ∧ 0 < b.length ∧ b.length ≤ 4096 := of_decide_eq_true hm
    have he : sendD (T.map Ng.d) sd b = addD (T.map Ng.d) ⟨sd, b, false⟩ := by unfold sendD; rw [if_pos hm]
    rw [hm, he]
    have k0 : decide ((1 : Int) < (sd : Int)) = false := decide_eq_false (by omega)
    have k2 : decide ((4096 : Int) < (b.length : Int)) = false := decide_eq_false (by omega)
    have k1 : ((b.length : Int) == 0) = false := beq_eq_false_iff_ne.2 (by omega)
    by_cases hT : T.length < 4096
    · have k3 : decide ((4096 : Int) ≤ (T.length : Int)) = false := decide_eq_false (by omega)
      rw [decide_eq_true hT]
      have HC := Lib.hid (radd_out q sd b A c false _ _ T w h hk hA hm2.2.1 hm2.2.2 hT)
      obtain ⟨L', hL'⟩ : ∃ L', L' = addD (T.map Ng.d) ⟨sd, b, false⟩ := ⟨_, rfl⟩
      rw [← hL'] at HC ⊢
      clear hm he hA h hk hm2 hT hL'
      go_enter Try.func28, Try.ntmps28
      go_wp2_with fail
      refine HC.out.mono ?_
      rintro e w1 ⟨rfl, k⟩
      have Hk := Lib.hid k
      clear k
      go_wp2_with fail
      go_ret
      exact ⟨by simp, Hk.out⟩
    · have k3 : decide ((4096 : Int) ≤ (T.length : Int)) = true := decide_eq_true (by omega)
      rw [decide_eq_false hT]
      have HF := Lib.hid (RnOut.same (L := addD (T.map Ng.d) ⟨sd, b, false⟩) h hk (Below.refl _ _) (by unfold addD; rw [List.length_map, if_neg hT]))
      obtain ⟨L', hL'⟩ : ∃ L', L' = addD (T.map Ng.d) ⟨sd, b, false⟩ := ⟨_, rfl⟩
      rw [← hL'] at HF ⊢
      clear hm he hA h hk hm2 hT hL'
      go_enter Try.func28, Try.ntmps28
      go_wp2_with fail
      go_ret
      exact ⟨by simp, HF.out⟩
  · have hm1 : maySend sd b = false := by simpa using hm
    have hm2 : ¬ ((sd = 0 ∨ sd = 1) ∧ 0 < b.length ∧ b.length ≤ 4096) := fun e => hm (decide_eq_true e)
    rw [hm1]
    have HF := Lib.hid (RnOut.same (L := sendD (T.map Ng.d) sd b) h hk (Below.refl _ _) (by unfold sendD; rw [if_neg hm]))
    obtain ⟨L', hL'⟩ : ∃ L', L' = sendD (T.map Ng.d) sd b := ⟨_, rfl⟩
    rw [← hL'] at HF ⊢
    clear hm hm1 hA h hk hL'
    by_cases h0 : 1 < sd
    · have k0 : decide ((1 : Int) < (sd : Int)) = true := decide_eq_true (by omega)
      clear hm2
      go_enter Try.func28, Try.ntmps28
      go_wp2_with fail
      go_ret
      exact ⟨by simp, HF.out⟩
    · have k0 : decide ((1 : Int) < (sd : Int)) = false := decide_eq_false (by omega)
      by_cases h1 : b.length = 0
      · have k1 : ((b.length : Int) == 0) = true := beq_iff_eq.2 (by omega)
        clear hm2
        go_enter Try.func28, Try.ntmps28
        go_wp2_with fail
        go_ret
        exact ⟨by simp, HF.out⟩
      · have k1 : ((b.length : Int) == 0) = false := beq_eq_false_iff_ne.2 (by omega)
        have k2 : decide ((4096 : Int) < (b.length : Int)) = true := decide_eq_true (by omega)
        clear hm2
        go_enter Try.func28, Try.ntmps28
        go_wp2_with fail
        go_ret
        exact ⟨by simp, HF.out⟩

theorem OwnR.adr {α : Type} {w : World} {base n c sz : Nat} {e : TypeId} {A : Option Addr} {enc : α → List Value} {l : List α} (h : OwnR w base e enc sz (.slice A n c) l) (hl : 0 < l.length) : ∃ g, A = some ⟨g, 0, none⟩ := by
  rcases h.2 with ⟨hv, h0⟩ | ⟨g, cap, cur, hv, _⟩
  · omega
  · injection hv with e1 _ _; exact ⟨g, e1⟩
/-- an element's cells -/
theorem Rn.elem {w : World} {q n m gL gB cL cB : Nat} {T : List Ng} (h : Rn w q (.slice (some ⟨gL, 0, none⟩) n cL) (.slice (some ⟨gB, 0, none⟩) m cB) T) {i : Nat} {x : Ng} (hi : T[i]? = some x) :
    w.cell? ⟨gL, i * 2, none⟩ = some (.int .u8 (x.sd : Nat)) ∧ w.cell? ⟨gL, i * 2 + 1, none⟩ = some (.slice x.A x.b.length x.c) ∧ w.cell? ⟨gB, i, none⟩ = some (.bool x.bent) ∧ w.frozen? ⟨gB, i, none⟩ = false := by
  obtain ⟨A, c', hv, _, hr⟩ := OwnR.row Try.eltG h.gl.row
  obtain ⟨A', c'', hv', _, hr'⟩ := OwnR.row Try.eltT h.bo
  injection hv with e1 _ _
  injection hv' with e1' _ _
  subst e1 e1'
  obtain ⟨p, o, hp, hc⟩ := hr i x hi
  obtain ⟨p', o', hp', hc'⟩ := hr' i x hi
  injection hp with hp
  injection hp with e1 e2 _
  injection hp' with hp'
  injection hp' with e1' e2' _
  subst e1 e2 e1' e2'
  refine ⟨?_, ?_, ?_, h.bo.frozen _⟩
  · have := hc 0 _ rfl; simpa using this
  · have := hc 1 _ rfl; simpa [vaG] using this
  · have := hc' 0 _ rfl; simpa using this

set_option maxHeartbeats 4000000 in
theorem rtwice_any (q : Nat) (VL VB : Value) (T : List Ng) (i : Int) (w : World) (h : Rn w q VL VB T) (hk : okT T) (hT2 : T.length ≤ 1000000) :
    Calls Try.prog 26 #[.pointer (some ⟨q, 0, none⟩), .int .i64 i] w fun e w' => e = .returned (.bool (isD T.length i && decide (T.length < 4096))) ∧ RnOut w q VL VB T w' (twiceD (T.map Ng.d) i) := by
  obtain ⟨⟨AL, cL, hVL, -, -⟩, AB, cB, hVB, -, -⟩ := h.shape
  subst hVL hVB
  have C := bsays h.bx
  simp only [cellsSay, Nat.reduceAdd, and_true] at C
  have HI := Lib.hid (ris_any q T.length AL cL (.slice AB T.length cB) i w h.bx)
  by_cases hi : 0 ≤ i ∧ i < (T.length : Int)
  · have e0 : isD T.length i = true := decide_eq_true hi
    rw [e0] at HI ⊢
    by_cases hT : T.length < 4096
    · have k3 : decide ((4096 : Int) ≤ (T.length : Int)) = false := decide_eq_false (by omega)
      rw [decide_eq_true hT]
      obtain ⟨j, rfl⟩ := Int.eq_ofNat_of_zero_le hi.1
      have hj : j < T.length := by omega
      obtain ⟨x, hx⟩ : ∃ x, T[j]? = some x := ⟨_, List.getElem?_eq_getElem hj⟩
      obtain ⟨gL, rfl⟩ := OwnR.adr h.gl.row (by omega)
      obtain ⟨gB, rfl⟩ := OwnR.adr h.bo (by omega)
      have D := h.elem hx
      have hkx := hk x (List.mem_of_getElem? hx)
      have hd := h.below (Below.refl w.heap.size w).drew
      have HC := Lib.hid (radd_out q x.sd x.b x.A x.c x.bent _ _ T w.drew hd hk (hd.bytes hx) hkx.1 hkx.2 hT)
      have e2 : twiceD (T.map Ng.d) (j : Int) = addD (T.map Ng.d) ⟨x.sd, x.b, x.bent⟩ := by
        unfold twiceD
        rw [List.length_map, if_pos e0, Int.toNat_natCast, List.getElem?_map, hx]
        rfl
      rw [e2]
      obtain ⟨L', hL'⟩ : ∃ L', L' = addD (T.map Ng.d) ⟨x.sd, x.b, x.bent⟩ := ⟨_, rfl⟩
      rw [← hL'] at HC ⊢
      have h1 : (0 : Int) ≤ (j : Int) := hi.1
      have h2 : (j : Int) < (T.length : Int) := hi.2
      have HN := Lib.hid h
      clear h hk hx hi e0 e2 hkx hj hL' hd
      go_enter Try.func26, Try.ntmps26
      go_wp2_with fail
      refine HI.out.mono ?_
      rintro e w1 ⟨rfl, hw⟩
      rw [hw]
      clear hw
      go_upto_region 4 with fail
      go_still_tail 24, (by kernel_rfl)
      change wpList _ _ _ _ _ w.drew
      have Hres : Hid (∀ w', RnOut w.drew q (.slice (some ⟨gL, 0, none⟩) T.length cL) (.slice (some ⟨gB, 0, none⟩) T.length cB) T w' L' → RnOut w q (.slice (some ⟨gL, 0, none⟩) T.length cL) (.slice (some ⟨gB, 0, none⟩) T.length cB) T w' L') := Lib.hid (fun w' ⟨a, b, c, k⟩ => ⟨a, b, c, Lib.hid ⟨(RnTo.same HN.out (Below.refl w.heap.size w).drew).trans k.out.1, k.out.2⟩⟩)
      obtain ⟨wd, hwd⟩ : ∃ wd, wd = w.drew := ⟨_, rfl⟩
      rw [← hwd] at HC Hres ⊢
      clear hwd C D
      go_wp2_with fail
      refine HC.out.mono ?_
      rintro e w1 ⟨rfl, k⟩
      have Hk := Lib.hid k
      clear k
      go_wp2_with fail
      go_ret
      exact ⟨by simp, Hres.out _ Hk.out⟩
    · have k3 : decide ((4096 : Int) ≤ (T.length : Int)) = true := decide_eq_true (by omega)
      rw [decide_eq_false hT]
      have HF := Lib.hid (RnOut.same (L := twiceD (T.map Ng.d) i) h hk (Below.refl _ _) (by
        unfold twiceD addD
        rw [List.length_map, if_pos e0]
        split
        · rw [if_neg hT]
        · rfl))
      obtain ⟨L', hL'⟩ : ∃ L', L' = twiceD (T.map Ng.d) i := ⟨_, rfl⟩
      rw [← hL'] at HF ⊢
      clear h hk hT hL' hi e0
      go_enter Try.func26, Try.ntmps26
      go_wp2_with fail
      refine HI.out.mono ?_
      rintro e w1 ⟨rfl, hw⟩
      rw [hw]
      clear hw
      go_wp2_with fail
      go_ret
      exact ⟨by simp, HF.out⟩
  · have e0 : isD T.length i = false := decide_eq_false hi
    rw [e0] at HI ⊢
    have HF := Lib.hid (RnOut.same (L := twiceD (T.map Ng.d) i) h hk (Below.refl _ _) (by unfold twiceD; rw [List.length_map, e0]; rfl))
    obtain ⟨L', hL'⟩ : ∃ L', L' = twiceD (T.map Ng.d) i := ⟨_, rfl⟩
    rw [← hL'] at HF ⊢
    clear h hk hL' hi e0
    go_enter Try.func26, Try.ntmps26
    go_wp2_with fail
    refine HI.out.mono ?_
    rintro e w1 ⟨rfl, hw⟩
    rw [hw]
    clear hw
    go_wp2_with fail
    go_ret
    exact ⟨by simp, HF.out⟩

end Go.Proofs.Ytanenfbfcbkdhaa

/- Layer 19: the document's Bend. -/
set_option linter.unusedSimpArgs false
set_option linter.unusedVariables false
namespace Go.Proofs.Ytanenfbfcbkdhaa
open Go.RowKit
set_option maxRecDepth 100000

set_option maxHeartbeats 8000000 in
theorem rbend_yes (q : Nat) (VL VB : Value) (T : List Ng) (j a x : Nat) (y : Ng) (w : World) (h : Rn w q VL VB T) (hy : T[j]? = some y) (ha : a < y.b.length) (hx : x ≠ 0) (hx2 : x < 256) :
    Calls Try.prog 27 #[.pointer (some ⟨q, 0, none⟩), .int .i64 (j : Nat), .int .i64 (a : Nat), .int .u8 (x : Nat)] w fun e w' => e = .returned (.bool true) ∧ Hid (RnTo w q VL VB T w' VL VB (T.set j (bendG y a x))) := by
  have hj : j < T.length := (List.getElem?_eq_some_iff.1 hy).1
  obtain ⟨⟨AL, cL, hVL, -, -⟩, AB, cB, hVB, -, -⟩ := h.shape
  subst hVL hVB
  obtain ⟨gL, rfl⟩ := OwnR.adr h.gl.row (by omega)
  obtain ⟨gB, rfl⟩ := OwnR.adr h.bo (by omega)
  have C := bsays h.bx
  simp only [cellsSay, Nat.reduceAdd, and_true] at C
  have hym := List.mem_of_getElem? hy
  obtain ⟨kb, hkb⟩ : ∃ kb, y.A = some ⟨kb, 0, none⟩ := by
    obtain ⟨g', cp, h2, -, -⟩ := World.ownsRow.form (h.gl.el y hym) (show 0 < y.b.length by omega)
    simp only [vaG] at h2
    injection h2 with h3
    exact ⟨g', h3⟩
  have hO : OwnB w 0 (.slice (some ⟨kb, 0, none⟩) y.b.length y.c) y.b := by
    have h1 := h.gl.el y hym
    simp only [vaG, hkb] at h1
    exact h1
  have D := h.elem hy
  rw [hkb] at D
  have cb : w.cell? ⟨kb, a, none⟩ = some (.int .u8 ((y.b.getD a 0).toNat : Nat)) := by
    rw [hO.cell a ha, List.getD_eq_getElem?_getD, List.getElem?_eq_getElem ha]; rfl
  have fb := hO.frozen a
  obtain ⟨p, hp⟩ : ∃ p, p = (y.b.getD a 0).toNat := ⟨_, rfl⟩
  rw [← hp] at cb
  obtain ⟨r, hr⟩ : ∃ r, r = ((y.b.getD a 0) ^^^ UInt8.ofNat x).toNat := ⟨_, rfl⟩
  have fx : bits .xor .u8 (p : Int) (x : Int) = (r : Int) := by
    rw [u8_xor_nat p x (by rw [hp]; exact UInt8.toNat_lt _) hx2, hr, hp, UInt8.toNat_xor, show (UInt8.ofNat x).toNat = x from by simp [UInt8.toNat_ofNat']; omega]
  have Hr := Lib.hid hr
  clear hp hr
  obtain ⟨n, hn⟩ : ∃ n, n = y.b.length := ⟨_, rfl⟩
  rw [← hn] at D
  have k1 : decide ((a : Int) < 0) = false := decide_eq_false (by omega)
  have k2 : decide ((n : Int) ≤ (a : Int)) = false := decide_eq_false (by omega)
  have k3 : ((x : Int) == 0) = false := beq_eq_false_iff_ne.2 (by omega)
  have k4 : decide (n ≤ a) = false := decide_eq_false (by omega)
  have k5 : (a : Int) < (n : Int) := by omega
  have k6 : (0 : Int) ≤ (a : Int) := by omega
  have k7 : (0 : Int) ≤ (j : Int) := by omega
  have k8 : (j : Int) < (T.length : Int) := by omega
  have HI := Lib.hid (ris_any q T.length (some ⟨gL, 0, none⟩) cL (.slice (some ⟨gB, 0, none⟩) T.length cB) (j : Int) w h.bx)
  rw [show isD T.length (j : Int) = true from decide_eq_true ⟨by omega, by omega⟩] at HI
  have hne1 : kb ≠ q := fun e => h.nq kb (.inr ⟨y, hym, by simp [vaG, hkb, Value.ownBlock]⟩) e
  have hne2 : kb ≠ gB := fun e => h.nb kb (.inr ⟨y, hym, by simp [vaG, hkb, Value.ownBlock]⟩) (by rw [e]; rfl)
  have HH := Lib.hid (And.intro h (And.intro hO (And.intro hkb (And.intro hn (And.intro hy (And.intro ha hj))))))
  clear h hO hkb hn hy hj ha hym
  go_enter Try.func27, Try.ntmps27
  go_wp2_with fail
  refine HI.out.mono ?_
  rintro e w1 ⟨rfl, hw⟩
  rw [hw]
  clear hw
  go_upto_region 4 with fail
  go_still_tail 23, (by kernel_rfl)
  change wpList _ _ _ _ _ w.drew
  obtain ⟨wd, hwd⟩ : ∃ wd, wd = w.drew := ⟨_, rfl⟩
  have cbd : wd.cell? ⟨kb, a, none⟩ = some (.int .u8 (p : Nat)) := by rw [hwd]; exact cb
  have fbd : wd.frozen? ⟨kb, a, none⟩ = false := by rw [hwd]; exact fb
  rw [← hwd]
  go_upto_region 5 with fail
  obtain ⟨W1, hW0⟩ : ∃ W1, W1 = (w.setCell ⟨kb, a, none⟩ (.int .u8 (r : Nat))).drew := ⟨_, rfl⟩
  first | rw [← hW0] | (show Code.wp _ _ _ _ (w.setCell ⟨kb, a, none⟩ (.int .u8 (r : Nat))).drew; rw [← hW0])
  have hW1 : W1 = wd.setCell ⟨kb, a, none⟩ (.int .u8 (r : Nat)) := by rw [hW0, hwd]; rfl
  obtain ⟨h, hO, hkb, hn, hy, ha, hj⟩ := HH.out
  have hym := List.mem_of_getElem? hy
  have bd : Below w.heap.size w wd := by rw [hwd]; exact (Below.refl w.heap.size w).drew
  have t1 : Tou (fun k => (vaG y).ownBlock = some k) w W1 := by
    rw [hW1]
    exact (Tou.of_below bd).trans (F := fun k => (vaG y).ownBlock = some k) (Tou.set kb a _ (by simp [vaG, hkb, Value.ownBlock])) (fun _ _ e => e)
  have hb1 : OwnB W1 0 (vaG y) (bendG y a x).b := by
    have h1 := (hO.below bd).set a ((y.b.getD a 0) ^^^ UInt8.ofNat x)
    rw [hW1]
    simp only [vaG, hkb, bendG, bendB]
    rw [show (Value.int .u8 (r : Int)) = bv ((y.b.getD a 0) ^^^ UInt8.ofNat x) by rw [Hr.out]]
    exact h1
  have hva1 : vaG (bendG y a x) = vaG y := by simp only [vaG, bendG, bendB_len]
  have G1 := h.gl.bytes hy t1 hb1 (y := bendG y a x) (by simp only [encG, hva1]; rfl) hva1
  have B1 : Blk W1 q 45 #[.slice (some ⟨gL, 0, none⟩) T.length cL, .slice (some ⟨gB, 0, none⟩) T.length cB] := t1.blk h.bx (fun e => h.nq q (.inr ⟨y, hym, e⟩) rfl)
  have O1 : OwnR W1 0 4 encT 1 (.slice (some ⟨gB, 0, none⟩) T.length cB) T := t1.row h.bo (fun k hk e => h.nb k (.inr ⟨y, hym, e⟩) hk)
  have H1 := Lib.hid (And.intro G1 (And.intro B1 (And.intro O1 t1)))
  have cB1 : W1.cell? ⟨gB, j, none⟩ = some (.bool y.bent) := by
    obtain ⟨A', c', hv, _, hr'⟩ := OwnR.row Try.eltT O1
    injection hv with e1 _ _
    subst e1
    obtain ⟨p', o', hp', hc'⟩ := hr' j y hy
    injection hp' with hp'
    injection hp' with e1 e2 _
    subst e1 e2
    have := hc' 0 _ rfl
    simpa using this
  have fB1 := O1.frozen j
  have C1 := bsays B1
  simp only [cellsSay, Nat.reduceAdd, and_true] at C1
  clear C D cb fb cbd fbd hW1 hW0 hwd h hO hkb hn hy ha hj hym bd t1 hb1 hva1 G1 B1 O1 fx
  go_wp2_with fail
  go_ret
  obtain ⟨h, hO, hkb, hn, hy, ha, hj⟩ := HH.out
  have hym := List.mem_of_getElem? hy
  obtain ⟨G1, B1, O1, t1⟩ := H1.out
  have t2 : Tou (fun k => k = gB) W1 (W1.setCell ⟨gB, j, none⟩ (.bool true)) := Tou.set gB j _ rfl
  have O2 : OwnR (W1.setCell ⟨gB, j, none⟩ (.bool true)) 0 4 encT 1 (.slice (some ⟨gB, 0, none⟩) T.length cB) (T.set j (bendG y a x)) := by
    have := O1.turn Try.eltT rfl j 0 y (bendG y a x) (.bool true) hy (by omega) rfl
    simpa using this
  have hf : ∀ k, footG vaG (.slice (some ⟨gL, 0, none⟩) T.length cL) (T.set j (bendG y a x)) k → footG vaG (.slice (some ⟨gL, 0, none⟩) T.length cL) T k := fun k hk => by
    rcases hk with hk | ⟨t, ht, hk⟩
    · exact .inl hk
    · rcases List.mem_or_eq_of_mem_set ht with h3 | rfl
      · exact .inr ⟨t, h3, hk⟩
      · exact .inr ⟨y, hym, by simp only [vaG, bendG, bendB_len] at hk ⊢; exact hk⟩
  have hgB : ∀ k, footG vaG (.slice (some ⟨gL, 0, none⟩) T.length cL) T k → ¬ k = gB := fun k hk e => h.nb k hk (by rw [e]; rfl)
  have tt : Tou (ftR q (.slice (some ⟨gL, 0, none⟩) T.length cL) (.slice (some ⟨gB, 0, none⟩) T.length cB) T) w (W1.setCell ⟨gB, j, none⟩ (.bool true)) := (t1.mono (fun k _ hk => .inr (.inl (.inr ⟨y, hym, hk⟩)))).trans (t2.mono (fun k _ hk => .inr (.inr (by rw [hk]; rfl)))) (fun _ _ e => e)
  refine ⟨rfl, Lib.hid ⟨⟨t2.blk B1 (fun e => h.bq (by rw [e]; rfl)), G1.kept t2 (fun k hk => hgB k (hf k hk)), O2, fun k hk => h.nq k (hf k hk), h.bq, fun k hk => h.nb k (hf k hk)⟩, tt, fun k hk => ?_⟩⟩
  rcases hk with rfl | hk | hk
  · exact .inl (.inl rfl)
  · exact .inl (.inr (.inl (hf k hk)))
  · exact .inl (.inr (.inr hk))

theorem rbend_no (q : Nat) (VL VB : Value) (T : List Ng) (i a : Int) (x : Nat) (w : World) (h : Rn w q VL VB T) (hm : mayBend (T.map Ng.d) i a x = false) :
    Calls Try.prog 27 #[.pointer (some ⟨q, 0, none⟩), .int .i64 i, .int .i64 a, .int .u8 (x : Nat)] w fun e w' => e = .returned (.bool false) ∧ w' = w := by
  obtain ⟨⟨AL, cL, hVL, -, -⟩, AB, cB, hVB, -, -⟩ := h.shape
  subst hVL hVB
  have C := bsays h.bx
  simp only [cellsSay, Nat.reduceAdd, and_true] at C
  have HI := Lib.hid (ris_any q T.length AL cL (.slice AB T.length cB) i w h.bx)
  by_cases hi : 0 ≤ i ∧ i < (T.length : Int)
  · obtain ⟨j, rfl⟩ := Int.eq_ofNat_of_zero_le hi.1
    have hj : j < T.length := by omega
    obtain ⟨y, hy⟩ : ∃ y, T[j]? = some y := ⟨_, List.getElem?_eq_getElem hj⟩
    have e0 : isD T.length (j : Int) = true := decide_eq_true hi
    have hm2 : ¬ (0 ≤ a ∧ a < (y.b.length : Int) ∧ x ≠ 0) := fun e => by
      unfold mayBend at hm
      rw [List.length_map, e0, Int.toNat_natCast, List.getElem?_map, hy, Bool.true_and] at hm
      exact of_decide_eq_false hm e
    rw [e0] at HI
    obtain ⟨gL, rfl⟩ := OwnR.adr h.gl.row (by omega)
    obtain ⟨gB, rfl⟩ := OwnR.adr h.bo (by omega)
    have D := h.elem hy
    obtain ⟨n, hn⟩ : ∃ n, n = y.b.length := ⟨_, rfl⟩
    rw [← hn] at D hm2
    have k7 : (0 : Int) ≤ (j : Int) := by omega
    have k8 : (j : Int) < (T.length : Int) := by omega
    clear h hy hm hn hi hj e0
    by_cases h0 : a < 0
    · have k1 : decide (a < 0) = true := decide_eq_true h0
      clear hm2 h0
      go_enter Try.func27, Try.ntmps27
      go_wp2_with fail
      refine HI.out.mono ?_
      rintro e w1 ⟨rfl, hw⟩
      rw [hw]
      clear hw
      go_wp2_with fail
      go_ret
      exact ⟨rfl, rfl⟩
    · have k1 : decide (a < 0) = false := decide_eq_false h0
      by_cases h3 : (n : Int) ≤ a
      · have k2 : decide ((n : Int) ≤ a) = true := decide_eq_true h3
        clear hm2 h0 h3
        go_enter Try.func27, Try.ntmps27
        go_wp2_with fail
        refine HI.out.mono ?_
        rintro e w1 ⟨rfl, hw⟩
        rw [hw]
        clear hw
        go_wp2_with fail
        go_ret
        exact ⟨rfl, rfl⟩
      · have k2 : decide ((n : Int) ≤ a) = false := decide_eq_false h3
        obtain rfl : x = 0 := by
          apply Classical.byContradiction
          intro e
          exact hm2 ⟨by omega, by omega, e⟩
        clear hm2 h0 h3
        go_enter Try.func27, Try.ntmps27
        go_wp2_with fail
        refine HI.out.mono ?_
        rintro e w1 ⟨rfl, hw⟩
        rw [hw]
        clear hw
        go_wp2_with fail
        go_ret
        exact ⟨rfl, rfl⟩
  · rw [show isD T.length i = false from decide_eq_false hi] at HI
    clear h hi hm
    go_enter Try.func27, Try.ntmps27
    go_wp2_with fail
    refine HI.out.mono ?_
    rintro e w1 ⟨rfl, hw⟩
    rw [hw]
    clear hw
    go_wp2_with fail
    go_ret
    exact ⟨rfl, rfl⟩

theorem rbend_any (q : Nat) (VL VB : Value) (T : List Ng) (i a : Int) (x : Nat) (w : World) (h : Rn w q VL VB T) (hk : okT T) (hx : x < 256) :
    Calls Try.prog 27 #[.pointer (some ⟨q, 0, none⟩), .int .i64 i, .int .i64 a, .int .u8 (x : Nat)] w fun e w' => e = .returned (.bool (mayBend (T.map Ng.d) i a x)) ∧ RnOut w q VL VB T w' (bendD (T.map Ng.d) i a x) := by
  cases hm : mayBend (T.map Ng.d) i a x with
  | false =>
    refine (rbend_no q VL VB T i a x w h hm).mono ?_
    rintro e w1 ⟨rfl, rfl⟩
    exact ⟨rfl, RnOut.same h hk (Below.refl _ _) (by unfold bendD; rw [hm]; rfl)⟩
  | true =>
    have hm2 := hm
    unfold mayBend at hm2
    rw [List.length_map] at hm2
    have hi : 0 ≤ i ∧ i < (T.length : Int) := by
      have := (Bool.and_eq_true_iff.1 hm2).1
      exact of_decide_eq_true this
    have h3 := of_decide_eq_true (Bool.and_eq_true_iff.1 hm2).2
    obtain ⟨j, rfl⟩ := Int.eq_ofNat_of_zero_le hi.1
    have hj : j < T.length := by omega
    obtain ⟨y, hy⟩ : ∃ y, T[j]? = some y := ⟨_, List.getElem?_eq_getElem hj⟩
    rw [Int.toNat_natCast, List.getElem?_map, hy] at h3
    obtain ⟨k, rfl⟩ := Int.eq_ofNat_of_zero_le h3.1
    have h4 : k < y.b.length := by have := h3.2.1; simp [Ng.d] at this; omega
    refine (rbend_yes q VL VB T j k x y w h hy h4 h3.2.2 hx).mono ?_
    rintro e w1 ⟨rfl, k1⟩
    refine ⟨rfl, VL, VB, _, Lib.hid ⟨k1.out, fun t ht => ?_, ?_⟩⟩
    · rcases List.mem_or_eq_of_mem_set ht with h5 | rfl
      · exact hk t h5
      · have := hk y (List.mem_of_getElem? hy)
        simpa [bendG, bendB_len] using this
    · unfold bendD
      rw [if_pos hm, Int.toNat_natCast, List.getElem?_map, hy, Int.toNat_natCast, List.map_set]
      rfl

end Go.Proofs.Ytanenfbfcbkdhaa

/- Layer 19: the document's Take and Drop. -/
set_option linter.unusedSimpArgs false
set_option linter.unusedVariables false
namespace Go.Proofs.Ytanenfbfcbkdhaa
open Go.RowKit
set_option maxRecDepth 100000

theorem rtake_no (q : Nat) (VL VB : Value) (T : List Ng) (i : Int) (w : World) (h : Rn w q VL VB T) (hi : ¬ (0 ≤ i ∧ i < (T.length : Int))) :
    Calls Try.prog 23 #[.pointer (some ⟨q, 0, none⟩), .int .i64 i] w fun e w' => e = .returned (.tuple #[.agg #[.int .u8 0, .slice none 0 0], .bool false]) ∧ Below w.heap.size w w' := by
  obtain ⟨⟨AL, cL, hVL, -, -⟩, AB, cB, hVB, -, -⟩ := h.shape
  subst hVL hVB
  have HK := Lib.hid (((Qs.zero w).cons (k := qB _ _ _) h.bx).box #[.int .u8 0, .slice none 0 0] 33)
  have HI := Lib.hid (ris_any q T.length AL cL (.slice AB T.length cB) i (w.alloc (.cells #[.int .u8 0, .slice none 0 0] 33)) (HK.out.blk 1))
  rw [show isD T.length i = false from decide_eq_false hi] at HI
  clear h hi
  have C := HK.out.says
  simp only [sayAll, cellsSay, qB, qW, Nat.reduceAdd, and_true, true_and] at C
  go_enter Try.func23, Try.ntmps23
  go_wp2_with fail
  refine HI.out.mono ?_
  rintro e w1 ⟨rfl, hw⟩
  rw [hw]
  clear hw
  go_wp2_with fail
  refine bodyPost_ret (v := .tuple #[.agg #[.int .u8 0, .slice none 0 0], .bool false]) (by simp [results, Try.results23, go_sem, C]) rfl ⟨rfl, HK.out.top 2⟩

theorem gl_apart {w : World} {V : Value} {T : List Ng} {e : TypeId} {enc : Ng → List Value} {sz : Nat} (h : Gl (·.b) vaG w e enc sz V T) {i : Nat} {x : Ng} (hi : T[i]? = some x) : ∀ t ∈ T.eraseIdx i, ∀ k, (vaG x).ownBlock = some k → (vaG t).ownBlock ≠ some k := fun t ht k hk hf => by
  obtain ⟨hil, hix⟩ := List.getElem?_eq_some_iff.1 hi
  obtain ⟨j, hji, hj⟩ := List.mem_eraseIdx_iff_getElem?.1 ht
  obtain ⟨hjl, hjx⟩ := List.getElem?_eq_some_iff.1 hj
  have hap := List.pairwise_iff_getElem.1 h.ap
  rcases Nat.lt_or_gt_of_ne hji with h3 | h3
  · exact hap j i hjl hil h3 k (by rw [hjx]; exact hf) (by rw [hix]; exact hk)
  · exact hap i j hil hjl h3 k (by rw [hix]; exact hk) (by rw [hjx]; exact hf)
theorem take_erase_lt {T : List Ng} {j k : Nat} {x : Ng} (hk : T[k]? = some x) (h : k ≠ j) : (T.take (k + 1)).eraseIdx j = (T.take k).eraseIdx j ++ [x] := by
  have hkl : k < T.length := (List.getElem?_eq_some_iff.1 hk).1
  rw [List.take_add_one, hk]
  show (T.take k ++ [x]).eraseIdx j = _
  rcases Nat.lt_or_gt_of_ne h with h1 | h1
  · rw [List.eraseIdx_append_of_length_le (by rw [List.length_take]; omega), List.eraseIdx_of_length_le (l := T.take k) (by rw [List.length_take]; omega)]
    rw [List.eraseIdx_of_length_le]
    simp only [List.length_take, List.length_singleton]
    omega
  · rw [List.eraseIdx_append_of_lt_length (by rw [List.length_take]; omega)]
theorem take_erase_eq {T : List Ng} {k : Nat} {x : Ng} (hk : T[k]? = some x) : (T.take (k + 1)).eraseIdx k = (T.take k).eraseIdx k := by
  have hkl : k < T.length := (List.getElem?_eq_some_iff.1 hk).1
  rw [List.take_add_one, hk]
  show (T.take k ++ [x]).eraseIdx k = _
  have e : (T.take k).length = k := by rw [List.length_take]; omega
  rw [List.eraseIdx_append_of_length_le (by omega), e, Nat.sub_self, List.eraseIdx_of_length_le (l := T.take k) (by omega)]
  simp

set_option maxHeartbeats 8000000 in
theorem rtake_yes (q : Nat) (VL VB : Value) (T : List Ng) (j : Nat) (x : Ng) (w : World) (h : Rn w q VL VB T) (hx : T[j]? = some x) (hk : okT T) (hT2 : T.length ≤ 1000000) :
    Calls Try.prog 23 #[.pointer (some ⟨q, 0, none⟩), .int .i64 (j : Nat)] w fun e w' => e = .returned (.tuple #[.agg #[.int .u8 (x.sd : Nat), .slice x.A x.b.length x.c], .bool true]) ∧ ∃ VL' VB', Hid (RnTo w q VL VB T w' VL' VB' (T.eraseIdx j) ∧ okT (T.eraseIdx j) ∧ OwnB w' 0 (vaG x) x.b ∧ ∀ k, (vaG x).ownBlock = some k → ¬ ftR q VL' VB' (T.eraseIdx j) k) := by
  have hj : j < T.length := (List.getElem?_eq_some_iff.1 hx).1
  obtain ⟨⟨AL, cL, hVL, -, -⟩, AB, cB, hVB, -, -⟩ := h.shape
  subst hVL hVB
  obtain ⟨gL, rfl⟩ := OwnR.adr h.gl.row (by omega)
  obtain ⟨gB, rfl⟩ := OwnR.adr h.bo (by omega)
  obtain ⟨n, hn⟩ : ∃ n, n = T.length := ⟨_, rfl⟩
  have hn6 : n ≤ 1000000 := by omega
  rw [← hn] at h hj ⊢
  have hK := ((Qs.zero w).cons (k := qB _ _ _) h.bx).box #[.int .u8 0, .slice none 0 0] 33
  obtain ⟨W, hW⟩ : ∃ W, W = w.alloc (.cells #[.int .u8 0, .slice none 0 0] 33) := ⟨_, rfl⟩
  rw [← hW] at hK
  have HK := Lib.hid hK
  have hwz : W.heap.size = w.heap.size + 1 := by rw [hW]; simp
  have hqw := h.bx.lt
  have HI := Lib.hid (ris_any q n (some ⟨gL, 0, none⟩) cL (.slice (some ⟨gB, 0, none⟩) n cB) (j : Int) W (HK.out.blk 1))
  rw [show isD n (j : Int) = true from decide_eq_true ⟨by omega, by omega⟩] at HI
  have D := (h.below (HK.out.top 2)).elem hx
  have C := HK.out.says
  simp only [sayAll, cellsSay, qB, qW, Nat.reduceAdd, and_true, true_and] at C
  have k7 : (0 : Int) ≤ (j : Int) := by omega
  have k8 : (j : Int) < (n : Int) := by omega
  have HN := Lib.hid (And.intro h (And.intro hx (And.intro hn hk)))
  clear h hx hn hk hK hj
  go_enter Try.func23, Try.ntmps23
  go_upto_region 1 with fail
  rw [← hW]
  clear hW
  go_wp2_with fail
  refine HI.out.mono ?_
  rintro e w1 ⟨rfl, hw⟩
  rw [hw]
  clear hw HI
  have kA := fun W => keepA W
  go_upto_region 5 with fail
  have K2 := HK.out.box #[.int .u8 (x.sd : Nat), .slice x.A x.b.length x.c] 33
  rw [hwz] at K2
  obtain ⟨Wb, hWb⟩ : ∃ Wb, Wb = W.alloc (.cells #[.int .u8 (x.sd : Nat), .slice x.A x.b.length x.c] 33) := ⟨_, rfl⟩
  rw [← hWb] at K2 ⊢
  have hb2 : Below w.heap.size w Wb := K2.top 3
  have hzb : Wb.heap.size = w.heap.size + 2 := by rw [hWb]; simp; omega
  have HK2 := Lib.hid K2
  have HB2 := Lib.hid (And.intro hb2 (And.intro (HN.out.1.below hb2) hzb))
  clear C D kA HK K2 hWb hb2 hwz
  go_wp2_with fail
  go_loopw [8, 9, 10] (fun s8 s9 s10 wr => ∃ (k : Nat) (R : Option Addr) (c : Nat) (R2 : Option Addr) (c2 m : Nat), k ≤ n ∧ s8 = .slice R m c ∧ s9 = .slice R2 m c2 ∧ s10 = .int .i64 k ∧ Hid (m = ((T.take k).eraseIdx j).length ∧ OwnR wr Wb.heap.size 33 encG 2 (.slice R m c) ((T.take k).eraseIdx j) ∧ OwnR wr Wb.heap.size 4 encT 1 (.slice R2 m c2) ((T.take k).eraseIdx j) ∧ Below Wb.heap.size Wb wr ∧ ∀ i, (Value.slice R m c).ownBlock = some i → (Value.slice R2 m c2).ownBlock ≠ some i))
    (fun _ _ s10 _ => n - (intOf s10).toNat)
  case atStart => exact ⟨0, none, 0, none, 0, 0, Nat.zero_le _, rfl, rfl, rfl, Lib.hid ⟨by simp, OwnR.nil _ _ _ _ _, OwnR.nil _ _ _ _ _, Below.refl _ _, fun i h => by simp [Value.ownBlock] at h⟩⟩
  case round =>
    obtain ⟨k, R, c, R2, c2, m, hkn, rfl, rfl, rfl, HR⟩ := hrel
    have C := bsays ((HK2.out.blk 2).below HR.out.2.2.2.1 (HK2.out.blk 2).lt)
    simp only [cellsSay, Nat.reduceAdd, and_true] at C
    by_cases hlt : k < n
    · obtain ⟨y, hy⟩ : ∃ y, T[k]? = some y := ⟨_, List.getElem?_eq_getElem (by rw [← HN.out.2.2.1]; exact hlt)⟩
      have hkl : (k : Int) < (n : Int) := by omega
      have hk0 : (0 : Int) ≤ (k : Int) := by omega
      by_cases hkj : k = j
      · have k3 : ((k : Int) == (j : Int)) = true := beq_iff_eq.2 (by omega)
        have HR2 := Lib.hid HR.out
        have HE : Hid ((T.take (k + 1)).eraseIdx j = (T.take k).eraseIdx j) := Lib.hid (by rw [← hkj]; exact take_erase_eq hy)
        go_wp2_with fail
        go_roundw
        case measure => simp [intOf]; omega
        case rel =>
          obtain ⟨r1, r2, r3, r4, r5⟩ := HR2.out
          exact ⟨k + 1, R, c, R2, c2, m, by omega, rfl, rfl, by go_num, Lib.hid ⟨by rw [HE.out]; exact r1, by rw [HE.out]; exact r2, by rw [HE.out]; exact r3, r4, r5⟩⟩
      · have k3 : ((k : Int) == (j : Int)) = false := beq_eq_false_iff_ne.2 (by omega)
        obtain ⟨r1, r2, r3, r4, r5⟩ := HR.out
        have D0 := HB2.out.2.1.elem hy
        have D : wr.cell? ⟨gL, k * 2, none⟩ = some (.int .u8 (y.sd : Nat)) ∧ wr.cell? ⟨gL, k * 2 + 1, none⟩ = some (.slice y.A y.b.length y.c) := ⟨(r4.cell (cell_lt D0.1)).trans D0.1, (r4.cell (cell_lt D0.2.1)).trans D0.2.1⟩
        obtain ⟨M, hM⟩ : ∃ M, M = (T.take k).eraseIdx j := ⟨_, rfl⟩
        have HM : Hid ((T.take (k + 1)).eraseIdx j = M ++ [y]) := Lib.hid (by rw [hM]; exact take_erase_lt hy hkj)
        rw [← hM] at r1 r2 r3
        subst r1
        have hMl : M.length ≤ n := by
          have h1 : M.length ≤ (T.take k).length := by rw [hM]; exact List.length_eraseIdx_le _ _
          rw [List.length_take] at h1
          omega
        have HR1 := Lib.hid (r2.alloc (.cells #[.int .u8 (y.sd : Nat), .slice y.A y.b.length y.c] 33))
        have HX := Lib.hid (And.intro r2 (And.intro r3 (And.intro r4 r5)))
        have ha1 : Below wr.heap.size wr (wr.alloc (.cells #[.int .u8 (y.sd : Nat), .slice y.A y.b.length y.c] 33)) := below_alloc _ _
        have HA1 := Lib.hid ha1
        have hgLb : gB < Wb.heap.size := cell_lt D0.2.2.1
        have Hy := Lib.hid (And.intro hy D0.2.2.1)
        clear r2 r3 r4 r5 D0 hM HR ha1 hy
        go_upto_region 12 with (at_builtin; go_must (refine appR1L Try.eltG _ rfl (.tmp 36) (.tmp 44) rfl Wb.heap.size (.slice R M.length c) M rfl HR1.out wr.heap.size 1 y _ _ rfl (Blk.new wr _ _) rfl (by unfold maxLen; omega) (by omega) (by have := HX.out.2.2.1.size; have := HA1.out.size; omega) ?_); intro g2 d2 w2 hown2 hgr2 hor2 hlt2)
        obtain ⟨r2, r3, r4, r5⟩ := HX.out
        have b2 : Below Wb.heap.size Wb w2 := Below.grown (on1 r4 HA1.out) hgr2 (on1 r4 HA1.out).size (fun k e => (World.ownsRow.lt r2 k e).1)
        have o3 : OwnR w2 Wb.heap.size 4 encT 1 (.slice R2 M.length c2) M := (Tou.of_grown (F := fun i => (Value.slice R M.length c).ownBlock = some i) hgr2 (fun k e => e)).row (r3.below HA1.out) (fun i hi e => r5 i e hi)
        have g2ne : (Value.slice R2 M.length c2).ownBlock ≠ some g2 := fun e => by
          rcases hor2 with h9 | h9
          · exact r5 g2 h9 e
          · have h8 := (World.ownsRow.lt r3 g2 e).2
            have h7 := HA1.out.size
            omega
        have HX2 := Lib.hid (And.intro hown2 (And.intro o3 (And.intro b2 g2ne)))
        have HR3 := Lib.hid (o3.alloc (.cells #[.bool y.bent] 4))
        have cq := bsays ((HK2.out.blk 2).below b2 (HK2.out.blk 2).lt)
        simp only [cellsSay, Nat.reduceAdd, and_true] at cq
        have cy : w2.cell? ⟨gB, k, none⟩ = some (.bool y.bent) := (b2.cell hgLb).trans Hy.out.2
        have HA2 := Lib.hid (below_alloc w2 (.cells #[.bool y.bent] 4))
        clear r2 r3 r4 r5 b2 o3 g2ne hown2 hgr2 hor2 C D HX HR1 HA1
        go_upto_region 9 with (at_builtin; go_must (refine appR1L Try.eltT _ rfl (.tmp 46) (.tmp 54) rfl Wb.heap.size (.slice R2 M.length c2) M rfl HR3.out w2.heap.size 1 y _ _ rfl (Blk.new w2 _ _) rfl (by unfold maxLen; omega) (by omega) (by have := HX2.out.2.2.1.size; have := HA2.out.size; omega) ?_); intro g5 d5 w5 hown5 hgr5 hor5 hlt5)
        obtain ⟨s2, s3, s4, s5⟩ := HX2.out
        have b5 : Below Wb.heap.size Wb w5 := Below.grown (on1 s4 HA2.out) hgr5 (on1 s4 HA2.out).size (fun k e => (World.ownsRow.lt s3 k e).1)
        have o2 : OwnR w5 Wb.heap.size 33 encG 2 (.slice (some ⟨g2, 0, none⟩) (M.length + 1) d2) (M ++ [y]) := (Tou.of_grown (F := fun i => (Value.slice R2 M.length c2).ownBlock = some i) hgr5 (fun k e => e)).row (s2.below HA2.out) (fun i hi e => by
          have e2 : g2 = i := by simpa [Value.ownBlock] using hi
          subst e2
          exact s5 e)
        have hne : ∀ i, (Value.slice (some ⟨g2, 0, none⟩) (M.length + 1) d2).ownBlock = some i → (Value.slice (some ⟨g5, 0, none⟩) (M.length + 1) d5).ownBlock ≠ some i := fun i hi hi2 => by
          have e2 : g2 = i := by simpa [Value.ownBlock] using hi
          have e5 : g5 = i := by simpa [Value.ownBlock] using hi2
          subst e2
          subst e5
          rcases hor5 with h9 | h9
          · exact s5 h9
          · have h7 := HA2.out.size
            omega
        have HEND := Lib.hid (show M.length + 1 = ((T.take (k + 1)).eraseIdx j).length ∧ OwnR w5 Wb.heap.size 33 encG 2 (.slice (some ⟨g2, 0, none⟩) (M.length + 1) d2) ((T.take (k + 1)).eraseIdx j) ∧ OwnR w5 Wb.heap.size 4 encT 1 (.slice (some ⟨g5, 0, none⟩) (M.length + 1) d5) ((T.take (k + 1)).eraseIdx j) ∧ Below Wb.heap.size Wb w5 ∧ ∀ i, (Value.slice (some ⟨g2, 0, none⟩) (M.length + 1) d2).ownBlock = some i → (Value.slice (some ⟨g5, 0, none⟩) (M.length + 1) d5).ownBlock ≠ some i from by
          rw [HM.out]
          exact ⟨by simp, o2, hown5, b5, hne⟩)
        clear s2 s3 s4 s5 b5 o2 hne hown5 hgr5 hor5 hlt5 HX2 HR3 cq cy HA2
        go_wp2_with fail
        go_roundw
        case measure => simp [intOf]; omega
        case rel => exact ⟨k + 1, some ⟨g2, 0, none⟩, d2, some ⟨g5, 0, none⟩, d5, M.length + 1, by omega, rfl, rfl, by go_num, HEND⟩
    · obtain rfl : k = n := by omega
      obtain ⟨r1, r2, r3, r4, r5⟩ := HR.out
      rw [show (T.take k).eraseIdx j = T.eraseIdx j by rw [HN.out.2.2.1, List.take_length]] at r1 r2 r3
      have K0 := HK2.out.go r4
      have bw : Below w.heap.size w wr := K0.top 3
      have Kr := Lib.hid (((((Qs.nil wr).cons (k := qU (ftR q (.slice (some ⟨gL, 0, none⟩) k cL) (.slice (some ⟨gB, 0, none⟩) k cB) T) w) (Tou.of_below bw)).cons (k := qB _ _ _) (K0.blk 2)).cons (k := qB _ _ _) (K0.blk 1)).cons (k := qB _ _ _) (K0.blk 0))
      have hRge : ∀ i, (Value.slice R m c).ownBlock = some i → w.heap.size + 2 ≤ i := fun i e => by have := (World.ownsRow.lt r2 i e).1; have := HB2.out.2.2; omega
      have hR2ge : ∀ i, (Value.slice R2 m c2).ownBlock = some i → w.heap.size + 2 ≤ i := fun i e => by have := (World.ownsRow.lt r3 i e).1; have := HB2.out.2.2; omega
      have N0 := HN.out.1
      have hsub : ∀ t ∈ T.eraseIdx j, t ∈ T := fun t ht => List.mem_of_mem_eraseIdx ht
      have htl : ∀ t ∈ T, ∀ i, (vaG t).ownBlock = some i → i < w.heap.size := fun t ht i e => N0.gl.lt i (.inr ⟨t, ht, e⟩)
      have Gw : Gl (·.b) vaG wr 33 encG 2 (.slice R m c) (T.eraseIdx j) := ⟨r2.mono (Nat.zero_le _), fun t ht => (N0.gl.el t (hsub t ht)).below bw, N0.gl.ap.sublist (List.eraseIdx_sublist _ _), fun t ht i hi e => by
        have := htl t (hsub t ht) i hi
        have := hRge i e
        omega⟩
      have hft : ∀ i, footG vaG (.slice R m c) (T.eraseIdx j) i → footG vaG (.slice (some ⟨gL, 0, none⟩) k cL) T i ∨ w.heap.size + 2 ≤ i := fun i hi => by
        rcases hi with hi | ⟨t, ht, hi⟩
        · exact .inr (hRge i hi)
        · exact .inl (.inr ⟨t, hsub t ht, hi⟩)
      have hnq : ∀ i, footG vaG (.slice R m c) (T.eraseIdx j) i → i ≠ q := fun i hi e => by
        rcases hft i hi with h9 | h9
        · exact N0.nq i h9 e
        · omega
      have hnt : ∀ i, footG vaG (.slice R m c) (T.eraseIdx j) i → i ≠ w.heap.size := fun i hi e => by
        rcases hft i hi with h9 | h9
        · have := N0.gl.lt i h9; omega
        · omega
      have hbq : (Value.slice R2 m c2).ownBlock ≠ some q := fun e => by have := hR2ge q e; omega
      have hbt : (Value.slice R2 m c2).ownBlock ≠ some w.heap.size := fun e => by have := hR2ge _ e; omega
      have hnb : ∀ i, footG vaG (.slice R m c) (T.eraseIdx j) i → (Value.slice R2 m c2).ownBlock ≠ some i := fun i hi e => by
        rcases hi with hi | ⟨t, ht, hi⟩
        · exact r5 i hi e
        · have := htl t (hsub t ht) i hi
          have := hR2ge i e
          omega
      have hxm := List.mem_of_getElem? HN.out.2.1
      have Xw : OwnB wr 0 (vaG x) x.b := (N0.gl.el x hxm).below bw
      have Bo : OwnR wr 0 4 encT 1 (.slice R2 m c2) (T.eraseIdx j) := r3.mono (Nat.zero_le _)
      have HG := Lib.hid (And.intro Gw (And.intro Bo (And.intro Xw (And.intro hnq (And.intro hnt (And.intro hbq (And.intro hbt (And.intro hnb hft))))))))
      have hxap : ∀ i, (vaG x).ownBlock = some i → ¬ ftR q (.slice R m c) (.slice R2 m c2) (T.eraseIdx j) i := fun i hi hf => by
        have := htl x hxm i hi
        rcases hf with rfl | (hf | ⟨t, ht, hf⟩) | hf
        · exact N0.nq i (.inr ⟨x, hxm, hi⟩) rfl
        · have := hRge i hf; omega
        · exact gl_apart N0.gl HN.out.2.1 t ht i hi hf
        · have := hR2ge i hf; omega
      have HXA := Lib.hid (And.intro hxap (And.intro hRge (And.intro hR2ge htl)))
      clear r1 r2 r3 r4 r5 K0 bw hRge hR2ge hsub htl Gw hft hnq hnt hbq hbt hnb Xw Bo hxap HR HK2
      have hkk : ¬ ((k : Int) < (k : Int)) := by omega
      go_upto_region 14 with fail
      generalize hW3 : World.setCell _ _ _ = W3
      have K3 := Kr.out.putTo 2 q [(0, .slice R m c)] #[.slice R m c, .slice (some ⟨gB, 0, none⟩) k cB] hW3 (by simp only [apBut, apAll, qB, qU, ftR, true_or, and_true]; omega)
      simp only [List.set] at K3
      have t3 : Tou (fun i => i = q ∨ i = w.heap.size) wr W3 := by rw [← hW3]; exact Tou.set q 0 _ (.inl rfl)
      have HK3 := Lib.hid (And.intro K3 t3)
      have C3 := K3.says
      simp only [sayAll, cellsSay, qB, qU, Nat.reduceAdd, and_true, true_and] at C3
      clear hW3 K3 t3 C Kr
      go_upto_region 15 with fail
      generalize hW4 : World.setCell _ _ _ = W4
      have K4 := HK3.out.1.putTo 2 q [(1, .slice R2 m c2)] #[.slice R m c, .slice R2 m c2] hW4 (by simp only [apBut, apAll, qB, qU, ftR, true_or, and_true]; omega)
      simp only [List.set] at K4
      have t4 : Tou (fun i => i = q ∨ i = w.heap.size) wr W4 := HK3.out.2.trans (by rw [← hW4]; exact Tou.set (F := fun i => i = q ∨ i = w.heap.size) q 1 _ (.inl rfl)) (fun _ _ e => e)
      have HK4 := Lib.hid (And.intro K4 t4)
      have C4 := K4.says
      simp only [sayAll, cellsSay, qB, qU, Nat.reduceAdd, and_true, true_and] at C4
      clear hW4 K4 t4 C3 HK3
      go_wp2_with fail
      generalize hW5 : World.setCell _ _ _ = W5
      have K5 := HK4.out.1.putTo 1 w.heap.size [(0, .int .u8 (x.sd : Nat)), (1, .slice x.A x.b.length x.c)] #[.int .u8 (x.sd : Nat), .slice x.A x.b.length x.c] hW5 (by simp only [apBut, apAll, qB, qU, ftR, true_or, and_true]; omega)
      simp only [List.set] at K5
      have t5 : Tou (fun i => i = q ∨ i = w.heap.size) wr W5 := HK4.out.2.trans (by
        rw [← hW5]
        exact Tou.of_grown (grown_sets w.heap.size [(0, .int .u8 (x.sd : Nat)), (1, .slice x.A x.b.length x.c)] W4) (fun k e => by injection e with e; exact .inr e.symm)) (fun _ _ e => e)
      obtain ⟨Gw, Bo, Xw, hnq, hnt, hbq, hbt, hnb, hft⟩ := HG.out
      obtain ⟨hxap, hRge, hR2ge, htl⟩ := HXA.out
      have G5 := Gw.kept t5 (fun i hi e => e.elim (hnq i hi) (hnt i hi))
      have B5 := t5.row Bo (fun i hi e => by
        rcases e with rfl | rfl
        · exact hbq hi
        · exact hbt hi)
      have hxm := List.mem_of_getElem? HN.out.2.1
      have X5 : OwnB W5 0 (vaG x) x.b := t5.row Xw (fun i hi e => by
        rcases e with rfl | rfl
        · exact HN.out.1.nq i (.inr ⟨x, hxm, hi⟩) rfl
        · have := htl x hxm _ hi; omega)
      have HEND := Lib.hid (show RnTo w q (.slice (some ⟨gL, 0, none⟩) k cL) (.slice (some ⟨gB, 0, none⟩) k cB) T W5 (.slice R m c) (.slice R2 m c2) (T.eraseIdx j) ∧ okT (T.eraseIdx j) ∧ OwnB W5 0 (vaG x) x.b ∧ ∀ i, (vaG x).ownBlock = some i → ¬ ftR q (.slice R m c) (.slice R2 m c2) (T.eraseIdx j) i from ⟨⟨⟨K5.blk 2, G5, B5, hnq, hbq, hnb⟩, K5.tou 3, fun i hi => by
        rcases hi with rfl | hi | hi
        · exact .inl (.inl rfl)
        · exact (hft i hi).imp (fun h => .inr (.inl h)) (fun h => by omega)
        · exact .inr (by have := hR2ge i hi; omega)⟩, HN.out.2.2.2.erase j, X5, hxap⟩)
      have C5 := K5.says
      simp only [sayAll, cellsSay, qB, qU, Nat.reduceAdd, and_true, true_and] at C5
      refine bodyPost_ret (v := .tuple #[.agg #[.int .u8 (x.sd : Nat), .slice x.A x.b.length x.c], .bool true]) (by simp [results, Try.results23, go_sem, C5]) rfl ⟨rfl, _, _, HEND⟩

end Go.Proofs.Ytanenfbfcbkdhaa

/- Layer 19: the document's Drop; SameGrams. -/
set_option linter.unusedSimpArgs false
set_option linter.unusedVariables false
namespace Go.Proofs.Ytanenfbfcbkdhaa
open Go.RowKit
set_option maxRecDepth 100000

theorem rdrop_any (q : Nat) (VL VB : Value) (T : List Ng) (i : Int) (w : World) (h : Rn w q VL VB T) (hk : okT T) (hT2 : T.length ≤ 1000000) :
    Calls Try.prog 25 #[.pointer (some ⟨q, 0, none⟩), .int .i64 i] w fun e w' => e = .returned (.bool (isD T.length i)) ∧ RnOut w q VL VB T w' (dropD (T.map Ng.d) i) := by
  by_cases hi : 0 ≤ i ∧ i < (T.length : Int)
  · obtain ⟨j, rfl⟩ := Int.eq_ofNat_of_zero_le hi.1
    obtain ⟨x, hx⟩ : ∃ x, T[j]? = some x := ⟨_, List.getElem?_eq_getElem (by omega)⟩
    have e1 : isD T.length (j : Int) = true := decide_eq_true hi
    have HC := Lib.hid (rtake_yes q VL VB T j x w h hx hk hT2)
    have He := Lib.hid (dropD_yes e1)
    obtain ⟨L', hL'⟩ : ∃ L', L' = dropD (T.map Ng.d) (j : Int) := ⟨_, rfl⟩
    rw [e1]
    rw [← hL'] at He ⊢
    clear h hk hx hi e1 hL'
    go_enter Try.func25, Try.ntmps25
    go_wp2_with fail
    refine HC.out.mono ?_
    rintro e w1 ⟨rfl, VL', VB', k⟩
    go_wp2_with fail
    go_ret
    exact ⟨by simp, VL', VB', _, Lib.hid ⟨k.out.1.trans (RnTo.same k.out.1.nt (below_alloc _ _)), k.out.2.1, He.out⟩⟩
  · have e1 : isD T.length i = false := decide_eq_false hi
    have HC := Lib.hid (rtake_no q VL VB T i w h hi)
    have HF := Lib.hid (And.intro h hk)
    have He := Lib.hid (dropD_no e1)
    obtain ⟨L', hL'⟩ : ∃ L', L' = dropD (T.map Ng.d) i := ⟨_, rfl⟩
    rw [e1]
    rw [← hL'] at He ⊢
    clear h hk hi e1 hL'
    go_enter Try.func25, Try.ntmps25
    go_wp2_with fail
    refine HC.out.mono ?_
    rintro e w1 ⟨rfl, k⟩
    have Hk := Lib.hid k
    clear k
    go_wp2_with fail
    go_ret
    exact ⟨by simp, RnOut.same HF.out.1 HF.out.2 (on1 Hk.out (below_alloc _ _)) He.out⟩

/-- a datagram as Grams shows it -/
def Ng.gm (g : Ng) : Nat × List UInt8 := (g.sd, g.b)
/-- a slice of grams, to read -/
structure Gs (w : World) (A : Option Addr) (L : List Ng) : Prop where
  row : Rw w encG 2 A L
  by_ : ∀ x ∈ L, Bs w x.A x.b
theorem Gs.below {w w' : World} {A : Option Addr} {L : List Ng} (h : Gs w A L) (b : Below w.heap.size w w') : Gs w' A L := ⟨h.row.below b (Nat.le_refl _), fun x hx => (h.by_ x hx).below b⟩
theorem gs_of {w : World} {R : Option Addr} {n c : Nat} {L : List Ng} (h : Gg w (.slice R n c) L) : Gs w R L := by
  obtain ⟨A, c', hv, _, hr⟩ := OwnR.row Try.eltG h.row
  injection hv with e1 _ _
  subst e1
  exact ⟨hr, fun x hx => OwnB.bs (h.el x hx)⟩

set_option maxHeartbeats 4000000 in
theorem rsame_any (A A' : Option Addr) (c c' : Nat) (L L' : List Ng) (w : World) (h : Gs w A L) (h' : Gs w A' L') (hL : L.length ≤ 1000000) (hL' : L'.length ≤ 1000000) :
    Calls Try.prog 15 #[.slice A L.length c, .slice A' L'.length c'] w fun e w' => e = .returned (.bool (decide (L.map Ng.gm = L'.map Ng.gm))) ∧ Below w.heap.size w w' := by
  obtain ⟨n, hn⟩ : ∃ n, n = L.length := ⟨_, rfl⟩
  obtain ⟨n', hn'⟩ : ∃ n', n' = L'.length := ⟨_, rfl⟩
  rw [← hn, ← hn']
  by_cases hnn : n = n'
  · subst hnn
    have k0 : ((n : Int) == (n : Int)) = true := beq_iff_eq.2 rfl
    have hn6 : n ≤ 1000000 := by omega
    obtain ⟨r, hr⟩ : ∃ r, r = decide (L.map Ng.gm = L'.map Ng.gm) := ⟨_, rfl⟩
    rw [← hr]
    have HH := Lib.hid (And.intro h (And.intro h' (And.intro hn (And.intro hn' hr))))
    clear h h' hn hn' hr
    go_enter Try.func15, Try.ntmps15
    go_wp2_with fail
    go_loopw [5] (fun s wr => ∃ k : Nat, k ≤ n ∧ s = .int .i64 k ∧ Hid (Below w.heap.size w wr ∧ (L.take k).map Ng.gm = (L'.take k).map Ng.gm)) (fun s _ => n - (intOf s).toNat)
    case atStart => exact ⟨0, Nat.zero_le _, rfl, Lib.hid ⟨Below.refl _ _, rfl⟩⟩
    case round =>
      obtain ⟨k, hk, rfl, HR⟩ := hrel
      obtain ⟨hw, hm⟩ := HR.out
      have hGx := HH.out.1.below hw
      have hGy := HH.out.2.1.below hw
      have HW := Lib.hid hw
      clear hw
      by_cases hlt : k < n
      · obtain ⟨x, hx⟩ : ∃ x, L[k]? = some x := ⟨_, List.getElem?_eq_getElem (by rw [← HH.out.2.2.1]; exact hlt)⟩
        obtain ⟨y, hy⟩ : ∃ y, L'[k]? = some y := ⟨_, List.getElem?_eq_getElem (by rw [← HH.out.2.2.2.1]; exact hlt)⟩
        obtain ⟨p, f, rfl, hc⟩ := hGx.row k x hx
        obtain ⟨p', f', rfl, hc'⟩ := hGy.row k y hy
        have c0 := hc 0 _ rfl
        have c1 := hc 1 _ rfl
        have d0 := hc' 0 _ rfl
        have d1 := hc' 1 _ rfl
        simp only [Nat.add_zero] at c0 d0
        have s1 := fun nq => str_of ((hGx.by_ x (List.mem_of_getElem? hx)).below (below_drewN (Below.refl _ wr) nq)) x.c
        have s2 := fun nq => str_of ((hGy.by_ y (List.mem_of_getElem? hy)).below (below_drewN (Below.refl _ wr) nq)) y.c
        have hkl : (k : Int) < (n : Int) := by omega
        have hk0 : (0 : Int) ≤ (k : Int) := by omega
        have hgx : (L.map Ng.gm)[k]? = some x.gm := by rw [List.getElem?_map, hx]; rfl
        have hgy : (L'.map Ng.gm)[k]? = some y.gm := by rw [List.getElem?_map, hy]; rfl
        have HG := Lib.hid (And.intro hgx hgy)
        have HM : Hid (x.gm = y.gm → (L.take (k + 1)).map Ng.gm = (L'.take (k + 1)).map Ng.gm) := Lib.hid (fun e => by
          rw [List.take_add_one, List.take_add_one, hx, hy, List.map_append, List.map_append, hm]
          show _ ++ [x.gm] = _ ++ [y.gm]
          rw [e])
        simp only [vaG] at c1 d1
        clear hc hc' hx hy hgx hgy hm HR hGx hGy
        by_cases hs : x.sd = y.sd
        · have e1 : ((x.sd : Int) == (y.sd : Int)) = true := beq_iff_eq.2 (by omega)
          have e1' : ((x.sd : Int) != (y.sd : Int)) = false := by unfold bne; rw [e1]; rfl
          by_cases hb : x.b = y.b
          · have e2 : (x.b == y.b) = true := beq_iff_eq.2 hb
            have e2' : (x.b != y.b) = false := by unfold bne; rw [e2]; rfl
            have HE := Lib.hid (HM.out (by unfold Ng.gm; rw [hs, hb]))
            clear hs hb
            go_wp2_with fail
            go_quiet (fail)
            go_wp2_with fail
            go_roundw
            case measure => simp [intOf]; omega
            case rel => exact ⟨k + 1, by omega, by go_num, Lib.hid ⟨below_drewN HW.out nq, HE.out⟩⟩
          · have e2 : (x.b == y.b) = false := beq_eq_false_iff_ne.2 hb
            have e2' : (x.b != y.b) = true := by unfold bne; rw [e2]; rfl
            have HE : Hid (r = false) := Lib.hid (by
              rw [HH.out.2.2.2.2]
              refine decide_eq_false (fun e => hb ?_)
              have h9 := HG.out.1
              rw [e, HG.out.2] at h9
              injection h9 with h9
              exact (congrArg Prod.snd h9).symm)
            clear hs hb
            go_wp2_with fail
            go_quiet (fail)
            go_wp2_with fail
            go_ret
            exact ⟨by simp [HE.out], below_drewN HW.out nq⟩
        · have e1 : ((x.sd : Int) == (y.sd : Int)) = false := beq_eq_false_iff_ne.2 (by omega)
          have e1' : ((x.sd : Int) != (y.sd : Int)) = true := by unfold bne; rw [e1]; rfl
          have HE : Hid (r = false) := Lib.hid (by
            rw [HH.out.2.2.2.2]
            refine decide_eq_false (fun e => hs ?_)
            have h9 := HG.out.1
            rw [e, HG.out.2] at h9
            injection h9 with h9
            exact (congrArg Prod.fst h9).symm)
          clear hs
          go_wp2_with fail
          go_quiet (fail)
          go_wp2_with fail
          go_ret
          exact ⟨by simp [HE.out], below_drewN HW.out nq⟩
      · obtain rfl : k = n := by omega
        have HE : Hid (r = true) := Lib.hid (by
          rw [HH.out.2.2.2.2]
          refine decide_eq_true ?_
          have h9 := hm
          rw [List.take_of_length_le (Nat.le_of_eq HH.out.2.2.1.symm), List.take_of_length_le (Nat.le_of_eq HH.out.2.2.2.1.symm)] at h9
          exact h9)
        have hkk : ¬ ((k : Int) < (k : Int)) := by omega
        clear hm hGx hGy HR
        go_wp2_with fail
        go_ret
        exact ⟨by simp [HE.out], HW.out⟩
  · have k0 : ((n : Int) == (n' : Int)) = false := beq_eq_false_iff_ne.2 (by omega)
    have he : decide (L.map Ng.gm = L'.map Ng.gm) = false := decide_eq_false (fun e => hnn (by
      have := congrArg List.length e
      rw [List.length_map, List.length_map] at this
      omega))
    rw [he]
    clear h h' hn hn' he hL hL'
    go_enter Try.func15, Try.ntmps15
    go_wp2_with fail
    go_ret
    exact ⟨rfl, Below.refl _ _⟩

end Go.Proofs.Ytanenfbfcbkdhaa

/- Layer 19: both networks at once: what a call on either does. -/
set_option linter.unusedSimpArgs false
set_option linter.unusedVariables false
namespace Go.Proofs.Ytanenfbfcbkdhaa
open Go.RowKit
set_option maxRecDepth 100000

def thN (q : Nat) (V : Value) (T : List Ng) : Kt := ⟨fun w => Nt w q V T, ftN q V T, fun h t hF => h.kept t hF, fun h => h.lt⟩
def thQ (q : Nat) (VL VB : Value) (T : List Ng) : Kt := ⟨fun w => Rn w q VL VB T, ftR q VL VB T, fun h t hF => h.kept t hF, fun h => h.lt⟩
/-- the program's network with data L, the document's with L', and other things, apart from each other -/
def Du (B : Nat) (w0 w : World) (q q' : Nat) (ts : List Kt) (L L' : List Dg) : Prop := ∃ V T VL VB T', Sep B w0 w (thN q V T :: thQ q' VL VB T' :: ts) ∧ okT T ∧ okT T' ∧ T.map Ng.d = L ∧ T'.map Ng.d = L'
section
variable {B : Nat} {w0 w w' : World} {q q' : Nat} {ts us : List Kt} {t : Kt} {L L' L1 : List Dg}
theorem Sep.perm {ts us : List Kt} (h : Sep B w0 w ts) (hp : ts.Perm us) : Sep B w0 w us := ⟨h.b, h.sz, fun t ht => h.all t (hp.mem_iff.2 ht), (hp.pairwise_iff (fun {x y} hxy k h1 h2 => hxy k h2 h1)).1 h.ap⟩
theorem Du.go (h : Du B w0 w q q' ts L L') (b : Below w.heap.size w w') : Du B w0 w' q q' ts L L' := by
  obtain ⟨V, T, VL, VB, T', hs, h1⟩ := h
  exact ⟨V, T, VL, VB, T', hs.go b, h1⟩
theorem Du.drew (h : Du B w0 w q q' ts L L') : Du B w0 w.drew q q' ts L L' := h.go (Below.refl w.heap.size w).drew
theorem Du.sub (h : Du B w0 w q q' ts L L') (hs : us.Sublist ts) : Du B w0 w q q' us L L' := by
  obtain ⟨V, T, VL, VB, T', h0, h1⟩ := h
  exact ⟨V, T, VL, VB, T', h0.sub ((hs.cons_cons _).cons_cons _), h1⟩
theorem Du.tail (h : Du B w0 w q q' (t :: ts) L L') : Du B w0 w q q' ts L L' := h.sub (List.sublist_cons_self t ts)
theorem Du.get (h : Du B w0 w q q' ts L L') (i : Nat) (e : ts[i]? = some t) : t.P w := by
  obtain ⟨V, T, VL, VB, T', h0, h1⟩ := h
  exact h0.at_ (i + 2) (by simpa using e)
theorem Du.blk (h : Du B w0 w q q' ts L L') (i : Nat) {g : Nat} {t : TypeId} {cs : Array Value} (e : ts[i]? = some (thB g t cs) := by rfl) : Blk w g t cs := h.get i e
theorem Du.own (h : Du B w0 w q q' ts L L') (i : Nat) {v : Value} {l : List UInt8} (e : ts[i]? = some (thO v l) := by rfl) : OwnB w 0 v l := h.get i e
theorem Du.b (h : Du B w0 w q q' ts L L') : Below B w0 w := by
  obtain ⟨V, T, VL, VB, T', h0, h1⟩ := h
  exact h0.b
theorem Du.sz (h : Du B w0 w q q' ts L L') : B ≤ w.heap.size := by
  obtain ⟨V, T, VL, VB, T', h0, h1⟩ := h
  exact h0.sz
theorem Du.bs (h : Du B w0 w q q' ts L L') (hB : w0.heap.size ≤ B) {A : Option Addr} {l : List UInt8} (b : Bs w0 A l) : Bs w A l := by
  obtain ⟨V, T, VL, VB, T', h0, h1⟩ := h
  exact h0.bs hB b
/-- a new thing -/
theorem Du.cons (h : Du B w0 w q q' ts L L') (b : Below w.heap.size w w') (hP : t.P w') (hF : ∀ k, t.F k → w.heap.size ≤ k) : Du B w0 w' q q' (t :: ts) L L' := by
  obtain ⟨V, T, VL, VB, T', h0, h1⟩ := h
  exact ⟨V, T, VL, VB, T', (h0.cons b hP hF).perm ((List.Perm.swap _ _ _).trans ((List.Perm.swap _ _ _).cons _)), h1⟩
theorem Du.box (h : Du B w0 w q q' ts L L') (cs : Array Value) (t : TypeId) : Du B w0 (w.alloc (.cells cs t)) q q' (thB w.heap.size t cs :: ts) L L' :=
  h.cons (below_alloc w _) (Blk.new w t cs) (fun k e => by subst e; exact Nat.le_refl _)
/-- a call that turns one of the other things -/
theorem Du.call (h : Du B w0 w q q' ts L L') (i : Nat) {t' : Kt} (e : ts[i]? = some t) (hT : Tou t.F w w') (hP : t'.P w') (hN : ∀ k, t'.F k → t.F k ∨ w.heap.size ≤ k) : Du B w0 w' q q' (ts.set i t') L L' := by
  obtain ⟨V, T, VL, VB, T', h0, h1⟩ := h
  exact ⟨V, T, VL, VB, T', h0.call (i + 2) (by simpa using e) hT hP hN, h1⟩
theorem Du.okL (h : Du B w0 w q q' ts L L') : ∀ d ∈ L, 0 < d.b.length ∧ d.b.length ≤ 4096 := fun d hd => by
  obtain ⟨V, T, VL, VB, T', h0, h1, h2, rfl, h4⟩ := h
  obtain ⟨x, hx, rfl⟩ := List.mem_map.1 hd
  exact h1 x hx
/-- bytes of a thing are stored into -/
theorem Du.byte (h : Du B w0 w q q' ts L L') (i : Nat) {g n c : Nat} {l : List UInt8} (j : Nat) (x : UInt8) (e : ts[i]? = some (thO (.slice (some ⟨g, 0, none⟩) n c) l) := by rfl) : Du B w0 (w.setCell ⟨g, j, none⟩ (bv x)) q q' (ts.set i (thO (.slice (some ⟨g, 0, none⟩) n c) (l.set j x))) L L' :=
  h.call i e (Tou.set g j _ rfl) ((h.own i e).set j x) (fun k hk => .inl hk)
theorem Du.len (h : Du B w0 w q q' ts L L') : ∃ V T, Nt w q V T ∧ T.map Ng.d = L ∧ T.length = L.length := by
  obtain ⟨V, T, VL, VB, T', h0, h1, h2, h3, h4⟩ := h
  exact ⟨V, T, h0.at_ 0 rfl, h3, by rw [← h3, List.length_map]⟩
theorem Du.nto {V V' VL VB : Value} {T T1 T' : List Ng} (hs : Sep B w0 w (thN q V T :: thQ q' VL VB T' :: ts)) (o2 : okT T') (e2 : T'.map Ng.d = L') (k : Hid (NtTo w q V T w' V' T1 ∧ okT T1 ∧ T1.map Ng.d = L1)) : Du B w0 w' q q' ts L1 L' :=
  ⟨V', T1, VL, VB, T', hs.call (t' := thN q V' T1) 0 rfl k.out.1.tou k.out.1.nt k.out.1.new, k.out.2.1, o2, k.out.2.2, e2⟩
theorem Du.rto {V VL VB : Value} {T T' : List Ng} (hs : Sep B w0 w (thN q V T :: thQ q' VL VB T' :: ts)) (o1 : okT T) (e1 : T.map Ng.d = L) (k : RnOut w q' VL VB T' w' L1) : Du B w0 w' q q' ts L L1 := by
  obtain ⟨VL', VB', T1, k⟩ := k
  exact ⟨V, T, VL', VB', T1, hs.call (t' := thQ q' VL' VB' T1) 1 rfl k.out.1.tou k.out.1.nt k.out.1.new, o1, k.out.2.1, e1, k.out.2.2⟩

theorem du_ndrop (h : Du B w0 w q q' ts L L') (i : Int) (hL : L.length ≤ 1000000) :
    Calls Try.prog 24 #[.pointer (some ⟨q, 0, none⟩), .int .i64 i] w fun e w' => e = .returned (.bool (isD L.length i)) ∧ Du B w0 w' q q' ts (dropD L i) L' := by
  obtain ⟨V, T, VL, VB, T', hs, o1, o2, rfl, e2⟩ := h
  rw [List.length_map] at hL ⊢
  refine (ndrop_any q V T i w (hs.at_ 0 rfl) o1 hL).mono ?_
  rintro e w1 ⟨rfl, V1, T1, k⟩
  exact ⟨rfl, Du.nto hs o2 e2 k⟩
theorem du_ntwice (h : Du B w0 w q q' ts L L') (i : Int) (hL : L.length ≤ 1000000) :
    Calls Try.prog 11 #[.pointer (some ⟨q, 0, none⟩), .int .i64 i] w fun e w' => e = .returned (.bool (isD L.length i && decide (L.length < 4096))) ∧ Du B w0 w' q q' ts (twiceD L i) L' := by
  obtain ⟨V, T, VL, VB, T', hs, o1, o2, rfl, e2⟩ := h
  rw [List.length_map] at hL ⊢
  refine (ntwice_any q V T i w (hs.at_ 0 rfl) o1 hL).mono ?_
  rintro e w1 ⟨rfl, V1, T1, k⟩
  exact ⟨rfl, Du.nto hs o2 e2 k⟩
theorem du_nbend (h : Du B w0 w q q' ts L L') (i a : Int) (x : Nat) (hx : x < 256) :
    Calls Try.prog 19 #[.pointer (some ⟨q, 0, none⟩), .int .i64 i, .int .i64 a, .int .u8 (x : Nat)] w fun e w' => e = .returned (.bool (mayBend L i a x)) ∧ Du B w0 w' q q' ts (bendD L i a x) L' := by
  obtain ⟨V, T, VL, VB, T', hs, o1, o2, rfl, e2⟩ := h
  refine (nbend_any q V T i a x w (hs.at_ 0 rfl) o1 hx).mono ?_
  rintro e w1 ⟨rfl, V1, T1, k⟩
  exact ⟨rfl, Du.nto hs o2 e2 k⟩
theorem du_nsend (h : Du B w0 w q q' ts L L') (sd : Nat) (b : List UInt8) (A : Option Addr) (c : Nat) (hA : Bs w A b) (hL : L.length ≤ 1000000) :
    Calls Try.prog 10 #[.pointer (some ⟨q, 0, none⟩), .int .u8 (sd : Nat), .slice A b.length c] w fun e w' => e = .returned (.bool (maySend sd b && decide (L.length < 4096))) ∧ Du B w0 w' q q' ts (sendD L sd b) L' := by
  obtain ⟨V, T, VL, VB, T', hs, o1, o2, rfl, e2⟩ := h
  rw [List.length_map] at hL ⊢
  refine (nsend_any q V T sd b A c w (hs.at_ 0 rfl) o1 hA hL).mono ?_
  rintro e w1 ⟨rfl, V1, T1, k⟩
  exact ⟨rfl, Du.nto hs o2 e2 k⟩
theorem du_rdrop (h : Du B w0 w q q' ts L L') (i : Int) (hL : L'.length ≤ 1000000) :
    Calls Try.prog 25 #[.pointer (some ⟨q', 0, none⟩), .int .i64 i] w fun e w' => e = .returned (.bool (isD L'.length i)) ∧ Du B w0 w' q q' ts L (dropD L' i) := by
  obtain ⟨V, T, VL, VB, T', hs, o1, o2, e1, rfl⟩ := h
  rw [List.length_map] at hL ⊢
  refine (rdrop_any q' VL VB T' i w (hs.at_ 1 rfl) o2 hL).mono ?_
  rintro e w1 ⟨rfl, k⟩
  exact ⟨rfl, Du.rto hs o1 e1 k⟩
theorem du_rtwice (h : Du B w0 w q q' ts L L') (i : Int) (hL : L'.length ≤ 1000000) :
    Calls Try.prog 26 #[.pointer (some ⟨q', 0, none⟩), .int .i64 i] w fun e w' => e = .returned (.bool (isD L'.length i && decide (L'.length < 4096))) ∧ Du B w0 w' q q' ts L (twiceD L' i) := by
  obtain ⟨V, T, VL, VB, T', hs, o1, o2, e1, rfl⟩ := h
  rw [List.length_map] at hL ⊢
  refine (rtwice_any q' VL VB T' i w (hs.at_ 1 rfl) o2 hL).mono ?_
  rintro e w1 ⟨rfl, k⟩
  exact ⟨rfl, Du.rto hs o1 e1 k⟩
theorem du_rbend (h : Du B w0 w q q' ts L L') (i a : Int) (x : Nat) (hx : x < 256) :
    Calls Try.prog 27 #[.pointer (some ⟨q', 0, none⟩), .int .i64 i, .int .i64 a, .int .u8 (x : Nat)] w fun e w' => e = .returned (.bool (mayBend L' i a x)) ∧ Du B w0 w' q q' ts L (bendD L' i a x) := by
  obtain ⟨V, T, VL, VB, T', hs, o1, o2, e1, rfl⟩ := h
  refine (rbend_any q' VL VB T' i a x w (hs.at_ 1 rfl) o2 hx).mono ?_
  rintro e w1 ⟨rfl, k⟩
  exact ⟨rfl, Du.rto hs o1 e1 k⟩
theorem du_rsend (h : Du B w0 w q q' ts L L') (sd : Nat) (b : List UInt8) (A : Option Addr) (c : Nat) (hA : Bs w A b) (hL : L'.length ≤ 1000000) :
    Calls Try.prog 28 #[.pointer (some ⟨q', 0, none⟩), .int .u8 (sd : Nat), .slice A b.length c] w fun e w' => e = .returned (.bool (maySend sd b && decide (L'.length < 4096))) ∧ Du B w0 w' q q' ts L (sendD L' sd b) := by
  obtain ⟨V, T, VL, VB, T', hs, o1, o2, e1, rfl⟩ := h
  rw [List.length_map] at hL ⊢
  refine (rsend_any q' sd b A c VL VB T' w (hs.at_ 1 rfl) o2 hA hL).mono ?_
  rintro e w1 ⟨rfl, k⟩
  exact ⟨rfl, Du.rto hs o1 e1 k⟩
theorem du_ntake_no (h : Du B w0 w q q' ts L L') (i : Int) (hi : isD L.length i = false) :
    Calls Try.prog 12 #[.pointer (some ⟨q, 0, none⟩), .int .i64 i] w fun e w' => e = .returned (.tuple #[.agg #[.int .u8 0, .slice none 0 0], .bool false]) ∧ Du B w0 w' q q' ts L L' := by
  have h0 := h
  obtain ⟨V, T, VL, VB, T', hs, o1, o2, rfl, e2⟩ := h
  rw [List.length_map] at hi
  refine (ntake_no q V T i w (hs.at_ 0 rfl) (of_decide_eq_false hi)).mono ?_
  rintro e w1 ⟨rfl, k⟩
  exact ⟨rfl, h0.go k⟩
theorem du_rtake_no (h : Du B w0 w q q' ts L L') (i : Int) (hi : isD L'.length i = false) :
    Calls Try.prog 23 #[.pointer (some ⟨q', 0, none⟩), .int .i64 i] w fun e w' => e = .returned (.tuple #[.agg #[.int .u8 0, .slice none 0 0], .bool false]) ∧ Du B w0 w' q q' ts L L' := by
  have h0 := h
  obtain ⟨V, T, VL, VB, T', hs, o1, o2, e1, rfl⟩ := h
  rw [List.length_map] at hi
  refine (rtake_no q' VL VB T' i w (hs.at_ 1 rfl) (of_decide_eq_false hi)).mono ?_
  rintro e w1 ⟨rfl, k⟩
  exact ⟨rfl, h0.go k⟩
theorem foot_of {T : List Ng} {x : Ng} {j : Nat} {V : Value} (hx : T[j]? = some x) : ∀ k, (vaG x).ownBlock = some k → footG vaG V T k := fun k hk => .inr ⟨x, List.mem_of_getElem? hx, hk⟩
theorem du_ntake_yes (h : Du B w0 w q q' ts L L') (j : Nat) (d : Dg) (hd : L[j]? = some d) (hL : L.length ≤ 1000000) :
    Calls Try.prog 12 #[.pointer (some ⟨q, 0, none⟩), .int .i64 (j : Nat)] w fun e w' => ∃ A c, e = .returned (.tuple #[.agg #[.int .u8 (d.sd : Nat), .slice A d.b.length c], .bool true]) ∧ Du B w0 w' q q' (thO (.slice A d.b.length c) d.b :: ts) (L.eraseIdx j) L' := by
  obtain ⟨V, T, VL, VB, T', hs, o1, o2, rfl, e2⟩ := h
  rw [List.length_map] at hL
  rw [List.getElem?_map, Option.map_eq_some_iff] at hd
  obtain ⟨x, hx, rfl⟩ := hd
  refine (ntake_yes q V T j x w (hs.at_ 0 rfl) hx o1 hL).mono ?_
  rintro e w1 ⟨rfl, V1, k⟩
  obtain ⟨k1, k2, k3, k4⟩ := k.out
  refine ⟨x.A, x.c, rfl, V1, _, VL, VB, T', (hs.split (t' := thN q V1 (T.eraseIdx j)) (t2 := thO (vaG x) x.b) 0 rfl k1.tou k1.nt k3 k1.new (fun k hk => .inl (.inr (foot_of hx k hk))) (fun k h1 h2 => k4 k h2 h1)).perm ((List.Perm.swap _ _ _).trans ((List.Perm.swap _ _ _).cons _)), k2, o2, map_erase _ _ _, e2⟩
theorem du_rtake_yes (h : Du B w0 w q q' ts L L') (j : Nat) (d : Dg) (hd : L'[j]? = some d) (hL : L'.length ≤ 1000000) :
    Calls Try.prog 23 #[.pointer (some ⟨q', 0, none⟩), .int .i64 (j : Nat)] w fun e w' => ∃ A c, e = .returned (.tuple #[.agg #[.int .u8 (d.sd : Nat), .slice A d.b.length c], .bool true]) ∧ Du B w0 w' q q' (thO (.slice A d.b.length c) d.b :: ts) L (L'.eraseIdx j) := by
  obtain ⟨V, T, VL, VB, T', hs, o1, o2, e1, rfl⟩ := h
  rw [List.length_map] at hL
  rw [List.getElem?_map, Option.map_eq_some_iff] at hd
  obtain ⟨x, hx, rfl⟩ := hd
  refine (rtake_yes q' VL VB T' j x w (hs.at_ 1 rfl) hx o2 hL).mono ?_
  rintro e w1 ⟨rfl, VL1, VB1, k⟩
  obtain ⟨k1, k2, k3, k4⟩ := k.out
  refine ⟨x.A, x.c, rfl, V, T, VL1, VB1, _, (hs.split (t' := thQ q' VL1 VB1 (T'.eraseIdx j)) (t2 := thO (vaG x) x.b) 1 rfl k1.tou k1.nt k3 k1.new (fun k hk => .inl (.inr (.inl (foot_of hx k hk)))) (fun k h1 h2 => k4 k h2 h1)).perm ((List.Perm.swap _ _ _).trans ((List.Perm.swap _ _ _).cons _)), o1, k2, e1, map_erase _ _ _⟩
end

end Go.Proofs.Ytanenfbfcbkdhaa

/- Layer 19: a call on both networks: Drop, Twice, Bend. -/
set_option linter.unusedSimpArgs false
set_option linter.unusedVariables false
namespace Go.Proofs.Ytanenfbfcbkdhaa
open Go.RowKit
set_option maxRecDepth 100000

/-- what a call makes of the data -/
def stepK (k : Nat) (L : List Dg) (o : OpN) : List Dg := match k with
  | 3 => dropD L o.i
  | 4 => dropD L o.i
  | 5 => twiceD L o.i
  | 6 => bendD L o.i o.at_ o.x
  | 7 => bendD L o.i o.at_ o.x
  | _ => sendD L o.sd o.b
def stepD (L : List Dg) (o : OpN) : List Dg := stepK (o.kd % 8) L o
def aggO (o : OpN) : Value := .agg #[.int .u8 (o.kd : Nat), .int .u8 (o.sd : Nat), .slice o.A o.b.length o.c, .int .i64 o.i, .int .i64 o.at_, .int .u8 (o.x : Nat)]
def celO (o : OpN) : Array Value := #[.int .u8 (o.kd : Nat), .int .u8 (o.sd : Nat), .slice o.A o.b.length o.c, .int .i64 o.i, .int .i64 o.at_, .int .u8 (o.x : Nat)]

/-- what a call on both answers and leaves -/
def DoesOut (B : Nat) (w0 : World) (q q' : Nat) (ts : List Kt) (L L' M M' : List Dg) (e : Ending) (w' : World) : Prop := ∃ b, e = .returned (.bool b) ∧ Hid ((L = L' → b = true) ∧ Du B w0 w' q q' ts M M')
theorem DoesOut.of {B : Nat} {w0 w' : World} {q q' : Nat} {ts : List Kt} {L L' M M' : List Dg} {b : Bool} (h : L = L' → b = true) (d : Du B w0 w' q q' ts M M') : DoesOut B w0 q q' ts L L' M M' (.returned (.bool b)) w' := ⟨b, rfl, Lib.hid ⟨h, d⟩⟩

set_option maxHeartbeats 4000000 in
theorem does_drop {B : Nat} {w0 w : World} {q q' : Nat} {ts : List Kt} {L L' : List Dg} (o : OpN) (h : Du B w0 w q q' ts L L') (hk : o.kd % 8 = 4) (hL : L.length ≤ 1000000) (hL' : L'.length ≤ 1000000) :
    Calls Try.prog 14 #[.pointer (some ⟨q, 0, none⟩), .pointer (some ⟨q', 0, none⟩), aggO o] w (DoesOut B w0 q q' ts L L' (dropD L o.i) (dropD L' o.i)) := by
  have f0 : (o.kd : Int) % 8 = 4 := by omega
  obtain ⟨W, hW⟩ : ∃ W, W = w.alloc (.cells (celO o) 31) := ⟨_, rfl⟩
  have HG := Lib.hid (h.box (celO o) 31)
  rw [← hW] at HG
  obtain ⟨g, hg⟩ : ∃ g, g = w.heap.size := ⟨_, rfl⟩
  obtain ⟨i, hi⟩ : ∃ i, i = o.i := ⟨_, rfl⟩
  unfold celO at HG
  unfold aggO
  unfold celO at hW
  rw [← hi] at HG hW ⊢
  have HL := Lib.hid (And.intro hL hL')
  have C := bsays (HG.out.blk 0)
  simp only [cellsSay, Nat.reduceAdd, and_true] at C
  clear h hk hL hL' hi
  go_enter Try.func14, Try.ntmps14
  go_upto_region 2 with fail
  rw [← hW]
  rw [← hg] at HG C ⊢
  clear hW hg
  go_upto_region 12 with fail
  go_region_with (first
    | (go_at_call 24; refine (du_ndrop (by first | exact HG.out | exact HG.out.drew) _ HL.out.1).mono ?_; rintro e wN ⟨rfl, h⟩; replace HG := Lib.hid h; clear h; replace C := bsays (HG.out.blk 0); simp only [cellsSay, Nat.reduceAdd, and_true] at C)
    | (go_at_call 25; refine (du_rdrop (by first | exact HG.out | exact HG.out.drew) _ HL.out.2).mono ?_; rintro e wN ⟨rfl, h⟩; replace HG := Lib.hid h; clear h; replace C := bsays (HG.out.blk 0); simp only [cellsSay, Nat.reduceAdd, and_true] at C))
  all_goals
    go_wp2_with fail
    go_ret
    exact DoesOut.of (fun e => by subst e; simp) HG.out.tail

end Go.Proofs.Ytanenfbfcbkdhaa

/- Layer 19: a call on both networks: Twice. -/
set_option linter.unusedSimpArgs false
set_option linter.unusedVariables false
namespace Go.Proofs.Ytanenfbfcbkdhaa
open Go.RowKit
set_option maxRecDepth 100000

set_option maxHeartbeats 4000000 in
theorem does_twice {B : Nat} {w0 w : World} {q q' : Nat} {ts : List Kt} {L L' : List Dg} (o : OpN) (h : Du B w0 w q q' ts L L') (hk : o.kd % 8 = 5) (hL : L.length ≤ 1000000) (hL' : L'.length ≤ 1000000) :
    Calls Try.prog 14 #[.pointer (some ⟨q, 0, none⟩), .pointer (some ⟨q', 0, none⟩), aggO o] w (DoesOut B w0 q q' ts L L' (twiceD L o.i) (twiceD L' o.i)) := by
  have f0 : (o.kd : Int) % 8 = 5 := by omega
  obtain ⟨W, hW⟩ : ∃ W, W = w.alloc (.cells (celO o) 31) := ⟨_, rfl⟩
  have HG := Lib.hid (h.box (celO o) 31)
  rw [← hW] at HG
  obtain ⟨g, hg⟩ : ∃ g, g = w.heap.size := ⟨_, rfl⟩
  obtain ⟨i, hi⟩ : ∃ i, i = o.i := ⟨_, rfl⟩
  unfold celO at HG
  unfold aggO
  unfold celO at hW
  rw [← hi] at HG hW ⊢
  have HL := Lib.hid (And.intro hL hL')
  have C := bsays (HG.out.blk 0)
  simp only [cellsSay, Nat.reduceAdd, and_true] at C
  clear h hk hL hL' hi
  go_enter Try.func14, Try.ntmps14
  go_upto_region 2 with fail
  rw [← hW]
  rw [← hg] at HG C ⊢
  clear hW hg
  go_upto_region 14 with fail
  go_region_with (first
    | (go_at_call 11; refine (du_ntwice (by first | exact HG.out | exact HG.out.drew) _ HL.out.1).mono ?_; rintro e wN ⟨rfl, h⟩; replace HG := Lib.hid h; clear h; replace C := bsays (HG.out.blk 0); simp only [cellsSay, Nat.reduceAdd, and_true] at C)
    | (go_at_call 26; refine (du_rtwice (by first | exact HG.out | exact HG.out.drew) _ HL.out.2).mono ?_; rintro e wN ⟨rfl, h⟩; replace HG := Lib.hid h; clear h; replace C := bsays (HG.out.blk 0); simp only [cellsSay, Nat.reduceAdd, and_true] at C))
  all_goals
    go_wp2_with fail
    go_ret
    exact DoesOut.of (fun e => by subst e; simp) HG.out.tail

end Go.Proofs.Ytanenfbfcbkdhaa

/- Layer 19: a call on both networks: Bend. -/
set_option linter.unusedSimpArgs false
set_option linter.unusedVariables false
namespace Go.Proofs.Ytanenfbfcbkdhaa
open Go.RowKit
set_option maxRecDepth 100000

def pickR {α : Type} (o : Option Value) (x y : α) : α := match o with
  | none => x
  | some _ => y

set_option maxHeartbeats 4000000 in
theorem does_bend6 {B : Nat} {w0 w : World} {q q' : Nat} {ts : List Kt} {L L' : List Dg} (o : OpN) (hx : o.x < 256) (h : Du B w0 w q q' ts L L') (hk : o.kd % 8 = 6) :
    Calls Try.prog 14 #[.pointer (some ⟨q, 0, none⟩), .pointer (some ⟨q', 0, none⟩), aggO o] w (DoesOut B w0 q q' ts L L' (bendD L o.i o.at_ o.x) (bendD L' o.i o.at_ o.x)) := by
  have f0 : (o.kd : Int) % 8 = 6 := by omega
  have hmx : Try.prog.follows .mixedOrders = true := by kernel_rfl
  obtain ⟨W, hW⟩ : ∃ W, W = w.alloc (.cells (celO o) 31) := ⟨_, rfl⟩
  have HG := Lib.hid (h.box (celO o) 31)
  rw [← hW] at HG
  obtain ⟨g, hg⟩ : ∃ g, g = w.heap.size := ⟨_, rfl⟩
  obtain ⟨i, hi⟩ : ∃ i, i = o.i := ⟨_, rfl⟩
  obtain ⟨a, ha⟩ : ∃ a, a = o.at_ := ⟨_, rfl⟩
  obtain ⟨x, hxx⟩ : ∃ x, x = o.x := ⟨_, rfl⟩
  unfold celO at HG
  unfold aggO
  unfold celO at hW
  rw [← hi, ← ha, ← hxx] at HG hW ⊢
  have HX := Lib.hid (show x < 256 by rw [hxx]; exact hx)
  have C := bsays (HG.out.blk 0)
  simp only [cellsSay, Nat.reduceAdd, and_true] at C
  clear h hx hk hi ha hxx
  go_enter Try.func14, Try.ntmps14
  go_upto_region 2 with fail
  rw [← hW]
  rw [← hg] at HG C ⊢
  clear hW hg
  go_upto_region 17 with fail
  clear C
  obtain ⟨cs, hcs⟩ : ∃ cs : Array Value, cs = #[.int .u8 (o.kd : Nat), .int .u8 (o.sd : Nat), .slice o.A o.b.length o.c, .int .i64 i, .int .i64 a, .int .u8 (x : Nat)] := ⟨_, rfl⟩
  rw [← hcs] at HG
  obtain ⟨I, hI⟩ : ∃ I : Rec → World → Prop, ∀ E W, I E W ↔ Du B w0 W q q' (thB g 31 cs :: ts) (pickR (E 7) L (bendD L i a x)) (pickR (E 15) L' (bendD L' i a x)) := ⟨_, fun _ _ => Iff.rfl⟩
  have hI0 : I (fun _ => none) W.drew := (hI _ _).2 HG.out.drew
  haveI : Nonempty (InvW I) := ⟨⟨_, _, hI0⟩⟩
  have e3 : ∀ x : InvW I, x.W.cell? ⟨g, 3, none⟩ = some (.int .i64 i) := fun x => by have h := ((hI _ _).1 x.h).blk 0; rw [hcs] at h; exact h.cell 3
  have e4 : ∀ x : InvW I, x.W.cell? ⟨g, 4, none⟩ = some (.int .i64 a) := fun x => by have h := ((hI _ _).1 x.h).blk 0; rw [hcs] at h; exact h.cell 4
  have e5 : ∀ y : InvW I, y.W.cell? ⟨g, 5, none⟩ = some (.int .u8 x) := fun x => by have h := ((hI _ _).1 x.h).blk 0; rw [hcs] at h; exact h.cell 5
  have HI := Lib.hid hI
  clear hI hcs
  refine wp_region_inv I [] [7, 15] (fun k v => v = .bool (if k = 7 then mayBend L i a x else mayBend L' i a x)) hmx (by kernel_rfl) hI0 ?_
  iterate 7 (refine walkJ_one rfl (by kernel_rfl) ?_; go_big_quiet_step (fail); refine wpQuiet_nil ?_)
  refine walkJ_turn rfl rfl ⟨_, rfl⟩ (fun s W1 hs h7 _ => ?_) ?_
  · have h := (HI.out _ _).1 hs
    rw [show s 7 = none from h7] at h
    refine inv_call (by simp [execOp, go_sem]) ((du_nbend h i a x HX.out).mono ?_)
    rintro e w1 ⟨rfl, k⟩
    exact ⟨_, rfl, rfl, (HI.out _ _).2 k⟩
  rintro v rfl
  conv => arg 11; simp [Act.put]
  iterate 7 (refine walkJ_one rfl (by kernel_rfl) ?_; go_big_quiet_step (fail); refine wpQuiet_nil ?_)
  refine walkJ_turn rfl rfl ⟨_, rfl⟩ (fun s W1 hs h7 _ => ?_) ?_
  · have h := (HI.out _ _).1 hs
    rw [show s 15 = none from h7] at h
    refine inv_call (by simp [execOp, go_sem]) ((du_rbend h i a x HX.out).mono ?_)
    rintro e w1 ⟨rfl, k⟩
    exact ⟨_, rfl, rfl, (HI.out _ _).2 k⟩
  rintro v rfl
  conv => arg 11; simp [Act.put]
  iterate 2 (refine walkJ_one rfl (by kernel_rfl) ?_; go_big_quiet_step (fail); refine wpQuiet_nil ?_)
  refine walkJ_end ?_
  intro W' hW'
  have HG2 := Lib.hid ((HI.out _ _).1 hW')
  clear e3 e4 e5
  go_wp2_with fail
  go_ret
  exact DoesOut.of (fun e => by subst e; simp) HG2.out.tail

set_option maxHeartbeats 4000000 in
theorem does_bend7 {B : Nat} {w0 w : World} {q q' : Nat} {ts : List Kt} {L L' : List Dg} (o : OpN) (hx : o.x < 256) (h : Du B w0 w q q' ts L L') (hk : o.kd % 8 = 7) :
    Calls Try.prog 14 #[.pointer (some ⟨q, 0, none⟩), .pointer (some ⟨q', 0, none⟩), aggO o] w (DoesOut B w0 q q' ts L L' (bendD L o.i o.at_ o.x) (bendD L' o.i o.at_ o.x)) := by
  have f0 : (o.kd : Int) % 8 = 7 := by omega
  have hmx : Try.prog.follows .mixedOrders = true := by kernel_rfl
  obtain ⟨W, hW⟩ : ∃ W, W = w.alloc (.cells (celO o) 31) := ⟨_, rfl⟩
  have HG := Lib.hid (h.box (celO o) 31)
  rw [← hW] at HG
  obtain ⟨g, hg⟩ : ∃ g, g = w.heap.size := ⟨_, rfl⟩
  obtain ⟨i, hi⟩ : ∃ i, i = o.i := ⟨_, rfl⟩
  obtain ⟨a, ha⟩ : ∃ a, a = o.at_ := ⟨_, rfl⟩
  obtain ⟨x, hxx⟩ : ∃ x, x = o.x := ⟨_, rfl⟩
  unfold celO at HG
  unfold aggO
  unfold celO at hW
  rw [← hi, ← ha, ← hxx] at HG hW ⊢
  have HX := Lib.hid (show x < 256 by rw [hxx]; exact hx)
  have C := bsays (HG.out.blk 0)
  simp only [cellsSay, Nat.reduceAdd, and_true] at C
  clear h hx hk hi ha hxx
  go_enter Try.func14, Try.ntmps14
  go_upto_region 2 with fail
  rw [← hW]
  rw [← hg] at HG C ⊢
  clear hW hg
  go_upto_region 17 with fail
  clear C
  obtain ⟨cs, hcs⟩ : ∃ cs : Array Value, cs = #[.int .u8 (o.kd : Nat), .int .u8 (o.sd : Nat), .slice o.A o.b.length o.c, .int .i64 i, .int .i64 a, .int .u8 (x : Nat)] := ⟨_, rfl⟩
  rw [← hcs] at HG
  obtain ⟨I, hI⟩ : ∃ I : Rec → World → Prop, ∀ E W, I E W ↔ Du B w0 W q q' (thB g 31 cs :: ts) (pickR (E 7) L (bendD L i a x)) (pickR (E 15) L' (bendD L' i a x)) := ⟨_, fun _ _ => Iff.rfl⟩
  have hI0 : I (fun _ => none) W.drew := (hI _ _).2 HG.out.drew
  haveI : Nonempty (InvW I) := ⟨⟨_, _, hI0⟩⟩
  have e3 : ∀ x : InvW I, x.W.cell? ⟨g, 3, none⟩ = some (.int .i64 i) := fun x => by have h := ((hI _ _).1 x.h).blk 0; rw [hcs] at h; exact h.cell 3
  have e4 : ∀ x : InvW I, x.W.cell? ⟨g, 4, none⟩ = some (.int .i64 a) := fun x => by have h := ((hI _ _).1 x.h).blk 0; rw [hcs] at h; exact h.cell 4
  have e5 : ∀ y : InvW I, y.W.cell? ⟨g, 5, none⟩ = some (.int .u8 x) := fun x => by have h := ((hI _ _).1 x.h).blk 0; rw [hcs] at h; exact h.cell 5
  have HI := Lib.hid hI
  clear hI hcs
  refine wp_region_inv I [] [7, 15] (fun k v => v = .bool (if k = 7 then mayBend L i a x else mayBend L' i a x)) hmx (by kernel_rfl) hI0 ?_
  iterate 7 (refine walkJ_one rfl (by kernel_rfl) ?_; go_big_quiet_step (fail); refine wpQuiet_nil ?_)
  refine walkJ_turn rfl rfl ⟨_, rfl⟩ (fun s W1 hs h7 _ => ?_) ?_
  · have h := (HI.out _ _).1 hs
    rw [show s 7 = none from h7] at h
    refine inv_call (by simp [execOp, go_sem]) ((du_nbend h i a x HX.out).mono ?_)
    rintro e w1 ⟨rfl, k⟩
    exact ⟨_, rfl, rfl, (HI.out _ _).2 k⟩
  rintro v rfl
  conv => arg 11; simp [Act.put]
  iterate 7 (refine walkJ_one rfl (by kernel_rfl) ?_; go_big_quiet_step (fail); refine wpQuiet_nil ?_)
  refine walkJ_turn rfl rfl ⟨_, rfl⟩ (fun s W1 hs h7 _ => ?_) ?_
  · have h := (HI.out _ _).1 hs
    rw [show s 15 = none from h7] at h
    refine inv_call (by simp [execOp, go_sem]) ((du_rbend h i a x HX.out).mono ?_)
    rintro e w1 ⟨rfl, k⟩
    exact ⟨_, rfl, rfl, (HI.out _ _).2 k⟩
  rintro v rfl
  conv => arg 11; simp [Act.put]
  iterate 2 (refine walkJ_one rfl (by kernel_rfl) ?_; go_big_quiet_step (fail); refine wpQuiet_nil ?_)
  refine walkJ_end ?_
  intro W' hW'
  have HG2 := Lib.hid ((HI.out _ _).1 hW')
  clear e3 e4 e5
  go_wp2_with fail
  go_ret
  exact DoesOut.of (fun e => by subst e; simp) HG2.out.tail

end Go.Proofs.Ytanenfbfcbkdhaa

/- Layer 19: a call on both networks: Take. -/
set_option linter.unusedSimpArgs false
set_option linter.unusedVariables false
namespace Go.Proofs.Ytanenfbfcbkdhaa
open Go.RowKit
set_option maxRecDepth 100000

set_option maxHeartbeats 8000000 in
theorem does_take_yes {B : Nat} {w0 w : World} {q q' : Nat} {ts : List Kt} {L : List Dg} (o : OpN) (j : Nat) (d : Dg) (h : Du B w0 w q q' ts L L) (hk : o.kd % 8 = 3) (hj : o.i = (j : Int)) (hd : L[j]? = some d) (hL : L.length ≤ 1000000) :
    Calls Try.prog 14 #[.pointer (some ⟨q, 0, none⟩), .pointer (some ⟨q', 0, none⟩), aggO o] w (DoesOut B w0 q q' ts L L (L.eraseIdx j) (L.eraseIdx j)) := by
  have f0 : (o.kd : Int) % 8 = 3 := by omega
  obtain ⟨W, hW⟩ : ∃ W, W = w.alloc (.cells (celO o) 31) := ⟨_, rfl⟩
  have HG := Lib.hid (h.box (celO o) 31)
  rw [← hW] at HG
  obtain ⟨g, hg⟩ : ∃ g, g = w.heap.size := ⟨_, rfl⟩
  unfold celO at HG
  unfold aggO
  unfold celO at hW
  rw [hj] at HG hW ⊢
  have HD := Lib.hid (And.intro hd hL)
  have C := bsays (HG.out.blk 0)
  simp only [cellsSay, Nat.reduceAdd, and_true] at C
  have hdl := h.okL d (List.mem_of_getElem? hd)
  obtain ⟨n, hn⟩ : ∃ n, n = d.b.length := ⟨_, rfl⟩
  rw [← hn] at hdl
  have Hn := Lib.hid hn
  obtain ⟨M, hM⟩ : ∃ M, M = L.eraseIdx j := ⟨_, rfl⟩
  have HM := Lib.hid hM
  rw [← hM]
  clear h hk hj hd hL hn hM
  go_enter Try.func14, Try.ntmps14
  go_upto_region 2 with fail
  rw [← hW]
  rw [← hg] at HG C ⊢
  clear hW hg
  have HC := Lib.hid (du_ntake_yes HG.out j d HD.out.1 HD.out.2)
  rw [← Hn.out, ← HM.out] at HC
  clear HG
  go_wp2_with fail
  refine HC.out.mono ?_
  rintro e w1 ⟨A1, c1, rfl, h1⟩
  have H1 := Lib.hid h1
  clear h1 HC C
  obtain ⟨W2, hW2⟩ : ∃ W2, W2 = w1.alloc (.cells #[.int .u8 (d.sd : Nat), .slice A1 n c1] 33) := ⟨_, rfl⟩
  go_upto_region 4 with fail
  rw [← hW2]
  have hg2 := H1.out.box #[.int .u8 (d.sd : Nat), .slice A1 n c1] 33
  rw [← hW2] at hg2
  obtain ⟨ga, hga⟩ : ∃ ga, ga = w1.heap.size := ⟨_, rfl⟩
  rw [← hga] at hg2 ⊢
  have H2 := Lib.hid hg2
  have C := bsays (H2.out.blk 2)
  simp only [cellsSay, Nat.reduceAdd, and_true] at C
  have HC := Lib.hid (du_rtake_yes H2.out j d HD.out.1 HD.out.2)
  rw [← Hn.out, ← HM.out] at HC
  clear hg2 hW2 hga H1
  go_wp2_with fail
  refine HC.out.mono ?_
  rintro e w3 ⟨A3, c3, rfl, h3⟩
  have H3 := Lib.hid h3
  clear h3 HC C H2
  obtain ⟨W4, hW4⟩ : ∃ W4, W4 = w3.alloc (.cells #[.int .u8 (d.sd : Nat), .slice A3 n c3] 33) := ⟨_, rfl⟩
  go_upto_region 5 with fail
  rw [← hW4]
  have hg4 := H3.out.box #[.int .u8 (d.sd : Nat), .slice A3 n c3] 33
  rw [← hW4] at hg4
  obtain ⟨gb, hgb⟩ : ∃ gb, gb = w3.heap.size := ⟨_, rfl⟩
  rw [← hgb] at hg4 ⊢
  have H4 := Lib.hid hg4
  have Ca := bsays (H4.out.blk 2)
  have Cb := bsays (H4.out.blk 0)
  simp only [cellsSay, Nat.reduceAdd, and_true] at Ca Cb
  have s1 := str_of (OwnB.bs (H4.out.own 3)) c1
  have s3 := str_of (OwnB.bs (H4.out.own 1)) c3
  rw [← Hn.out] at s1 s3
  obtain ⟨gA, hgA⟩ : ∃ gA, A1 = some ⟨gA, 0, none⟩ := by
    obtain ⟨g', cp, h9, -⟩ := OwnB.form (H4.out.own 3) (by rw [← Hn.out]; exact hdl.1)
    injection h9 with h9 _ _
    exact ⟨g', h9⟩
  subst hgA
  clear hg4 hW4 hgb H3
  go_upto_region 6 with fail
  clear s1 s3 Ca Cb
  go_wp2_with fail
  go_loopw [12] (fun s wr => ∃ k : Nat, k ≤ n ∧ s = .int .i64 k ∧ Hid (∃ l : List UInt8, l.length = n ∧ Du B w0 wr q q' (thB gb 33 #[.int .u8 (d.sd : Nat), .slice A3 n c3] :: thO (.slice A3 n c3) d.b :: thB ga 33 #[.int .u8 (d.sd : Nat), .slice (some ⟨gA, 0, none⟩) n c1] :: thO (.slice (some ⟨gA, 0, none⟩) n c1) l :: thB g 31 #[.int .u8 (o.kd : Nat), .int .u8 (o.sd : Nat), .slice o.A o.b.length o.c, .int .i64 (j : Nat), .int .i64 o.at_, .int .u8 (o.x : Nat)] :: ts) M M)) (fun s _ => n - (intOf s).toNat)
  case atStart => exact ⟨0, Nat.zero_le _, rfl, Lib.hid ⟨d.b, Hn.out.symm, H4.out⟩⟩
  case round =>
    obtain ⟨k, hk, rfl, HR⟩ := hrel
    obtain ⟨l, hl, D⟩ := HR.out
    have C := bsays (D.blk 2)
    simp only [cellsSay, Nat.reduceAdd, and_true] at C
    by_cases hlt : k < n
    · have hO := D.own 3
      obtain ⟨x, hx⟩ : ∃ x, x = l[k]'(by omega) := ⟨_, rfl⟩
      have cb : wr.cell? ⟨gA, k, none⟩ = some (.int .u8 (x.toNat : Nat)) := by rw [hO.cell k (by omega), hx]
      have fb := hO.frozen k
      obtain ⟨p, hp⟩ : ∃ p, p = x.toNat := ⟨_, rfl⟩
      rw [← hp] at cb
      obtain ⟨r, hr⟩ : ∃ r, r = (x ^^^ (255 : UInt8)).toNat := ⟨_, rfl⟩
      have fx : bits .xor .u8 (p : Int) 255 = (r : Int) := by
        have h9 := u8_xor_nat p 255 (by rw [hp]; exact UInt8.toNat_lt _) (by omega)
        rw [show ((255 : Nat) : Int) = 255 from rfl] at h9
        rw [h9, hr, hp, UInt8.toNat_xor]; rfl
      have hkl : (k : Int) < (n : Int) := by omega
      have hk0 : (0 : Int) ≤ (k : Int) := by omega
      have HD2 := Lib.hid (And.intro D.drew (And.intro hl hr))
      clear hO hx hp hr D hl HR
      have kA := fun W => keepA W
      go_upto_region 9 with fail
      go_region
      all_goals
        go_wp2_with fail
        go_roundw
        case measure => simp [intOf]; omega
        case rel =>
          refine ⟨k + 1, by omega, by go_num, Lib.hid ⟨l.set k (x ^^^ 255), by rw [List.length_set]; exact HD2.out.2.1, ?_⟩⟩
          rw [show (Value.int .u8 (r : Int)) = bv (x ^^^ (255 : UInt8)) by rw [HD2.out.2.2]]
          exact HD2.out.1.byte 3 k (x ^^^ 255)
    · obtain rfl : k = n := by omega
      have hkk : ¬ ((k : Int) < (k : Int)) := by omega
      have HD2 := Lib.hid D
      clear HR D hl
      go_wp2_with fail
      go_ret
      exact DoesOut.of (fun _ => by simp) HD2.out.tail.tail.tail.tail.tail

end Go.Proofs.Ytanenfbfcbkdhaa

/- Layer 19: a call on both networks: Take of none; Send. -/
set_option linter.unusedSimpArgs false
set_option linter.unusedVariables false
namespace Go.Proofs.Ytanenfbfcbkdhaa
open Go.RowKit
set_option maxRecDepth 100000

set_option maxHeartbeats 8000000 in
theorem does_take_no {B : Nat} {w0 w : World} {q q' : Nat} {ts : List Kt} {L : List Dg} (o : OpN) (h : Du B w0 w q q' ts L L) (hk : o.kd % 8 = 3) (hd : isD L.length o.i = false) :
    Calls Try.prog 14 #[.pointer (some ⟨q, 0, none⟩), .pointer (some ⟨q', 0, none⟩), aggO o] w (DoesOut B w0 q q' ts L L L L) := by
  have f0 : (o.kd : Int) % 8 = 3 := by omega
  obtain ⟨W, hW⟩ : ∃ W, W = w.alloc (.cells (celO o) 31) := ⟨_, rfl⟩
  have HG := Lib.hid (h.box (celO o) 31)
  rw [← hW] at HG
  obtain ⟨g, hg⟩ : ∃ g, g = w.heap.size := ⟨_, rfl⟩
  obtain ⟨i, hi⟩ : ∃ i, i = o.i := ⟨_, rfl⟩
  unfold celO at HG
  unfold aggO
  unfold celO at hW
  rw [← hi] at HG hW hd ⊢
  have HD := Lib.hid hd
  have C := bsays (HG.out.blk 0)
  simp only [cellsSay, Nat.reduceAdd, and_true] at C
  clear h hk hi hd
  go_enter Try.func14, Try.ntmps14
  go_upto_region 2 with fail
  rw [← hW]
  rw [← hg] at HG C ⊢
  clear hW hg
  have HC := Lib.hid (du_ntake_no HG.out i HD.out)
  clear HG
  go_wp2_with fail
  refine HC.out.mono ?_
  rintro e w1 ⟨rfl, h1⟩
  have H1 := Lib.hid h1
  clear h1 HC C
  obtain ⟨W2, hW2⟩ : ∃ W2, W2 = w1.alloc (.cells #[.int .u8 0, .slice none 0 0] 33) := ⟨_, rfl⟩
  go_upto_region 4 with fail
  rw [← hW2]
  have hg2 := H1.out.box #[.int .u8 0, .slice none 0 0] 33
  rw [← hW2] at hg2
  obtain ⟨ga, hga⟩ : ∃ ga, ga = w1.heap.size := ⟨_, rfl⟩
  rw [← hga] at hg2 ⊢
  have H2 := Lib.hid hg2
  have C := bsays (H2.out.blk 1)
  simp only [cellsSay, Nat.reduceAdd, and_true] at C
  have HC := Lib.hid (du_rtake_no H2.out i HD.out)
  clear hg2 hW2 hga H1
  go_wp2_with fail
  refine HC.out.mono ?_
  rintro e w3 ⟨rfl, h3⟩
  have H3 := Lib.hid h3
  clear h3 HC C H2
  obtain ⟨W4, hW4⟩ : ∃ W4, W4 = w3.alloc (.cells #[.int .u8 0, .slice none 0 0] 33) := ⟨_, rfl⟩
  go_upto_region 5 with fail
  rw [← hW4]
  have hg4 := H3.out.box #[.int .u8 0, .slice none 0 0] 33
  rw [← hW4] at hg4
  obtain ⟨gb, hgb⟩ : ∃ gb, gb = w3.heap.size := ⟨_, rfl⟩
  rw [← hgb] at hg4 ⊢
  have H4 := Lib.hid hg4
  have Ca := bsays (H4.out.blk 1)
  have Cb := bsays (H4.out.blk 0)
  simp only [cellsSay, Nat.reduceAdd, and_true] at Ca Cb
  have s1 := str_of (w := W4) (A := none) (l := []) (fun i x hi => by simp at hi) 0
  simp only [List.length_nil] at s1
  clear hg4 hW4 hgb H3
  go_upto_region 6 with fail
  clear s1 Cb
  go_wp2_with fail
  go_loopw [12] (fun s wr => s = .int .i64 0 ∧ wr = W4) (fun s _ => 0)
  case atStart => exact ⟨rfl, rfl⟩
  case round =>
    obtain ⟨rfl, hw⟩ := hrel
    rw [hw]
    clear hw
    go_wp2_with fail
    go_ret
    exact DoesOut.of (fun _ => by simp) H4.out.tail.tail.tail

set_option maxHeartbeats 8000000 in
theorem does_send {B : Nat} {w0 w : World} {q q' : Nat} {ts : List Kt} {L : List Dg} (o : OpN) (kk : Nat) (hkk : kk < 3) (h : Du B w0 w q q' ts L L) (hk : o.kd % 8 = kk) (hA : Bs w0 o.A o.b) (hB : w0.heap.size ≤ B) (hb : o.b.length ≤ 100000) (hL : L.length ≤ 1000000) :
    Calls Try.prog 14 #[.pointer (some ⟨q, 0, none⟩), .pointer (some ⟨q', 0, none⟩), aggO o] w (DoesOut B w0 q q' ts L L (sendD L o.sd o.b) (sendD L o.sd o.b)) := by
  have f0 : (o.kd : Int) % 8 = (kk : Int) := by omega
  have g3 : ((kk : Int) == 3) = false := beq_eq_false_iff_ne.2 (by omega)
  have g4 : ((kk : Int) == 4) = false := beq_eq_false_iff_ne.2 (by omega)
  have g5 : ((kk : Int) == 5) = false := beq_eq_false_iff_ne.2 (by omega)
  have g6 : ((kk : Int) == 6) = false := beq_eq_false_iff_ne.2 (by omega)
  have g7 : ((kk : Int) == 7) = false := beq_eq_false_iff_ne.2 (by omega)
  obtain ⟨W, hW⟩ : ∃ W, W = w.alloc (.cells (celO o) 31) := ⟨_, rfl⟩
  have HG := Lib.hid (h.box (celO o) 31)
  rw [← hW] at HG
  obtain ⟨g, hg⟩ : ∃ g, g = w.heap.size := ⟨_, rfl⟩
  unfold celO at HG
  unfold aggO
  unfold celO at hW
  obtain ⟨n, hn⟩ : ∃ n, n = o.b.length := ⟨_, rfl⟩
  rw [← hn] at HG hW ⊢
  have C := bsays (HG.out.blk 0)
  simp only [cellsSay, Nat.reduceAdd, and_true] at C
  have HA := Lib.hid (HG.out.bs hB hA)
  have HF := Lib.hid (And.intro hn (And.intro hb (And.intro hL (And.intro hB hA))))
  obtain ⟨M, hM⟩ : ∃ M, M = sendD L o.sd o.b := ⟨_, rfl⟩
  have HM := Lib.hid hM
  rw [← hM]
  clear h hk hA hB hb hL hn hM
  go_enter Try.func14, Try.ntmps14
  go_upto_region 2 with fail
  rw [← hW]
  rw [← hg] at HG C ⊢
  clear hW hg
  go_upto_region 20 with (at_builtin; go_must (refine appAllL _ rfl (.tmp 114) (.tmp 116) rfl W.heap.size (.slice none 0 0) [] rfl (OwnB.nil _ _) o.A o.c o.b (by rw [← HF.out.1]; rfl) HA.out (by simp; have := HF.out.2.1; omega) (Nat.le_refl _) ?_); intro A1 c1 w1 hown1 hg1 hl1)
  have b1 := below_none hg1
  simp only [List.length_nil, Nat.zero_add, List.nil_append] at hown1
  have hg2 := HG.out.cons (t := thO (.slice A1 o.b.length c1) o.b) b1 (hown1.mono (Nat.zero_le _)) (fun k e => (World.ownsRow.lt hown1 k e).1)
  have HA1 := Lib.hid (OwnB.bs hown1)
  rw [← HF.out.1] at hg2 ⊢
  have H2 := Lib.hid hg2
  replace C := bsays (H2.out.blk 1)
  simp only [cellsSay, Nat.reduceAdd, and_true] at C
  have HC := Lib.hid (du_nsend H2.out o.sd o.b A1 c1 HA1.out HF.out.2.2.1)
  rw [← HM.out, ← HF.out.1] at HC
  obtain ⟨b0, hb0⟩ : ∃ b0, b0 = (maySend o.sd o.b && decide (L.length < 4096)) := ⟨_, rfl⟩
  rw [← hb0] at HC
  have Hb0 := Lib.hid hb0
  have hn6 : n ≤ 100000 := by rw [HF.out.1]; exact HF.out.2.1
  clear hg2 hown1 hg1 hl1 b1 HG HA HA1 hb0
  go_wp2_with fail
  refine HC.out.mono ?_
  rintro e w2 ⟨rfl, h3⟩
  have H3 := Lib.hid h3
  clear h3 HC C H2
  go_wp2_with fail
  go_loopw [15] (fun s wr => ∃ k : Nat, k ≤ n ∧ s = .int .i64 k ∧ Hid (∃ l : List UInt8, l.length = n ∧ Du B w0 wr q q' (thO (.slice A1 n c1) l :: thB g 31 #[.int .u8 (o.kd : Nat), .int .u8 (o.sd : Nat), .slice o.A n o.c, .int .i64 o.i, .int .i64 o.at_, .int .u8 (o.x : Nat)] :: ts) M L)) (fun s _ => n - (intOf s).toNat)
  case atStart => exact ⟨0, Nat.zero_le _, rfl, Lib.hid ⟨o.b, HF.out.1.symm, H3.out⟩⟩
  case round =>
    obtain ⟨k, hk, rfl, HR⟩ := hrel
    obtain ⟨l, hl, D⟩ := HR.out
    by_cases hlt : k < n
    · have hO := D.own 0
      obtain ⟨gA, rfl⟩ : ∃ gA, A1 = some ⟨gA, 0, none⟩ := by
        obtain ⟨g', cp, h9, -⟩ := OwnB.form hO (by omega)
        injection h9 with h9 _ _
        exact ⟨g', h9⟩
      obtain ⟨x, hx⟩ : ∃ x, x = l[k]'(by omega) := ⟨_, rfl⟩
      have cb : wr.cell? ⟨gA, k, none⟩ = some (.int .u8 (x.toNat : Nat)) := by rw [hO.cell k (by omega), hx]
      have fb := hO.frozen k
      obtain ⟨p, hp⟩ : ∃ p, p = x.toNat := ⟨_, rfl⟩
      rw [← hp] at cb
      obtain ⟨r, hr⟩ : ∃ r, r = (x ^^^ (255 : UInt8)).toNat := ⟨_, rfl⟩
      have fx : bits .xor .u8 (p : Int) 255 = (r : Int) := by
        have h9 := u8_xor_nat p 255 (by rw [hp]; exact UInt8.toNat_lt _) (by omega)
        rw [show ((255 : Nat) : Int) = 255 from rfl] at h9
        rw [h9, hr, hp, UInt8.toNat_xor]; rfl
      have hkl : (k : Int) < (n : Int) := by omega
      have hk0 : (0 : Int) ≤ (k : Int) := by omega
      have HD2 := Lib.hid (And.intro D (And.intro hl hr))
      clear hO hx hp hr D hl HR H3
      go_wp2_with fail
      go_roundw
      case measure => simp [intOf]; omega
      case rel =>
        refine ⟨k + 1, by omega, by go_num, Lib.hid ⟨l.set k (x ^^^ 255), by rw [List.length_set]; exact HD2.out.2.1, ?_⟩⟩
        rw [show (Value.int .u8 (r : Int)) = bv (x ^^^ (255 : UInt8)) by rw [HD2.out.2.2]]
        exact HD2.out.1.byte 0 k (x ^^^ 255)
    · obtain rfl : k = n := by omega
      have hkk2 : ¬ ((k : Int) < (k : Int)) := by omega
      have C := bsays (D.blk 1)
      simp only [cellsSay, Nat.reduceAdd, and_true] at C
      have HC := Lib.hid (du_rsend D o.sd o.b o.A o.c (D.bs HF.out.2.2.2.1 HF.out.2.2.2.2) HF.out.2.2.1)
      rw [← HM.out, ← HF.out.1, ← Hb0.out] at HC
      clear HR D hl
      go_wp2_with fail
      refine HC.out.mono ?_
      rintro e w5 ⟨rfl, h5⟩
      have H5 := Lib.hid h5
      clear h5 HC C
      go_wp2_with fail
      go_ret
      exact DoesOut.of (fun _ => by simp) H5.out.tail.tail

end Go.Proofs.Ytanenfbfcbkdhaa

/- Layer 19: a call on both networks: any. -/
set_option linter.unusedSimpArgs false
set_option linter.unusedVariables false
namespace Go.Proofs.Ytanenfbfcbkdhaa
open Go.RowKit
set_option maxRecDepth 100000

theorem sendD_len (L : List Dg) (sd : Nat) (b : List UInt8) : (sendD L sd b).length ≤ L.length + 1 := by
  unfold sendD addD
  split
  · split
    · simp
    · omega
  · omega
theorem dropD_len (L : List Dg) (i : Int) : (dropD L i).length ≤ L.length + 1 := by
  unfold dropD
  split
  · have := List.length_eraseIdx_le L i.toNat; omega
  · omega
theorem twiceD_len (L : List Dg) (i : Int) : (twiceD L i).length ≤ L.length + 1 := by
  unfold twiceD
  split
  · split
    · unfold addD; split
      · simp
      · omega
    · omega
  · omega
theorem bendD_len (L : List Dg) (i a : Int) (x : Nat) : (bendD L i a x).length ≤ L.length + 1 := by
  unfold bendD
  split
  · split
    · simp
    · omega
  · omega
theorem stepD_len (L : List Dg) (o : OpN) : (stepD L o).length ≤ L.length + 1 := by
  unfold stepD stepK
  split
  · exact dropD_len _ _
  · exact dropD_len _ _
  · exact twiceD_len _ _
  · exact bendD_len _ _ _ _
  · exact bendD_len _ _ _ _
  · exact sendD_len _ _ _
theorem stepD_of {o : OpN} {k : Nat} (h : o.kd % 8 = k) (L : List Dg) : stepD L o = stepK k L o := by
  subst h
  rfl
theorem does_late {B : Nat} {w0 w : World} {q q' : Nat} {ts : List Kt} {L L' : List Dg} (o : OpN) (h : Du B w0 w q q' ts L L') (hx : o.x < 256) (hk : 3 < o.kd % 8) (hL : L.length ≤ 1000000) (hL' : L'.length ≤ 1000000) :
    Calls Try.prog 14 #[.pointer (some ⟨q, 0, none⟩), .pointer (some ⟨q', 0, none⟩), aggO o] w (DoesOut B w0 q q' ts L L' (stepD L o) (stepD L' o)) := by
  rcases (show o.kd % 8 = 4 ∨ o.kd % 8 = 5 ∨ o.kd % 8 = 6 ∨ o.kd % 8 = 7 by omega) with h1 | h1 | h1 | h1
  · rw [stepD_of h1, stepD_of h1]; exact does_drop o h h1 hL hL'
  · rw [stepD_of h1, stepD_of h1]; exact does_twice o h h1 hL hL'
  · rw [stepD_of h1, stepD_of h1]; exact does_bend6 o hx h h1
  · rw [stepD_of h1, stepD_of h1]; exact does_bend7 o hx h h1
theorem does_same {B : Nat} {w0 w : World} {q q' : Nat} {ts : List Kt} {L : List Dg} (o : OpN) (h : Du B w0 w q q' ts L L) (ho : o.ok w0) (hB : w0.heap.size ≤ B) (hb : o.b.length ≤ 5000) (hL : L.length ≤ 1000000) :
    Calls Try.prog 14 #[.pointer (some ⟨q, 0, none⟩), .pointer (some ⟨q', 0, none⟩), aggO o] w (DoesOut B w0 q q' ts L L (stepD L o) (stepD L o)) := by
  by_cases hk : 3 < o.kd % 8
  · exact does_late o h ho.2.2.2.2.2.2 hk hL hL
  · by_cases h3 : o.kd % 8 = 3
    · rw [stepD_of h3]
      show Calls _ _ _ _ (DoesOut B w0 q q' ts L L (dropD L o.i) (dropD L o.i))
      cases hd : isD L.length o.i with
      | false =>
        rw [show dropD L o.i = L by unfold dropD; rw [hd]; rfl]
        exact does_take_no o h h3 hd
      | true =>
        have h9 : 0 ≤ o.i ∧ o.i < (L.length : Int) := of_decide_eq_true hd
        obtain ⟨j, hj⟩ := Int.eq_ofNat_of_zero_le h9.1
        rw [show dropD L o.i = L.eraseIdx j by unfold dropD; rw [hd, hj]; rfl]
        exact does_take_yes o j _ h h3 hj (List.getElem?_eq_getElem (by omega)) hL
    · rcases (show o.kd % 8 = 0 ∨ o.kd % 8 = 1 ∨ o.kd % 8 = 2 by omega) with h1 | h1 | h1
      · rw [stepD_of h1]; exact does_send o 0 (by omega) h h1 ho.2.2.1 hB (by omega) hL
      · rw [stepD_of h1]; exact does_send o 1 (by omega) h h1 ho.2.2.1 hB (by omega) hL
      · rw [stepD_of h1]; exact does_send o 2 (by omega) h h1 ho.2.2.1 hB (by omega) hL

end Go.Proofs.Ytanenfbfcbkdhaa
