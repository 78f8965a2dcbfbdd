/- The statement BitPuts: the walk. -/
import Derived.Test.YtgjaopphfahhcaaLaw1
import Derived.Test.YtgjaopphfahhcaaLaw4
import Derived.Test.YtgjaopphfahhcaaRef5
namespace Go.Proofs.Ytgjaopphfahhcaa
open Go.RowKit

theorem Bs.left {w : World} {A : Option Addr} {l m : List UInt8} (h : Bs w A (l ++ m)) : Bs w A l := fun i b hi =>
  h i b (by rw [List.getElem?_append_left (List.getElem?_eq_some_iff.1 hi).1]; exact hi)

/-- 'append(out, b)' of one byte, told by the block that may have changed -/
theorem appG (w : World) {ops : Array Oper} {rest : List Oper} {o : Oper} {a : Act} {Q : Exit → Act → World → Prop} (hgd : o.guard = none) (s x : Operand)
    (ho : o.op = .call { callee := .builtin .append, args := #[s, x], argTypes := #[22, 22] })
    (base : Nat) (v : Value) (l : List UInt8) (hs : a.eval s = v) (hown : OwnB w base v l)
    (g : Nat) (b : UInt8) (hx : a.eval x = .slice (some ⟨g, 0, none⟩) 1 1) (hc : w.cell? ⟨g, 0, none⟩ = some (bv b)) (hlen : l.length + 1 ≤ 140737488355328) (hbase : base ≤ w.heap.size)
    (h : ∀ g' cap w', OwnB w' base (.slice (some ⟨g', 0, none⟩) (l.length + 1) cap) (l ++ [b]) → l.length + 1 ≤ cap → w.grownBy w' v.ownBlock → wpList Try.prog ops Q rest (a.put o.dst (.slice (some ⟨g', 0, none⟩) (l.length + 1) cap)) w') : wpList Try.prog ops Q (o :: rest) a w := by
  obtain ⟨i, hi, hz, hsz, hby⟩ := info_parts Try.info_u8
  refine wpList_append_own (P := Try.prog) w hgd s x 22 ho base 5 i (.int .u8 0) 1 1 Try.underlying22 hi hz hsz hby rfl (by decide) v l.length (l.map bv) hs hown ⟨g, 0, none⟩ 1 1 [bv b] hx rfl ?_ (by simp; rfl) (by unfold maxLen; omega) (by omega) hbase fun v' w' h2 h3 _ => ?_
  · intro j y hj
    match j, hj with
    | 0, hj => simp at hj; subst hj; simpa [Addr.add] using hc
  · have h4 := h2
    rcases h4.2 with ⟨_, h0⟩ | ⟨g', cap, cur, rfl, _, _, hcap, _⟩
    · omega
    · exact h g' cap w' (by unfold OwnB; simpa using h2) hcap h3

theorem grown_cell {w w' : World} {row : Option Nat} (h : w.grownBy w' row) {p i : Nat} {v : Value} (hc : w.cell? ⟨p, i, none⟩ = some v) (hp : some p ≠ row) : w'.cell? ⟨p, i, none⟩ = some v :=
  h.cell hc hp

theorem puts_facts {w w1 w2 w5 : World} {A2 : Option Addr} {l : List UInt8} {c2 g cap : Nat} {n : Int} {X Y : Value} {o : Obj} (hown2 : OwnB w2 w1.heap.size (.slice A2 l.length c2) l)
    (hown5 : OwnB w5 w1.heap.size (.slice (some ⟨g, 0, none⟩) (l.length + 1) cap) (l ++ [119])) (hg5 : ((w2.alloc (.cells #[.slice A2 l.length c2, .int .i64 n] 24)).alloc o).grownBy w5 (Value.slice A2 l.length c2).ownBlock)
    (x4 : ((w2.alloc (.cells #[.slice A2 l.length c2, .int .i64 n] 24)).alloc o).cell? ⟨w.heap.size, 0, none⟩ = some X ∧ ((w2.alloc (.cells #[.slice A2 l.length c2, .int .i64 n] 24)).alloc o).cell? ⟨w.heap.size, 1, none⟩ = some Y)
    (P4 : Blk ((w2.alloc (.cells #[.slice A2 l.length c2, .int .i64 n] 24)).alloc o) w2.heap.size 24 #[.slice A2 l.length c2, .int .i64 n]) (s1 : w.heap.size < w1.heap.size) (s2 : w1.heap.size ≤ w2.heap.size) :
    (w5.cell? ⟨w.heap.size, 0, none⟩ = some X ∧ w5.cell? ⟨w.heap.size, 1, none⟩ = some Y) ∧ (w5.cell? ⟨w2.heap.size, 0, none⟩ = some (.slice A2 l.length c2) ∧ w5.cell? ⟨w2.heap.size, 1, none⟩ = some (.int .i64 n)) ∧
    (w5.frozen? ⟨w2.heap.size, 0, none⟩ = false ∧ w5.frozen? ⟨w2.heap.size, 1, none⟩ = false) ∧ g ≠ w2.heap.size ∧ w.heap.size < g ∧ w.heap.size < w2.heap.size := by
  have hx := World.ownsRow.lt hown2
  have hP5 : Blk w5 w2.heap.size 24 #[.slice A2 l.length c2, .int .i64 n] := (hg5.block _ P4.lt (fun e => by have := hx _ e.symm; omega)).trans P4
  refine ⟨⟨grown_cell hg5 x4.1 (fun e => by have := hx _ e.symm; omega), grown_cell hg5 x4.2 (fun e => by have := hx _ e.symm; omega)⟩, ⟨hP5.cell 0, hP5.cell 1⟩, ⟨hP5.frozen 0, hP5.frozen 1⟩, ?_, ?_, by omega⟩
  · rintro rfl
    rcases hown5.2 with ⟨h0, _⟩ | ⟨g', cap', cur, h', _, hh, _⟩
    · cases h0
    · injection h' with e1 _ _
      injection e1 with e1
      injection e1 with e1 _ _
      subst e1
      unfold Blk at hP5
      rw [hh] at hP5
      injection hP5 with e
      injection e with _ e
      exact absurd e (by decide)
  · have := hown5.lt.1
    omega

set_option maxHeartbeats 2000000 in
theorem bitPuts_walk (A : Option Addr) (c : Nat) (l : List UInt8) (n : Int) (v : Nat) (b : Int) (w : World) (hb : Bs w A l) (hn : -9223372036854775808 ≤ n ∧ n ≤ 9223372036854775807) (hl : l.length ≤ maxLen)
    (hv : (v : Int) ≤ 18446744073709551615) (hwd : -9223372036854775808 ≤ b ∧ b ≤ 9223372036854775807) :
    Calls Try.prog 5 #[.agg #[.slice A l.length c, .int .i64 n], .int .u64 v, .int .i64 b] w fun e w' => e = .returned (.bool true) ∧ Below w.heap.size w w' := by
  unfold maxLen at hl
  by_cases h : 1500 < l.length
  · have hI : (1500 : Int) < l.length := by omega
    go_enter Try.func5, Try.ntmps5
    go_wp2_with (go_at_call 12; refine (known_any _).mono ?_; rintro e w1 ⟨rfl, hb1⟩)
    go_ret
    exact ⟨rfl, on1 (below_alloc _ _) hb1⟩
  · have hI : ¬ (1500 : Int) < l.length := by omega
    have hb0 := hb.below (below_alloc w (.cells #[.slice A l.length c, .int .i64 n] 24))
    obtain ⟨G, hG⟩ : ∃ G, G = putSpec l n v b := ⟨_, rfl⟩
    have HG := Lib.hid hG
    have hc11 : G.2.2 ≤ 11 := by rw [hG]; exact putSpec_code l n v b
    clear hG
    go_enter Try.func5, Try.ntmps5
    have kA := keepA
    go_wp2_with fail
    refine (known_any _).mono ?_
    rintro e w1 ⟨rfl, hb1⟩
    have x1 := boxN hb1
    have s1 := hb1.size
    have t1 := on1 (below_alloc _ _) hb1
    go_wp2_with fail
    refine (lent_any A c l n _ (hb0.below hb1) (by omega)).mono ?_
    rintro e w2 ⟨A2, c2, rfl, hown2, hb2⟩
    have x2 := box1 hb2 x1
    have t2 := on1 t1 hb2
    have s2 := hb2.size
    clear x1
    simp only [World.size_alloc] at s1
    have x4 := boxA (.cells #[.int .u8 119] 5) (boxA (.cells #[.slice A2 l.length c2, .int .i64 n] 24) x2)
    have p4 := boxA (.cells #[.int .u8 119] 5) (w := w2.alloc (.cells #[.slice A2 l.length c2, .int .i64 n] 24)) ⟨box_cell w2 #[.slice A2 l.length c2, .int .i64 n] 24 0 _ rfl, box_cell w2 #[.slice A2 l.length c2, .int .i64 n] 24 1 _ rfl⟩
    have P4 := (Blk.new w2 24 #[.slice A2 l.length c2, .int .i64 n]).alloc (.cells #[.int .u8 119] 5)
    have P4 := Lib.hid P4
    go_wp2_with (at_builtin; go_must (refine appG _ rfl (.tmp 25) (.tmp 26) rfl w1.heap.size _ l rfl ((hown2.alloc _).alloc _) (w2.heap.size + 1) 119 rfl (by simp) (by omega) (by simp; omega) ?_); intro g cap w5 hown5 hcap hg5; have F5 := puts_facts hown2 hown5 hg5 x4 P4.out (by omega) (by omega); have HF5 := Lib.hid F5; obtain ⟨x5, p5, q5, hgp, hgx, hgw⟩ := F5; have fx0 := fun (W : World) (u : Value) => World.cell?_setCell_other W ⟨w2.heap.size, 0, none⟩ ⟨w.heap.size, 0, none⟩ u (by intro e; injection e with e; omega); have fx1 := fun (W : World) (u : Value) => World.cell?_setCell_other W ⟨w2.heap.size, 0, none⟩ ⟨w.heap.size, 1, none⟩ u (by intro e; injection e with e; omega); have fp1 := fun (W : World) (u : Value) => World.cell?_setCell_other W ⟨w2.heap.size, 0, none⟩ ⟨w2.heap.size, 1, none⟩ u (by intro e; injection e with _ e; omega); clear x4 p4 kA)
    obtain ⟨w6, hw6⟩ : ∃ w6, w6 = ((w5.setCell ⟨w2.heap.size, 0, none⟩ (.slice (some ⟨g, 0, none⟩) (l.length + 1) cap)).setCell ⟨w2.heap.size, 0, none⟩ (.slice (some ⟨g, 0, none⟩) l.length cap)) := ⟨_, rfl⟩
    rw [← hw6]
    have hne : (Value.slice (some ⟨g, 0, none⟩) (l.length + 1) cap).ownBlock ≠ some w2.heap.size := by intro e; injection e with e; exact hgp e
    have hown6 : OwnB w6 w1.heap.size (.slice (some ⟨g, 0, none⟩) (l.length + 1) cap) (l ++ [119]) := by rw [hw6]; exact (hown5.far hne _).far hne _
    have x6 : w6.cell? ⟨w.heap.size, 0, none⟩ = some (.slice A l.length c) ∧ w6.cell? ⟨w.heap.size, 1, none⟩ = some (.int .i64 n) := by rw [hw6, fx0, fx0, fx1, fx1]; exact x5
    have p6 : w6.cell? ⟨w2.heap.size, 0, none⟩ = some (.slice (some ⟨g, 0, none⟩) l.length cap) ∧ w6.cell? ⟨w2.heap.size, 1, none⟩ = some (.int .i64 n) := by
      rw [hw6, fp1, fp1]
      refine ⟨?_, p5.2⟩
      exact World.cell?_setCell_same _ _ _ (World.cell?_setCell_same _ _ _ p5.1)
    have b25 : Below w1.heap.size w2 w5 := ((((Below.refl _ _).alloc s2 _).alloc (by simp; omega) _)).grown hg5 (by simp; omega) (fun k hk => (World.ownsRow.lt hown2 k hk).1)
    have t6 : Below w.heap.size w w6 := by
      rw [hw6]
      exact ((t2.trans (b25.mono (by omega))).setCell (show w.heap.size ≤ w2.heap.size by omega) _).setCell (show w.heap.size ≤ w2.heap.size by omega) _
    clear hw6 x5 p5 q5 fx0 fx1 fp1 hown5 hg5 b25 hne HF5
    have kA := keepA
    refine (put_any (some ⟨g, 0, none⟩) cap l n v b _ hown6.bs.left hn (by omega) (by omega) hwd).mono ?_
    rw [← HG.out]
    rintro e w7 ⟨A7, c7, rfl, hown7, hb7⟩
    have x7 := box1 hb7 x6
    have p7 := box1 hb7 p6
    have t7 := on1 t6 hb7
    have hown6 := hown6.below hb7
    have hB7 := hown7.bs
    clear x6 p6
    go_wp2_with fail
    refine (refPut_any A c l n v b _ (((hb.below t7).below (below_alloc _ _))) hn (by omega) (by omega) hwd).mono ?_
    rw [← HG.out]
    rintro e w8 ⟨A8, c8, rfl, hown8, hb8⟩
    have x8 := box2 hb8 x7
    have p8 := box2 hb8 p7
    have a8 := boxN hb8
    have t8 := on2 t7 hb8
    have hown6 := (hown6.below (below_alloc _ _)).below hb8
    replace hB7 := (hB7.below (below_alloc _ _)).below hb8
    have hB8 := hown8.bs
    clear x7 p7
    go_wp2_with fail
    refine (refSame_any A7 A8 c7 c8 G.1 G.1 G.2.1 G.2.1 _ (hB7.below (below_alloc _ _)) (hB8.below (below_alloc _ _))).mono ?_
    rintro e w9 ⟨rfl, hb9⟩
    have x9 := box2 hb9 x8
    have p9 := box2 hb9 p8
    have t9 := on2 t8 hb9
    have hown6 := (hown6.below (below_alloc _ _)).below hb9
    have hBg := hown6.bs.left
    clear x8 p8 a8
    go_wp2_with fail
    refine (refSame_any (some ⟨g, 0, none⟩) A cap c l l n n _ hBg (hb.below t9)).mono ?_
    rintro e w10 ⟨rfl, hb10⟩
    have x10 := box1 hb10 x9
    have p10 := box1 hb10 p9
    have t10 := on1 t9 hb10
    have hown6 := hown6.below hb10
    have hrow := hown6.cell l.length (by simp)
    have e119 : (l ++ [119])[l.length]'(by simp) = (119 : UInt8) := by simp
    rw [e119] at hrow
    have hrow : w10.cell? ⟨g, l.length, none⟩ = some (.int .u8 119) := hrow
    clear e119 x9 p9
    go_wp2
    go_ret
    exact ⟨rfl, t10⟩

end Go.Proofs.Ytgjaopphfahhcaa
