/- Layer 19: Grams of the program. -/
import Derived.Test.YtanenfbfcbkdhaaNw6
set_option linter.unusedSimpArgs false
set_option linter.unusedVariables false
namespace Go.Proofs.Ytanenfbfcbkdhaa
open Go.RowKit
set_option maxRecDepth 100000

/-- api's grams, each with bytes of its own -/
abbrev Gg (w : World) (R : Value) (L : List Ng) : Prop := Gl (·.b) vaG w 33 encG 2 R L

theorem Try.gramOf (u v z : Value) (w : World) : (Instr.field 53 (.agg #[u, v, z]) 0).run Try.prog w = .ok (.agg #[u, v]) w := by kernel_rfl
set_option maxHeartbeats 8000000 in
theorem ngrams_any (q : Nat) (V : Value) (T : List Ng) (w : World) (h : Nt w q V T) (hk : okT T) (hT : T.length ≤ 1000000) :
    Calls Try.prog 16 #[.pointer (some ⟨q, 0, none⟩)] w fun e w' => ∃ R c L, e = .returned (.slice R T.length c) ∧ Hid (Gg w' (.slice R T.length c) L ∧ L.map Ng.d = T.map Ng.d ∧ Below w.heap.size w w' ∧ ∀ k, footG vaG (.slice R T.length c) L k → w.heap.size ≤ k) := by
  obtain ⟨A0, c0, hV⟩ := h.ex
  subst hV
  obtain ⟨n, hn⟩ : ∃ n, n = T.length := ⟨_, rfl⟩
  rw [← hn] at h ⊢
  have C := bsays h.bx
  simp only [cellsSay, Nat.reduceAdd, and_true] at C
  have HN := Lib.hid h
  have Hn := Lib.hid hn
  have Hk := Lib.hid hk
  have hn6 : n ≤ 1000000 := by omega
  clear h hn hk
  go_enter Try.func16, Try.ntmps16
  go_wp2_with fail
  go_loopw [3, 11] (fun s3 s11 wr => ∃ k : Nat, ∃ (R : Option Addr) (c : Nat), k ≤ n ∧ s3 = .slice R k c ∧ s11 = .int .i64 k ∧ Hid (∃ L, L.map Ng.d = (T.take k).map Ng.d ∧ OwnR wr w.heap.size 33 encG 2 (.slice R k c) L ∧ Gg wr (.slice R k c) L ∧ Below w.heap.size w wr ∧ ∀ j, footG vaG (.slice R k c) L j → w.heap.size ≤ j))
    (fun _ s11 _ => n - (intOf s11).toNat)
  case atStart => exact ⟨0, none, 0, Nat.zero_le _, rfl, rfl, Lib.hid ⟨[], rfl, OwnR.nil _ _ _ _ _, Gl.nil _ _ _ _ _ _, Below.refl _ _, fun j hj => by rcases hj with hj | ⟨t, ht, _⟩ <;> simp_all [Value.ownBlock]⟩⟩
  case round =>
    obtain ⟨k, R, c, hkn, rfl, rfl, HR⟩ := hrel
    by_cases hlt : k < n
    · obtain ⟨x, hx⟩ : ∃ x, T[k]? = some x := ⟨_, List.getElem?_eq_getElem (by rw [← Hn.out]; exact hlt)⟩
      obtain ⟨g, hg⟩ : ∃ g, A0 = some ⟨g, 0, none⟩ := by
        rcases HN.out.slice with ⟨h1, h2⟩ | ⟨g, cap, h1, _⟩
        · have := Hn.out; rw [h2] at this; simp at this; omega
        · injection h1 with h1; exact ⟨g, h1⟩
      subst hg
      obtain ⟨L, l1, l2, l3, l4, l5⟩ := HR.out
      have hkx := Hk.out x (List.mem_of_getElem? hx)
      have CE := (HN.out.elem hx)
      have C1 : wr.cell? ⟨g, k * 3, none⟩ = some (.int .u8 (x.sd : Nat)) ∧ wr.cell? ⟨g, k * 3 + 1, none⟩ = some (.slice x.A x.b.length x.c) ∧ wr.cell? ⟨g, k * 3 + 2, none⟩ = some (.bool x.bent) := by
        have hgw : g < w.heap.size := HN.out.gl.lt g (.inl rfl)
        exact ⟨(l4.cell hgw).trans CE.1, (l4.cell hgw).trans CE.2.1, (l4.cell hgw).trans CE.2.2.1⟩
      have hkl : (k : Int) < (n : Int) := by omega
      have hk0 : (0 : Int) ≤ (k : Int) := by omega
      have HX := Lib.hid hx
      have HL := Lib.hid (And.intro l1 (And.intro l2 (And.intro l3 (And.intro l4 l5))))
      have HB := Lib.hid ((HN.out.bytes hx).below l4)
      clear CE l1 l2 l3 l4 l5 HR hx
      have kA := fun W => keepA W
      go_upto_region 5 with fail
      obtain ⟨Wb, hWb⟩ : ∃ Wb, Wb = wr.alloc (.cells #[.int .u8 (x.sd : Nat), .slice x.A x.b.length x.c, .bool x.bent] 53) := ⟨_, rfl⟩
      have hb0 : Below wr.heap.size wr Wb := by rw [hWb]; exact below_alloc _ _
      have D : Wb.cell? ⟨wr.heap.size, 0, none⟩ = some (.int .u8 (x.sd : Nat)) ∧ Wb.cell? ⟨wr.heap.size, 1, none⟩ = some (.slice x.A x.b.length x.c) ∧ Wb.cell? ⟨wr.heap.size, 2, none⟩ = some (.bool x.bent) := by
        rw [hWb]
        exact ⟨(Blk.new wr _ _).cell 0, (Blk.new wr _ _).cell 1, (Blk.new wr _ _).cell 2⟩
      rw [← hWb]
      have HB0 := Lib.hid hb0
      have HC := Lib.hid (ncopied_any x.sd x.b x.A x.c x.bent Wb (HB.out.below hb0) hkx.1 (by omega))
      clear hWb hb0 C1 kA
      go_wp2_with fail
      refine HC.out.mono ?_
      rintro e w8 ⟨A8, c8, rfl, h8⟩
      obtain ⟨l1, l2, l3, l4, l5⟩ := HL.out
      have hLl : L.length = k := by
        have := congrArg List.length l1
        rw [List.length_map, List.length_map, List.length_take, ← Hn.out] at this
        omega
      obtain ⟨o8, b8⟩ := h8.out
      have hb9 : Below wr.heap.size wr w8 := on1 HB0.out b8
      have hR := (l2.below hb9).alloc (.cells #[.int .u8 (x.sd : Nat), .slice A8 x.b.length c8] 33)
      have hb10 : Below wr.heap.size wr (w8.alloc (.cells #[.int .u8 (x.sd : Nat), .slice A8 x.b.length c8] 33)) := hb9.alloc hb9.size _
      have hz10 := hb10.size
      have hz4 := l4.size
      have HL2 := Lib.hid (And.intro l1 (And.intro l2 (And.intro l3 (And.intro l4 (And.intro l5 (And.intro o8 hb10))))))
      have HR2 := Lib.hid hR
      have h5n : L.length + 1 ≤ maxLen := by unfold maxLen; have := Hn.out; omega
      have h6n : (L.length + 1) * 32 ≤ 140737488355328 := by have := Hn.out; omega
      have hz8 : wr.heap.size + 1 ≤ Wb.heap.size := by
        have := cell_lt D.1
        simp at this
        omega
      have HZ8 := Lib.hid hz8
      clear D HL HB HC h8 o8 b8 hb9 hR hb10 hz10 l1 l2 l3 l4 l5 hz8
      have hfd := Try.gramOf (.int .u8 (x.sd : Nat)) (.slice A8 x.b.length c8) (.bool x.bent) w8
      go_upto_region 6 with (at_builtin; go_must (refine appR1L Try.eltG _ rfl (.tmp 15) (.tmp 19) rfl w.heap.size (.slice R k c) L rfl HR2.out w8.heap.size 1 ⟨x.sd, x.b, A8, c8, x.bent⟩ _ _ rfl (Blk.new w8 _ _) rfl h5n h6n (by have := HL2.out.2.2.2.1.size; have := HL2.out.2.2.2.2.2.2.size; omega) ?_); intro g2 c2 w2 hown2 hgr2 hor2 hlt2)
      obtain ⟨l1, l2, l3, l4, l5, o8, hb10⟩ := HL2.out
      have hl8 : ∀ j, (Value.slice (some ⟨g2, 0, none⟩) (k + 1) c2).ownBlock = some j → (Value.slice R k c).ownBlock = some j ∨ (w8.alloc (.cells #[.int .u8 (x.sd : Nat), .slice A8 x.b.length c8] 33)).heap.size ≤ j := fun j e => by
        have e2 : g2 = j := by simpa [Value.ownBlock] using e
        subst e2
        rcases hor2 with h9 | h9
        · exact .inl h9
        · exact .inr (Nat.le_of_eq h9.symm)
      have hx8 : ∀ j, (vaG (⟨x.sd, x.b, A8, c8, x.bent⟩ : Ng)).ownBlock = some j → wr.heap.size ≤ j := fun j e => by
        have h9 := (World.ownsRow.lt o8 j e).1
        have := HZ8.out
        omega
      rw [hLl] at hown2
      have G2 : Gg w2 (.slice (some ⟨g2, 0, none⟩) (k + 1) c2) (L ++ [(⟨x.sd, x.b, A8, c8, x.bent⟩ : Ng)]) := l3.snoc (x := (⟨x.sd, x.b, A8, c8, x.bent⟩ : Ng)) hb10 (hown2.mono (Nat.zero_le _)) hgr2 hl8 ((o8.mono (Nat.zero_le _)).below (below_alloc _ _)) hx8
      have b2 : Below w.heap.size w w2 := Below.grown (on1 l4 hb10) hgr2 (on1 l4 hb10).size (fun j e => l5 j (.inl e))
      have f2 : ∀ j, footG vaG (.slice (some ⟨g2, 0, none⟩) (k + 1) c2) (L ++ [(⟨x.sd, x.b, A8, c8, x.bent⟩ : Ng)]) j → w.heap.size ≤ j := fun j hj => by
        rcases footG_snoc (x := (⟨x.sd, x.b, A8, c8, x.bent⟩ : Ng)) (V := .slice R k c) (V2 := .slice (some ⟨g2, 0, none⟩) (k + 1) c2) (B := wr.heap.size) (fun k e => (hl8 k e).imp id (fun h => Nat.le_trans hb10.size h)) hx8 j hj with h9 | h9
        · exact l5 j h9
        · exact Nat.le_trans l4.size h9
      have m2 : (L ++ [(⟨x.sd, x.b, A8, c8, x.bent⟩ : Ng)]).map Ng.d = (T.take (k + 1)).map Ng.d := by
        rw [List.take_add_one, HX.out, List.map_append, List.map_append, l1]
        rfl
      have HE := Lib.hid (show ∃ L, L.map Ng.d = (T.take (k + 1)).map Ng.d ∧ OwnR w2 w.heap.size 33 encG 2 (.slice (some ⟨g2, 0, none⟩) (k + 1) c2) L ∧ Gg w2 (.slice (some ⟨g2, 0, none⟩) (k + 1) c2) L ∧ Below w.heap.size w w2 ∧ ∀ j, footG vaG (.slice (some ⟨g2, 0, none⟩) (k + 1) c2) L j → w.heap.size ≤ j from ⟨_, m2, hown2, G2, b2, f2⟩)
      clear l1 l2 l3 l4 l5 o8 hb10 hl8 hx8 G2 b2 f2 m2 hown2 hgr2 hor2 hlt2 hLl HL2 HR2 hfd
      go_wp2_with fail
      go_roundw
      case measure => simp [intOf]; omega
      case rel => exact ⟨k + 1, some ⟨g2, 0, none⟩, c2, by omega, rfl, by go_num, HE⟩
    · obtain rfl : k = n := by omega
      obtain ⟨L, l1, l2, l3, l4, l5⟩ := HR.out
      have HEND := Lib.hid (show Gg wr (.slice R k c) L ∧ L.map Ng.d = T.map Ng.d ∧ Below w.heap.size w wr ∧ ∀ j, footG vaG (.slice R k c) L j → w.heap.size ≤ j from ⟨l3, by rw [l1, Hn.out, List.take_length], l4, l5⟩)
      clear l1 l2 l3 l4 l5 HR
      have hkk : ¬ ((k : Int) < (k : Int)) := by omega
      go_wp2_with fail
      go_ret
      exact ⟨R, c, rfl, L, HEND⟩

end Go.Proofs.Ytanenfbfcbkdhaa
