/- Joined: FrameOB. -/
import Derived.Test.YtmcdollkmlcpbaaGreatDoorQ21
import Derived.Test.YtmcdollkmlcpbaaGreatDoorQ43
set_option linter.unusedSimpArgs false
set_option linter.unusedVariables false
set_option linter.unusedSimpArgs false
set_option linter.unusedVariables false
namespace Go.Proofs.YtmcdollkmlcpbaaGreatDoor
open Go.Joins Go.ChangeShapes Go.WideShapes Go.RowKit Go.Deep
set_option maxRecDepth 100000
section
variable {H : Type} {ench : TypeId × Value → H} {W : World}
theorem Tryz.bCellsS : Tryz.prog.cellsOf 42 = 2 := by kernel_rfl
theorem Tryz.bCells64 : Tryz.prog.cellsOf 2 = 1 := by kernel_rfl
theorem Tryz.bCellsO : Tryz.prog.cellsOf 76 = 17 := by kernel_rfl
theorem ftrod_i64 {base n : Nat} {spare : Nat → Bool} {held : Bool} {c : Value} {y : DataW H × List MemPlace} (h : DataW.trod ench Tryz.prog W base spare held n 2 [c] = some y) : ∃ x : Int, c = .int .i64 x ∧ in64 x := by
 obtain ⟨x, e, _, wx⟩ := DataW.trod_int Tryz.underlying2 h
 have hb := bounds_i64 wx
 simp at e
 exact ⟨x, e, by unfold in64; omega⟩
theorem ftrod_smp {base n : Nat} {spare : Nat → Bool} {held : Bool} {c d : Value} {y : DataW H × List MemPlace} (h : DataW.trod ench Tryz.prog W base spare held n 42 [c, d] = some y) :
  ∃ (t : Int) (v : Nat), c = .int .i64 t ∧ d = .int .u64 (v : Nat) ∧ in64 t ∧ v < 18446744073709551616 := by
 obtain ⟨xs, m, _, _, _, hlen, hg⟩ := DataW.trod_struct Tryz.underlying42 h
 obtain ⟨y0, h0⟩ := trodR hlen hg 0 rfl Tryz.bCells64
 obtain ⟨y1, h1⟩ := trodR hlen hg 1 rfl Tryz.fCellsU64
 obtain ⟨t, rfl, b0⟩ := ftrod_i64 h0
 obtain ⟨v, rfl, b1⟩ := ftrod_u64 h1
 exact ⟨t, v, rfl, rfl, b0, b1⟩
theorem ftrod_frame {n : Nat} {spare : Nat → Bool} {held : Bool} {c0 c1 c2 c3 c4 c5 c6 c7 c8 c9 c10 : Value} {y : DataW H × List MemPlace} (h : DataW.trod ench Tryz.prog W 0 spare held n 39 [c0, c1, c2, c3, c4, c5, c6, c7, c8, c9, c10] = some y) :
  ∃ (A : Option Addr) (c : Nat) (f : FrD), [c0, c1, c2, c3, c4, c5, c6, c7, c8, c9, c10] = (frC f A c).toList ∧ Bs W A f.l ∧ f.l.length ≤ maxLen ∧ f.ok := by
 obtain ⟨xs, m, _, _, _, hlen, hg⟩ := DataW.trod_struct Tryz.underlying39 h
 obtain ⟨y0, h0⟩ := trodR hlen hg 0 rfl Tryz.fCellsU8
 obtain ⟨y1, h1⟩ := trodR hlen hg 1 rfl Tryz.fCellsU32
 obtain ⟨y2, h2⟩ := trodR hlen hg 2 rfl Tryz.fCellsU32
 obtain ⟨y3, h3⟩ := trodR hlen hg 3 rfl Tryz.fCellsP
 obtain ⟨y4, h4⟩ := trodR hlen hg 4 rfl Tryz.fCellsU32
 obtain ⟨y5, h5⟩ := trodR hlen hg 5 rfl Tryz.fCellsB
 obtain ⟨y6, h6⟩ := trodR hlen hg 6 rfl Tryz.fCellsU64
 obtain ⟨y7, h7⟩ := trodR hlen hg 7 rfl Tryz.fCellsBs
 obtain ⟨kd, rfl, o0⟩ := ftrod_u8 h0
 obtain ⟨ep, rfl, o1⟩ := ftrod_u32 h1
 obtain ⟨se, rfl, o2⟩ := ftrod_u32 h2
 obtain ⟨fc, fb, fn, rfl, rfl, rfl, o3, o4, o5⟩ := ftrod_place h3
 obtain ⟨cn, rfl, o6⟩ := ftrod_u32 h4
 obtain ⟨cl, rfl⟩ := ftrod_bool h5
 obtain ⟨sm, rfl, o7⟩ := ftrod_u64 h6
 obtain ⟨A, c, l, n, rfl, rfl, hl, hb, o8⟩ := ftrod_bits h7
 exact ⟨A, c, ⟨kd, ep, se, fc, fb, fn, cn, cl, sm, l, n⟩, rfl, hb, hl, o0, o1, o2, o3, o4, o5, o6, o7, o8.1, o8.2⟩
theorem open_ops12 {b0 : Nat} {v : Value} {d : DataW H} {p : List MemPlace} (hv : Value.okWide Tryz.prog W .any b0 22 v) (h : DataW.Trod ench Tryz.prog W 0 (fun _ => true) true 22 v d p) :
  ∃ (V : Option Addr) (c : Nat) (l : List OB), v = .slice V l.length c ∧ Rw W encOB 17 V l ∧ l.length ≤ maxLen ∧ (∀ o ∈ l, OkOB o) ∧ ∀ o ∈ l, Bs W o.A o.f.l := by
 obtain ⟨V, c, l, h1, h2, -, h4, h5⟩ := open_rows (enc := encOB) (sz := 17) (ok := fun o => OkOB o ∧ Bs W o.A o.f.l) Tryz.underlying22 Tryz.bCellsO (by decide) (fun _ => rfl) (fun fuel cs x hl ht => by
  match cs, hl with
  | [c0, c1, c2, c3, c4, c5, c6, c7, c8, c9, c10, c11, c12, c13, c14, c15, c16], _ =>
   obtain ⟨xs, m, _, _, _, hlen, hg⟩ := DataW.trod_struct Tryz.underlying76 ht
   obtain ⟨y0, h0⟩ := trodR hlen hg 0 rfl Tryz.fCellsU8
   obtain ⟨y1, h1⟩ := trodR hlen hg 1 rfl Tryz.fCellsU32
   obtain ⟨y2, h2⟩ := trodR hlen hg 2 rfl Tryz.bCellsS
   obtain ⟨y3, h3⟩ := trodR hlen hg 3 rfl Tryz.fCellsF
   obtain ⟨y4, h4⟩ := trodR hlen hg 4 rfl Tryz.fCellsU8
   obtain ⟨y5, h5⟩ := trodR hlen hg 5 rfl Tryz.fCellsI
   obtain ⟨kd, rfl, o0⟩ := ftrod_u8 h0
   obtain ⟨se, rfl, o1⟩ := ftrod_u32 h1
   obtain ⟨t, v, rfl, rfl, o2, o3⟩ := ftrod_smp h2
   obtain ⟨A, cc, f, hf, hb, hl2, o4⟩ := ftrod_frame h3
   obtain ⟨at_, rfl, o5⟩ := ftrod_u8 h4
   obtain ⟨nn, rfl, o6⟩ := ftrod_int h5
   refine ⟨⟨kd, se, t, v, f, A, cc, at_, nn⟩, ?_, ⟨o0, o1, o2, o3, o4, o5, by unfold in64; omega⟩, hb⟩
   unfold frC at hf
   simp only [List.cons.injEq, and_true] at hf
   obtain ⟨rfl, rfl, rfl, rfl, rfl, rfl, rfl, rfl, rfl, rfl, rfl⟩ := hf
   rfl) hv h
 exact ⟨V, c, l, h1, h2, h4, fun o ho => (h5 o ho).1, fun o ho => (h5 o ho).2⟩
end
end Go.Proofs.YtmcdollkmlcpbaaGreatDoor
