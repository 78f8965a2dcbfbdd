/- Joined behind the others: Frame, FrameF, Smp, MathBk, Bk25, FrameOB, MathBk3, Bk26, Bk27, Bk28, Bk37, Dg1, Dg13, Dg14. -/
import Derived.Test.YtiliineopplinaaDoorQ1
import Derived.Test.YtiliineopplinaaDoorQ2
import Derived.Test.YtiliineopplinaaDoorQ3
import Derived.Test.YtiliineopplinaaDoorQ4
import Derived.Test.YtiliineopplinaaDoorQ5
import Derived.Test.YtiliineopplinaaDoorQ6
import Derived.Test.YtiliineopplinaaDoorQ7
import Derived.Test.YtiliineopplinaaDoorQ8
import Derived.Test.YtiliineopplinaaDoorQ9
import Derived.Test.YtiliineopplinaaDoorQ10
import Derived.Test.YtiliineopplinaaDoorQ11
import Derived.Test.YtiliineopplinaaDoorQ12
import Derived.Test.YtiliineopplinaaDoorQ13
import Derived.Test.YtiliineopplinaaDoorQ14
import Derived.Test.YtiliineopplinaaDoorQ15
import Derived.Test.YtiliineopplinaaDoorQ16
import Derived.Test.YtiliineopplinaaDoorQ17
import Derived.Test.YtiliineopplinaaDoorQ18
import Derived.Test.YtiliineopplinaaDoorQ19
import Derived.Test.YtiliineopplinaaDoorQ20
import Derived.Test.YtiliineopplinaaDoorQ21
import Derived.Test.YtiliineopplinaaDoorQ22
import Derived.Test.YtiliineopplinaaDoorQ23
import Derived.Test.YtiliineopplinaaDoorQ24
import Derived.Test.YtiliineopplinaaDoorQ25
import Derived.Test.YtiliineopplinaaDoorQ26
import Derived.Test.YtiliineopplinaaDoorQ27
import Derived.Test.YtiliineopplinaaDoorQ28
import Derived.Test.YtiliineopplinaaDoorQ29
import Derived.Test.YtiliineopplinaaDoorQ30
import Derived.Test.YtiliineopplinaaDoorQ31
import Derived.Test.YtiliineopplinaaDoorQ32
import Derived.Test.YtiliineopplinaaDoorQ33
import Derived.Test.YtiliineopplinaaDoorQ34
import Derived.Test.YtiliineopplinaaDoorQ35
import Derived.Test.YtiliineopplinaaDoorQ36
import Derived.Test.YtiliineopplinaaDoorQ37
import Derived.Test.YtiliineopplinaaDoorQ38
import Derived.Test.YtiliineopplinaaDoorQ39
import Derived.Test.YtiliineopplinaaDoorQ40
import Derived.Test.YtiliineopplinaaDoorQ41
import Derived.Test.YtiliineopplinaaDoorQ42
import Derived.Test.YtiliineopplinaaDoorQ43
import Derived.Test.YtiliineopplinaaDoorQ44
import Derived.Test.YtiliineopplinaaDoorQ45
import Derived.Test.YtiliineopplinaaDoorQ46
import Derived.Test.YtiliineopplinaaDoorQ47
import Derived.Test.YtiliineopplinaaDoorQ48
import Derived.Test.YtiliineopplinaaDoorQ49
import Derived.Test.YtiliineopplinaaDoorQ50
import Derived.Test.YtiliineopplinaaDoorQ51
import Derived.Test.YtiliineopplinaaDoorQ52
import Derived.ProofKit
import Derived.OpenShut
import Derived.Lib.SmallJoins
import Derived.Carry
import Derived.Deep.SlicePairs
import Derived.Deep.CutBlock
import Derived.Deep.DeepCutAuto
set_option linter.unusedSimpArgs false
set_option linter.unusedVariables false
/- The parameters of the statements, opened: what a reading gives to the walks. -/
namespace Go.Proofs.YtiliineopplinaaDoor
open Go.ChangeShapes Go.WideShapes Go.ChangeAt Go.RowKit Go.Joins
set_option maxRecDepth 100000


theorem wf_u8s {zs : List Int} (h : ∀ n ∈ zs, (Lit.int .u8 n).wf = true) : ∃ l : List UInt8, zs = l.map fun b => (b.toNat : Int) := by
  refine ⟨zs.map fun n => UInt8.ofNat n.toNat, ?_⟩
  rw [List.map_map]
  apply List.ext_getElem (by simp)
  intro i h1 h2
  simp only [List.getElem_map, Function.comp]
  have := bounds_u8 (h zs[i] (List.getElem_mem h1))
  rw [UInt8.toNat_ofNat_of_lt' (show zs[i].toNat < 256 by omega)]
  omega

section
variable {H : Type} {enc : TypeId × Value → H} {W : World}

/-- a slice of bytes, as one cell reads -/
theorem open_bytes {fuel : Nat} {v : Value} {x : DataW H × List MemPlace} {sp : Nat → Bool} {held : Bool} {b0 : Nat} (h : DataW.trod enc Tryd.prog W b0 sp held fuel 55 [v] = some x) :
    ∃ (A : Option Addr) (c : Nat) (l : List UInt8), v = .slice A l.length c ∧ l.length ≤ maxLen ∧ Bs W A l := by
  rcases open_ints Tryd.underlying55 Tryd.underlying5 (by kernel_rfl) h with ⟨hcs, _⟩ | ⟨a, len, cap, zs, hcs, _, hl, hm, hz, _, hcell, hwz⟩
  · simp at hcs
    exact ⟨none, 0, [], hcs, Nat.zero_le _, Bs.nil _ _⟩
  · simp at hcs
    obtain ⟨l, rfl⟩ := wf_u8s hwz
    have hlen : len ≤ l.length := by
      rw [List.length_map] at hz
      rw [hz]; split <;> omega
    refine ⟨some a, cap, l.take len, ?_, ?_, fun i b hi => ?_⟩
    · rw [List.length_take, Nat.min_eq_left hlen]; exact hcs
    · rw [List.length_take]; omega
    · rw [List.getElem?_take] at hi
      split at hi
      · rename_i hil
        have hil' : i < l.length := by omega
        have hc := hcell i (by rw [List.length_map]; exact hil')
        have e : (l.map fun b => (b.toNat : Int)).getD i 0 = (b.toNat : Int) := by
          rw [List.getD_eq_getElem?_getD, List.getElem?_map, hi]; rfl
        rw [e] at hc
        obtain ⟨p, o, spot⟩ := a
        have hc0 := hcell 0 (by rw [List.length_map]; omega)
        have hs : spot = none := by simpa [Addr.add] using World.cell?_spot hc0
        subst hs
        refine ⟨p, o, rfl, ?_⟩
        rw [← hc]
        congr 1
        unfold Addr.add
        split
        · rename_i h0; subst h0; rfl
        · rfl
      · cases hi

end

end Go.Proofs.YtiliineopplinaaDoor

/- A frame by value as a drawn argument. -/
set_option linter.unusedSimpArgs false
set_option linter.unusedVariables false
namespace Go.Proofs.YtiliineopplinaaDoor
open Go.Joins Go.ChangeShapes Go.WideShapes Go.RowKit Go.Deep
set_option maxRecDepth 100000

section
variable {H : Type} {ench : TypeId × Value → H} {W : World}
theorem Tryd.fCellsU8 : Tryd.prog.cellsOf 5 = 1 := by kernel_rfl
theorem Tryd.fCellsB : Tryd.prog.cellsOf 4 = 1 := by kernel_rfl
theorem Tryd.fCellsI : Tryd.prog.cellsOf 3 = 1 := by kernel_rfl
theorem Tryd.fCellsL : Tryd.prog.cellsOf 55 = 1 := by kernel_rfl
theorem Tryd.fCellsP : Tryd.prog.cellsOf 54 = 3 := by kernel_rfl
theorem Tryd.fCellsBs : Tryd.prog.cellsOf 57 = 2 := by kernel_rfl
theorem Tryd.fCellsF : Tryd.prog.cellsOf 59 = 11 := by kernel_rfl
theorem ftrod_u8 {base n : Nat} {spare : Nat → Bool} {held : Bool} {c : Value} {y : DataW H × List MemPlace} (h : DataW.trod ench Tryd.prog W base spare held n 5 [c] = some y) : ∃ x : Nat, c = .int .u8 x ∧ x < 256 := by
  obtain ⟨x, e, _, wx⟩ := DataW.trod_int Tryd.underlying5 h
  have hb := bounds_u8 wx
  simp at e
  exact ⟨x.toNat, by rw [e, Int.toNat_of_nonneg hb.1], by omega⟩
theorem ftrod_int {base n : Nat} {spare : Nat → Bool} {held : Bool} {c : Value} {y : DataW H × List MemPlace} (h : DataW.trod ench Tryd.prog W base spare held n 3 [c] = some y) : ∃ x : Int, c = .int .i64 x ∧ (-9223372036854775808 ≤ x ∧ x ≤ 9223372036854775807) := by
  obtain ⟨x, e, _, wx⟩ := DataW.trod_int Tryd.underlying3 h
  simp at e
  exact ⟨x, e, bounds_i64 wx⟩
theorem ftrod_bool {base n : Nat} {spare : Nat → Bool} {held : Bool} {c : Value} {y : DataW H × List MemPlace} (h : DataW.trod ench Tryd.prog W base spare held n 4 [c] = some y) : ∃ x : Bool, c = .bool x := by
  obtain ⟨b, e, _⟩ := DataW.trod_bool Tryd.underlying4 h
  simp at e
  exact ⟨b, e⟩
theorem ftrod_place {base n : Nat} {spare : Nat → Bool} {held : Bool} {c d e : Value} {y : DataW H × List MemPlace} (h : DataW.trod ench Tryd.prog W base spare held n 54 [c, d, e] = some y) :
    ∃ a0 a1 a2 : Nat, c = .int .u32 a0 ∧ d = .int .u32 a1 ∧ e = .int .u32 a2 ∧ a0 < 4294967296 ∧ a1 < 4294967296 ∧ a2 < 4294967296 := by
  obtain ⟨xs, m, _, _, _, hlen, hg⟩ := DataW.trod_struct Tryd.underlying54 h
  obtain ⟨y0, h0⟩ := trodR hlen hg 0 rfl Tryd.fCellsU32
  obtain ⟨y1, h1⟩ := trodR hlen hg 1 rfl Tryd.fCellsU32
  obtain ⟨y2, h2⟩ := trodR hlen hg 2 rfl Tryd.fCellsU32
  obtain ⟨a0, rfl, b0⟩ := ftrod_u32 h0
  obtain ⟨a1, rfl, b1⟩ := ftrod_u32 h1
  obtain ⟨a2, rfl, b2⟩ := ftrod_u32 h2
  exact ⟨a0, a1, a2, rfl, rfl, rfl, b0, b1, b2⟩
theorem ftrod_bits {base n : Nat} {spare : Nat → Bool} {held : Bool} {c d : Value} {y : DataW H × List MemPlace} (h : DataW.trod ench Tryd.prog W base spare held n 57 [c, d] = some y) :
    ∃ (A : Option Addr) (k : Nat) (l : List UInt8) (m : Int), c = .slice A l.length k ∧ d = .int .i64 m ∧ l.length ≤ maxLen ∧ Bs W A l ∧ (-9223372036854775808 ≤ m ∧ m ≤ 9223372036854775807) := by
  obtain ⟨xs, m, _, _, _, hlen, hg⟩ := DataW.trod_struct Tryd.underlying57 h
  obtain ⟨y0, h0⟩ := trodR hlen hg 0 rfl Tryd.fCellsL
  obtain ⟨y1, h1⟩ := trodR hlen hg 1 rfl Tryd.fCellsI
  obtain ⟨A, k, l, rfl, hl, hb⟩ := open_bytes (b0 := base) h0
  obtain ⟨m, rfl, hm⟩ := ftrod_int h1
  exact ⟨A, k, l, m, rfl, rfl, hl, hb, hm⟩
end

end Go.Proofs.YtiliineopplinaaDoor

/- Slices of samples: as they read, as the call's own; opened as a parameter. -/
namespace Go.Proofs.YtiliineopplinaaDoor
open Go.RowKit Go.ChangeShapes Go.WideShapes Go.ChangeAt Go.Joins Go.Deep
set_option maxRecDepth 100000

def smp (s : Int × Nat) : List Value := [.int .i64 s.1, .int .u64 s.2]
theorem Tryd.eltS : Elt Tryd.prog 42 52 smp 2 16 := ⟨Tryd.underlying42, ⟨.agg #[.int .i64 0, .int .u64 0], by kernel_rfl, rfl⟩, by decide, fun _ => rfl, fun x v h => by
  simp [smp] at h; rcases h with rfl | rfl <;> rfl⟩
section
variable {H : Type} {enc : TypeId × Value → H} {W : World}
end

end Go.Proofs.YtiliineopplinaaDoor

/- Layer 12: a book as data: series of chunks of samples. -/
set_option linter.unusedSimpArgs false
set_option linter.unusedVariables false
namespace Go.Proofs.YtiliineopplinaaDoor

theorem putCs_flat (ch : Nat) {C : CsT} (h : C ≠ []) (x : Sm) : (putCs ch C x).flatten = C.flatten ++ [x] := by
  unfold putCs
  rw [setLast_flat, cs_flat h, List.append_assoc]
end Go.Proofs.YtiliineopplinaaDoor

/- Layer 12: the statements' calls; heavy. -/
set_option linter.unusedSimpArgs false
set_option linter.unusedVariables false
namespace Go.Proofs.YtiliineopplinaaDoor
open Go.RowKit
set_option maxRecDepth 100000

/-- a call on a book -/
structure OB where
  kd : Nat
  se : Nat
  t : Int
  v : Nat
  f : FrD
  A : Option Addr
  c : Nat
  at_ : Nat
  n : Int
def encOB (o : OB) : List Value := [.int .u8 ((o.kd : Nat) : Int), .int .u32 ((o.se : Nat) : Int), .int .i64 o.t, .int .u64 ((o.v : Nat) : Int), .int .u8 ((o.f.kd : Nat) : Int), .int .u32 ((o.f.ep : Nat) : Int), .int .u32 ((o.f.se : Nat) : Int), .int .u32 ((o.f.fc : Nat) : Int), .int .u32 ((o.f.fb : Nat) : Int), .int .u32 ((o.f.fn : Nat) : Int), .int .u32 ((o.f.cn : Nat) : Int), .bool o.f.cl, .int .u64 ((o.f.sm : Nat) : Int), .slice o.A o.f.l.length o.c, .int .i64 o.f.n, .int .u8 ((o.at_ : Nat) : Int), .int .i64 o.n]
structure OkOB (o : OB) : Prop where
  kd : o.kd < 256
  se : o.se < 4294967296
  t : in64 o.t
  v : o.v < 18446744073709551616
  f : o.f.ok
  at_ : o.at_ < 256
  n : in64 o.n
end Go.Proofs.YtiliineopplinaaDoor

/- Arguments of layer 12's statements: calls. -/
set_option linter.unusedSimpArgs false
set_option linter.unusedVariables false
namespace Go.Proofs.YtiliineopplinaaDoor
open Go.Joins Go.ChangeShapes Go.WideShapes Go.RowKit Go.Deep
set_option maxRecDepth 100000

section
variable {H : Type} {ench : TypeId × Value → H} {W : World}
theorem Tryd.bCellsS : Tryd.prog.cellsOf 52 = 2 := by kernel_rfl
theorem Tryd.bCells64 : Tryd.prog.cellsOf 2 = 1 := by kernel_rfl
theorem Tryd.bCellsO : Tryd.prog.cellsOf 78 = 17 := by kernel_rfl
theorem ftrod_i64 {base n : Nat} {spare : Nat → Bool} {held : Bool} {c : Value} {y : DataW H × List MemPlace} (h : DataW.trod ench Tryd.prog W base spare held n 2 [c] = some y) : ∃ x : Int, c = .int .i64 x ∧ in64 x := by
  obtain ⟨x, e, _, wx⟩ := DataW.trod_int Tryd.underlying2 h
  have hb := bounds_i64 wx
  simp at e
  exact ⟨x, e, by unfold in64; omega⟩
theorem ftrod_smp {base n : Nat} {spare : Nat → Bool} {held : Bool} {c d : Value} {y : DataW H × List MemPlace} (h : DataW.trod ench Tryd.prog W base spare held n 52 [c, d] = some y) :
    ∃ (t : Int) (v : Nat), c = .int .i64 t ∧ d = .int .u64 (v : Nat) ∧ in64 t ∧ v < 18446744073709551616 := by
  obtain ⟨xs, m, _, _, _, hlen, hg⟩ := DataW.trod_struct Tryd.underlying52 h
  obtain ⟨y0, h0⟩ := trodR hlen hg 0 rfl Tryd.bCells64
  obtain ⟨y1, h1⟩ := trodR hlen hg 1 rfl Tryd.fCellsU64
  obtain ⟨t, rfl, b0⟩ := ftrod_i64 h0
  obtain ⟨v, rfl, b1⟩ := ftrod_u64 h1
  exact ⟨t, v, rfl, rfl, b0, b1⟩
theorem ftrod_frame {n : Nat} {spare : Nat → Bool} {held : Bool} {c0 c1 c2 c3 c4 c5 c6 c7 c8 c9 c10 : Value} {y : DataW H × List MemPlace} (h : DataW.trod ench Tryd.prog W 0 spare held n 59 [c0, c1, c2, c3, c4, c5, c6, c7, c8, c9, c10] = some y) :
    ∃ (A : Option Addr) (c : Nat) (f : FrD), [c0, c1, c2, c3, c4, c5, c6, c7, c8, c9, c10] = (frC f A c).toList ∧ Bs W A f.l ∧ f.l.length ≤ maxLen ∧ f.ok := by
  obtain ⟨xs, m, _, _, _, hlen, hg⟩ := DataW.trod_struct Tryd.underlying59 h
  obtain ⟨y0, h0⟩ := trodR hlen hg 0 rfl Tryd.fCellsU8
  obtain ⟨y1, h1⟩ := trodR hlen hg 1 rfl Tryd.fCellsU32
  obtain ⟨y2, h2⟩ := trodR hlen hg 2 rfl Tryd.fCellsU32
  obtain ⟨y3, h3⟩ := trodR hlen hg 3 rfl Tryd.fCellsP
  obtain ⟨y4, h4⟩ := trodR hlen hg 4 rfl Tryd.fCellsU32
  obtain ⟨y5, h5⟩ := trodR hlen hg 5 rfl Tryd.fCellsB
  obtain ⟨y6, h6⟩ := trodR hlen hg 6 rfl Tryd.fCellsU64
  obtain ⟨y7, h7⟩ := trodR hlen hg 7 rfl Tryd.fCellsBs
  obtain ⟨kd, rfl, o0⟩ := ftrod_u8 h0
  obtain ⟨ep, rfl, o1⟩ := ftrod_u32 h1
  obtain ⟨se, rfl, o2⟩ := ftrod_u32 h2
  obtain ⟨fc, fb, fn, rfl, rfl, rfl, o3, o4, o5⟩ := ftrod_place h3
  obtain ⟨cn, rfl, o6⟩ := ftrod_u32 h4
  obtain ⟨cl, rfl⟩ := ftrod_bool h5
  obtain ⟨sm, rfl, o7⟩ := ftrod_u64 h6
  obtain ⟨A, c, l, n, rfl, rfl, hl, hb, o8⟩ := ftrod_bits h7
  exact ⟨A, c, ⟨kd, ep, se, fc, fb, fn, cn, cl, sm, l, n⟩, rfl, hb, hl, o0, o1, o2, o3, o4, o5, o6, o7, o8.1, o8.2⟩
theorem open_ops12 {b0 : Nat} {v : Value} {d : DataW H} {p : List MemPlace} (hv : Value.okWide Tryd.prog W .any b0 34 v) (h : DataW.Trod ench Tryd.prog W 0 (fun _ => true) true 34 v d p) :
    ∃ (V : Option Addr) (c : Nat) (l : List OB), v = .slice V l.length c ∧ Rw W encOB 17 V l ∧ l.length ≤ maxLen ∧ (∀ o ∈ l, OkOB o) ∧ ∀ o ∈ l, Bs W o.A o.f.l := by
  obtain ⟨V, c, l, h1, h2, -, h4, h5⟩ := open_rows (enc := encOB) (sz := 17) (ok := fun o => OkOB o ∧ Bs W o.A o.f.l) Tryd.underlying34 Tryd.bCellsO (by decide) (fun _ => rfl) (fun fuel cs x hl ht => by
    match cs, hl with
    | [c0, c1, c2, c3, c4, c5, c6, c7, c8, c9, c10, c11, c12, c13, c14, c15, c16], _ =>
      obtain ⟨xs, m, _, _, _, hlen, hg⟩ := DataW.trod_struct Tryd.underlying78 ht
      obtain ⟨y0, h0⟩ := trodR hlen hg 0 rfl Tryd.fCellsU8
      obtain ⟨y1, h1⟩ := trodR hlen hg 1 rfl Tryd.fCellsU32
      obtain ⟨y2, h2⟩ := trodR hlen hg 2 rfl Tryd.bCellsS
      obtain ⟨y3, h3⟩ := trodR hlen hg 3 rfl Tryd.fCellsF
      obtain ⟨y4, h4⟩ := trodR hlen hg 4 rfl Tryd.fCellsU8
      obtain ⟨y5, h5⟩ := trodR hlen hg 5 rfl Tryd.fCellsI
      obtain ⟨kd, rfl, o0⟩ := ftrod_u8 h0
      obtain ⟨se, rfl, o1⟩ := ftrod_u32 h1
      obtain ⟨t, v, rfl, rfl, o2, o3⟩ := ftrod_smp h2
      obtain ⟨A, cc, f, hf, hb, hl2, o4⟩ := ftrod_frame h3
      obtain ⟨at_, rfl, o5⟩ := ftrod_u8 h4
      obtain ⟨nn, rfl, o6⟩ := ftrod_int h5
      refine ⟨⟨kd, se, t, v, f, A, cc, at_, nn⟩, ?_, ⟨o0, o1, o2, o3, o4, o5, by unfold in64; omega⟩, hb⟩
      unfold frC at hf
      simp only [List.cons.injEq, and_true] at hf
      obtain ⟨rfl, rfl, rfl, rfl, rfl, rfl, rfl, rfl, rfl, rfl, rfl⟩ := hf
      rfl) hv h
  exact ⟨V, c, l, h1, h2, h4, fun o ho => (h5 o ho).1, fun o ho => (h5 o ho).2⟩
end
end Go.Proofs.YtiliineopplinaaDoor

/- Layer 12: what is laid, sample by sample. -/
set_option linter.unusedSimpArgs false
set_option linter.unusedVariables false
namespace Go.Proofs.YtiliineopplinaaDoor

theorem at_put (D : BD) (x y : Nat) (s : Sm) : (putD D x s).at_ y = if y = x ∧ mayD D x s.1 = 0 then putCs D.ch (D.at_ x) s else D.at_ y := by
  unfold putD
  by_cases h : mayD D x s.1 = 0
  · rw [if_pos h]
    unfold BD.at_
    rw [look_put]
    by_cases e : y = x
    · rw [if_pos e, if_pos ⟨e, h⟩]; rfl
    · rw [if_neg e, if_neg (fun k => e k.1)]
  · rw [if_neg h, if_neg (fun k => h k.2)]
/-- all that is there, series by series -/
def allD (D : BD) : List (Nat × List Sm) := D.M.map fun p => (p.1, p.2.flatten)
theorem allD_len (D : BD) : (allD D).length = D.M.length := by unfold allD; simp
theorem allD_get (D : BD) (j : Nat) : (allD D)[j]? = (D.M[j]?).map fun p => (p.1, p.2.flatten) := by unfold allD; rw [List.getElem?_map]
theorem at_of_mem {D : BD} (h : OkD D) {p : Nat × CsT} (hp : p ∈ D.M) : D.at_ p.1 = p.2 := by
  unfold BD.at_
  rw [lookM_of_mem h.nd hp]; rfl
theorem all_new {D : BD} {x : Nat} {z : Sm} (hm : mayD D x z.1 = 0) (hl : lookM D.M x = none) : allD (putD D x z) = allD D ++ [(x, [z])] := by
  unfold putD
  rw [if_pos hm]
  unfold allD putM
  rw [if_neg (by rw [hl]; decide), List.map_append]
  have e : D.at_ x = [[]] := by unfold BD.at_; rw [hl]; rfl
  rw [e]
  congr 1
  simp only [List.map_cons, List.map_nil, putCs_flat D.ch (show ([[]] : CsT) ≠ [] by simp)]
  rfl
theorem all_at {D : BD} (h : OkD D) {x j : Nat} {z : Sm} {p : Nat × CsT} (hm : mayD D x z.1 = 0) (hj : D.M[j]? = some p) (hx : p.1 = x) : allD (putD D x z) = (allD D).set j (x, p.2.flatten ++ [z]) := by
  unfold putD
  rw [if_pos hm]
  unfold allD
  simp only
  have hp := List.mem_of_getElem? hj
  have h1 := put_at h.nd hj (putCs D.ch (D.at_ x) z)
  rw [hx] at h1
  rw [h1, List.map_set]
  have e : D.at_ x = p.2 := by rw [← hx]; exact at_of_mem h hp
  rw [e, putCs_flat D.ch (h.ok p hp).ne]
/-- laid -/
structure LaI (sz k : Nat) (D : BD) : Prop where
  ok : OkD D
  ch : D.ch = sz
  mo : D.mo = 64
  len : ∀ y, (D.at_ y).flatten.length ≤ k
  key : ∀ p ∈ D.M, p.1 < 64
  full : ∀ y, ∀ L ∈ (D.at_ y).dropLast, L.length = sz
  last : ∀ y, (lastL (D.at_ y)).length < sz
theorem LaI.new {sz : Nat} (h1 : 1 ≤ sz) (h2 : sz ≤ 24) : LaI sz 0 ⟨64, sz, []⟩ :=
  ⟨⟨show 1 ≤ 64 by decide, show 64 ≤ 64 by decide, h1, h2, Nat.zero_le _, .nil, fun p h => (by cases h), fun p h => (by cases h), fun p h => (by cases h)⟩, rfl, rfl, fun y => Nat.le_refl _, fun p h => (by cases h), fun y L h => (by cases h), fun y => by show 0 < sz; omega⟩
theorem putCs_sizes {sz : Nat} {C : CsT} (hC : C ≠ []) (h1 : ∀ L ∈ C.dropLast, L.length = sz) (h2 : (lastL C).length < sz) (z : Sm) : (∀ L ∈ (putCs sz C z).dropLast, L.length = sz) ∧ (lastL (putCs sz C z)).length < sz := by
  unfold putCs
  by_cases e : (lastL C).length + 1 = sz
  · rw [decide_eq_true e, setLast_true]
    rw [List.dropLast_concat]
    refine ⟨fun L hL => ?_, ?_⟩
    · unfold setLast at hL
      rcases List.mem_append.1 hL with hL | hL
      · exact h1 L hL
      · simp at hL; subst hL; rw [List.length_append]; exact e
    · unfold lastL
      rw [List.getLast?_concat]
      show 0 < sz
      omega
  · rw [decide_eq_false e]
    refine ⟨fun L hL => ?_, ?_⟩
    · unfold setLast at hL
      rw [if_neg (by decide), List.dropLast_concat] at hL
      exact h1 L hL
    · rw [setLast_last, List.length_append, List.length_singleton]
      omega
theorem LaI.put {sz k : Nat} {D : BD} (h : LaI sz k D) {x : Nat} (hx : x < 64) {z : Sm} (hz : in64 z.1 ∧ z.2 < 18446744073709551616) (hk : k < 1000) : LaI sz (k + 1) (putD D x z) := by
  by_cases hm : mayD D x z.1 = 0
  · have hM : (putD D x z).M = putM D.M x (putCs D.ch (D.at_ x) z) := by unfold putD; rw [if_pos hm]
    have hlen := h.len x
    refine ⟨h.ok.put (by omega) hz hm (by omega), ?_, ?_, fun y => ?_, fun p hp => ?_, fun y L hL => ?_, fun y => ?_⟩
    · unfold putD; rw [if_pos hm]; exact h.ch
    · unfold putD; rw [if_pos hm]; exact h.mo
    · rw [at_put]
      split
      · rw [putCs_flat _ (h.ok.at_ x).ne, List.length_append, List.length_singleton]
        omega
      · have := h.len y; omega
    · rw [hM] at hp
      rcases mem_put hp with rfl | hp
      · exact hx
      · exact h.key p hp
    · rw [at_put] at hL
      split at hL
      · rw [h.ch] at hL
        exact (putCs_sizes (h.ok.at_ x).ne (h.full x) (h.last x) z).1 L hL
      · exact h.full y L hL
    · rw [at_put]
      split
      · rw [h.ch]
        exact (putCs_sizes (h.ok.at_ x).ne (h.full x) (h.last x) z).2
      · exact h.last y
  · have e : putD D x z = D := by unfold putD; rw [if_neg hm]
    rw [e]
    exact ⟨h.ok, h.ch, h.mo, fun y => by have := h.len y; omega, h.key, h.full, h.last⟩
end Go.Proofs.YtiliineopplinaaDoor

/- Layer 12: lists of series as things. -/
set_option linter.unusedSimpArgs false
set_option linter.unusedVariables false
namespace Go.Proofs.YtiliineopplinaaDoor
open Go.RowKit
set_option maxRecDepth 100000

/-- a series' samples and where they lie -/
structure Se where
  id : Nat
  A : Option Addr
  n : Nat
  c : Nat
  L : List Sm
def encSe (s : Se) : List Value := [.int .u32 ((s.id : Nat) : Int), .slice s.A s.n s.c]
theorem Tryd.eltSe : Elt Tryd.prog 36 44 encSe 2 32 := ⟨Tryd.underlying36, ⟨.agg #[.int .u32 0, .slice none 0 0], by kernel_rfl, rfl⟩, by decide, fun _ => rfl, fun x v h => by
  unfold encSe at h
  simp only [List.mem_cons, List.not_mem_nil, or_false] at h
  rcases h with rfl | rfl <;> rfl⟩
def seT (s : Se) : Kt := thR 52 smp 2 (.slice s.A s.n s.c) s.L
/-- the list, and each one's samples -/
def laT (v : Value) (T : List Se) : List Kt := thR 44 encSe 2 v T :: T.map seT
def seD (s : Se) : Nat × List Sm := (s.id, s.L)
theorem row_cellE {α : Type} {P : Program} {w : World} {t e : TypeId} {enc : α → List Value} {sz bytes : Nat} (E : Elt P t e enc sz bytes) {g n c : Nat} {l : List α} (h : OwnR w 0 e enc sz (.slice (some ⟨g, 0, none⟩) n c) l) {k : Nat} {x : α} (hk : l[k]? = some x) (j : Nat) (v : Value) (hj : (enc x)[j]? = some v) : w.cell? ⟨g, k * sz + j, none⟩ = some v := by
  obtain ⟨g', e1, -, hr⟩ := row_at E h hk
  injection e1 with e1
  injection e1 with e1
  subst e1
  exact hr j v hj
end Go.Proofs.YtiliineopplinaaDoor

/- Layer 12: Lay. -/
set_option linter.unusedSimpArgs false
set_option linter.unusedVariables false
namespace Go.Proofs.YtiliineopplinaaDoor
open Go.RowKit
set_option maxRecDepth 100000

def pickB {α : Type} (o : Option Value) (x y : α) : α := match o with
  | none => x
  | some _ => y
def laS (D : BD) (o : OB) : BD := putD D (o.se % 64) (o.t, o.v)
def laD (sz : Nat) (l : List OB) : BD := l.foldl laS ⟨64, sz, []⟩
def laSz (size : Int) : Nat := 1 + (max size 0).toNat % 24
theorem laD_succ (sz : Nat) (l : List OB) {k : Nat} {o : OB} (h : l[k]? = some o) : laD sz (l.take (k + 1)) = laS (laD sz (l.take k)) o := by
  obtain ⟨h1, h2⟩ := List.getElem?_eq_some_iff.1 h
  unfold laD
  rw [List.take_succ_eq_append_getElem h1, List.foldl_append, h2]
  rfl
theorem laD_ok {sz : Nat} (h1 : 1 ≤ sz) (h2 : sz ≤ 24) (l : List OB) (hok : ∀ o ∈ l, OkOB o) : ∀ k, k ≤ l.length → k ≤ 900 → LaI sz k (laD sz (l.take k))
  | 0, _, _ => LaI.new h1 h2
  | k + 1, hk, hk2 => by
    have hg := List.getElem?_eq_getElem (l := l) (i := k) (by omega)
    rw [laD_succ sz l hg]
    have ho := hok _ (List.mem_of_getElem? hg)
    exact (laD_ok h1 h2 l hok k (by omega) (by omega)).put (Nat.mod_lt _ (by decide)) ⟨ho.t, ho.v⟩ (by omega)
set_option maxHeartbeats 16000000 in
theorem bLay_any {B : Nat} {w0 w : World} {ts : List Kt} (h : Sep B w0 w ts) (hT : Tab w0) (hB0 : w0.heap.size ≤ B) (size : Int) (hsz : in64 size) (V : Option Addr) (c : Nat) (l : List OB) (hV : Rw w0 encOB 17 V l) (hok : ∀ o ∈ l, OkOB o) (hl : l.length ≤ 60) :
    Calls Tryd.prog 10 #[.int .i64 size, .slice V l.length c] w fun e w' => ∃ (q : Nat) (T : List Se) (A : Option Addr) (cc : Nat), e = .returned (.tuple #[ptB q, .slice A T.length cc]) ∧ T.map seD = allD (laD (laSz size) l) ∧ Bk B w0 w' q (laD (laSz size) l) (laT (.slice A T.length cc) T ++ ts) := by
  have hmx : Tryd.prog.follows .mixedOrders = true := by kernel_rfl
  obtain ⟨sz, hs⟩ : ∃ s, s = laSz size := ⟨_, rfl⟩
  have hs1 : 1 ≤ sz := by rw [hs]; unfold laSz; omega
  have hs2 : sz ≤ 24 := by rw [hs]; unfold laSz; omega
  obtain ⟨n, hn⟩ : ∃ n, n = l.length := ⟨_, rfl⟩
  have hn60 : n ≤ 60 := by omega
  have HN := Lib.hid (bk_new h 64 sz (by decide) (by decide) hs1 hs2)
  have HSz := Lib.hid (show 1 + max size 0 % 24 = ((sz : Nat) : Int) by rw [hs]; unfold laSz; omega)
  have HV := Lib.hid (And.intro hV (And.intro hok (And.intro hn (And.intro hT (And.intro hB0 (And.intro hs1 hs2))))))
  rw [← hs, ← hn]
  clear hV hok hn hT hB0 h hl hs
  go_enter Tryd.func10, Tryd.ntmps10
  go_upto_region 1 with fail
  go_wp2_with (go_at_call 14; rw [HSz.out]; refine HN.out.mono ?_; rintro e w1 ⟨q, rfl, hS0⟩)
  have HS0 := Lib.hid hS0
  clear hS0 HN HSz
  go_loopw [7, 8, 9, 10] (fun s7 s8 s9 s10 wr => ∃ (k tn cc : Nat) (A : Option Addr) (T : List Se), s8 = .int .i64 (k : Nat) ∧ k ≤ n ∧ s7 = .slice A tn cc ∧ tn ≤ k ∧ Hid (tn = T.length ∧ T.map seD = allD (laD sz (l.take k)) ∧ Bk B w0 wr q (laD sz (l.take k)) (laT (.slice A tn cc) T ++ ts)))
    (fun _ s8 _ _ _ => n - (intOf s8).toNat)
  case atStart => exact ⟨0, 0, 0, none, [], rfl, Nat.zero_le _, rfl, Nat.le_refl _, Lib.hid ⟨rfl, rfl, by
    obtain ⟨X, h1, h2, h3, h4⟩ := HS0.out
    exact ⟨X, h1, h2, h3, (h4.addNilR 44 encSe 2).permB (List.Perm.swap _ _ _)⟩⟩⟩
  case round =>
    obtain ⟨k, tn, cc, A, T, rfl, hk, rfl, htn, HI⟩ := hrel
    by_cases hlt : k < n
    · obtain ⟨o, ho⟩ : ∃ o, l[k]? = some o := ⟨_, List.getElem?_eq_getElem (by rw [← HV.out.2.2.1]; exact hlt)⟩
      obtain ⟨D, hD⟩ : ∃ D, D = laD sz (l.take k) := ⟨_, rfl⟩
      have hLa : LaI sz k D := by rw [hD]; exact laD_ok HV.out.2.2.2.2.2.1 HV.out.2.2.2.2.2.2 l HV.out.2.1 k (by rw [← HV.out.2.2.1]; omega) (by omega)
      have hD1 : laD sz (l.take (k + 1)) = laS D o := by rw [laD_succ sz l ho, ← hD]
      rw [← hD] at HI
      have hoo := HV.out.2.1 o (List.mem_of_getElem? ho)
      obtain ⟨p, f, rfl, hc⟩ := HV.out.1 k o ho
      have hkln : (k : Int) < (n : Int) := by omega
      obtain ⟨x, hx⟩ : ∃ x, x = o.se % 64 := ⟨_, rfl⟩
      have f0 : ((o.se : Nat) : Int) % 64 = (x : Int) := by omega
      have hx64 : x < 64 := by omega
      obtain ⟨ot, hot⟩ : ∃ t, t = o.t := ⟨_, rfl⟩
      obtain ⟨ov, hov⟩ : ∃ t, t = o.v := ⟨_, rfl⟩
      obtain ⟨me, hme⟩ : ∃ m, m = mayD D x ot := ⟨_, rfl⟩
      obtain ⟨D', hD'⟩ : ∃ E, E = putD D x (ot, ov) := ⟨_, rfl⟩
      have hP := fun (W : World) (us : List Kt) (hb : Bk B w0 W q D us) => bk_put hb (tabGo HV.out.2.2.2.1 (hb.b.mono HV.out.2.2.2.2.1)) x (by omega) ot ov ⟨by rw [hot]; exact hoo.t, by rw [hov]; exact hoo.v⟩ (by have := hLa.len x; omega)
      rw [← hme, ← hD'] at hP
      have HP := Lib.hid hP
      have hcell : ∀ (W : World), Below B w0 W → W.cell? ⟨p, f + k * 17 + 1, none⟩ = some (.int .u32 ((o.se : Nat) : Int)) ∧ W.cell? ⟨p, f + k * 17 + 2, none⟩ = some (.int .i64 ot) ∧ W.cell? ⟨p, f + k * 17 + 3, none⟩ = some (.int .u64 (ov : Nat)) := fun W hb => by
        rw [hot, hov]
        have h1 := hc 1 _ rfl
        have h2 := hc 2 _ rfl
        have h3 := hc 3 _ rfl
        have hlt := fun {a : Addr} {v : Value} (h : w0.cell? a = some v) => (hb.cell (Nat.lt_of_lt_of_le (cell_lt h) HV.out.2.2.2.2.1)).trans h
        exact ⟨hlt h1, hlt h2, hlt h3⟩
      have HCell := Lib.hid hcell
      have HE := Lib.hid (And.intro hLa (And.intro hD1 (And.intro ho (And.intro hx (And.intro hot (And.intro hov (And.intro hme hD')))))))
      clear hP hcell hoo hc ho hD hLa hD1 hx hot hov hme hD'
      go_wp2_with fail
      obtain ⟨I, hI⟩ : ∃ I : Rec → World → Prop, ∀ E W, I E W ↔ Bk B w0 W q (pickB (E 12) D D') (laT (.slice A tn cc) T ++ ts) := ⟨_, fun _ _ => Iff.rfl⟩
      have hI0 : I (fun _ => none) wr.drew := (hI _ _).2 (HI.out.2.2.go (Below.refl wr.heap.size wr).drew)
      haveI : Nonempty (InvW I) := ⟨⟨_, _, hI0⟩⟩
      have e1 := fun (y : InvW I) => (HCell.out y.W ((hI _ _).1 y.h).b).1
      have e2 := fun (y : InvW I) => (HCell.out y.W ((hI _ _).1 y.h).b).2.1
      have e3 := fun (y : InvW I) => (HCell.out y.W ((hI _ _).1 y.h).b).2.2
      have HI2 := Lib.hid hI
      clear hI
      refine wp_region_inv I [] [3, 9, 12] (fun k2 v => if k2 = 12 then v = .int .u16 (me : Nat) else v = .pointer (some ⟨p, f + k * 17, none⟩)) hmx (by kernel_rfl) hI0 ?_
      iterate 3 (refine walkJ_one rfl (by kernel_rfl) ?_; go_big_quiet_step (fail); refine wpQuiet_nil ?_)
      refine walkJ_turn rfl rfl ⟨_, rfl⟩ (fun s W1 hs h7 _ => ?_) ?_
      · refine inv_val (W' := W1) (v := .pointer (some ⟨p, f + k * 17, none⟩)) (by simp [execOp, go_sem, hkln]) ⟨rfl, (HI2.out _ _).2 ?_⟩
        have h := (HI2.out _ _).1 hs
        exact h
      rintro v rfl
      conv => arg 11; simp [Act.put]
      iterate 5 (refine walkJ_one rfl (by kernel_rfl) ?_; go_big_quiet_step (fail); refine wpQuiet_nil ?_)
      refine walkJ_turn rfl rfl ⟨_, rfl⟩ (fun s W1 hs h7 _ => ?_) ?_
      · refine inv_val (W' := W1) (v := .pointer (some ⟨p, f + k * 17, none⟩)) (by simp [execOp, go_sem, hkln]) ⟨rfl, (HI2.out _ _).2 ?_⟩
        have h := (HI2.out _ _).1 hs
        exact h
      rintro v rfl
      conv => arg 11; simp [Act.put]
      iterate 2 (refine walkJ_one rfl (by kernel_rfl) ?_; go_big_quiet_step (fail); refine wpQuiet_nil ?_)
      refine walkJ_turn rfl rfl ⟨_, rfl⟩ (fun s W1 hs h7 _ => ?_) ?_
      · have h := (HI2.out _ _).1 hs
        rw [show s 12 = none from h7] at h
        refine inv_call (by simp [execOp, go_sem, f0]) ((HP.out _ _ h).mono ?_)
        rintro e w3 ⟨rfl, hB⟩
        exact ⟨_, rfl, rfl, (HI2.out _ _).2 hB⟩
      rintro v rfl
      conv => arg 11; simp [Act.put]
      iterate 1 (refine walkJ_one rfl (by kernel_rfl) ?_; go_big_quiet_step (fail); refine wpQuiet_nil ?_)
      refine walkJ_end ?_
      intro wp hW'
      have HB := Lib.hid (show Bk B w0 wp q D' (laT (.slice A tn cc) T ++ ts) from (HI2.out _ _).1 hW')
      have HF0 := Lib.hid (And.intro f0 hx64)
      clear e1 e2 e3 hW' HI2 HP f0
      by_cases hm0 : me = 0
      · subst hm0
        go_upto_block 2 with fail
        go_cut [9] (fun s9 wx => ∃ j : Nat, s9 = .int .i64 (j : Nat) ∧ j ≤ tn ∧ Hid (∀ i y, i < j → T[i]? = some y → y.id ≠ x) ∧ Hid (∀ y, T[j]? = some y → y.id = x) ∧ Hid (Below wp.heap.size wp wx))
        case first =>
          go_wp2_with fail
          go_loopw [9] (fun s9 wi => ∃ j : Nat, s9 = .int .i64 (j : Nat) ∧ j ≤ tn ∧ Hid (∀ i y, i < j → T[i]? = some y → y.id ≠ x) ∧ Hid (Below wp.heap.size wp wi))
            (fun s9 _ => tn - (intOf s9).toNat)
          case atStart => exact ⟨0, by go_num, Nat.zero_le _, Lib.hid (fun i y h => absurd h (Nat.not_lt_zero _)), Lib.hid (Below.refl _ _)⟩
          case round =>
            obtain ⟨j, rfl, hj, HJ, HW⟩ := hrel
            obtain ⟨wi, hwi⟩ : ∃ wi, wi = wr := ⟨_, rfl⟩
            rw [← hwi] at HW ⊢
            clear hwi
            have C1 : ∀ y : More, (plus wi y).cell? ⟨p, f + k * 17 + 1, none⟩ = some (.int .u32 ((o.se : Nat) : Int)) := fun y => (HCell.out _ ((HB.out.go HW.out).go (plus_below wi y)).b).1
            by_cases hjt : j < tn
            · obtain ⟨y0, hy0⟩ : ∃ y, T[j]? = some y := ⟨_, List.getElem?_eq_getElem (by rw [← HI.out.1]; exact hjt)⟩
              obtain ⟨gr, hgr, -, -⟩ := row_at Tryd.eltSe ((HB.out.go HW.out).sep.at_ (t := thR 44 encSe 2 (.slice A tn cc) T) 0 rfl) hy0
              subst hgr
              have C2 : ∀ y : More, (plus wi y).cell? ⟨gr, j * 2, none⟩ = some (.int .u32 ((y0.id : Nat) : Int)) := fun y => row_cellE Tryd.eltSe (((HB.out.go HW.out).go (plus_below wi y)).sep.at_ (t := thR 44 encSe 2 (.slice (some ⟨gr, 0, none⟩) tn cc) T) 0 rfl) hy0 0 _ rfl
              have hjt2 : (j : Int) < (tn : Int) := by omega
              have HY := Lib.hid hy0
              clear hy0
              by_cases hyx : y0.id = x
              · have hd : (((y0.id : Nat) : Int) == ((o.se : Nat) : Int) % 64) = true := beq_iff_eq.2 (by rw [HF0.out.1]; omega)
                have HYX := Lib.hid hyx
                clear hyx
                go_wp2_with fail
                refine wp_region_ext (by kernel_rfl) (by kernel_rfl) ?_
                repeat (go_big_quiet_step (fail))
                refine wpQuiet_nil ?_
                rintro w7 ⟨y, rfl⟩
                clear C1 C2
                go_wp2_with fail
                go_meet
                exact ⟨j, rfl, hj, HJ, Lib.hid (fun y hy => by rw [HY.out] at hy; injection hy with hy; rw [← hy]; exact HYX.out), Lib.hid (HW.out.trans ((plus_below wi y).mono HW.out.size))⟩
              · have hd : (((y0.id : Nat) : Int) == ((o.se : Nat) : Int) % 64) = false := beq_eq_false_iff_ne.2 (by rw [HF0.out.1]; omega)
                have HYX := Lib.hid hyx
                clear hyx
                go_wp2_with fail
                refine wp_region_ext (by kernel_rfl) (by kernel_rfl) ?_
                repeat (go_big_quiet_step (fail))
                refine wpQuiet_nil ?_
                rintro w7 ⟨y, rfl⟩
                clear C1 C2
                go_wp2_with fail
                go_roundw
                case measure => simp [intOf]; omega
                case rel => exact ⟨j + 1, by go_num, by omega, Lib.hid (fun i y hi hy => by
                  by_cases e : i = j
                  · subst e
                    rw [HY.out] at hy; injection hy with hy; rw [← hy]; exact HYX.out
                  · exact HJ.out i y (by omega) hy), Lib.hid (HW.out.trans ((plus_below wi y).mono HW.out.size))⟩
            · have hjt2 : ¬ (j : Int) < (tn : Int) := by omega
              go_wp2_with fail
              refine wp_region_ext (by kernel_rfl) (by kernel_rfl) ?_
              repeat (go_big_quiet_step (fail))
              refine wpQuiet_nil ?_
              rintro w7 ⟨y, rfl⟩
              clear C1
              go_wp2_with fail
              go_meet
              exact ⟨j, rfl, hj, HJ, Lib.hid (fun y hy => by have := (List.getElem?_eq_some_iff.1 hy).1; rw [← HI.out.1] at this; omega), Lib.hid (HW.out.trans ((plus_below wi y).mono HW.out.size))⟩
        case rest =>
          obtain ⟨j, rfl, hj, HJ, HJ2, HWc⟩ := hcut
          obtain ⟨X, hq, hXD, hXok, hS⟩ := HB.out.go HWc.out
          have HX := Lib.hid (And.intro hq (And.intro hXD hXok))
          have HS := Lib.hid hS
          clear hq hXD hXok hS HB
          go_upto_if 61 with fail
          go_cut [7] from 61 to 71 (fun s7 wx => ∃ (A1 : Option Addr) (c1 t1n : Nat) (T1 : List Se) (y : Se), s7 = .slice A1 t1n c1 ∧ t1n ≤ tn + 1 ∧ j < t1n ∧ Hid (t1n = T1.length ∧ T1[j]? = some y ∧ y.id = x ∧ (T1.map seD).set j (x, y.L ++ [(ot, ov)]) = allD D' ∧ Sep B w0 wx (thBk X :: (laT (.slice A1 t1n c1) T1 ++ ts))))
          case first =>
            obtain ⟨W3, hW3⟩ : ∃ W, W = wc := ⟨_, rfl⟩
            rw [← hW3] at HS HWc ⊢
            clear hW3
            have hok := HE.out.1.ok
            have hm0 : mayD D x ot = 0 := HE.out.2.2.2.2.2.2.1.symm
            by_cases hjt : j = tn
            · have hd : ((j : Int) == (tn : Int)) = true := beq_iff_eq.2 (by omega)
              have hlk : lookM D.M x = none := lookM_none.2 (fun p hp e => by
                obtain ⟨i, hi⟩ := List.getElem?_of_mem hp
                have h1 := allD_get D i
                rw [hi, ← HI.out.2.1, List.getElem?_map] at h1
                obtain ⟨y, hy, hy2⟩ := Option.map_eq_some_iff.1 h1
                have hil : i < T.length := (List.getElem?_eq_some_iff.1 hy).1
                refine HJ.out i y (by rw [hjt, HI.out.1]; exact hil) hy ?_
                have := congrArg Prod.fst hy2
                exact this.trans e)
              have hall := all_new (z := (ot, ov)) hm0 hlk
              rw [← HE.out.2.2.2.2.2.2.2, ← HI.out.2.1] at hall
              have hSx := HS.out.box #[.int .u32 (((o.se : Nat) : Int) % 64), .slice none 0 0] 44
              have HSx := Lib.hid hSx
              have HAll := Lib.hid hall
              have htl : T.length ≤ 60 := by rw [← HI.out.1]; omega
              have C1 := (HCell.out W3 HS.out.b).1
              clear hok hm0 hlk hall hSx hjt
              go_wp2_with (at_builtin; go_must (refine sep_app1 Tryd.eltSe rfl (.tmp 62) (.tmp 70) rfl 2 (.slice A tn cc) T rfl HSx.out rfl W3.heap.size 1 ⟨x, none, 0, 0, []⟩ 44 #[.int .u32 (((o.se : Nat) : Int) % 64), .slice none 0 0] rfl (HSx.out.blk 0) (by unfold encSe; rw [HF0.out.1]) (by unfold maxLen; omega) (by omega) ?_); intro g7 c7 w7 hS7)
              go_meet
              refine ⟨some ⟨g7, 0, none⟩, c7, T.length + 1, T ++ [⟨x, none, 0, 0, []⟩], ⟨x, none, 0, 0, []⟩, rfl, by rw [← HI.out.1]; exact Nat.le_refl _, by rw [← HI.out.1]; omega, Lib.hid ⟨by simp, ?_, rfl, ?_, ?_⟩⟩
              · rw [show j = T.length by have := (beq_iff_eq.1 hd); rw [← HI.out.1]; omega]
                simp
              · rw [HAll.out, List.map_append, show j = (T.map seD).length by have := (beq_iff_eq.1 hd); rw [List.length_map, ← HI.out.1]; omega]
                rw [List.set_append, if_neg (by omega), Nat.sub_self]
                rfl
              · have h1 := (hS7.tail).addNilR 52 smp 2
                refine h1.permB ?_
                simp only [laT, List.map_append, List.map_cons, List.map_nil, List.append_assoc, List.cons_append, List.nil_append, List.set_cons_succ, List.set_cons_zero, List.tail_cons]
                exact (List.perm_middle (a := seT ⟨x, none, 0, 0, []⟩) (l₁ := thBk X :: _ :: T.map seT) (l₂ := ts)).symm
            · have hd : ((j : Int) == (tn : Int)) = false := beq_eq_false_iff_ne.2 (by omega)
              obtain ⟨y, hy⟩ : ∃ y, T[j]? = some y := ⟨_, List.getElem?_eq_getElem (by rw [← HI.out.1]; omega)⟩
              have hyx := HJ2.out y hy
              have hall : (T.map seD).set j (x, y.L ++ [(ot, ov)]) = allD D' := by
                have h1 := allD_get D j
                rw [← HI.out.2.1, List.getElem?_map, hy] at h1
                obtain ⟨p, hp, hp2⟩ := Option.map_eq_some_iff.1 h1.symm
                have e1 : p.1 = x := by have := congrArg Prod.fst hp2; exact this.trans hyx
                have e2 : p.2.flatten = y.L := congrArg Prod.snd hp2
                rw [HE.out.2.2.2.2.2.2.2, all_at hok (z := (ot, ov)) hm0 hp e1, HI.out.2.1, e2]
              have HAll := Lib.hid (And.intro hy (And.intro hyx hall))
              clear hok hm0 hy hyx hall
              go_wp2_with fail
              go_meet
              exact ⟨A, cc, tn, T, y, rfl, by omega, by omega, Lib.hid ⟨HI.out.1, HAll.out.1, HAll.out.2.1, HAll.out.2.2, HS.out⟩⟩
          case rest =>
            obtain ⟨A1, c1, t1n, T1, y, rfl, ht1, hj1, HR⟩ := hcut
            clear HS HWc HJ HJ2
            obtain ⟨W4, hW4⟩ : ∃ W, W = wc := ⟨_, rfl⟩
            rw [← hW4] at HR ⊢
            clear hW4
            obtain ⟨r1, r2, r3, r4, hS⟩ := HR.out
            have hyr : OwnR W4 0 52 smp 2 (.slice y.A y.n y.c) y.L := hS.get (t := seT y) (List.mem_cons_of_mem _ (List.mem_append.2 (.inl (List.mem_cons_of_mem _ (List.mem_map.2 ⟨y, List.mem_of_getElem? r2, rfl⟩)))))
            obtain ⟨A2, c2, hyv, -, hyR⟩ := OwnR.row Tryd.eltS hyr
            injection hyv with ya yn yc
            rw [← ya] at hyR
            have hyl : y.L.length ≤ 999 := by
              have h1 : ((T1.map seD).set j (x, y.L ++ [(ot, ov)]))[j]? = some (x, y.L ++ [(ot, ov)]) := List.getElem?_set_self (by rw [List.length_map, ← r1]; exact hj1)
              rw [r4, allD_get] at h1
              obtain ⟨p2, hp2, hp3⟩ := Option.map_eq_some_iff.1 h1
              have hD9 : OkD D' := by rw [← HX.out.2.1]; exact HX.out.2.2.D
              have h2 := (hD9.ok p2 (List.mem_of_getElem? hp2)).len
              rw [show p2.2.flatten = y.L ++ [(ot, ov)] from congrArg Prod.snd hp3, List.length_append, List.length_singleton] at h2
              omega
            obtain ⟨gr, hgr, -, -⟩ := row_at Tryd.eltSe (hS.at_ (t := thR 44 encSe 2 (.slice A1 t1n c1) T1) 1 rfl) r2
            subst hgr
            have C1 : W4.cell? ⟨gr, j * 2 + 1, none⟩ = some (.slice y.A y.L.length y.c) := by
              rw [← yn]
              exact row_cellE Tryd.eltSe (hS.at_ (t := thR 44 encSe 2 (.slice (some ⟨gr, 0, none⟩) t1n c1) T1) 1 rfl) r2 1 _ rfl
            have hj2 : (j : Int) < (t1n : Int) := by omega
            have HYR := Lib.hid hyR
            have HS4 := Lib.hid hS
            clear r1 r2 r3 r4 hS hyr hyR ya yn yc
            go_upto_region 16 with (at_builtin; go_must (refine appR Tryd.eltS _ rfl (.tmp 72) (.tmp 77) rfl W4.heap.size (.slice none 0 0) [] rfl (OwnR.nil _ _ _ _ _) y.A y.c y.L rfl HYR.out (by unfold maxLen; simp <;> omega) (by simp <;> omega) (Nat.le_refl _) ?_); intro A3 c3 w5 hown5 hb5)
            have hown5' : OwnR w5 W4.heap.size 52 smp 2 (.slice A3 y.L.length c3) y.L := by simpa using hown5
            have hS5 := HS4.out.cons (t := thR 52 smp 2 (.slice A3 y.L.length c3) y.L) hb5 (OwnR.mono hown5' (Nat.zero_le _)) (fun k hk => (World.ownsRow.lt hown5' k hk).1)
            obtain ⟨d1, d2, d3⟩ := HCell.out w5 hS5.b
            have HSB := Lib.hid (hS5.box #[.int .i64 ot, .int .u64 (ov : Nat)] 52)
            clear hown5 hown5' hb5 hS5 C1 d1 HS4 HYR
            go_upto_region 17 with (at_builtin; go_must (refine sep_app1 Tryd.eltS rfl (.tmp 79) (.tmp 85) rfl 1 (.slice A3 y.L.length c3) y.L (by simp [Act.eval, Act.put]) HSB.out rfl w5.heap.size 1 (ot, ov) 52 #[.int .i64 ot, .int .u64 (ov : Nat)] rfl (HSB.out.blk 0) rfl (by unfold maxLen; omega) (by omega) ?_); intro g6 c6 w6 hS6)
            have hS6' := hS6.tail
            simp only [List.set_cons_succ, List.set_cons_zero, List.tail_cons] at hS6'
            have hrow : OwnR w6 0 44 encSe 2 (.slice (some ⟨gr, 0, none⟩) t1n c1) T1 := hS6'.at_ (t := thR 44 encSe 2 (.slice (some ⟨gr, 0, none⟩) t1n c1) T1) 2 rfl
            have C6 := row_cellE Tryd.eltSe hrow HR.out.2.1 1 _ rfl
            have F6 := row_froz hrow (j * 2 + 1)
            have HS6 := Lib.hid hS6'
            clear d2 d3 HSB hS6 hS6' hrow
            go_wp2_with fail
            go_roundw
            case measure => simp [intOf]; omega
            case rel =>
              obtain ⟨r1, r2, r3, r4, -⟩ := HR.out
              have hS7 := HS6.out.turnR Tryd.eltSe 2 rfl r1 j 1 y ⟨y.id, some ⟨g6, 0, none⟩, y.L.length + 1, c6, y.L ++ [(ot, ov)]⟩ (.slice (some ⟨g6, 0, none⟩) (y.L.length + 1) c6) r2 (by decide) rfl
              simp only [List.set_cons_succ, List.set_cons_zero] at hS7
              have hS8 := Sep.replace (us := thBk X :: thR 44 encSe 2 (.slice (some ⟨gr, 0, none⟩) t1n c1) (T1.set j ⟨y.id, some ⟨g6, 0, none⟩, y.L.length + 1, c6, y.L ++ [(ot, ov)]⟩) :: T1.map seT) hS7 (j + 2)
              simp only [List.set_cons_succ] at hS8
              have hDk : laD sz (l.take (k + 1)) = D' := by
                rw [HE.out.2.1, HE.out.2.2.2.2.2.2.2]
                unfold laS
                rw [← HE.out.2.2.2.1, ← HE.out.2.2.2.2.1, ← HE.out.2.2.2.2.2.1]
              refine ⟨k + 1, t1n, c1, some ⟨gr, 0, none⟩, T1.set j ⟨y.id, some ⟨g6, 0, none⟩, y.L.length + 1, c6, y.L ++ [(ot, ov)]⟩, by go_num, by omega, rfl, by omega, Lib.hid ⟨by rw [List.length_set]; exact r1, ?_, ?_⟩⟩
              · rw [hDk, ← r4, List.map_set]
                congr 1
                show (y.id, y.L ++ [(ot, ov)]) = _
                rw [r3]
              · rw [hDk]
                refine ⟨X, HX.out.1, HX.out.2.1, HX.out.2.2, ?_⟩
                unfold laT
                rw [List.map_set]
                exact hS8
      · have hm1 : ((me : Int) == 0) = false := beq_eq_false_iff_ne.2 (by omega)
        have hm2 : ¬ (me : Int) = 0 := by omega
        have hDD : laS D o = D := by
          unfold laS putD
          rw [← HE.out.2.2.2.1, ← HE.out.2.2.2.2.1, if_neg (by show ¬ mayD D x ot = 0; rw [← HE.out.2.2.2.2.2.2.1]; exact hm0)]
        have hD2 : D' = D := by
          rw [HE.out.2.2.2.2.2.2.2]
          unfold putD
          rw [if_neg (by show ¬ mayD D x ot = 0; rw [← HE.out.2.2.2.2.2.2.1]; exact hm0)]
        have HF := Lib.hid (show T.map seD = allD (laD sz (l.take (k + 1))) ∧ Bk B w0 wp q (laD sz (l.take (k + 1))) (laT (.slice A tn cc) T ++ ts) by
          rw [HE.out.2.1, hDD]
          refine ⟨HI.out.2.1, ?_⟩
          have := HB.out
          rw [hD2] at this
          exact this)
        clear hDD hD2 HB
        go_wp2_with fail
        go_roundw
        case measure => simp [intOf]; omega
        case rel => exact ⟨k + 1, tn, cc, A, T, by go_num, by omega, rfl, by omega, Lib.hid ⟨HI.out.1, HF.out.1, HF.out.2⟩⟩
    · obtain rfl : k = n := by omega
      have hkln : ¬ (k : Int) < (k : Int) := by omega
      go_wp2_with fail
      go_ret2
      have h1 := HI.out
      rw [HV.out.2.2.1, List.take_length] at h1
      have h2 := h1.1
      subst h2
      exact ⟨q, T, A, cc, rfl, h1.2.1, h1.2.2⟩
end Go.Proofs.YtiliineopplinaaDoor

/- Layer 12: what a cut does, as data; things of a book's statements. -/
set_option linter.unusedSimpArgs false
set_option linter.unusedVariables false
namespace Go.Proofs.YtiliineopplinaaDoor
open Go.RowKit
set_option maxRecDepth 100000

section
variable {B : Nat} {w0 w w' : World} {q : Nat} {D : BD} {ts us : List Kt}
/-- what Lay left -/
theorem la_key {sz k : Nat} {D : BD} (hLa : LaI sz k D) {T : List Se} (hT : T.map seD = allD D) {i : Nat} {y : Se} (hy : T[i]? = some y) : y.id < 64 ∧ (D.at_ y.id).flatten = y.L ∧ ∃ p ∈ D.M, p.1 = y.id := by
  have h1 := allD_get D i
  rw [← hT, List.getElem?_map, hy] at h1
  obtain ⟨p, hp, hp2⟩ := Option.map_eq_some_iff.1 h1.symm
  have e1 : p.1 = y.id := congrArg Prod.fst hp2
  have e2 : p.2.flatten = y.L := congrArg Prod.snd hp2
  have hm := List.mem_of_getElem? hp
  refine ⟨by rw [← e1]; exact hLa.key p hm, ?_, p, hm, e1⟩
  rw [← e1, at_of_mem hLa.ok hm]
  exact e2
end
end Go.Proofs.YtiliineopplinaaDoor

/- Layer 12: walk of BookKeeps. -/
set_option linter.unusedSimpArgs false
set_option linter.unusedVariables false
namespace Go.Proofs.YtiliineopplinaaDoor
open Go.RowKit
set_option maxRecDepth 100000

section
variable {B : Nat} {w0 w w' : World} {q : Nat} {D : BD} {ts us : List Kt}
end
theorem ch_flat {C : CsT} (hC : C ≠ []) : (C.take (chN C)).flatten = C.flatten := by
  unfold chN
  split
  · rename_i h
    rw [← List.dropLast_eq_take]
    rw [cs_flat hC, h, List.append_nil]
  · rw [List.take_length]
end Go.Proofs.YtiliineopplinaaDoor

/- Layer 26: the leaves of a book, as data; a chunk's leaf. -/
set_option linter.unusedSimpArgs false
set_option linter.unusedVariables false
namespace Go.Proofs.YtiliineopplinaaDoor
open Go.RowKit
set_option maxRecDepth 100000

/-! ### rising lists of numbers are told by what is in them -/
theorem ksD_mem {D : BD} {x : Nat} : x ∈ ksD D ↔ ∃ p ∈ D.M, p.1 = x := by rw [(ksD_perm D).mem_iff, List.mem_map]
/-! ### leaves -/
/-! ### leafOf -/
end Go.Proofs.YtiliineopplinaaDoor

/- Layer 26: what a book's own leaves are; for DigestSame. -/
set_option linter.unusedSimpArgs false
set_option linter.unusedVariables false
namespace Go.Proofs.YtiliineopplinaaDoor
open Go.RowKit
set_option maxRecDepth 100000

theorem chN_flat {C : CsT} (oc : OkC1 C) : chN C ≤ C.flatten.length := by
  have h1 : ∀ C : CsT, (∀ L ∈ C, L ≠ []) → C.length ≤ C.flatten.length := by
    intro C
    induction C with
    | nil => intro _; exact Nat.le_refl _
    | cons L C ih =>
      intro h
      have h2 := ih fun M hM => h M (List.mem_cons_of_mem _ hM)
      have h3 : 1 ≤ L.length := by
        have h4 := h L List.mem_cons_self
        cases L with
        | nil => exact absurd rfl h4
        | cons a L => simp
      rw [List.flatten_cons, List.length_append, List.length_cons]
      omega
  have h2 : (C.take (chN C)).length ≤ (C.take (chN C)).flatten.length := h1 _ fun L hL => by
    obtain ⟨i, hi⟩ := List.getElem?_of_mem hL
    have h3 : i < chN C := by have := (List.getElem?_eq_some_iff.1 hi).1; rw [List.length_take] at this; omega
    obtain ⟨M, hM, hne⟩ := chN_get oc h3
    rw [List.getElem?_take, if_pos h3, hM] at hi
    injection hi with hi
    rw [← hi]
    exact hne
  rw [ch_flat oc.ne, List.length_take, Nat.min_eq_left (by unfold chN; split <;> omega)] at h2
  exact h2
theorem chN_pos {C : CsT} (oc : OkC1 C) (h : C.flatten ≠ []) : 1 ≤ chN C := by
  rcases Nat.eq_zero_or_pos (chN C) with e | e
  · have h1 := ch_flat oc.ne
    rw [e] at h1
    exact absurd h1.symm h
  · exact e
def sumN (D : BD) (xs : List Nat) : Nat := (xs.map fun x => chN (D.at_ x)).sum
theorem sumN_succ {D : BD} {xs : List Nat} {i x : Nat} (h : xs[i]? = some x) : sumN D (xs.take (i + 1)) = sumN D (xs.take i) + chN (D.at_ x) := by
  have hi := (List.getElem?_eq_some_iff.1 h).1
  unfold sumN
  rw [List.take_succ_eq_append_getElem hi, (List.getElem?_eq_some_iff.1 h).2, List.map_append, List.sum_append]
  simp
theorem sumN_len (D : BD) : ∀ xs : List Nat, (leavesX D xs).length = sumN D xs
  | [] => rfl
  | x :: xs => by
    show (leavesC x (D.at_ x) ++ leavesX D xs).length = _
    rw [List.length_append, leavesC_len, sumN_len D xs]
    rfl
theorem sumN_perm (D : BD) {xs ys : List Nat} (h : xs.Perm ys) : sumN D xs = sumN D ys := by
  unfold sumN
  exact (h.map _).sum_nat
theorem sumN_le {D : BD} {n : Nat} : ∀ {xs : List Nat}, (∀ x ∈ xs, chN (D.at_ x) ≤ n) → sumN D xs ≤ n * xs.length
  | [], _ => Nat.zero_le _
  | x :: xs, h => by
    have h1 := sumN_le (xs := xs) fun y hy => h y (List.mem_cons_of_mem _ hy)
    have h2 := h x List.mem_cons_self
    show chN (D.at_ x) + sumN D xs ≤ n * (xs.length + 1)
    rw [Nat.mul_add, Nat.mul_one]
    omega
theorem lack_self (D : BD) : lackX (leavesD D) D (ksD D) = [] := by
  unfold lackX
  rw [List.flatMap_eq_nil_iff]
  intro x hx
  unfold lackC
  rw [lkN_all (kn := leavesD D) fun j hj => List.mem_flatMap.2 ⟨x, hx, List.mem_map.2 ⟨j, List.mem_range.2 hj, rfl⟩⟩, List.drop_eq_nil_of_le (by simp)]
  rfl
theorem lkN_nil (x : Nat) (C : CsT) : lkN [] x C = 0 := by
  unfold lkN
  cases h : List.range (chN C) with
  | nil => rfl
  | cons a l => simp
theorem lack_nil (D : BD) : ∀ xs : List Nat, (lackX [] D xs).length = sumN D xs
  | [] => rfl
  | x :: xs => by
    show (lackC [] x (D.at_ x) ++ lackX [] D xs).length = _
    rw [List.length_append, lack_nil D xs]
    unfold lackC
    rw [lkN_nil, List.drop_zero, List.length_map, List.length_range]
    rfl
theorem apR_self {l L : List LfD} (h : ApR l l L) : L = [] := by
  cases L with
  | nil => rfl
  | cons v L => exact absurd rfl (h.mem v List.mem_cons_self).1
theorem leaf_key {D : BD} {y : LfD} (h : y ∈ leavesD D) : y.1 ∈ ksD D ∧ y.2.1 < chN (D.at_ y.1) ∧ y = leafC y.1 (D.at_ y.1) y.2.1 := by
  obtain ⟨x, hx, h1⟩ := List.mem_flatMap.1 h
  obtain ⟨k, hk, rfl⟩ := List.mem_map.1 h1
  exact ⟨hx, List.mem_range.1 hk, rfl⟩
theorem dif_nil {D : BD} (x c : Nat) : Dif (leavesD D) [] (x, c) ↔ x ∈ ksD D ∧ c < chN (D.at_ x) := by
  unfold Dif
  rw [show findL [] (x, c) = none from rfl]
  unfold findL
  rw [ne_eq, List.find?_eq_none]
  constructor
  · intro h
    refine Classical.byContradiction fun hn => h fun y hy he => hn ?_
    have h2 := of_decide_eq_true he
    obtain ⟨h3, h4, -⟩ := leaf_key hy
    injection h2 with e1 e2
    rw [← e1, ← e2]
    exact ⟨h3, h4⟩
  · rintro ⟨h1, h2⟩ h
    exact h (leafC x (D.at_ x) c) (List.mem_flatMap.2 ⟨x, h1, List.mem_map.2 ⟨c, List.mem_range.2 h2, rfl⟩⟩) (decide_eq_true rfl)
theorem key_pos {D : BD} (h : OkD D) {x : Nat} (hx : x ∈ ksD D) : 1 ≤ chN (D.at_ x) := by
  obtain ⟨p, hp, rfl⟩ := ksD_mem.1 hx
  refine chN_pos (h.at_ p.1) ?_
  rw [at_of_mem h hp]
  exact h.some_ p hp
theorem apart_nil {D : BD} (h : OkD D) {L : List LfD} (hL : ApR (leavesD D) [] L) : L.length = D.M.length := by
  have h1 : L.map (fun v => (v.1, v.2.1)) = (ksD D).map (fun x => (x, 0)) := by
    refine asc_uniq (by rw [List.pairwise_map]; exact hL.asc) ?_ fun k => ?_
    · rw [List.pairwise_map]
      have hnd : (ksD D).Nodup := (ksD_perm D).symm.nodup h.nd
      exact ((ksD_rise D).and hnd).imp fun {a b} hab => by obtain ⟨q1, q2⟩ := hab; show a < b; omega
    · rw [apR_keys hL]
      obtain ⟨x, c⟩ := k
      constructor
      · rintro ⟨h1, h2⟩
        obtain ⟨h3, h4⟩ := (dif_nil x c).1 h1
        have h5 : c ≤ 0 := h2 0 ((dif_nil x 0).2 ⟨h3, key_pos h h3⟩)
        exact List.mem_map.2 ⟨x, h3, by rw [show c = 0 by omega]⟩
      · intro hk
        obtain ⟨y, hy, e⟩ := List.mem_map.1 hk
        injection e with e1 e2
        subst e1 e2
        exact ⟨(dif_nil _ _).2 ⟨hy, key_pos h hy⟩, fun c _ => Nat.zero_le _⟩
  have h2 := congrArg List.length h1
  rw [List.length_map, List.length_map, ksD_len] at h2
  exact h2
theorem leaves_ok {sz k : Nat} {D : BD} (h : LaI sz k D) (hk : k ≤ 1000) : ∀ x ∈ leavesD D, LfOk x := fun y hy => by
  obtain ⟨h1, h2, h3⟩ := leaf_key hy
  obtain ⟨x, c, n, s⟩ := y
  replace h1 : x ∈ ksD D := h1
  replace h2 : c < chN (D.at_ x) := h2
  obtain ⟨p, hp, rfl⟩ := ksD_mem.1 h1
  have h4 := h.ok.key p hp
  have h5 := chN_flat (h.ok.at_ p.1)
  have h6 := h.len p.1
  obtain ⟨L, hL, -⟩ := chN_get (h.ok.at_ p.1) h2
  have h7 : L.length ≤ (D.at_ p.1).flatten.length := (sub_flat (List.mem_of_getElem? hL)).length_le
  unfold leafC at h3
  rw [hL, Option.getD_some] at h3
  injection h3 with _ h3
  injection h3 with _ h3
  injection h3 with h3 h8
  replace h3 : n = L.length := h3
  replace h8 : s = moreR 0 (bitsL L) := h8
  have h9 : s < 2305843009213693951 := by rw [h8]; exact moreR_lt _ _
  exact ⟨h4, show c < 4294967296 by omega, show n < 4294967296 by omega, show s < 18446744073709551616 by omega⟩
theorem leaves_few {sz k : Nat} {D : BD} (h : LaI sz k D) (hk : k ≤ 60) : (leavesD D).length ≤ 3840 := by
  unfold leavesD
  rw [sumN_len]
  have h1 : sumN D (ksD D) ≤ 60 * (ksD D).length := sumN_le fun x _ => by
    have h5 := chN_flat (h.ok.at_ x)
    have h6 := h.len x
    omega
  rw [ksD_len] at h1
  have h2 := h.ok.few
  have h3 := h.ok.mo2
  omega
end Go.Proofs.YtiliineopplinaaDoor

/- Layer 26: walk of DigestSame. -/
set_option linter.unusedSimpArgs false
set_option linter.unusedVariables false
namespace Go.Proofs.YtiliineopplinaaDoor
open Go.RowKit
set_option maxRecDepth 100000

set_option maxHeartbeats 4000000 in
theorem digestSame_walk (size : Int) (V : Option Addr) (c : Nat) (l : List OB) (w : World) (hsz : in64 size) (hV : Rw w encOB 17 V l) (hok : ∀ o ∈ l, OkOB o) (hT : Tab w) :
    Calls Tryd.prog 5 #[.int .i64 size, .slice V l.length c] w fun e w' => e = .returned (.bool true) ∧ Below w.heap.size w w' := by
  have hmx : Tryd.prog.follows .mixedOrders = true := by kernel_rfl
  have HKn := Lib.hid (dgKnown_any w hT)
  have HV := Lib.hid (And.intro hsz (And.intro hV (And.intro hok hT)))
  obtain ⟨n, hn⟩ : ∃ n, n = l.length := ⟨_, rfl⟩
  have HN := Lib.hid hn
  rw [← hn]
  clear hsz hV hok hT hn
  go_enter Tryd.func5, Tryd.ntmps5
  by_cases h60 : n ≤ 60
  rotate_left
  · have h60b : (60 : Int) < (n : Int) := by omega
    have h60c : 60 < n := by omega
    go_wp2_with (go_at_call 6; refine HKn.out.mono ?_; rintro e w2 ⟨rfl, b2⟩)
    go_ret
    exact ⟨rfl, b2⟩
  have h60b : ¬ (60 : Int) < (n : Int) := by omega
  have h60c : ¬ 60 < n := by omega
  go_upto_region 3 with (go_at_call 6; refine HKn.out.mono ?_; rintro e w2 ⟨rfl, b2⟩)
  have HLy := Lib.hid (bLay_any (Sep.nil b2 b2.size) HV.out.2.2.2 (Nat.le_refl _) size HV.out.1 V c l HV.out.2.1 HV.out.2.2.1 (by rw [← HN.out]; exact h60))
  rw [← HN.out] at HLy
  clear b2 HKn
  go_upto_region 4 with (go_at_call 10; refine HLy.out.mono ?_; rintro e w3 ⟨q, T, A, cc, rfl, hTD, hB⟩)
  obtain ⟨D, hD⟩ : ∃ D, D = laD (laSz size) l := ⟨_, rfl⟩
  have hLa : LaI (laSz size) l.length D := by
    have h1 : 1 ≤ laSz size ∧ laSz size ≤ 24 := by unfold laSz; omega
    have := laD_ok h1.1 h1.2 l HV.out.2.2.1 l.length (Nat.le_refl _) (by rw [← HN.out]; omega)
    rw [List.take_length, ← hD] at this
    exact this
  rw [← HN.out] at hLa
  rw [← hD] at hTD hB
  rw [List.append_nil] at hB
  obtain ⟨tn, htn⟩ : ∃ n, n = T.length := ⟨_, rfl⟩
  rw [← htn] at hB ⊢
  have hMl : D.M.length = tn := by
    have h3 := congrArg List.length hTD
    rw [List.length_map, allD_len] at h3
    rw [htn, h3]
  have htn64 : tn ≤ 64 := by
    have h1 := hLa.ok.few
    have h2 := hLa.ok.mo2
    omega
  obtain ⟨ids, hids⟩ : ∃ x, x = T.map fun y => y.id := ⟨_, rfl⟩
  have hids2 : ids = D.M.map Prod.fst := by
    have h1 : (T.map seD).map Prod.fst = (allD D).map Prod.fst := by rw [hTD]
    unfold allD at h1
    rw [List.map_map, List.map_map] at h1
    rw [hids]
    exact h1
  obtain ⟨LD, hLD⟩ : ∃ L, L = leavesD D := ⟨_, rfl⟩
  obtain ⟨ln, hln⟩ : ∃ k, k = LD.length := ⟨_, rfl⟩
  have hsum : sumN D ids = ln := by
    rw [hids2, ← sumN_perm D (ksD_perm D), ← sumN_len, hln, hLD]
    rfl
  have hln4 : ln ≤ 3840 := by rw [hln, hLD]; exact leaves_few hLa h60
  have hokL : ∀ x ∈ LD, LfOk x := by rw [hLD]; exact leaves_ok hLa (by omega)
  have hLv := leaves_any hB
  rw [← hLD, ← hln] at hLv
  have HLv := Lib.hid hLv
  have HB := Lib.hid hB
  have HL := Lib.hid (And.intro hLa (And.intro hTD (And.intro htn (And.intro hMl (And.intro hids hsum)))))
  have HLD := Lib.hid (And.intro hLD (And.intro hln hokL))
  clear hD hLa hTD htn hMl hids hids2 hLD hln hsum hokL hLv hB HLy
  go_wp2_with (go_at_call 11; refine HLv.out.mono ?_; rintro e w4 ⟨U4, c4, rfl, hS4⟩)
  have HB4 := Lib.hid (HB.out.consL hS4)
  clear HB HLv hS4
  go_loopw [8, 9] (fun s8 s9 wr => ∃ i m : Nat, s9 = .int .i64 (i : Nat) ∧ i ≤ tn ∧ s8 = .int .i64 (m : Nat) ∧ m ≤ 60 * i ∧ Hid (m = sumN D (ids.take i) ∧ Below w4.heap.size w4 wr))
    (fun _ s9 _ => tn - (intOf s9).toNat)
  case atStart => exact ⟨0, 0, by go_num, Nat.zero_le _, by go_num, Nat.zero_le _, Lib.hid ⟨rfl, Below.refl _ _⟩⟩
  case round =>
    obtain ⟨i, m, rfl, hi, rfl, hm, HI⟩ := hrel
    obtain ⟨wi, hwi⟩ : ∃ wi, wi = wr := ⟨_, rfl⟩
    rw [← hwi] at HI ⊢
    clear hwi
    have HBi := Lib.hid (HB4.out.go HI.out.2)
    by_cases hit : i < tn
    · obtain ⟨y0, hy0⟩ : ∃ y, T[i]? = some y := ⟨_, List.getElem?_eq_getElem (by rw [← HL.out.2.2.1]; exact hit)⟩
      obtain ⟨gr, hgr, -, hcy⟩ := row_at Tryd.eltSe (HBi.out.sep.at_ (t := thR 44 encSe 2 (.slice A tn cc) T) 1 rfl) hy0
      subst hgr
      have hk := la_key HL.out.1 HL.out.2.1 hy0
      obtain ⟨id, hid⟩ : ∃ x, x = y0.id := ⟨_, rfl⟩
      have C1 : wi.cell? ⟨gr, i * 2, none⟩ = some (.int .u32 (id : Nat)) := by rw [hid]; exact hcy 0 _ rfl
      rw [← hid] at hk
      have hid64 : id < 64 := hk.1
      have hCh := bk_chunksS HBi.out id (by omega)
      have hch60 : chN (D.at_ id) ≤ 60 := by
        have h1 := chN_flat (HL.out.1.ok.at_ id)
        have h2 := HL.out.1.len id
        omega
      have hgid : ids[i]? = some id := by rw [HL.out.2.2.2.2.1, List.getElem?_map, hy0, hid]; rfl
      have hsu := sumN_succ (D := D) hgid
      obtain ⟨C, hC⟩ : ∃ C, C = D.at_ id := ⟨_, rfl⟩
      rw [← hC] at hCh hch60 hsu
      have HCh := Lib.hid hCh
      have HSu := Lib.hid (And.intro hsu hch60)
      have hit2 : (i : Int) < (tn : Int) := by omega
      clear hy0 hcy hk hid hCh hch60 hgid hsu hC
      go_upto_region 10 with (go_at_call 12; refine HCh.out.mono ?_; rintro e wc ⟨Uc, nc, Tc, rfl, hSc, hTl, -⟩; obtain ⟨tl, htl⟩ : ∃ n, n = Tc.length := ⟨_, rfl⟩; rw [← htl] at hSc hTl ⊢; have htl60 : tl ≤ 60 := (by rw [hTl]; exact HSu.out.2); have HTl := Lib.hid (And.intro hTl hSc.b); clear htl hTl hSc)
      go_wp2_with fail
      go_roundw
      case measure => simp [intOf]; omega
      case rel => exact ⟨i + 1, m + tl, by go_num, by omega, by go_num, by omega, Lib.hid ⟨by rw [HSu.out.1, ← HTl.out.1, ← HI.out.1], HI.out.2.trans (HTl.out.2.mono HI.out.2.size)⟩⟩
    · have hie : i = tn := by omega
      have hit2 : ¬ (i : Int) < (tn : Int) := by omega
      have hme : m = ln := by
        rw [HI.out.1, List.take_of_length_le (by rw [HL.out.2.2.2.2.1, List.length_map, ← HL.out.2.2.1]; omega)]
        exact HL.out.2.2.2.2.2
      subst hme
      have rows : ∀ W, Below w4.heap.size w4 W → Rw W encLf 4 U4 LD := fun W hW => by
        obtain ⟨A9, c9, e9, -, hR⟩ := OwnR.row Tryd.eltLf ((HB4.out.go hW).sep.at_ (t := thR 26 encLf 4 (.slice U4 m c4) LD) 0 rfl)
        injection e9 with e1 _ _
        rw [e1]
        exact hR
      have hC1 : ∀ W, Below w4.heap.size w4 W → Calls Tryd.prog 9 #[.slice U4 m c4, .slice U4 m c4] W fun e w' => (∃ U cx, e = .returned (.slice U 0 cx)) ∧ Below W.heap.size W w' := fun W hW => by
        have h3 := apart_any U4 c4 LD U4 c4 LD W (rows W hW) (rows W hW) HLD.out.2.2 HLD.out.2.2 (by rw [← HLD.out.2.1]; omega) (by rw [← HLD.out.2.1]; omega)
        rw [← HLD.out.2.1] at h3
        refine h3.mono ?_
        rintro e w' ⟨U, cx, L, rfl, hS, hA⟩
        rw [apR_self hA]
        exact ⟨⟨U, cx, rfl⟩, hS.b⟩
      have hC2 : ∀ W, Below w4.heap.size w4 W → Calls Tryd.prog 13 #[ptB q, .slice U4 m c4] W fun e w' => (∃ U cx, e = .returned (.slice U 0 cx)) ∧ Below W.heap.size W w' := fun W hW => by
        have h3 := lacks_any (HB4.out.go hW) U4 c4 LD (rows W hW) HLD.out.2.2 (by rw [← HLD.out.2.1]; omega)
        rw [← HLD.out.2.1] at h3
        refine h3.mono ?_
        rintro e w' ⟨U, cx, L, rfl, hS, hA⟩
        rw [HLD.out.1, lack_self] at hA
        rw [List.map_eq_nil_iff.1 hA]
        exact ⟨⟨U, cx, rfl⟩, hS.b⟩
      have hC3 : ∀ W, Below w4.heap.size w4 W → Calls Tryd.prog 13 #[ptB q, .slice none 0 0] W fun e w' => (∃ U cx, e = .returned (.slice U m cx)) ∧ Below W.heap.size W w' := fun W hW => by
        have h3 := lacks_any (HB4.out.go hW) none 0 [] (Rw.nil _ _ _ _) (fun x h => by cases h) (by simp)
        refine h3.mono ?_
        rintro e w' ⟨U, cx, L, rfl, hS, hA⟩
        have h4 := congrArg List.length hA
        rw [List.length_map, lack_nil, ← sumN_len] at h4
        have h5 : L.length = m := by rw [h4, HLD.out.2.1, HLD.out.1]; rfl
        rw [h5]
        exact ⟨⟨U, cx, rfl⟩, hS.b⟩
      have hC4 : ∀ W, Below w4.heap.size w4 W → Calls Tryd.prog 9 #[.slice U4 m c4, .slice none 0 0] W fun e w' => (∃ U cx, e = .returned (.slice U tn cx)) ∧ Below W.heap.size W w' := fun W hW => by
        have h3 := apart_any U4 c4 LD none 0 [] W (rows W hW) (Rw.nil _ _ _ _) HLD.out.2.2 (fun x h => by cases h) (by rw [← HLD.out.2.1]; omega) (by simp)
        rw [← HLD.out.2.1] at h3
        refine h3.mono ?_
        rintro e w' ⟨U, cx, L, rfl, hS, hA⟩
        rw [HLD.out.1] at hA
        rw [apart_nil HL.out.1.ok hA, HL.out.2.2.2.1]
        exact ⟨⟨U, cx, rfl⟩, hS.b⟩
      have HC := Lib.hid (And.intro hC1 (And.intro hC2 (And.intro hC3 hC4)))
      clear hC1 hC2 hC3 hC4 rows hie hi hm HBi
      go_wp2_with ((first | (go_at_call 9; first | (refine (HC.out.2.2.2 w7 HW7.out).mono ?_; rintro e w8 ⟨⟨U8, c8, rfl⟩, b8⟩; have HW8 := Lib.hid (HW7.out.trans (b8.mono HW7.out.size)); clear b8) | (refine (HC.out.1 wi HI.out.2).mono ?_; rintro e w5 ⟨⟨U5, c5, rfl⟩, b5⟩; have HW5 := Lib.hid (HI.out.2.trans (b5.mono HI.out.2.size)); clear b5)) | (go_at_call 13; first | (refine (HC.out.2.2.1 w6 HW6.out).mono ?_; rintro e w7 ⟨⟨U7, c7, rfl⟩, b7⟩; have HW7 := Lib.hid (HW6.out.trans (b7.mono HW6.out.size)); clear b7) | (refine (HC.out.2.1 w5 HW5.out).mono ?_; rintro e w6 ⟨⟨U6, c6, rfl⟩, b6⟩; have HW6 := Lib.hid (HW5.out.trans (b6.mono HW5.out.size)); clear b6))))
      go_ret
      exact ⟨rfl, (HB4.out.go HW8.out).sep.b⟩
end Go.Proofs.YtiliineopplinaaDoor
