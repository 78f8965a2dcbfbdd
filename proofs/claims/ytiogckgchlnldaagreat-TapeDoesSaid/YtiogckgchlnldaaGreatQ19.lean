/- Joined: FrameQ, FrameW, Fs27, Fs29, Fs30, Fs31, Fs33, Fs32. -/
import Derived.Test.YtiogckgchlnldaaGreatQ9
import Derived.Test.YtiogckgchlnldaaGreatQ12
import Derived.Test.YtiogckgchlnldaaGreatQ16
import Derived.Test.YtiogckgchlnldaaGreatQ14
import Derived.Test.YtiogckgchlnldaaGreatQ13
import Derived.Test.YtiogckgchlnldaaGreatQ7
import Derived.Test.YtiogckgchlnldaaGreatQ1
import Derived.BigQuiet
set_option linter.unusedSimpArgs false
set_option linter.unusedVariables false
/- Arguments of layer 8's statements: a loss by value, lists of bytes, calls. -/
set_option linter.unusedSimpArgs false
set_option linter.unusedVariables false
namespace Go.Proofs.YtiogckgchlnldaaGreat
open Go.Joins Go.ChangeShapes Go.WideShapes Go.RowKit Go.Deep
set_option maxRecDepth 100000

section
variable {H : Type} {ench : TypeId × Value → H} {W : World} {P : Program}
/-- a slice of elements of sz cells each, as one cell reads -/
theorem open_rowsC {α : Type} {enc : α → List Value} {sz : Nat} {ok : α → Prop} {t e : TypeId} {v : Value} {fuel : Nat} {x : DataW H × List MemPlace} (ht : P.underlying t = some (.slice e)) (hsz : P.cellsOf e = sz) (hpos : 0 < sz) (henc : ∀ x, (enc x).length = sz)
    (hd : ∀ (fuel : Nat) (cs : List Value) (x : DataW H × List MemPlace), cs.length = sz → DataW.trod ench P W 0 (fun _ => true) true fuel e cs = some x → ∃ y, cs = enc y ∧ ok y)
    (h : DataW.trod ench P W 0 (fun _ => true) true fuel t [v] = some x) :
    ∃ (V : Option Addr) (c : Nat) (l : List α), v = .slice V l.length c ∧ Rw W enc sz V l ∧ l.length ≤ c ∧ l.length ≤ maxLen ∧ ∀ x ∈ l, ok x := by
  rcases open_slice ht h with ⟨hcs, _⟩ | ⟨a, len0, cap0, m, n, D, Pl, hcs, _, hl, hm, hmm, _, hi⟩
  · simp at hcs
    subst hcs
    exact ⟨none, 0, [], rfl, Rw.nil _ _ _ _, Nat.le_refl _, Nat.zero_le _, fun e h => by simp at h⟩
  · simp at hcs
    subst hcs
    have hlm : len0 ≤ m := by rw [hmm]; split <;> omega
    obtain ⟨E, hE, hp⟩ := list_ofR (fun i (y : α) => (∃ p o, some a = some ⟨p, o, none⟩ ∧ ∀ j v, (enc y)[j]? = some v → W.cell? ⟨p, o + i * sz + j, none⟩ = some v) ∧ ok y) len0 (fun i hil => by
      obtain ⟨cs', h1, h2⟩ := hi i (by omega)
      obtain ⟨cs0, h01, _⟩ := hi 0 (by omega)
      rw [hsz] at h1 h01
      obtain ⟨_, hlen, hcell⟩ := World.cells?_some h1
      obtain ⟨_, hlen0, hcell0⟩ := World.cells?_some h01
      obtain ⟨y, rfl, hy⟩ := hd _ cs' _ hlen h2
      have hc0 := hcell0 0 hpos
      rw [add_add, Nat.zero_mul] at hc0
      obtain ⟨p, o, rfl⟩ := spotR (show W.cell? a = some _ by rw [List.getElem?_eq_getElem (by omega)] at hc0; simpa [Addr.add] using hc0)
      refine ⟨y, ⟨p, o, rfl, fun j v hj => ?_⟩, hy⟩
      have hjl : j < sz := by
        rcases Nat.lt_or_ge j sz with h3 | h3
        · exact h3
        · rw [List.getElem?_eq_none (by rw [henc]; exact h3)] at hj; cases hj
      have := hcell j hjl
      rw [add_add, addR, hj, ← Nat.add_assoc] at this
      exact this)
    refine ⟨some a, cap0, E, by rw [hE], fun i y hy => ?_, by omega, by omega, fun y hy => ?_⟩
    · exact (hp i y hy).1
    · obtain ⟨j, hj, rfl⟩ := List.getElem_of_mem hy
      exact (hp j _ (List.getElem?_eq_getElem hj)).2
end

/-- where a list of bytes lies -/
structure Bx where
  A : Option Addr
  c : Nat
  b : List UInt8
def encBx (x : Bx) : List Value := [.slice x.A x.b.length x.c]
/-- a call: kind, names, bytes, number, what a crash keeps -/
structure Op8 where
  kd : Nat
  nm : Nm
  ot : Nm
  A : Option Addr
  c : Nat
  b : List UInt8
  n : Int
  KA : Option Addr
  kc : Nat
  kp : List Bool
  to_ : Int
def encOp8 (o : Op8) : List Value := [.int .u8 (o.kd : Nat), .string ⟨o.nm.toArray⟩, .string ⟨o.ot.toArray⟩, .slice o.A o.b.length o.c, .int .i64 o.n, .slice o.KA o.kp.length o.kc, .int .i64 o.to_]
def i64P (n : Int) : Prop := -9223372036854775808 ≤ n ∧ n ≤ 9223372036854775807
def Op8.ok (w : World) (o : Op8) : Prop := o.kd < 256 ∧ o.nm.length ≤ maxLen ∧ o.ot.length ≤ maxLen ∧ Bs w o.A o.b ∧ o.b.length ≤ maxLen ∧ i64P o.n ∧ Bo w o.KA o.kp ∧ o.kp.length ≤ maxLen ∧ i64P o.to_
section
variable {H : Type} {ench : TypeId × Value → H} {W : World}
theorem Tryz.qCellsU8 : Tryz.prog.cellsOf 5 = 1 := by kernel_rfl
theorem Tryz.qCellsB : Tryz.prog.cellsOf 4 = 1 := by kernel_rfl
theorem Tryz.qCellsI : Tryz.prog.cellsOf 3 = 1 := by kernel_rfl
theorem Tryz.qCellsS : Tryz.prog.cellsOf 9 = 1 := by kernel_rfl
theorem Tryz.qCellsL : Tryz.prog.cellsOf 22 = 1 := by kernel_rfl
theorem Tryz.qCellsK : Tryz.prog.cellsOf 43 = 1 := by kernel_rfl
theorem Tryz.qCellsLoss : Tryz.prog.cellsOf 45 = 2 := by kernel_rfl
theorem qtrod_u8 {base n : Nat} {spare : Nat → Bool} {held : Bool} {c : Value} {y : DataW H × List MemPlace} (h : DataW.trod ench Tryz.prog W base spare held n 5 [c] = some y) : ∃ x : Nat, c = .int .u8 x ∧ x < 256 := by
  obtain ⟨x, e, _, wx⟩ := DataW.trod_int Tryz.underlying5 h
  have hb := bounds_u8 wx
  simp at e
  exact ⟨x.toNat, by rw [e, Int.toNat_of_nonneg hb.1], by omega⟩
theorem qtrod_int {base n : Nat} {spare : Nat → Bool} {held : Bool} {c : Value} {y : DataW H × List MemPlace} (h : DataW.trod ench Tryz.prog W base spare held n 3 [c] = some y) : ∃ x : Int, c = .int .i64 x ∧ i64P x := by
  obtain ⟨x, e, _, wx⟩ := DataW.trod_int Tryz.underlying3 h
  simp at e
  exact ⟨x, e, bounds_i64 wx⟩
theorem qtrod_str {base n : Nat} {spare : Nat → Bool} {held : Bool} {c : Value} {y : DataW H × List MemPlace} (h : DataW.trod ench Tryz.prog W base spare held n 9 [c] = some y) : ∃ x : Nm, c = .string ⟨x.toArray⟩ ∧ x.length ≤ maxLen := by
  obtain ⟨x, e, _, hx⟩ := DataW.trod_string Tryz.underlying9 h
  simp at e
  exact ⟨x.data.toList, by rw [e], hx⟩
theorem qtrod_bools {n : Nat} {c : Value} {y : DataW H × List MemPlace} (h : DataW.trod ench Tryz.prog W 0 (fun _ => true) true n 43 [c] = some y) : ∃ (A : Option Addr) (k : Nat) (l : List Bool), c = .slice A l.length k ∧ Bo W A l ∧ l.length ≤ maxLen := by
  obtain ⟨V, k, l, h1, h2, _, h3, _⟩ := open_rowsC (enc := fun b => [Value.bool b]) (sz := 1) (ok := fun _ => True) Tryz.underlying43 Tryz.qCellsB (by decide) (fun _ => rfl) (fun fuel cs x hl ht => by
    match cs, hl with
    | [c0], _ =>
      obtain ⟨b, e, _⟩ := DataW.trod_bool Tryz.underlying4 ht
      exact ⟨b, by simpa using e, trivial⟩) h
  refine ⟨V, k, l, h1, fun i x hi => ?_, h3⟩
  obtain ⟨p, o, hA, hc⟩ := h2 i x hi
  exact ⟨p, o, hA, by simpa using hc 0 _ rfl⟩
theorem qtrod_loss {n : Nat} {c d : Value} {y : DataW H × List MemPlace} (h : DataW.trod ench Tryz.prog W 0 (fun _ => true) true n 45 [c, d] = some y) :
    ∃ (A : Option Addr) (k : Nat) (l : List Bool) (m : Int), c = .slice A l.length k ∧ d = .int .i64 m ∧ Bo W A l ∧ l.length ≤ maxLen ∧ i64P m := by
  obtain ⟨xs, m, _, _, _, hlen, hg⟩ := DataW.trod_struct Tryz.underlying45 h
  obtain ⟨y0, h0⟩ := trodR hlen hg 0 rfl Tryz.qCellsK
  obtain ⟨y1, h1⟩ := trodR hlen hg 1 rfl Tryz.qCellsI
  obtain ⟨A, k, l, rfl, hb, hl⟩ := qtrod_bools h0
  obtain ⟨m, rfl, hm⟩ := qtrod_int h1
  exact ⟨A, k, l, m, rfl, rfl, hb, hl, hm⟩
/-- api.Loss by value -/
theorem open_lossArg {b0 : Nat} {v : Value} {d : DataW H} {p : List MemPlace} (hv : Value.okWide Tryz.prog W .any b0 45 v) (h : DataW.Trod ench Tryz.prog W 0 (fun _ => true) true 45 v d p) :
    ∃ (A : Option Addr) (c : Nat) (l : List Bool) (m : Int), v = .agg #[.slice A l.length c, .int .i64 m] ∧ Bo W A l ∧ l.length ≤ maxLen ∧ i64P m := by
  obtain ⟨cs, rfl, hsz⟩ := okWide_struct Tryz.underlying45 hv
  obtain ⟨l⟩ := cs
  match l, hsz.trans Tryz.qCellsLoss with
  | [c0, c1], _ =>
    obtain ⟨fuel, hf⟩ := h
    obtain ⟨A, k, l, m, rfl, rfl, hb, hl, hm⟩ := qtrod_loss (show DataW.trod ench Tryz.prog W 0 (fun _ => true) true fuel 45 [c0, c1] = _ from hf)
    exact ⟨A, k, l, m, rfl, hb, hl, hm⟩
/-- a slice of bytes' slices -/
theorem open_bytesM {b0 : Nat} {v : Value} {d : DataW H} {p : List MemPlace} (hv : Value.okWide Tryz.prog W .any b0 42 v) (h : DataW.Trod ench Tryz.prog W 0 (fun _ => true) true 42 v d p) :
    ∃ (V : Option Addr) (c : Nat) (l : List Bx), v = .slice V l.length c ∧ Rw W encBx 1 V l ∧ l.length ≤ c ∧ l.length ≤ maxLen ∧ ∀ x ∈ l, Bs W x.A x.b ∧ x.b.length ≤ maxLen :=
  open_rows (enc := encBx) (sz := 1) (ok := fun x => Bs W x.A x.b ∧ x.b.length ≤ maxLen) Tryz.underlying42 Tryz.qCellsL (by decide) (fun _ => rfl) (fun fuel cs x hl ht => by
    match cs, hl with
    | [c0], _ =>
      obtain ⟨A, c, b, rfl, k2, k3⟩ := open_bytes (b0 := 0) ht
      exact ⟨⟨A, c, b⟩, rfl, k3, k2⟩) hv h
end

end Go.Proofs.YtiogckgchlnldaaGreat

/- A string as an argument. -/
set_option linter.unusedSimpArgs false
set_option linter.unusedVariables false
namespace Go.Proofs.YtiogckgchlnldaaGreat
open Go.Joins Go.ChangeShapes Go.WideShapes Go.RowKit Go.Deep
set_option maxRecDepth 100000
theorem open_strT {H : Type} {ench : TypeId × Value → H} {W : World} {b0 : Nat} {v : Value} {d : DataW H} {p : List MemPlace} (hv : Value.okWide Tryz.prog W .any b0 9 v) (h : DataW.Trod ench Tryz.prog W 0 (fun _ => true) true 9 v d p) :
    ∃ x : Nm, v = .string ⟨x.toArray⟩ ∧ x.length ≤ maxLen := by
  obtain ⟨s, rfl⟩ := okWide_string Tryz.underlying9 hv
  obtain ⟨n, h⟩ := h
  exact qtrod_str h
end Go.Proofs.YtiogckgchlnldaaGreat

/- Layer 8: a call of the statements, as data: what is refused changes nothing; never more bytes than room. -/
set_option linter.unusedSimpArgs false
set_option linter.unusedVariables false
namespace Go.Proofs.YtiogckgchlnldaaGreat
set_option maxRecDepth 100000

/-- what a call does and answers -/
def playD (room : Int) (d : Fd) (o : Op8) : Nat × Fd :=
  if o.kd % 14 = 0 then createD d o.nm
  else if o.kd % 14 = 6 ∨ o.kd % 14 = 7 then syncD d o.nm
  else if o.kd % 14 = 8 then cutD d o.nm o.n
  else if o.kd % 14 = 9 then renameD d o.nm o.ot
  else if o.kd % 14 = 10 then removeD d o.nm
  else appendD room d o.nm o.b
theorem playD_cases {P : Nat × Fd → Prop} (room : Int) (d : Fd) (o : Op8) (h0 : P (createD d o.nm)) (h1 : P (syncD d o.nm)) (h2 : P (cutD d o.nm o.n)) (h3 : P (renameD d o.nm o.ot)) (h4 : P (removeD d o.nm)) (h5 : P (appendD room d o.nm o.b)) : P (playD room d o) := by
  unfold playD
  split
  · exact h0
  · split
    · exact h1
    · split
      · exact h2
      · split
        · exact h3
        · split
          · exact h4
          · exact h5
theorem create_err {d : Fd} {n : Nm} (h : (createD d n).1 ≠ 0) : (createD d n).2 = d := by
  unfold createD at h ⊢
  split
  · rfl
  · rename_i h1
    rw [if_neg h1] at h
    split
    · rfl
    · rename_i h2
      rw [if_neg h2] at h
      split
      · rfl
      · rename_i h3
        rw [if_neg h3] at h
        exact absurd rfl h
theorem sync_err {d : Fd} {n : Nm} (h : (syncD d n).1 ≠ 0) : (syncD d n).2 = d := by
  unfold syncD at h ⊢
  split
  · rfl
  · rename_i b h1
    rw [h1] at h
    exact absurd rfl h
theorem cut_err {d : Fd} {n : Nm} {k : Int} (h : (cutD d n k).1 ≠ 0) : (cutD d n k).2 = d := by
  unfold cutD at h ⊢
  split
  · rfl
  · rename_i b h1
    rw [h1] at h
    dsimp only at h ⊢
    split
    · rfl
    · rename_i h2
      rw [if_neg h2] at h
      exact absurd rfl h
theorem rename_err {d : Fd} {n m : Nm} (h : (renameD d n m).1 ≠ 0) : (renameD d n m).2 = d := by
  unfold renameD at h ⊢
  split
  · rfl
  · rename_i b h1
    rw [h1] at h
    dsimp only at h ⊢
    split
    · rfl
    · rename_i h2
      rw [if_neg h2] at h
      split
      · rfl
      · rename_i h3
        rw [if_neg h3] at h
        exact absurd rfl h
theorem remove_err {d : Fd} {n : Nm} (h : (removeD d n).1 ≠ 0) : (removeD d n).2 = d := by
  unfold removeD at h ⊢
  split
  · rfl
  · rename_i h1
    rw [if_neg h1] at h
    exact absurd rfl h
theorem append_err {room : Int} {d : Fd} {n : Nm} {b : List UInt8} (h : (appendD room d n b).1 ≠ 0) : (appendD room d n b).2 = d := by
  unfold appendD at h ⊢
  split
  · rfl
  · rename_i h1
    rw [if_neg h1] at h
    split
    · rfl
    · rename_i h2
      rw [if_neg h2] at h
      split
      · rfl
      · rename_i h3
        rw [if_neg h3] at h
        exact absurd rfl h
theorem play_err {room : Int} {d : Fd} {o : Op8} : (playD room d o).1 ≠ 0 → (playD room d o).2 = d :=
  playD_cases (P := fun x => x.1 ≠ 0 → x.2 = d) room d o create_err sync_err cut_err rename_err remove_err append_err
theorem lp1 {d d' : Fd} (h : Lp 0 d d') : Lp 1 d d' := ⟨h.1, Nat.le_succ_of_le h.2⟩
theorem lp_play (room : Int) (d : Fd) (o : Op8) : Lp 1 d (playD room d o).2 :=
  playD_cases (P := fun x => Lp 1 d x.2) room d o (lp1 (lp_create _ _)) (lp1 (lp_sync _ _)) (lp1 (lp_cut _ _ _)) (lp1 (lp_rename _ _ _)) (lp1 (lp_remove _ _)) (lp_append _ _ _ _)
theorem append_room {room : Int} {d : Fd} {n : Nm} {b : List UInt8} {T : List Ft} (h : Fi d T) (hu : usedD d + b.length ≤ 200000) (hl : d.P.length < 1000000) (hr : (usedD d : Int) ≤ room) : (usedD (appendD room d n b).2 : Int) ≤ room := by
  by_cases hc : room < (usedD d : Int) + b.length
  · unfold appendD
    split
    · exact hr
    · exact hr
  · have := used_append h room n b hu hl
    omega
theorem play_room {room : Int} {d : Fd} {o : Op8} {T : List Ft} (h : Fi d T) (hu : usedD d + o.b.length ≤ 200000) (hl : d.P.length < 1000000) (hr : (usedD d : Int) ≤ room) : (usedD (playD room d o).2 : Int) ≤ room := by
  have a : ∀ {x : Nat}, x ≤ usedD d → (x : Int) ≤ room := fun hx => by omega
  exact playD_cases (P := fun x => (usedD x.2 : Int) ≤ room) room d o (a (used_create h _)) (a (used_sync h _)) (a (used_cut h _ _)) (a (used_rename h _ _)) (a (used_remove h _)) (append_room h hu hl hr)
theorem play_used {room : Int} {d : Fd} {o : Op8} {T : List Ft} (h : Fi d T) (hu : usedD d + o.b.length ≤ 200000) (hl : d.P.length < 1000000) : usedD (playD room d o).2 ≤ usedD d + o.b.length := by
  have a : ∀ {x : Nat}, x ≤ usedD d → x ≤ usedD d + o.b.length := fun hx => by omega
  exact playD_cases (P := fun x => usedD x.2 ≤ usedD d + o.b.length) room d o (a (used_create h _)) (a (used_sync h _)) (a (used_cut h _ _)) (a (used_rename h _ _)) (a (used_remove h _)) (used_append h room o.nm o.b hu hl)

end Go.Proofs.YtiogckgchlnldaaGreat

/- Layer 8: a call of the statements (plays). -/
set_option linter.unusedSimpArgs false
set_option linter.unusedVariables false
namespace Go.Proofs.YtiogckgchlnldaaGreat
open Go.RowKit
set_option maxRecDepth 100000

theorem append_any {B q room : Nat} {w0 w : World} {ts : List Kt} {d : Fd} (n : Nm) (hn : n.length ≤ maxLen) (A : Option Addr) (c : Nat) (b : List UInt8) (h : FsI B w0 w q room ts d) (hb6 : b.length ≤ 1000000) (hr : room ≤ 1048576) (hA : ∀ W d', FsI B w0 W q room ts d' → Bs W A b) (hl : d.lf ≤ 1000000) (hu : usedD d + b.length ≤ 200000) (hpl : d.P.length < 1000000) :
    Calls Tryz.prog 9 #[.pointer (some ⟨q, 0, none⟩), .string ⟨n.toArray⟩, .slice A b.length c] w fun e w' => e = .returned (.int .u16 ((appendD room d n b).1 : Nat)) ∧ FsI B w0 w' q room ts (appendD room d n b).2 := by
  cases hat : atF d.F n with
  | none =>
    rw [show appendD room d n b = (80, d) by unfold appendD; rw [if_pos (by rw [hat]; rfl)]]
    refine (append_none n hn A c b h hat).mono ?_
    rintro e w1 ⟨rfl, rfl⟩
    exact ⟨rfl, h⟩
  | some x => exact append_rest n hn A c b h hat hb6 hr hA hl hu hpl

end Go.Proofs.YtiogckgchlnldaaGreat

/- Layer 8: known. -/
set_option linter.unusedSimpArgs false
set_option linter.unusedVariables false
namespace Go.Proofs.YtiogckgchlnldaaGreat
open Go.RowKit
set_option maxRecDepth 100000

def nA : Nm := [97]
def kd1 : Fd := ⟨[(nA, [])], [], false, 0, false⟩
def kd2 : Fd := ⟨[(nA, [])], [(nA, [1, 2])], false, 0, false⟩
def kd3 : Fd := ⟨[(nA, [1, 2])], [], false, 0, false⟩
def kd4 : Fd := ⟨[(nA, [1, 2])], [(nA, [3])], false, 0, false⟩
def kd5 : Fd := ⟨[(nA, [1, 2])], [(nA, [3]), (nA, [4, 5])], false, 0, false⟩
def kd6 : Fd := ⟨[(nA, [1, 2, 0, 4])], [], false, 0, false⟩
theorem k_1 : createD fd0 nA = (0, kd1) := by kernel_rfl
theorem k_2 : appendD (100 : Nat) kd1 nA [1, 2] = (0, kd2) := by kernel_rfl
theorem k_3 : syncD kd2 nA = (0, kd3) := by kernel_rfl
theorem k_4 : appendD (100 : Nat) kd3 nA [3] = (0, kd4) := by kernel_rfl
theorem k_5 : appendD (100 : Nat) kd4 nA [4, 5] = (0, kd5) := by kernel_rfl
theorem k_6 : crashD kd5 (kpt [false, true]) 1 = kd6 := by kernel_rfl
theorem k_7 : rdD kd6 nA = some [1, 2, 0, 4] := by kernel_rfl
theorem k_8 : usedD kd6 = 4 := by kernel_rfl
theorem bo_blk {w : World} {g : Nat} {kp : List Bool} (h : Blk w g 4 (kp.map Value.bool).toArray) : Bo w (some ⟨g, 0, none⟩) kp := fun i x hi => ⟨g, 0, rfl, by
  have := h.cell i
  rw [Nat.zero_add, this]
  simp [hi]⟩

end Go.Proofs.YtiogckgchlnldaaGreat

/- Layer 8: a thing beside a file system turns; a row's front as a slice; bytes that are cut. -/
set_option linter.unusedSimpArgs false
set_option linter.unusedVariables false
namespace Go.Proofs.YtiogckgchlnldaaGreat
open Go.RowKit
set_option maxRecDepth 100000

section
variable {B q room : Nat} {w0 w w' : World} {ts us : List Kt} {t t' : Kt} {d : Fd}
/-- a call turns a thing beside the file system -/
theorem FsI.turn (h : FsI B w0 w q room ts d) (i : Nat) (e : ts[i]? = some t) (hT : Tou t.F w w') (hP : t'.P w') (hN : ∀ k, t'.F k → t.F k ∨ w.heap.size ≤ k) : FsI B w0 w' q room (ts.set i t') d := by
  obtain ⟨bm, VW, T, hs, hi⟩ := h
  have e2 : (thB q 67 (fsc room bm VW d) :: thM bm (nmG T) :: thP VW (pcL T d.P) :: (T.map thF ++ ts))[i + (T.map thF).length + 3]? = some t := by
    rw [List.getElem?_cons_succ, List.getElem?_cons_succ, List.getElem?_cons_succ, List.getElem?_append_right (by omega), Nat.add_sub_cancel]
    exact e
  have h2 := hs.call _ e2 hT hP hN
  refine ⟨bm, VW, T, ?_, hi⟩
  rw [List.set_cons_succ, List.set_cons_succ, List.set_cons_succ, List.set_append_right _ _ (by omega), Nat.add_sub_cancel] at h2
  exact h2
theorem FsI.keepK (h : FsI B w0 w q room ts d) (hB : w0.heap.size ≤ B) {A : Option Addr} {l : List Bool} (b : Bo w0 A l) : Bo w A l := fun i x hi => by
  obtain ⟨p, o, hA, hc⟩ := b i x hi
  exact ⟨p, o, hA, h.old hB hc⟩
end
theorem sep_keepK {B : Nat} {w0 w : World} {ts : List Kt} (h : Sep B w0 w ts) (hB : w0.heap.size ≤ B) {A : Option Addr} {l : List Bool} (b : Bo w0 A l) : Bo w A l := fun i x hi => by
  obtain ⟨p, o, hA, hc⟩ := b i x hi
  exact ⟨p, o, hA, h.old hB hc⟩
/-- bytes of the call's own grow: a thing beside -/
theorem thO_grown {w w' : World} {v v' : Value} {l' : List UInt8} (ho : OwnB w' 0 v' l') (hg : w.grownBy w' v.ownBlock) (hl : ∀ j, v'.ownBlock = some j → v.ownBlock = some j ∨ w.heap.size ≤ j) {l : List UInt8} :
    Tou (thO v l).F w w' ∧ (thO v' l').P w' ∧ ∀ k, (thO v' l').F k → (thO v l).F k ∨ w.heap.size ≤ k :=
  ⟨Tou.of_grown hg (fun k e => e), ho, hl⟩
theorem run_front (A : Option Addr) (n c k : Nat) (hk : k ≤ c) (hA : ∀ a, A = some a → ∃ p o, a = ⟨p, o, none⟩) (h0 : A = none → c = 0) (w : World) : (Instr.sliceAt 22 (.slice A n c) none (some (.int .i64 k)) none).run Tryz.prog w = .ok (.slice A k c) w := by
  rcases A with _ | a
  · have := h0 rfl
    subst this
    obtain rfl : k = 0 := by omega
    simp [go_sem]
  · obtain ⟨p, o, rfl⟩ := hA a rfl
    by_cases hc : c = 0
    · subst hc
      obtain rfl : k = 0 := by omega
      simp [go_sem]
    · have : ¬ c = 0 := hc
      simp [go_sem, hk, this, Addr.add]
theorem run_front2 (A : Option Addr) (n c k : Nat) (hk : k ≤ c) (hA : ∀ a, A = some a → ∃ p o, a = ⟨p, o, none⟩) (h0 : A = none → c = 0) (w : World) : (Instr.slice 22 (.slice A n c) none (some (.int .i64 k)) none).run Tryz.prog w = .ok (.slice A k c) w :=
  (run_sliceAt_slice w 22 _ _ _ _ Tryz.underlying22).symm.trans (run_front A n c k hk hA h0 w)
theorem own_shape {w : World} {base n c : Nat} {A : Option Addr} {l : List UInt8} (h : OwnB w base (.slice A n c) l) : l.length ≤ c ∧ (∀ a, A = some a → ∃ p o, a = ⟨p, o, none⟩) ∧ (A = none → c = 0) := by
  rcases h.2 with ⟨hv, h0⟩ | ⟨g, cap, cur, hv, hbg, hgg, hn, hm, hs, ht⟩
  · injection hv with e1 e2 e3
    subst e1 e3
    exact ⟨Nat.le_of_eq h0, fun a e => (by cases e), fun _ => rfl⟩
  · injection hv with e1 e2 e3
    subst e1 e3
    exact ⟨hn, fun a e => (by injection e with e; exact ⟨_, _, e.symm⟩), fun e => (by cases e)⟩
theorem str_front {w : World} {A : Option Addr} {l : List UInt8} (h : Bs w A l) (k c : Nat) (hk : k ≤ l.length) : (convert 22 9 (.slice A k c)).run Tryz.prog w = .ok (.string ⟨(l.take k).toArray⟩) w := by
  have h1 := str_of (l := l.take k) (A := A) (w := w) (fun i x hi => by
    rw [List.getElem?_take] at hi
    split at hi
    · exact h i x hi
    · cases hi) c
  rw [List.length_take, Nat.min_eq_left hk] at h1
  exact h1
theorem lies_all {all r : List UInt8} (h : liesIn all.length all r) : r = all := by
  obtain ⟨h1, h2, h3, _⟩ := h
  rw [List.take_length, List.take_of_length_le h2] at h3
  exact h3

end Go.Proofs.YtiogckgchlnldaaGreat

/- Layer 8: heavy. -/
set_option linter.unusedSimpArgs false
set_option linter.unusedVariables false
namespace Go.Proofs.YtiogckgchlnldaaGreat
open Go.RowKit
set_option maxRecDepth 100000

def bigO (o : Op8) : Bool := decide (300 < o.b.length) || decide (40 < o.nm.length) || decide (40 < o.ot.length) || decide (60 < o.kp.length)
/-- what heavy says -/
def heavyL (l : List Op8) : Bool := decide (50 < l.length) || l.any bigO
theorem bigO_no {o : Op8} (h : bigO o = false) : o.b.length ≤ 300 ∧ o.nm.length ≤ 40 ∧ o.ot.length ≤ 40 ∧ o.kp.length ≤ 60 := by
  unfold bigO at h
  simp only [Bool.or_eq_false_iff] at h
  obtain ⟨⟨⟨h1, h2⟩, h3⟩, h4⟩ := h
  have := of_decide_eq_false h1
  have := of_decide_eq_false h2
  have := of_decide_eq_false h3
  have := of_decide_eq_false h4
  omega
theorem heavyL_no {l : List Op8} (h : heavyL l = false) : l.length ≤ 50 ∧ ∀ o ∈ l, bigO o = false := by
  unfold heavyL at h
  rw [Bool.or_eq_false_iff] at h
  refine ⟨by have := of_decide_eq_false h.1; omega, fun o ho => ?_⟩
  have := List.any_eq_false.1 h.2 o ho
  cases hb : bigO o
  · rfl
  · exact absurd hb this

end Go.Proofs.YtiogckgchlnldaaGreat

/- Layer 8: walk of FsLasts. -/
set_option linter.unusedSimpArgs false
set_option linter.unusedVariables false
namespace Go.Proofs.YtiogckgchlnldaaGreat
open Go.RowKit
set_option maxRecDepth 100000

def nX : Nm := [120]
theorem one_new : One nX [] 0 (createD fd0 nX).2 := ⟨rfl, rfl, fun p hp => by have : p ∈ ([] : List (Nm × List UInt8)) := hp; simp at this, rfl, rfl, rfl, Nat.le_refl _⟩

end Go.Proofs.YtiogckgchlnldaaGreat
